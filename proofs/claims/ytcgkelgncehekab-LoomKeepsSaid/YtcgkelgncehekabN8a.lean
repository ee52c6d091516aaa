import Derived.Test.YtcgkelgncehekabE8x
import Derived.Test.YtcgkelgncehekabE8t
import Derived.Test.YtcgkelgncehekabP8o
import Derived.Test.YtcgkelgncehekabQ9e
namespace Go.Proofs.Ytcgkelgncehekab.Loo
open Go.RowKit Gf8 Aes By8 Cel Cf Win Drw Prm
/- The landed loom: a run in memory. Each of its blocks has an owner: 1 the run, 2 its ducts' row, 3 its hands' row, 4 givers, 5 takers, oH t the hand t, oD i the duct i; 0 is none of its blocks. -/

def oH (t : Nat) : Nat := 6 + 2 * t
def oD (i : Nat) : Nat := 7 + 2 * i
/-- Where a run lies. -/
structure Ad where
  rb : Nat
  dS : Value
  hS : Value
  gS : Value
  tS : Value
  dv : Nat → Value
  hn : Nat → Nat
  ops : Nat → Value
/-- What it holds. -/
structure Mm where
  pl : Nat → Nat
  rg : Nat → Int
  tk : Nat → List Int
  hd : Nat → List Int
  cl : Nat → Bool
  gv : Nat → Option Nat
  tv : Nat → Option Nat
  ms : Nat
  lt : Nat
def rC (A : Ad) (ms lt : Nat) : Array Value := #[A.dS, A.hS, A.gS, A.tS, .int .i64 ((ms : Nat) : Int), .int .i64 ((lt : Nat) : Int)]
def nC (o : Value) (pl : Nat) (rg : Int) (tv : Value) : Array Value := #[o, .int .i64 ((pl : Nat) : Int), .int .i64 rg, tv]
def pn (g : Nat) : Value := .pointer (some ⟨g, 0, none⟩)
def pv (A : Ad) : Option Nat → Value
  | none => .pointer none
  | some t => pn (A.hn t)
def hL (l : List Int) (j : Nat) : Int := l.getD j 0
/-- A row of values of one cell, in a block of its own. -/
def RowP (W : World) (P : Nat → Prop) (T : TypeId) (S : Value) (n : Nat) (f : Nat → Value) : Prop :=
  (S = .slice none 0 0 ∧ n = 0) ∨ ∃ b cap cur, S = .slice (some ⟨b, 0, none⟩) n cap ∧ P b ∧ W.heap[b]? = some (.cells cur T) ∧ n ≤ cur.size ∧ ∀ i, i < n → cur[i]? = some (f i)
section
variable {W X : World} {P Q : Nat → Prop} {T : TypeId} {S : Value} {n : Nat} {f g : Nat → Value}
theorem RowP.frame (h : RowP W P T S n f) (e : ∀ b, P b → X.heap[b]? = W.heap[b]?) (hP : ∀ b, P b → Q b) (hf : ∀ i, i < n → f i = g i) : RowP X Q T S n g := by
  rcases h with h | ⟨b, cap, cur, h1, h2, h3, h4, h5⟩
  · exact Or.inl h
  · exact Or.inr ⟨b, cap, cur, h1, hP b h2, by rw [e b h2]; exact h3, h4, fun i hi => by rw [h5 i hi, hf i hi]⟩
theorem RowP.shp (h : RowP W P T S n f) : ∃ a c, S = .slice a n c := by
  rcases h with ⟨rfl, rfl⟩ | ⟨b, cap, cur, h1, _⟩
  · exact ⟨_, _, rfl⟩
  · exact ⟨_, _, h1⟩
theorem RowP.open (h : RowP W P T S n f) {i : Nat} (hi : i < n) : ∃ b cap cur, S = .slice (some ⟨b, 0, none⟩) n cap ∧ P b ∧ W.heap[b]? = some (.cells cur T) ∧ n ≤ cur.size ∧ ∀ i, i < n → cur[i]? = some (f i) := by
  rcases h with ⟨_, rfl⟩ | h
  · omega
  · exact h
theorem RowP.at (h : RowP W P T S n f) {b cap i : Nat} (e : S = .slice (some ⟨b, 0, none⟩) n cap) (hi : i < n) : W.cell? ⟨b, i, none⟩ = some (f i) := by
  obtain ⟨b', cap', cur, h1, h2, h3, h4, h5⟩ := h.open hi
  rw [e] at h1
  injection h1 with h1
  injection h1 with h1
  injection h1 with h1
  subst h1
  rw [cell_of_row _ _ _ _ _ _ h3]
  exact h5 i hi
end
/-- A hand, with the numbers that it took. -/
def HandP (W : World) (P : Nat → Prop) (B g : Nat) (o : Value) (pl : Nat) (rg : Int) (tk : List Int) : Prop :=
  ∃ tv, P g ∧ W.heap[g]? = some (.cells (nC o pl rg tv) 68) ∧ W.ownsRow B 3 1 tv tk.length (intsL tk.length (hL tk)) ∧ (∀ b, tv.ownBlock = some b → P b) ∧ ∀ x ∈ tk, I64 x
def DuctP (W : World) (P : Nat → Prop) (v : Value) (hd : List Int) (k : Nat) (c : Bool) : Prop :=
  Duc.DRI W P v (fun j => .int .i64 (hL hd j)) hd.length k c ∧ ∀ x ∈ hd, I64 x
def Pc (p : Pl) (A : Ad) (U : World) (ow : Nat → Nat) (M : Mm) (W : World) (c : Nat) : Prop :=
  (c = 1 → ow A.rb = 1 ∧ W.heap[A.rb]? = some (.cells (rC A M.ms M.lt) 53)) ∧
  (c = 2 → RowP W (fun b => ow b = 2) 64 A.dS p.d A.dv) ∧
  (c = 3 → RowP W (fun b => ow b = 3) 54 A.hS p.n (fun t => pn (A.hn t))) ∧
  (c = 4 → RowP W (fun b => ow b = 4) 54 A.gS p.d (fun i => pv A (M.gv i))) ∧
  (c = 5 → RowP W (fun b => ow b = 5) 54 A.tS p.d (fun i => pv A (M.tv i))) ∧
  (∀ t, c = oH t → t < p.n → HandP W (fun b => ow b = oH t) U.heap.size (A.hn t) (A.ops t) (M.pl t) (M.rg t) (M.tk t)) ∧
  (∀ i, c = oD i → i < p.d → DuctP W (fun b => ow b = oD i) (A.dv i) (M.hd i) (p.cap i).toNat (M.cl i))
def MEq (c : Nat) (M N : Mm) : Prop :=
  (c = 1 → M.ms = N.ms ∧ M.lt = N.lt) ∧ (c = 4 → M.gv = N.gv) ∧ (c = 5 → M.tv = N.tv) ∧ (∀ t, c = oH t → M.pl t = N.pl t ∧ M.rg t = N.rg t ∧ M.tk t = N.tk t) ∧ (∀ i, c = oD i → M.hd i = N.hd i ∧ M.cl i = N.cl i)
section
variable {p : Pl} {A : Ad} {U W X V : World} {ow ow' ow0 : Nat → Nat} {M N : Mm} {c c0 : Nat}
theorem own_frame {B n : Nat} {v : Value} {xs : List Value} {P : Nat → Prop} {T : TypeId} {s : Nat} (h : W.ownsRow B T s v n xs) (hP : ∀ b, v.ownBlock = some b → P b) (e : ∀ b, P b → X.heap[b]? = W.heap[b]?) : X.ownsRow B T s v n xs := by
  refine ⟨h.1, ?_⟩
  rcases h.2 with h2 | ⟨g, cap, cur, rfl, h3, h4, h5⟩
  · exact Or.inl h2
  · exact Or.inr ⟨g, cap, cur, rfl, h3, by rw [e g (hP g rfl)]; exact h4, h5⟩
theorem HandP.frame {P Q : Nat → Prop} {B g pl : Nat} {o : Value} {rg : Int} {tk : List Int} (h : HandP W P B g o pl rg tk) (e : ∀ b, P b → X.heap[b]? = W.heap[b]?) (hP : ∀ b, P b → Q b) : HandP X Q B g o pl rg tk := by
  obtain ⟨tv, h1, h2, h3, h4, h5⟩ := h
  exact ⟨tv, hP _ h1, by rw [e g h1]; exact h2, own_frame h3 h4 e, fun b hb => hP b (h4 b hb), h5⟩
theorem Pc.frame (h : Pc p A U ow M W c) (e : ∀ b, ow b = c → X.heap[b]? = W.heap[b]?) (hs : W.heap.size ≤ X.heap.size) (eo : ∀ b, ow' b = c ↔ ow b = c) (m : MEq c M N) : Pc p A U ow' N X c := by
  have eP : (fun b => ow' b = c) = (fun b => ow b = c) := funext fun b => propext (eo b)
  obtain ⟨h1, h2, h3, h4, h5, h6, h7⟩ := h
  obtain ⟨m1, m4, m5, m6, m7⟩ := m
  refine ⟨fun z => ?_, fun z => ?_, fun z => ?_, fun z => ?_, fun z => ?_, fun t z ht => ?_, fun i z hi => ?_⟩
  · obtain ⟨q1, q2⟩ := h1 z
    subst z
    refine ⟨(eo _).2 q1, ?_⟩
    rw [e _ q1, q2, (m1 rfl).1, (m1 rfl).2]
  · subst z
    rw [eP]
    exact (h2 rfl).frame e (fun _ hb => hb) (fun _ _ => rfl)
  · subst z
    rw [eP]
    exact (h3 rfl).frame e (fun _ hb => hb) (fun _ _ => rfl)
  · subst z
    rw [eP]
    exact (h4 rfl).frame e (fun _ hb => hb) (fun i _ => by rw [m4 rfl])
  · subst z
    rw [eP]
    exact (h5 rfl).frame e (fun _ hb => hb) (fun i _ => by rw [m5 rfl])
  · subst z
    rw [eP, ← (m6 t rfl).1, ← (m6 t rfl).2.1, ← (m6 t rfl).2.2]
    exact (h6 t rfl ht).frame e (fun _ hb => hb)
  · subst z
    rw [eP, ← (m7 i rfl).1, ← (m7 i rfl).2]
    exact ⟨(h7 i rfl hi).1.frame e hs, (h7 i rfl hi).2⟩
theorem MEq.refl : MEq c M M := ⟨fun _ => ⟨rfl, rfl⟩, fun _ => rfl, fun _ => rfl, fun _ _ => ⟨rfl, rfl, rfl⟩, fun _ _ => ⟨rfl, rfl⟩⟩
theorem Pc.zero : Pc p A U ow M W 0 := ⟨fun z => by omega, fun z => by omega, fun z => by omega, fun z => by omega, fun z => by omega, fun t z => by unfold oH at z; omega, fun i z => by unfold oD at z; omega⟩
structure Fit (p : Pl) (M : Mm) : Prop where
  pl : ∀ t, t < p.n → M.pl t ≤ p.ln t
  rg : ∀ t, t < p.n → I64 (M.rg t)
  tk : ∀ t, t < p.n → (M.tk t).length ≤ 1000000
  lt : M.lt ≤ 1000000
  ms : M.ms ≤ 1000000
/-- A run in memory. -/
structure RN (p : Pl) (A : Ad) (U : World) (ow : Nat → Nat) (M : Mm) (W : World) : Prop where
  pc : ∀ c, Pc p A U ow M W c
  bel : Below U.heap.size U W
  ge : ∀ b, ow b ≠ 0 → U.heap.size ≤ b ∧ b < W.heap.size
  ops : ∀ t, t < p.n → SliceO U (A.ops t) (p.ln t) (p.op t)
  ok : Okp p
  fit : Fit p M
theorem RN.no (h : RN p A U ow M W) {b : Nat} (hb : W.heap.size ≤ b) : ow b = 0 := by
  by_cases e : ow b = 0
  · exact e
  · have := (h.ge b e).2; omega
theorem RN.on (h : RN p A U ow M W) (hb : Below W.heap.size W X) : RN p A U ow M X := by
  refine ⟨fun c => ?_, h.bel.trans (hb.mono h.bel.size), fun b q => ⟨(h.ge b q).1, Nat.lt_of_lt_of_le (h.ge b q).2 hb.size⟩, h.ops, h.ok, h.fit⟩
  by_cases z : c = 0
  · rw [z]; exact Pc.zero
  · exact (h.pc c).frame (fun b q => hb.block b (h.ge b (by omega)).2) hb.size (fun b => Iff.rfl) MEq.refl
theorem RN.upd (h : RN p A U ow M W) (sv : Saved (fun b => ow b = c0) W X) (hc : c0 ≠ 0) (ext : ∀ b, b < W.heap.size → ow' b = ow b) (new : ∀ b, W.heap.size ≤ b → ow' b ≠ 0 → ow' b = c0 ∧ b < X.heap.size) (m : ∀ c, c ≠ c0 → MEq c M N) (pc : Pc p A U ow' N X c0) (ft : Fit p N) : RN p A U ow' N X := by
  refine ⟨fun c => ?_, ⟨sv.os.trans h.bel.os, sv.tape.trans h.bel.tape, sv.output.trans h.bel.output, Nat.le_trans h.bel.size sv.size, fun b hb => ?_⟩, fun b q => ?_, h.ops, h.ok, ft⟩
  · by_cases z : c = 0
    · rw [z]; exact Pc.zero
    by_cases z2 : c = c0
    · rw [z2]; exact pc
    refine (h.pc c).frame (fun b q => sv.block b (h.ge b (by omega)).2 (fun w => z2 (q.symm.trans w))) sv.size (fun b => ?_) (m c z2)
    by_cases hb : b < W.heap.size
    · rw [ext b hb]
    · have e1 := h.no (b := b) (by omega)
      constructor
      · intro q
        have := new b (by omega) (by omega)
        omega
      · intro q; omega
  · rw [sv.block b (Nat.lt_of_lt_of_le hb h.bel.size) (fun w => ?_), h.bel.block b hb]
    have := (h.ge b (by omega)).1
    omega
  · by_cases hb : b < W.heap.size
    · rw [ext b hb] at q
      exact ⟨(h.ge b q).1, Nat.lt_of_lt_of_le (h.ge b q).2 sv.size⟩
    · exact ⟨Nat.le_trans h.bel.size (by omega), (new b (by omega) q).2⟩
/-- A function on its way: it began at V, with the owners ow0. -/
structure St (p : Pl) (A : Ad) (U : World) (ow0 : Nat → Nat) (V : World) (ow : Nat → Nat) (M : Mm) (W : World) : Prop where
  rn : RN p A U ow M W
  sv : Saved (fun b => ow0 b ≠ 0) V W
  sub : ∀ b, ow b ≠ 0 → ow0 b ≠ 0 ∨ V.heap.size ≤ b
theorem RN.st (h : RN p A U ow M W) : St p A U ow W ow M W := ⟨h, Saved.refl _ _, fun _ q => Or.inl q⟩
theorem St.on (h : St p A U ow0 V ow M W) (hb : Below W.heap.size W X) : St p A U ow0 V ow M X := ⟨h.rn.on hb, h.sv.below hb h.sv.size, h.sub⟩
theorem St.upd (h : St p A U ow0 V ow M W) (sv : Saved (fun b => ow b = c0) W X) (hc : c0 ≠ 0) (ext : ∀ b, b < W.heap.size → ow' b = ow b) (new : ∀ b, W.heap.size ≤ b → ow' b ≠ 0 → ow' b = c0 ∧ b < X.heap.size) (m : ∀ c, c ≠ c0 → MEq c M N) (pc : Pc p A U ow' N X c0) (ft : Fit p N) : St p A U ow0 V ow' N X := by
  refine ⟨h.rn.upd sv hc ext new m pc ft, ⟨sv.os.trans h.sv.os, sv.tape.trans h.sv.tape, sv.output.trans h.sv.output, Nat.le_trans h.sv.size sv.size, fun b hb hn => ?_⟩, fun b q => ?_⟩
  · rw [sv.block b (Nat.lt_of_lt_of_le hb h.sv.size) (fun w => ?_), h.sv.block b hb hn]
    rcases h.sub b (by omega) with z | z
    · exact hn z
    · omega
  · by_cases hb : b < W.heap.size
    · rw [ext b hb] at q; exact h.sub b q
    · exact Or.inr (by have := h.sv.size; omega)
/-- What a function that changes the run leaves. -/
def To (p : Pl) (A : Ad) (U : World) (ow0 : Nat → Nat) (V : World) (M : Mm) (W : World) : Prop := ∃ ow, St p A U ow0 V ow M W
theorem St.to (h : St p A U ow0 V ow M W) : To p A U ow0 V M W := ⟨ow, h⟩
theorem St.then_ (h : St p A U ow0 V ow M W) (g : St p A U ow W ow' N X) : St p A U ow0 V ow' N X := by
  refine ⟨g.rn, ⟨g.sv.os.trans h.sv.os, g.sv.tape.trans h.sv.tape, g.sv.output.trans h.sv.output, Nat.le_trans h.sv.size g.sv.size, fun b hb hn => ?_⟩, fun b q => ?_⟩
  · rw [g.sv.block b (Nat.lt_of_lt_of_le hb h.sv.size) (fun w => ?_), h.sv.block b hb hn]
    rcases h.sub b w with z | z
    · exact hn z
    · omega
  · rcases g.sub b q with z | z
    · exact h.sub b z
    · exact Or.inr (by have := h.sv.size; omega)
/-- A block that is none of the run's outlives what changes the run. -/
theorem St.local (g : St p A U ow W ow' N X) {b : Nat} {o : Obj} (hb : W.heap[b]? = some o) (ho : ow b = 0) : X.heap[b]? = some o ∧ ow' b = 0 := by
  have hl := (Array.getElem?_eq_some_iff.1 hb).1
  refine ⟨by rw [g.sv.block b hl (fun w => w ho)]; exact hb, ?_⟩
  by_cases e : ow' b = 0
  · exact e
  · rcases g.sub b e with z | z
    · exact absurd ho z
    · omega
end
end Go.Proofs.Ytcgkelgncehekab.Loo
