import Derived.Test.YtcffmmeafnapiaaDoorRows
import Derived.ProofKit
import Derived.OpenShut
import Derived.WideKeyPair
import Derived.Test.YtcffmmeafnapiaaDoorK5
import Derived.WalkKit
import Derived.WalkSpells
import Derived.Deep.QuietTactic
import Derived.Deep.WholeRow
import Derived.BigQuiet
import Derived.Test.YtcffmmeafnapiaaDoorL2
import Derived.Laws.AppendOwnNone
import Derived.Laws.BytesArg
namespace Go.Proofs.YtcffmmeafnapiaaDoor
open Go.ChangeShapes Go.WideShapes Go.ChangeAt Go.RowKit
/- An array of n bytes as an argument: opened, and shut again. -/

theorem wfB {z : Int} : (Lit.int .u8 z).wf = true ↔ 0 ≤ z ∧ z < 256 := by
  have a : IntKind.u8.min = 0 := rfl
  have b : IntKind.u8.max = 255 := rfl
  simp [Lit.wf]
  omega
def bytesL (n : Nat) (f : Nat → Nat) : List Value := (List.range n).map fun i => .int .u8 (f i)
theorem bytesL_len (n : Nat) (f : Nat → Nat) : (bytesL n f).length = n := by simp [bytesL]
theorem bytesL_at (n : Nat) (f : Nat → Nat) {i : Nat} (h : i < n) : (bytesL n f)[i]? = some (.int .u8 (f i)) := by
  simp [bytesL, h]
theorem mapM_back {α β : Type} {g : α → Option β} {h : α → β} : ∀ (L : List α) (ys : List β), L.mapM g = some ys → (∀ i, i ∈ L → ∀ y, g i = some y → y = h i) → ys = L.map h ∧ ∀ i, i ∈ L → g i = some (h i)
  | [], ys, e, _ => by
    simp at e
    subst e
    exact ⟨rfl, fun i hi => by simp at hi⟩
  | x :: L, ys, e, H => by
    rw [List.mapM_cons] at e
    simp only [bind, Option.bind_eq_some_iff, pure, Option.some.injEq] at e
    obtain ⟨y, hy, zs, hz, rfl⟩ := e
    obtain ⟨r1, r2⟩ := mapM_back L zs hz fun i hi => H i (List.mem_cons_of_mem _ hi)
    have hx := H x List.mem_cons_self y hy
    subst hx
    refine ⟨by rw [r1]; rfl, fun i hi => ?_⟩
    rcases List.mem_cons.1 hi with rfl | hi
    · exact hy
    · exact r2 i hi
section
variable {H : Type} {enc : TypeId × Value → H} {P : Program} {k e : TypeId} {n : Nat} {W : World} {base : Nat} {sp : Nat → Bool} {held : Bool}
theorem one_at (cs : List Value) {i : Nat} {v : Value} (h : (cs.drop (i * 1)).take 1 = [v]) : cs[i]? = some v := by
  rw [Nat.mul_one] at h
  have h2 : ((cs.drop i).take 1)[0]? = some v := by rw [h]; rfl
  simpa using h2
end
end Go.Proofs.YtcffmmeafnapiaaDoor

namespace Go.Proofs.YtcffmmeafnapiaaDoor
open Go.RowKit

/-- The operations that fill a slot, and the slot. -/
def dsOf (ops : Array Oper) : List (Nat × Nat) := (List.range ops.size).filterMap fun j => (ops[j]?.bind (·.dst)).map fun d => (j, d)
theorem mem_dsOf {ops : Array Oper} {j d : Nat} : (j, d) ∈ dsOf ops ↔ ∃ o, ops[j]? = some o ∧ o.dst = some d := by
  unfold dsOf
  rw [List.mem_filterMap]
  constructor
  · rintro ⟨i, _, h⟩
    cases ho : ops[i]? with
    | none => rw [ho] at h; simp at h
    | some o =>
      rw [ho] at h
      simp only [Option.bind_some, Option.map_eq_some_iff, Prod.mk.injEq] at h
      obtain ⟨d', hd, rfl, rfl⟩ := h
      exact ⟨o, ho, hd⟩
  · rintro ⟨o, ho, hd⟩
    exact ⟨j, List.mem_range.2 (Array.getElem?_eq_some_iff.1 ho).1, by rw [ho]; simp [hd]⟩
def putP (a : Act) (vals : Nat → Value) : List (Nat × Nat) → Act
  | [] => a
  | p :: ds => putP (a.put (some p.2) (vals p.1)) vals ds
def updB (l : Nat → Bool) (j : Nat) : Nat → Bool := fun i => if i = j then true else l i
theorem putP_size (vals : Nat → Value) : ∀ (ds : List (Nat × Nat)) (a : Act), (putP a vals ds).tmps.size = a.tmps.size
  | [], _ => rfl
  | p :: ds, a => by simp only [putP]; rw [putP_size vals ds, put_size]
theorem putP_defers (vals : Nat → Value) : ∀ (ds : List (Nat × Nat)) (a : Act), (putP a vals ds).defers = a.defers
  | [], _ => rfl
  | p :: ds, a => by simp only [putP]; rw [putP_defers vals ds]; rfl
theorem putP_other (vals : Nat → Value) {e : Nat} : ∀ (ds : List (Nat × Nat)) (a : Act), e ∉ ds.map (·.2) → (putP a vals ds).eval (.tmp e) = a.eval (.tmp e)
  | [], _, _ => rfl
  | p :: ds, a, h => by
    simp only [List.map_cons, List.mem_cons, not_or] at h
    simp only [putP]
    rw [putP_other vals ds _ h.2, put_other _ _ (fun q => h.1 q.symm)]
theorem putP_same (vals : Nat → Value) : ∀ (ds : List (Nat × Nat)) (a : Act), (ds.map (·.2)).Nodup → (∀ p ∈ ds, p.2 < a.tmps.size) → ∀ p, p ∈ ds → (putP a vals ds).eval (.tmp p.2) = vals p.1
  | [], _, _, _, p, hp => by simp at hp
  | q :: ds, a, hn, hs, p, hp => by
    simp only [List.map_cons, List.nodup_cons] at hn
    simp only [putP]
    rcases List.mem_cons.1 hp with rfl | hp
    · rw [putP_other vals ds _ hn.1, put_same _ _ (hs p List.mem_cons_self)]
    · exact putP_same vals ds _ hn.2 (fun r hr => by rw [put_size]; exact hs r (List.mem_cons_of_mem _ hr)) p hp
theorem act_ext {a b : Act} (hs : a.tmps.size = b.tmps.size) (hd : a.defers = b.defers) (h : ∀ e, a.eval (.tmp e) = b.eval (.tmp e)) : a = b := by
  obtain ⟨at', ad⟩ := a
  obtain ⟨bt, bd⟩ := b
  simp only at hs hd
  subst hd
  congr 1
  apply Array.ext hs
  intro i h1 h2
  have := h i
  simp only [Act.eval, Array.getD_eq_getD_getElem?, Array.getElem?_eq_getElem h1, Array.getElem?_eq_getElem h2, Option.getD_some] at this
  exact this

theorem inj2 : ∀ (L : List (Nat × Nat)), (L.map (·.2)).Nodup → ∀ x y z, (x, z) ∈ L → (y, z) ∈ L → x = y := by
  intro L
  induction L with
  | nil => intro _ x y z hx; simp at hx
  | cons p L ih =>
    intro hn x y z hx hy
    simp only [List.map_cons, List.nodup_cons] at hn
    rcases List.mem_cons.1 hx with h1 | h1 <;> rcases List.mem_cons.1 hy with h2 | h2
    · exact congrArg Prod.fst (h1.trans h2.symm)
    · subst h1; exact absurd (List.mem_map.2 ⟨(y, z), h2, rfl⟩) hn.1
    · subst h2; exact absurd (List.mem_map.2 ⟨(x, z), h1, rfl⟩) hn.1
    · exact ih hn.2 x y z h1 h2
/-- A REGION IN WHATEVER ORDER, WHERE EACH OPERATION YIELDS ONE KNOWN VALUE: the world by what has come up. -/
theorem wp_region_det {P : Program} {ops : Array Oper} {Q : Exit → Act → World → Prop} {id : Nat} {a0 : Act} {V : World} (N : Nat) (ds : List (Nat × Nat)) (vals : Nat → Value) (T : (Nat → Bool) → World → Prop)
    (hm : P.follows .mixedOrders = true) (hf : frontB .any ops = true) (hN : a0.tmps.size = N) (hD : dsOf ops = ds) (hnd : (ds.map (·.2)).Nodup) (hds : ds.all (fun p => decide (p.2 < N)) = true)
    (h0 : T (fun _ => false) V.drew)
    (step : ∀ j, j < ops.size → ∀ l a w, l j = false → (∀ e, e ∉ ds.map (·.2) → a.eval (.tmp e) = a0.eval (.tmp e)) → (∀ o, ops[j]? = some o → ∀ i, waits o i = true → ∀ q, ops[i]? = some q → ∀ d, q.dst = some d → a.eval (.tmp d) = vals i) →
      (∀ o, ops[j]? = some o → ∀ i, waits o i = true → l i = true) → (∀ i q, ops[i]? = some q → l i = true → ∀ m, waits q m = true → l m = true) → (∀ i q, ops[i]? = some q → ∀ d, q.dst = some d → l i = false → a.eval (.tmp d) = a0.eval (.tmp d)) → T l w → wpOp P ops Q j (fun a' w' => (∃ o, ops[j]? = some o ∧ a' = a.put o.dst (vals j)) ∧ T (updB l j) w') a w)
    (fin : ∀ l w, (∀ j, j < ops.size → l j = true) → T l w → Q .normal (putP a0 vals ds) w) : (Code.region id ops true).wp P Q a0 V := by
  subst hD
  have hds' : ∀ p ∈ dsOf ops, p.2 < N := fun p hp => by simpa using List.all_eq_true.1 hds p hp
  refine wp_region_inv (fun listed a w => listed.size = ops.size ∧ DC .any ops listed ∧ a.tmps.size = N ∧ a.defers = a0.defers ∧ (∀ e, e ∉ (dsOf ops).map (·.2) → a.eval (.tmp e) = a0.eval (.tmp e)) ∧
    (∀ p, p ∈ dsOf ops → listed.getD p.1 false = true → a.eval (.tmp p.2) = vals p.1) ∧ (∀ p, p ∈ dsOf ops → listed.getD p.1 false = false → a.eval (.tmp p.2) = a0.eval (.tmp p.2)) ∧ T (fun i => listed.getD i false) w) hm hf ?_ (fun _ _ _ h => h.1) ?_ ?_
  · refine ⟨by simp, ?_, hN, rfl, fun _ _ => rfl, ?_, fun _ _ _ => rfl, ?_⟩
    · intro j o ho hl
      have hj : j < ops.size := (Array.getElem?_eq_some_iff.1 ho).1
      simp [hj] at hl
    · rintro ⟨j, d⟩ hp hl
      obtain ⟨o, ho, _⟩ := mem_dsOf.1 hp
      have hj : j < ops.size := (Array.getElem?_eq_some_iff.1 ho).1
      simp [hj] at hl
    · have e : (fun i => (Array.replicate ops.size false).getD i false) = fun _ => false := by
        funext i
        by_cases hi : i < ops.size <;> simp [hi]
      rw [e]
      exact h0
  · rintro listed a w ⟨hs, hdc, ha, had, hfr, hv, hno, hT⟩ j o ho hun hdep
    have hj : j < ops.size := (Array.getElem?_eq_some_iff.1 ho).1
    have hun' : listed.getD j false = false := by
      have hl : j < listed.size := by omega
      simp [hl] at hun ⊢
      exact hun
    have hdc' : DC .any ops (listed.setIfInBounds j true) := by
      intro i oi hoi hl e he hb
      by_cases eij : i = j
      · subst eij
        rw [ho] at hoi
        cases hoi
        have := hdep e he hb
        by_cases ee : i = e.on
        · rw [← ee]; simp [hs, hj]
        · rw [getD_set_ne false ee]; exact this
      · rw [getD_set_ne false (fun x => eij x.symm)] at hl
        have := hdc i oi hoi hl e he hb
        by_cases ee : j = e.on
        · rw [← ee]; simp [hs, hj]
        · rw [getD_set_ne false ee]; exact this
    have hcl : ∀ i q, ops[i]? = some q → listed.getD i false = true → ∀ m, waits q m = true → listed.getD m false = true := by
      intro i q hq hli m hm
      unfold waits at hm
      rw [List.any_eq_true] at hm
      obtain ⟨e, he, hh⟩ := hm
      simp only [Bool.and_eq_true, beq_iff_eq] at hh
      rw [← hh.2]
      exact hdc i q hq hli e (by simpa using he) hh.1
    have hw : ∀ i, waits o i = true → listed.getD i false = true := by
      intro i hi
      unfold waits at hi
      rw [List.any_eq_true] at hi
      obtain ⟨e, he, hh⟩ := hi
      simp only [Bool.and_eq_true, beq_iff_eq] at hh
      rw [← hh.2]
      exact hdep e (by simpa using he) hh.1
    refine wpOp_mono ?_ (step j hj _ a w hun' hfr (fun o' ho' i hi q hq d hd => hv (i, d) (mem_dsOf.2 ⟨q, hq, hd⟩) (hw i (by rw [ho] at ho'; cases ho'; exact hi))) (fun o' ho' i hi => hw i (by rw [ho] at ho'; cases ho'; exact hi)) hcl (fun i q hq d hd hli => hno (i, d) (mem_dsOf.2 ⟨q, hq, hd⟩) hli) hT)
    rintro a' w' ⟨⟨o', ho', rfl⟩, hT'⟩
    rw [ho] at ho'
    cases ho'
    refine ⟨by simpa using hs, hdc', by rw [put_size]; exact ha, ?_, ?_, ?_, ?_, ?_⟩
    · rw [← had]; cases o.dst <;> rfl
    · intro e he
      cases hd : o.dst with
      | none => exact hfr e he
      | some d =>
        rw [put_other _ _ (fun q => he (by rw [← q]; exact List.mem_map.2 ⟨(j, d), mem_dsOf.2 ⟨o, ho, hd⟩, rfl⟩))]
        exact hfr e he
    · rintro ⟨i, d⟩ hp hl
      by_cases e : i = j
      · subst e
        obtain ⟨o', ho', hd⟩ := mem_dsOf.1 hp
        rw [ho] at ho'
        cases ho'
        rw [hd, put_same _ _ (by rw [ha]; exact hds' _ hp)]
      · rw [getD_set_ne false (fun y => e y.symm)] at hl
        have hq := hv (i, d) hp hl
        cases hd : o.dst with
        | none => exact hq
        | some d' =>
          have hne : d' ≠ d := by
            intro q
            subst q
            have hp2 : (j, d') ∈ dsOf ops := mem_dsOf.2 ⟨o, ho, hd⟩
            exact e (inj2 _ hnd i j d' hp hp2)
          rw [put_other _ _ hne]
          exact hq
    · rintro ⟨i, d⟩ hp hl
      have e : i ≠ j := by
        intro e
        subst e
        have hli : i < listed.size := by omega
        simp [hli] at hl
      rw [getD_set_ne false (fun y => e y.symm)] at hl
      have hq := hno (i, d) hp hl
      cases hd : o.dst with
      | none => exact hq
      | some d' =>
        have hne : d' ≠ d := by
          intro q
          subst q
          have hp2 : (j, d') ∈ dsOf ops := mem_dsOf.2 ⟨o, ho, hd⟩
          exact e (inj2 _ hnd i j d' hp hp2)
        rw [put_other _ _ hne]
        exact hq
    · have e : (fun i => (listed.setIfInBounds j true).getD i false) = updB (fun i => listed.getD i false) j := by
        funext i
        unfold updB
        by_cases hij : i = j
        · subst hij
          rw [if_pos rfl]
          have hl : i < listed.size := by omega
          simp [hl]
        · rw [if_neg hij, getD_set_ne false (fun y => hij y.symm)]
      rw [e]
      exact hT'
  · rintro listed a w ⟨hs, _, ha, had, hfr, hv, _, hT⟩ hall
    have hall' : ∀ j, j < ops.size → listed.getD j false = true := fun j hj => by
      have hl : j < listed.size := by omega
      have := hall j hj
      simp [hl] at this ⊢
      exact this
    have ea : a = putP a0 vals (dsOf ops) := by
      refine act_ext (by rw [putP_size, ha, hN]) (by rw [putP_defers, had]) fun e => ?_
      by_cases he : e ∈ (dsOf ops).map (·.2)
      · obtain ⟨p, hp, rfl⟩ := List.mem_map.1 he
        obtain ⟨o, ho, _⟩ := mem_dsOf.1 (show (p.1, p.2) ∈ dsOf ops from hp)
        rw [hv p hp (hall' _ (Array.getElem?_eq_some_iff.1 ho).1), putP_same vals _ a0 hnd (fun q hq => by rw [hN]; exact hds' q hq) p hp]
      · rw [hfr e he, putP_other vals _ _ he]
    rw [ea]
    exact fin _ w hall' hT
theorem stepS {P : Program} {ops : Array Oper} {Q : Exit → Act → World → Prop} {j : Nat} {o : Oper} {a : Act} {w w' : World} {K : Act → World → Prop} (ho : ops[j]? = some o) (hw : Region.wanted o (yielded ops a.tmps) = true) (hv : (execOp a.eval o).run P w = .ok .skip w') (hK : K (a.put o.dst undef) w') : wpOp P ops Q j K a w := by
  unfold wpOp
  rw [ho]
  simp only [hw, if_true]
  left
  unfold Oper.wp
  rw [hv]
  exact hK
end Go.Proofs.YtcffmmeafnapiaaDoor

namespace Go.Proofs.YtcffmmeafnapiaaDoor.Gf8
open Go.RowKit
/- Rows of bytes, ints and bytes in the walk: of types it names bytes and ints alone. -/

theorem belowD {B : Nat} {a w : World} (h : Below B a w) (n : Nat) : Below B a (w.drewN n) := ⟨h.os, h.tape, h.output, h.size, h.block⟩
/-- A column of which the first k bytes are laid. -/
def uptoC (g : Nat → Nat) (k : Nat) : Nat → Nat := fun i => if i < k then g i else 0
theorem atLoad {P : Program} {ops : Array Oper} {rest : List Oper} {o : Oper} {a : Act} {w : World} {Q : Exit → Act → World → Prop} (ty : TypeId) (x : Operand) (_ : o.op = .load ty x) (h : wpList P ops Q (o :: rest) a w) : wpList P ops Q (o :: rest) a w := h
theorem atStore {P : Program} {ops : Array Oper} {rest : List Oper} {o : Oper} {a : Act} {w : World} {Q : Exit → Act → World → Prop} (ty : TypeId) (x y : Operand) (_ : o.op = .store ty x y) (h : wpList P ops Q (o :: rest) a w) : wpList P ops Q (o :: rest) a w := h
theorem frozen4 {W : World} {b o : Nat} {c : Array Value} {t : TypeId} (h : W.heap[b]? = some (.cells c t)) : W.frozen? ⟨b, o, none⟩ = false := by simp [World.frozen?, h]
theorem below4 {B : Nat} {a w : World} (h : Below B a w) {g : Nat} (hg : B ≤ g) (c : Array Value) : Below B a (w.setRow g c) :=
  h.trans ⟨rfl, rfl, rfl, by simp, fun k hk => setRow_other w g k c (by omega)⟩
theorem heap4 {W : World} {b k : Nat} {c : Array Value} {t : TypeId} (v : Value) (h : W.heap[b]? = some (.cells c t)) : (W.setCell ⟨b, k, none⟩ v).heap[b]? = some (.cells (c.setIfInBounds k v) t) := by
  rw [setCell_eq_setRow W b k c t _ v h]; exact setRow_heap _ _ _ _ _ _ h
theorem heap4o {W : World} {b k i : Nat} {c : Array Value} {t : TypeId} (v : Value) (h : W.heap[b]? = some (.cells c t)) (hi : i ≠ b) : (W.setCell ⟨b, k, none⟩ v).heap[i]? = W.heap[i]? := by
  rw [setCell_eq_setRow W b k c t _ v h]; exact setRow_other _ _ _ _ (by omega)
theorem heap3c (w : World) (A B C : Obj) : (((w.alloc A).alloc B).alloc C).heap[w.heap.size]? = some A ∧ (((w.alloc A).alloc B).alloc C).heap[w.heap.size + 1]? = some B ∧ (((w.alloc A).alloc B).alloc C).heap[w.heap.size + 2]? = some C := by
  have hs : ∀ (v : World) (o : Obj), (v.alloc o).heap = v.heap.push o := fun _ _ => rfl
  simp only [hs, Array.getElem?_push, Array.size_push]
  refine ⟨?_, ?_, ?_⟩
  · rw [if_neg (by omega), if_neg (by omega), if_pos trivial]
  · rw [if_neg (by omega), if_pos trivial]
  · rw [if_pos trivial]
theorem below3c (w : World) (A B C : Obj) : Below w.heap.size w (((w.alloc A).alloc B).alloc C) :=
  (((Below.refl _ _).alloc (Nat.le_refl _) _).alloc (by simp) _).alloc (by simp; omega) _
end Go.Proofs.YtcffmmeafnapiaaDoor.Gf8
namespace Go.Proofs.YtcffmmeafnapiaaDoor.Aes
open Go.RowKit Gf8

def bA (n : Nat) (f : Nat → Nat) : Array Value := (bytesL n f).toArray
theorem bA_size (n : Nat) (f : Nat → Nat) : (bA n f).size = n := by simp [bA, bytesL_len]
theorem bA_at (n : Nat) (f : Nat → Nat) {i : Nat} (h : i < n) : (bA n f)[i]? = some (.int .u8 (f i)) := by
  rw [bA, List.getElem?_toArray]; exact bytesL_at n f h
theorem bA_one (n : Nat) (f : Nat → Nat) : (bA n f).all Value.oneCell' = true := by simp [bA, bytesL, Value.oneCell']
theorem bA_congr {n : Nat} {f g : Nat → Nat} (h : ∀ i, i < n → f i = g i) : bA n f = bA n g := by
  unfold bA bytesL
  congr 1
  apply List.map_congr_left
  intro i hi
  rw [h i (List.mem_range.1 hi)]
def updN (f : Nat → Nat) (k v : Nat) : Nat → Nat := fun i => if i = k then v else f i
theorem bA_set (n : Nat) (f : Nat → Nat) (k v : Nat) : (bA n f).setIfInBounds k (.int .u8 v) = bA n (updN f k v) := by
  apply Array.ext_getElem?
  intro i
  rw [Array.getElem?_setIfInBounds]
  by_cases hi : i < n
  · rw [bA_at n _ hi, bA_at n _ hi, bA_size]
    unfold updN
    by_cases h : k = i
    · subst h; rw [if_pos rfl, if_pos hi, if_pos rfl]
    · rw [if_neg h, if_neg (fun e => h e.symm)]
  · rw [Array.getElem?_eq_none (by rw [bA_size]; omega), Array.getElem?_eq_none (by rw [bA_size]; omega)]
    by_cases h : k = i
    · rw [if_pos h, if_neg (by rw [bA_size]; omega)]
    · rw [if_neg h]
theorem updN_upto (g : Nat → Nat) (k : Nat) : updN (uptoC g k) k (g k) = uptoC g (k + 1) := by
  funext i
  simp only [updN, uptoC]
  by_cases h : i = k
  · subst h; simp
  · by_cases h2 : i < k
    · simp [h, h2, show i < k + 1 by omega]
    · simp [h, h2, show ¬ i < k + 1 by omega]
/-- A block of which the first k places are new. -/
def mixU (g f : Nat → Nat) (k : Nat) : Nat → Nat := fun i => if i < k then g i else f i
theorem updN_mixU (g f : Nat → Nat) (k : Nat) : updN (mixU g f k) k (g k) = mixU g f (k + 1) := by
  funext i
  simp only [updN, mixU]
  by_cases h : i = k
  · subst h; simp
  · by_cases h2 : i < k
    · simp [h, h2, show i < k + 1 by omega]
    · simp [h, h2, show ¬ i < k + 1 by omega]
theorem cellN {W : World} {b k n : Nat} {f : Nat → Nat} {t : TypeId} (h : W.heap[b]? = some (.cells (bA n f) t)) (hk : k < n) : W.cell? ⟨b, k, none⟩ = some (.int .u8 (f k)) := by
  rw [cell_of_row _ _ _ _ _ _ h]; exact bA_at n f hk
theorem heapNew (W : World) (o : Obj) : (W.alloc o).heap[W.heap.size]? = some o := by show (W.heap.push _)[W.heap.size]? = _; rw [Array.getElem?_push_size]
theorem belNew (W : World) (o : Obj) : Below W.heap.size W (W.alloc o) := (Below.refl _ _).alloc (Nat.le_refl _) _
theorem heap2c (w : World) (A B : Obj) : ((w.alloc A).alloc B).heap[w.heap.size]? = some A ∧ ((w.alloc A).alloc B).heap[w.heap.size + 1]? = some B := by
  have hs : ∀ (v : World) (o : Obj), (v.alloc o).heap = v.heap.push o := fun _ _ => rfl
  simp only [hs, Array.getElem?_push, Array.size_push]
  exact ⟨by rw [if_neg (by omega), if_pos trivial], by rw [if_pos trivial]⟩
theorem below2c (w : World) (A B : Obj) : Below w.heap.size w ((w.alloc A).alloc B) := ((Below.refl _ _).alloc (Nat.le_refl _) _).alloc (by simp) _
section
variable {o : Oper} {a : Act} {w : World}
theorem execLdB {x : Operand} {b f : Nat} {v : Value} (ho : o.op = .load 5 x) (hx : a.eval x = .pointer (some ⟨b, f, none⟩)) (hc : w.cell? ⟨b, f, none⟩ = some v) : (execOp a.eval o).run Tryd.prog w = .ok (.value v) w := by
  unfold execOp
  simp only [ho, hx]
  simp [go_sem, hc]
theorem execStB {x y : Operand} {b f : Nat} {v : Int} {u : Value} (ho : o.op = .store 5 x y) (hx : a.eval x = .pointer (some ⟨b, f, none⟩)) (hy : a.eval y = .int .u8 v) (hc : w.cell? ⟨b, f, none⟩ = some u) (hz : w.frozen? ⟨b, f, none⟩ = false) : (execOp a.eval o).run Tryd.prog w = .ok .skip (w.setCell ⟨b, f, none⟩ (.int .u8 v)) := by
  unfold execOp
  simp only [ho, hx, hy]
  simp [go_sem, hc, hz]
theorem execMvB {P : Program} {x : Operand} {v : Value} (ho : o.op = .move x) (hx : a.eval x = v) : (execOp a.eval o).run P w = .ok (.value v) w := by
  rw [← hx]; exact execMove ho
theorem execXor5 {x y : Operand} {p q : Nat} (ho : o.op = .binOp .xor 5 x y 5) (hx : a.eval x = .int .u8 p) (hy : a.eval y = .int .u8 q) (hp : p < 256) (hq : q < 256) : (execOp a.eval o).run Tryd.prog w = .ok (.value (.int .u8 (p ^^^ q : Nat))) w := by
  have e := xor_u8 hp hq
  unfold execOp
  simp only [ho, hx, hy]
  simp [go_sem, e]
theorem execAddI {x y : Operand} {p q : Nat} (ho : o.op = .binOp .add 3 x y 3) (hx : a.eval x = .int .i64 p) (hy : a.eval y = .int .i64 q) (h : p + q < 9223372036854775808) : (execOp a.eval o).run Tryd.prog w = .ok (.value (.int .i64 (p + q : Nat))) w := by
  have e : IntKind.i64.wrap ((p : Int) + q) = (p : Int) + q := by have := wrap_i64_nat h; simpa using this
  unfold execOp
  simp only [ho, hx, hy]
  simp [go_sem, e]
theorem execMulI {x y : Operand} {p q : Nat} (ho : o.op = .binOp .mul 3 x y 3) (hx : a.eval x = .int .i64 p) (hy : a.eval y = .int .i64 q) (h : p * q < 9223372036854775808) : (execOp a.eval o).run Tryd.prog w = .ok (.value (.int .i64 (p * q : Nat))) w := by
  have e : IntKind.i64.wrap ((p : Int) * q) = (p : Int) * q := by have := wrap_i64_nat h; simpa using this
  unfold execOp
  simp only [ho, hx, hy]
  simp [go_sem, e]
theorem execRemI {x y : Operand} {p q : Nat} (ho : o.op = .binOp .rem 3 x y 3) (hx : a.eval x = .int .i64 p) (hy : a.eval y = .int .i64 q) (h : q ≠ 0) : (execOp a.eval o).run Tryd.prog w = .ok (.value (.int .i64 (p % q : Nat))) w := by
  have e : (p : Int).tmod q = ((p % q : Nat) : Int) := by rw [Int.tmod_eq_emod_of_nonneg (by omega)]; omega
  unfold execOp
  simp only [ho, hx, hy]
  simp [go_sem, h, e]
end
end Go.Proofs.YtcffmmeafnapiaaDoor.Aes

namespace Go.Proofs.YtcffmmeafnapiaaDoor.By8
open Go.RowKit Gf8 Aes
/- Lists of bytes ([]byte), the bytes as whole numbers. -/

/-- A []byte of len bytes p. -/
structure SliceN (w : World) (v : Value) (len : Nat) (p : Nat → Nat) : Prop where
  shape : ∃ a cap, v = .slice a len cap ∧ len ≤ cap ∧ cap < 9223372036854775808 ∧ (0 < len → ∃ b off, a = some ⟨b, off, none⟩ ∧ b < w.heap.size ∧ ∀ j, j < len → w.cell? ⟨b, off + j, none⟩ = some (.int .u8 (p j)))
  bytes : ∀ j, j < len → p j < 256
theorem cell_below {B : Nat} {w w' : World} (h : Below B w w') {b o : Nat} (hb : b < B) : w'.cell? ⟨b, o, none⟩ = w.cell? ⟨b, o, none⟩ := h.cell (p := ⟨b, o, none⟩) hb
theorem SliceN.on {w w' : World} {v : Value} {len : Nat} {p : Nat → Nat} (h : SliceN w v len p) (hb : Below w.heap.size w w') : SliceN w' v len p := by
  obtain ⟨⟨a, cap, e, h1, h2, h3⟩, hp⟩ := h
  refine ⟨⟨a, cap, e, h1, h2, fun h0 => ?_⟩, hp⟩
  obtain ⟨b, off, e1, e2, e3⟩ := h3 h0
  exact ⟨b, off, e1, Nat.lt_of_lt_of_le e2 hb.size, fun j hj => by rw [cell_below hb e2]; exact e3 j hj⟩
theorem info5 : ∃ i, Tryd.prog.info? 5 = some i ∧ i.zero = some (.int .u8 0) ∧ i.size = 1 ∧ i.bytes = 1 := by
  have h : (Tryd.prog.info? 5).map (fun i => (i.zero, i.size, i.bytes)) = some (some (.int .u8 0), 1, 1) := by kernel_rfl
  cases hq : Tryd.prog.info? 5 with
  | none => rw [hq] at h; cases h
  | some i =>
    rw [hq] at h
    simp only [Option.map_some, Option.some.injEq, Prod.mk.injEq] at h
    exact ⟨i, rfl, h.1, h.2.1, h.2.2⟩
theorem bytesL_one (n : Nat) (p : Nat → Nat) : ∀ u ∈ bytesL n p, u.oneCell' = true := by
  intro u hu
  simp only [bytesL, List.mem_map] at hu
  obtain ⟨z, _, rfl⟩ := hu
  rfl
theorem made8 (n : Nat) : madeCells (Value.int .u8 0).cells n = bA n (fun _ => 0) := by
  apply Array.ext_getElem?
  intro i
  by_cases h : i < n
  · rw [bA_at n _ h]; simp [madeCells, Value.cells, h, Nat.mod_one]
  · rw [Array.getElem?_eq_none (by simp [madeCells]; omega), Array.getElem?_eq_none (by rw [bA_size]; omega)]
/-- make([]byte, l, n). -/
theorem run_mk (l n : Nat) (hl : l ≤ n) (hn : n ≤ 281474976710656) (W : World) : (Instr.makeSlice 22 (.int .i64 (l : Int)) (.int .i64 (n : Int))).run Tryd.prog W = .ok (.slice (some ⟨W.heap.size, 0, none⟩) l n) (W.alloc (.cells (bA n (fun _ => 0)) 5)) := by
  obtain ⟨i, h1, h2, h3, h4⟩ := info5
  have h := run_make (P := Tryd.prog) W 22 5 i (.int .u8 0) Tryd.underlying22 h1 h2 .i64 .i64 (l : Int) (n : Int) (by omega) (by omega) (by rw [h4]; omega) (by omega)
  rw [h3, Int.toNat_natCast, Int.toNat_natCast, Nat.mul_one, made8] at h
  exact h
theorem execMk {o : Oper} {a : Act} {w : World} {l n : Nat} {x y : Operand} (ho : o.op = .makeSlice 22 x y) (hx : a.eval x = .int .i64 (l : Int)) (hy : a.eval y = .int .i64 (n : Int)) (hl : l ≤ n) (hn : n ≤ 281474976710656) :
    (execOp a.eval o).run Tryd.prog w = .ok (.value (.slice (some ⟨w.heap.size, 0, none⟩) l n)) (w.alloc (.cells (bA n (fun _ => 0)) 5)) := by
  unfold execOp
  simp only [ho, hx, hy, Sem.run_bind, run_mk l n hl hn, Result.andThen_ok, Sem.run_pure]
/-- Made with room and nothing in it yet: a row of one's own. -/
theorem own_made (W : World) {B n : Nat} (hB : B ≤ W.heap.size) (hn : n ≤ 140737488355328) : (W.alloc (.cells (bA n (fun _ => 0)) 5)).ownsRow B 5 1 (.slice (some ⟨W.heap.size, 0, none⟩) 0 n) 0 (bytesL 0 (fun _ => 0)) := by
  refine ⟨rfl, Or.inr ⟨W.heap.size, n, bA n (fun _ => 0), rfl, hB, ?_, by omega, by unfold maxLen; omega, by rw [bA_size, Nat.mul_one], rfl⟩⟩
  show (W.heap.push _)[W.heap.size]? = _
  rw [Array.getElem?_push_size]
/-- A row of one's own is a list. -/
theorem own_slice {W : World} {B n : Nat} {v : Value} {p : Nat → Nat} (h : W.ownsRow B 5 1 v n (bytesL n p)) (hp : ∀ j, j < n → p j < 256) : SliceN W v n p := by
  refine ⟨?_, hp⟩
  rcases h.2 with ⟨rfl, rfl⟩ | ⟨g, cap, cur, rfl, hB, hg, hn, hm, hs, ht⟩
  · exact ⟨_, _, rfl, Nat.le_refl _, by omega, fun h => by omega⟩
  · refine ⟨_, cap, rfl, hn, by unfold maxLen at hm; omega, fun _ => ⟨g, 0, rfl, (Array.getElem?_eq_some_iff.1 hg).1, fun j hj => ?_⟩⟩
    rw [cell_of_row _ _ _ _ _ _ hg, Nat.zero_add]
    have h2 : (cur.toList.take (n * 1))[j]? = some (.int .u8 (p j)) := by rw [ht]; exact bytesL_at n p hj
    rw [Nat.mul_one, List.getElem?_take, if_pos hj, Array.getElem?_toList] at h2
    exact h2
end Go.Proofs.YtcffmmeafnapiaaDoor.By8
namespace Go.Proofs.YtcffmmeafnapiaaDoor.Aes
open Go.RowKit Gf8 By8
theorem own_ne {W : World} {B n R : Nat} {v : Value} {xs : List Value} {c : Array Value} {t : TypeId} (h : W.ownsRow B 5 1 v n xs) (hr : W.heap[R]? = some (.cells c t)) (ht : t ≠ 5) : some R ≠ v.ownBlock := by
  rcases h.2 with ⟨rfl, _⟩ | ⟨g, cap, cur, rfl, _, hg, _⟩
  · simp [Value.ownBlock]
  · intro e
    simp only [Value.ownBlock, Option.some.injEq] at e
    subst e
    rw [hr] at hg
    simp only [Option.some.injEq, Obj.cells.injEq] at hg
    exact ht hg.2.1
theorem ownsRow_below {W W' : World} {B n : Nat} {v : Value} {xs : List Value} (h : W.ownsRow B 5 1 v n xs) (hb : Below W.heap.size W W') : W'.ownsRow B 5 1 v n xs := by
  refine ⟨h.1, ?_⟩
  rcases h.2 with h | ⟨g, cap, cur, e, hB, hg, h1, h2, h3, h4⟩
  · exact Or.inl h
  · exact Or.inr ⟨g, cap, cur, e, hB, by rw [hb.block _ (Array.getElem?_eq_some_iff.1 hg).1]; exact hg, h1, h2, h3, h4⟩
theorem ownsRow_row {W : World} {B n R : Nat} {v : Value} {xs : List Value} (h : W.ownsRow B 5 1 v n xs) {c : Array Value} {t : TypeId} (hr : W.heap[R]? = some (.cells c t)) (ht : t ≠ 5) (d : Array Value) : (W.setRow R d).ownsRow B 5 1 v n xs := by
  refine ⟨h.1, ?_⟩
  have ne := own_ne h hr ht
  rcases h.2 with h | ⟨g, cap, cur, e, hB, hg, h1, h2, h3, h4⟩
  · exact Or.inl h
  · subst e
    have hne : g ≠ R := fun q => ne (by simp [Value.ownBlock, q])
    exact Or.inr ⟨g, cap, cur, rfl, hB, by rw [setRow_other _ _ _ _ (by omega)]; exact hg, h1, h2, h3, h4⟩
/-- A row that is known whole, as a row of one's own. -/
theorem own_full {W : World} {B g n : Nat} {f : Nat → Nat} (h : W.heap[g]? = some (.cells (bA n f) 5)) (hB : B ≤ g) (hn : n ≤ 140737488355328) : W.ownsRow B 5 1 (.slice (some ⟨g, 0, none⟩) n n) n (bytesL n f) := by
  refine ⟨by rw [bytesL_len, Nat.mul_one], Or.inr ⟨g, n, bA n f, rfl, hB, h, Nat.le_refl _, by unfold maxLen; omega, by rw [bA_size, Nat.mul_one], ?_⟩⟩
  rw [Nat.mul_one, List.take_of_length_le (by rw [Array.length_toList, bA_size]; omega)]
  rfl
section
variable {o : Oper} {a : Act} {w : World}
theorem execIdxS {x i : Operand} {b off n cap k : Nat} (ho : o.op = .indexAddr 22 x i) (hx : a.eval x = .slice (some ⟨b, off, none⟩) n cap) (hi : a.eval i = .int .i64 (k : Int)) (hk : k < n) : (execOp a.eval o).run Tryd.prog w = .ok (.value (.pointer (some ⟨b, off + k, none⟩))) w := by
  have h1 : (k : Int) < n := by omega
  unfold execOp
  simp only [ho, hx, hi]
  simp [go_sem, h1]
theorem execOne {x : Operand} {z : Int} (ho : o.op = .buildSlice 22 1 #[(0, x)]) (hx : a.eval x = .int .u8 z) : (execOp a.eval o).run Tryd.prog w = .ok (.value (.slice (some ⟨w.heap.size, 0, none⟩) 1 1)) (w.alloc (.cells #[.int .u8 z] 5)) := by
  unfold execOp
  simp only [ho, List.map_toArray, List.map_cons, List.map_nil, hx]
  simp [go_sem]
end
theorem execIdxS0 {o : Oper} {a : Act} {w : World} {x i : Operand} {b n cap k : Nat} (ho : o.op = .indexAddr 22 x i) (hx : a.eval x = .slice (some ⟨b, 0, none⟩) n cap) (hi : a.eval i = .int .i64 (k : Int)) (hk : k < n) : (execOp a.eval o).run Tryd.prog w = .ok (.value (.pointer (some ⟨b, k, none⟩))) w := by
  have h := execIdxS (w := w) ho hx hi hk
  rwa [Nat.zero_add] at h
end Go.Proofs.YtcffmmeafnapiaaDoor.Aes

namespace Go.Proofs.YtcffmmeafnapiaaDoor.By8
open Go.RowKit Gf8 Aes

/-- The bytes as numbers. -/
def numL (p : Nat → Nat) (n : Nat) : List Int := (List.range n).map fun i => (p i : Int)
theorem numL_congr {p q : Nat → Nat} {n : Nat} (h : ∀ i, i < n → p i = q i) : numL p n = numL q n := by
  unfold numL
  apply List.map_congr_left
  intro i hi
  rw [h i (List.mem_range.1 hi)]
/-- The string of a list's bytes. -/
def strN (p : Nat → Nat) (n : Nat) : ByteArray := strOfNums (numL p n)
theorem strN_congr {p q : Nat → Nat} {n : Nat} (h : ∀ i, i < n → p i = q i) : strN p n = strN q n := by unfold strN; rw [numL_congr h]
theorem conv_str {w : World} {v : Value} {l : Nat} {p : Nat → Nat} (h : SliceN w v l p) : (convert 22 9 v).run Tryd.prog w = .ok (.string (strN p l)) w := by
  obtain ⟨⟨a, cap, rfl, h1, h2, h3⟩, hp⟩ := h
  by_cases h0 : 0 < l
  · obtain ⟨b, off, rfl, _, hc⟩ := h3 h0
    refine run_convert_bytes_arg w 22 5 Tryd.underlying22 Tryd.underlying5 b off l cap (numL p l) (by simp [numL]) (fun i hi => ?_) 9 Tryd.underlying9
    rw [hc i hi]
    simp [numL, hi]
  · obtain rfl : l = 0 := by omega
    cases a with
    | none => exact run_convert_bytes_nil w 22 5 Tryd.underlying22 Tryd.underlying5 0 cap 9 Tryd.underlying9
    | some ad =>
      have hl : (loadCells ad 0).run Tryd.prog w = .ok (([] : List Int).map (Value.int .u8)).toArray w := by simpa using run_loadCells_list (P := Tryd.prog) w ad [] (by simp)
      rw [run_convert_bytes_string w 22 9 5 _ 0 cap Tryd.underlying22 Tryd.underlying5 Tryd.underlying9, run_bytesToString w _ 0 cap [] hl]
      rfl
section
variable {o : Oper} {a : Act} {w : World}
theorem execStr {x : Operand} {v : Value} {l : Nat} {p : Nat → Nat} (ho : o.op = .convert 22 9 x) (hx : a.eval x = v) (h : SliceN w v l p) : (execOp a.eval o).run Tryd.prog w = .ok (.value (.string (strN p l))) w := by
  unfold execOp
  simp only [ho, hx, Sem.run_bind, conv_str h, Result.andThen_ok, Sem.run_pure]
theorem execNeqS {x y : Operand} {s : ByteArray} (ho : o.op = .binOp .neq 9 x y 9) (hx : a.eval x = .string s) (hy : a.eval y = .string s) : (execOp a.eval o).run Tryd.prog w = .ok (.value (.bool false)) w := by
  unfold execOp
  simp only [ho, hx, hy]
  simp [go_sem]
theorem execEqlS {x y : Operand} {s : ByteArray} (ho : o.op = .binOp .eql 9 x y 9) (hx : a.eval x = .string s) (hy : a.eval y = .string s) : (execOp a.eval o).run Tryd.prog w = .ok (.value (.bool true)) w := by
  unfold execOp
  simp only [ho, hx, hy]
  simp [go_sem]
end
end Go.Proofs.YtcffmmeafnapiaaDoor.By8

namespace Go.Proofs.YtcffmmeafnapiaaDoor.By8
open Go.RowKit Gf8 Aes

/-- A piece of a []byte. -/
theorem SliceN.sub {w : World} {a : Option Addr} {len cap : Nat} {p : Nat → Nat} (hv : SliceN w (.slice a len cap) len p) (l h : Nat) (h1 : l ≤ h) (h2 : h ≤ len) :
    SliceN w (sliced a l h cap 1) (h - l) (fun j => p (l + j)) := by
  obtain ⟨⟨a', cap', e, e1, e2, e3⟩, hp⟩ := hv
  obtain ⟨rfl, _, rfl⟩ : a = a' ∧ len = len ∧ cap = cap' := by
    injection e with x y z
    exact ⟨x, rfl, z⟩
  refine ⟨⟨_, cap - l, rfl, by omega, by omega, fun h0 => ?_⟩, fun j hj => hp (l + j) (by omega)⟩
  obtain ⟨b, off, rfl, hb, hc⟩ := e3 (by omega)
  rw [if_neg (by omega)]
  refine ⟨b, off + l, ?_, hb, fun j hj => ?_⟩
  · simp [Addr.add]
  · rw [Nat.add_assoc]; exact hc (l + j) (by omega)
theorem slice_lh (a : Option Addr) (len cap l h : Nat) (h1 : l ≤ h) (h2 : h ≤ cap) (W : World) : (Instr.sliceAt 22 (.slice a len cap) (some (.int .i64 (l : Int))) (some (.int .i64 (h : Int))) none).run Tryd.prog W = .ok (sliced a l h cap 1) W := by
  have e1 : (l : Int) ≤ h := by omega
  have e2 : (h : Int) ≤ cap := by omega
  simp [Instr.sliceAt, Instr.slice, run_underlying Tryd.underlying22, Instr.sliceBounds, run_sliceBound, sliced, h1, h2]
theorem slice_h (a : Option Addr) (len cap h : Nat) (h2 : h ≤ cap) (W : World) : (Instr.sliceAt 22 (.slice a len cap) none (some (.int .i64 (h : Int))) none).run Tryd.prog W = .ok (sliced a 0 h cap 1) W := by
  have e2 : (h : Int) ≤ cap := by omega
  simp [Instr.sliceAt, Instr.slice, run_underlying Tryd.underlying22, Instr.sliceBounds, run_sliceBound, sliced, h2]
theorem slice_l (a : Option Addr) (len cap l : Nat) (h1 : l ≤ len) (W : World) : (Instr.sliceAt 22 (.slice a len cap) (some (.int .i64 (l : Int))) none none).run Tryd.prog W = .ok (sliced a l len cap 1) W := by
  have e1 : (l : Int) ≤ len := by omega
  simp [Instr.sliceAt, Instr.slice, run_underlying Tryd.underlying22, Instr.sliceBounds, run_sliceBound, sliced, h1]
section
variable {o : Oper} {a : Act} {w : World}
theorem execSlLH {x l h : Operand} {v vl vh r : Value} (ho : o.op = .slice 22 x (some l) (some h) none) (hx : a.eval x = v) (hl : a.eval l = vl) (hh : a.eval h = vh)
    (hr : (Instr.sliceAt 22 v (some vl) (some vh) none).run Tryd.prog w = .ok r w) : (execOp a.eval o).run Tryd.prog w = .ok (.value r) w := by
  unfold execOp
  simp only [ho, hx, hl, hh, Option.map_some, Option.map_none, Sem.run_bind, hr, Result.andThen_ok, Sem.run_pure]
theorem execSlH {x h : Operand} {ty : TypeId} {v vh r : Value} (ho : o.op = .slice ty x none (some h) none) (hx : a.eval x = v) (hh : a.eval h = vh)
    (hr : (Instr.sliceAt ty v none (some vh) none).run Tryd.prog w = .ok r w) : (execOp a.eval o).run Tryd.prog w = .ok (.value r) w := by
  unfold execOp
  simp only [ho, hx, hh, Option.map_some, Option.map_none, Sem.run_bind, hr, Result.andThen_ok, Sem.run_pure]
theorem execSlL {x l : Operand} {v vl r : Value} (ho : o.op = .slice 22 x (some l) none none) (hx : a.eval x = v) (hl : a.eval l = vl)
    (hr : (Instr.sliceAt 22 v (some vl) none none).run Tryd.prog w = .ok r w) : (execOp a.eval o).run Tryd.prog w = .ok (.value r) w := by
  unfold execOp
  simp only [ho, hx, hl, Option.map_some, Option.map_none, Sem.run_bind, hr, Result.andThen_ok, Sem.run_pure]
theorem execSubI {x y : Operand} {p q : Nat} (ho : o.op = .binOp .sub 3 x y 3) (hx : a.eval x = .int .i64 p) (hy : a.eval y = .int .i64 q) (h : q ≤ p) (hp : p < 9223372036854775808) : (execOp a.eval o).run Tryd.prog w = .ok (.value (.int .i64 (p - q : Nat))) w := by
  have e2 : IntKind.i64.wrap ((p : Int) - q) = ((p - q : Nat) : Int) := by rw [show (p : Int) - q = ((p - q : Nat) : Int) by omega]; exact wrap_i64_nat (by omega)
  unfold execOp
  simp only [ho, hx, hy]
  simp [go_sem, e2]
end
end Go.Proofs.YtcffmmeafnapiaaDoor.By8
