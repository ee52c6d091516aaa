import Derived.Test.YtmjpneaccjlpkaaP9d
import Derived.Test.YtmjpneaccjlpkaaF9c
import Derived.Test.YtmjpneaccjlpkaaF9b
namespace Go.Proofs.Ytmjpneaccjlpkaa.Prm
open Go.RowKit Gf8 Aes By8 Cel Cf Tap Drw
/- Stage 11's reference: find, Rank. Written by tools/mkP9e.py. -/
theorem execSlLg {o : Oper} {a : Act} {w : World} {x l : Operand} {ty : TypeId} {v vl r : Value} (ho : o.op = .slice ty x (some l) none none) (hx : a.eval x = v) (hl : a.eval l = vl)
  (hr : (Instr.sliceAt ty v (some vl) none none).run Try.prog w = .ok r w) : (execOp a.eval o).run Try.prog w = .ok (.value r) w := by
 unfold execOp
 simp only [ho, hx, hl, Option.map_some, Option.map_none, Sem.run_bind, hr, Result.andThen_ok, Sem.run_pure]
theorem sl_lIg (g len cap l : Nat) (h1 : l ≤ len) (W : World) : (Instr.sliceAt 24 (.slice (some ⟨g, 0, none⟩) len cap) (some (.int .i64 (l : Int))) none none).run Try.prog W = .ok (sliced (some ⟨g, 0, none⟩) l len cap 1) W := by
 have e1 : (l : Int) ≤ len := by omega
 obtain ⟨i, i1, _, i3, _⟩ := infoI
 simp [Instr.sliceAt, Instr.slice, run_underlying Try.underlying24, Instr.sliceBounds, run_sliceBound, sliced, h1, sizeOf, typeInfo, i1, i3]
theorem sl_no {A : Addr} {l h m x y : Nat} (e : sliced (some A) l h m 1 = .slice none x y) : y = 0 := by
 unfold sliced at e
 by_cases q : m = l
 ·rw [if_pos q] at e; cases e
 ·rw [if_neg q] at e; cases e
theorem SliceI.sub {w : World} {a : Option Addr} {len cap : Nat} {p : Nat → Int} (hv : SliceI w (.slice a len cap) len p) (l h : Nat) (h1 : l ≤ h) (h2 : h ≤ len) :
  SliceI w (sliced a l h cap 1) (h - l) (fun j => p (l + j)) := by
 obtain ⟨⟨a', cap', e, e1, e2, e3⟩, hp⟩ := hv
 obtain ⟨rfl, _, rfl⟩ : a = a' ∧ len = len ∧ cap = cap' := by
  injection e with x y z
  exact ⟨x, rfl, z⟩
 refine ⟨⟨_, cap - l, rfl, by omega, by omega, fun h0 => ?_⟩, fun j hj => hp (l + j) (by omega)⟩
 obtain ⟨b, off, rfl, hb, hc⟩ := e3 (by omega)
 rw [if_neg (by omega)]
 refine ⟨b, off + l, ?_, hb, fun j hj => ?_⟩
 ·simp [Addr.add]
 ·rw [Nat.add_assoc]; exact hc (l + j) (by omega)
structure Two (V W : World) (u : Value) (nu : Nat) (fu : Nat → Int) (lv : Value) (nl : Nat) (fl : Nat → Int) : Prop where
 ru : W.ownsRow V.heap.size 3 1 u nu (intsL nu fu)
 rl : W.ownsRow V.heap.size 3 1 lv nl (intsL nl fl)
 ap : ∀ k, u.ownBlock = some k → lv.ownBlock ≠ some k
section
variable {V W W' : World} {u lv : Value} {nu nl : Nat} {fu fl : Nat → Int}
theorem Two.on (h : Two V W u nu fu lv nl fl) (b : Below W.heap.size W W') : Two V W' u nu fu lv nl fl := ⟨ownD_below h.ru b, ownD_below h.rl b, h.ap⟩
theorem Two.over {C m : Nat} {v2 : Value} {ys : List Value} (h : Two V W u nu fu lv nl fl) (hu : ∀ k, u.ownBlock = some k → k < C) (hl : ∀ k, lv.ownBlock = some k → k < C) (h2 : W.ownsRow C 3 1 v2 m ys) (gr : W.grownBy W' v2.ownBlock) : Two V W' u nu fu lv nl fl :=
 ⟨own_overB h.ru hu h2 gr, own_overB h.rl hl h2 gr, h.ap⟩
theorem Two.new {C m nl' : Nat} {v' : Value} {f' fl' : Nat → Int} (h : Two V W u nu fu lv nl fl) (hu : ∀ k, u.ownBlock = some k → k < C) (own : W.ownsRow C 3 1 v' m (intsL m f')) (hC : V.heap.size ≤ C) (em : m = nl') (ef : ∀ j, j < nl' → f' j = fl' j) : Two V W u nu fu v' nl' fl' := by
 subst em
 refine ⟨h.ru, ?_, fun k e q => ?_⟩
 ·rw [← intsL_congr ef]
  exact ownD_base own hC
 ·have a1 := hu k e
  have a2 := (own.lt k q).1
  omega
theorem Two.lo {g c k : Nat} (h : Two V W u nu fu (.slice (some ⟨g, 0, none⟩) nl c) nl fl) (hf : ∀ j, j < nl → -9223372036854775808 ≤ fl j ∧ fl j < 9223372036854775808) (hk : k < nl) : SliceI W (.slice (some ⟨g, 0, none⟩) k c) k fl := by
 have h2 := SliceI.sub (own_ints h.rl hf) 0 k (Nat.zero_le _) (by omega)
 rw [sliced_0, Nat.sub_zero] at h2
 exact h2.cg fun j _ => by rw [Nat.zero_add]
theorem Two.hi {g c k : Nat} (h : Two V W u nu fu (.slice (some ⟨g, 0, none⟩) nl c) nl fl) (hf : ∀ j, j < nl → -9223372036854775808 ≤ fl j ∧ fl j < 9223372036854775808) (hk : k < nl) : SliceI W (sliced (some ⟨g, 0, none⟩) (k + 1) nl c 1) (nl - (k + 1)) (fun j => fl (k + 1 + j)) :=
 SliceI.sub (own_ints h.rl hf) (k + 1) nl hk (Nat.le_refl _)
end
end Go.Proofs.Ytmjpneaccjlpkaa.Prm

namespace Go.Proofs.Ytmjpneaccjlpkaa.Prm
open Go.RowKit Gf8 Aes By8 Cel Cf Tap Drw
/- Stage 11's reference: Unrank; From of any number. Written by tools/mkP9f.py. -/
set_option maxRecDepth 20000 in
theorem rfrom (n : Int) (d : Nat → Int) (m : Nat) (v : Value) (V : World) (hv : SliceI V v m d) (hm17 : m ≤ 17592186043904) :
  Calls Try.prog 53 #[.int .i64 n, v] V fun e w' => ∃ r, e = .returned (.tuple #[r, .int .i64 ((frE n d m : Nat) : Int)]) ∧ w'.ownsRow V.heap.size 3 1 r (zl (frE n d m) n.toNat) (intsL (zl (frE n d m) n.toNat) (fun j => (frA n.toNat (gN d) m j : Int))) ∧ Below V.heap.size V w' := by
 by_cases h : n < 0
 ·have hE : frE n d m = 2 := if_pos h
  rw [hE, zl_no (by decide)]
  clear hv hm17 hE
  go_enter Try.func53, Try.ntmps53
  go_wp2
  refine bodyPost_ret (results_tmp2 rfl _ _ _) rfl ⟨_, rfl, World.ownsRow_nil _ _ _ _, Below.refl _ _⟩
 ·obtain ⟨N, rfl⟩ : ∃ N : Nat, n = N := ⟨n.toNat, by omega⟩
  refine (rfrom_nat N d m v V hv hm17).mono ?_
  rintro e w' ⟨r, h1, h2, h3⟩
  rw [Int.toNat_natCast] at h2 ⊢
  exact ⟨r, h1, h2, h3⟩
end Go.Proofs.Ytmjpneaccjlpkaa.Prm

namespace Go.Proofs.Ytmjpneaccjlpkaa.Prm
open Go.RowKit Gf8 Aes By8 Cel Cf Tap Drw
/- Stage 11's reference: Draws. Written by tools/mkP9g.py. -/
theorem own_offB {W : World} {B n s g k : Nat} {t : TypeId} {v z : Value} {xs : List Value} (h : W.ownsRow B t s v n xs) (hv : v.ownBlock ≠ some g) : (W.setCell ⟨g, k, none⟩ z).ownsRow B t s v n xs := by
 refine ⟨h.1, ?_⟩
 rcases h.2 with h | ⟨g1, cap, cur, e, hB, h1, hr⟩
 ·exact Or.inl h
 ·refine Or.inr ⟨g1, cap, cur, e, hB, ?_, hr⟩
  subst e
  rw [Below.heap_setCell _ _ _ _ (fun q => hv (by show some g1 = some g; have q2 : g1 = g := q; rw [q2]))]
  exact h1
structure Thr (V W : World) (va vt : Value) (n : Nat) (fa ft : Nat → Int) (u : Value) (nu : Nat) (fu : Nat → Int) : Prop where
 ra : W.ownsRow V.heap.size 3 1 va n (intsL n fa)
 rt : W.ownsRow V.heap.size 3 1 vt n (intsL n ft)
 ru : W.ownsRow V.heap.size 3 1 u nu (intsL nu fu)
 nat : ∀ k, va.ownBlock = some k → vt.ownBlock ≠ some k
 nau : ∀ k, u.ownBlock = some k → va.ownBlock ≠ some k ∧ vt.ownBlock ≠ some k
section
variable {V W W' : World} {va vt u : Value} {n nu g c : Nat} {fa ft fu : Nat → Int}
theorem Thr.on (h : Thr V W va vt n fa ft u nu fu) (b : Below W.heap.size W W') : Thr V W' va vt n fa ft u nu fu := ⟨ownD_below h.ra b, ownD_below h.rt b, ownD_below h.ru b, h.nat, h.nau⟩
theorem Thr.atA {j : Nat} (h : Thr V W va vt n fa ft u nu fu) (e : va = .slice (some ⟨g, 0, none⟩) n c) (hj : j < n) : W.cell? ⟨g, 0 + j, none⟩ = some (.int .i64 (fa j)) ∧ W.frozen? ⟨g, 0 + j, none⟩ = false := by
 have h1 := h.ra
 rw [e] at h1
 exact own_cellI h1 hj
theorem Thr.atT {j : Nat} (h : Thr V W va vt n fa ft u nu fu) (e : vt = .slice (some ⟨g, 0, none⟩) n c) (hj : j < n) : W.cell? ⟨g, 0 + j, none⟩ = some (.int .i64 (ft j)) ∧ W.frozen? ⟨g, 0 + j, none⟩ = false := by
 have h1 := h.rt
 rw [e] at h1
 exact own_cellI h1 hj
theorem Thr.setT {j : Nat} (h : Thr V W va vt n fa ft u nu fu) (e : vt = .slice (some ⟨g, 0, none⟩) n c) (z : Int) : Thr V (W.setCell ⟨g, 0 + j, none⟩ (.int .i64 z)) va vt n fa (fun i => if i = j then z else ft i) u nu fu := by
 have hb : vt.ownBlock = some g := by rw [e]; rfl
 refine ⟨own_offB h.ra (fun q => h.nat g q hb), ?_, own_offB h.ru (fun q => (h.nau g q).2 hb), h.nat, h.nau⟩
 have h1 := h.rt
 rw [e] at h1 ⊢
 exact own_setF z h1
theorem Thr.cgT {ft' : Nat → Int} (h : Thr V W va vt n fa ft u nu fu) (e : ∀ j, j < n → ft j = ft' j) : Thr V W va vt n fa ft' u nu fu := ⟨h.ra, by rw [← intsL_congr e]; exact h.rt, h.ru, h.nat, h.nau⟩
end
end Go.Proofs.Ytmjpneaccjlpkaa.Prm

namespace Go.Proofs.Ytmjpneaccjlpkaa.Prm
open Go.RowKit Gf8 Aes By8 Cel Cf Tap Drw
/- What the program's package keeps (Impl); the laws' same, awake; PermChecks, PermMakes, PermPairs over any Impl. Written by tools/mkP9h.py. -/
theorem zl_le (E L : Nat) : zl E L ≤ L := by
 unfold zl
 by_cases h : E = 0
 ·rw [if_pos h]; exact Nat.le_refl _
 ·rw [if_neg h]; exact Nat.zero_le _
end Go.Proofs.Ytmjpneaccjlpkaa.Prm
