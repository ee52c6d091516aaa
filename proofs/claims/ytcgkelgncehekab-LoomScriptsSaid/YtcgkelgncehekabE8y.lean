import Derived.Test.YtcgkelgncehekabE8k
namespace Go.Proofs.Ytcgkelgncehekab.Loo
open Go.RowKit Gf8 Aes By8 Cel Cf Win Drw Prm
/- The laws' about; rows of operations that grow. Written by tools/mkE8l.py. -/

section
variable {o : Oper} {a : Act} {w : World} {x y : Operand} {p q : Int}
theorem wrapZ {z : Int} (h : I64 z) : IntKind.i64.wrap z = z := by
  obtain ⟨h1, h2⟩ := h
  simp [IntKind.wrap, IntKind.bits, IntKind.signed]
  omega
theorem exAddZ (ho : o.op = .binOp .add 3 x y 3) (hx : a.eval x = .int .i64 p) (hy : a.eval y = .int .i64 q) (h : I64 (p + q)) : (execOp a.eval o).run Try.prog w = .ok (.value (.int .i64 (p + q))) w := by
  have e := wrapZ h
  unfold execOp
  simp only [ho, hx, hy]
  simp [go_sem, e]
theorem exSubZ (ho : o.op = .binOp .sub 3 x y 3) (hx : a.eval x = .int .i64 p) (hy : a.eval y = .int .i64 q) (h : I64 (p - q)) : (execOp a.eval o).run Try.prog w = .ok (.value (.int .i64 (p - q))) w := by
  have e := wrapZ h
  unfold execOp
  simp only [ho, hx, hy]
  simp [go_sem, e]
theorem exRemZ (ho : o.op = .binOp .rem 3 x y 3) (hx : a.eval x = .int .i64 p) (hy : a.eval y = .int .i64 q) (h : q ≠ 0) : (execOp a.eval o).run Try.prog w = .ok (.value (.int .i64 (p.tmod q))) w := by
  unfold execOp
  simp only [ho, hx, hy]
  simp [go_sem, h]
end
theorem tmod_in {n m : Int} (h : 0 < m) : -m < n.tmod m ∧ n.tmod m < m ∧ n % m = if n.tmod m < 0 then n.tmod m + m else n.tmod m := by
  have h1 := Int.emod_nonneg n (show m ≠ 0 by omega)
  have h2 := Int.emod_lt_of_pos n h
  have h3 := Int.tmod_lt_of_pos n h
  have h4 : -m < n.tmod m := by
    have := Int.tmod_lt_of_pos (-n) h
    rw [Int.neg_tmod] at this
    omega
  refine ⟨h4, h3, ?_⟩
  have e1 := Int.mul_ediv_add_emod n m
  have e2 := Int.mul_tdiv_add_tmod n m
  have e3 : n % m = (n.tmod m) % m := by
    rw [← e2, Int.mul_add_emod_self_left]
    congr 1
    rw [e2]
  rw [e3]
  split
  · rw [← Int.add_emod_right, Int.emod_eq_of_lt (by omega) (by omega)]
  · exact Int.emod_eq_of_lt (by omega) h3
def opL (n : Nat) (q : Nat → Op3) : List Value := (List.range n).flatMap fun j => [.int .i64 (q j).k, .int .i64 (q j).a, .int .i64 (q j).b]
theorem own_ops {W : World} {B n : Nat} {v : Value} {q : Nat → Op3} (h : W.ownsRow B 38 3 v n (opL n q)) (hf : ∀ j, j < n → I64 (q j).k ∧ I64 (q j).a ∧ I64 (q j).b) : SliceO W v n q := by
  rcases h.2 with ⟨rfl, rfl⟩ | ⟨g, cap, cur, rfl, _, hg, h1, h2, h3, h4⟩
  · exact ⟨⟨_, _, rfl, fun h => by omega⟩, hf⟩
  · have hc : ∀ j i, j < n → i < 3 → cur[j * 3 + i]? = [Value.int .i64 (q j).k, .int .i64 (q j).a, .int .i64 (q j).b][i]? := fun j i hj hi => by
      have := flat3 (q := q) n j i hj hi
      have h5 : (opL n q)[j * 3 + i]? = cur[j * 3 + i]? := by rw [← h4, List.getElem?_take, if_pos (by omega), Array.getElem?_toList]
      rw [← h5]
      exact this
    refine ⟨⟨_, _, rfl, fun _ => ⟨g, 0, rfl, (Array.getElem?_eq_some_iff.1 hg).1, fun j hj => ⟨?_, ?_, ?_⟩⟩⟩, hf⟩
    · rw [cell_of_row _ _ _ _ _ _ hg, Nat.zero_add]
      exact hc j 0 hj (by omega)
    · rw [cell_of_row _ _ _ _ _ _ hg, Nat.zero_add]
      exact hc j 1 hj (by omega)
    · rw [cell_of_row _ _ _ _ _ _ hg, Nat.zero_add]
      exact hc j 2 hj (by omega)
theorem SliceO.cg {W : World} {v : Value} {n : Nat} {q r : Nat → Op3} (h : SliceO W v n q) (e : ∀ j, j < n → q j = r j) : SliceO W v n r := by
  obtain ⟨⟨a, cap, e1, h3⟩, hp⟩ := h
  refine ⟨⟨a, cap, e1, fun h0 => ?_⟩, fun j hj => by rw [← e j hj]; exact hp j hj⟩
  obtain ⟨b, off, e2, e3, e4⟩ := h3 h0
  exact ⟨b, off, e2, e3, fun j hj => by rw [← e j hj]; exact e4 j hj⟩
end Go.Proofs.Ytcgkelgncehekab.Loo

namespace Go.Proofs.Ytcgkelgncehekab.Loo
open Go.RowKit Gf8 Aes By8 Cel Cf Win Drw Prm
/- LoomOne. Written by tools/mkE8m.py. -/

theorem any_no {l : List Nat} {f : Nat → Bool} (h : ∀ i ∈ l, f i = false) : l.any f ≠ true := by
  rw [Ne, Bool.not_eq_true, List.any_eq_false]
  exact fun i hi => by rw [h i hi]; simp
theorem inB_of {x lo hi : Int} (h1 : lo ≤ x) (h2 : x ≤ hi) : inB x lo hi = true := decide_eq_true ⟨h1, h2⟩
/-- A plan is right, if all is within its bounds. -/
theorem chk_ok {p : Pl} (h1 : p.n ≤ 128) (h2 : p.d ≤ 64) (h3 : ∀ t, t < p.n → p.ln t ≤ 256) (h4 : ∀ i, i < p.d → 0 ≤ p.cap i ∧ p.cap i ≤ 1024) (h5 : ∀ t, t < p.n → ∀ j, j < p.ln t → rgt (p.op t j) (p.ln t) p.d p.n = true) : chk p = 0 := by
  unfold chk
  rw [if_neg (by omega), if_neg, if_neg, if_neg]
  · exact any_no fun t ht => by
      rw [List.any_eq_false]
      exact fun j hj => by rw [h5 t (List.mem_range.1 ht) j (List.mem_range.1 hj)]; simp
  · exact any_no fun i hi => by
      have := h4 i (List.mem_range.1 hi)
      rw [inB_of this.1 this.2]
      rfl
  · exact any_no fun t ht => decide_eq_false (by have := h3 t (List.mem_range.1 ht); omega)
theorem ints_open {W : World} {v : Value} {n : Nat} {f : Nat → Int} (h : SliceI W v n f) (h0 : 0 < n) : ∃ b off c, v = .slice (some ⟨b, off, none⟩) n c ∧ b < W.heap.size ∧ ∀ j, j < n → W.cell? ⟨b, off + j, none⟩ = some (.int .i64 (f j)) := by
  obtain ⟨a, c, e, _, _, h3⟩ := h.shape
  obtain ⟨b, off, e1, e2, e3⟩ := h3 h0
  exact ⟨b, off, c, by rw [e, e1], e2, e3⟩
end Go.Proofs.Ytcgkelgncehekab.Loo

namespace Go.Proofs.Ytcgkelgncehekab.Loo
/- Bounds of a run: places within the operations, numbers within 1024 times the picks, ducts within their capacities. Names nothing of a program. -/

/-- What Check lets through. -/
structure Okp (p : Pl) : Prop where
  n : p.n ≤ 128
  d : p.d ≤ 64
  ln : ∀ t, t < p.n → p.ln t ≤ 256
  cap : ∀ i, i < p.d → 0 ≤ p.cap i ∧ p.cap i ≤ 1024
  op : ∀ t, t < p.n → ∀ j, j < p.ln t → rgt (p.op t j) (p.ln t) p.d p.n = true
theorem any_false {n : Nat} {f : Nat → Bool} (h : ¬ (List.range n).any f = true) {i : Nat} (hi : i < n) : f i = false := by
  cases e : f i with
  | false => rfl
  | true => exact absurd (List.any_eq_true.2 ⟨i, List.mem_range.2 hi, e⟩) h
theorem chk_okp {p : Pl} (h : chk p = 0) : Okp p := by
  unfold chk at h
  by_cases h1 : 128 < p.n ∨ 64 < p.d
  · rw [if_pos h1] at h; cases h
  rw [if_neg h1] at h
  by_cases h2 : lnB p = true
  · rw [if_pos h2] at h; cases h
  rw [if_neg h2] at h
  by_cases h3 : cpB p = true
  · rw [if_pos h3] at h; cases h
  rw [if_neg h3] at h
  by_cases h4 : opB p = true
  · rw [if_pos h4] at h; cases h
  refine ⟨by omega, by omega, fun t ht => ?_, fun i hi => ?_, fun t ht j hj => ?_⟩
  · have := of_decide_eq_false (any_false h2 ht); omega
  · have h5 := any_false h3 hi
    have h6 : inB (p.cap i) 0 1024 = true := by simpa using h5
    exact of_decide_eq_true h6
  · have h5 := any_false h4 ht
    have h6 := any_false (fun z => by rw [h5] at z; cases z) hj
    simpa using h6
section
variable {o : Op3} {ops d n : Nat}
theorem inB_is {x lo hi : Int} (h : inB x lo hi = true) : lo ≤ x ∧ x ≤ hi := of_decide_eq_true h
theorem rgt_put (h : rgt o ops d n = true) (k : o.k = 1 ∨ o.k = 3) : 0 ≤ o.a ∧ o.a.toNat < d := by
  unfold rgt at h
  rw [if_pos k] at h
  have := inB_is h
  omega
theorem rgt_take (h : rgt o ops d n = true) (k : o.k = 2) : (0 ≤ o.a ∧ o.a.toNat < d) ∧ 0 ≤ o.b ∧ o.b ≤ ops := by
  unfold rgt at h
  rw [if_neg (by omega), if_pos k, Bool.and_eq_true] at h
  have h1 := inB_is h.1
  have h2 := inB_is h.2
  omega
theorem rgt_choose (h : rgt o ops d n = true) (k : o.k = 8) : (0 ≤ o.a ∧ o.a.toNat < d) ∧ 0 ≤ o.b ∧ o.b.toNat < d := by
  unfold rgt at h
  rw [if_neg (by omega), if_neg (by omega), if_pos k, Bool.and_eq_true] at h
  have h1 := inB_is h.1
  have h2 := inB_is h.2
  omega
theorem rgt_num (h : rgt o ops d n = true) (k : o.k = 4 ∨ o.k = 5) : -1024 ≤ o.a ∧ o.a ≤ 1024 := by
  unfold rgt at h
  rw [if_neg (by omega), if_neg (by omega), if_neg (by omega), if_pos k] at h
  exact inB_is h
theorem rgt_jump (h : rgt o ops d n = true) (k : o.k = 6) : 0 ≤ o.a ∧ o.a ≤ ops := by
  unfold rgt at h
  rw [if_neg (by omega), if_neg (by omega), if_neg (by omega), if_neg (by omega), if_pos k] at h
  exact inB_is h
theorem rgt_unless (h : rgt o ops d n = true) (k : o.k = 7) : (0 ≤ o.a ∧ o.a ≤ ops) ∧ -1024 ≤ o.b ∧ o.b ≤ 1024 := by
  unfold rgt at h
  rw [if_neg (by omega), if_neg (by omega), if_neg (by omega), if_neg (by omega), if_neg (by omega), if_pos k, Bool.and_eq_true] at h
  exact ⟨inB_is h.1, inB_is h.2⟩
theorem rgt_wait (h : rgt o ops d n = true) (k : o.k = 9) : 0 ≤ o.a ∧ o.a.toNat < n := by
  unfold rgt at h
  rw [if_neg (by omega), if_neg (by omega), if_neg (by omega), if_neg (by omega), if_neg (by omega), if_neg (by omega), if_pos k] at h
  have := inB_is h
  omega
end
section
variable {p : Pl} {r : Rm} {k t : Nat}
theorem at_k (hk : (at_ p r t).k ≠ 0) : r.en t = false ∧ r.pl t < p.ln t ∧ at_ p r t = p.op t (r.pl t) := by
  by_cases h : gone p r t = true
  · exact absurd (by unfold at_; rw [if_pos h]) hk
  · refine ⟨?_, ?_, by unfold at_; rw [if_neg h]⟩
    · unfold gone at h
      simp at h
      exact h.1
    · unfold gone at h
      simp at h
      exact h.2
theorem at_ok (hp : Okp p) (ht : t < p.n) (hk : (at_ p r t).k ≠ 0) : rgt (at_ p r t) (p.ln t) p.d p.n = true := by
  obtain ⟨_, h1, h2⟩ := at_k hk
  rw [h2]
  exact hp.op t ht _ h1
def wi (k : Nat) (x : Int) : Prop := -(1024 * (k : Int)) ≤ x ∧ x ≤ 1024 * (k : Int)
theorem wi.up {x : Int} (h : wi k x) : wi (k + 1) x := by
  have h1 := h.1
  have h2 := h.2
  constructor <;> omega
/-- The bounds behind k picks. -/
structure Bnd (p : Pl) (k : Nat) (r : Rm) : Prop where
  pl : ∀ t, t < p.n → r.pl t ≤ p.ln t
  rg : ∀ t, wi k (r.rg t)
  tk : ∀ t x, x ∈ r.tk t → wi k x
  hd : ∀ d x, x ∈ r.hd d → wi k x
  lt : r.lt ≤ k
  ln : ∀ t, (r.tk t).length ≤ k
  cp : ∀ d, d < p.d → ((r.hd d).length : Int) ≤ p.cap d
theorem Bnd.up (h : Bnd p k r) : Bnd p (k + 1) r :=
  ⟨h.pl, fun t => (h.rg t).up, fun t x hx => (h.tk t x hx).up, fun d x hx => (h.hd d x hx).up, Nat.le_succ_of_le h.lt, fun t => Nat.le_succ_of_le (h.ln t), h.cp⟩
theorem Bnd.go {b : Nat} (h : Bnd p k r) (hb : b ≤ p.ln t) : Bnd p k { r with pl := upf r.pl t b } := by
  refine { h with pl := fun u hu => ?_ }
  show upf r.pl t b u ≤ p.ln u
  by_cases e : u = t
  · rw [e, upf_at]; exact hb
  · rw [upf_ne _ _ e]; exact h.pl u hu
theorem Bnd.on (h : Bnd p k r) (hb : r.pl t < p.ln t) : Bnd p k (on_ r t) := h.go hb
theorem Bnd.set {x : Int} (h : Bnd p k r) (hx : wi k x) : Bnd p k { r with rg := upf r.rg t x } := by
  refine { h with rg := fun u => ?_ }
  show wi k (upf r.rg t x u)
  by_cases e : u = t
  · rw [e, upf_at]; exact hx
  · rw [upf_ne _ _ e]; exact h.rg u
theorem Bnd.got {x : Int} (h : Bnd p k r) (hb : r.pl t < p.ln t) (hx : wi k x) : Bnd p (k + 1) (got r t x) := by
  have h1 := (h.up.on hb).set (t := t) hx.up
  exact { h1 with
    tk := fun u y hy => by
      have hy : y ∈ upf r.tk t (r.tk t ++ [x]) u := hy
      by_cases e : u = t
      · rw [e, upf_at] at hy
        rcases List.mem_append.1 hy with q | q
        · exact (h.tk t y q).up
        · rw [List.mem_singleton.1 q]; exact hx.up
      · rw [upf_ne _ _ e] at hy; exact (h.tk u y hy).up
    ln := fun u => by
      show (upf r.tk t (r.tk t ++ [x]) u).length ≤ k + 1
      by_cases e : u = t
      · rw [e, upf_at, List.length_append]
        have := h.ln t
        simp
        omega
      · rw [upf_ne _ _ e]; exact Nat.le_succ_of_le (h.ln u) }
theorem Bnd.pop {x : Int} {l : List Int} {d : Nat} (h : Bnd p k r) (e : r.hd d = x :: l) : Bnd p k { r with hd := upf r.hd d l } ∧ wi k x := by
  refine ⟨{ h with hd := fun i y hy => ?_, cp := fun i hi => ?_ }, h.hd d x (by rw [e]; exact List.mem_cons_self)⟩
  · have hy : y ∈ upf r.hd d l i := hy
    by_cases q : i = d
    · rw [q, upf_at] at hy
      exact h.hd d y (by rw [e]; exact List.mem_cons_of_mem _ hy)
    · rw [upf_ne _ _ q] at hy; exact h.hd i y hy
  · show ((upf r.hd d l i).length : Int) ≤ _
    by_cases q : i = d
    · rw [q, upf_at]
      have h1 := h.cp i hi
      rw [q, e] at h1
      simp at h1
      omega
    · rw [upf_ne _ _ q]; exact h.cp i hi
theorem Bnd.push {x : Int} {d : Nat} (h : Bnd p k r) (hx : wi k x) (hc : ((r.hd d).length : Int) < p.cap d) : Bnd p k { r with hd := upf r.hd d (r.hd d ++ [x]) } := by
  refine { h with hd := fun i y hy => ?_, cp := fun i hi => ?_ }
  · have hy : y ∈ upf r.hd d (r.hd d ++ [x]) i := hy
    by_cases q : i = d
    · rw [q, upf_at] at hy
      rcases List.mem_append.1 hy with z | z
      · exact h.hd d y z
      · rw [List.mem_singleton.1 z]; exact hx
    · rw [upf_ne _ _ q] at hy; exact h.hd i y hy
  · show ((upf r.hd d (r.hd d ++ [x]) i).length : Int) ≤ _
    by_cases q : i = d
    · rw [q, upf_at, List.length_append]
      simp
      omega
    · rw [upf_ne _ _ q]; exact h.cp i hi
theorem giv_is {d g : Nat} (h : giv p r d = some g) : g < p.n ∧ (at_ p r g).k = 1 ∧ (at_ p r g).a = d := by
  have h1 := List.find?_some h
  have h2 := List.mem_of_find?_eq_some h
  exact ⟨List.mem_range.1 h2, of_decide_eq_true h1⟩
theorem tak_is {d g : Nat} (h : tak p r d = some g) : g < p.n ∧ ((at_ p r g).k = 2 ∨ (at_ p r g).k = 8) := by
  have h1 := List.find?_some h
  have h2 := List.mem_of_find?_eq_some h
  refine ⟨List.mem_range.1 h2, ?_⟩
  rcases (of_decide_eq_true h1 : _ ∨ _) with z | z
  · exact z.1
  · exact Or.inr z.1
theorem mts_some {d : Nat} {q : Option Nat} (h : mts p r d q = true) : ∃ g, q = some g := by
  unfold mts at h
  simp at h
  exact Option.isSome_iff_exists.1 h.2
theorem Bnd.frm {d : Nat} (h : Bnd p k r) (hk : (at_ p r t).k = 2 ∨ (at_ p r t).k = 8) (hr : rdy p r d = true) : Bnd p (k + 1) (frm p r t d) := by
  have hp := (at_k (p := p) (r := r) (t := t) (by omega)).2.1
  unfold Loo.frm
  match e : r.hd d with
  | x :: l =>
    obtain ⟨h1, h2⟩ := h.pop e
    exact h1.got hp h2
  | [] =>
    unfold rdy at hr
    rw [e] at hr
    obtain ⟨g, hg⟩ := mts_some (p := p) (r := r) (d := d) (q := giv p r d) (by simpa using hr)
    obtain ⟨_, g2, _⟩ := giv_is hg
    have hne : t ≠ g := fun q => by rw [q] at hk; omega
    show Bnd p (k + 1) (Loo.got (on_ r ((giv p r d).getD 0)) t (r.rg ((giv p r d).getD 0)))
    rw [hg]
    exact (h.on (at_k (p := p) (r := r) (t := g) (by omega)).2.1).got (by show upf r.pl g _ t < _; rw [upf_ne _ _ hne]; exact hp) (h.rg g)
theorem Bnd.pt {d : Nat} (h : Bnd p k r) (hk : (at_ p r t).k = 1) (hm : r.cl d = true ∨ ((r.hd d).length : Int) < p.cap d ∨ mts p r d (tak p r d) = true) : Bnd p (k + 1) (pt_ p r t d) := by
  have hp := (at_k (p := p) (r := r) (t := t) (by omega)).2.1
  unfold pt_
  by_cases h1 : r.cl d = true
  · rw [if_pos h1]
    exact { h.up.on hp with lt := Nat.succ_le_succ h.lt }
  rw [if_neg h1]
  by_cases h2 : ((r.hd d).length : Int) < p.cap d
  · rw [if_pos h2]
    exact ((h.on hp).push (h.rg t) h2).up
  rw [if_neg h2]
  obtain ⟨g, hg⟩ := mts_some (hm.resolve_left h1 |>.resolve_left h2)
  obtain ⟨_, g2⟩ := tak_is hg
  have hne : g ≠ t := fun q => by rw [q] at g2; omega
  rw [hg]
  exact (h.on hp).got (by show upf r.pl t _ g < _; rw [upf_ne _ _ hne]; exact (at_k (p := p) (r := r) (t := g) (by omega)).2.1) (h.rg t)
/-- A pick keeps the bounds. -/
theorem Bnd.stp (hp : Okp p) (h : Bnd p k r) (ht : t < p.n) (hm : may p r t = true) : Bnd p (k + 1) (stp p r t) := by
  have hk : (at_ p r t).k ≠ 0 := fun e => by
    unfold may at hm
    simp only [e, if_true] at hm
    cases hm
  have hpl := (at_k hk).2.1
  have hr := at_ok hp ht hk
  unfold Loo.stp
  simp only
  by_cases k1 : (at_ p r t).k = 1
  · rw [if_pos k1]
    unfold may at hm
    simp only [k1] at hm
    simp [Bool.or_eq_true] at hm
    exact h.pt k1 (by rcases hm with (z | z) | z <;> simp [z])
  rw [if_neg k1]
  by_cases k2 : (at_ p r t).k = 2
  · rw [if_pos k2]
    by_cases q : rdy p r (at_ p r t).a.toNat = true
    · rw [if_pos q]; exact h.frm (Or.inl k2) q
    · rw [if_neg q]
      have := rgt_take hr k2
      exact h.up.go (by omega)
  rw [if_neg k2]
  by_cases k8 : (at_ p r t).k = 8
  · rw [if_pos k8]
    by_cases q : rdy p r (at_ p r t).a.toNat = true
    · rw [if_pos q]; exact h.frm (Or.inr k8) q
    rw [if_neg q]
    by_cases q2 : rdy p r (at_ p r t).b.toNat = true
    · rw [if_pos q2]; exact h.frm (Or.inr k8) q2
    rw [if_neg q2]
    by_cases q3 : 0 ≤ r.rg t ∧ r.rg t ≤ p.ln t
    · rw [if_pos q3]; exact h.up.go (by omega)
    · rw [if_neg q3]; exact { h.up with }
  rw [if_neg k8]
  by_cases k6 : (at_ p r t).k = 6
  · rw [if_pos k6]
    have := rgt_jump hr k6
    exact h.up.go (by omega)
  rw [if_neg k6]
  by_cases k7 : (at_ p r t).k = 7
  · rw [if_pos k7]
    have := rgt_unless hr k7
    by_cases q : r.rg t ≠ (at_ p r t).b
    · rw [if_pos q]; exact h.up.go (by omega)
    · rw [if_neg q]; exact h.up.on hpl
  rw [if_neg k7]
  by_cases k3 : (at_ p r t).k = 3
  · rw [if_pos k3]
    refine { h.up.on hpl with lt := ?_ }
    have := h.lt
    show (if r.cl _ = true then r.lt + 1 else r.lt) ≤ k + 1
    split <;> omega
  rw [if_neg k3]
  by_cases k4 : (at_ p r t).k = 4
  · rw [if_pos k4]
    have := rgt_num hr (Or.inl k4)
    exact (h.up.on hpl).set (t := t) ⟨by omega, by omega⟩
  rw [if_neg k4]
  by_cases k5 : (at_ p r t).k = 5
  · rw [if_pos k5]
    have := rgt_num hr (Or.inr k5)
    have := h.rg t
    unfold wi at this
    exact (h.up.on hpl).set (t := t) ⟨by omega, by omega⟩
  rw [if_neg k5]
  by_cases k10 : (at_ p r t).k = 10
  · rw [if_pos k10]; exact { h.up.on hpl with }
  · rw [if_neg k10]; exact h.up.on hpl
theorem Bnd.zero (hp : Okp p) : Bnd p 0 r0 :=
  ⟨fun _ _ => Nat.zero_le _, fun _ => (⟨by decide, by decide⟩ : wi 0 0), fun _ _ h => absurd h List.not_mem_nil, fun _ _ h => absurd h List.not_mem_nil, Nat.le_refl _, fun _ => Nat.le_refl _, fun i hi => (hp.cap i hi).1⟩
/-- The bounds all the way. -/
theorem rk_bnd {s : Nat → Int} {N : Nat} (hp : Okp p) (h : ∀ j, j < N → mayL p (rk p s j) ≠ []) : ∀ k, k ≤ N → Bnd p k (rk p s k)
  | 0, _ => Bnd.zero hp
  | k + 1, hk => by
    have hg := pk_is (h k (by omega))
    exact (rk_bnd hp h k (by omega)).stp hp hg.1 hg.2
end
end Go.Proofs.Ytcgkelgncehekab.Loo

namespace Go.Proofs.Ytcgkelgncehekab.Loo
/- LoomScripts, over lists: a script cut or filled up to the picks, and whatever behind it. Names nothing of a program. -/

/-- The script that LoomScripts hands in the second time. -/
def pad (N m : Nat) (sc more : Nat → Int) (j : Nat) : Int := if j < N then scr m sc j else more (j - N)
section
variable {p : Pl} {N m mm : Nat} {sc more : Nat → Int}
theorem pad_scr {j : Nat} (hj : j < N) : scr m sc j = scr (N + mm) (pad N m sc more) j := by
  unfold scr pad
  rw [if_pos (show j < N + mm by omega), if_pos hj]
  rfl
/-- The same picks, the same room, the same most. -/
theorem scripts_same (h : Run p (scr m sc) N) : Run p (scr (N + mm) (pad N m sc more)) N ∧ rk p (scr (N + mm) (pad N m sc more)) N = rk p (scr m sc) N ∧ mx p (scr (N + mm) (pad N m sc more)) N = mx p (scr m sc) N ∧ ∀ i, i < N → Loo.pk p (scr (N + mm) (pad N m sc more)) i = Loo.pk p (scr m sc) i :=
  ⟨h.cg fun j hj => pad_scr hj, (rk_cg fun j hj => pad_scr hj).symm, (mx_cg fun j hj => pad_scr hj).symm, fun i hi => (pk_cg fun j hj => pad_scr (by omega)).symm⟩
/-- Every pick is a task. -/
theorem picks_in {s : Nat → Int} (h : Run p s N) {i : Nat} (hi : i < N) : Loo.pk p s i < p.n := (pk_is (h.go i hi)).1
end
end Go.Proofs.Ytcgkelgncehekab.Loo
