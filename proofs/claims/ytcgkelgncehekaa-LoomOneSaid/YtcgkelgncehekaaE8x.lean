import Derived.Test.YtcgkelgncehekaaE8m
namespace Go.Proofs.Ytcgkelgncehekaa.Loo
/- Bounds of a run: places within the operations, numbers within 1024 times the picks, ducts within their capacities. Names nothing of a program. -/

/-- What Check lets through. -/
structure Okp (p : Pl) : Prop where
  n : p.n ≤ 128
  d : p.d ≤ 64
  ln : ∀ t, t < p.n → p.ln t ≤ 256
  cap : ∀ i, i < p.d → 0 ≤ p.cap i ∧ p.cap i ≤ 1024
  op : ∀ t, t < p.n → ∀ j, j < p.ln t → rgt (p.op t j) (p.ln t) p.d p.n = true
theorem any_false {n : Nat} {f : Nat → Bool} (h : ¬ (List.range n).any f = true) {i : Nat} (hi : i < n) : f i = false := by
  cases e : f i with
  | false => rfl
  | true => exact absurd (List.any_eq_true.2 ⟨i, List.mem_range.2 hi, e⟩) h
theorem chk_okp {p : Pl} (h : chk p = 0) : Okp p := by
  unfold chk at h
  by_cases h1 : 128 < p.n ∨ 64 < p.d
  · rw [if_pos h1] at h; cases h
  rw [if_neg h1] at h
  by_cases h2 : lnB p = true
  · rw [if_pos h2] at h; cases h
  rw [if_neg h2] at h
  by_cases h3 : cpB p = true
  · rw [if_pos h3] at h; cases h
  rw [if_neg h3] at h
  by_cases h4 : opB p = true
  · rw [if_pos h4] at h; cases h
  refine ⟨by omega, by omega, fun t ht => ?_, fun i hi => ?_, fun t ht j hj => ?_⟩
  · have := of_decide_eq_false (any_false h2 ht); omega
  · have h5 := any_false h3 hi
    have h6 : inB (p.cap i) 0 1024 = true := by simpa using h5
    exact of_decide_eq_true h6
  · have h5 := any_false h4 ht
    have h6 := any_false (fun z => by rw [h5] at z; cases z) hj
    simpa using h6
section
variable {o : Op3} {ops d n : Nat}
theorem inB_is {x lo hi : Int} (h : inB x lo hi = true) : lo ≤ x ∧ x ≤ hi := of_decide_eq_true h
theorem rgt_put (h : rgt o ops d n = true) (k : o.k = 1 ∨ o.k = 3) : 0 ≤ o.a ∧ o.a.toNat < d := by
  unfold rgt at h
  rw [if_pos k] at h
  have := inB_is h
  omega
theorem rgt_take (h : rgt o ops d n = true) (k : o.k = 2) : (0 ≤ o.a ∧ o.a.toNat < d) ∧ 0 ≤ o.b ∧ o.b ≤ ops := by
  unfold rgt at h
  rw [if_neg (by omega), if_pos k, Bool.and_eq_true] at h
  have h1 := inB_is h.1
  have h2 := inB_is h.2
  omega
theorem rgt_choose (h : rgt o ops d n = true) (k : o.k = 8) : (0 ≤ o.a ∧ o.a.toNat < d) ∧ 0 ≤ o.b ∧ o.b.toNat < d := by
  unfold rgt at h
  rw [if_neg (by omega), if_neg (by omega), if_pos k, Bool.and_eq_true] at h
  have h1 := inB_is h.1
  have h2 := inB_is h.2
  omega
theorem rgt_num (h : rgt o ops d n = true) (k : o.k = 4 ∨ o.k = 5) : -1024 ≤ o.a ∧ o.a ≤ 1024 := by
  unfold rgt at h
  rw [if_neg (by omega), if_neg (by omega), if_neg (by omega), if_pos k] at h
  exact inB_is h
theorem rgt_jump (h : rgt o ops d n = true) (k : o.k = 6) : 0 ≤ o.a ∧ o.a ≤ ops := by
  unfold rgt at h
  rw [if_neg (by omega), if_neg (by omega), if_neg (by omega), if_neg (by omega), if_pos k] at h
  exact inB_is h
theorem rgt_unless (h : rgt o ops d n = true) (k : o.k = 7) : (0 ≤ o.a ∧ o.a ≤ ops) ∧ -1024 ≤ o.b ∧ o.b ≤ 1024 := by
  unfold rgt at h
  rw [if_neg (by omega), if_neg (by omega), if_neg (by omega), if_neg (by omega), if_neg (by omega), if_pos k, Bool.and_eq_true] at h
  exact ⟨inB_is h.1, inB_is h.2⟩
theorem rgt_wait (h : rgt o ops d n = true) (k : o.k = 9) : 0 ≤ o.a ∧ o.a.toNat < n := by
  unfold rgt at h
  rw [if_neg (by omega), if_neg (by omega), if_neg (by omega), if_neg (by omega), if_neg (by omega), if_neg (by omega), if_pos k] at h
  have := inB_is h
  omega
end
section
variable {p : Pl} {r : Rm} {k t : Nat}
theorem at_k (hk : (at_ p r t).k ≠ 0) : r.en t = false ∧ r.pl t < p.ln t ∧ at_ p r t = p.op t (r.pl t) := by
  by_cases h : gone p r t = true
  · exact absurd (by unfold at_; rw [if_pos h]) hk
  · refine ⟨?_, ?_, by unfold at_; rw [if_neg h]⟩
    · unfold gone at h
      simp at h
      exact h.1
    · unfold gone at h
      simp at h
      exact h.2
theorem at_ok (hp : Okp p) (ht : t < p.n) (hk : (at_ p r t).k ≠ 0) : rgt (at_ p r t) (p.ln t) p.d p.n = true := by
  obtain ⟨_, h1, h2⟩ := at_k hk
  rw [h2]
  exact hp.op t ht _ h1
def wi (k : Nat) (x : Int) : Prop := -(1024 * (k : Int)) ≤ x ∧ x ≤ 1024 * (k : Int)
theorem wi.up {x : Int} (h : wi k x) : wi (k + 1) x := by
  have h1 := h.1
  have h2 := h.2
  constructor <;> omega
/-- The bounds behind k picks. -/
structure Bnd (p : Pl) (k : Nat) (r : Rm) : Prop where
  pl : ∀ t, t < p.n → r.pl t ≤ p.ln t
  rg : ∀ t, wi k (r.rg t)
  tk : ∀ t x, x ∈ r.tk t → wi k x
  hd : ∀ d x, x ∈ r.hd d → wi k x
  lt : r.lt ≤ k
  ln : ∀ t, (r.tk t).length ≤ k
  cp : ∀ d, d < p.d → ((r.hd d).length : Int) ≤ p.cap d
theorem Bnd.up (h : Bnd p k r) : Bnd p (k + 1) r :=
  ⟨h.pl, fun t => (h.rg t).up, fun t x hx => (h.tk t x hx).up, fun d x hx => (h.hd d x hx).up, Nat.le_succ_of_le h.lt, fun t => Nat.le_succ_of_le (h.ln t), h.cp⟩
theorem Bnd.go {b : Nat} (h : Bnd p k r) (hb : b ≤ p.ln t) : Bnd p k { r with pl := upf r.pl t b } := by
  refine { h with pl := fun u hu => ?_ }
  show upf r.pl t b u ≤ p.ln u
  by_cases e : u = t
  · rw [e, upf_at]; exact hb
  · rw [upf_ne _ _ e]; exact h.pl u hu
theorem Bnd.on (h : Bnd p k r) (hb : r.pl t < p.ln t) : Bnd p k (on_ r t) := h.go hb
theorem Bnd.set {x : Int} (h : Bnd p k r) (hx : wi k x) : Bnd p k { r with rg := upf r.rg t x } := by
  refine { h with rg := fun u => ?_ }
  show wi k (upf r.rg t x u)
  by_cases e : u = t
  · rw [e, upf_at]; exact hx
  · rw [upf_ne _ _ e]; exact h.rg u
theorem Bnd.got {x : Int} (h : Bnd p k r) (hb : r.pl t < p.ln t) (hx : wi k x) : Bnd p (k + 1) (got r t x) := by
  have h1 := (h.up.on hb).set (t := t) hx.up
  exact { h1 with
    tk := fun u y hy => by
      have hy : y ∈ upf r.tk t (r.tk t ++ [x]) u := hy
      by_cases e : u = t
      · rw [e, upf_at] at hy
        rcases List.mem_append.1 hy with q | q
        · exact (h.tk t y q).up
        · rw [List.mem_singleton.1 q]; exact hx.up
      · rw [upf_ne _ _ e] at hy; exact (h.tk u y hy).up
    ln := fun u => by
      show (upf r.tk t (r.tk t ++ [x]) u).length ≤ k + 1
      by_cases e : u = t
      · rw [e, upf_at, List.length_append]
        have := h.ln t
        simp
        omega
      · rw [upf_ne _ _ e]; exact Nat.le_succ_of_le (h.ln u) }
theorem Bnd.pop {x : Int} {l : List Int} {d : Nat} (h : Bnd p k r) (e : r.hd d = x :: l) : Bnd p k { r with hd := upf r.hd d l } ∧ wi k x := by
  refine ⟨{ h with hd := fun i y hy => ?_, cp := fun i hi => ?_ }, h.hd d x (by rw [e]; exact List.mem_cons_self)⟩
  · have hy : y ∈ upf r.hd d l i := hy
    by_cases q : i = d
    · rw [q, upf_at] at hy
      exact h.hd d y (by rw [e]; exact List.mem_cons_of_mem _ hy)
    · rw [upf_ne _ _ q] at hy; exact h.hd i y hy
  · show ((upf r.hd d l i).length : Int) ≤ _
    by_cases q : i = d
    · rw [q, upf_at]
      have h1 := h.cp i hi
      rw [q, e] at h1
      simp at h1
      omega
    · rw [upf_ne _ _ q]; exact h.cp i hi
theorem Bnd.push {x : Int} {d : Nat} (h : Bnd p k r) (hx : wi k x) (hc : ((r.hd d).length : Int) < p.cap d) : Bnd p k { r with hd := upf r.hd d (r.hd d ++ [x]) } := by
  refine { h with hd := fun i y hy => ?_, cp := fun i hi => ?_ }
  · have hy : y ∈ upf r.hd d (r.hd d ++ [x]) i := hy
    by_cases q : i = d
    · rw [q, upf_at] at hy
      rcases List.mem_append.1 hy with z | z
      · exact h.hd d y z
      · rw [List.mem_singleton.1 z]; exact hx
    · rw [upf_ne _ _ q] at hy; exact h.hd i y hy
  · show ((upf r.hd d (r.hd d ++ [x]) i).length : Int) ≤ _
    by_cases q : i = d
    · rw [q, upf_at, List.length_append]
      simp
      omega
    · rw [upf_ne _ _ q]; exact h.cp i hi
theorem giv_is {d g : Nat} (h : giv p r d = some g) : g < p.n ∧ (at_ p r g).k = 1 ∧ (at_ p r g).a = d := by
  have h1 := List.find?_some h
  have h2 := List.mem_of_find?_eq_some h
  exact ⟨List.mem_range.1 h2, of_decide_eq_true h1⟩
theorem tak_is {d g : Nat} (h : tak p r d = some g) : g < p.n ∧ ((at_ p r g).k = 2 ∨ (at_ p r g).k = 8) := by
  have h1 := List.find?_some h
  have h2 := List.mem_of_find?_eq_some h
  refine ⟨List.mem_range.1 h2, ?_⟩
  rcases (of_decide_eq_true h1 : _ ∨ _) with z | z
  · exact z.1
  · exact Or.inr z.1
theorem mts_some {d : Nat} {q : Option Nat} (h : mts p r d q = true) : ∃ g, q = some g := by
  unfold mts at h
  simp at h
  exact Option.isSome_iff_exists.1 h.2
theorem Bnd.frm {d : Nat} (h : Bnd p k r) (hk : (at_ p r t).k = 2 ∨ (at_ p r t).k = 8) (hr : rdy p r d = true) : Bnd p (k + 1) (frm p r t d) := by
  have hp := (at_k (p := p) (r := r) (t := t) (by omega)).2.1
  unfold Loo.frm
  match e : r.hd d with
  | x :: l =>
    obtain ⟨h1, h2⟩ := h.pop e
    exact h1.got hp h2
  | [] =>
    unfold rdy at hr
    rw [e] at hr
    obtain ⟨g, hg⟩ := mts_some (p := p) (r := r) (d := d) (q := giv p r d) (by simpa using hr)
    obtain ⟨_, g2, _⟩ := giv_is hg
    have hne : t ≠ g := fun q => by rw [q] at hk; omega
    show Bnd p (k + 1) (Loo.got (on_ r ((giv p r d).getD 0)) t (r.rg ((giv p r d).getD 0)))
    rw [hg]
    exact (h.on (at_k (p := p) (r := r) (t := g) (by omega)).2.1).got (by show upf r.pl g _ t < _; rw [upf_ne _ _ hne]; exact hp) (h.rg g)
theorem Bnd.pt {d : Nat} (h : Bnd p k r) (hk : (at_ p r t).k = 1) (hm : r.cl d = true ∨ ((r.hd d).length : Int) < p.cap d ∨ mts p r d (tak p r d) = true) : Bnd p (k + 1) (pt_ p r t d) := by
  have hp := (at_k (p := p) (r := r) (t := t) (by omega)).2.1
  unfold pt_
  by_cases h1 : r.cl d = true
  · rw [if_pos h1]
    exact { h.up.on hp with lt := Nat.succ_le_succ h.lt }
  rw [if_neg h1]
  by_cases h2 : ((r.hd d).length : Int) < p.cap d
  · rw [if_pos h2]
    exact ((h.on hp).push (h.rg t) h2).up
  rw [if_neg h2]
  obtain ⟨g, hg⟩ := mts_some (hm.resolve_left h1 |>.resolve_left h2)
  obtain ⟨_, g2⟩ := tak_is hg
  have hne : g ≠ t := fun q => by rw [q] at g2; omega
  rw [hg]
  exact (h.on hp).got (by show upf r.pl t _ g < _; rw [upf_ne _ _ hne]; exact (at_k (p := p) (r := r) (t := g) (by omega)).2.1) (h.rg t)
/-- A pick keeps the bounds. -/
theorem Bnd.stp (hp : Okp p) (h : Bnd p k r) (ht : t < p.n) (hm : may p r t = true) : Bnd p (k + 1) (stp p r t) := by
  have hk : (at_ p r t).k ≠ 0 := fun e => by
    unfold may at hm
    simp only [e, if_true] at hm
    cases hm
  have hpl := (at_k hk).2.1
  have hr := at_ok hp ht hk
  unfold Loo.stp
  simp only
  by_cases k1 : (at_ p r t).k = 1
  · rw [if_pos k1]
    unfold may at hm
    simp only [k1] at hm
    simp [Bool.or_eq_true] at hm
    exact h.pt k1 (by rcases hm with (z | z) | z <;> simp [z])
  rw [if_neg k1]
  by_cases k2 : (at_ p r t).k = 2
  · rw [if_pos k2]
    by_cases q : rdy p r (at_ p r t).a.toNat = true
    · rw [if_pos q]; exact h.frm (Or.inl k2) q
    · rw [if_neg q]
      have := rgt_take hr k2
      exact h.up.go (by omega)
  rw [if_neg k2]
  by_cases k8 : (at_ p r t).k = 8
  · rw [if_pos k8]
    by_cases q : rdy p r (at_ p r t).a.toNat = true
    · rw [if_pos q]; exact h.frm (Or.inr k8) q
    rw [if_neg q]
    by_cases q2 : rdy p r (at_ p r t).b.toNat = true
    · rw [if_pos q2]; exact h.frm (Or.inr k8) q2
    rw [if_neg q2]
    by_cases q3 : 0 ≤ r.rg t ∧ r.rg t ≤ p.ln t
    · rw [if_pos q3]; exact h.up.go (by omega)
    · rw [if_neg q3]; exact { h.up with }
  rw [if_neg k8]
  by_cases k6 : (at_ p r t).k = 6
  · rw [if_pos k6]
    have := rgt_jump hr k6
    exact h.up.go (by omega)
  rw [if_neg k6]
  by_cases k7 : (at_ p r t).k = 7
  · rw [if_pos k7]
    have := rgt_unless hr k7
    by_cases q : r.rg t ≠ (at_ p r t).b
    · rw [if_pos q]; exact h.up.go (by omega)
    · rw [if_neg q]; exact h.up.on hpl
  rw [if_neg k7]
  by_cases k3 : (at_ p r t).k = 3
  · rw [if_pos k3]
    refine { h.up.on hpl with lt := ?_ }
    have := h.lt
    show (if r.cl _ = true then r.lt + 1 else r.lt) ≤ k + 1
    split <;> omega
  rw [if_neg k3]
  by_cases k4 : (at_ p r t).k = 4
  · rw [if_pos k4]
    have := rgt_num hr (Or.inl k4)
    exact (h.up.on hpl).set (t := t) ⟨by omega, by omega⟩
  rw [if_neg k4]
  by_cases k5 : (at_ p r t).k = 5
  · rw [if_pos k5]
    have := rgt_num hr (Or.inr k5)
    have := h.rg t
    unfold wi at this
    exact (h.up.on hpl).set (t := t) ⟨by omega, by omega⟩
  rw [if_neg k5]
  by_cases k10 : (at_ p r t).k = 10
  · rw [if_pos k10]; exact { h.up.on hpl with }
  · rw [if_neg k10]; exact h.up.on hpl
theorem Bnd.zero (hp : Okp p) : Bnd p 0 r0 :=
  ⟨fun _ _ => Nat.zero_le _, fun _ => (⟨by decide, by decide⟩ : wi 0 0), fun _ _ h => absurd h List.not_mem_nil, fun _ _ h => absurd h List.not_mem_nil, Nat.le_refl _, fun _ => Nat.le_refl _, fun i hi => (hp.cap i hi).1⟩
end
end Go.Proofs.Ytcgkelgncehekaa.Loo
