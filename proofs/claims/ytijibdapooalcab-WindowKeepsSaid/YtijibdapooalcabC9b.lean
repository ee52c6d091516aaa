import Derived.Test.YtijibdapooalcabC9a
namespace Go.Proofs.Ytijibdapooalcab.Win
/- Windows as plain data: what Check, Open and Add answer; right stays right, in pieces. Names nothing of a program. -/

abbrev Ep := Int × List Nat
abbrev Wn := Int × List Ep
def wAll (es : List Ep) : List Nat := es.flatMap (·.2)
def wLen (es : List Ep) : Nat := (wAll es).length
theorem all_nil : wAll [] = [] := rfl
theorem all_cons (x : Ep) (es : List Ep) : wAll (x :: es) = x.2 ++ wAll es := rfl
theorem len_cons (x : Ep) (es : List Ep) : wLen (x :: es) = x.2.length + wLen es := by
  unfold wLen
  rw [all_cons, List.length_append]
theorem mem_all {z : Nat} {es : List Ep} : z ∈ wAll es ↔ ∃ x ∈ es, z ∈ x.2 := List.mem_flatMap
/-- An epoch of a right window. -/
abbrev OkE (n s : Int) (x : Ep) : Prop := 0 ≤ x.1 ∧ x.1 ≤ n ∧ n - s < x.1 ∧ x.2 ≠ [] ∧ x.2.Pairwise (· < ·)
abbrev Rise (es : List Ep) : Prop := es.Pairwise (fun a b => a.1 < b.1)
/-- A right window. -/
abbrev Rgt (w : Wn) (s r : Int) : Prop := 1 ≤ s ∧ s ≤ 8 ∧ 0 ≤ r ∧ r ≤ 4096 ∧ 0 ≤ w.1 ∧ w.1 ≤ 4611686018427387904 ∧ ((wLen w.2 : Nat) : Int) ≤ r ∧ (∀ x ∈ w.2, OkE w.1 s x) ∧ Rise w.2 ∧ (wAll w.2).Nodup
def wChk (w : Wn) (s r : Int) : Nat := if Rgt w s r then 0 else 2
abbrev opA (ep s : Int) : Prop := 1 ≤ s ∧ s ≤ 8 ∧ 0 ≤ ep ∧ ep ≤ 4611686018427387904
abbrev opB (w : Wn) (ep s : Int) : Prop := ep + s ≤ w.1 ∨ w.1 < ep - 1024
def opW (w : Wn) (ep s : Int) : Wn := (max w.1 ep, w.2.filter fun x => decide (max w.1 ep - s < x.1))
def wOpen (w : Wn) (ep s : Int) : Wn × Nat := if opA ep s then (if opB w ep s then ((0, []), 161) else (opW w ep s, 0)) else ((0, []), 2)
/-- The new tags. -/
def frs (es : List Ep) (tags : List Nat) : List Nat := srt (tags.filter fun x => decide (x ∉ wAll es))
def putE : List Ep → Int → List Nat → List Ep
  | [], e, f => [(e, f)]
  | x :: r, e, f => if e < x.1 then (e, f) :: x :: r else if x.1 = e then (x.1, srt (x.2 ++ f)) :: r else x :: putE r e f
def putW (es : List Ep) (e : Int) (f : List Nat) : List Ep := if f = [] then es else putE es e f
abbrev adA (w : Wn) (r : Int) : Prop := 0 ≤ r ∧ r ≤ 4096 ∧ Rgt w 8 4096
abbrev adB (w : Wn) (ep : Int) : Prop := 0 ≤ ep ∧ ep ≤ w.1 ∧ w.1 - 8 < ep
abbrev adC (w : Wn) (tags : List Nat) (r : Int) : Prop := ((wLen w.2 + (frs w.2 tags).length : Nat) : Int) ≤ r
def wAdd (w : Wn) (ep : Int) (tags : List Nat) (r : Int) : Wn × Nat :=
  if adA w r then (if adB w ep then (if adC w tags r then ((w.1, putW w.2 ep (frs w.2 tags)), 0) else ((0, []), 160)) else ((0, []), 161)) else ((0, []), 2)
theorem mem_frs {es : List Ep} {tags : List Nat} {x : Nat} : x ∈ frs es tags ↔ x ∈ tags ∧ x ∉ wAll es := by
  unfold frs
  rw [mem_srt, List.mem_filter, decide_eq_true_iff]
theorem inc_frs {es : List Ep} {tags : List Nat} : Inc (frs es tags) := inc_srt
theorem put_all {e : Int} {f : List Nat} {z : Nat} : ∀ {es : List Ep}, z ∈ wAll (putE es e f) ↔ z ∈ wAll es ∨ z ∈ f
  | [] => by rw [putE, all_cons, all_nil, List.append_nil]; simp
  | x :: r => by
    unfold putE
    by_cases h1 : e < x.1
    · rw [if_pos h1, all_cons, List.mem_append]
      exact Or.comm
    · rw [if_neg h1]
      by_cases h2 : x.1 = e
      · rw [if_pos h2, all_cons, List.mem_append, mem_srt, List.mem_append, all_cons, List.mem_append]
        constructor
        · rintro ((h | h) | h)
          · exact Or.inl (Or.inl h)
          · exact Or.inr h
          · exact Or.inl (Or.inr h)
        · rintro ((h | h) | h)
          · exact Or.inl (Or.inl h)
          · exact Or.inr h
          · exact Or.inl (Or.inr h)
      · rw [if_neg h2, all_cons, List.mem_append, put_all, all_cons, List.mem_append, or_assoc]
theorem putW_all {es : List Ep} {e : Int} {f : List Nat} {z : Nat} : z ∈ wAll (putW es e f) ↔ z ∈ wAll es ∨ z ∈ f := by
  unfold putW
  by_cases h : f = []
  · rw [if_pos h, h]; simp
  · rw [if_neg h]; exact put_all
theorem put_len {e : Int} {f : List Nat} (hf : Inc f) : ∀ {es : List Ep}, (∀ x ∈ es, Inc x.2) → (∀ z, z ∈ f → z ∉ wAll es) → wLen (putE es e f) = wLen es + f.length
  | [], _, _ => by rw [putE, len_cons]; show f.length + 0 = 0 + f.length; omega
  | x :: r, h, hd => by
    have d1 : ∀ z, z ∈ x.2 → z ∉ f := fun z h1 h2 => hd z h2 (by rw [all_cons, List.mem_append]; exact Or.inl h1)
    have d2 : ∀ z, z ∈ f → z ∉ wAll r := fun z h1 h2 => hd z h1 (by rw [all_cons, List.mem_append]; exact Or.inr h2)
    unfold putE
    by_cases h1 : e < x.1
    · rw [if_pos h1, len_cons (e, f)]
      show f.length + wLen (x :: r) = _
      omega
    · rw [if_neg h1]
      by_cases h2 : x.1 = e
      · rw [if_pos h2, len_cons, len_cons, srt_app (h x (by simp)) hf d1]; omega
      · rw [if_neg h2, len_cons, len_cons, put_len hf (fun y hy => h y (List.mem_cons_of_mem _ hy)) d2]; omega
theorem putW_len {es : List Ep} {e : Int} {f : List Nat} (hf : Inc f) (h : ∀ x ∈ es, Inc x.2) (hd : ∀ z, z ∈ f → z ∉ wAll es) : wLen (putW es e f) = wLen es + f.length := by
  unfold putW
  by_cases q : f = []
  · rw [if_pos q, q]; rfl
  · rw [if_neg q]; exact put_len hf h hd
theorem put_num {e : Int} {f : List Nat} : ∀ {es : List Ep}, ∀ x ∈ putE es e f, x.1 = e ∨ ∃ y ∈ es, y.1 = x.1
  | [], x, hx => by
    rw [putE, List.mem_singleton] at hx
    exact Or.inl (by rw [hx])
  | y :: r, x, hx => by
    unfold putE at hx
    by_cases h1 : e < y.1
    · rw [if_pos h1] at hx
      rcases List.mem_cons.1 hx with h | h
      · exact Or.inl (by rw [h])
      · exact Or.inr ⟨x, h, rfl⟩
    · rw [if_neg h1] at hx
      by_cases h2 : y.1 = e
      · rw [if_pos h2] at hx
        rcases List.mem_cons.1 hx with h | h
        · exact Or.inl (by rw [h]; exact h2)
        · exact Or.inr ⟨x, List.mem_cons_of_mem _ h, rfl⟩
      · rw [if_neg h2] at hx
        rcases List.mem_cons.1 hx with h | h
        · exact Or.inr ⟨y, by simp, by rw [h]⟩
        · rcases put_num x h with q | ⟨z, hz, q⟩
          · exact Or.inl q
          · exact Or.inr ⟨z, List.mem_cons_of_mem _ hz, q⟩
theorem put_rise {e : Int} {f : List Nat} : ∀ {es : List Ep}, Rise es → Rise (putE es e f)
  | [], _ => by rw [putE]; exact List.pairwise_singleton _ _
  | y :: r, h => by
    obtain ⟨h0, h'⟩ := List.pairwise_cons.1 h
    unfold putE
    by_cases h1 : e < y.1
    · rw [if_pos h1]
      exact List.pairwise_cons.2 ⟨fun z hz => by
        rcases List.mem_cons.1 hz with q | q
        · rw [q]; exact h1
        · have := h0 z q; show e < z.1; omega, h⟩
    · rw [if_neg h1]
      by_cases h2 : y.1 = e
      · rw [if_pos h2]; exact List.pairwise_cons.2 ⟨h0, h'⟩
      · rw [if_neg h2]
        exact List.pairwise_cons.2 ⟨fun z hz => by
          rcases put_num z hz with q | ⟨t, ht, q⟩
          · omega
          · have := h0 t ht; omega, put_rise h'⟩
theorem put_ok {n s e : Int} {f : List Nat} (he : 0 ≤ e ∧ e ≤ n ∧ n - s < e) (hf : Inc f) (hne : f ≠ []) : ∀ {es : List Ep}, (∀ x ∈ es, OkE n s x) → ∀ x ∈ putE es e f, OkE n s x
  | [], _, x, hx => by
    rw [putE, List.mem_singleton] at hx
    subst hx
    exact ⟨he.1, he.2.1, he.2.2, hne, hf⟩
  | y :: r, h, x, hx => by
    unfold putE at hx
    by_cases h1 : e < y.1
    · rw [if_pos h1] at hx
      rcases List.mem_cons.1 hx with q | q
      · subst q; exact ⟨he.1, he.2.1, he.2.2, hne, hf⟩
      · exact h x q
    · rw [if_neg h1] at hx
      by_cases h2 : y.1 = e
      · rw [if_pos h2] at hx
        rcases List.mem_cons.1 hx with q | q
        · subst q
          have hy := h y (by simp)
          refine ⟨hy.1, hy.2.1, hy.2.2.1, fun q => hne ?_, inc_srt⟩
          refine List.eq_nil_iff_forall_not_mem.2 fun z hz => ?_
          have : z ∈ srt (y.2 ++ f) := mem_srt.2 (List.mem_append.2 (Or.inr hz))
          rw [show srt (y.2 ++ f) = [] from q] at this
          cases this
        · exact h x (List.mem_cons_of_mem _ q)
      · rw [if_neg h2] at hx
        rcases List.mem_cons.1 hx with q | q
        · subst q; exact h _ (by simp)
        · exact put_ok he hf hne (fun z hz => h z (List.mem_cons_of_mem _ hz)) x q
theorem nodup_of {a b : List Nat} (hs : ∀ x, x ∈ a ↔ x ∈ b) (hl : a.length = b.length) (hb : b.Nodup) : a.Nodup := srt_len.1 (by rw [srt_same hs, hl]; exact srt_len.2 hb)
/-- Right stays right: Add. -/
theorem put_right {w : Wn} {s r r2 e : Int} {f : List Nat} (h : Rgt w s r2) (hf : Inc f) (hd : ∀ z, z ∈ f → z ∉ wAll w.2) (he : 0 ≤ e ∧ e ≤ w.1 ∧ w.1 - s < e) (hr : 0 ≤ r ∧ r ≤ 4096) (hc : ((wLen w.2 + f.length : Nat) : Int) ≤ r) : Rgt (w.1, putW w.2 e f) s r := by
  obtain ⟨h1, h2, h3, h4, h5, h6, h7, h8, h9, h10⟩ := h
  have hinc : ∀ x ∈ w.2, Inc x.2 := fun x hx => (h8 x hx).2.2.2.2
  have hl := putW_len (e := e) hf hinc hd
  have hn : (wAll (putW w.2 e f)).Nodup := nodup_of (b := wAll w.2 ++ f) (fun x => by rw [putW_all, List.mem_append]) (by
    show wLen (putW w.2 e f) = _
    rw [hl, List.length_append]; rfl) (List.nodup_append.2 ⟨h10, inc_nodup hf, fun x hx y hy e => hd y hy (e ▸ hx)⟩)
  refine ⟨h1, h2, hr.1, hr.2, h5, h6, by show ((wLen (putW w.2 e f) : Nat) : Int) ≤ r; rw [hl]; exact hc, ?_, ?_, hn⟩
  · show ∀ x ∈ putW w.2 e f, OkE w.1 s x
    unfold putW
    by_cases q : f = []
    · rw [if_pos q]; exact h8
    · rw [if_neg q]; exact put_ok he hf q h8
  · show Rise (putW w.2 e f)
    unfold putW
    by_cases q : f = []
    · rw [if_pos q]; exact h9
    · rw [if_neg q]; exact put_rise h9
end Go.Proofs.Ytijibdapooalcab.Win
