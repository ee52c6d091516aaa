import Derived.Test.YtijibdapooalcabJ9k
namespace Go.Proofs.Ytijibdapooalcab.Win
open Go.RowKit Gf8 Aes By8 Cel Cf
/- slices.Insert of one epoch. Written by tools/mkJ9l.py. -/

theorem grown_below {V X : World} {b : Option Nat} (h : Below V.heap.size V X) : V.grownBy X b := ⟨h.os, h.tape, h.output, h.size, fun k hk _ => h.block k hk⟩
theorem grown_thenB {V W X : World} {b : Option Nat} (h : V.grownBy W b) (hb : Below W.heap.size W X) : V.grownBy X b := ⟨hb.os.trans h.os, hb.tape.trans h.tape, hb.output.trans h.output, Nat.le_trans h.size hb.size, fun k hk hne => (hb.block k (Nat.lt_of_lt_of_le hk h.size)).trans (h.block k hk hne)⟩
theorem grown_setNew {V W : World} {g : Nat} {b : Option Nat} {c : Array Value} (h : V.grownBy W b) (hg : V.heap.size ≤ g) : V.grownBy (W.setRow g c) b :=
  ⟨h.os, h.tape, h.output, by have := h.size; simpa [World.setRow] using this, fun k hk hne => by
    rw [setRow_other _ _ _ _ (by omega)]
    exact h.block k hk hne⟩
set_option maxRecDepth 100000 in
set_option maxHeartbeats 4000000 in
/-- slices.Insert at the end. -/
theorem pins_end (v : Value) (n i : Nat) (nu : Nat → Int) (tw : Nat → Value) (z : Int) (u : Value) (gx B : Nat) (V : World) (hx : V.heap[gx]? = some (.cells (epC z u) 47)) (hu : u.oneCell' = true) (hi : i ≤ n) (hB : B ≤ V.heap.size) (hn : (n + 1) * 32 ≤ 140737488355328) (hown : V.ownsRow B 47 2 v n (epV nu tw n)) (hin : i = n) :
    Calls Try.prog 35 #[v, .int .i64 ((i : Nat) : Int), .slice (some ⟨gx, 0, none⟩) 1 1] V fun e w' => ∃ r, e = .returned r ∧ w'.ownsRow B 47 2 r (n + 1) (epV (insF nu i z) (insF tw i u) (n + 1)) ∧ V.grownBy w' (Value.ownBlock (v)) := by
  go_enter Try.func35, Try.ntmps35
  refine wo_ 95 [(0, v), (1, .int .i64 ((i : Nat) : Int)), (2, .slice (some ⟨gx, 0, none⟩) 1 1)] ?_
  rintro a A ⟨t0, t1, t2, -⟩
  refine wp_seq ?_
  refine wi_ A (h3_ t0 t1 t2) (rf_ [] (h3_ t0 t1 t2) ?_)
  rintro a A - ⟨t0, t1, t2, -⟩
  obtain ⟨r12, hr12⟩ := slE_any hown hi
  refine wp_seq ?_
  refine wi_ A (h3_ t0 t1 t2) (rv_ 2 (r12) (fun a ee => execSlLE rfl (ee _) (ee _) (hr12 V)) (rf_ [] (h3_ t0 t1 t2) ?_))
  rintro a A - ⟨t0, t1, t2, -⟩
  refine wp_seq ?_
  refine wi_ A (h3_ t0 t1 t2) (rv_ 1 (.int .i64 ((1 : Nat) : Int)) (fun a ee => execLenEs (len := 1) rfl (ee _) ⟨_, _, rfl⟩) (rf_ [(7, .int .i64 ((1 : Nat) : Int))] (h3_ t0 t1 t2) ?_))
  rintro a A ⟨t7, -⟩ ⟨t0, t1, t2, -⟩
  refine wp_seq ?_
  refine wp_seq ?_
  refine wi_ A (h4_ t0 t1 t2 t7) (rv_ 1 (.bool false) (fun a ee => execDec (execEqN (p := 1) (q := 0) rfl (ee _) rfl) (decide_eq_false (by omega))) (rf_ [(16, .bool false)] (h4_ t0 t1 t2 t7) ?_))
  rintro a A ⟨t16, -⟩ ⟨t0, t1, t2, t7, -⟩
  refine wp_cond_false t16 ?_
  refine wp_skip ?_
  clear t16
  refine wp_seq ?_
  refine wi_ A (h4_ t0 t1 t2 t7) (rv_ 1 (.int .i64 ((n : Nat) : Int)) (fun a ee => execLenEs (len := n) rfl (ee _) (by obtain ⟨g_, n_, c_, e_⟩ := ownE_shp hown; rcases hown.2 with ⟨q_, q2_⟩ | ⟨g2, c2, _, q_, _⟩; exact ⟨_, _, q2_ ▸ q_⟩; exact ⟨_, _, q_⟩)) (rf_ [(8, .int .i64 ((n : Nat) : Int))] (h4_ t0 t1 t2 t7) ?_))
  rintro a A ⟨t8, -⟩ ⟨t0, t1, t2, t7, -⟩
  refine wp_seq ?_
  refine wp_seq ?_
  refine wi_ A (h5_ t0 t1 t2 t7 t8) (rv_ 2 (.bool true) (fun a ee => execDec (execEqN (p := i) (q := n) rfl (ee _) (ee _)) (decide_eq_true (by omega))) (rf_ [(22, .bool true)] (h5_ t0 t1 t2 t7 t8) ?_))
  rintro a A ⟨t22, -⟩ ⟨t0, t1, t2, t7, t8, -⟩
  refine wp_cond_true t22 ?_
  clear t22
  refine wp_seq ?_
  refine wi_ A (h5_ t0 t1 t2 t7 t8) (rs_ 2 (fun a ee => ?_))
  refine stepAppE rfl rfl rfl (ee _) (ee _) hown hx hu (by omega) hB fun v25 X7 own' gr => ⟨_, ⟨_, rfl, rfl⟩, eqw ?_⟩
  obtain ⟨BB, FR, FW⟩ : True ∧ (X7.ownsRow B 47 2 v25 (n + 1) (epV (up nu n z) (up tw n u) (n + 1))) ∧ (V.grownBy X7 v.ownBlock) := ⟨(trivial : True), own', gr⟩
  clear ee a
  refine rg_ [(6, v25)] ?_
  rintro a A ⟨t6, -⟩
  refine wp_ret ?_
  repeat (first | with_reducible refine ret_in ?_ | with_reducible refine ret_then ?_)
  refine bodyPost_ret (results_tmp rfl _ _ _) A.2 ⟨v25, ?_, ?_, FW⟩
  · show Ending.returned (a.eval (.tmp 6)) = _
    rw [t6]
  · rw [hin]
    rw [epV_cg (n + 1) (fun j hj => insF_end (f := nu) (z := z) hj) (fun j hj => insF_end (f := tw) (z := u) hj)]
    exact FR
set_option maxRecDepth 100000 in
set_option maxHeartbeats 4000000 in
/-- slices.Insert where there is room. -/
theorem pins_room (n i : Nat) (nu : Nat → Int) (tw : Nat → Value) (z : Int) (u : Value) (gx B : Nat) (V : World) (hx : V.heap[gx]? = some (.cells (epC z u) 47)) (hu : u.oneCell' = true) (hi : i ≤ n) (_hB : B ≤ V.heap.size) (hn : (n + 1) * 32 ≤ 140737488355328) (g cap : Nat) (hown : V.ownsRow B 47 2 (.slice (some ⟨g, 0, none⟩) n cap) n (epV nu tw n)) (hne : gx ≠ g) (htw : ∀ j, j < n → ∃ g m c, tw j = .slice g m c) (hlt : i < n) (hroom : n + 1 ≤ cap) :
    Calls Try.prog 35 #[.slice (some ⟨g, 0, none⟩) n cap, .int .i64 ((i : Nat) : Int), .slice (some ⟨gx, 0, none⟩) 1 1] V fun e w' => ∃ r, e = .returned r ∧ w'.ownsRow B 47 2 r (n + 1) (epV (insF nu i z) (insF tw i u) (n + 1)) ∧ V.grownBy w' (Value.ownBlock (.slice (some ⟨g, 0, none⟩) n cap)) := by
  go_enter Try.func35, Try.ntmps35
  refine wo_ 95 [(0, .slice (some ⟨g, 0, none⟩) n cap), (1, .int .i64 ((i : Nat) : Int)), (2, .slice (some ⟨gx, 0, none⟩) 1 1)] ?_
  rintro a A ⟨t0, t1, t2, -⟩
  obtain ⟨hBg, hnc, hcm, cur, hg, hcs, hcc⟩ := own_cells hown
  have hmx : maxLen < 9223372036854775808 := by decide
  have hgl := (Array.getElem?_eq_some_iff.1 hg).1
  have hxs : ∀ {X : World}, X.heap[gx]? = some (.cells (epC z u) 47) → ∀ j v_, [Value.int .i64 z, u][j]? = some v_ → X.cell? ((⟨gx, 0, none⟩ : Addr).add j) = some v_ := fun hX j v_ hj => by
    have e : (⟨gx, 0, none⟩ : Addr).add j = ⟨gx, 0 + j, none⟩ := by unfold Addr.add; split <;> simp_all
    rw [e, cell_of_row _ _ _ _ _ _ hX, Nat.zero_add]
    match j, hj with
    | 0, hj => exact hj
    | 1, hj => exact hj
    | j + 2, hj => exact absurd hj (by simp)
  have hx1 : ∀ v_ ∈ [Value.int .i64 z, u], v_.oneCell' = true := fun v_ hv_ => by
    simp at hv_
    rcases hv_ with rfl | rfl
    · rfl
    · exact hu
  have hdl : ((epV nu tw n).drop (i * 2)).length = (n - i) * 2 := by rw [List.length_drop, epV_len]; omega
  have hd1 : ∀ v_ ∈ (epV nu tw n).drop (i * 2), v_.oneCell' = true := fun v_ hv_ => epV_one htw v_ (List.mem_of_mem_drop hv_)
  have hds : ∀ {X : World} {c_ : Array Value}, X.heap[g]? = some (.cells c_ 47) → (∀ k, k < n * 2 → c_[k]? = (epV nu tw n)[k]?) → ∀ j v_, ((epV nu tw n).drop (i * 2))[j]? = some v_ → X.cell? ((⟨g, 0 + i * 2, none⟩ : Addr).add j) = some v_ := fun hX hc_ j v_ hj => by
    have e : (⟨g, 0 + i * 2, none⟩ : Addr).add j = ⟨g, 0 + i * 2 + j, none⟩ := by unfold Addr.add; split <;> simp_all
    have hjl := (List.getElem?_eq_some_iff.1 hj).1
    rw [hdl] at hjl
    rw [List.getElem?_drop] at hj
    rw [e, cell_of_row _ _ _ _ _ _ hX, Nat.zero_add, hc_ _ (by omega)]
    exact hj
  refine wp_seq ?_
  refine wi_ A (h3_ t0 t1 t2) (rf_ [] (h3_ t0 t1 t2) ?_)
  rintro a A - ⟨t0, t1, t2, -⟩
  obtain ⟨r12, hr12⟩ := slE_any hown hi
  refine wp_seq ?_
  refine wi_ A (h3_ t0 t1 t2) (rv_ 2 (r12) (fun a ee => execSlLE rfl (ee _) (ee _) (hr12 V)) (rf_ [] (h3_ t0 t1 t2) ?_))
  rintro a A - ⟨t0, t1, t2, -⟩
  refine wp_seq ?_
  refine wi_ A (h3_ t0 t1 t2) (rv_ 1 (.int .i64 ((1 : Nat) : Int)) (fun a ee => execLenEs (len := 1) rfl (ee _) ⟨_, _, rfl⟩) (rf_ [(7, .int .i64 ((1 : Nat) : Int))] (h3_ t0 t1 t2) ?_))
  rintro a A ⟨t7, -⟩ ⟨t0, t1, t2, -⟩
  refine wp_seq ?_
  refine wp_seq ?_
  refine wi_ A (h4_ t0 t1 t2 t7) (rv_ 1 (.bool false) (fun a ee => execDec (execEqN (p := 1) (q := 0) rfl (ee _) rfl) (decide_eq_false (by omega))) (rf_ [(16, .bool false)] (h4_ t0 t1 t2 t7) ?_))
  rintro a A ⟨t16, -⟩ ⟨t0, t1, t2, t7, -⟩
  refine wp_cond_false t16 ?_
  refine wp_skip ?_
  clear t16
  refine wp_seq ?_
  refine wi_ A (h4_ t0 t1 t2 t7) (rv_ 1 (.int .i64 ((n : Nat) : Int)) (fun a ee => execLenEs (len := n) rfl (ee _) ⟨_, _, rfl⟩) (rf_ [(8, .int .i64 ((n : Nat) : Int))] (h4_ t0 t1 t2 t7) ?_))
  rintro a A ⟨t8, -⟩ ⟨t0, t1, t2, t7, -⟩
  refine wp_seq ?_
  refine wp_seq ?_
  refine wi_ A (h5_ t0 t1 t2 t7 t8) (rv_ 2 (.bool false) (fun a ee => execDec (execEqN (p := i) (q := n) rfl (ee _) (ee _)) (decide_eq_false (by omega))) (rf_ [(22, .bool false)] (h5_ t0 t1 t2 t7 t8) ?_))
  rintro a A ⟨t22, -⟩ ⟨t0, t1, t2, t7, t8, -⟩
  refine wp_cond_false t22 ?_
  refine wp_skip ?_
  clear t22
  refine wp_seq ?_
  refine wp_seq ?_
  refine wi_ A (h5_ t0 t1 t2 t7 t8) (rv_ 2 (.int .i64 ((n + 1 : Nat) : Int)) (fun a ee => execAd8 (p := n) (q := 1) rfl (ee _) (ee _) (by omega)) (rv_ 4 (.int .i64 ((cap : Nat) : Int)) (fun a ee => execCapE rfl (ee _)) (rv_ 5 (.bool false) (fun a ee => execDec (execGtN (p := n + 1) (q := cap) rfl (ee _) (ee _)) (decide_eq_false (by omega))) (rf_ [(31, .bool false)] (h5_ t0 t1 t2 t7 t8) ?_))))
  rintro a A ⟨t31, -⟩ ⟨t0, t1, t2, t7, t8, -⟩
  refine wp_cond_false t31 ?_
  refine wp_skip ?_
  clear t31
  refine wp_seq ?_
  refine wi_ A (h5_ t0 t1 t2 t7 t8) (rv_ 3 (.int .i64 ((n + 1 : Nat) : Int)) (fun a ee => execAd8 (p := n) (q := 1) rfl (ee _) (ee _) (by omega)) (rv_ 4 (.slice (some ⟨g, 0, none⟩) (n + 1) cap) (fun a ee => execSlHI rfl (ee _) (ee _) (slE_h g 0 n cap (n + 1) (by omega) V)) (rf_ [(0, .slice (some ⟨g, 0, none⟩) (n + 1) cap)] (h4_ t1 t2 t7 t8) ?_)))
  rintro a A ⟨t0, -⟩ ⟨t1, t2, t7, t8, -⟩
  refine wp_seq ?_
  refine wp_seq ?_
  refine wi_ A (h5_ t0 t1 t2 t7 t8) (rv_ 4 (.int .i64 ((i + 1 : Nat) : Int)) (fun a ee => execAd8 (p := i) (q := 1) rfl (ee _) (ee _) (by omega)) (rv_ 5 (.slice (some ⟨g, 0 + (i + 1) * 2, none⟩) ((n + 1) - (i + 1)) (cap - (i + 1))) (fun a ee => execSlLE rfl (ee _) (ee _) (slE_l g 0 (n + 1) cap (i + 1) (by omega) (by omega) V)) (rv_ 6 (.bool false) (fun a ee => execOvl rfl (ee _) (ee _) hne hx hg (by rw [hcs]; omega)) (rv_ 7 (.bool true) (fun a ee => execNot8 (b := false) rfl (ee _)) (rf_ [(68, .bool true)] (h5_ t0 t1 t2 t7 t8) ?_)))))
  rintro a A ⟨t68, -⟩ ⟨t0, t1, t2, t7, t8, -⟩
  refine wp_cond_true t68 ?_
  clear t68
  refine wp_seq ?_
  refine wj_ [0, 1, 2, 3, 4, 5, 6, 7, 8] [8] [] [8] A (h5_ t0 t1 t2 t7 t8) (fun X15_0 bD => ?_)
  refine dw_ 3 (.int .i64 ((i + 1 : Nat) : Int)) (fun a X ee => execAd8 (p := i) (q := 1) rfl (ee _) (ee _) (by omega)) (dw_ 4 (.slice (some ⟨g, 0 + (i + 1) * 2, none⟩) ((n + 1) - (i + 1)) (cap - (i + 1))) (fun a X ee => execSlLE rfl (ee _) (ee _) (slE_l g 0 (n + 1) cap (i + 1) (by omega) (by omega) X)) (dw_ 7 (.slice (some ⟨g, 0 + i * 2, none⟩) ((n + 1) - i) (cap - i)) (fun a X ee => execSlLE rfl (ee _) (ee _) (slE_l g 0 (n + 1) cap i (by omega) (by omega) X)) (ds_ 8 (fun a ee => ?_))))
  refine stepV rfl rfl (execCopyE (cs := ((epV nu tw n).drop (i * 2))) rfl (ee _) (ee _) (on9 hg bD) (by rw [hdl]; show _ = min (n + 1 - i) (n + 1 - (i + 1)) * 2; rw [Nat.min_eq_right (by omega)]; omega) (hds (on9 hg bD) hcc) (by rw [hdl, hcs]; omega) hd1) ⟨_, ⟨_, rfl, rfl⟩, fun X15 hX => ?_⟩
  obtain ⟨BB, F1, Fx, FW⟩ : True ∧ (X15.heap[g]? = some (.cells (spl2 cur.toList (0 + (i + 1) * 2) ((epV nu tw n).drop (i * 2))).toArray 47)) ∧ (X15.heap[gx]? = some (.cells (epC z u) 47)) ∧ (V.grownBy X15 (some g)) := by subst hX; exact ⟨(trivial : True), setRow_heap _ _ _ _ _ _ (on9 hg bD), (setRow_other _ _ _ _ hne).trans (on9 hx bD), grown_setRow (grown_below bD)⟩
  clear bD hX ee a
  refine ⟨Or.inl rfl, ?_⟩
  refine dz_ [] (h5_ t0 t1 t2 t7 t8) ?_
  rintro a A - ⟨t0, t1, t2, t7, t8, -⟩
  have hl1 : (spl2 cur.toList (0 + (i + 1) * 2) ((epV nu tw n).drop (i * 2))).length = cap * 2 := by rw [spl2_len (by rw [hdl, Array.length_toList, hcs]; omega), Array.length_toList, hcs]
  refine wp_seq ?_
  refine wi_ A (h5_ t0 t1 t2 t7 t8) (rv_ 2 (.slice (some ⟨g, 0 + i * 2, none⟩) ((n + 1) - i) (cap - i)) (fun a ee => execSlLE rfl (ee _) (ee _) (slE_l g 0 (n + 1) cap i (by omega) (by omega) X15)) (rs_ 4 (fun a ee => ?_)))
  refine stepV rfl rfl (execCopyE (cs := [Value.int .i64 z, u]) rfl (ee _) (ee _) F1 (by show 2 = min 1 (n + 1 - i) * 2; rw [Nat.min_eq_left (by omega)]) (hxs Fx) (by rw [List.size_toArray, hl1]; show 0 + i * 2 + 2 ≤ _; omega) hx1) ⟨_, ⟨_, rfl, rfl⟩, fun X16 hX => ?_⟩
  obtain ⟨BB, Fx, F2, FW2⟩ : True ∧ (X16.heap[gx]? = some (.cells (epC z u) 47)) ∧ (X16.heap[g]? = some (.cells (spl2 (spl2 cur.toList (0 + (i + 1) * 2) ((epV nu tw n).drop (i * 2))).toArray.toList (0 + i * 2) [Value.int .i64 z, u]).toArray 47)) ∧ (V.grownBy X16 (some g)) := by subst hX; exact ⟨(trivial : True), (setRow_other _ _ _ _ hne).trans Fx, setRow_heap _ _ _ _ _ _ F1, grown_setRow FW⟩
  clear F1 FW hX ee a
  refine rf_ [] (h5_ t0 t1 t2 t7 t8) ?_
  rintro a A - ⟨t0, t1, t2, t7, t8, -⟩
  have FW := FW2
  have hl2 : (spl2 (spl2 cur.toList (0 + (i + 1) * 2) ((epV nu tw n).drop (i * 2))) (0 + i * 2) [Value.int .i64 z, u]).length = cap * 2 := by rw [spl2_len (by rw [hl1]; show 0 + i * 2 + 2 ≤ _; omega), hl1]
  refine wp_seq ?_
  refine wi_ A (h5_ t0 t1 t2 t7 t8) (rg_ [(6, .slice (some ⟨g, 0, none⟩) (n + 1) cap)] ?_)
  rintro a A ⟨t6, -⟩
  refine wp_ret ?_
  repeat (first | with_reducible refine ret_in ?_ | with_reducible refine ret_then ?_)
  refine bodyPost_ret (results_tmp rfl _ _ _) A.2 ⟨_, ?_, own_of hBg F2 (by omega) hcm ?_ (ins_fin hi ?_ ?_ ?_ ?_) (epV_len _ _ _), FW⟩
  · show Ending.returned (a.eval (.tmp 6)) = _
    rw [t6]
  · rw [List.size_toArray]; exact hl2
  · show _ ≤ (spl2 (spl2 cur.toList (0 + (i + 1) * 2) ((epV nu tw n).drop (i * 2))) (0 + i * 2) [Value.int .i64 z, u]).length
    rw [hl2]; omega
  · intro k hk
    show (spl2 (spl2 cur.toList (0 + (i + 1) * 2) ((epV nu tw n).drop (i * 2))) (0 + i * 2) [Value.int .i64 z, u])[k]? = _
    rw [spl2_lo (by rw [hl1]; show 0 + i * 2 + 2 ≤ _; omega) (by omega), spl2_lo (by rw [hdl, Array.length_toList, hcs]; omega) (by omega), Array.getElem?_toList, hcc _ (by omega)]
  · constructor
    · show (spl2 (spl2 cur.toList (0 + (i + 1) * 2) ((epV nu tw n).drop (i * 2))) (0 + i * 2) [Value.int .i64 z, u])[i * 2 + 0]? = _
      rw [spl2_mid (by rw [hl1]; show 0 + i * 2 + 2 ≤ _; omega) (by omega) (by show _ < 0 + i * 2 + 2; omega), show i * 2 + 0 - (0 + i * 2) = 0 by omega]; rfl
    · show (spl2 (spl2 cur.toList (0 + (i + 1) * 2) ((epV nu tw n).drop (i * 2))) (0 + i * 2) [Value.int .i64 z, u])[i * 2 + 1]? = _
      rw [spl2_mid (by rw [hl1]; show 0 + i * 2 + 2 ≤ _; omega) (by omega) (by show _ < 0 + i * 2 + 2; omega), show i * 2 + 1 - (0 + i * 2) = 1 by omega]; rfl
  · intro k hk hk2
    show (spl2 (spl2 cur.toList (0 + (i + 1) * 2) ((epV nu tw n).drop (i * 2))) (0 + i * 2) [Value.int .i64 z, u])[k]? = _
    rw [spl2_hi (by rw [hl1]; show 0 + i * 2 + 2 ≤ _; omega) (by show 0 + i * 2 + 2 ≤ _; omega), spl2_mid (by rw [hdl, Array.length_toList, hcs]; omega) (by omega) (by rw [hdl]; omega), List.getElem?_drop, show i * 2 + (k - (0 + (i + 1) * 2)) = k - 2 by omega]
set_option maxRecDepth 100000 in
set_option maxHeartbeats 4000000 in
/-- slices.Insert where there is no room. -/
theorem pins_grow (n i : Nat) (nu : Nat → Int) (tw : Nat → Value) (z : Int) (u : Value) (gx B : Nat) (V : World) (hx : V.heap[gx]? = some (.cells (epC z u) 47)) (hu : u.oneCell' = true) (hi : i ≤ n) (hB : B ≤ V.heap.size) (hn : (n + 1) * 32 ≤ 140737488355328) (g cap : Nat) (hown : V.ownsRow B 47 2 (.slice (some ⟨g, 0, none⟩) n cap) n (epV nu tw n)) (_hne : gx ≠ g) (htw : ∀ j, j < n → ∃ g m c, tw j = .slice g m c) (hlt : i < n) (hroom : ¬ n + 1 ≤ cap) :
    Calls Try.prog 35 #[.slice (some ⟨g, 0, none⟩) n cap, .int .i64 ((i : Nat) : Int), .slice (some ⟨gx, 0, none⟩) 1 1] V fun e w' => ∃ r, e = .returned r ∧ w'.ownsRow B 47 2 r (n + 1) (epV (insF nu i z) (insF tw i u) (n + 1)) ∧ V.grownBy w' (Value.ownBlock (.slice (some ⟨g, 0, none⟩) n cap)) := by
  go_enter Try.func35, Try.ntmps35
  refine wo_ 95 [(0, .slice (some ⟨g, 0, none⟩) n cap), (1, .int .i64 ((i : Nat) : Int)), (2, .slice (some ⟨gx, 0, none⟩) 1 1)] ?_
  rintro a A ⟨t0, t1, t2, -⟩
  obtain ⟨hBg, hnc, hcm, cur, hg, hcs, hcc⟩ := own_cells hown
  have hmx : maxLen < 9223372036854775808 := by decide
  have hgl := (Array.getElem?_eq_some_iff.1 hg).1
  have hxs : ∀ {X : World}, X.heap[gx]? = some (.cells (epC z u) 47) → ∀ j v_, [Value.int .i64 z, u][j]? = some v_ → X.cell? ((⟨gx, 0, none⟩ : Addr).add j) = some v_ := fun hX j v_ hj => by
    have e : (⟨gx, 0, none⟩ : Addr).add j = ⟨gx, 0 + j, none⟩ := by unfold Addr.add; split <;> simp_all
    rw [e, cell_of_row _ _ _ _ _ _ hX, Nat.zero_add]
    match j, hj with
    | 0, hj => exact hj
    | 1, hj => exact hj
    | j + 2, hj => exact absurd hj (by simp)
  have hx1 : ∀ v_ ∈ [Value.int .i64 z, u], v_.oneCell' = true := fun v_ hv_ => by
    simp at hv_
    rcases hv_ with rfl | rfl
    · rfl
    · exact hu
  have hdl : ((epV nu tw n).drop (i * 2)).length = (n - i) * 2 := by rw [List.length_drop, epV_len]; omega
  have hd1 : ∀ v_ ∈ (epV nu tw n).drop (i * 2), v_.oneCell' = true := fun v_ hv_ => epV_one htw v_ (List.mem_of_mem_drop hv_)
  have hds : ∀ {X : World} {c_ : Array Value}, X.heap[g]? = some (.cells c_ 47) → (∀ k, k < n * 2 → c_[k]? = (epV nu tw n)[k]?) → ∀ j v_, ((epV nu tw n).drop (i * 2))[j]? = some v_ → X.cell? ((⟨g, 0 + i * 2, none⟩ : Addr).add j) = some v_ := fun hX hc_ j v_ hj => by
    have e : (⟨g, 0 + i * 2, none⟩ : Addr).add j = ⟨g, 0 + i * 2 + j, none⟩ := by unfold Addr.add; split <;> simp_all
    have hjl := (List.getElem?_eq_some_iff.1 hj).1
    rw [hdl] at hjl
    rw [List.getElem?_drop] at hj
    rw [e, cell_of_row _ _ _ _ _ _ hX, Nat.zero_add, hc_ _ (by omega)]
    exact hj
  refine wp_seq ?_
  refine wi_ A (h3_ t0 t1 t2) (rf_ [] (h3_ t0 t1 t2) ?_)
  rintro a A - ⟨t0, t1, t2, -⟩
  obtain ⟨r12, hr12⟩ := slE_any hown hi
  refine wp_seq ?_
  refine wi_ A (h3_ t0 t1 t2) (rv_ 2 (r12) (fun a ee => execSlLE rfl (ee _) (ee _) (hr12 V)) (rf_ [] (h3_ t0 t1 t2) ?_))
  rintro a A - ⟨t0, t1, t2, -⟩
  refine wp_seq ?_
  refine wi_ A (h3_ t0 t1 t2) (rv_ 1 (.int .i64 ((1 : Nat) : Int)) (fun a ee => execLenEs (len := 1) rfl (ee _) ⟨_, _, rfl⟩) (rf_ [(7, .int .i64 ((1 : Nat) : Int))] (h3_ t0 t1 t2) ?_))
  rintro a A ⟨t7, -⟩ ⟨t0, t1, t2, -⟩
  refine wp_seq ?_
  refine wp_seq ?_
  refine wi_ A (h4_ t0 t1 t2 t7) (rv_ 1 (.bool false) (fun a ee => execDec (execEqN (p := 1) (q := 0) rfl (ee _) rfl) (decide_eq_false (by omega))) (rf_ [(16, .bool false)] (h4_ t0 t1 t2 t7) ?_))
  rintro a A ⟨t16, -⟩ ⟨t0, t1, t2, t7, -⟩
  refine wp_cond_false t16 ?_
  refine wp_skip ?_
  clear t16
  refine wp_seq ?_
  refine wi_ A (h4_ t0 t1 t2 t7) (rv_ 1 (.int .i64 ((n : Nat) : Int)) (fun a ee => execLenEs (len := n) rfl (ee _) ⟨_, _, rfl⟩) (rf_ [(8, .int .i64 ((n : Nat) : Int))] (h4_ t0 t1 t2 t7) ?_))
  rintro a A ⟨t8, -⟩ ⟨t0, t1, t2, t7, -⟩
  refine wp_seq ?_
  refine wp_seq ?_
  refine wi_ A (h5_ t0 t1 t2 t7 t8) (rv_ 2 (.bool false) (fun a ee => execDec (execEqN (p := i) (q := n) rfl (ee _) (ee _)) (decide_eq_false (by omega))) (rf_ [(22, .bool false)] (h5_ t0 t1 t2 t7 t8) ?_))
  rintro a A ⟨t22, -⟩ ⟨t0, t1, t2, t7, t8, -⟩
  refine wp_cond_false t22 ?_
  refine wp_skip ?_
  clear t22
  refine wp_seq ?_
  refine wp_seq ?_
  refine wi_ A (h5_ t0 t1 t2 t7 t8) (rv_ 2 (.int .i64 ((n + 1 : Nat) : Int)) (fun a ee => execAd8 (p := n) (q := 1) rfl (ee _) (ee _) (by omega)) (rv_ 4 (.int .i64 ((cap : Nat) : Int)) (fun a ee => execCapE rfl (ee _)) (rv_ 5 (.bool true) (fun a ee => execDec (execGtN (p := n + 1) (q := cap) rfl (ee _) (ee _)) (decide_eq_true (by omega))) (rf_ [(31, .bool true)] (h5_ t0 t1 t2 t7 t8) ?_))))
  rintro a A ⟨t31, -⟩ ⟨t0, t1, t2, t7, t8, -⟩
  refine wp_cond_true t31 ?_
  clear t31
  refine wp_seq ?_
  have htl : ((epV nu tw n).take (i * 2)).length = i * 2 := by rw [List.length_take, epV_len]; omega
  have hts : ∀ j v_, ((epV nu tw n).take (i * 2))[j]? = some v_ → V.cell? ⟨g, 0 + j, none⟩ = some v_ := fun j v_ hj => by
    have hjl := (List.getElem?_eq_some_iff.1 hj).1
    rw [htl] at hjl
    rw [List.getElem?_take_of_lt hjl] at hj
    rw [cell_of_row _ _ _ _ _ _ hg, Nat.zero_add, hcc _ (by omega)]
    exact hj
  have hmx2 : 140737488355328 ≤ maxLen := by decide
  have hmm : n + 1 ≤ maxLen := by omega
  obtain ⟨g40, egg40⟩ : ∃ z_ : Nat, V.heap.size = z_ := ⟨_, rfl⟩
  obtain ⟨c40, egc40⟩ : ∃ z_ : Nat, grownCap V (n + 1) cap 47 = z_ := ⟨_, rfl⟩
  obtain ⟨a40, ega40⟩ : ∃ z_ : (Array Value), (((epV nu tw n).take (i * 2)).toArray ++ Builtin.zeroCells (epC 0 (.slice none 0 0)) (n + 1 - i) ++ Builtin.zeroCells (epC 0 (.slice none 0 0)) (grownCap V (n + 1) cap 47 - (n + 1))) = z_ := ⟨_, rfl⟩
  refine wi_ A (h5_ t0 t1 t2 t7 t8) (rv_ 2 (.slice (some ⟨g, 0, none⟩) i cap) (fun a ee => execSlHI rfl (ee _) (ee _) (slE_h g 0 n cap i (by omega) V)) (rv_ 5 (.int .i64 ((n + 1 : Nat) : Int)) (fun a ee => execAd8 (p := n) (q := 1) rfl (ee _) (ee _) (by omega)) (rv_ 7 (.int .i64 ((n + 1 - i : Nat) : Int)) (fun a ee => By8.execSubI (p := n + 1) (q := i) rfl (ee _) (ee _) (by omega) (by omega)) (rs_ 8 (fun a ee => ?_)))))
  refine stepV rfl rfl (execAppZN (olds := ((epV nu tw n).take (i * 2))) (N := n + 1) rfl (ee _) (ee _) (by omega) htl hts (by omega) (by omega) hn) ⟨.slice (some ⟨g40, 0, none⟩) (n + 1) c40, ⟨_, rfl, by subst egg40 egc40 ega40; rfl⟩, fun X9 hX => ?_⟩
  obtain ⟨BB, F1, Fg, Fx, FW, FP, FN⟩ : True ∧ (X9.heap[g40]? = some (.cells a40 47)) ∧ (X9.heap[g]? = some (.cells cur 47)) ∧ (X9.heap[gx]? = some (.cells (epC z u) 47)) ∧ (V.grownBy X9 (some g)) ∧ (a40.size = c40 * 2 ∧ n + 1 ≤ c40 ∧ c40 ≤ maxLen ∧ ∀ j, j < i * 2 → a40[j]? = (epV nu tw n)[j]?) ∧ (V.heap.size ≤ g40) := by subst hX egg40 egc40 ega40; exact ⟨(trivial : True), heapNew V.drew _, (heapOld V.drew _ hgl).trans hg, (heapOld V.drew _ (Array.getElem?_eq_some_iff.1 hx).1).trans hx, ⟨rfl, rfl, rfl, by simp, fun k hk _ => heapOld V.drew _ hk⟩, appZ_row (k := n + 1 - i) (by omega) hi hmm, Nat.le_refl _⟩
  clear hX egg40 egc40 ega40 ee a
  refine rf_ [(9, .slice (some ⟨g40, 0, none⟩) (n + 1) c40)] (h5_ t0 t1 t2 t7 t8) ?_
  rintro a A ⟨t9, -⟩ ⟨t0, t1, t2, t7, t8, -⟩
  obtain ⟨hp1, hp2, hp3, hp4⟩ := FP
  have hng : g ≠ g40 := by omega
  have hnx : gx ≠ g40 := by have := (Array.getElem?_eq_some_iff.1 hx).1; omega
  refine wp_seq ?_
  refine wi_ A (h6_ t0 t1 t2 t7 t8 t9) (rv_ 2 (.slice (some ⟨g40, 0 + i * 2, none⟩) ((n + 1) - i) (c40 - i)) (fun a ee => execSlLE rfl (ee _) (ee _) (slE_l g40 0 (n + 1) c40 i (by omega) (by omega) X9)) (rs_ 4 (fun a ee => ?_)))
  refine stepV rfl rfl (execCopyE (cs := [Value.int .i64 z, u]) rfl (ee _) (ee _) F1 (by show 2 = min 1 (n + 1 - i) * 2; rw [Nat.min_eq_left (by omega)]) (hxs Fx) (by rw [hp1]; show 0 + i * 2 + 2 ≤ _; omega) hx1) ⟨_, ⟨_, rfl, rfl⟩, fun X10 hX => ?_⟩
  obtain ⟨BB, Fg, Fx, F2, FW2⟩ : True ∧ (X10.heap[g]? = some (.cells cur 47)) ∧ (X10.heap[gx]? = some (.cells (epC z u) 47)) ∧ (X10.heap[g40]? = some (.cells (spl2 a40.toList (0 + i * 2) [Value.int .i64 z, u]).toArray 47)) ∧ (V.grownBy X10 (some g)) := by subst hX; exact ⟨(trivial : True), (setRow_other _ _ _ _ hng).trans Fg, (setRow_other _ _ _ _ hnx).trans Fx, setRow_heap _ _ _ _ _ _ F1, grown_setNew FW FN⟩
  clear F1 FW hX ee a
  refine rf_ [] (h6_ t0 t1 t2 t7 t8 t9) ?_
  rintro a A - ⟨t0, t1, t2, t7, t8, t9, -⟩
  have hl1 : (spl2 a40.toList (0 + i * 2) [Value.int .i64 z, u]).length = c40 * 2 := by rw [spl2_len (by show 0 + i * 2 + 2 ≤ a40.toList.length; rw [Array.length_toList, hp1]; omega), Array.length_toList, hp1]
  refine wp_seq ?_
  refine wj_ [0, 1, 2, 3, 4, 5, 6, 7, 8] [8] [] [8] A (h6_ t0 t1 t2 t7 t8 t9) (fun X11_0 bD => ?_)
  refine dw_ 3 (.int .i64 ((i + 1 : Nat) : Int)) (fun a X ee => execAd8 (p := i) (q := 1) rfl (ee _) (ee _) (by omega)) (dw_ 4 (.slice (some ⟨g40, 0 + (i + 1) * 2, none⟩) ((n + 1) - (i + 1)) (c40 - (i + 1))) (fun a X ee => execSlLE rfl (ee _) (ee _) (slE_l g40 0 (n + 1) c40 (i + 1) (by omega) (by omega) X)) (dw_ 7 (.slice (some ⟨g, 0 + i * 2, none⟩) (n - i) (cap - i)) (fun a X ee => execSlLE rfl (ee _) (ee _) (slE_l g 0 n cap i (by omega) (by omega) X)) (ds_ 8 (fun a ee => ?_))))
  refine stepV rfl rfl (execCopyE (cs := ((epV nu tw n).drop (i * 2))) rfl (ee _) (ee _) (on9 F2 bD) (by rw [hdl]; show _ = min (n - i) (n + 1 - (i + 1)) * 2; rw [Nat.min_eq_left (by omega)]) (hds (on9 Fg bD) hcc) (by rw [List.size_toArray, hl1, hdl]; omega) hd1) ⟨_, ⟨_, rfl, rfl⟩, fun X11 hX => ?_⟩
  obtain ⟨BB, F3, FW3⟩ : True ∧ (X11.heap[g40]? = some (.cells (spl2 (spl2 a40.toList (0 + i * 2) [Value.int .i64 z, u]).toArray.toList (0 + (i + 1) * 2) ((epV nu tw n).drop (i * 2))).toArray 47)) ∧ (V.grownBy X11 (some g)) := by subst hX; exact ⟨(trivial : True), setRow_heap _ _ _ _ _ _ (on9 F2 bD), grown_setNew (grown_thenB FW2 bD) FN⟩
  clear bD hX ee a
  refine ⟨Or.inl rfl, ?_⟩
  refine dz_ [] (h1_ t9) ?_
  rintro a A - ⟨t9, -⟩
  have FW := FW3
  have hl2 : (spl2 (spl2 a40.toList (0 + i * 2) [Value.int .i64 z, u]) (0 + (i + 1) * 2) ((epV nu tw n).drop (i * 2))).length = c40 * 2 := by rw [spl2_len (by rw [hl1, hdl]; omega), hl1]
  refine wp_seq ?_
  refine wi_ A (h1_ t9) (rg_ [(6, .slice (some ⟨g40, 0, none⟩) (n + 1) c40)] ?_)
  rintro a A ⟨t6, -⟩
  refine wp_ret ?_
  repeat (first | with_reducible refine ret_in ?_ | with_reducible refine ret_then ?_)
  refine bodyPost_ret (results_tmp rfl _ _ _) A.2 ⟨_, ?_, own_of (Nat.le_trans hB FN) F3 hp2 hp3 ?_ (ins_fin hi ?_ ?_ ?_ ?_) (epV_len _ _ _), FW⟩
  · show Ending.returned (a.eval (.tmp 6)) = _
    rw [t6]
  · rw [List.size_toArray]; exact hl2
  · show _ ≤ (spl2 (spl2 a40.toList (0 + i * 2) [Value.int .i64 z, u]) (0 + (i + 1) * 2) ((epV nu tw n).drop (i * 2))).length
    rw [hl2]; omega
  · intro k hk
    show (spl2 (spl2 a40.toList (0 + i * 2) [Value.int .i64 z, u]) (0 + (i + 1) * 2) ((epV nu tw n).drop (i * 2)))[k]? = _
    rw [spl2_lo (by rw [hl1, hdl]; omega) (by omega), spl2_lo (by show 0 + i * 2 + 2 ≤ a40.toList.length; rw [Array.length_toList, hp1]; omega) (by omega), Array.getElem?_toList, hp4 _ hk]
  · constructor
    · show (spl2 (spl2 a40.toList (0 + i * 2) [Value.int .i64 z, u]) (0 + (i + 1) * 2) ((epV nu tw n).drop (i * 2)))[i * 2 + 0]? = _
      rw [spl2_lo (by rw [hl1, hdl]; omega) (by omega), spl2_mid (by show 0 + i * 2 + 2 ≤ a40.toList.length; rw [Array.length_toList, hp1]; omega) (by omega) (by show _ < 0 + i * 2 + 2; omega), show i * 2 + 0 - (0 + i * 2) = 0 by omega]; rfl
    · show (spl2 (spl2 a40.toList (0 + i * 2) [Value.int .i64 z, u]) (0 + (i + 1) * 2) ((epV nu tw n).drop (i * 2)))[i * 2 + 1]? = _
      rw [spl2_lo (by rw [hl1, hdl]; omega) (by omega), spl2_mid (by show 0 + i * 2 + 2 ≤ a40.toList.length; rw [Array.length_toList, hp1]; omega) (by omega) (by show _ < 0 + i * 2 + 2; omega), show i * 2 + 1 - (0 + i * 2) = 1 by omega]; rfl
  · intro k hk hk2
    show (spl2 (spl2 a40.toList (0 + i * 2) [Value.int .i64 z, u]) (0 + (i + 1) * 2) ((epV nu tw n).drop (i * 2)))[k]? = _
    rw [spl2_mid (by rw [hl1, hdl]; omega) (by omega) (by rw [hdl]; omega), List.getElem?_drop, show i * 2 + (k - (0 + (i + 1) * 2)) = k - 2 by omega]
/-- slices.Insert of one epoch into a list of one's own. -/
theorem pinsert (v : Value) (n i : Nat) (nu : Nat → Int) (tw : Nat → Value) (z : Int) (u : Value) (gx B : Nat) (V : World) (hown : V.ownsRow B 47 2 v n (epV nu tw n)) (hx : V.heap[gx]? = some (.cells (epC z u) 47)) (hne : v.ownBlock ≠ some gx) (htw : ∀ j, j < n → ∃ g m c, tw j = .slice g m c) (hu : u.oneCell' = true) (hi : i ≤ n) (hB : B ≤ V.heap.size) (hn : (n + 1) * 32 ≤ 140737488355328) :
    Calls Try.prog 35 #[v, .int .i64 ((i : Nat) : Int), .slice (some ⟨gx, 0, none⟩) 1 1] V fun e w' => ∃ r, e = .returned r ∧ w'.ownsRow B 47 2 r (n + 1) (epV (insF nu i z) (insF tw i u) (n + 1)) ∧ V.grownBy w' v.ownBlock := by
  by_cases hin : i = n
  · exact pins_end v n i nu tw z u gx B V hx hu hi hB hn hown hin
  · have hown2 := hown
    rcases hown.2 with ⟨_, q⟩ | ⟨g, cap, cur, rfl, _⟩
    · omega
    · have hng : gx ≠ g := fun e => hne (by rw [e]; rfl)
      by_cases hr : n + 1 ≤ cap
      · exact pins_room n i nu tw z u gx B V hx hu hi hB hn g cap hown2 hng htw (by omega) hr
      · exact pins_grow n i nu tw z u gx B V hx hu hi hB hn g cap hown2 hng htw (by omega) hr
end Go.Proofs.Ytijibdapooalcab.Win
