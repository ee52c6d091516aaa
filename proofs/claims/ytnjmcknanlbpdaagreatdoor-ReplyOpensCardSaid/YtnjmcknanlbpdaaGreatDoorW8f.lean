import Derived.Test.YtnjmcknanlbpdaaGreatDoorW8e
import Derived.Test.YtnjmcknanlbpdaaGreatDoorO3
import Derived.Test.YtnjmcknanlbpdaaGreatDoorB7f
namespace Go.Proofs.YtnjmcknanlbpdaaGreatDoor.Rpl
open Go.RowKit Gf8 Aes By8 Cel Cf Tap Drw Dro Oni Rou
/- Stage 27: ReplyOpens, ReplyChains, ReplyWraps. Written by tools/mkW8f.py. -/

theorem wkc_lt {h len : Nat} {key : Nat → Nat → Nat} {lk : Nat → Nat} {c : Nat → Nat} (hc : ∀ j, j < len → c j < 256) : ∀ i, Rou.wkG h key lk len c i = 0 → ∀ j, j < wkL len i → wkC h key c i j < 256
  | 0, _, j, hj => hc j hj
  | i + 1, e, j, _ => by
    by_cases e0 : Rou.wkG h key lk len c i = 0
    · have e1 : peE (lk i) ((h - i : Nat) : Int) (wkL len i) (key i) (wkC h key c i) = 0 := by
        have e2 : (if Rou.wkG h key lk len c i ≠ 0 then Rou.wkG h key lk len c i else peE (lk i) ((h - i : Nat) : Int) (wkL len i) (key i) (wkC h key c i)) = 0 := e
        rwa [if_neg (by omega)] at e2
      exact peC_lt e1 (wkc_lt hc i e0) j
    · have e2 : (if Rou.wkG h key lk len c i ≠ 0 then Rou.wkG h key lk len c i else peE (lk i) ((h - i : Nat) : Int) (wkL len i) (key i) (wkC h key c i)) = 0 := e
      rw [if_pos e0] at e2
      exact absurd e2 e0
theorem op_lt {h hn len j : Nat} {lk : Nat → Nat} {key q : Nat → Nat → Nat} {c : Nat → Nat} (hc : ∀ j, j < len → c j < 256) (hj : j < opN h hn lk key q len c) : opF h key q c j < 256 := by
  unfold opN at hj
  by_cases e1 : wgE h hn lk = 0
  · rw [if_neg (by omega)] at hj
    by_cases e2 : Rou.wkG h (bks key q) (fun _ => 32) len c h = 0
    · rw [if_neg (by omega)] at hj
      exact wkc_lt hc h e2 _ (openN_lt _ _ hj).2
    · rw [if_pos e2] at hj
      omega
  · rw [if_pos e1] at hj
    omega
theorem ropS (h hn : Nat) (kv nv : Value) (xv : Nat → Value) (lk : Nat → Nat) (key q : Nat → Nat → Nat) (n : Nat) (p : Nat → Nat) (pv : Value) (V : World) (hK : Ls V kv h xv lk key) (hN : Nons V nv hn q) (hh : h ≤ 140737488351232) (_hhn : hn ≤ 140737488351232) (hP : SliceN V pv n p) (hz : ∀ l c, pv = .slice none l c → c = 0) (hn_ : n ≤ 140737488351232) :
    Calls Tryz.prog 13 #[kv, nv, pv] V fun e w' => ∃ r, e = .returned (.tuple #[r, .int .i64 ((opE h hn lk key q n p : Nat) : Int)]) ∧ SliceN w' r (opN h hn lk key q n p) (opF h key q p) ∧ Below V.heap.size V w' := by
  refine (ropen27 h hn kv nv xv lk key q V hK hN hh n p pv hP hz hn_).mono ?_
  rintro e w' ⟨⟨r, he, hr⟩, hb⟩
  exact ⟨r, he, own_slice hr fun j hj => op_lt hP.bytes hj, hb⟩
theorem popS {G : World → Prop} (I : Impl G) (h hn : Nat) (kv nv : Value) (xv : Nat → Value) (lk : Nat → Nat) (key q : Nat → Nat → Nat) (n : Nat) (p : Nat → Nat) (pv : Value) (V : World) (hG : G V) (hK : Ls V kv h xv lk key) (hN : Nons V nv hn q) (hh : h ≤ 140737488351232) (hhn : hn ≤ 140737488351232) (hP : SliceN V pv n p) (hz : ∀ l c, pv = .slice none l c → c = 0) (hn_ : n ≤ 140737488351232) :
    Calls Tryz.prog 14 #[kv, nv, pv] V fun e w' => ∃ r, e = .returned (.tuple #[r, .int .i64 ((opE h hn lk key q n p : Nat) : Int)]) ∧ SliceN w' r (opN h hn lk key q n p) (opF h key q p) ∧ Below V.heap.size V w' := by
  refine (I.open_ h hn kv nv xv lk key q n p pv V hG hK hh hN hhn hP hz hn_).mono ?_
  rintro e w' ⟨⟨r, he, hr⟩, hb⟩
  exact ⟨r, he, own_slice hr fun j hj => op_lt hP.bytes hj, hb⟩
section
variable {o : Oper} {a : Act} {w : World} {x : Operand} {b f : Nat} {v : Value}
end
set_option maxRecDepth 100000 in
set_option maxHeartbeats 4000000 in
/-- ReplyOpens. -/
theorem opens27 {G : World → Prop} (I : Impl G) (h hn m : Nat) (kv nv cv : Value) (xv yv : Nat → Value) (lk ln : Nat → Nat) (key q c : Nat → Nat → Nat) (V : World) (hg : ∀ W, Below V.heap.size V W → G W) (hK : Ls V kv h xv lk key) (hN : Nons V nv hn q) (hC : Ls V cv m yv ln c) (hh : h ≤ 140737488351232) (hhn : hn ≤ 140737488351232) (hm : m ≤ 140737488351232) :
    Calls Tryz.prog 5 #[kv, nv, cv] V fun e w' => e = .returned (.bool true) ∧ Below V.heap.size V w' := by
  go_enter Tryz.func5, Tryz.ntmps5
  refine wo_ 50 [(0, kv), (1, nv), (2, cv)] ?_
  rintro a A ⟨t0, t1, t2, -⟩
  have BW : Below V.heap.size V V := Below.refl _ _
  have BB := BW
  refine wp_seq ?_
  refine wi_ A (h3_ t0 t1 t2) (rf_ [] (h3_ t0 t1 t2) ?_)
  rintro a A - ⟨t0, t1, t2, -⟩
  refine wp_seq ?_
  refine wp_seq ?_
  refine wi_ A (h3_ t0 t1 t2) (rc_ 0 (alive27 I V (fun W h => hg W ((BB).trans (h.mono (BB).size)))) (cb_ fun X1 bQ => ?_))
  replace BB := BB.trans (bQ.mono BB.size)
  clear bQ
  refine rv_ 1 (.bool false) (fun a ee => execNot8 (b := true) rfl (ee _)) (rf_ [(13, .bool false)] (h3_ t0 t1 t2) ?_)
  rintro a A ⟨t13, -⟩ ⟨t0, t1, t2, -⟩
  refine wp_cond_false t13 ?_
  refine wp_skip ?_
  clear t13
  refine wp_seq ?_
  refine wp_seq ?_
  refine wi_ A (h3_ t0 t1 t2) (rf_ [(7, .int .i64 ((0 : Nat) : Int))] (h3_ t0 t1 t2) ?_)
  rintro a A ⟨t7, -⟩ ⟨t0, t1, t2, -⟩
  refine wp_block ?_
  refine wp_loop (fun a W => ∃ (i : Nat), i ≤ m ∧ (a.tmps.size = 50 ∧ a.defers = []) ∧ a.eval (.tmp 0) = kv ∧ a.eval (.tmp 1) = nv ∧ a.eval (.tmp 2) = cv ∧ a.eval (.tmp 7) = .int .i64 ((i : Nat) : Int) ∧ Below V.heap.size V W) (fun a _ => m - (intOf (a.eval (.tmp 7))).toNat) ⟨0, Nat.zero_le _, A, t0, t1, t2, t7, BB⟩ ?_
  clear A t0 t1 t2 t7 BB a
  rintro a XL4 ⟨i, hi, A, t0, t1, t2, t7, BB⟩
  have esi := t7
  refine wp_seq ?_
  refine wp_seq ?_
  refine wi_ A (h4_ t0 t1 t2 t7) (rv_ 2 (.int .i64 ((m : Nat) : Int)) (fun a ee => execLenLL rfl (ee _) (hC.on BB).shp) (rv_ 3 (.bool (decide (i < m))) (fun a ee => execLtW (p := i) (q := m) rfl (ee _) (ee _)) (rf_ [(17, .bool (decide (i < m)))] (h4_ t0 t1 t2 t7) ?_)))
  rintro a A ⟨t17, -⟩ ⟨t0, t1, t2, t7, -⟩
  by_cases lti : i < m
  · rw [decide_eq_true lti] at t17
    refine wp_cond_true t17 ?_
    refine wp_skip ?_
    clear t17
    refine wp_seq ?_
    refine wp_block ?_
    refine wp_seq ?_
    refine wi_ A (h4_ t0 t1 t2 t7) (rv_ 4 (.pointer (some ⟨adB cv, adO cv + i, none⟩)) (fun a ee => execIdxLs (k := i) (hC.on BB) rfl (ee _) (ee _) lti) (rv_ 5 (yv i) (fun a ee => execLdLs (k := i) (hC.on BB) rfl (ee _) lti) (rc_ 6 (ropS h hn kv nv xv lk key q (ln i) (c i) (yv i) XL4 (hK.on BB) (hN.on BB) hh hhn ((hC.cell i lti).on BB) (hC.nil i lti) (hC.lens i lti)) fun e X6 hh => ?_)))
    obtain ⟨v27, he, hk, hb⟩ := hh
    refine ⟨_, he, ?_⟩
    have bQ : Below XL4.heap.size XL4 X6 := hb
    have FA : (SliceN X6 v27 (opN h hn lk key q (ln i) (c i)) (opF h key q (c i))) := hk
    replace BB := BB.trans (bQ.mono BB.size)
    clear bQ
    refine rf_ [(8, v27), (9, .int .i64 ((opE h hn lk key q (ln i) (c i) : Nat) : Int))] (h4_ t0 t1 t2 t7) ?_
    rintro a A ⟨t8, t9, -⟩ ⟨t0, t1, t2, t7, -⟩
    refine wp_seq ?_
    refine wi_ A (h6_ t0 t1 t2 t7 t8 t9) (rv_ 4 (.pointer (some ⟨adB cv, adO cv + i, none⟩)) (fun a ee => execIdxLs (k := i) (hC.on BB) rfl (ee _) (ee _) lti) (rv_ 5 (yv i) (fun a ee => execLdLs (k := i) (hC.on BB) rfl (ee _) lti) (rc_ 6 (popS I h hn kv nv xv lk key q (ln i) (c i) (yv i) X6 (hg X6 BB) (hK.on BB) (hN.on BB) hh hhn ((hC.cell i lti).on BB) (hC.nil i lti) (hC.lens i lti)) fun e X7 hh => ?_)))
    obtain ⟨v37, he, hk, hb⟩ := hh
    refine ⟨_, he, ?_⟩
    have bQ : Below X6.heap.size X6 X7 := hb
    have FB : (SliceN X7 v37 (opN h hn lk key q (ln i) (c i)) (opF h key q (c i))) := hk
    replace FA := (FA.on bQ)
    replace BB := BB.trans (bQ.mono BB.size)
    clear bQ
    refine rf_ [(10, v37), (11, .int .i64 ((opE h hn lk key q (ln i) (c i) : Nat) : Int))] (h6_ t0 t1 t2 t7 t8 t9) ?_
    rintro a A ⟨t10, t11, -⟩ ⟨t0, t1, t2, t7, t8, t9, -⟩
    refine wp_seq ?_
    refine wi_ A (h8_ t0 t1 t2 t7 t8 t9 t10 t11) (rv_ 1 (.string (strN (opF h key q (c i)) (opN h hn lk key q (ln i) (c i)))) (fun a ee => execStr rfl (ee _) (FB)) (rv_ 3 (.string (strN (opF h key q (c i)) (opN h hn lk key q (ln i) (c i)))) (fun a ee => execStr rfl (ee _) (FA)) (rv_ 4 (.bool false) (fun a ee => By8.execNeqS rfl (ee _) (ee _)) (rv_ 8 (.bool false) (fun a ee => by exact execDec (execNeN (p := opE h hn lk key q (ln i) (c i)) (q := opE h hn lk key q (ln i) (c i)) rfl (ee _) (ee _)) (decide_eq_false (by omega))) (rf_ [(49, .bool false)] (h4_ t0 t1 t2 t7) ?_)))))
    rintro a A ⟨t49, -⟩ ⟨t0, t1, t2, t7, -⟩
    refine wp_cond_false t49 ?_
    refine wp_skip ?_
    clear t49
    clear FA FB
    refine wi_ A (h4_ t0 t1 t2 t7) (rv_ 1 (.int .i64 ((i + 1 : Nat) : Int)) (fun a ee => execAd8 (p := i) (q := 1) rfl (ee _) rfl (by omega)) (rf_ [(7, .int .i64 ((i + 1 : Nat) : Int))] (h3_ t0 t1 t2) ?_))
    rintro a A ⟨t7, -⟩ ⟨t0, t1, t2, -⟩
    exact ⟨⟨i + 1, lti, A, t0, t1, t2, t7, BB⟩, by show m - (intOf (a.eval (.tmp 7))).toNat < m - (intOf (Act.eval _ (.tmp 7))).toNat; rw [t7, esi]; show m - (i + 1) < m - i; omega⟩
  · rw [decide_eq_false lti] at t17
    refine wp_cond_false t17 ?_
    refine wp_exit ?_
    first | with_reducible refine exit_in ?_ | with_reducible refine exit_then (exit_in ?_) | with_reducible refine exit_then (exit_then (exit_in ?_)) | refine exit_in ?_ | refine exit_then (exit_in ?_) | refine exit_then (exit_then (exit_in ?_))
    clear t17 esi
    refine wp_seq ?_
    refine wi_ A (h4_ t0 t1 t2 t7) (rg_ [(6, .bool true)] ?_)
    rintro a A ⟨t6, -⟩
    refine wp_ret ?_
    repeat (first | with_reducible refine ret_in ?_ | with_reducible refine ret_then ?_)
    refine bodyPost_ret (results_tmp rfl _ _ _) A.2 ⟨?_, BB⟩
    show Ending.returned (a.eval (.tmp 6)) = _
    rw [t6]
end Go.Proofs.YtnjmcknanlbpdaaGreatDoor.Rpl
