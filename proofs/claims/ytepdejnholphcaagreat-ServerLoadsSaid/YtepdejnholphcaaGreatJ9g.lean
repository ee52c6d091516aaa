import Derived.Test.YtepdejnholphcaaGreatJ9f
namespace Go.Proofs.YtepdejnholphcaaGreat.Win
open Go.RowKit Gf8 Aes By8 Cel Cf
/- slices.Clone of tags, the program's copyOf, Open. Written by tools/mkJ9g.py. -/

section
variable {o : Oper} {a : Act} {w : World}
theorem execNl6t {x : Operand} {n c : Nat} (ho : o.op = .binOp .eql 55 x (.const (.slice none 0 0)) 55) (hx : a.eval x = .slice none n c) : (execOp a.eval o).run Tryz.prog w = .ok (.value (.bool true)) w := by
  have en := Go.Lib.run_eql_slice_nil (P := Tryz.prog) w 55 66 none n c 0 0 Tryz.underlying55
  have ec : a.eval (.const (.slice none 0 0)) = .slice none 0 0 := rfl
  unfold execOp
  simp only [ho, hx, ec]
  simp [go_sem, en]
theorem execNl6f {x : Operand} {ad : Addr} {n c : Nat} (ho : o.op = .binOp .eql 55 x (.const (.slice none 0 0)) 55) (hx : a.eval x = .slice (some ad) n c) : (execOp a.eval o).run Tryz.prog w = .ok (.value (.bool false)) w := by
  have en := Go.Lib.run_eql_slice_nil (P := Tryz.prog) w 55 66 (some ad) n c 0 0 Tryz.underlying55
  have ec : a.eval (.const (.slice none 0 0)) = .slice none 0 0 := rfl
  unfold execOp
  simp only [ho, hx, ec]
  simp [go_sem, en]
theorem execBs06 (ho : o.op = .buildSlice 55 0 #[]) : (execOp a.eval o).run Tryz.prog w = .ok (.value (.slice (some ⟨w.heap.size, 0, none⟩) 0 0)) (w.alloc (.cells #[] 66)) := by
  unfold execOp
  simp only [ho]
  simp [go_sem]
end
theorem results_cell1 {P : Program} {fn : Func} {p : Tmp} {ty : TypeId} (h : fn.results = #[.cell p ty]) (tmps : Array Value) (w : World) (g : Nat) (t : TypeId) (cs : Array Value) (fr : Nat × Nat) (d : TypeDesc)
    (hp : tmps.getD p undef = .pointer (some ⟨g, 0, none⟩)) (hg : w.heap[g]? = some (.cells cs t fr))
    (hu : P.underlying ty = some d) (hd : (match d with | .struct _ | .array _ _ => true | _ => false) = true) (hi : (P.info? ty).map (·.size) = some cs.size) :
    (results fn tmps).run P w = .ok (.agg cs) w := by
  have hp' : tmps[p]?.getD undef = .pointer (some ⟨g, 0, none⟩) := by simpa using hp
  simp [results, h, hp', asAddr, run_loadVar_row w g t ty cs fr d hg hu hd hi]
theorem own_emp6 (W : World) : (W.alloc (.cells #[] 66)).ownsRow W.heap.size 66 16 (.slice (some ⟨W.heap.size, 0, none⟩) 0 0) 0 (tgV (fun _ _ => 0) 0) :=
  ⟨rfl, Or.inr ⟨W.heap.size, 0, #[], rfl, Nat.le_refl _, heapNew W _, Nat.le_refl _, Nat.zero_le _, rfl, rfl⟩⟩
set_option maxRecDepth 100000 in
set_option maxHeartbeats 4000000 in
/-- slices.Clone of tags. -/
theorem pclone16 (v : Value) (m : Nat) (t : Nat → Nat → Nat) (V : World) (hT : Tgs V v m t) (hm : m * 16 ≤ 140737488355328) :
    Calls Tryz.prog 23 #[v] V fun e w' => (∃ r, e = .returned r ∧ w'.ownsRow V.heap.size 66 16 r m (tgV t m)) ∧ Below V.heap.size V w' := by
  go_enter Tryz.func23, Tryz.ntmps23
  refine wo_ 8 [(0, v)] ?_
  rintro a A ⟨t0, -⟩
  have BB : Below V.heap.size V V := Below.refl _ _
  refine wp_seq ?_
  refine wi_ A (h1_ t0) (rf_ [] (h1_ t0) ?_)
  rintro a A - ⟨t0, -⟩
  refine wp_seq ?_
  refine wp_seq ?_
  obtain ⟨ad, c_, ev_, hmc, -, -⟩ := hT.shape
  have hnl := hT.nil
  rcases ad with _ | ad
  · have hc0 := hnl _ _ ev_
    refine wi_ A (h1_ t0) (rv_ 1 (.bool true) (fun a ee => execNl6t rfl ((ee _).trans ev_)) (rf_ [(4, .bool true)] (h1_ t0) ?_))
    rintro a A ⟨t4, -⟩ ⟨t0, -⟩
    refine wp_cond_true t4 ?_
    clear t4
    refine wp_seq ?_
    refine wi_ A (h1_ t0) (rg_ [(2, .slice none 0 0)] ?_)
    rintro a A ⟨t2, -⟩
    refine wp_ret ?_
    repeat (first | with_reducible refine ret_in ?_ | with_reducible refine ret_then ?_)
    refine bodyPost_ret (results_tmp rfl _ _ _) A.2 ⟨⟨_, rfl, ?_⟩, BB⟩
    rw [show a.tmps.getD 2 undef = _ from t2]
    obtain rfl : m = 0 := by omega
    exact own_none16 _ _ _
  · refine wi_ A (h1_ t0) (rv_ 1 (.bool false) (fun a ee => execNl6f rfl ((ee _).trans ev_)) (rf_ [(4, .bool false)] (h1_ t0) ?_))
    rintro a A ⟨t4, -⟩ ⟨t0, -⟩
    refine wp_cond_false t4 ?_
    refine wp_skip ?_
    clear t4
    refine wp_seq ?_
    obtain ⟨g5, egg5⟩ : ∃ z_ : Nat, V.heap.size = z_ := ⟨_, rfl⟩
    refine wi_ A (h1_ t0) (rs_ 0 (fun a ee => ?_))
    refine stepV rfl rfl (execBs06 rfl) ⟨.slice (some ⟨g5, 0, none⟩) 0 0, ⟨_, rfl, by subst egg5; rfl⟩, fun X3_1 hX => ?_⟩
    have bQ : Below V.heap.size V X3_1 := by subst hX egg5; exact (belNew V _)
    have FO : (X3_1.ownsRow V.heap.size 66 16 (.slice (some ⟨g5, 0, none⟩) 0 0) (0) (tgV (fun _ _ => 0) (0))) := by subst hX egg5; exact ownE_base (own_emp6 V) (BB).size
    replace BB := BB.trans (bQ.mono BB.size)
    clear bQ hX egg5 ee a
    refine rs_ 2 (fun a ee => ?_)
    refine stepAppT (n := 0) (m := m) (t := fun _ _ => 0) (p := t) rfl rfl rfl (ee _) (ee _) FO (hT.on BB) (by omega) (BB).size fun v7 X3 own' gr => ⟨_, ⟨_, rfl, rfl⟩, eqw ?_⟩
    obtain ⟨BB, FR⟩ : Below V.heap.size V X3 ∧ (X3.ownsRow V.heap.size 66 16 v7 (m) (tgV (t) (m))) := ⟨(BB).grown gr (BB).size (fun k hk => (FO.lt k hk).1), (by rw [Nat.zero_add, cat0] at own'; exact own')⟩
    clear FO ee a
    refine rg_ [(2, v7)] ?_
    rintro a A ⟨t2, -⟩
    refine wp_ret ?_
    refine bodyPost_ret (results_tmp rfl _ _ _) A.2 ⟨⟨_, rfl, ?_⟩, BB⟩
    rw [show a.tmps.getD 2 undef = _ from t2]
    exact FR
end Go.Proofs.YtepdejnholphcaaGreat.Win
