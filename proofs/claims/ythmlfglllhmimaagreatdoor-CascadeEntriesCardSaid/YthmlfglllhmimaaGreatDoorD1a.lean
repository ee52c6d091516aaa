import Derived.Test.YthmlfglllhmimaaGreatDoorD9
import Derived.Laws.ResultCell
namespace Go.Proofs.YthmlfglllhmimaaGreatDoor.Frm
open Go.RowKit Gf8 Aes By8 Cel
/- The reference's Read and Feed. -/

/-- A Batch. -/
def bC (rd ep lf : Int) (cv : Value) : Array Value := #[.int .i64 rd, .int .i64 ep, .int .i64 lf, cv]
theorem sizeB (rd ep lf : Int) (cv : Value) : (Tryz.prog.info? 46).map (·.size) = some (bC rd ep lf cv).size := by
  show _ = some 4
  kernel_rfl
theorem bC_one (rd ep lf : Int) {cv : Value} (h : cv.oneCell' = true) : (bC rd ep lf cv).all (·.oneCell') = true := by
  have e : (bC rd ep lf cv).all (·.oneCell') = (true && (true && (true && (cv.oneCell' && true)))) := by
    simp only [bC, ← Array.all_toList, List.all_cons, List.all_nil]
    rfl
  rw [e, h]
  rfl
theorem zeroB : ∀ w, (zeroValue 46).run Tryz.prog w = .ok (.agg (bC 0 0 0 (.slice none 0 0))) w := by
  intro w
  simp [go_sem, bC]
theorem results_cell_tmp2 {P : Program} {fn : Func} {p u v : Tmp} {ty : TypeId} (h : fn.results = #[.cell p ty, .tmp u, .tmp v]) (tmps : Array Value) (w : World) (g : Nat) (t : TypeId) (cs : Array Value) (fr : Nat × Nat) (d : TypeDesc)
    (hp : tmps.getD p undef = .pointer (some ⟨g, 0, none⟩)) (hg : w.heap[g]? = some (.cells cs t fr))
    (hu : P.underlying ty = some d) (hd : (match d with | .struct _ | .array _ _ => true | _ => false) = true) (hi : (P.info? ty).map (·.size) = some cs.size) :
    (results fn tmps).run P w = .ok (.tuple #[.agg cs, tmps.getD u undef, tmps.getD v undef]) w := by
  have hp' : tmps[p]?.getD undef = .pointer (some ⟨g, 0, none⟩) := by simpa using hp
  simp [results, h, hp', asAddr, run_loadVar_row w g t ty cs fr d hg hu hd hi]
/-- Did it come out right? -/
def okR (p : Nat → Nat) (len : Nat) : Bool := (jE p len).2 == 0
def rK (p : Nat → Nat) (len : Nat) : Nat := if okR p len then jK p len else 0
def rRound (p : Nat → Nat) (len : Nat) : Int := if okR p len then jRound p len else 0
def rEpoch (p : Nat → Nat) (len : Nat) : Int := if okR p len then jEpoch p len else 0
def rLeft (p : Nat → Nat) (len : Nat) : Int := if okR p len then jLeft p len else 0
theorem jE_ok {p : Nat → Nat} {len : Nat} (h : (jE p len).2 = 0) : jE p len = (0, 0) := by
  cases hok : headOk p len with
  | true =>
    have hj : jE p len = tailE p len (nCells p) (wholeK p len (nCells p)) := by unfold jE; rw [hok, if_pos rfl]
    rw [hj] at h ⊢
    unfold tailE at h ⊢
    split at h
    · split at h <;> cases h
    · rw [if_neg (by assumption)]
      split at h
      · cases h
      · rw [if_neg (by assumption)]
        split at h
        · rw [if_pos (by assumption)]
          split at h
          · cases h
          · rw [if_neg (by assumption)]
        · cases h
  | false =>
    exfalso
    have hj : jE p len = headE p len := by unfold jE; rw [hok, if_neg (by simp)]
    rw [hj] at h
    have go : ∀ k, k ≤ 6 → (headR p len k).2 = 0 → ∀ f, 6 - k ≤ f → f < 6 → startN (f + 1) ≤ len ∧ wrongN p f = 0 := by
      intro k
      induction k with
      | zero => intro _ _ f h1 h2; omega
      | succ k ih =>
        intro hk h0 f h1 h2
        rw [headR] at h0
        split at h0
        · cases h0
        · split at h0
          · rename_i w; exact absurd h0 w
          · by_cases e : f = 5 - k
            · subst e
              rename_i a b
              exact ⟨by omega, by simpa using b⟩
            · exact ih (by omega) h0 f (by omega) h2
    have all := go 6 (Nat.le_refl _) h
    have ok : headOk p len = true := (headOk_iff p len).2 ⟨(all 5 (by omega) (by omega)).1, fun f hf => (all f (by omega) hf).2⟩
    rw [hok] at ok
    cases ok
theorem tailE_le {p : Nat → Nat} {len n k : Nat} : (tailE p len n k).2 ≤ 67 := by
  unfold tailE
  repeat' split
  all_goals simp
theorem jE_le (p : Nat → Nat) (len : Nat) : (jE p len).2 ≤ 67 := by
  unfold jE
  split
  · exact tailE_le
  · unfold headE
    have go : ∀ k, (headR p len k).2 ≤ 67 := by
      intro k
      induction k with
      | zero => simp [headR]
      | succ k ih =>
        rw [headR]
        have := wrongN_le p (5 - k)
        repeat' split
        · simp
        · show wrongN p (5 - k) ≤ 67; omega
        · exact ih
    exact go 6

/-- A Judged that was stored into a block of its own. -/
theorem storeJ (w1 : World) (c : Array Value) (hd : Bool) (rd ep lf : Int) (cv : Value) (pl er : Int) : ((w1.alloc (.cells c 85)).setRow w1.heap.size (jC hd rd ep lf cv pl er)).heap[w1.heap.size]? = some (.cells (jC hd rd ep lf cv pl er) 85) ∧ ((w1.alloc (.cells c 85)).setRow w1.heap.size (jC hd rd ep lf cv pl er)).cell? ⟨w1.heap.size, 4, none⟩ = some cv ∧ ((w1.alloc (.cells c 85)).setRow w1.heap.size (jC hd rd ep lf cv pl er)).cell? ⟨w1.heap.size, 5, none⟩ = some (.int .i64 pl) ∧ ((w1.alloc (.cells c 85)).setRow w1.heap.size (jC hd rd ep lf cv pl er)).cell? ⟨w1.heap.size, 6, none⟩ = some (.int .i64 er) ∧ Below w1.heap.size w1 ((w1.alloc (.cells c 85)).setRow w1.heap.size (jC hd rd ep lf cv pl er)) := by
  have h := setRow_heap _ _ _ (jC hd rd ep lf cv pl er) _ _ (heapNew w1 (.cells c 85))
  refine ⟨h, ?_, ?_, ?_, below4 (belNew w1 _) (Nat.le_refl _) _⟩
  · rw [cell_of_row _ _ _ _ _ _ h]; rfl
  · rw [cell_of_row _ _ _ _ _ _ h]; rfl
  · rw [cell_of_row _ _ _ _ _ _ h]; rfl
theorem cell_row_other {w : World} {g k f : Nat} {d : Array Value} (h : g < k) : (w.setRow g d).cell? ⟨k, f, none⟩ = w.cell? ⟨k, f, none⟩ := by
  have e := setRow_other w g k d (by omega)
  unfold World.cell?
  simp only [e]
section
variable {o : Oper} {a : Act} {w : World}
theorem execB0 (ho : o.op = .build 46 #[]) : (execOp a.eval o).run Tryz.prog w = .ok (.value (.agg (bC 0 0 0 (.slice none 0 0)))) w := by
  unfold execOp
  simp only [ho]
  simp [go_sem, bC]
theorem execB2 {x y : Operand} {rd ep lf : Int} {ao : Option Addr} {n c : Nat} (ho : o.op = .build 46 #[(0, x), (1, y)]) (hx : a.eval x = .agg #[.int .i64 rd, .int .i64 ep, .int .i64 lf]) (hy : a.eval y = .slice ao n c) : (execOp a.eval o).run Tryz.prog w = .ok (.value (.agg (bC rd ep lf (.slice ao n c)))) w := by
  unfold execOp
  simp only [ho, List.map_toArray, List.map_cons, List.map_nil, hx, hy]
  simp [go_sem, bC]
theorem execFldP {x : Operand} {g : Nat} (ho : o.op = .fieldAddr 85 x 3) (hx : a.eval x = .pointer (some ⟨g, 0, none⟩)) : (execOp a.eval o).run Tryz.prog w = .ok (.value (.pointer (some ⟨g, 5, none⟩))) w := by
  unfold execOp
  simp only [ho, hx]
  simp [go_sem]
theorem execFldE {x : Operand} {g : Nat} (ho : o.op = .fieldAddr 85 x 4) (hx : a.eval x = .pointer (some ⟨g, 0, none⟩)) : (execOp a.eval o).run Tryz.prog w = .ok (.value (.pointer (some ⟨g, 6, none⟩))) w := by
  unfold execOp
  simp only [ho, hx]
  simp [go_sem]
theorem execLdI {x : Operand} {b f : Nat} {v : Value} (ho : o.op = .load 3 x) (hx : a.eval x = .pointer (some ⟨b, f, none⟩)) (hc : w.cell? ⟨b, f, none⟩ = some v) : (execOp a.eval o).run Tryz.prog w = .ok (.value v) w := by
  unfold execOp
  simp only [ho, hx]
  simp [go_sem, hc]
theorem execStBt {x y : Operand} {g : Nat} {r0 e0 l0 rd ep lf : Int} {c0 cv : Value} {t : TypeId} (ho : o.op = .store 46 x y) (hx : a.eval x = .pointer (some ⟨g, 0, none⟩)) (hy : a.eval y = .agg (bC rd ep lf cv)) (hg : w.heap[g]? = some (.cells (bC r0 e0 l0 c0) t)) (h1 : cv.oneCell' = true) :
    (execOp a.eval o).run Tryz.prog w = .ok .skip (w.setRow g (bC rd ep lf cv)) :=
  execStMid ho hx hy hg (by show 0 + 4 ≤ 4; decide) (sizeB _ _ _ _) (bC_one _ _ _ h1)
theorem execAsB {x : Operand} {v : Value} (ho : o.op = .assign x) (hx : a.eval x = v) : (execOp a.eval o).run Tryz.prog w = .ok (.value v) w := by
  unfold execOp
  simp only [ho, hx]
  simp [go_sem]
end
theorem ownL_shape {W : World} {B n : Nat} {v : Value} {xs : List Value} (h : W.ownsRow B 25 1 v n xs) : ∃ ao cap, v = .slice ao n cap := by
  rcases h.2 with ⟨rfl, rfl⟩ | ⟨g, cap, cur, rfl, _⟩
  · exact ⟨_, _, rfl⟩
  · exact ⟨_, _, rfl⟩
theorem ownL_base {W : World} {B C n : Nat} {v : Value} {xs : List Value} (h : W.ownsRow C 25 1 v n xs) (hB : B ≤ C) : W.ownsRow B 25 1 v n xs := by
  refine ⟨h.1, ?_⟩
  rcases h.2 with h | ⟨g, cap, cur, e, hb, h2⟩
  · exact Or.inl h
  · exact Or.inr ⟨g, cap, cur, e, by omega, h2⟩
theorem CL.base {B C k : Nat} {x : Nat → Value} {p : Nat → Nat} {cv : Value} {W : World} (h : CL C k x p cv W) (hB : B ≤ C) : CL B k x p cv W := ⟨ownL_base h.own hB, ⟨fun t ht => own_base (h.fam.rows t ht) hB, h.fam.dis⟩⟩
theorem CL.rowT {B k : Nat} {x : Nat → Value} {p : Nat → Nat} {cv : Value} {W : World} (h : CL B k x p cv W) {R : Nat} {c : Array Value} {t : TypeId} (hr : W.heap[R]? = some (.cells c t)) (h1 : t ≠ 25) (h2 : t ≠ 5) (d : Array Value) : CL B k x p cv (W.setRow R d) :=
  ⟨ownL_row h.own hr h1 d, ⟨fun t ht => ownsRow_row (h.fam.rows t ht) hr h2 d, h.fam.dis⟩⟩
theorem readR (V w1 : World) {W2 : World} (c : Array Value) (hb1 : Below (V.alloc (.cells c 46)).heap.size (V.alloc (.cells c 46)) w1) (qb : Below w1.heap.size w1 W2) : W2.heap[V.heap.size]? = some (.cells c 46) := by
  rw [qb.block _ (by have := hb1.size; simp at this; omega), hb1.block _ (by simp)]
  exact heapNew V _
theorem range_hd {W : World} {J : Nat} {hd : Bool} {rd ep lf : Int} {cv : Value} {pl er : Int} {t : TypeId} (h : W.heap[J]? = some (.cells (jC hd rd ep lf cv pl er) t)) : W.rangeAt J 1 [.int .i64 rd, .int .i64 ep, .int .i64 lf] := by
  intro j u hu
  rw [cell_of_row _ _ _ _ _ _ h]
  match j, hu with
  | 0, hu => exact hu
  | 1, hu => exact hu
  | 2, hu => exact hu
/-- What each operation of the refusal yields. -/
def rfV (J : Nat) (pl er : Nat) (j : Nat) : Value :=
  match j with
  | 0 => .agg (bC 0 0 0 (.slice none 0 0)) | 1 => .pointer (some ⟨J, 5, none⟩) | 2 => .int .i64 pl | 3 => .pointer (some ⟨J, 6, none⟩) | 4 => .int .i64 er | 5 => undef | 6 => .int .i64 pl | _ => .int .i64 er
set_option maxRecDepth 20000 in
set_option maxHeartbeats 1000000 in
theorem rread_any (p : Nat → Nat) (len : Nat) (v : Value) (V : World) (hv : SliceN V v len p) (hl : len ≤ 140737488351232) :
    Calls Tryz.prog 15 #[v] V fun e w' => ∃ cv x, e = .returned (.tuple #[.agg (bC (rRound p len) (rEpoch p len) (rLeft p len) cv), .int .i64 (jE p len).1, .int .i64 (jE p len).2]) ∧ CL V.heap.size (rK p len) x p cv w' ∧ Below V.heap.size V w' := by
  have z := zeroJ
  have z2 := zeroB
  have JA := judge_any p len v (V.alloc (.cells (bC 0 0 0 (.slice none 0 0)) 46)) (hv.on (belNew V _)) hl
  obtain ⟨E, hE⟩ : ∃ E, (jE p len).2 = E := ⟨_, rfl⟩
  obtain ⟨PL, hP⟩ : ∃ PL, (jE p len).1 = PL := ⟨_, rfl⟩
  have lE := jE_le p len
  rw [hE] at lE
  by_cases h : E = 0
  · subst h
    have o1 : okR p len = true := by unfold okR; rw [hE]; rfl
    have e0 := jE_ok hE
    have p0 : PL = 0 := by rw [← hP, e0]
    subst p0
    have QQ : Hid (rRound p len = jRound p len ∧ rEpoch p len = jEpoch p len ∧ rLeft p len = jLeft p len ∧ rK p len = jK p len) := by
      refine ⟨?_, ?_, ?_, ?_⟩
      · unfold rRound; rw [o1]; rfl
      · unfold rEpoch; rw [o1]; rfl
      · unfold rLeft; rw [o1]; rfl
      · unfold rK; rw [o1]; rfl
    rw [hE, hP] at JA ⊢
    obtain ⟨rd, hrd⟩ : ∃ rd, jRound p len = rd := ⟨_, rfl⟩
    obtain ⟨ep, hep⟩ : ∃ ep, jEpoch p len = ep := ⟨_, rfl⟩
    obtain ⟨lf, hlf⟩ : ∃ lf, jLeft p len = lf := ⟨_, rfl⟩
    rw [hrd, hep, hlf] at JA QQ
    clear o1 hE hP hv hrd hep hlf e0
    go_enter Tryz.func15, Tryz.ntmps15
    go_wp2_with (first
      | (go_at_call 28; refine JA.mono ?_; rintro e w1 ⟨cv, x, rfl, cl, hb1⟩; obtain ⟨ac, cc, rfl⟩ := ownL_shape cl.own)
      | (refine atStore 85 (.tmp 5) (.tmp 7) rfl ?_; go_must (refine wpList_store_row rfl 85 (.tmp 5) (.tmp 7) rfl w1.heap.size _ rfl rfl 85 _ (heapNew w1 _) (sizeJ _ _ _ _ _ _ _) rfl (jC_one _ _ _ _ _ _ cl.one) ?_; obtain ⟨q1, q4, q5, q6, qb⟩ := storeJ w1 (jC false 0 0 0 (.slice none 0 0) 0 0) (headOk p len) rd ep lf (.slice ac (jK p len) cc) 0 0; have r0 := readR V w1 _ hb1 qb))
      | (refine atLoad 23 (.tmp 16) rfl ?_; go_must (refine wpList_ex rfl (execLoadMid (cs := [.int .i64 rd, .int .i64 ep, .int .i64 lf]) rfl rfl (range_hd q1) Tryz.underlying23 rfl (by kernel_rfl)) ?_))
      | (refine atStore 46 (.tmp 2) (.tmp 20) rfl ?_; go_must (refine wpList_exS rfl (execStBt (cv := .slice ac (jK p len) cc) (rd := rd) (ep := ep) (lf := lf) rfl rfl rfl r0 rfl) ?_)))
    refine bodyPost_ret (results_cell_tmp2 Tryz.results15 _ _ V.heap.size 46 _ (0, 0) _ rfl (setRow_heap _ _ _ (bC rd ep lf (.slice ac (jK p len) cc)) _ _ r0) Tryz.underlying46 rfl (sizeB _ _ _ _)) rfl ?_
    obtain ⟨a1, a2, a3, a4⟩ := QQ.out
    rw [a1, a2, a3, a4]
    have b0 : Below V.heap.size V w1 := (belNew V _).trans (hb1.mono (by simp))
    exact ⟨_, x, rfl, ((cl.base (by simp)).on qb).rowT r0 (by decide) (by decide) _, below4 (b0.trans (qb.mono b0.size)) (Nat.le_refl _) _⟩
  · have i1 : ((E : Int) != 0) = true := by simp; omega
    have o1 : okR p len = false := by unfold okR; rw [hE]; simp; omega
    have QQ : Hid (rRound p len = 0 ∧ rEpoch p len = 0 ∧ rLeft p len = 0 ∧ rK p len = 0) := by
      refine ⟨?_, ?_, ?_, ?_⟩
      · unfold rRound; rw [o1]; rfl
      · unfold rEpoch; rw [o1]; rfl
      · unfold rLeft; rw [o1]; rfl
      · unfold rK; rw [o1]; rfl
    rw [hE, hP] at JA ⊢
    clear o1 hE hP h hv
    go_enter Tryz.func15, Tryz.ntmps15
    go_wp2_with (first
      | (go_at_call 28; refine JA.mono ?_; rintro e w1 ⟨cv, x, rfl, cl, hb1⟩)
      | (refine atStore 85 (.tmp 5) (.tmp 7) rfl ?_; go_must (refine wpList_store_row rfl 85 (.tmp 5) (.tmp 7) rfl w1.heap.size _ rfl rfl 85 _ (heapNew w1 _) (sizeJ _ _ _ _ _ _ _) rfl (jC_one _ _ _ _ _ _ cl.one) ?_; obtain ⟨q1, q4, q5, q6, qb⟩ := storeJ w1 (jC false 0 0 0 (.slice none 0 0) 0 0) (headOk p len) (jRound p len) (jEpoch p len) (jLeft p len) cv PL E)))
    have hb2 : Below V.heap.size V ((w1.alloc (.cells (jC false 0 0 0 (.slice none 0 0) 0 0) 85)).setRow w1.heap.size (jC (headOk p len) (jRound p len) (jEpoch p len) (jLeft p len) cv PL E)) := by
      have b0 : Below V.heap.size V w1 := (belNew V _).trans (hb1.mono (by simp))
      exact b0.trans (qb.mono b0.size)
    have r0 : ((w1.alloc (.cells (jC false 0 0 0 (.slice none 0 0) 0 0) 85)).setRow w1.heap.size (jC (headOk p len) (jRound p len) (jEpoch p len) (jLeft p len) cv PL E)).heap[V.heap.size]? = some (.cells (bC 0 0 0 (.slice none 0 0)) 46) := by
      rw [qb.block _ (by have := hb1.size; simp at this; omega), hb1.block _ (by simp)]
      exact heapNew V _
    obtain ⟨W2, hW2⟩ : ∃ W2, (w1.alloc (.cells (jC false 0 0 0 (.slice none 0 0) 0 0) 85)).setRow w1.heap.size (jC (headOk p len) (jRound p len) (jEpoch p len) (jLeft p len) cv PL E) = W2 := ⟨_, rfl⟩
    rw [hW2] at q1 q4 q5 q6 qb hb2 r0 ⊢
    clear hW2 JA
    refine wp_region_det 21 [(0, 11), (1, 12), (2, 13), (3, 14), (4, 15), (6, 3), (7, 4)] (rfV w1.heap.size PL E) (fun _ W => W.heap[V.heap.size]? = some (.cells (bC 0 0 0 (.slice none 0 0)) 46) ∧ W.cell? ⟨w1.heap.size, 5, none⟩ = some (.int .i64 PL) ∧ W.cell? ⟨w1.heap.size, 6, none⟩ = some (.int .i64 E) ∧ Below V.heap.size V W ∧ V.heap.size < w1.heap.size) (by kernel_rfl) (by kernel_rfl) rfl (by kernel_rfl) (by decide) (by decide) ?_ ?_ ?_
    · exact ⟨r0, q5, q6, hb2.drew, by have := hb1.size; simp at this; omega⟩
    · intro j hj l a W hl hf hdep hl2 hcl _ hT
      match j, hj with
      | 0, _ => exact stepV rfl rfl (execB0 rfl) ⟨⟨_, rfl, rfl⟩, hT⟩
      | 1, _ => exact stepV rfl rfl (execFldP rfl (hf 5 (by decide))) ⟨⟨_, rfl, rfl⟩, hT⟩
      | 2, _ => exact stepV rfl rfl (execLdI rfl (hdep _ rfl 1 rfl _ rfl _ rfl) hT.2.1) ⟨⟨_, rfl, rfl⟩, hT⟩
      | 3, _ => exact stepV rfl rfl (execFldE rfl (hf 5 (by decide))) ⟨⟨_, rfl, rfl⟩, hT⟩
      | 4, _ => exact stepV rfl rfl (execLdI rfl (hdep _ rfl 3 rfl _ rfl _ rfl) hT.2.2.1) ⟨⟨_, rfl, rfl⟩, hT⟩
      | 5, _ =>
        refine stepS rfl rfl (execStBt rfl (hf 2 (by decide)) (hdep _ rfl 0 rfl _ rfl _ rfl) hT.1 rfl) ⟨⟨_, rfl, rfl⟩, setRow_heap _ _ _ _ _ _ hT.1, ?_, ?_, below4 hT.2.2.2.1 (Nat.le_refl _) _, hT.2.2.2.2⟩
        · rw [cell_row_other hT.2.2.2.2]; exact hT.2.1
        · rw [cell_row_other hT.2.2.2.2]; exact hT.2.2.1
      | 6, _ => exact stepV rfl rfl (execAsB rfl (hdep _ rfl 2 rfl _ rfl _ rfl)) ⟨⟨_, rfl, rfl⟩, hT⟩
      | 7, _ => exact stepV rfl rfl (execAsB rfl (hdep _ rfl 4 rfl _ rfl _ rfl)) ⟨⟨_, rfl, rfl⟩, hT⟩
      | n + 8, h => exact absurd h (by simp)
    · intro l W hall hT
      simp only [putP, rfV, Act.put, List.setIfInBounds_toArray, List.set_cons_succ, List.set_cons_zero]
      go_wp2
      refine bodyPost_ret (results_cell_tmp2 Tryz.results15 _ _ V.heap.size 46 _ (0, 0) _ rfl hT.1 Tryz.underlying46 rfl (sizeB _ _ _ _)) rfl ?_
      obtain ⟨a1, a2, a3, a4⟩ := QQ.out
      rw [a1, a2, a3, a4]
      exact ⟨_, x, rfl, CL.none _ _ _ _, hT.2.2.2.1⟩
end Go.Proofs.YthmlfglllhmimaaGreatDoor.Frm
