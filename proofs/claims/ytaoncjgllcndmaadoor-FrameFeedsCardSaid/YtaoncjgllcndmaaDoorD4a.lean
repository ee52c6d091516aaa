import Derived.Test.YtaoncjgllcndmaaDoorD3x
import Derived.Test.YtaoncjgllcndmaaDoorD3n
import Derived.Test.YtaoncjgllcndmaaDoorD1e
namespace Go.Proofs.YtaoncjgllcndmaaDoor.Frm
open Go.RowKit Gf8 Aes By8 Cel
/- Groundwork for FrameFeeds: pieces one behind the other; told. -/

def offL (ln : Nat → Nat) : Nat → Nat
  | 0 => 0
  | i + 1 => offL ln i + ln i
def catF (ln : Nat → Nat) (c : Nat → Nat → Nat) : Nat → Nat → Nat
  | 0 => fun _ => 0
  | i + 1 => fun j => if j < offL ln i then catF ln c i j else c i (j - offL ln i)
theorem offL_mono (ln : Nat → Nat) {i n : Nat} (h : i ≤ n) : offL ln i ≤ offL ln n := by
  induction n with
  | zero => rw [show i = 0 by omega]; exact Nat.le_refl _
  | succ n ih =>
    by_cases e : i = n + 1
    · rw [e]; exact Nat.le_refl _
    · have := ih (by omega)
      show offL ln i ≤ offL ln n + ln n
      omega
theorem offL_great (ln : Nat → Nat) : ∀ n, offL ln n ≤ greatN n ln
  | 0 => Nat.le_refl _
  | n + 1 => by
    have := offL_great ln n
    show offL ln n + ln n ≤ greatN n ln + (ln n + 1)
    omega
theorem cat_at (ln : Nat → Nat) (c : Nat → Nat → Nat) {i m j : Nat} (hi : i < m) (hj : j < ln i) : catF ln c m (offL ln i + j) = c i j := by
  induction m with
  | zero => omega
  | succ m ih =>
    show (if offL ln i + j < offL ln m then catF ln c m (offL ln i + j) else c m (offL ln i + j - offL ln m)) = c i j
    by_cases e : i = m
    · subst e
      rw [if_neg (by omega)]
      congr 1
      omega
    · have h := offL_mono ln (i := i + 1) (n := m) (by omega)
      have h2 : offL ln (i + 1) = offL ln i + ln i := rfl
      rw [if_pos (by omega)]
      exact ih (by omega)
theorem cat_lt (ln : Nat → Nat) (c : Nat → Nat → Nat) : ∀ m, (∀ i j, i < m → j < ln i → c i j < 256) → ∀ j, j < offL ln m → catF ln c m j < 256
  | 0, _, j, hj => by simp [offL] at hj
  | m + 1, h, j, hj => by
    show (if j < offL ln m then catF ln c m j else c m (j - offL ln m)) < 256
    split
    · exact cat_lt ln c m (fun i j hi => h i j (by omega)) j (by assumption)
    · have : offL ln (m + 1) = offL ln m + ln m := rfl
      exact h m _ (by omega) (by omega)
theorem execStAllF {P : Program} {o : Oper} {a : Act} {w : World} {ty : TypeId} {x y : Operand} {g : Nat} {cells cur : Array Value} {t : TypeId} (ho : o.op = .store ty x y) (hx : a.eval x = .pointer (some ⟨g, 0, none⟩)) (hy : a.eval y = .agg cells) (hg : w.heap[g]? = some (.cells cur t)) (hs : cur.size = cells.size) (hi : (P.info? ty).map (·.size) = some cells.size) (h1 : cells.all (·.oneCell') = true) :
    (execOp a.eval o).run P w = .ok .skip (w.setRow g cells) := by
  have h := execStMid (P := P) ho hx hy hg (by omega) hi h1
  have e : (cur.toList.take 0 ++ cells.toList ++ cur.toList.drop (0 + cells.size)).toArray = cells := by
    rw [List.take_zero, List.nil_append, Nat.zero_add, List.drop_of_length_le (by rw [Array.length_toList, hs]; exact Nat.le_refl _), List.append_nil]
  rw [e] at h
  exact h
theorem execLdAllF {P : Program} {o : Oper} {a : Act} {w : World} {ty : TypeId} {x : Operand} {g : Nat} {cells : Array Value} {t : TypeId} {fr : Nat × Nat} {d : TypeDesc} (ho : o.op = .load ty x) (hx : a.eval x = .pointer (some ⟨g, 0, none⟩)) (hg : w.heap[g]? = some (.cells cells t fr)) (hu : P.underlying ty = some d) (hd : d.isRow = true) (hi : (P.info? ty).map (·.size) = some cells.size) :
    (execOp a.eval o).run P w = .ok (.value (.agg cells)) w := by
  have h := execLoadMid (P := P) (w := w) (cs := cells.toList) ho hx (fun j v hj => by rw [cell_of_row _ _ _ _ _ _ hg, Nat.zero_add, ← Array.getElem?_toList]; exact hj) hu hd (by rw [hi, Array.length_toList])
  exact h
theorem hC_oneF (a b c : Int) : (hC a b c).all (·.oneCell') = true := by
  simp [hC, Value.oneCell']
theorem jC_cells {W : World} {J : Nat} {hd : Bool} {rd ep lf : Int} {cv : Value} {pl er : Int} {t : TypeId} (h : W.heap[J]? = some (.cells (jC hd rd ep lf cv pl er) t)) : W.cell? ⟨J, 0, none⟩ = some (.bool hd) ∧ W.cell? ⟨J, 5, none⟩ = some (.int .i64 pl) ∧ W.cell? ⟨J, 6, none⟩ = some (.int .i64 er) := by
  refine ⟨?_, ?_, ?_⟩ <;> (rw [cell_of_row _ _ _ _ _ _ h]; rfl)
set_option maxRecDepth 20000 in
set_option maxHeartbeats 1000000 in
theorem told_any (F : Nat) (s : FSt) (q : Nat → Nat) (n k : Nat) (raw : Value) (V : World) (h : FAt F s V) (tk : Took q n k s) (hv : SliceN V raw n q) (hn : n ≤ 140737488351232) :
    Calls Tryd.prog 23 #[.pointer (some ⟨F, 0, none⟩), raw] V fun e w' => e = .returned (.bool true) ∧ Below V.heap.size V w' := by
  have JD := judge_any q n raw V hv hn
  obtain ⟨hd, hhd⟩ : ∃ hd, headOk q n = hd := ⟨_, rfl⟩
  obtain ⟨rd, hrd⟩ : ∃ rd, jRound q n = rd := ⟨_, rfl⟩
  obtain ⟨ep, hep⟩ : ∃ ep, jEpoch q n = ep := ⟨_, rfl⟩
  obtain ⟨lf, hlf⟩ : ∃ lf, jLeft q n = lf := ⟨_, rfl⟩
  obtain ⟨J, hJ⟩ : ∃ J, jE q n = J := ⟨_, rfl⟩
  obtain ⟨K, hK⟩ : ∃ K, jK q n = K := ⟨_, rfl⟩
  rw [hhd, hrd, hep, hlf, hJ, hK] at JD
  have HD : Hid (∀ W, FAt F s W → Calls Tryd.prog 24 #[.pointer (some ⟨F, 0, none⟩)] W fun e w' => e = .returned (.tuple #[.agg (hC rd ep lf), .bool hd]) ∧ Below W.heap.size W w') := fun W hW => by
    have h := header_took F s q n k W hW tk hv.bytes
    rw [hhd, hrd, hep, hlf] at h
    exact h
  have EN : Hid (∀ W, FAt F s W → Calls Tryd.prog 25 #[.pointer (some ⟨F, 0, none⟩)] W fun e w' => e = .returned (.tuple #[.int .i64 (J.1 : Int), .int .i64 (J.2 : Int)]) ∧ Below W.heap.size W w') := fun W hW => by
    have h := end_took F s q n k W hW tk hv.bytes hn
    rw [hJ] at h
    exact h
  have FA : Hid (FAt F s V) := h
  have zh := zeroH
  have zj := zeroJ
  have eqn := neqH
  clear h tk hv hn hhd hrd hep hlf hJ hK
  go_enter Tryd.func23, Tryd.ntmps23
  go_wp2_with (first
    | (go_at_call 31; refine JD.mono ?_; rintro e w1 ⟨cv, x, rfl, cl, hb1⟩; obtain ⟨ca, cc, rfl⟩ := ownL_shape cl.own; have B1 : Hid (Below V.heap.size V w1) := hb1; clear hb1 cl)
    | (refine atStore 66 (.tmp 5) (.tmp 11) rfl ?_; go_must (refine wpList_exS rfl (execStAllF (cells := jC hd rd ep lf (.slice ca K cc) J.1 J.2) rfl rfl rfl (heapNew w1 _) rfl (sizeJ _ _ _ _ _ _ _) (jC_one _ _ _ _ _ _ rfl)) ?_; obtain ⟨W2, hW2⟩ : ∃ W2, (w1.alloc (.cells (jC false 0 0 0 (.slice none 0 0) 0 0) 66)).setRow w1.heap.size (jC hd rd ep lf (.slice ca K cc) J.1 J.2) = W2 := ⟨_, rfl⟩; have r2 : W2.heap[w1.heap.size]? = some (.cells (jC hd rd ep lf (.slice ca K cc) J.1 J.2) 66) := (by rw [← hW2]; exact setRow_heap _ _ _ _ _ _ (heapNew w1 _)); have b2 : Below w1.heap.size w1 W2 := (by rw [← hW2]; exact below4 (belNew w1 _) (Nat.le_refl _) _); have S2 : Hid (W2.heap[w1.heap.size]? = some (.cells (jC hd rd ep lf (.slice ca K cc) J.1 J.2) 66) ∧ Below V.heap.size V W2) := ⟨r2, B1.out.trans (b2.mono B1.out.size)⟩; rw [hW2]; clear r2 b2 hW2)))
  go_loopw [12] (fun z W => ∃ i : Nat, i ≤ 2 ∧ z = .int .i64 (i : Int) ∧ W.heap[w1.heap.size]? = some (.cells (jC hd rd ep lf (.slice ca K cc) J.1 J.2) 66) ∧ Below V.heap.size V W) (fun z _ => 2 - (intOf z).toNat)
  case atStart => exact ⟨0, by omega, rfl, S2.out⟩
  case round =>
    obtain ⟨i, hi, rfl, rj, bel⟩ := hrel
    by_cases hlt : i < 2
    · have i1 : (i : Int) < 2 := by omega
      have HI : Hid (i < 2 ∧ wr.heap[w1.heap.size]? = some (.cells (jC hd rd ep lf (.slice ca K cc) J.1 J.2) 66) ∧ Below V.heap.size V wr ∧ FAt F s wr) := ⟨hlt, rj, bel, FA.out.on bel⟩
      clear hlt hi rj bel
      go_wp2_with (first
        | (go_at_call 24; refine (HD.out wr HI.out.2.2.2).mono ?_; rintro e w3 ⟨rfl, hb3⟩; have B3 : Hid (Below wr.heap.size wr w3) := hb3; clear hb3)
        | (refine atStore 23 (.tmp 6) (.tmp 17) rfl ?_; go_must (refine wpList_exS rfl (execStAllF (cells := hC rd ep lf) rfl rfl rfl (heapNew w3 _) rfl (sizeH _ _ _) (hC_oneF _ _ _)) ?_; obtain ⟨W4, hW4⟩ : ∃ W4, (w3.alloc (.cells (hC 0 0 0) 23)).setRow w3.heap.size (hC rd ep lf) = W4 := ⟨_, rfl⟩; have r4 : W4.heap[w3.heap.size]? = some (.cells (hC rd ep lf) 23) := (by rw [← hW4]; exact setRow_heap _ _ _ _ _ _ (heapNew w3 _)); have b4 : Below w3.heap.size w3 W4 := (by rw [← hW4]; exact below4 (belNew w3 _) (Nat.le_refl _) _); have br4 := B3.out.trans (b4.mono B3.out.size); have S4 : Hid (W4.heap[w3.heap.size]? = some (.cells (hC rd ep lf) 23) ∧ Below wr.heap.size wr W4 ∧ FAt F s W4) := ⟨r4, br4, HI.out.2.2.2.on br4⟩; rw [hW4]; clear r4 b4 br4 hW4))
        | (go_at_call 25; refine (EN.out W4 S4.out.2.2).mono ?_; rintro e w5 ⟨rfl, hb5⟩; have br5 := S4.out.2.1.trans (hb5.mono S4.out.2.1.size); have rj5 : w5.heap[w1.heap.size]? = some (.cells (jC hd rd ep lf (.slice ca K cc) J.1 J.2) 66) := (by rw [br5.block _ (Array.getElem?_eq_some_iff.1 HI.out.2.1).1]; exact HI.out.2.1); obtain ⟨k0, k5, k6⟩ := jC_cells rj5; have S5 : Hid (w5.heap[w3.heap.size]? = some (.cells (hC rd ep lf) 23) ∧ w5.heap[w1.heap.size]? = some (.cells (jC hd rd ep lf (.slice ca K cc) J.1 J.2) 66) ∧ Below V.heap.size V w5) := ⟨(by rw [hb5.block _ (Array.getElem?_eq_some_iff.1 S4.out.1).1]; exact S4.out.1), rj5, HI.out.2.2.1.trans (br5.mono HI.out.2.2.1.size)⟩; clear hb5 br5 rj5)
        | (refine atLoad 23 (.tmp 6) rfl ?_; go_must (refine wpList_ex rfl (execLdAllF rfl rfl S5.out.1 Tryd.underlying23 rfl (sizeH _ _ _)) ?_))
        | (refine atLoad 23 (.tmp 30) rfl ?_; go_must (refine wpList_ex rfl (execLoadMid (cs := (hC rd ep lf).toList) rfl rfl (range_hd S5.out.2.1) Tryd.underlying23 rfl (by kernel_rfl)) ?_)))
      go_roundw
      case rel => exact ⟨i + 1, HI.out.1, by go_num, S5.out.2.1, S5.out.2.2⟩
      case measure => have := HI.out.1; simp [intOf]; omega
    · have i1 : ¬ (i : Int) < 2 := by omega
      have BT : Hid (Below V.heap.size V wr) := bel
      clear bel hi hlt rj
      go_wp2
      go_ret
      exact ⟨rfl, BT.out⟩
end Go.Proofs.YtaoncjgllcndmaaDoor.Frm
