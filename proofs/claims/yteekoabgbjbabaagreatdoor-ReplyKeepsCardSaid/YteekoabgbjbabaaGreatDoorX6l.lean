import Derived.Test.YteekoabgbjbabaaGreatDoorB7b
import Derived.Test.YteekoabgbjbabaaGreatDoorC6
namespace Go.Proofs.YteekoabgbjbabaaGreatDoor.Oni
open Go.RowKit Gf8 Aes By8 Cel
/- The reference of layer 7. -/

theorem some_nil {W : World} {v : Value} {n : Nat} {p : Nat → Nat} (h : SliceN W v n p) (h0 : 0 < n) : ∀ cap, v = .slice none n cap → cap = 0 := by
  intro cap e
  obtain ⟨a, c, e', _, _, e3⟩ := h.shape
  obtain ⟨b, o, rfl, _⟩ := e3 h0
  rw [e] at e'
  cases e'
theorem rtagN_any (vk vm : Value) (lm : Nat) (key m : Nat → Nat) (w : World) (h0 : 0 < lm) (hm : lm ≤ 140737488351232) (h1 : SliceN w vk 32 key) (h2 : SliceN w vm lm m) :
    Calls Tryz.prog 63 #[vk, vm] w fun e w' => e = .returned (.agg (bA 32 (hfF key m lm))) ∧ Below w.heap.size w w' := by
  refine (rtag_any vk vm 32 lm (ci key) (ci m) w (by omega) (by omega) (toB h1) (toB h2) (some_nil h1 (by omega)) (some_nil h2 h0)).mono ?_
  rintro e w' ⟨rfl, hb⟩
  exact ⟨by rw [← hfF_ci, tab_ci], hb⟩
theorem rderiveN_any (vs vt vi : Value) (key nonce : Nat → Nat) (w : World) (h0 : SliceN w vs 32 key) (h1 : SliceN w vt 16 nonce) (h2 : SliceN w vi 5 chF) :
    Calls Tryz.prog 36 #[vs, vt, vi, .int .i64 80] w fun e w' => ∃ v', e = .returned (.tuple #[v', .int .i64 0]) ∧ SliceN w' v' 80 (dk key nonce) ∧ Below w.heap.size w w' := by
  refine (rderive_any vs vt vi 32 16 5 (ci key) (ci nonce) (ci chF) 80 w (by omega) (by omega) (by omega) (toB h0) (toB h1) (toB h2) (some_nil h0 (by omega)) (some_nil h1 (by omega)) (some_nil h2 (by omega))).mono ?_
  rintro e w' ⟨v', rfl, s, hb⟩
  rw [show expN 80 = 80 from rfl, ← dk_ci] at s
  exact ⟨v', rfl, ⟨s.shape, fun j _ => dk_lt _ _ j⟩, hb⟩
set_option maxRecDepth 20000 in
theorem rsize_any (left : Int) (V : World) : Calls Tryz.prog 37 #[.int .i64 left] V fun e w' => e = .returned (.int .i64 (sz left : Nat)) ∧ w' = V := by
  by_cases h1 : left < 1
  · rw [show sz left = 0 from if_neg (by omega)]
    go_enter Tryz.func37, Tryz.ntmps37
    go_wp2
    go_ret
    exact ⟨rfl, rfl⟩
  · by_cases h2 : left > 8
    · rw [show sz left = 0 from if_neg (by omega)]
      go_enter Tryz.func37, Tryz.ntmps37
      go_wp2
      go_ret
      exact ⟨rfl, rfl⟩
    · have e : ((sz left : Nat) : Int) = 82 + 34 * (left - 1) := by unfold sz; rw [if_pos (by omega)]; omega
      rw [e]
      go_enter Tryz.func37, Tryz.ntmps37
      go_wp2
      go_ret
      exact ⟨rfl, rfl⟩
section
variable {o : Oper} {a : Act} {w : World}
theorem execIdxA16 {x i : Operand} {b f k : Nat} (ho : o.op = .indexAddr 35 x i) (hx : a.eval x = .pointer (some ⟨b, f, none⟩)) (hi : a.eval i = .int .i64 (k : Int)) (hk : k < 16) : (execOp a.eval o).run Tryz.prog w = .ok (.value (.pointer (some ⟨b, f + k, none⟩))) w := by
  have h : (k : Int) < 16 := by omega
  unfold execOp
  simp only [ho, hx, hi]
  simp [go_sem, h]
theorem execIdxA32 {x i : Operand} {b f k : Nat} (ho : o.op = .indexAddr 54 x i) (hx : a.eval x = .pointer (some ⟨b, f, none⟩)) (hi : a.eval i = .int .i64 (k : Int)) (hk : k < 32) : (execOp a.eval o).run Tryz.prog w = .ok (.value (.pointer (some ⟨b, f + k, none⟩))) w := by
  have h : (k : Int) < 32 := by omega
  unfold execOp
  simp only [ho, hx, hi]
  simp [go_sem, h]
end
set_option maxRecDepth 20000 in
set_option maxHeartbeats 1000000 in
theorem half_any (key m : Nat → Nat) (lm : Nat) (v : Value) (V : World) (hk : ∀ j, j < 32 → key j < 256) (hv : SliceN V v lm m) (h0 : 0 < lm) (hl : lm ≤ 140737488351232) :
    Calls Tryz.prog 67 #[.agg (bA 32 key), v] V fun e w' => e = .returned (.agg (bA 16 (hfF key m lm))) ∧ Below V.heap.size V w' := by
  obtain ⟨V2, hV2⟩ : ∃ V2, (V.alloc (.cells (bA 32 key) 54)).alloc (.cells (bA 16 fun _ => 0) 35) = V2 := ⟨_, rfl⟩
  have hh := heap2c V (.cells (bA 32 key) 54) (.cells (bA 16 fun _ => 0) 35)
  have bl := below2c V (.cells (bA 32 key) 54) (.cells (bA 16 fun _ => 0) 35)
  rw [hV2] at hh bl
  have s2 : V2.heap.size = V.heap.size + 2 := by rw [← hV2]; simp
  have C := rtagN_any (.slice (some ⟨V.heap.size, 0, none⟩) 32 32) v lm key m V2 h0 hl (row_slice hh.1 hk (by omega)) (hv.on bl)
  obtain ⟨T, hT⟩ : ∃ T, hfF key m lm = T := ⟨_, rfl⟩
  rw [hT] at C ⊢
  have HH : Hid (_ ∧ _) := hh
  have BL : Hid (Below V.heap.size V V2 ∧ V2.heap.size = V.heap.size + 2) := ⟨bl, s2⟩
  have z16 := zero16
  have z32 := zero32
  have s32 := sl32
  clear hk hv hl hh bl s2 h0 hT
  go_enter Tryz.func67, Tryz.ntmps67
  go_wp2_with (first
    | (go_at_call 63; refine C.mono ?_; rintro e w1 ⟨rfl, hb1⟩; have R0 : Hid (w1.heap[V.heap.size + 1]? = some (.cells (bA 16 fun _ => 0) 35)) := (by rw [hb1.block _ (by have := BL.out.2; omega)]; exact HH.out.2); have B1 : Hid (Below V.heap.size V w1 ∧ V.heap.size + 2 ≤ w1.heap.size) := ⟨BL.out.1.trans (hb1.mono BL.out.1.size), by have := hb1.size; have := BL.out.2; omega⟩; clear hb1)
    | (refine atStore 54 (.tmp 5) (.tmp 10) rfl ?_; go_must (refine wpList_exS rfl (execStAll (cells := bA 32 T) rfl rfl rfl (heapNew w1 _) (by rw [bA_size, bA_size]) (size32 _) (bA_one _ _)) ?_; obtain ⟨W3, hW3⟩ : ∃ W3, (w1.alloc (.cells (bA 32 fun _ => 0) 54)).setRow w1.heap.size (bA 32 T) = W3 := ⟨_, rfl⟩; have R3 : Hid (W3.heap[w1.heap.size]? = some (.cells (bA 32 T) 54)) := (by rw [← hW3]; exact setRow_heap _ _ _ _ _ _ (heapNew w1 _)); have b3 : Below w1.heap.size w1 W3 := (by rw [← hW3]; exact below4 (belNew w1 _) (Nat.le_refl _) _); have R4 : Hid (W3.heap[V.heap.size + 1]? = some (.cells (bA 16 fun _ => 0) 35) ∧ w1.heap.size < W3.heap.size) := ⟨(by rw [b3.block _ (by have := B1.out.2; omega)]; exact R0.out), (Array.getElem?_eq_some_iff.1 R3.out).1⟩; have B3 : Hid (Below V.heap.size V W3) := B1.out.1.trans (b3.mono B1.out.1.size); rw [hW3]; clear b3 hW3)))
  obtain ⟨W4, hW4⟩ : ∃ W4, W3.alloc (.cells (bA 16 fun _ => 0) 35) = W4 := ⟨_, rfl⟩
  have r4 := heapNew W3 (.cells (bA 16 fun _ => 0) 35)
  have b4 := belNew W3 (.cells (bA 16 fun _ => 0) 35)
  rw [hW4] at r4 b4
  have X4 : Hid (W4.heap[W3.heap.size]? = some (.cells (bA 16 (uptoC T 0)) 35) ∧ W4.heap[w1.heap.size]? = some (.cells (bA 32 T) 54) ∧ W4.heap[V.heap.size + 1]? = some (.cells (bA 16 fun _ => 0) 35) ∧ Below V.heap.size V W4) := ⟨by rw [bA_congr (g := fun _ => 0) fun j _ => by unfold uptoC; rw [if_neg (by omega)]]; exact r4, by rw [b4.block _ (Array.getElem?_eq_some_iff.1 R3.out).1]; exact R3.out, by rw [b4.block _ (Array.getElem?_eq_some_iff.1 R4.out.1).1]; exact R4.out.1, B3.out.trans (b4.mono B3.out.size)⟩
  have N1 : Hid (V.heap.size + 1 < w1.heap.size ∧ w1.heap.size < W3.heap.size) := ⟨by have := B1.out.2; omega, R4.out.2⟩
  clear r4 b4
  go_loopw [7] (fun z W => ∃ i : Nat, i ≤ 16 ∧ z = .int .i64 (i : Int) ∧ W.heap[W3.heap.size]? = some (.cells (bA 16 (uptoC T i)) 35) ∧ W.heap[w1.heap.size]? = some (.cells (bA 32 T) 54) ∧ W.heap[V.heap.size + 1]? = some (.cells (bA 16 fun _ => 0) 35) ∧ Below V.heap.size V W) (fun z _ => 16 - (intOf z).toNat)
  case atStart => exact ⟨0, by omega, rfl, by first | exact X4.out | (rw [hW4]; exact X4.out)⟩
  case round =>
    obtain ⟨i, hi, rfl, q1, q2, q3, q4⟩ := hrel
    by_cases hlt : i < 16
    · have i1 : (i : Int) < 16 := by omega
      have QQ : Hid (wr.heap[W3.heap.size]? = some (.cells (bA 16 (uptoC T i)) 35) ∧ wr.heap[w1.heap.size]? = some (.cells (bA 32 T) 54) ∧ wr.heap[V.heap.size + 1]? = some (.cells (bA 16 fun _ => 0) 35) ∧ Below V.heap.size V wr ∧ i < 16) := ⟨q1, q2, q3, q4, hlt⟩
      have cT : wr.cell? ⟨w1.heap.size, 0 + i, none⟩ = some (.int .u8 (T i)) := by rw [cell_of_row _ _ _ _ _ _ q2, Nat.zero_add]; exact bA_at 32 T (by omega)
      clear q1 q2 q3 q4 hlt hi
      go_wp2_with (first
        | (refine wpList_ex rfl (execIdxA32 (x := .tmp 5) (f := 0) (k := i) rfl rfl rfl (by have := QQ.out.2.2.2.2; omega)) ?_)
        | (refine wpList_ex rfl (execIdxA16 (x := .tmp 6) (f := 0) (k := i) rfl rfl rfl QQ.out.2.2.2.2) ?_)
        | (refine atLoad 5 (.tmp 17) rfl ?_; go_must (refine wpList_ex rfl (execLdB rfl rfl cT) ?_))
        | (refine atStore 5 (.tmp 19) (.tmp 18) rfl ?_; go_must (refine wpList_exS rfl (execStRow (z := T i) rfl rfl rfl QQ.out.1 (by have := QQ.out.2.2.2.2; omega)) ?_)))
      go_roundw
      case rel =>
        refine ⟨i + 1, QQ.out.2.2.2.2, by go_num, ?_, ?_, ?_, ?_⟩
        · rw [updN_upto]
          exact setRow_heap _ _ _ _ _ _ QQ.out.1
        · rw [setRow_other _ _ _ _ (by have := N1.out; omega)]; exact QQ.out.2.1
        · rw [setRow_other _ _ _ _ (by have := N1.out; omega)]; exact QQ.out.2.2.1
        · exact below4 QQ.out.2.2.2.1 (by have := N1.out; omega) _
      case measure => have := QQ.out.2.2.2.2; simp [intOf]; omega
    · have i1 : ¬ (i : Int) < 16 := by omega
      have e : bA 16 (uptoC T i) = bA 16 T := bA_congr fun j hj => by unfold uptoC; rw [if_pos (by omega)]
      rw [e] at q1
      have QQ : Hid (wr.heap[W3.heap.size]? = some (.cells (bA 16 T) 35) ∧ wr.heap[V.heap.size + 1]? = some (.cells (bA 16 fun _ => 0) 35) ∧ Below V.heap.size V wr) := ⟨q1, q3, q4⟩
      clear q1 q2 q3 q4 hlt hi e
      go_wp2_with (first
        | (refine atLoad 35 (.tmp 6) rfl ?_; go_must (refine wpList_ex rfl (execLdAll rfl rfl QQ.out.1 Tryz.underlying35 rfl (size16 _)) ?_))
        | (refine atStore 35 (.tmp 4) (.tmp 20) rfl ?_; go_must (refine wpList_exS rfl (execStAll (cells := bA 16 T) rfl rfl rfl QQ.out.2.1 (by rw [bA_size, bA_size]) (size16 _) (bA_one _ _)) ?_)))
      refine bodyPost_ret (results_cell Tryz.results67 _ _ (V.heap.size + 1) 35 _ (0, 0) _ rfl (setRow_heap _ _ _ _ _ _ QQ.out.2.1) Tryz.underlying35 rfl (size16 _)) rfl ⟨rfl, below4 QQ.out.2.2 (by omega) _⟩
end Go.Proofs.YteekoabgbjbabaaGreatDoor.Oni

namespace Go.Proofs.YteekoabgbjbabaaGreatDoor.Oni
open Go.RowKit Gf8 Aes By8 Cel
/- The reference's tag, Forge. -/

set_option maxRecDepth 20000 in
set_option maxHeartbeats 1000000 in
theorem rtg_any (d nonce box : Nat → Nat) (left bl : Nat) (v : Value) (V : World) (hd : ∀ j, d j < 256) (hn : By nonce) (hl : left < 256) (hb0 : 0 < bl) (hb1 : bl ≤ 1000) (hv : SliceN V v bl box) :
    Calls Tryz.prog 51 #[.agg (bA 80 d), .int .i64 (left : Int), .agg (bA 16 nonce), v] V fun e w' => e = .returned (.agg (bA 16 (tgF d left nonce box bl))) ∧ Below V.heap.size V w' := by
  obtain ⟨V3, hV3⟩ : ∃ V3, ((V.alloc (.cells (bA 80 d) 58)).alloc (.cells (bA 16 nonce) 35)).alloc (.cells (bA 16 fun _ => 0) 35) = V3 := ⟨_, rfl⟩
  have hh := heap3z V (.cells (bA 80 d) 58) (.cells (bA 16 nonce) 35) (.cells (bA 16 fun _ => 0) 35)
  have bl3 := below3z V (.cells (bA 80 d) 58) (.cells (bA 16 nonce) 35) (.cells (bA 16 fun _ => 0) 35)
  rw [hV3] at hh bl3
  have s3 : V3.heap.size = V.heap.size + 3 := by rw [← hV3]; simp
  obtain ⟨p, hp⟩ : ∃ p, tmF left nonce box = p := ⟨_, rfl⟩
  have p0 : p 0 = left := by rw [← hp]; unfold tmF; rw [if_pos rfl]
  have pl : ∀ j, j < 17 + bl → p j < 256 := by rw [← hp]; exact tmF_lt hl hn hv.bytes
  have pn : ∀ j, j < 16 → p (1 + j) = nonce j := fun j hj => by rw [← hp]; unfold tmF; rw [if_neg (by omega), if_pos (by omega)]; congr 1; omega
  have pb : ∀ j, p (17 + j) = box j := fun j => by rw [← hp]; unfold tmF; rw [if_neg (by omega), if_neg (by omega)]; congr 1; omega
  obtain ⟨tg, htg⟩ : ∃ tg, tgF d left nonce box bl = tg := ⟨_, rfl⟩
  have HT : Hid (hfF (fun j => d (16 + j)) p (17 + bl) = tg) := by rw [← hp, ← htg]; rfl
  have HP : Hid ((∀ j, j < 17 + bl → p j < 256) ∧ (∀ j, j < 16 → p (1 + j) = nonce j) ∧ (∀ j, p (17 + j) = box j) ∧ 0 < bl ∧ bl ≤ 1000) := ⟨pl, pn, pb, hb0, hb1⟩
  have HV : Hid ((∀ j, d j < 256) ∧ By nonce ∧ SliceN V v bl box) := ⟨hd, hn, hv⟩
  have HH : Hid (V3.heap[V.heap.size]? = some (.cells (bA 80 d) 58) ∧ V3.heap[V.heap.size + 1]? = some (.cells (bA 16 nonce) 35) ∧ V3.heap[V.heap.size + 2]? = some (.cells (bA 16 fun _ => 0) 35) ∧ V3.heap.size = V.heap.size + 3 ∧ Below V.heap.size V V3) := ⟨hh.1, hh.2.1, hh.2.2, s3, bl3⟩
  have z16 := zero16
  have s16 := sl16
  have o1 := own_oneB (W := V3) (B := V3.heap.size) (z := left) (p := p) (Nat.le_refl _) p0
  have O1 : Hid ((V3.alloc (.cells #[.int .u8 (left : Int)] 5)).ownsRow V3.heap.size 5 1 (.slice (some ⟨V3.heap.size, 0, none⟩) 1 1) 1 (bytesL 1 p)) := o1
  have HL : Hid (left < 256) := hl
  have F0 : Hid (Below V3.heap.size V3 (V3.alloc (.cells #[.int .u8 (left : Int)] 5))) := belNew V3 _
  rw [htg]
  have l1 : (left : Int) < 256 := by omega
  clear o1 hd hn hl hb0 hb1 hv hh bl3 s3 p0 pl pn pb hp htg
  go_enter Tryz.func51, Tryz.ntmps51
  go_wp2_with (first
    | (refine wpList_ex rfl (execU8s (n := left) rfl rfl HL.out) ?_)
    | (refine wpList_ex rfl (execOne rfl rfl) ?_)
    | (refine atAppB (.tmp 13) (.tmp 14) rfl ?_; go_must (refine By8.wpList_appS (B := V3.heap.size) (n := 1) (m := 16) (p := p) rfl (.tmp 13) (.tmp 14) rfl rfl rfl O1.out (sliceN_cg (row_slice (by rw [F0.out.block _ (by have := HH.out.2.2.2.1; omega)]; exact HH.out.2.1) (fun j hj => HV.out.2.1 j hj) (by omega)) fun j hj => (HP.out.2.1 j hj).symm) (fun l c e => by cases e) (by omega) F0.out.size ?_; intro u1 W4 own4 gr4; have F1 : Hid (Below V3.heap.size V3 W4) := below_grown F0.out F0.out.size O1.out gr4; have O2 : Hid (W4.ownsRow V3.heap.size 5 1 u1 17 (bytesL 17 p)) := own4; clear own4 gr4))
    | (refine atAppB (.tmp 16) (.tmp 17) rfl ?_; go_must (refine By8.wpList_appS (B := V3.heap.size) (n := 17) (m := bl) (p := p) rfl (.tmp 16) (.tmp 17) rfl rfl rfl O2.out (sliceN_cg (HV.out.2.2.on (HH.out.2.2.2.2.trans (F1.out.mono HH.out.2.2.2.2.size))) fun j _ => (HP.out.2.2.1 j).symm) (fun l c e => by obtain ⟨a', c', e', _, _, e3⟩ := HV.out.2.2.shape; obtain ⟨b', o', rfl, _⟩ := e3 HP.out.2.2.2.1; have e : v = _ := e; rw [e'] at e; cases e) (by have := HP.out.2.2.2.2; omega) F1.out.size ?_; intro u2 W5 own5 gr5; have F2 : Hid (Below V3.heap.size V3 W5) := below_grown F1.out F1.out.size O2.out gr5; have O3 : Hid (W5.ownsRow V3.heap.size 5 1 u2 (17 + bl) (bytesL (17 + bl) p)) := own5; clear own5 gr5))
    | (refine atLoad 54 (.tmp 19) rfl ?_; go_must (refine wpList_ex rfl (execLdPart (k := 32) rfl rfl (by rw [F2.out.block _ (by have := HH.out.2.2.2.1; omega)]; exact HH.out.1) (by omega) Tryz.underlying54 rfl (by kernel_rfl)) ?_))
    | (go_at_call 67; refine (half_any (fun j => d (16 + j)) p (17 + bl) u2 W5 (fun j _ => HV.out.1 _) (own_slice O3.out HP.out.1) (by omega) (by have := HP.out.2.2.2.2; omega)).mono ?_; rw [HT.out]; rintro e w6 ⟨rfl, hb6⟩; have R6 : Hid (w6.heap[V.heap.size + 2]? = some (.cells (bA 16 fun _ => 0) 35) ∧ Below V.heap.size V w6) := (by have q := F2.out.trans (hb6.mono F2.out.size); exact ⟨by rw [q.block _ (by have := HH.out.2.2.2.1; omega)]; exact HH.out.2.2.1, HH.out.2.2.2.2.trans (q.mono HH.out.2.2.2.2.size)⟩); clear hb6)
    | (refine atStore 35 (.tmp 8) (.tmp 22) rfl ?_; go_must (refine wpList_exS rfl (execStAll (cells := bA 16 tg) rfl rfl rfl R6.out.1 (by rw [bA_size, bA_size]) (size16 _) (bA_one _ _)) ?_)))
  refine bodyPost_ret (results_cell Tryz.results51 _ _ (V.heap.size + 2) 35 _ (0, 0) _ rfl (setRow_heap _ _ _ _ _ _ R6.out.1) Tryz.underlying35 rfl (size16 _)) rfl ⟨rfl, below4 R6.out.2 (by omega) _⟩
set_option maxRecDepth 20000 in
set_option maxHeartbeats 1000000 in
theorem rder_ok (key nonce : Nat → Nat) (v : Value) (V : World) (hn : By nonce) (hv : SliceN V v 32 key) :
    Calls Tryz.prog 49 #[v, .agg (bA 16 nonce)] V fun e w' => e = .returned (.tuple #[.agg (bA 80 (dk key nonce)), .int .i64 0]) ∧ Below V.heap.size V w' := by
  obtain ⟨V3, hV3⟩ : ∃ V3, ((V.alloc (.cells (bA 16 nonce) 35)).alloc (.cells (bA 80 fun _ => 0) 58)).alloc (.cells (bA 80 fun _ => 0) 58) = V3 := ⟨_, rfl⟩
  have hh := heap3z V (.cells (bA 16 nonce) 35) (.cells (bA 80 fun _ => 0) 58) (.cells (bA 80 fun _ => 0) 58)
  have bl := below3z V (.cells (bA 16 nonce) 35) (.cells (bA 80 fun _ => 0) 58) (.cells (bA 80 fun _ => 0) 58)
  rw [hV3] at hh bl
  have s3 : V3.heap.size = V.heap.size + 3 := by rw [← hV3]; simp
  obtain ⟨ao, cap, rfl, _⟩ := id hv.shape
  obtain ⟨D, hD⟩ : ∃ D, dk key nonce = D := ⟨_, rfl⟩
  obtain ⟨V4, hV4⟩ : ∃ V4, V3.alloc (.cells #[.int .u8 99, .int .u8 104, .int .u8 117, .int .u8 114, .int .u8 110] 5 (5, 6)) = V4 := ⟨_, rfl⟩
  have cs := ch_slice V3
  have b4 := belNew V3 (.cells #[.int .u8 99, .int .u8 104, .int .u8 117, .int .u8 114, .int .u8 110] 5 (5, 6))
  rw [hV4] at cs b4
  have b04 := bl.trans (b4.mono bl.size)
  have C := rderiveN_any (.slice ao 32 cap) (.slice (some ⟨V.heap.size, 0, none⟩) 16 16) (.slice (some ⟨V3.heap.size, 0, none⟩) 5 5) key nonce V4 (hv.on b04) (row_slice (by rw [b4.block _ (by omega)]; exact hh.1) (fun j hj => hn j hj) (by omega)) cs
  rw [hD] at C
  have HH : Hid (V4.heap[V.heap.size + 1]? = some (.cells (bA 80 fun _ => 0) 58) ∧ V4.heap[V.heap.size + 2]? = some (.cells (bA 80 fun _ => 0) 58) ∧ Below V.heap.size V V4 ∧ V.heap.size + 3 ≤ V4.heap.size) := ⟨by rw [b4.block _ (by omega)]; exact hh.2.1, by rw [b4.block _ (by omega)]; exact hh.2.2, b04, by have := b4.size; omega⟩
  have kc := fun (w : World) (C : Array Value) (n c : Nat) => Lib.run_convert_bytes_const (P := Tryz.prog) w 24 5 C n c Tryz.underlying24 Tryz.underlying5
  have zk := zeroK
  have s16 := sl16
  rw [hD]
  clear hn hv hh bl s3 cs b4 b04
  go_enter Tryz.func49, Tryz.ntmps49
  go_wp2_with (first
    | (go_at_call 36; refine C.mono ?_; rintro e w1 ⟨r, rfl, sl, hb1⟩; obtain ⟨g, off, rc, rfl, hc1, hc2, hcells⟩ := cell_at sl (by omega); have X1 : Hid (w1.heap[V.heap.size + 1]? = some (.cells (bA 80 fun _ => 0) 58) ∧ w1.heap[V.heap.size + 2]? = some (.cells (bA 80 fun _ => 0) 58) ∧ Below V.heap.size V w1 ∧ ∀ j, j < 80 → w1.cell? ⟨g, off + j, none⟩ = some (.int .u8 (D j))) := ⟨(by rw [hb1.block _ (by have := HH.out.2.2.2; omega)]; exact HH.out.1), (by rw [hb1.block _ (by have := HH.out.2.2.2; omega)]; exact HH.out.2.1), HH.out.2.2.1.trans (hb1.mono HH.out.2.2.1.size), hcells⟩; clear sl hb1 hc1 hc2 hcells))
  have AL : Hid (g = V.heap.size + 2 → off = 0 ∧ ∀ j, j < 80 → D j = 0) := fun e => by
    subst e
    have c := X1.out.2.2.2
    have hoff : off = 0 := by
      have h := c 79 (by omega)
      rw [cell_of_row _ _ _ _ _ _ X1.out.2.1] at h
      have := (Array.getElem?_eq_some_iff.1 h).1
      rw [bA_size] at this
      omega
    refine ⟨hoff, fun j hj => ?_⟩
    have h := c j hj
    rw [cell_of_row _ _ _ _ _ _ X1.out.2.1, hoff, Nat.zero_add, bA_at 80 _ hj] at h
    injection h with h
    injection h with _ h
    omega
  have KEEP : Hid (∀ (W : World) (i : Nat), i < 80 → W.heap[V.heap.size + 2]? = some (.cells (bA 80 (uptoC D i)) 58) → (∀ j, j < 80 → W.cell? ⟨g, off + j, none⟩ = some (.int .u8 (D j))) → (∀ j, j < 80 → (W.setRow (V.heap.size + 2) (bA 80 (uptoC D (i + 1)))).cell? ⟨g, off + j, none⟩ = some (.int .u8 (D j)))) := fun W i hi hr hc j hj => by
    by_cases e : g = V.heap.size + 2
    · obtain ⟨e0, ez⟩ := AL.out e
      subst e
      rw [cell_of_row _ _ _ _ _ _ (setRow_heap _ _ _ _ _ _ hr), e0, Nat.zero_add, bA_at 80 _ hj]
      unfold uptoC
      split
      · rfl
      · rw [ez j hj]
    · rw [cell_setRow_other _ _ _ _ e]
      exact hc j hj
  go_loopw [9] (fun z W => ∃ i : Nat, i ≤ 80 ∧ z = .int .i64 (i : Int) ∧ W.heap[V.heap.size + 2]? = some (.cells (bA 80 (uptoC D i)) 58) ∧ W.heap[V.heap.size + 1]? = some (.cells (bA 80 fun _ => 0) 58) ∧ Below V.heap.size V W ∧ ∀ j, j < 80 → W.cell? ⟨g, off + j, none⟩ = some (.int .u8 (D j))) (fun z _ => 80 - (intOf z).toNat)
  case atStart => exact ⟨0, by omega, rfl, by rw [bA_congr (g := fun _ => 0) fun j _ => by unfold uptoC; rw [if_neg (by omega)]]; exact X1.out.2.1, X1.out.1, X1.out.2.2.1, X1.out.2.2.2⟩
  case round =>
    obtain ⟨i, hi, rfl, q1, q2, q3, q4⟩ := hrel
    by_cases hlt : i < 80
    · have i1 : (i : Int) < 80 := by omega
      have QQ : Hid (wr.heap[V.heap.size + 2]? = some (.cells (bA 80 (uptoC D i)) 58) ∧ wr.heap[V.heap.size + 1]? = some (.cells (bA 80 fun _ => 0) 58) ∧ Below V.heap.size V wr ∧ (∀ j, j < 80 → wr.cell? ⟨g, off + j, none⟩ = some (.int .u8 (D j))) ∧ i < 80) := ⟨q1, q2, q3, q4, hlt⟩
      have cT : wr.cell? ⟨g, off + i, none⟩ = some (.int .u8 (D i)) := q4 i hlt
      have NX : Hid (∃ k : Nat, k ≤ 80 ∧ Value.int .i64 ((i : Int) + 1) = .int .i64 (k : Int) ∧ (wr.setRow (V.heap.size + 2) (bA 80 (updN (uptoC D i) i (D i)))).heap[V.heap.size + 2]? = some (.cells (bA 80 (uptoC D k)) 58) ∧ (wr.setRow (V.heap.size + 2) (bA 80 (updN (uptoC D i) i (D i)))).heap[V.heap.size + 1]? = some (.cells (bA 80 fun _ => 0) 58) ∧ Below V.heap.size V (wr.setRow (V.heap.size + 2) (bA 80 (updN (uptoC D i) i (D i)))) ∧ ∀ j, j < 80 → (wr.setRow (V.heap.size + 2) (bA 80 (updN (uptoC D i) i (D i)))).cell? ⟨g, off + j, none⟩ = some (.int .u8 (D j))) := by
        refine ⟨i + 1, hlt, by rw [Int.natCast_add]; rfl, ?_, ?_, below4 q3 (by omega) _, ?_⟩
        · rw [updN_upto]; exact setRow_heap _ _ _ _ _ _ q1
        · rw [setRow_other _ _ _ _ (by omega)]; exact q2
        · rw [updN_upto]; exact KEEP.out wr i hlt q1 q4
      clear q1 q2 q3 q4 hlt hi
      by_cases h16 : i < 16
      · have i2 : (i : Int) < 16 := by omega
        have H16 : Hid (i < 16) := h16
        clear h16
        go_wp2_with (first
          | (refine wpList_ex rfl (execIdxS (x := .tmp 38) (k := i) rfl rfl rfl QQ.out.2.2.2.2) ?_)
          | (refine atLoad 5 (.tmp 40) rfl ?_; go_must (refine wpList_ex rfl (execLdB rfl rfl cT) ?_))
          | (refine wpList_ex rfl (execIdxA16 (x := .tmp 42) (f := 0) (k := i) rfl rfl rfl H16.out) ?_; rw [Nat.zero_add])
          | (refine atStore 5 (.tmp 43) (.tmp 41) rfl ?_; go_must (refine wpList_exS rfl (execStRow (z := D i) (k := i) rfl rfl rfl QQ.out.1 (by have := QQ.out.2.2.2.2; omega)) ?_)))
        go_roundw
        case rel => exact NX.out
        case measure => have := QQ.out.2.2.2.2; simp [intOf]; omega
      · have i2 : ¬ (i : Int) < 16 := by omega
        by_cases h48 : i < 48
        · have i3 : (i : Int) < 48 := by omega
          have e16 : 16 + (i - 16) = i := by omega
          have H16 : Hid (16 ≤ i ∧ i < 48 ∧ 16 + (i - 16) = i) := ⟨by omega, h48, e16⟩
          clear h16 h48 e16
          go_wp2_with (first
            | (refine wpList_ex rfl (execSubI (x := .tmp 47) (p := i) (q := 16) rfl rfl rfl H16.out.1 (by have := QQ.out.2.2.2.2; omega)) ?_)
            | (refine wpList_ex rfl (execIdxS (x := .tmp 49) (k := i) rfl rfl rfl QQ.out.2.2.2.2) ?_)
            | (refine atLoad 5 (.tmp 51) rfl ?_; go_must (refine wpList_ex rfl (execLdB rfl rfl cT) ?_))
            | (refine wpList_ex rfl (execIdxA32 (x := .tmp 53) (f := 16) (k := i - 16) rfl rfl rfl (by have := H16.out; omega)) ?_; rw [H16.out.2.2])
            | (refine atStore 5 (.tmp 54) (.tmp 52) rfl ?_; go_must (refine wpList_exS rfl (execStRow (z := D i) (k := i) rfl rfl rfl QQ.out.1 (by have := QQ.out.2.2.2.2; omega)) ?_)))
          go_roundw
          case rel => exact NX.out
          case measure => have := QQ.out.2.2.2.2; simp [intOf]; omega
        · have i3 : ¬ (i : Int) < 48 := by omega
          have e48 : 48 + (i - 48) = i := by omega
          have H16 : Hid (48 ≤ i ∧ 48 + (i - 48) = i) := ⟨by omega, e48⟩
          clear h16 h48 e48
          go_wp2_with (first
            | (refine wpList_ex rfl (execSubI (x := .tmp 26) (p := i) (q := 48) rfl rfl rfl H16.out.1 (by have := QQ.out.2.2.2.2; omega)) ?_)
            | (refine wpList_ex rfl (execIdxS (x := .tmp 28) (k := i) rfl rfl rfl QQ.out.2.2.2.2) ?_)
            | (refine atLoad 5 (.tmp 30) rfl ?_; go_must (refine wpList_ex rfl (execLdB rfl rfl cT) ?_))
            | (refine wpList_ex rfl (execIdxA32 (x := .tmp 32) (f := 48) (k := i - 48) rfl rfl rfl (by have := QQ.out.2.2.2.2; have := H16.out; omega)) ?_; rw [H16.out.2])
            | (refine atStore 5 (.tmp 33) (.tmp 31) rfl ?_; go_must (refine wpList_exS rfl (execStRow (z := D i) (k := i) rfl rfl rfl QQ.out.1 (by have := QQ.out.2.2.2.2; omega)) ?_)))
          go_roundw
          case rel => exact NX.out
          case measure => have := QQ.out.2.2.2.2; simp [intOf]; omega
    · have i1 : ¬ (i : Int) < 80 := by omega
      have e : bA 80 (uptoC D i) = bA 80 D := bA_congr fun j hj => by unfold uptoC; rw [if_pos (by omega)]
      rw [e] at q1
      have QQ : Hid (wr.heap[V.heap.size + 2]? = some (.cells (bA 80 D) 58) ∧ wr.heap[V.heap.size + 1]? = some (.cells (bA 80 fun _ => 0) 58) ∧ Below V.heap.size V wr) := ⟨q1, q2, q3⟩
      clear q1 q2 q3 q4 hlt hi e
      go_wp2_with (first
        | (refine atLoad 58 (.tmp 6) rfl ?_; go_must (refine wpList_ex rfl (execLdAll rfl rfl QQ.out.1 Tryz.underlying58 rfl (size80 _)) ?_))
        | (refine atStore 58 (.tmp 4) (.tmp 55) rfl ?_; go_must (refine wpList_exS rfl (execStAll (cells := bA 80 D) rfl rfl rfl QQ.out.2.1 (by rw [bA_size, bA_size]) (size80 _) (bA_one _ _)) ?_)))
      refine bodyPost_ret (results_cell_tmp1 Tryz.results49 _ _ (V.heap.size + 1) 58 _ (0, 0) _ rfl (setRow_heap _ _ _ _ _ _ QQ.out.2.1) Tryz.underlying58 rfl (size80 _)) rfl ⟨rfl, below4 QQ.out.2.2 (by omega) _⟩
end Go.Proofs.YteekoabgbjbabaaGreatDoor.Oni

namespace Go.Proofs.YteekoabgbjbabaaGreatDoor.Oni
open Go.RowKit Gf8 Aes By8 Cel
/- alive. -/

theorem execB16o {o : Oper} {a : Act} {w : World} (ho : o.op = .build 35 #[(0, .const (.int .u8 1))]) : (execOp a.eval o).run Tryz.prog w = .ok (.value (.agg (bA 16 oneF))) w := by
  have h := zero16
  unfold execOp
  simp only [ho]
  simp [go_sem, h]
  rfl
theorem oneF_by : By oneF := fun j _ => by unfold oneF; split <;> omega
theorem wrF_lt {key nonce inner : Nat → Nat} {L n : Nat} (h1 : By nonce) (hn : n < 65536) (h2 : ∀ j, j < n → inner j < 256) (j : Nat) : wrF key nonce L n inner j < 256 :=
  onB_lt h1 (fun _ => tgF_lt _ _ _ _ _ _) (fun _ => bxF_lt (dk_lt _ _) (pbF_all hn h2) _) j
theorem peP_lt {key c : Nat → Nat} {j : Nat} (h : c (32 + j) < 256) : peP key c j < 256 := by
  unfold peP bxF maskF
  exact xor_lt h (enc_by (fun j _ => kw_lt (fun i _ => dk_lt _ _ i) j) (be_by _) _ (Nat.mod_lt _ (by omega)))
theorem nxF_lt {left : Int} {n : Nat} {p : Nat → Nat} (hn : left ≤ 1 → n < 256) (hp : ∀ j, j < n → p j < 256) : ∀ j, nxF left n p j < 256 := by
  intro j
  unfold nxF
  split
  · exact cellF_lt (fun j h => by omega) hp j
  · rename_i q
    have := hn (by omega)
    exact cellF_lt (fun j h => by unfold headP; split <;> omega) hp j
end Go.Proofs.YteekoabgbjbabaaGreatDoor.Oni

namespace Go.Proofs.YteekoabgbjbabaaGreatDoor.Oni
open Go.RowKit Gf8 Aes By8 Cel
/- The reference's Forge, Wrap. -/

theorem some_nil' {W : World} {v : Value} {n : Nat} {p : Nat → Nat} (h : SliceN W v n p) (h0 : 0 < n) : ∀ l c, v = .slice none l c → c = 0 := by
  intro l cap e
  obtain ⟨a, c, e', _, _, e3⟩ := h.shape
  obtain ⟨b, o, rfl, _⟩ := e3 h0
  rw [e] at e'
  cases e'
set_option maxRecDepth 20000 in
set_option maxHeartbeats 1000000 in
theorem forge_any (key nonce pl : Nat → Nat) (L N : Nat) (vk vp : Value) (V : World) (hk : SliceN V vk 32 key) (hn : By nonce) (hL : L < 256) (hN : 0 < N ∧ N ≤ 288) (hp : SliceN V vp N pl) :
    Calls Tryz.prog 38 #[vk, .agg (bA 16 nonce), .int .i64 (L : Int), vp] V fun e w' => ∃ r, e = .returned r ∧ w'.ownsRow V.heap.size 5 1 r (32 + N) (bytesL (32 + N) (onB nonce (tgF (dk key nonce) L nonce (bxF (dk key nonce) pl) N) (bxF (dk key nonce) pl))) ∧ Below V.heap.size V w' := by
  obtain ⟨V1, hV1⟩ : ∃ V1, V.alloc (.cells (bA 16 nonce) 35) = V1 := ⟨_, rfl⟩
  have r1 := heapNew V (.cells (bA 16 nonce) 35)
  have b1 := belNew V (.cells (bA 16 nonce) 35)
  have s1 : V1.heap.size = V.heap.size + 1 := by rw [← hV1]; simp
  rw [hV1] at r1 b1
  obtain ⟨D, hD⟩ : ∃ D, dk key nonce = D := ⟨_, rfl⟩
  have C := rder_ok key nonce vk V1 hn (hk.on b1)
  rw [hD] at C ⊢
  have DL : Hid (∀ j, D j < 256) := by rw [← hD]; exact dk_lt key nonce
  obtain ⟨bx, hbx⟩ : ∃ bx, bxF D pl = bx := ⟨_, rfl⟩
  rw [hbx]
  obtain ⟨tg, htg⟩ : ∃ tg, tgF D L nonce bx N = tg := ⟨_, rfl⟩
  rw [htg]
  obtain ⟨on, hon⟩ : ∃ on, onB nonce tg bx = on := ⟨_, rfl⟩
  rw [hon]
  have bxl : ∀ j, j < N → bx j < 256 := fun j hj => by
    rw [← hbx]
    unfold bxF maskF
    exact xor_lt (hp.bytes j hj) (enc_by (fun j _ => kw_lt (fun i _ => DL.out i) j) (be_by _) _ (Nat.mod_lt _ (by omega)))
  have o1 : ∀ j, j < 16 → nonce j = on j := fun j hj => by rw [← hon]; unfold onB; rw [if_pos hj]
  have o2 : ∀ j, j < 16 → tg j = on (16 + j) := fun j hj => by rw [← hon]; unfold onB; rw [if_neg (by omega), if_pos (by omega)]; congr 1; omega
  have o3 : ∀ j, bx j = on (32 + j) := fun j => by rw [← hon]; unfold onB; rw [if_neg (by omega), if_neg (by omega)]; congr 1; omega
  have OO : Hid ((∀ j, j < 16 → nonce j = on (0 + j)) ∧ (∀ j, j < 16 → tg j = on (16 + j)) ∧ ∀ j, bx j = on (32 + j)) := ⟨fun j hj => by rw [Nat.zero_add]; exact o1 j hj, o2, o3⟩
  have H : Hid (V1.heap[V.heap.size]? = some (.cells (bA 16 nonce) 35) ∧ Below V.heap.size V V1 ∧ V1.heap.size = V.heap.size + 1) := ⟨r1, b1, s1⟩
  have HV : Hid (By nonce ∧ SliceN V vp N pl ∧ 0 < N ∧ N ≤ 288 ∧ L < 256 ∧ bxF D pl = bx ∧ tgF D L nonce bx N = tg ∧ (∀ j, tg j < 256) ∧ ∀ j, j < N → bx j < 256) := ⟨hn, hp, hN.1, hN.2, hL, hbx, htg, by rw [← htg]; exact tgF_lt _ _ _ _ _, bxl⟩
  have MK : Hid (∀ W (v : Value), SliceN W v N pl → Calls Tryz.prog 50 #[.agg (bA 16 fun j => D (0 + j)), .agg (bA 16 fun _ => 0), v] W fun e w' => ∃ r, e = .returned r ∧ SliceN w' r N bx ∧ Below W.heap.size W w') := fun W v hv => by
    have e1 : (fun j => D (0 + j)) = D := by funext j; rw [Nat.zero_add]
    rw [be0, e1]
    have h := rmask_any D pl 0 N v W (fun j _ => DL.out j) hv (by have := HV.out; omega)
    rw [show maskF (kw D) 0 pl = bx from HV.out.2.2.2.2.2.1] at h
    exact h
  have zk := zeroK
  have z16 := zero16
  have s16 := sl16
  have l1 : (N : Int) ≤ 288 := by omega
  clear hk hn hL hN hp r1 b1 s1 hD hbx htg hon bxl o1 o2 o3
  go_enter Tryz.func38, Tryz.ntmps38
  go_wp2_with (first
    | (refine atLoad 35 (.tmp 5) rfl ?_; go_must (refine wpList_ex rfl (execLdAll rfl rfl (by first | exact B4.out.2.1 | exact H.out.1) Tryz.underlying35 rfl (size16 _)) ?_))
    | (go_at_call 49; refine C.mono ?_; rintro e w1 ⟨rfl, hb1⟩; have B1 : Hid (Below V1.heap.size V1 w1) := hb1; clear hb1)
    | (refine atStore 58 (.tmp 9) (.tmp 18) rfl ?_; go_must (refine wpList_exS rfl (execStAll (cells := bA 80 D) rfl rfl rfl (heapNew w1 _) (by rw [bA_size, bA_size]) (size80 _) (bA_one _ _)) ?_; obtain ⟨W2, hW2⟩ : ∃ W2, (w1.alloc (.cells (bA 80 fun _ => 0) 58)).setRow w1.heap.size (bA 80 D) = W2 := ⟨_, rfl⟩; have k2 : W2.heap[w1.heap.size]? = some (.cells (bA 80 D) 58) := (by rw [← hW2]; exact setRow_heap _ _ _ _ _ _ (heapNew w1 _)); have b2 : Below w1.heap.size w1 W2 := (by rw [← hW2]; exact below4 (belNew w1 _) (Nat.le_refl _) _); have a2 : W2.heap[V.heap.size]? = some (.cells (bA 16 nonce) 35) := (by have := B1.out.size; have := H.out.2.2; rw [b2.block _ (by omega), B1.out.block _ (by omega)]; exact H.out.1); have H2 : Hid (W2.heap[w1.heap.size]? = some (.cells (bA 80 D) 58) ∧ W2.heap[V.heap.size]? = some (.cells (bA 16 nonce) 35) ∧ Below V.heap.size V W2) := ⟨k2, a2, (H.out.2.1.trans (B1.out.mono H.out.2.1.size)).trans (b2.mono (by have := H.out.2.1.size; have := B1.out.size; omega))⟩; rw [hW2]; clear k2 b2 a2 hW2))
    | (refine atLoad 35 (.tmp 20) rfl ?_; go_must (refine wpList_ex rfl (execLdPart (k := 16) rfl rfl H2.out.1 (by omega) Tryz.underlying35 rfl (by kernel_rfl)) ?_))
    | (refine wpList_ex rfl (execB16 rfl) ?_)
    | (go_at_call 50; refine (MK.out W2 _ (HV.out.2.1.on H2.out.2.2)).mono ?_; rintro e w4 ⟨r4, rfl, sl4, hb4⟩; obtain ⟨ba, bc, rfl, _⟩ := id sl4.shape; have B4 : Hid (w4.heap[w1.heap.size]? = some (.cells (bA 80 D) 58) ∧ w4.heap[V.heap.size]? = some (.cells (bA 16 nonce) 35) ∧ Below V.heap.size V w4 ∧ SliceN w4 (.slice ba N bc) N bx ∧ V.heap.size < w4.heap.size) := ⟨(by rw [hb4.block _ (Array.getElem?_eq_some_iff.1 H2.out.1).1]; exact H2.out.1), (by rw [hb4.block _ (Array.getElem?_eq_some_iff.1 H2.out.2.1).1]; exact H2.out.2.1), H2.out.2.2.trans (hb4.mono H2.out.2.2.size), sl4, (by have := (Array.getElem?_eq_some_iff.1 H2.out.2.1).1; have := hb4.size; omega)⟩; have TG := rtg_any D nonce bx L N (.slice ba N bc) w4 DL.out HV.out.1 HV.out.2.2.2.2.1 HV.out.2.2.1 (by have := HV.out.2.2.2.1; omega) sl4; rw [HV.out.2.2.2.2.2.2.1] at TG; clear sl4 hb4)
    | (refine atLoad 58 (.tmp 9) rfl ?_; go_must (refine wpList_ex rfl (execLdAll rfl rfl B4.out.1 Tryz.underlying58 rfl (size80 _)) ?_))
    | (go_at_call 51; refine TG.mono ?_; rintro e w5 ⟨rfl, hb5⟩; have B5 : Hid (Below w4.heap.size w4 w5) := hb5; clear hb5)
    | (refine atStore 35 (.tmp 12) (.tmp 29) rfl ?_; go_must (refine wpList_exS rfl (execStAll (cells := bA 16 tg) rfl rfl rfl (heapNew w5 _) (by rw [bA_size, bA_size]) (size16 _) (bA_one _ _)) ?_; obtain ⟨W6, hW6⟩ : ∃ W6, (w5.alloc (.cells (bA 16 fun _ => 0) 35)).setRow w5.heap.size (bA 16 tg) = W6 := ⟨_, rfl⟩; have t6 : W6.heap[w5.heap.size]? = some (.cells (bA 16 tg) 35) := (by rw [← hW6]; exact setRow_heap _ _ _ _ _ _ (heapNew w5 _)); have b6 : Below w5.heap.size w5 W6 := (by rw [← hW6]; exact below4 (belNew w5 _) (Nat.le_refl _) _); have b56 : Below w4.heap.size w4 W6 := B5.out.trans (b6.mono B5.out.size); have H6 : Hid (SliceN W6 (.slice (some ⟨w5.heap.size, 0, none⟩) 16 16) 16 tg ∧ SliceN W6 (.slice (some ⟨V.heap.size, 0, none⟩) 16 16) 16 nonce ∧ SliceN W6 (.slice ba N bc) N bx ∧ Below V.heap.size V W6) := ⟨row_slice t6 (fun j _ => HV.out.2.2.2.2.2.2.2.1 j) (by omega), row_slice (by rw [b56.block _ B4.out.2.2.2.2]; exact B4.out.2.1) (fun j hj => HV.out.1 j hj) (by omega), B4.out.2.2.2.1.on b56, B4.out.2.2.1.trans (b56.mono B4.out.2.2.1.size)⟩; have O0 : Hid (_) := own_made W6 (B := W6.heap.size) (n := 32 + N) (Nat.le_refl _) (by have := HV.out; omega); have F0 : Hid (Below W6.heap.size W6 (W6.alloc (.cells (bA (32 + N) fun _ => 0) 5))) := belNew W6 _; rw [hW6]; clear t6 b6 b56 hW6))
    | (refine wpList_ex rfl (execMk (l := 0) (n := 32 + N) rfl rfl (by show Value.int .i64 (32 + (N : Int)) = _; rw [Int.natCast_add]; rfl) (by omega) (by have := HV.out; omega)) ?_)
    | (refine atAppB (.tmp 34) (.tmp 35) rfl ?_; go_must (refine By8.wpList_appS (B := W6.heap.size) (n := 0) (m := 16) (p := on) rfl (.tmp 34) (.tmp 35) rfl rfl rfl O0.out (sliceN_cg (H6.out.2.1.on F0.out) OO.out.1) (fun l c e => by cases e) (by omega) F0.out.size ?_; intro u1 X1 ow1 gr1; have O1 : Hid (_) := ow1; have F1 : Hid (Below W6.heap.size W6 X1) := below_grown F0.out F0.out.size O0.out gr1; clear ow1 gr1))
    | (refine atAppB (.tmp 37) (.tmp 38) rfl ?_; go_must (refine By8.wpList_appS (B := W6.heap.size) (n := 0 + 16) (m := 16) (p := on) rfl (.tmp 37) (.tmp 38) rfl rfl rfl O1.out (sliceN_cg (H6.out.1.on F1.out) OO.out.2.1) (fun l c e => by cases e) (by omega) F1.out.size ?_; intro u2 X2 ow2 gr2; have O2 : Hid (_) := ow2; have F2 : Hid (Below W6.heap.size W6 X2) := below_grown F1.out F1.out.size O1.out gr2; clear ow2 gr2))
    | (refine atAppB (.tmp 40) (.tmp 41) rfl ?_; go_must (refine By8.wpList_appS (B := W6.heap.size) (n := 0 + 16 + 16) (m := N) (p := on) rfl (.tmp 40) (.tmp 41) rfl rfl rfl O2.out (sliceN_cg (H6.out.2.2.1.on F2.out) fun j _ => OO.out.2.2 j) (some_nil' H6.out.2.2.1 HV.out.2.2.1) (by have := HV.out; omega) F2.out.size ?_; intro u3 X3 ow3 gr3; have O3 : Hid (_) := ow3; have F3 : Hid (Below W6.heap.size W6 X3) := below_grown F2.out F2.out.size O2.out gr3; clear ow3 gr3)))
  go_ret
  refine ⟨_, rfl, ?_, H6.out.2.2.2.trans (F3.out.mono H6.out.2.2.2.size)⟩
  have := own_base O3.out H6.out.2.2.2.size
  rw [show 0 + 16 + 16 + N = 32 + N by omega] at this
  exact this
theorem execRemI {o : Oper} {a : Act} {w : World} {x y : Operand} {p q : Nat} (ho : o.op = .binOp .rem 3 x y 3) (hx : a.eval x = .int .i64 p) (hy : a.eval y = .int .i64 q) (h : q ≠ 0) (hp : p < 9223372036854775808) : (execOp a.eval o).run Tryz.prog w = .ok (.value (.int .i64 (p % q : Nat))) w := by
  have _ := hp
  unfold execOp
  simp only [ho, hx, hy]
  simp [go_sem]
  rw [if_neg h, Int.tmod_eq_emod_of_nonneg (Int.natCast_nonneg p)]
/-- The plain box's row up to i bytes of what is inside. -/
def plU (n : Nat) (inner : Nat → Nat) (i : Nat) : Nat → Nat := fun j => if j = 0 then n / 256 else if j = 1 then n % 256 else if j < 2 + i then inner (j - 2) else 0
theorem plU_0 (N n : Nat) (inner : Nat → Nat) : bA N (updN (updN (fun _ => 0) 0 (n / 256)) 1 (n % 256)) = bA N (plU n inner 0) := by
  refine bA_congr fun j _ => ?_
  unfold updN plU
  by_cases h0 : j = 0
  · subst h0; rfl
  · by_cases h1 : j = 1
    · subst h1; rfl
    · rw [if_neg h1, if_neg h0, if_neg h0, if_neg h1, if_neg (by omega)]
theorem plU_s (N n : Nat) (inner : Nat → Nat) (i : Nat) : bA N (updN (plU n inner i) (2 + i) (inner i)) = bA N (plU n inner (i + 1)) := by
  refine bA_congr fun j _ => ?_
  unfold updN plU
  by_cases h : j = 2 + i
  · subst h
    rw [if_pos rfl, if_neg (by omega), if_neg (by omega), if_pos (by omega)]
    congr 1
    omega
  · rw [if_neg h]
    by_cases h0 : j = 0
    · rw [if_pos h0, if_pos h0]
    · by_cases h1 : j = 1
      · rw [if_neg h0, if_pos h1, if_neg h0, if_pos h1]
      · rw [if_neg h0, if_neg h1, if_neg h0, if_neg h1]
        by_cases h2 : j < 2 + i
        · rw [if_pos h2, if_pos (by omega)]
        · rw [if_neg h2, if_neg (by omega)]
theorem plU_n (N n : Nat) (inner : Nat → Nat) : bA N (plU n inner n) = bA N (pbF n inner) := by
  refine bA_congr fun j _ => ?_
  unfold plU pbF cellF hd2
  by_cases h0 : j = 0
  · subst h0; rfl
  · by_cases h1 : j = 1
    · subst h1; rfl
    · rw [if_neg h0, if_neg h1, if_neg (show ¬ j < 2 by omega)]
set_option maxRecDepth 20000 in
set_option maxHeartbeats 1000000 in
theorem rwrap_any (key nonce inner : Nat → Nat) (lk n : Nat) (left : Int) (vk vi : Value) (V : World) (hk : SliceN V vk lk key) (hn : By nonce) (hi : SliceN V vi n inner) (hb : n ≤ 140737488351232) :
    Calls Tryz.prog 23 #[vk, .agg (bA 16 nonce), .int .i64 left, vi] V fun e w' => ∃ r, e = .returned (.tuple #[r, .int .i64 (wrE lk left n : Nat)]) ∧ w'.ownsRow V.heap.size 5 1 r (wrN lk left n) (bytesL (wrN lk left n) (wrF key nonce left.toNat n inner)) ∧ Below V.heap.size V w' := by
  obtain ⟨V1, hV1⟩ : ∃ V1, V.alloc (.cells (bA 16 nonce) 35) = V1 := ⟨_, rfl⟩
  have r1 := heapNew V (.cells (bA 16 nonce) 35)
  have b1 := belNew V (.cells (bA 16 nonce) 35)
  have s1 : V1.heap.size = V.heap.size + 1 := by rw [← hV1]; simp
  rw [hV1] at r1 b1
  obtain ⟨ka, kcap, rfl, _⟩ := id hk.shape
  obtain ⟨ao, cap, rfl, _⟩ := id hi.shape
  obtain ⟨S, hS⟩ : ∃ S, sz left = S := ⟨_, rfl⟩
  have PS := rsize_any left
  rw [hS] at PS
  have H : Hid (V1.heap[V.heap.size]? = some (.cells (bA 16 nonce) 35) ∧ Below V.heap.size V V1 ∧ V1.heap.size = V.heap.size + 1) := ⟨r1, b1, s1⟩
  have HV : Hid (SliceN V (.slice ka lk kcap) lk key ∧ By nonce ∧ SliceN V (.slice ao n cap) n inner) := ⟨hk, hn, hi⟩
  have l3 : (n : Int) ≤ 140737488351232 := by omega
  clear hk hn hi hb r1 b1 s1
  by_cases hbad : lk ≠ 32 ∨ S = 0
  · have E : wrE lk left n = 2 := by unfold wrE; rw [hS, if_pos hbad]
    have E2 : wrN lk left n = 0 := by unfold wrN; rw [E]; rfl
    rw [E, E2]
    clear E E2 hS
    by_cases hl : lk = 32
    · have i1 : ((lk : Int) != 32) = false := by simp; omega
      obtain rfl : S = 0 := by rcases hbad with h | h; exact absurd hl h; exact h
      clear hbad
      go_enter Tryz.func23, Tryz.ntmps23
      go_wp2_with (go_at_call 37; refine (PS _).mono ?_; rintro e w2 ⟨rfl, hw2⟩; rw [hw2]; clear hw2)
      refine bodyPost_ret (results_tmp2 rfl _ _ _) rfl ⟨_, rfl, World.ownsRow_nil _ _ _ _, H.out.2.1⟩
    · have i1 : ((lk : Int) != 32) = true := by simp; omega
      clear hbad
      go_enter Tryz.func23, Tryz.ntmps23
      go_wp2_with fail
      refine bodyPost_ret (results_tmp2 rfl _ _ _) rfl ⟨_, rfl, World.ownsRow_nil _ _ _ _, H.out.2.1⟩
  · obtain rfl : lk = 32 := by
      by_cases h : lk = 32
      · exact h
      · exact absurd (Or.inl h) hbad
    have h0 : S ≠ 0 := fun h => hbad (Or.inr h)
    obtain ⟨g1, g2, g3, g4⟩ := sz_pos (left := left) (by rw [hS]; exact h0)
    have g5 := sz_le left
    rw [hS] at g3 g4 g5
    have i9 : ((S : Int) == 0) = false := by simp; omega
    have i6 : (S : Int) ≤ 320 := by omega
    by_cases hlong : S - 34 < n
    · have E : wrE 32 left n = 1 := by unfold wrE; rw [if_neg (by rw [hS]; simp; exact h0), if_pos (by rw [hS]; exact hlong)]
      have E2 : wrN 32 left n = 0 := by unfold wrN; rw [E]; rfl
      rw [E, E2]
      have i1 : (n : Int) > (S : Int) - 34 := by omega
      clear E E2 g1 g2 g3 g4 g5 h0 hlong hS hbad
      go_enter Tryz.func23, Tryz.ntmps23
      go_wp2_with (go_at_call 37; refine (PS _).mono ?_; rintro e w2 ⟨rfl, hw2⟩; rw [hw2]; clear hw2)
      refine bodyPost_ret (results_tmp2 rfl _ _ _) rfl ⟨_, rfl, World.ownsRow_nil _ _ _ _, H.out.2.1⟩
    · have E : wrE 32 left n = 0 := by unfold wrE; rw [if_neg (by rw [hS]; simp; exact h0), if_neg (by rw [hS]; exact hlong)]
      have E2 : wrN 32 left n = S := by unfold wrN; rw [if_pos E, hS]
      rw [E, E2]
      obtain ⟨L, hL⟩ : ∃ L : Nat, left = L := ⟨left.toNat, by omega⟩
      subst hL
      have i1 : ¬ (n : Int) > (S : Int) - 34 := by omega
      obtain ⟨N, hN⟩ : ∃ N, N = S - 32 := ⟨_, rfl⟩
      have hSN : S = 32 + N := by omega
      have i7 : (S : Int) - 32 = (N : Int) := by omega
      have FG : Hid (∀ (W : World) (v : Value), Below V.heap.size V W → SliceN W v N (pbF n inner) → Calls Tryz.prog 38 #[.slice ka 32 kcap, .agg (bA 16 nonce), .int .i64 (L : Int), v] W fun e w' => ∃ r, e = .returned r ∧ w'.ownsRow W.heap.size 5 1 r S (bytesL S (wrF key nonce (L : Int).toNat n inner)) ∧ Below W.heap.size W w') := fun W v hW hv => by
        have h := forge_any key nonce (pbF n inner) L N (.slice ka 32 kcap) v W (HV.out.1.on hW) HV.out.2.1 (by omega) (by omega) hv
        rw [hSN, show (L : Int).toNat = L from by simp]
        unfold wrF
        rw [hS, show S - 32 = N by omega]
        exact h
      have HN : Hid (S = 32 + N ∧ 50 ≤ N ∧ N ≤ 288 ∧ n + 2 ≤ N) := ⟨hSN, by omega, by omega, by omega⟩
      have PBL : Hid (∀ j, j < N → pbF n inner j < 256) := fun j _ => pbF_all (by omega) HV.out.2.2.bytes j
      have n300 : (n : Int) ≤ 300 := by omega
      have N300 : (N : Int) ≤ 300 := by omega
      have j0 : (0 : Int) < (N : Int) := by omega
      have j1 : (1 : Int) < (N : Int) := by omega
      clear E E2 g1 g2 g3 g4 g5 h0 hlong hS hbad hN hSN l3
      obtain ⟨W1, hW1⟩ : ∃ W1, V1.alloc (.cells (bA N fun _ => 0) 5) = W1 := ⟨_, rfl⟩
      have r1 := heapNew V1 (.cells (bA N fun _ => 0) 5)
      have b1 := belNew V1 (.cells (bA N fun _ => 0) 5)
      rw [hW1] at r1 b1
      have b01 := H.out.2.1.trans (b1.mono H.out.2.1.size)
      obtain ⟨W2, hW2⟩ : ∃ W2, W1.setRow V1.heap.size (bA N (updN (fun _ => 0) 0 (n / 256))) = W2 := ⟨_, rfl⟩
      have r2 := setRow_heap _ _ _ (bA N (updN (fun _ => 0) 0 (n / 256))) _ _ r1
      have b2 := below4 b1 (Nat.le_refl _) (bA N (updN (fun _ => 0) 0 (n / 256)))
      rw [hW2] at r2 b2
      obtain ⟨W3, hW3⟩ : ∃ W3, W2.setRow V1.heap.size (bA N (updN (updN (fun _ => 0) 0 (n / 256)) 1 (n % 256))) = W3 := ⟨_, rfl⟩
      have r3 := setRow_heap _ _ _ (bA N (updN (updN (fun _ => 0) 0 (n / 256)) 1 (n % 256))) _ _ r2
      have b3 := below4 b2 (Nat.le_refl _) (bA N (updN (updN (fun _ => 0) 0 (n / 256)) 1 (n % 256)))
      rw [hW3] at r3 b3
      have H1 : Hid (W1.heap[V1.heap.size]? = some (.cells (bA N fun _ => 0) 5) ∧ W2.heap[V1.heap.size]? = some (.cells (bA N (updN (fun _ => 0) 0 (n / 256))) 5)) := ⟨r1, r2⟩
      rw [plU_0 N n inner] at r3
      have H3 : Hid (Below V1.heap.size V1 W3 ∧ W3.heap[V1.heap.size]? = some (.cells (bA N (plU n inner 0)) 5)) := ⟨b3, r3⟩
      clear r1 b1 b01 r2 b2 r3 b3
      go_enter Tryz.func23, Tryz.ntmps23
      go_wp2_with (first
        | (go_at_call 37; refine (PS _).mono ?_; rintro e w2 ⟨rfl, hw2⟩; rw [hw2]; clear hw2)
        | (refine wpList_ex rfl (execMk (l := N) (n := N) rfl (by show Value.int .i64 _ = _; congr 1) (by show Value.int .i64 _ = _; congr 1) (Nat.le_refl _) (by have := HN.out; omega)) ?_)
        | (refine wpList_ex rfl (execQuoI (x := .tmp 32) (p := n) (q := 256) rfl rfl rfl (by omega) (by have := HN.out; omega)) ?_)
        | (refine wpList_ex rfl (execRemI (x := .tmp 38) (p := n) (q := 256) rfl rfl rfl (by omega) (by have := HN.out; omega)) ?_)
        | (refine wpList_ex rfl (execU8s (x := .tmp 33) (n := n / 256) rfl rfl (by have := HN.out; omega)) ?_)
        | (refine wpList_ex rfl (execU8s (x := .tmp 39) (n := n % 256) rfl rfl (by omega)) ?_)
        | (refine atStore 5 (.tmp 35) (.tmp 34) rfl ?_; go_must (refine wpList_exS rfl (execStRow (z := n / 256) rfl rfl rfl H1.out.1 (by have := HN.out; omega)) ?_))
        | (refine atStore 5 (.tmp 41) (.tmp 40) rfl ?_; go_must (refine wpList_exS rfl (execStRow (z := n % 256) rfl rfl rfl H1.out.2 (by have := HN.out; omega)) ?_)))
      go_loopw [11] (fun z W => ∃ i : Nat, i ≤ n ∧ z = .int .i64 (i : Int) ∧ W.heap[V1.heap.size]? = some (.cells (bA N (plU n inner i)) 5) ∧ Below V1.heap.size V1 W) (fun z _ => n - (intOf z).toNat)
      case atStart => exact ⟨0, by omega, rfl, by first | exact ⟨H3.out.2, H3.out.1⟩ | (rw [hW3]; exact ⟨H3.out.2, H3.out.1⟩)⟩
      case round =>
        obtain ⟨i, hi, rfl, q1, q2⟩ := hrel
        by_cases hlt : i < n
        · have i2 : (i : Int) < n := by omega
          obtain ⟨b, off, e, hbV, hcell⟩ : ∃ b off, ao = some ⟨b, off, none⟩ ∧ b < V.heap.size ∧ ∀ j, j < n → V.cell? ⟨b, off + j, none⟩ = some (.int .u8 (inner j)) := by
            obtain ⟨a', c', e', _, _, e3⟩ := HV.out.2.2.shape
            obtain ⟨b, off, rfl, h1, h2⟩ := e3 (by omega)
            injection e' with e4
            exact ⟨b, off, e4, h1, h2⟩
          subst e
          have bVW := H.out.2.1.trans (q2.mono H.out.2.1.size)
          have cT : wr.cell? ⟨b, off + i, none⟩ = some (.int .u8 (inner i)) := by rw [cell_below bVW hbV]; exact hcell i hlt
          have QQ : Hid (wr.heap[V1.heap.size]? = some (.cells (bA N (plU n inner i)) 5) ∧ Below V1.heap.size V1 wr ∧ i < n) := ⟨q1, q2, hlt⟩
          have a2 : (2 : Int) + (i : Int) = ((2 + i : Nat) : Int) := by omega
          have A2 : Hid ((2 : Int) + (i : Int) = ((2 + i : Nat) : Int)) := a2
          clear q1 q2 hlt hi hcell bVW hbV a2
          go_wp2_with (first
            | (refine wpList_ex rfl (execIdxS (x := .tmp 51) (k := i) rfl rfl rfl QQ.out.2.2) ?_)
            | (refine atLoad 5 (.tmp 53) rfl ?_; go_must (refine wpList_ex rfl (execLdB rfl rfl cT) ?_))
            | (refine wpList_ex rfl (execIdxS (x := .tmp 48) (k := 2 + i) rfl rfl (by show Value.int .i64 _ = _; rw [A2.out]) (by have := QQ.out.2.2; have := HN.out; omega)) ?_)
            | (refine atStore 5 (.tmp 55) (.tmp 54) rfl ?_; go_must (refine wpList_exS rfl (execStRow (z := inner i) (k := 2 + i) rfl (by show Value.pointer _ = _; rw [Nat.zero_add]) rfl QQ.out.1 (by have := QQ.out.2.2; have := HN.out; omega)) ?_)))
          go_roundw
          case rel => exact ⟨i + 1, QQ.out.2.2, by go_num, by rw [plU_s]; exact setRow_heap _ _ _ _ _ _ QQ.out.1, below4 QQ.out.2.1 (Nat.le_refl _) _⟩
          case measure => have := QQ.out.2.2; simp [intOf]; omega
        · have i2 : ¬ (i : Int) < n := by omega
          have ei : i = n := by omega
          rw [ei, plU_n] at q1
          have QQ : Hid (SliceN wr (.slice (some ⟨V1.heap.size, 0, none⟩) N N) N (pbF n inner) ∧ Below V.heap.size V wr ∧ wr.heap[V.heap.size]? = some (.cells (bA 16 nonce) 35)) := ⟨row_slice q1 PBL.out (by have := HN.out; omega), H.out.2.1.trans (q2.mono H.out.2.1.size), by rw [q2.block _ (by have := H.out.2.2; omega)]; exact H.out.1⟩
          clear q1 q2 hlt hi ei
          go_wp2_with (first
            | (refine atLoad 35 (.tmp 5) rfl ?_; go_must (refine wpList_ex rfl (execLdAll rfl rfl QQ.out.2.2 Tryz.underlying35 rfl (size16 _)) ?_))
            | (go_at_call 38; refine (FG.out wr _ QQ.out.2.1 QQ.out.1).mono ?_; rintro e w5 ⟨r5, rfl, own5, hb5⟩))
          refine bodyPost_ret (results_tmp2 rfl _ _ _) rfl ⟨_, rfl, own_base own5 QQ.out.2.1.size, QQ.out.2.1.trans (hb5.mono QQ.out.2.1.size)⟩
end Go.Proofs.YteekoabgbjbabaaGreatDoor.Oni

namespace Go.Proofs.YteekoabgbjbabaaGreatDoor.Oni
open Go.RowKit Gf8 Aes By8 Cel
/- OnionOne. -/

/-- What a cell that is peeled tells. -/
theorem pe_parts {lk len : Nat} {left : Int} {key c : Nat → Nat} (h : peE lk left len key c = 0) : lk = 32 ∧ 1 ≤ left ∧ left ≤ 8 ∧ len = 320 ∧ (∀ j, sz left ≤ j → j < 320 → c j = 0) ∧ peT key left c = true ∧ inOk (sz left - 32) (peP key c) = true := by
  unfold peE at h
  by_cases h1 : lk ≠ 32 ∨ sz left = 0
  · rw [if_pos h1] at h; omega
  · rw [if_neg h1] at h
    have hl : lk = 32 := by
      by_cases e : lk = 32
      · exact e
      · exact absurd (Or.inl e) h1
    have hs : sz left ≠ 0 := fun e => h1 (Or.inr e)
    obtain ⟨g1, g2, g3, g4⟩ := sz_pos hs
    by_cases h2 : cutE c len (sz left) ≠ 0
    · rw [if_pos h2] at h; exact absurd h h2
    · rw [if_neg h2] at h
      have hc : cutE c len (sz left) = 0 := by omega
      have hlen : len = 320 := by
        unfold cutE at hc
        by_cases e : len = 320
        · exact e
        · rw [if_pos e] at hc; omega
      have hz : ∀ j, sz left ≤ j → j < 320 → c j = 0 := by
        unfold cutE at hc
        have := sz_le left
        rw [if_neg (by simp; exact hlen), if_neg (by omega)] at hc
        by_cases e : zeroFrom c (sz left : Int).toNat = true
        · intro j h1 h2
          exact (zeroFrom_iff _ _).1 e j (by simp; exact h1) h2
        · rw [if_neg e] at hc; omega
      by_cases h3 : peT key left c = false
      · rw [if_pos h3] at h; omega
      · rw [if_neg h3] at h
        by_cases h4 : inOk (sz left - 32) (peP key c) = false
        · rw [if_pos h4] at h; omega
        · exact ⟨hl, g1, g2, hlen, hz, by simpa using h3, by simpa using h4⟩
end Go.Proofs.YteekoabgbjbabaaGreatDoor.Oni

namespace Go.Proofs.YteekoabgbjbabaaGreatDoor.Oni
open Go.RowKit Gf8 Aes By8 Cel
/- The reference's Peel: what it needs. -/

theorem execFldQ0 {o : Oper} {a : Act} {w : World} {x : Operand} {g : Nat} (ho : o.op = .fieldAddr 51 x 0) (hx : a.eval x = .pointer (some ⟨g, 0, none⟩)) : (execOp a.eval o).run Tryz.prog w = .ok (.value (.pointer (some ⟨g, 0, none⟩))) w := by
  unfold execOp
  simp only [ho, hx]
  simp [go_sem]
end Go.Proofs.YteekoabgbjbabaaGreatDoor.Oni
