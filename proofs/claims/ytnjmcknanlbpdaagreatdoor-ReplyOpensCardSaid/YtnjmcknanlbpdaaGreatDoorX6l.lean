import Derived.Test.YtnjmcknanlbpdaaGreatDoorX5l
import Derived.Test.YtnjmcknanlbpdaaGreatDoorB7b
import Derived.Test.YtnjmcknanlbpdaaGreatDoorC5
namespace Go.Proofs.YtnjmcknanlbpdaaGreatDoor.Oni
open Go.RowKit Gf8 Aes By8 Cel
/- The reference of layer 7. -/

theorem some_nil {W : World} {v : Value} {n : Nat} {p : Nat → Nat} (h : SliceN W v n p) (h0 : 0 < n) : ∀ cap, v = .slice none n cap → cap = 0 := by
  intro cap e
  obtain ⟨a, c, e', _, _, e3⟩ := h.shape
  obtain ⟨b, o, rfl, _⟩ := e3 h0
  rw [e] at e'
  cases e'
theorem rtagN_any (vk vm : Value) (lm : Nat) (key m : Nat → Nat) (w : World) (h0 : 0 < lm) (hm : lm ≤ 140737488351232) (h1 : SliceN w vk 32 key) (h2 : SliceN w vm lm m) :
    Calls Tryz.prog 51 #[vk, vm] w fun e w' => e = .returned (.agg (bA 32 (hfF key m lm))) ∧ Below w.heap.size w w' := by
  refine (rtag_any vk vm 32 lm (ci key) (ci m) w (by omega) (by omega) (toB h1) (toB h2) (some_nil h1 (by omega)) (some_nil h2 h0)).mono ?_
  rintro e w' ⟨rfl, hb⟩
  exact ⟨by rw [← hfF_ci, tab_ci], hb⟩
theorem rderiveN_any (vs vt vi : Value) (key nonce : Nat → Nat) (w : World) (h0 : SliceN w vs 32 key) (h1 : SliceN w vt 16 nonce) (h2 : SliceN w vi 5 chF) :
    Calls Tryz.prog 15 #[vs, vt, vi, .int .i64 80] w fun e w' => ∃ v', e = .returned (.tuple #[v', .int .i64 0]) ∧ SliceN w' v' 80 (dk key nonce) ∧ Below w.heap.size w w' := by
  refine (rderive_any vs vt vi 32 16 5 (ci key) (ci nonce) (ci chF) 80 w (by omega) (by omega) (by omega) (toB h0) (toB h1) (toB h2) (some_nil h0 (by omega)) (some_nil h1 (by omega)) (some_nil h2 (by omega))).mono ?_
  rintro e w' ⟨v', rfl, s, hb⟩
  rw [show expN 80 = 80 from rfl, ← dk_ci] at s
  exact ⟨v', rfl, ⟨s.shape, fun j _ => dk_lt _ _ j⟩, hb⟩
set_option maxRecDepth 20000 in
theorem rsize_any (left : Int) (V : World) : Calls Tryz.prog 32 #[.int .i64 left] V fun e w' => e = .returned (.int .i64 (sz left : Nat)) ∧ w' = V := by
  by_cases h1 : left < 1
  · rw [show sz left = 0 from if_neg (by omega)]
    go_enter Tryz.func32, Tryz.ntmps32
    go_wp2
    go_ret
    exact ⟨rfl, rfl⟩
  · by_cases h2 : left > 8
    · rw [show sz left = 0 from if_neg (by omega)]
      go_enter Tryz.func32, Tryz.ntmps32
      go_wp2
      go_ret
      exact ⟨rfl, rfl⟩
    · have e : ((sz left : Nat) : Int) = 82 + 34 * (left - 1) := by unfold sz; rw [if_pos (by omega)]; omega
      rw [e]
      go_enter Tryz.func32, Tryz.ntmps32
      go_wp2
      go_ret
      exact ⟨rfl, rfl⟩
section
variable {o : Oper} {a : Act} {w : World}
theorem execIdxA16 {x i : Operand} {b f k : Nat} (ho : o.op = .indexAddr 23 x i) (hx : a.eval x = .pointer (some ⟨b, f, none⟩)) (hi : a.eval i = .int .i64 (k : Int)) (hk : k < 16) : (execOp a.eval o).run Tryz.prog w = .ok (.value (.pointer (some ⟨b, f + k, none⟩))) w := by
  have h : (k : Int) < 16 := by omega
  unfold execOp
  simp only [ho, hx, hi]
  simp [go_sem, h]
theorem execIdxA32 {x i : Operand} {b f k : Nat} (ho : o.op = .indexAddr 57 x i) (hx : a.eval x = .pointer (some ⟨b, f, none⟩)) (hi : a.eval i = .int .i64 (k : Int)) (hk : k < 32) : (execOp a.eval o).run Tryz.prog w = .ok (.value (.pointer (some ⟨b, f + k, none⟩))) w := by
  have h : (k : Int) < 32 := by omega
  unfold execOp
  simp only [ho, hx, hi]
  simp [go_sem, h]
end
set_option maxRecDepth 20000 in
set_option maxHeartbeats 1000000 in
theorem half_any (key m : Nat → Nat) (lm : Nat) (v : Value) (V : World) (hk : ∀ j, j < 32 → key j < 256) (hv : SliceN V v lm m) (h0 : 0 < lm) (hl : lm ≤ 140737488351232) :
    Calls Tryz.prog 46 #[.agg (bA 32 key), v] V fun e w' => e = .returned (.agg (bA 16 (hfF key m lm))) ∧ Below V.heap.size V w' := by
  obtain ⟨V2, hV2⟩ : ∃ V2, (V.alloc (.cells (bA 32 key) 57)).alloc (.cells (bA 16 fun _ => 0) 23) = V2 := ⟨_, rfl⟩
  have hh := heap2c V (.cells (bA 32 key) 57) (.cells (bA 16 fun _ => 0) 23)
  have bl := below2c V (.cells (bA 32 key) 57) (.cells (bA 16 fun _ => 0) 23)
  rw [hV2] at hh bl
  have s2 : V2.heap.size = V.heap.size + 2 := by rw [← hV2]; simp
  have C := rtagN_any (.slice (some ⟨V.heap.size, 0, none⟩) 32 32) v lm key m V2 h0 hl (row_slice hh.1 hk (by omega)) (hv.on bl)
  obtain ⟨T, hT⟩ : ∃ T, hfF key m lm = T := ⟨_, rfl⟩
  rw [hT] at C ⊢
  have HH : Hid (_ ∧ _) := hh
  have BL : Hid (Below V.heap.size V V2 ∧ V2.heap.size = V.heap.size + 2) := ⟨bl, s2⟩
  have z16 := zero16
  have z32 := zero32
  have s32 := sl32
  clear hk hv hl hh bl s2 h0 hT
  go_enter Tryz.func46, Tryz.ntmps46
  go_wp2_with (first
    | (go_at_call 51; refine C.mono ?_; rintro e w1 ⟨rfl, hb1⟩; have R0 : Hid (w1.heap[V.heap.size + 1]? = some (.cells (bA 16 fun _ => 0) 23)) := (by rw [hb1.block _ (by have := BL.out.2; omega)]; exact HH.out.2); have B1 : Hid (Below V.heap.size V w1 ∧ V.heap.size + 2 ≤ w1.heap.size) := ⟨BL.out.1.trans (hb1.mono BL.out.1.size), by have := hb1.size; have := BL.out.2; omega⟩; clear hb1)
    | (refine atStore 57 (.tmp 5) (.tmp 10) rfl ?_; go_must (refine wpList_exS rfl (execStAll (cells := bA 32 T) rfl rfl rfl (heapNew w1 _) (by rw [bA_size, bA_size]) (size32 _) (bA_one _ _)) ?_; obtain ⟨W3, hW3⟩ : ∃ W3, (w1.alloc (.cells (bA 32 fun _ => 0) 57)).setRow w1.heap.size (bA 32 T) = W3 := ⟨_, rfl⟩; have R3 : Hid (W3.heap[w1.heap.size]? = some (.cells (bA 32 T) 57)) := (by rw [← hW3]; exact setRow_heap _ _ _ _ _ _ (heapNew w1 _)); have b3 : Below w1.heap.size w1 W3 := (by rw [← hW3]; exact below4 (belNew w1 _) (Nat.le_refl _) _); have R4 : Hid (W3.heap[V.heap.size + 1]? = some (.cells (bA 16 fun _ => 0) 23) ∧ w1.heap.size < W3.heap.size) := ⟨(by rw [b3.block _ (by have := B1.out.2; omega)]; exact R0.out), (Array.getElem?_eq_some_iff.1 R3.out).1⟩; have B3 : Hid (Below V.heap.size V W3) := B1.out.1.trans (b3.mono B1.out.1.size); rw [hW3]; clear b3 hW3)))
  obtain ⟨W4, hW4⟩ : ∃ W4, W3.alloc (.cells (bA 16 fun _ => 0) 23) = W4 := ⟨_, rfl⟩
  have r4 := heapNew W3 (.cells (bA 16 fun _ => 0) 23)
  have b4 := belNew W3 (.cells (bA 16 fun _ => 0) 23)
  rw [hW4] at r4 b4
  have X4 : Hid (W4.heap[W3.heap.size]? = some (.cells (bA 16 (uptoC T 0)) 23) ∧ W4.heap[w1.heap.size]? = some (.cells (bA 32 T) 57) ∧ W4.heap[V.heap.size + 1]? = some (.cells (bA 16 fun _ => 0) 23) ∧ Below V.heap.size V W4) := ⟨by rw [bA_congr (g := fun _ => 0) fun j _ => by unfold uptoC; rw [if_neg (by omega)]]; exact r4, by rw [b4.block _ (Array.getElem?_eq_some_iff.1 R3.out).1]; exact R3.out, by rw [b4.block _ (Array.getElem?_eq_some_iff.1 R4.out.1).1]; exact R4.out.1, B3.out.trans (b4.mono B3.out.size)⟩
  have N1 : Hid (V.heap.size + 1 < w1.heap.size ∧ w1.heap.size < W3.heap.size) := ⟨by have := B1.out.2; omega, R4.out.2⟩
  clear r4 b4
  go_loopw [7] (fun z W => ∃ i : Nat, i ≤ 16 ∧ z = .int .i64 (i : Int) ∧ W.heap[W3.heap.size]? = some (.cells (bA 16 (uptoC T i)) 23) ∧ W.heap[w1.heap.size]? = some (.cells (bA 32 T) 57) ∧ W.heap[V.heap.size + 1]? = some (.cells (bA 16 fun _ => 0) 23) ∧ Below V.heap.size V W) (fun z _ => 16 - (intOf z).toNat)
  case atStart => exact ⟨0, by omega, rfl, by first | exact X4.out | (rw [hW4]; exact X4.out)⟩
  case round =>
    obtain ⟨i, hi, rfl, q1, q2, q3, q4⟩ := hrel
    by_cases hlt : i < 16
    · have i1 : (i : Int) < 16 := by omega
      have QQ : Hid (wr.heap[W3.heap.size]? = some (.cells (bA 16 (uptoC T i)) 23) ∧ wr.heap[w1.heap.size]? = some (.cells (bA 32 T) 57) ∧ wr.heap[V.heap.size + 1]? = some (.cells (bA 16 fun _ => 0) 23) ∧ Below V.heap.size V wr ∧ i < 16) := ⟨q1, q2, q3, q4, hlt⟩
      have cT : wr.cell? ⟨w1.heap.size, 0 + i, none⟩ = some (.int .u8 (T i)) := by rw [cell_of_row _ _ _ _ _ _ q2, Nat.zero_add]; exact bA_at 32 T (by omega)
      clear q1 q2 q3 q4 hlt hi
      go_wp2_with (first
        | (refine wpList_ex rfl (execIdxA32 (x := .tmp 5) (f := 0) (k := i) rfl rfl rfl (by have := QQ.out.2.2.2.2; omega)) ?_)
        | (refine wpList_ex rfl (execIdxA16 (x := .tmp 6) (f := 0) (k := i) rfl rfl rfl QQ.out.2.2.2.2) ?_)
        | (refine atLoad 5 (.tmp 17) rfl ?_; go_must (refine wpList_ex rfl (execLdB rfl rfl cT) ?_))
        | (refine atStore 5 (.tmp 19) (.tmp 18) rfl ?_; go_must (refine wpList_exS rfl (execStRow (z := T i) rfl rfl rfl QQ.out.1 (by have := QQ.out.2.2.2.2; omega)) ?_)))
      go_roundw
      case rel =>
        refine ⟨i + 1, QQ.out.2.2.2.2, by go_num, ?_, ?_, ?_, ?_⟩
        · rw [updN_upto]
          exact setRow_heap _ _ _ _ _ _ QQ.out.1
        · rw [setRow_other _ _ _ _ (by have := N1.out; omega)]; exact QQ.out.2.1
        · rw [setRow_other _ _ _ _ (by have := N1.out; omega)]; exact QQ.out.2.2.1
        · exact below4 QQ.out.2.2.2.1 (by have := N1.out; omega) _
      case measure => have := QQ.out.2.2.2.2; simp [intOf]; omega
    · have i1 : ¬ (i : Int) < 16 := by omega
      have e : bA 16 (uptoC T i) = bA 16 T := bA_congr fun j hj => by unfold uptoC; rw [if_pos (by omega)]
      rw [e] at q1
      have QQ : Hid (wr.heap[W3.heap.size]? = some (.cells (bA 16 T) 23) ∧ wr.heap[V.heap.size + 1]? = some (.cells (bA 16 fun _ => 0) 23) ∧ Below V.heap.size V wr) := ⟨q1, q3, q4⟩
      clear q1 q2 q3 q4 hlt hi e
      go_wp2_with (first
        | (refine atLoad 23 (.tmp 6) rfl ?_; go_must (refine wpList_ex rfl (execLdAll rfl rfl QQ.out.1 Tryz.underlying23 rfl (size16 _)) ?_))
        | (refine atStore 23 (.tmp 4) (.tmp 20) rfl ?_; go_must (refine wpList_exS rfl (execStAll (cells := bA 16 T) rfl rfl rfl QQ.out.2.1 (by rw [bA_size, bA_size]) (size16 _) (bA_one _ _)) ?_)))
      refine bodyPost_ret (results_cell Tryz.results46 _ _ (V.heap.size + 1) 23 _ (0, 0) _ rfl (setRow_heap _ _ _ _ _ _ QQ.out.2.1) Tryz.underlying23 rfl (size16 _)) rfl ⟨rfl, below4 QQ.out.2.2 (by omega) _⟩
end Go.Proofs.YtnjmcknanlbpdaaGreatDoor.Oni

namespace Go.Proofs.YtnjmcknanlbpdaaGreatDoor.Oni
open Go.RowKit Gf8 Aes By8 Cel
/- The reference's tag, Forge. -/

set_option maxRecDepth 20000 in
set_option maxHeartbeats 1000000 in
theorem rtg_any (d nonce box : Nat → Nat) (left bl : Nat) (v : Value) (V : World) (hd : ∀ j, d j < 256) (hn : By nonce) (hl : left < 256) (hb0 : 0 < bl) (hb1 : bl ≤ 1000) (hv : SliceN V v bl box) :
    Calls Tryz.prog 44 #[.agg (bA 80 d), .int .i64 (left : Int), .agg (bA 16 nonce), v] V fun e w' => e = .returned (.agg (bA 16 (tgF d left nonce box bl))) ∧ Below V.heap.size V w' := by
  obtain ⟨V3, hV3⟩ : ∃ V3, ((V.alloc (.cells (bA 80 d) 64)).alloc (.cells (bA 16 nonce) 23)).alloc (.cells (bA 16 fun _ => 0) 23) = V3 := ⟨_, rfl⟩
  have hh := heap3z V (.cells (bA 80 d) 64) (.cells (bA 16 nonce) 23) (.cells (bA 16 fun _ => 0) 23)
  have bl3 := below3z V (.cells (bA 80 d) 64) (.cells (bA 16 nonce) 23) (.cells (bA 16 fun _ => 0) 23)
  rw [hV3] at hh bl3
  have s3 : V3.heap.size = V.heap.size + 3 := by rw [← hV3]; simp
  obtain ⟨p, hp⟩ : ∃ p, tmF left nonce box = p := ⟨_, rfl⟩
  have p0 : p 0 = left := by rw [← hp]; unfold tmF; rw [if_pos rfl]
  have pl : ∀ j, j < 17 + bl → p j < 256 := by rw [← hp]; exact tmF_lt hl hn hv.bytes
  have pn : ∀ j, j < 16 → p (1 + j) = nonce j := fun j hj => by rw [← hp]; unfold tmF; rw [if_neg (by omega), if_pos (by omega)]; congr 1; omega
  have pb : ∀ j, p (17 + j) = box j := fun j => by rw [← hp]; unfold tmF; rw [if_neg (by omega), if_neg (by omega)]; congr 1; omega
  obtain ⟨tg, htg⟩ : ∃ tg, tgF d left nonce box bl = tg := ⟨_, rfl⟩
  have HT : Hid (hfF (fun j => d (16 + j)) p (17 + bl) = tg) := by rw [← hp, ← htg]; rfl
  have HP : Hid ((∀ j, j < 17 + bl → p j < 256) ∧ (∀ j, j < 16 → p (1 + j) = nonce j) ∧ (∀ j, p (17 + j) = box j) ∧ 0 < bl ∧ bl ≤ 1000) := ⟨pl, pn, pb, hb0, hb1⟩
  have HV : Hid ((∀ j, d j < 256) ∧ By nonce ∧ SliceN V v bl box) := ⟨hd, hn, hv⟩
  have HH : Hid (V3.heap[V.heap.size]? = some (.cells (bA 80 d) 64) ∧ V3.heap[V.heap.size + 1]? = some (.cells (bA 16 nonce) 23) ∧ V3.heap[V.heap.size + 2]? = some (.cells (bA 16 fun _ => 0) 23) ∧ V3.heap.size = V.heap.size + 3 ∧ Below V.heap.size V V3) := ⟨hh.1, hh.2.1, hh.2.2, s3, bl3⟩
  have z16 := zero16
  have s16 := sl16
  have o1 := own_oneB (W := V3) (B := V3.heap.size) (z := left) (p := p) (Nat.le_refl _) p0
  have O1 : Hid ((V3.alloc (.cells #[.int .u8 (left : Int)] 5)).ownsRow V3.heap.size 5 1 (.slice (some ⟨V3.heap.size, 0, none⟩) 1 1) 1 (bytesL 1 p)) := o1
  have HL : Hid (left < 256) := hl
  have F0 : Hid (Below V3.heap.size V3 (V3.alloc (.cells #[.int .u8 (left : Int)] 5))) := belNew V3 _
  rw [htg]
  have l1 : (left : Int) < 256 := by omega
  clear o1 hd hn hl hb0 hb1 hv hh bl3 s3 p0 pl pn pb hp htg
  go_enter Tryz.func44, Tryz.ntmps44
  go_wp2_with (first
    | (refine wpList_ex rfl (execU8s (n := left) rfl rfl HL.out) ?_)
    | (refine wpList_ex rfl (execOne rfl rfl) ?_)
    | (refine atAppB (.tmp 13) (.tmp 14) rfl ?_; go_must (refine By8.wpList_appS (B := V3.heap.size) (n := 1) (m := 16) (p := p) rfl (.tmp 13) (.tmp 14) rfl rfl rfl O1.out (sliceN_cg (row_slice (by rw [F0.out.block _ (by have := HH.out.2.2.2.1; omega)]; exact HH.out.2.1) (fun j hj => HV.out.2.1 j hj) (by omega)) fun j hj => (HP.out.2.1 j hj).symm) (fun l c e => by cases e) (by omega) F0.out.size ?_; intro u1 W4 own4 gr4; have F1 : Hid (Below V3.heap.size V3 W4) := below_grown F0.out F0.out.size O1.out gr4; have O2 : Hid (W4.ownsRow V3.heap.size 5 1 u1 17 (bytesL 17 p)) := own4; clear own4 gr4))
    | (refine atAppB (.tmp 16) (.tmp 17) rfl ?_; go_must (refine By8.wpList_appS (B := V3.heap.size) (n := 17) (m := bl) (p := p) rfl (.tmp 16) (.tmp 17) rfl rfl rfl O2.out (sliceN_cg (HV.out.2.2.on (HH.out.2.2.2.2.trans (F1.out.mono HH.out.2.2.2.2.size))) fun j _ => (HP.out.2.2.1 j).symm) (fun l c e => by obtain ⟨a', c', e', _, _, e3⟩ := HV.out.2.2.shape; obtain ⟨b', o', rfl, _⟩ := e3 HP.out.2.2.2.1; have e : v = _ := e; rw [e'] at e; cases e) (by have := HP.out.2.2.2.2; omega) F1.out.size ?_; intro u2 W5 own5 gr5; have F2 : Hid (Below V3.heap.size V3 W5) := below_grown F1.out F1.out.size O2.out gr5; have O3 : Hid (W5.ownsRow V3.heap.size 5 1 u2 (17 + bl) (bytesL (17 + bl) p)) := own5; clear own5 gr5))
    | (refine atLoad 57 (.tmp 19) rfl ?_; go_must (refine wpList_ex rfl (execLdPart (k := 32) rfl rfl (by rw [F2.out.block _ (by have := HH.out.2.2.2.1; omega)]; exact HH.out.1) (by omega) Tryz.underlying57 rfl (by kernel_rfl)) ?_))
    | (go_at_call 46; refine (half_any (fun j => d (16 + j)) p (17 + bl) u2 W5 (fun j _ => HV.out.1 _) (own_slice O3.out HP.out.1) (by omega) (by have := HP.out.2.2.2.2; omega)).mono ?_; rw [HT.out]; rintro e w6 ⟨rfl, hb6⟩; have R6 : Hid (w6.heap[V.heap.size + 2]? = some (.cells (bA 16 fun _ => 0) 23) ∧ Below V.heap.size V w6) := (by have q := F2.out.trans (hb6.mono F2.out.size); exact ⟨by rw [q.block _ (by have := HH.out.2.2.2.1; omega)]; exact HH.out.2.2.1, HH.out.2.2.2.2.trans (q.mono HH.out.2.2.2.2.size)⟩); clear hb6)
    | (refine atStore 23 (.tmp 8) (.tmp 22) rfl ?_; go_must (refine wpList_exS rfl (execStAll (cells := bA 16 tg) rfl rfl rfl R6.out.1 (by rw [bA_size, bA_size]) (size16 _) (bA_one _ _)) ?_)))
  refine bodyPost_ret (results_cell Tryz.results44 _ _ (V.heap.size + 2) 23 _ (0, 0) _ rfl (setRow_heap _ _ _ _ _ _ R6.out.1) Tryz.underlying23 rfl (size16 _)) rfl ⟨rfl, below4 R6.out.2 (by omega) _⟩
set_option maxRecDepth 20000 in
set_option maxHeartbeats 1000000 in
theorem rder_ok (key nonce : Nat → Nat) (v : Value) (V : World) (hn : By nonce) (hv : SliceN V v 32 key) :
    Calls Tryz.prog 43 #[v, .agg (bA 16 nonce)] V fun e w' => e = .returned (.tuple #[.agg (bA 80 (dk key nonce)), .int .i64 0]) ∧ Below V.heap.size V w' := by
  obtain ⟨V3, hV3⟩ : ∃ V3, ((V.alloc (.cells (bA 16 nonce) 23)).alloc (.cells (bA 80 fun _ => 0) 64)).alloc (.cells (bA 80 fun _ => 0) 64) = V3 := ⟨_, rfl⟩
  have hh := heap3z V (.cells (bA 16 nonce) 23) (.cells (bA 80 fun _ => 0) 64) (.cells (bA 80 fun _ => 0) 64)
  have bl := below3z V (.cells (bA 16 nonce) 23) (.cells (bA 80 fun _ => 0) 64) (.cells (bA 80 fun _ => 0) 64)
  rw [hV3] at hh bl
  have s3 : V3.heap.size = V.heap.size + 3 := by rw [← hV3]; simp
  obtain ⟨ao, cap, rfl, _⟩ := id hv.shape
  obtain ⟨D, hD⟩ : ∃ D, dk key nonce = D := ⟨_, rfl⟩
  obtain ⟨V4, hV4⟩ : ∃ V4, V3.alloc (.cells #[.int .u8 99, .int .u8 104, .int .u8 117, .int .u8 114, .int .u8 110] 5 (5, 6)) = V4 := ⟨_, rfl⟩
  have cs := ch_slice V3
  have b4 := belNew V3 (.cells #[.int .u8 99, .int .u8 104, .int .u8 117, .int .u8 114, .int .u8 110] 5 (5, 6))
  rw [hV4] at cs b4
  have b04 := bl.trans (b4.mono bl.size)
  have C := rderiveN_any (.slice ao 32 cap) (.slice (some ⟨V.heap.size, 0, none⟩) 16 16) (.slice (some ⟨V3.heap.size, 0, none⟩) 5 5) key nonce V4 (hv.on b04) (row_slice (by rw [b4.block _ (by omega)]; exact hh.1) (fun j hj => hn j hj) (by omega)) cs
  rw [hD] at C
  have HH : Hid (V4.heap[V.heap.size + 1]? = some (.cells (bA 80 fun _ => 0) 64) ∧ V4.heap[V.heap.size + 2]? = some (.cells (bA 80 fun _ => 0) 64) ∧ Below V.heap.size V V4 ∧ V.heap.size + 3 ≤ V4.heap.size) := ⟨by rw [b4.block _ (by omega)]; exact hh.2.1, by rw [b4.block _ (by omega)]; exact hh.2.2, b04, by have := b4.size; omega⟩
  have kc := fun (w : World) (C : Array Value) (n c : Nat) => Lib.run_convert_bytes_const (P := Tryz.prog) w 22 5 C n c Tryz.underlying22 Tryz.underlying5
  have zk := zeroK
  have s16 := sl16
  rw [hD]
  clear hn hv hh bl s3 cs b4 b04
  go_enter Tryz.func43, Tryz.ntmps43
  go_wp2_with (first
    | (go_at_call 15; refine C.mono ?_; rintro e w1 ⟨r, rfl, sl, hb1⟩; obtain ⟨g, off, rc, rfl, hc1, hc2, hcells⟩ := cell_at sl (by omega); have X1 : Hid (w1.heap[V.heap.size + 1]? = some (.cells (bA 80 fun _ => 0) 64) ∧ w1.heap[V.heap.size + 2]? = some (.cells (bA 80 fun _ => 0) 64) ∧ Below V.heap.size V w1 ∧ ∀ j, j < 80 → w1.cell? ⟨g, off + j, none⟩ = some (.int .u8 (D j))) := ⟨(by rw [hb1.block _ (by have := HH.out.2.2.2; omega)]; exact HH.out.1), (by rw [hb1.block _ (by have := HH.out.2.2.2; omega)]; exact HH.out.2.1), HH.out.2.2.1.trans (hb1.mono HH.out.2.2.1.size), hcells⟩; clear sl hb1 hc1 hc2 hcells))
  have AL : Hid (g = V.heap.size + 2 → off = 0 ∧ ∀ j, j < 80 → D j = 0) := fun e => by
    subst e
    have c := X1.out.2.2.2
    have hoff : off = 0 := by
      have h := c 79 (by omega)
      rw [cell_of_row _ _ _ _ _ _ X1.out.2.1] at h
      have := (Array.getElem?_eq_some_iff.1 h).1
      rw [bA_size] at this
      omega
    refine ⟨hoff, fun j hj => ?_⟩
    have h := c j hj
    rw [cell_of_row _ _ _ _ _ _ X1.out.2.1, hoff, Nat.zero_add, bA_at 80 _ hj] at h
    injection h with h
    injection h with _ h
    omega
  have KEEP : Hid (∀ (W : World) (i : Nat), i < 80 → W.heap[V.heap.size + 2]? = some (.cells (bA 80 (uptoC D i)) 64) → (∀ j, j < 80 → W.cell? ⟨g, off + j, none⟩ = some (.int .u8 (D j))) → (∀ j, j < 80 → (W.setRow (V.heap.size + 2) (bA 80 (uptoC D (i + 1)))).cell? ⟨g, off + j, none⟩ = some (.int .u8 (D j)))) := fun W i hi hr hc j hj => by
    by_cases e : g = V.heap.size + 2
    · obtain ⟨e0, ez⟩ := AL.out e
      subst e
      rw [cell_of_row _ _ _ _ _ _ (setRow_heap _ _ _ _ _ _ hr), e0, Nat.zero_add, bA_at 80 _ hj]
      unfold uptoC
      split
      · rfl
      · rw [ez j hj]
    · rw [cell_setRow_other _ _ _ _ e]
      exact hc j hj
  go_loopw [9] (fun z W => ∃ i : Nat, i ≤ 80 ∧ z = .int .i64 (i : Int) ∧ W.heap[V.heap.size + 2]? = some (.cells (bA 80 (uptoC D i)) 64) ∧ W.heap[V.heap.size + 1]? = some (.cells (bA 80 fun _ => 0) 64) ∧ Below V.heap.size V W ∧ ∀ j, j < 80 → W.cell? ⟨g, off + j, none⟩ = some (.int .u8 (D j))) (fun z _ => 80 - (intOf z).toNat)
  case atStart => exact ⟨0, by omega, rfl, by rw [bA_congr (g := fun _ => 0) fun j _ => by unfold uptoC; rw [if_neg (by omega)]]; exact X1.out.2.1, X1.out.1, X1.out.2.2.1, X1.out.2.2.2⟩
  case round =>
    obtain ⟨i, hi, rfl, q1, q2, q3, q4⟩ := hrel
    by_cases hlt : i < 80
    · have i1 : (i : Int) < 80 := by omega
      have QQ : Hid (wr.heap[V.heap.size + 2]? = some (.cells (bA 80 (uptoC D i)) 64) ∧ wr.heap[V.heap.size + 1]? = some (.cells (bA 80 fun _ => 0) 64) ∧ Below V.heap.size V wr ∧ (∀ j, j < 80 → wr.cell? ⟨g, off + j, none⟩ = some (.int .u8 (D j))) ∧ i < 80) := ⟨q1, q2, q3, q4, hlt⟩
      have cT : wr.cell? ⟨g, off + i, none⟩ = some (.int .u8 (D i)) := q4 i hlt
      have NX : Hid (∃ k : Nat, k ≤ 80 ∧ Value.int .i64 ((i : Int) + 1) = .int .i64 (k : Int) ∧ (wr.setRow (V.heap.size + 2) (bA 80 (updN (uptoC D i) i (D i)))).heap[V.heap.size + 2]? = some (.cells (bA 80 (uptoC D k)) 64) ∧ (wr.setRow (V.heap.size + 2) (bA 80 (updN (uptoC D i) i (D i)))).heap[V.heap.size + 1]? = some (.cells (bA 80 fun _ => 0) 64) ∧ Below V.heap.size V (wr.setRow (V.heap.size + 2) (bA 80 (updN (uptoC D i) i (D i)))) ∧ ∀ j, j < 80 → (wr.setRow (V.heap.size + 2) (bA 80 (updN (uptoC D i) i (D i)))).cell? ⟨g, off + j, none⟩ = some (.int .u8 (D j))) := by
        refine ⟨i + 1, hlt, by rw [Int.natCast_add]; rfl, ?_, ?_, below4 q3 (by omega) _, ?_⟩
        · rw [updN_upto]; exact setRow_heap _ _ _ _ _ _ q1
        · rw [setRow_other _ _ _ _ (by omega)]; exact q2
        · rw [updN_upto]; exact KEEP.out wr i hlt q1 q4
      clear q1 q2 q3 q4 hlt hi
      by_cases h16 : i < 16
      · have i2 : (i : Int) < 16 := by omega
        have H16 : Hid (i < 16) := h16
        clear h16
        go_wp2_with (first
          | (refine wpList_ex rfl (execIdxS (x := .tmp 38) (k := i) rfl rfl rfl QQ.out.2.2.2.2) ?_)
          | (refine atLoad 5 (.tmp 40) rfl ?_; go_must (refine wpList_ex rfl (execLdB rfl rfl cT) ?_))
          | (refine wpList_ex rfl (execIdxA16 (x := .tmp 42) (f := 0) (k := i) rfl rfl rfl H16.out) ?_; rw [Nat.zero_add])
          | (refine atStore 5 (.tmp 43) (.tmp 41) rfl ?_; go_must (refine wpList_exS rfl (execStRow (z := D i) (k := i) rfl rfl rfl QQ.out.1 (by have := QQ.out.2.2.2.2; omega)) ?_)))
        go_roundw
        case rel => exact NX.out
        case measure => have := QQ.out.2.2.2.2; simp [intOf]; omega
      · have i2 : ¬ (i : Int) < 16 := by omega
        by_cases h48 : i < 48
        · have i3 : (i : Int) < 48 := by omega
          have e16 : 16 + (i - 16) = i := by omega
          have H16 : Hid (16 ≤ i ∧ i < 48 ∧ 16 + (i - 16) = i) := ⟨by omega, h48, e16⟩
          clear h16 h48 e16
          go_wp2_with (first
            | (refine wpList_ex rfl (execSubI (x := .tmp 47) (p := i) (q := 16) rfl rfl rfl H16.out.1 (by have := QQ.out.2.2.2.2; omega)) ?_)
            | (refine wpList_ex rfl (execIdxS (x := .tmp 49) (k := i) rfl rfl rfl QQ.out.2.2.2.2) ?_)
            | (refine atLoad 5 (.tmp 51) rfl ?_; go_must (refine wpList_ex rfl (execLdB rfl rfl cT) ?_))
            | (refine wpList_ex rfl (execIdxA32 (x := .tmp 53) (f := 16) (k := i - 16) rfl rfl rfl (by have := H16.out; omega)) ?_; rw [H16.out.2.2])
            | (refine atStore 5 (.tmp 54) (.tmp 52) rfl ?_; go_must (refine wpList_exS rfl (execStRow (z := D i) (k := i) rfl rfl rfl QQ.out.1 (by have := QQ.out.2.2.2.2; omega)) ?_)))
          go_roundw
          case rel => exact NX.out
          case measure => have := QQ.out.2.2.2.2; simp [intOf]; omega
        · have i3 : ¬ (i : Int) < 48 := by omega
          have e48 : 48 + (i - 48) = i := by omega
          have H16 : Hid (48 ≤ i ∧ 48 + (i - 48) = i) := ⟨by omega, e48⟩
          clear h16 h48 e48
          go_wp2_with (first
            | (refine wpList_ex rfl (execSubI (x := .tmp 26) (p := i) (q := 48) rfl rfl rfl H16.out.1 (by have := QQ.out.2.2.2.2; omega)) ?_)
            | (refine wpList_ex rfl (execIdxS (x := .tmp 28) (k := i) rfl rfl rfl QQ.out.2.2.2.2) ?_)
            | (refine atLoad 5 (.tmp 30) rfl ?_; go_must (refine wpList_ex rfl (execLdB rfl rfl cT) ?_))
            | (refine wpList_ex rfl (execIdxA32 (x := .tmp 32) (f := 48) (k := i - 48) rfl rfl rfl (by have := QQ.out.2.2.2.2; have := H16.out; omega)) ?_; rw [H16.out.2])
            | (refine atStore 5 (.tmp 33) (.tmp 31) rfl ?_; go_must (refine wpList_exS rfl (execStRow (z := D i) (k := i) rfl rfl rfl QQ.out.1 (by have := QQ.out.2.2.2.2; omega)) ?_)))
          go_roundw
          case rel => exact NX.out
          case measure => have := QQ.out.2.2.2.2; simp [intOf]; omega
    · have i1 : ¬ (i : Int) < 80 := by omega
      have e : bA 80 (uptoC D i) = bA 80 D := bA_congr fun j hj => by unfold uptoC; rw [if_pos (by omega)]
      rw [e] at q1
      have QQ : Hid (wr.heap[V.heap.size + 2]? = some (.cells (bA 80 D) 64) ∧ wr.heap[V.heap.size + 1]? = some (.cells (bA 80 fun _ => 0) 64) ∧ Below V.heap.size V wr) := ⟨q1, q2, q3⟩
      clear q1 q2 q3 q4 hlt hi e
      go_wp2_with (first
        | (refine atLoad 64 (.tmp 6) rfl ?_; go_must (refine wpList_ex rfl (execLdAll rfl rfl QQ.out.1 Tryz.underlying64 rfl (size80 _)) ?_))
        | (refine atStore 64 (.tmp 4) (.tmp 55) rfl ?_; go_must (refine wpList_exS rfl (execStAll (cells := bA 80 D) rfl rfl rfl QQ.out.2.1 (by rw [bA_size, bA_size]) (size80 _) (bA_one _ _)) ?_)))
      refine bodyPost_ret (results_cell_tmp1 Tryz.results43 _ _ (V.heap.size + 1) 64 _ (0, 0) _ rfl (setRow_heap _ _ _ _ _ _ QQ.out.2.1) Tryz.underlying64 rfl (size80 _)) rfl ⟨rfl, below4 QQ.out.2.2 (by omega) _⟩
end Go.Proofs.YtnjmcknanlbpdaaGreatDoor.Oni

namespace Go.Proofs.YtnjmcknanlbpdaaGreatDoor.Oni
open Go.RowKit Gf8 Aes By8 Cel
/- alive. -/

theorem execB16o {o : Oper} {a : Act} {w : World} (ho : o.op = .build 23 #[(0, .const (.int .u8 1))]) : (execOp a.eval o).run Tryz.prog w = .ok (.value (.agg (bA 16 oneF))) w := by
  have h := zero16
  unfold execOp
  simp only [ho]
  simp [go_sem, h]
  rfl
theorem oneF_by : By oneF := fun j _ => by unfold oneF; split <;> omega
theorem wrF_lt {key nonce inner : Nat → Nat} {L n : Nat} (h1 : By nonce) (hn : n < 65536) (h2 : ∀ j, j < n → inner j < 256) (j : Nat) : wrF key nonce L n inner j < 256 :=
  onB_lt h1 (fun _ => tgF_lt _ _ _ _ _ _) (fun _ => bxF_lt (dk_lt _ _) (pbF_all hn h2) _) j
theorem peP_lt {key c : Nat → Nat} {j : Nat} (h : c (32 + j) < 256) : peP key c j < 256 := by
  unfold peP bxF maskF
  exact xor_lt h (enc_by (fun j _ => kw_lt (fun i _ => dk_lt _ _ i) j) (be_by _) _ (Nat.mod_lt _ (by omega)))
theorem nxF_lt {left : Int} {n : Nat} {p : Nat → Nat} (hn : left ≤ 1 → n < 256) (hp : ∀ j, j < n → p j < 256) : ∀ j, nxF left n p j < 256 := by
  intro j
  unfold nxF
  split
  · exact cellF_lt (fun j h => by omega) hp j
  · rename_i q
    have := hn (by omega)
    exact cellF_lt (fun j h => by unfold headP; split <;> omega) hp j
theorem pC_at {W : World} {g : Nat} {cv : Value} {r : Nat → Nat} {t : TypeId} (h : W.heap[g]? = some (.cells (pC cv r) t)) : W.cell? ⟨g, 0, none⟩ = some cv := by
  rw [cell_of_row _ _ _ _ _ _ h]
  rfl
end Go.Proofs.YtnjmcknanlbpdaaGreatDoor.Oni

namespace Go.Proofs.YtnjmcknanlbpdaaGreatDoor.Oni
open Go.RowKit Gf8 Aes By8 Cel
/- OnionOne. -/

/-- What a cell that is peeled tells. -/
theorem pe_parts {lk len : Nat} {left : Int} {key c : Nat → Nat} (h : peE lk left len key c = 0) : lk = 32 ∧ 1 ≤ left ∧ left ≤ 8 ∧ len = 320 ∧ (∀ j, sz left ≤ j → j < 320 → c j = 0) ∧ peT key left c = true ∧ inOk (sz left - 32) (peP key c) = true := by
  unfold peE at h
  by_cases h1 : lk ≠ 32 ∨ sz left = 0
  · rw [if_pos h1] at h; omega
  · rw [if_neg h1] at h
    have hl : lk = 32 := by
      by_cases e : lk = 32
      · exact e
      · exact absurd (Or.inl e) h1
    have hs : sz left ≠ 0 := fun e => h1 (Or.inr e)
    obtain ⟨g1, g2, g3, g4⟩ := sz_pos hs
    by_cases h2 : cutE c len (sz left) ≠ 0
    · rw [if_pos h2] at h; exact absurd h h2
    · rw [if_neg h2] at h
      have hc : cutE c len (sz left) = 0 := by omega
      have hlen : len = 320 := by
        unfold cutE at hc
        by_cases e : len = 320
        · exact e
        · rw [if_pos e] at hc; omega
      have hz : ∀ j, sz left ≤ j → j < 320 → c j = 0 := by
        unfold cutE at hc
        have := sz_le left
        rw [if_neg (by simp; exact hlen), if_neg (by omega)] at hc
        by_cases e : zeroFrom c (sz left : Int).toNat = true
        · intro j h1 h2
          exact (zeroFrom_iff _ _).1 e j (by simp; exact h1) h2
        · rw [if_neg e] at hc; omega
      by_cases h3 : peT key left c = false
      · rw [if_pos h3] at h; omega
      · rw [if_neg h3] at h
        by_cases h4 : inOk (sz left - 32) (peP key c) = false
        · rw [if_pos h4] at h; omega
        · exact ⟨hl, g1, g2, hlen, hz, by simpa using h3, by simpa using h4⟩
def onV (v : Value) (b off p0 p1 n0 : Nat) (j : Nat) : Value :=
  match j with
  | 0 => v | 1 => .pointer (some ⟨b, off + 0, none⟩) | 2 => .int .u8 p0 | 3 => .int .i64 p0 | 4 => .int .i64 ((256 * p0 : Nat) : Int) | 5 => v | 6 => .pointer (some ⟨b, off + 1, none⟩) | 7 => .int .u8 p1 | 8 => .int .i64 p1 | _ => .int .i64 n0
theorem execMul256 {o : Oper} {a : Act} {w : World} {y : Operand} {p : Nat} (ho : o.op = .binOp .mul 3 (.const (.int .i64 256)) y 3) (hy : a.eval y = .int .i64 (p : Int)) (hp : p < 256) : (execOp a.eval o).run Tryz.prog w = .ok (.value (.int .i64 ((256 * p : Nat) : Int))) w := by
  have e : IntKind.i64.wrap (256 * (p : Int)) = 256 * (p : Int) := by simp [IntKind.wrap, IntKind.bits, IntKind.signed]; omega
  unfold execOp
  simp only [ho, hy]
  simp [go_sem, e]
theorem execAddI {o : Oper} {a : Act} {w : World} {x y : Operand} {p q : Nat} (ho : o.op = .binOp .add 3 x y 3) (hx : a.eval x = .int .i64 (p : Int)) (hy : a.eval y = .int .i64 (q : Int)) (hp : p < 100000) (hq : q < 100000) : (execOp a.eval o).run Tryz.prog w = .ok (.value (.int .i64 ((p + q : Nat) : Int))) w := by
  have e : IntKind.i64.wrap ((p : Int) + (q : Int)) = (p : Int) + (q : Int) := by simp [IntKind.wrap, IntKind.bits, IntKind.signed]; omega
  unfold execOp
  simp only [ho, hx, hy]
  simp [go_sem, e]
end Go.Proofs.YtnjmcknanlbpdaaGreatDoor.Oni

namespace Go.Proofs.YtnjmcknanlbpdaaGreatDoor.Oni
open Go.RowKit Gf8 Aes By8 Cel
/- The reference's Peel: what it needs. -/

theorem pC_st1 (cv : Value) (r : Nat → Nat) : ((pC cv fun _ => 0).toList.take 1 ++ (bA 16 r).toList ++ (pC cv fun _ => 0).toList.drop (1 + (bA 16 r).size)).toArray = pC cv r := by
  rw [bA_size]
  have h1 : (pC cv fun _ => 0).toList.take 1 = [cv] := rfl
  have h2 : (pC cv fun _ => 0).toList.drop (1 + 16) = [] := List.drop_of_length_le (by rw [Array.length_toList, pC_size]; exact Nat.le_refl _)
  rw [h1, h2, List.append_nil]
  rfl
theorem execStRep {o : Oper} {a : Act} {w : World} {x y : Operand} {g : Nat} {r : Nat → Nat} {cv : Value} {t : TypeId} (ho : o.op = .store 23 x y) (hx : a.eval x = .pointer (some ⟨g, 1, none⟩)) (hy : a.eval y = .agg (bA 16 r)) (hg : w.heap[g]? = some (.cells (pC cv fun _ => 0) t)) :
    (execOp a.eval o).run Tryz.prog w = .ok .skip (w.setRow g (pC cv r)) := by
  have h := Aes.execStMid (P := Tryz.prog) ho hx hy hg (by rw [bA_size, pC_size]; omega) (size16 r) (bA_one 16 r)
  rw [pC_st1] at h
  exact h
theorem execStCell {o : Oper} {a : Act} {w : World} {x y : Operand} {g : Nat} {r : Nat → Nat} {cv : Value} {ao : Option Addr} {n c : Nat} {t : TypeId} (ho : o.op = .store 22 x y) (hx : a.eval x = .pointer (some ⟨g, 0, none⟩)) (hy : a.eval y = .slice ao n c) (hg : w.heap[g]? = some (.cells (pC cv r) t)) :
    (execOp a.eval o).run Tryz.prog w = .ok .skip (w.setRow g (pC (.slice ao n c) r)) := by
  have hc : w.cell? ⟨g, 0, none⟩ = some cv := pC_at hg
  have hz := frozen4 (o := 0) hg
  have e : w.setCell ⟨g, 0, none⟩ (.slice ao n c) = w.setRow g (pC (.slice ao n c) r) := by
    rw [setCell_eq_setRow w g 0 (pC cv r) t _ _ hg]
    rfl
  unfold execOp
  simp only [ho, hx, hy]
  simp [go_sem, hc, hz, e]
/-- What the region of the tag knows. -/
def rpT (D c tg : Nat → Nat) (L : Nat) (ov vb : Value) (W0 : World) (l : Nat → Bool) (x : Nat → Value) (W : World) : Prop :=
  (l 0 = true → x 0 = .agg (bA 80 D)) ∧ (l 1 = true → x 1 = .int .i64 (L : Int)) ∧ (l 2 = true → x 2 = .agg (bA 16 c)) ∧ (l 3 = true → x 3 = ov) ∧ (l 4 = true → x 4 = vb) ∧ (l 5 = true → x 5 = .agg (bA 16 tg)) ∧
  (l 6 = true → ∃ I, x 6 = .pointer (some ⟨I, 0, none⟩) ∧ W0.heap.size ≤ I ∧ (l 7 = false → W.heap[I]? = some (.cells (bA 16 fun _ => 0) 23)) ∧ (l 7 = true → W.heap[I]? = some (.cells (bA 16 tg) 23))) ∧ Below W0.heap.size W0 W
/-- What the region of the mask knows. -/
def rmT (K : Nat) (D pl : Nat → Nat) (ov vb : Value) (N : Nat) (W0 : World) (l : Nat → Bool) (x : Nat → Value) (W : World) : Prop :=
  (l 0 = true → x 0 = .pointer (some ⟨K, 0, none⟩)) ∧ (l 1 = true → x 1 = .agg (bA 16 fun j => D (0 + j))) ∧ (l 2 = true → x 2 = .agg (bA 16 fun _ => 0)) ∧ (l 3 = true → x 3 = ov) ∧ (l 4 = true → x 4 = vb) ∧ (l 5 = true → SliceN W (x 5) N pl) ∧ (l 6 = true → x 6 = x 5) ∧ Below W0.heap.size W0 W
/-- What the region of the replay tag knows. -/
def rrT (K : Nat) (D rp : Nat → Nat) (ov v32 : Value) (W0 : World) (l : Nat → Bool) (x : Nat → Value) (W : World) : Prop :=
  (l 0 = true → x 0 = .pointer (some ⟨K, 48, none⟩)) ∧ (l 1 = true → x 1 = .agg (bA 32 fun j => D (48 + j))) ∧ (l 2 = true → x 2 = ov) ∧ (l 3 = true → x 3 = v32) ∧ (l 4 = true → x 4 = .agg (bA 16 rp)) ∧ (l 5 = true → x 5 = .pointer (some ⟨W0.heap.size, 1, none⟩)) ∧
  (l 6 = false → W.heap[W0.heap.size]? = some (.cells (pC (.slice none 0 0) fun _ => 0) 50)) ∧ (l 6 = true → W.heap[W0.heap.size]? = some (.cells (pC (.slice none 0 0) rp) 50)) ∧ Below W0.heap.size W0 W
theorem execFldQ0 {o : Oper} {a : Act} {w : World} {x : Operand} {g : Nat} (ho : o.op = .fieldAddr 50 x 0) (hx : a.eval x = .pointer (some ⟨g, 0, none⟩)) : (execOp a.eval o).run Tryz.prog w = .ok (.value (.pointer (some ⟨g, 0, none⟩))) w := by
  unfold execOp
  simp only [ho, hx]
  simp [go_sem]
theorem execFldQ1 {o : Oper} {a : Act} {w : World} {x : Operand} {g : Nat} (ho : o.op = .fieldAddr 50 x 1) (hx : a.eval x = .pointer (some ⟨g, 0, none⟩)) : (execOp a.eval o).run Tryz.prog w = .ok (.value (.pointer (some ⟨g, 1, none⟩))) w := by
  unfold execOp
  simp only [ho, hx]
  simp [go_sem]
end Go.Proofs.YtnjmcknanlbpdaaGreatDoor.Oni
