import Derived.Test.YteekoabgbjbabaaGreatDoorX5g
namespace Go.Proofs.YteekoabgbjbabaaGreatDoor.Oni
open Go.RowKit Gf8 Aes By8 Cel
/- plainBox, Derive. -/

theorem pb_row (N n : Nat) (inner : Nat → Nat) (hn : 2 + n ≤ N) : bA N (spl (updN (updN (fun _ => 0) 0 (n / 256)) 1 (n % 256)) 2 n inner) = bA N (pbF n inner) := by
  have _ := hn
  refine bA_congr fun j _ => ?_
  unfold spl pbF cellF updN hd2
  by_cases h1 : j < 2
  · rw [if_neg (by omega), if_pos h1]
    by_cases h2 : j = 1
    · rw [if_pos h2, if_neg (by omega)]
    · rw [if_neg h2, if_pos (by omega), if_pos (by omega)]
  · rw [if_neg h1]
    by_cases h2 : j < 2 + n
    · rw [if_pos (by omega), if_pos h2]
    · rw [if_neg (by omega), if_neg h2, if_neg (by omega), if_neg (by omega)]
set_option maxRecDepth 20000 in
set_option maxHeartbeats 1000000 in
theorem plainBox_any (left : Int) (n : Nat) (inner : Nat → Nat) (v : Value) (V : World) (hs : sz left ≠ 0) (hn : n ≤ sz left - 34) (hv : SliceN V v n inner) :
    Calls Tryz.prog 34 #[.int .i64 left, v] V fun e w' => ∃ r, e = .returned r ∧ w'.ownsRow V.heap.size 5 1 r (sz left - 32) (bytesL (sz left - 32) (pbF n inner)) ∧ Below V.heap.size V w' := by
  obtain ⟨_, _, _, h82⟩ := sz_pos hs
  have h320 := sz_le left
  obtain ⟨S, hS⟩ : ∃ S, sz left = S := ⟨_, rfl⟩
  rw [hS] at hn h82 h320 ⊢
  obtain ⟨N, hN⟩ : ∃ N, S = N + 32 := ⟨S - 32, by omega⟩
  subst hN
  rw [show N + 32 - 32 = N by omega]
  have hN1 : 50 ≤ N ∧ N ≤ 288 ∧ n + 2 ≤ N := by omega
  obtain ⟨ao, cap, rfl, _⟩ := id hv.shape
  have PS := psize_any left V
  rw [hS] at PS
  have HV : Hid (SliceN V (.slice ao n cap) n inner ∧ 50 ≤ N ∧ N ≤ 288 ∧ n + 2 ≤ N) := ⟨hv, hN1⟩
  have r1 := heapNew V (.cells (bA N fun _ => 0) 5)
  obtain ⟨W1, hW1⟩ : ∃ W1, V.alloc (.cells (bA N fun _ => 0) 5) = W1 := ⟨_, rfl⟩
  have b1 := belNew V (.cells (bA N fun _ => 0) 5)
  rw [hW1] at r1 b1
  obtain ⟨W2, hW2⟩ : ∃ W2, W1.setRow V.heap.size (bA N (updN (fun _ => 0) 0 (n / 256))) = W2 := ⟨_, rfl⟩
  have r2 := setRow_heap _ _ _ (bA N (updN (fun _ => 0) 0 (n / 256))) _ _ r1
  have b2 := below4 b1 (Nat.le_refl _) (bA N (updN (fun _ => 0) 0 (n / 256)))
  rw [hW2] at r2 b2
  obtain ⟨W3, hW3⟩ : ∃ W3, W2.setRow V.heap.size (bA N (updN (updN (fun _ => 0) 0 (n / 256)) 1 (n % 256))) = W3 := ⟨_, rfl⟩
  have r3 := setRow_heap _ _ _ (bA N (updN (updN (fun _ => 0) 0 (n / 256)) 1 (n % 256))) _ _ r2
  have b3 := below4 b2 (Nat.le_refl _) (bA N (updN (updN (fun _ => 0) 0 (n / 256)) 1 (n % 256)))
  rw [hW3] at r3 b3
  have H3 : Hid (Below V.heap.size V W3 ∧ W3.heap[V.heap.size]? = some (.cells (bA N (updN (updN (fun _ => 0) 0 (n / 256)) 1 (n % 256))) 5)) := ⟨b3, r3⟩
  have H1 : Hid (W1.heap[V.heap.size]? = some (.cells (bA N fun _ => 0) 5) ∧ W2.heap[V.heap.size]? = some (.cells (bA N (updN (fun _ => 0) 0 (n / 256))) 5)) := ⟨r1, r2⟩
  have sl : sliced (some ⟨V.heap.size, 0, none⟩) 2 N N 1 = .slice (some ⟨V.heap.size, 2, none⟩) (N - 2) (N - 2) := by
    unfold sliced
    rw [if_neg (by omega)]
    simp [Addr.add_mid]
  have sg : ∀ W, (Instr.sliceAt 24 (.slice (some ⟨V.heap.size, 0, none⟩) N N) (some (.int .i64 2)) none none).run Tryz.prog W = .ok (.slice (some ⟨V.heap.size, 2, none⟩) (N - 2) (N - 2)) W := fun W => by
    have := By8.slice_l (some ⟨V.heap.size, 0, none⟩) N N 2 (by omega) W
    rw [sl] at this
    exact this
  have i0 : (0 : Int) < (N : Int) := by omega
  have i1 : (1 : Int) < (N : Int) := by omega
  have i2 : (n : Int) ≤ 300 := by omega
  have i3 : (N : Int) ≤ 300 := by omega
  clear hs hn h82 h320 hS hN1 hv r1 r2 r3 b1 b2 b3 sl
  go_enter Tryz.func34, Tryz.ntmps34
  go_wp2_with (first
    | (go_at_call 31; refine PS.mono ?_; rintro e w1 ⟨rfl, hw1⟩; subst hw1)
    | (refine wpList_ex rfl (execSubI (p := N + 32) (q := 32) rfl rfl rfl (by omega) (by omega)) ?_; rw [show N + 32 - 32 = N by omega])
    | (refine wpList_ex rfl (execMk (l := N) (n := N) rfl rfl rfl (Nat.le_refl _) (by have := HV.out; omega)) ?_)
    | (refine wpList_ex rfl (execShr8 (n := n) rfl rfl) ?_)
    | (refine wpList_ex rfl (execU8s (x := .tmp 14) (n := n / 256) rfl rfl (by have := HV.out; omega)) ?_)
    | (refine wpList_ex rfl (execU8 (x := .tmp 17) (n := n) rfl rfl) ?_)
    | (refine atStore 5 (.tmp 19) (.tmp 15) rfl ?_; go_must (refine wpList_exS rfl (execStRow (z := n / 256) rfl rfl rfl H1.out.1 (by have := HV.out; omega)) ?_))
    | (refine atStore 5 (.tmp 20) (.tmp 18) rfl ?_; go_must (refine wpList_exS rfl (execStRow (z := n % 256) rfl rfl rfl H1.out.2 (by have := HV.out; omega)) ?_))
    | (refine wpList_ex rfl (execCopyZ (x := .tmp 22) (y := .tmp 23) rfl rfl rfl (HV.out.1.on H3.out.1) H3.out.2 (by have := HV.out; omega) (by have := HV.out; omega)) ?_))
  go_ret
  refine ⟨_, rfl, own_full (n := N) (by rw [← pb_row N n inner (by have := HV.out; omega)]; exact setRow_heap _ _ _ _ _ _ H3.out.2) (Nat.le_refl _) (by have := HV.out; omega), below4 H3.out.1 (Nat.le_refl _) _⟩
theorem sl_lk (g off len cap k : Nat) (hk : k ≤ len) (hc : k < cap) (W : World) : (Instr.sliceAt 24 (.slice (some ⟨g, off, none⟩) len cap) (some (.int .i64 (k : Int))) none none).run Tryz.prog W = .ok (.slice (some ⟨g, off + k, none⟩) (len - k) (cap - k)) W := by
  have h1 := By8.slice_l (some ⟨g, off, none⟩) len cap k hk W
  have e : sliced (some ⟨g, off, none⟩) k len cap 1 = .slice (some ⟨g, off + k, none⟩) (len - k) (cap - k) := by
    unfold sliced
    rw [if_neg (by omega)]
    simp [Addr.add_mid]
  rw [e] at h1
  exact h1
theorem partN {w : World} {g off len cap : Nat} {p : Nat → Nat} (h : SliceN w (.slice (some ⟨g, off, none⟩) len cap) len p) {k : Nat} (hk : k ≤ len) : SliceN w (.slice (some ⟨g, off + k, none⟩) (len - k) (cap - k)) (len - k) fun j => p (k + j) := by
  obtain ⟨⟨a', cap', e, e1, e2, e3⟩, hp⟩ := h
  obtain ⟨rfl, _, rfl⟩ : some (⟨g, off, none⟩ : Addr) = a' ∧ len = len ∧ cap = cap' := by
    injection e with x y z
    exact ⟨x, rfl, z⟩
  refine ⟨⟨_, _, rfl, by omega, by omega, fun h0 => ?_⟩, fun j hj => hp _ (by omega)⟩
  obtain ⟨b, of, e', hb, hc⟩ := e3 (by omega)
  injection e' with e'
  injection e' with e4 e5
  subst e4 e5
  exact ⟨_, _, rfl, hb, fun j hj => by rw [Nat.add_assoc]; exact hc _ (by omega)⟩
theorem dk_row (D : Nat → Nat) : bA 80 (spl (spl (spl (fun _ => 0) 0 16 D) 16 32 (fun j => D (16 + j))) 48 32 fun j => D (48 + j)) = bA 80 D := by
  refine bA_congr fun j hj => ?_
  unfold spl
  by_cases h1 : j < 16
  · rw [if_neg (by omega), if_neg (by omega), if_pos (by omega), Nat.sub_zero]
  · by_cases h2 : j < 48
    · rw [if_neg (by omega), if_pos (by omega)]; show D (16 + (j - 16)) = D j; congr 1; omega
    · rw [if_pos (by omega)]; show D (48 + (j - 48)) = D j; congr 1; omega
theorem ch_slice (W : World) : SliceN (W.alloc (.cells #[.int .u8 99, .int .u8 104, .int .u8 117, .int .u8 114, .int .u8 110] 5 (5, 6))) (.slice (some ⟨W.heap.size, 0, none⟩) 5 5) 5 chF :=
  lit_slice (heapNew W _) (fun j hj => by
    match j, hj with
    | 0, _ => rfl
    | 1, _ => rfl
    | 2, _ => rfl
    | 3, _ => rfl
    | 4, _ => rfl) chF_lt (by omega)
set_option maxRecDepth 20000 in
theorem pder_bad (key nonce : Nat → Nat) (lk : Nat) (v : Value) (V : World) (hv : SliceN V v lk key) (hl : lk ≠ 32) :
    Calls Tryz.prog 30 #[v, .agg (bA 16 nonce)] V fun e w' => e = .returned (.tuple #[.agg (bA 80 fun _ => 0), .int .i64 2]) ∧ Below V.heap.size V w' := by
  obtain ⟨V2, hV2⟩ : ∃ V2, (V.alloc (.cells (bA 16 nonce) 35)).alloc (.cells (bA 80 fun _ => 0) 58) = V2 := ⟨_, rfl⟩
  have hh := heap2c V (.cells (bA 16 nonce) 35) (.cells (bA 80 fun _ => 0) 58)
  have bl := below2c V (.cells (bA 16 nonce) 35) (.cells (bA 80 fun _ => 0) 58)
  rw [hV2] at hh bl
  obtain ⟨ao, cap, rfl, _⟩ := hv.shape
  have i1 : ((lk : Int) != 32) = true := by simp; omega
  have zk := zeroK
  have HH : Hid (V2.heap[V.heap.size + 1]? = some (.cells (bA 80 fun _ => 0) 58) ∧ Below V.heap.size V V2) := ⟨hh.2, bl⟩
  clear hv hl hh bl
  go_enter Tryz.func30, Tryz.ntmps30
  go_wp2_with (first
    | (refine wpList_ex rfl (execBK rfl) ?_)
    | (refine atStore 58 (.tmp 4) (.tmp 12) rfl ?_; go_must (refine wpList_exS rfl (execStAll (cells := bA 80 fun _ => 0) rfl rfl rfl HH.out.1 (by rw [bA_size]) (size80 _) (bA_one _ _)) ?_)))
  refine bodyPost_ret (results_cell_tmp1 Tryz.results30 _ _ (V.heap.size + 1) 58 _ (0, 0) _ rfl (setRow_heap _ _ _ _ _ _ HH.out.1) Tryz.underlying58 rfl (size80 _)) rfl ⟨rfl, below4 HH.out.2 (by omega) _⟩
set_option maxRecDepth 20000 in
set_option maxHeartbeats 1000000 in
theorem pder_ok (key nonce : Nat → Nat) (v : Value) (V : World) (hG : Glob V) (hn : By nonce) (hv : SliceN V v 32 key) :
    Calls Tryz.prog 30 #[v, .agg (bA 16 nonce)] V fun e w' => e = .returned (.tuple #[.agg (bA 80 (dk key nonce)), .int .i64 0]) ∧ Below V.heap.size V w' := by
  obtain ⟨V2, hV2⟩ : ∃ V2, (V.alloc (.cells (bA 16 nonce) 35)).alloc (.cells (bA 80 fun _ => 0) 58) = V2 := ⟨_, rfl⟩
  have hh := heap2c V (.cells (bA 16 nonce) 35) (.cells (bA 80 fun _ => 0) 58)
  have bl := below2c V (.cells (bA 16 nonce) 35) (.cells (bA 80 fun _ => 0) 58)
  rw [hV2] at hh bl
  have s2 : V2.heap.size = V.heap.size + 2 := by rw [← hV2]; simp
  obtain ⟨ao, cap, rfl, _⟩ := id hv.shape
  obtain ⟨D, hD⟩ : ∃ D, dk key nonce = D := ⟨_, rfl⟩
  have DL : Hid (∀ j, D j < 256) := by rw [← hD]; exact dk_lt key nonce
  obtain ⟨V3, hV3⟩ : ∃ V3, V2.alloc (.cells #[.int .u8 99, .int .u8 104, .int .u8 117, .int .u8 114, .int .u8 110] 5 (5, 6)) = V3 := ⟨_, rfl⟩
  have cs := ch_slice V2
  have b3 := belNew V2 (.cells #[.int .u8 99, .int .u8 104, .int .u8 117, .int .u8 114, .int .u8 110] 5 (5, 6))
  rw [hV3] at cs b3
  have b03 := bl.trans (b3.mono bl.size)
  have C := pderive_any (.slice ao 32 cap) (.slice (some ⟨V.heap.size, 0, none⟩) 16 16) (.slice (some ⟨V2.heap.size, 0, none⟩) 5 5) key nonce V3 (hG.below b03 hG.sz) (hv.on b03) (row_slice (by rw [b3.block _ (by omega)]; exact hh.1) (fun j hj => hn j hj) (by omega)) cs
  rw [hD] at C
  have HH : Hid (V3.heap[V.heap.size + 1]? = some (.cells (bA 80 fun _ => 0) 58) ∧ Below V.heap.size V V3 ∧ V.heap.size + 2 ≤ V3.heap.size) := ⟨by rw [b3.block _ (by omega)]; exact hh.2, b03, by have := b3.size; omega⟩
  have kc := fun (w : World) (C : Array Value) (n c : Nat) => Lib.run_convert_bytes_const (P := Tryz.prog) w 24 5 C n c Tryz.underlying24 Tryz.underlying5
  have zk := zeroK
  have s16 := slK
  have s32 := slK2
  rw [hD]
  clear hG hn hv hh bl s2 cs b3 b03
  go_enter Tryz.func30, Tryz.ntmps30
  go_wp2_with (first
    | (go_at_call 20
       refine C.mono ?_
       rintro e w1 ⟨r, rfl, own, hb1⟩
       obtain ⟨g, pc, rfl, hB, hc, _⟩ := own_cells own (by decide)
       have sp := own_slice own (fun j _ => DL.out j)
       have HC : Hid (80 ≤ pc) := hc
       have q1 := sl_lk g 0 80 pc 16 (by omega) (by omega)
       have q2 := sl_lk g 16 64 (pc - 16) 32 (by omega) (by omega)
       have g1 : ∀ W, (Instr.sliceAt 24 (.slice (some ⟨g, 0, none⟩) 80 pc) (some (.int .i64 16)) none none).run Tryz.prog W = .ok (.slice (some ⟨g, 16, none⟩) 64 (pc - 16)) W := q1
       have g2 : ∀ W, (Instr.sliceAt 24 (.slice (some ⟨g, 16, none⟩) 64 (pc - 16)) (some (.int .i64 32)) none none).run Tryz.prog W = .ok (.slice (some ⟨g, 48, none⟩) 32 (pc - 16 - 32)) W := q2
       have p1 := partN sp (k := 16) (by omega)
       have p2 := partN p1 (k := 32) (by omega)
       have p2' : SliceN w1 (.slice (some ⟨g, 48, none⟩) 32 (pc - 16 - 32)) 32 (fun j => D (48 + j)) := sliceN_cg p2 (fun j _ => by show D (16 + (32 + j)) = D (48 + j); congr 1; omega)
       have SP : Hid (SliceN w1 (.slice (some ⟨g, 0, none⟩) 80 pc) 80 D ∧ SliceN w1 (.slice (some ⟨g, 16, none⟩) 64 (pc - 16)) 64 (fun j => D (16 + j)) ∧ SliceN w1 (.slice (some ⟨g, 48, none⟩) 32 (pc - 16 - 32)) 32 (fun j => D (48 + j))) := ⟨sp, (by have := p1; rw [Nat.zero_add] at this; exact this), p2'⟩
       have B1 : Hid (Below V.heap.size V w1 ∧ w1.heap[V.heap.size + 1]? = some (.cells (bA 80 fun _ => 0) 58) ∧ V.heap.size + 2 ≤ w1.heap.size) := ⟨HH.out.2.1.trans (hb1.mono HH.out.2.1.size), by rw [hb1.block _ (by have := HH.out.2.2; omega)]; exact HH.out.1, Nat.le_trans HH.out.2.2 hb1.size⟩
       obtain ⟨X0, hX0⟩ : ∃ X0, w1.alloc (.cells (bA 80 fun _ => 0) 58) = X0 := ⟨_, rfl⟩
       have x0 := heapNew w1 (.cells (bA 80 fun _ => 0) 58)
       have y0 := belNew w1 (.cells (bA 80 fun _ => 0) 58)
       rw [hX0] at x0 y0
       obtain ⟨X1, hX1⟩ : ∃ X1, X0.setRow w1.heap.size (bA 80 (spl (fun _ => 0) 0 16 D)) = X1 := ⟨_, rfl⟩
       have x1 := setRow_heap _ _ _ (bA 80 (spl (fun _ => 0) 0 16 D)) _ _ x0
       have y1 := below4 y0 (Nat.le_refl _) (bA 80 (spl (fun _ => 0) 0 16 D))
       rw [hX1] at x1 y1
       obtain ⟨X2, hX2⟩ : ∃ X2, X1.setRow w1.heap.size (bA 80 (spl (spl (fun _ => 0) 0 16 D) 16 32 fun j => D (16 + j))) = X2 := ⟨_, rfl⟩
       have x2 := setRow_heap _ _ _ (bA 80 (spl (spl (fun _ => 0) 0 16 D) 16 32 fun j => D (16 + j))) _ _ x1
       have y2 := below4 y1 (Nat.le_refl _) (bA 80 (spl (spl (fun _ => 0) 0 16 D) 16 32 fun j => D (16 + j)))
       rw [hX2] at x2 y2
       obtain ⟨X3, hX3⟩ : ∃ X3, X2.setRow w1.heap.size (bA 80 D) = X3 := ⟨_, rfl⟩
       have x3 := setRow_heap _ _ _ (bA 80 D) _ _ x2
       have y3 := below4 y2 (Nat.le_refl _) (bA 80 D)
       rw [hX3] at x3 y3
       have XX : Hid (X0.heap[w1.heap.size]? = some (.cells (bA 80 fun _ => 0) 58) ∧ X1.heap[w1.heap.size]? = some (.cells (bA 80 (spl (fun _ => 0) 0 16 D)) 58) ∧ X2.heap[w1.heap.size]? = some (.cells (bA 80 (spl (spl (fun _ => 0) 0 16 D) 16 32 fun j => D (16 + j))) 58) ∧ X3.heap[w1.heap.size]? = some (.cells (bA 80 D) 58)) := ⟨x0, x1, x2, x3⟩
       have YY : Hid (Below w1.heap.size w1 X0 ∧ Below w1.heap.size w1 X1 ∧ Below w1.heap.size w1 X2 ∧ Below w1.heap.size w1 X3) := ⟨y0, y1, y2, y3⟩
       clear own hb1 hB hc sp q1 q2 p1 p2 p2' x0 x1 x2 x3 y0 y1 y2 y3)
    | (refine wpList_ex (v := .int .i64 16) rfl (execCopyN (x := .tmp 27) (y := .tmp 28) (n := 16) rfl rfl rfl (SP.out.1.on YY.out.1) XX.out.1 (by omega) (by omega) (by omega)) ?_)
    | (refine wpList_ex (v := .int .i64 32) rfl (execCopyN (x := .tmp 33) (y := .tmp 34) (n := 32) rfl rfl rfl (SP.out.2.1.on YY.out.2.1) XX.out.2.1 (by omega) (by omega) (by omega)) ?_)
    | (refine wpList_ex (v := .int .i64 32) rfl (execCopyN (x := .tmp 38) (y := .tmp 39) (n := 32) rfl rfl rfl (SP.out.2.2.on YY.out.2.2.1) XX.out.2.2.1 (by omega) (by omega) (by omega)) ?_; rw [dk_row, hX3])
    | (refine atLoad 58 (.tmp 8) rfl ?_; go_must (refine wpList_ex rfl (execLdAll rfl rfl XX.out.2.2.2 Tryz.underlying58 rfl (size80 _)) ?_))
    | (refine atStore 58 (.tmp 4) (.tmp 41) rfl ?_; go_must (refine wpList_exS rfl (execStAll (cells := bA 80 D) rfl rfl rfl (by rw [YY.out.2.2.2.block _ (by have := B1.out.2.2; omega)]; exact B1.out.2.1) (by rw [bA_size, bA_size]) (size80 _) (bA_one _ _)) ?_)))
  have b9 := B1.out.1.trans (YY.out.2.2.2.mono B1.out.1.size)
  refine bodyPost_ret (results_cell_tmp1 Tryz.results30 _ _ (V.heap.size + 1) 58 _ (0, 0) _ rfl (setRow_heap _ _ _ _ _ _ (by rw [YY.out.2.2.2.block _ (by have := B1.out.2.2; omega)]; exact B1.out.2.1)) Tryz.underlying58 rfl (size80 _)) rfl ⟨rfl, below4 b9 (by omega) _⟩
end Go.Proofs.YteekoabgbjbabaaGreatDoor.Oni

namespace Go.Proofs.YteekoabgbjbabaaGreatDoor.Oni
open Go.RowKit Gf8 Aes By8 Cel
/- Wrap. -/

def wpT (D pb : Nat → Nat) (left : Int) (vi : Value) (N : Nat) (bx : Nat → Nat) (W0 : World) (l : Nat → Bool) (x : Nat → Value) (W : World) : Prop :=
  (l 0 = true → x 0 = .agg (bA 80 D)) ∧ (l 1 = true → x 1 = .int .i64 left) ∧ (l 2 = true → x 2 = vi) ∧ (l 3 = true → W.ownsRow W0.heap.size 5 1 (x 3) N (bytesL N pb)) ∧ (l 4 = true → W.ownsRow W0.heap.size 5 1 (x 4) N (bytesL N bx)) ∧ (l 5 = true → x 5 = x 4) ∧ Below W0.heap.size W0 W
theorem bxF_lt {D p : Nat → Nat} (hD : ∀ j, D j < 256) (hp : ∀ j, p j < 256) (j : Nat) : bxF D p j < 256 := by
  unfold bxF maskF
  exact xor_lt (hp j) (enc_by (fun j _ => kw_lt (fun i _ => hD i) j) (be_by _) _ (Nat.mod_lt _ (by omega)))
theorem tgF_lt (d : Nat → Nat) (left : Nat) (nonce box : Nat → Nat) (bl j : Nat) : tgF d left nonce box bl j < 256 := hfF_lt _ _ _ _
theorem onB_lt {nonce tg box : Nat → Nat} (h1 : By nonce) (h2 : ∀ j, tg j < 256) (h3 : ∀ j, box j < 256) (j : Nat) : onB nonce tg box j < 256 := by
  unfold onB
  split
  · exact h1 _ (by omega)
  · split
    · exact h2 _
    · exact h3 _
theorem pbF_all {n : Nat} {inner : Nat → Nat} (hn : n < 65536) (h : ∀ j, j < n → inner j < 256) : ∀ j, pbF n inner j < 256 := fun j => pbF_lt hn h j
set_option maxRecDepth 20000 in
theorem wrap_key (key nonce inner : Nat → Nat) (lk n : Nat) (left : Int) (vk vi : Value) (V : World) (hk : SliceN V vk lk key) (hl : lk ≠ 32) :
    Calls Tryz.prog 21 #[vk, .agg (bA 16 nonce), .int .i64 left, vi] V fun e w' => ∃ r, e = .returned (.tuple #[r, .int .i64 (wrE lk left n : Nat)]) ∧ w'.ownsRow V.heap.size 5 1 r (wrN lk left n) (bytesL (wrN lk left n) (wrF key nonce left.toNat n inner)) ∧ Below V.heap.size V w' := by
  have E : wrE lk left n = 2 := if_pos (Or.inl hl)
  have E2 : wrN lk left n = 0 := by unfold wrN; rw [E]; rfl
  rw [E, E2]
  have r1 := heapNew V (.cells (bA 16 nonce) 35)
  have b1 := belNew V (.cells (bA 16 nonce) 35)
  have C := pder_bad key nonce lk vk (V.alloc (.cells (bA 16 nonce) 35)) (hk.on b1) hl
  have H : Hid (_ ∧ _) := ⟨r1, b1⟩
  have zk := zeroK
  clear E E2 hl hk r1 b1
  go_enter Tryz.func21, Tryz.ntmps21
  go_wp2_with (first
    | (refine atLoad 35 (.tmp 5) rfl ?_; go_must (refine wpList_ex rfl (execLdAll rfl rfl H.out.1 Tryz.underlying35 rfl (size16 _)) ?_))
    | (go_at_call 30; refine C.mono ?_; rintro e w1 ⟨rfl, hb1⟩; have B1 : Hid (_) := hb1; clear hb1)
    | (refine atStore 58 (.tmp 10) (.tmp 19) rfl ?_; go_must (refine wpList_exS rfl (execStAll (cells := bA 80 fun _ => 0) rfl rfl rfl (heapNew w1 _) (by rw [bA_size]) (size80 _) (bA_one _ _)) ?_)))
  have b2 := H.out.2.trans (B1.out.mono H.out.2.size)
  refine bodyPost_ret (results_tmp2 rfl _ _ _) rfl ⟨_, rfl, World.ownsRow_nil _ _ _ _, b2.trans ((below4 (belNew w1 _) (Nat.le_refl _) _).mono b2.size)⟩
set_option maxRecDepth 20000 in
set_option maxHeartbeats 1000000 in
theorem wrap_any (key nonce inner : Nat → Nat) (lk n : Nat) (left : Int) (vk vi : Value) (V : World) (hG : Glob V) (hk : SliceN V vk lk key) (hn : By nonce) (hi : SliceN V vi n inner) (hb : n ≤ 140737488351232) :
    Calls Tryz.prog 21 #[vk, .agg (bA 16 nonce), .int .i64 left, vi] V fun e w' => ∃ r, e = .returned (.tuple #[r, .int .i64 (wrE lk left n : Nat)]) ∧ w'.ownsRow V.heap.size 5 1 r (wrN lk left n) (bytesL (wrN lk left n) (wrF key nonce left.toNat n inner)) ∧ Below V.heap.size V w' := by
  by_cases hl : lk = 32
  · subst hl
    obtain ⟨V1, hV1⟩ : ∃ V1, V.alloc (.cells (bA 16 nonce) 35) = V1 := ⟨_, rfl⟩
    have r1 := heapNew V (.cells (bA 16 nonce) 35)
    have b1 := belNew V (.cells (bA 16 nonce) 35)
    have s1 : V1.heap.size = V.heap.size + 1 := by rw [← hV1]; simp
    rw [hV1] at r1 b1
    obtain ⟨ao, cap, rfl, _⟩ := id hi.shape
    obtain ⟨D, hD⟩ : ∃ D, dk key nonce = D := ⟨_, rfl⟩
    have C := pder_ok key nonce vk V1 (hG.below b1 hG.sz) hn (hk.on b1)
    rw [hD] at C
    have DL : Hid (∀ j, D j < 256) := by rw [← hD]; exact dk_lt key nonce
    have H : Hid (V1.heap[V.heap.size]? = some (.cells (bA 16 nonce) 35) ∧ Below V.heap.size V V1 ∧ V1.heap.size = V.heap.size + 1) := ⟨r1, b1, s1⟩
    have HV : Hid (Glob V ∧ By nonce ∧ SliceN V (.slice ao n cap) n inner) := ⟨hG, hn, hi⟩
    have zk := zeroK
    obtain ⟨S, hS⟩ : ∃ S, sz left = S := ⟨_, rfl⟩
    have PS := psize_any left
    have PR := proom_any left
    rw [hS] at PS PR
    have l3 : (n : Int) ≤ 140737488351232 := by omega
    clear hG hk hn hi hb r1 b1 s1
    by_cases h0 : S = 0
    · have E : wrE 32 left n = 2 := if_pos (Or.inr (hS.trans h0))
      have E2 : wrN 32 left n = 0 := by unfold wrN; rw [E]; rfl
      rw [E, E2]
      subst h0
      clear E E2
      go_enter Tryz.func21, Tryz.ntmps21
      go_wp2_with (first
        | (refine atLoad 35 (.tmp 5) rfl ?_; go_must (refine wpList_ex rfl (execLdAll rfl rfl H.out.1 Tryz.underlying35 rfl (size16 _)) ?_))
        | (go_at_call 30; refine C.mono ?_; rintro e w1 ⟨rfl, hb1⟩; have B1 : Hid (_) := hb1; clear hb1)
        | (refine atStore 58 (.tmp 10) (.tmp 19) rfl ?_; go_must (refine wpList_exS rfl (execStAll (cells := bA 80 D) rfl rfl rfl (heapNew w1 _) (by rw [bA_size, bA_size]) (size80 _) (bA_one _ _)) ?_))
        | (go_at_call 31; refine (PS _).mono ?_; rintro e w2 ⟨rfl, hw2⟩; subst hw2))
      have b2 := H.out.2.1.trans (B1.out.mono H.out.2.1.size)
      refine bodyPost_ret (results_tmp2 rfl _ _ _) rfl ⟨_, rfl, World.ownsRow_nil _ _ _ _, b2.trans ((below4 (belNew w1 _) (Nat.le_refl _) _).mono b2.size)⟩
    · obtain ⟨g1, g2, g3, g4⟩ := sz_pos (left := left) (by rw [hS]; exact h0)
      have g5 := sz_le left
      rw [hS] at g3 g4 g5
      have i0 : ¬ (S : Int) = 0 := by omega
      have i9 : ((S : Int) == 0) = false := by simp; omega
      have i6 : (S : Int) ≤ 320 := by omega
      by_cases hlong : S - 34 < n
      · have E : wrE 32 left n = 1 := by unfold wrE; rw [if_neg (by rw [hS]; simp; exact h0), if_pos (by rw [hS]; exact hlong)]
        have E2 : wrN 32 left n = 0 := by unfold wrN; rw [E]; rfl
        rw [E, E2]
        have i1 : (n : Int) > (S : Int) - 34 := by omega
        clear E E2 g1 g2 g3 g4 g5 h0 hlong hS
        go_enter Tryz.func21, Tryz.ntmps21
        go_wp2_with (first
          | (refine atLoad 35 (.tmp 5) rfl ?_; go_must (refine wpList_ex rfl (execLdAll rfl rfl H.out.1 Tryz.underlying35 rfl (size16 _)) ?_))
          | (go_at_call 30; refine C.mono ?_; rintro e w1 ⟨rfl, hb1⟩; have B1 : Hid (_) := hb1; clear hb1)
          | (refine atStore 58 (.tmp 10) (.tmp 19) rfl ?_; go_must (refine wpList_exS rfl (execStAll (cells := bA 80 D) rfl rfl rfl (heapNew w1 _) (by rw [bA_size, bA_size]) (size80 _) (bA_one _ _)) ?_))
          | (go_at_call 31; refine (PS _).mono ?_; rintro e w2 ⟨rfl, hw2⟩; subst hw2)
          | (go_at_call 32; refine (PR _).mono ?_; rintro e w3 ⟨rfl, hw3⟩; subst hw3))
        have b2 := H.out.2.1.trans (B1.out.mono H.out.2.1.size)
        refine bodyPost_ret (results_tmp2 rfl _ _ _) rfl ⟨_, rfl, World.ownsRow_nil _ _ _ _, b2.trans ((below4 (belNew w1 _) (Nat.le_refl _) _).mono b2.size)⟩
      · have E : wrE 32 left n = 0 := by unfold wrE; rw [if_neg (by rw [hS]; simp; exact h0), if_neg (by rw [hS]; exact hlong)]
        have E2 : wrN 32 left n = S := by unfold wrN; rw [if_pos E, hS]
        rw [E, E2]
        obtain ⟨L, hL⟩ : ∃ L : Nat, left = L := ⟨left.toNat, by omega⟩
        subst hL
        have i1 : ¬ (n : Int) > (S : Int) - 34 := by omega
        obtain ⟨N, hN⟩ : ∃ N, S = 32 + N := ⟨S - 32, by omega⟩
        subst hN
        obtain ⟨pb, hpb⟩ : ∃ pb, pbF n inner = pb := ⟨_, rfl⟩
        obtain ⟨bx, hbx⟩ : ∃ bx, bxF D pb = bx := ⟨_, rfl⟩
        obtain ⟨tg, htg⟩ : ∃ tg, tgF D L nonce bx N = tg := ⟨_, rfl⟩
        obtain ⟨on, hon⟩ : ∃ on, onB nonce tg bx = on := ⟨_, rfl⟩
        have hw : wrF key nonce (L : Int).toNat n inner = on := by
          unfold wrF
          rw [hD, hpb, hbx, show ((L : Int).toNat : Int) = (L : Int) from by simp, hS, show 32 + N - 32 = N by omega, show (L : Int).toNat = L from by simp, htg, hon]
        rw [hw]
        have PBX := fun W (hW : Below V.heap.size V W) => plainBox_any (L : Int) n inner (.slice ao n cap) W (by rw [hS]; omega) (by rw [hS]; omega) (HV.out.2.2.on hW)
        rw [hS, show 32 + N - 32 = N by omega, hpb] at PBX
        have pbl : ∀ j, pb j < 256 := by rw [← hpb]; exact pbF_all (by omega) HV.out.2.2.bytes
        have bxl : ∀ j, bx j < 256 := by rw [← hbx]; exact bxF_lt DL.out pbl
        have PP : Hid ((∀ W, Below V.heap.size V W → Calls Tryz.prog 34 #[.int .i64 (L : Int), .slice ao n cap] W fun e w' => ∃ r, e = .returned r ∧ w'.ownsRow W.heap.size 5 1 r N (bytesL N pb) ∧ Below W.heap.size W w') ∧ (∀ j, pb j < 256) ∧ (∀ j, bx j < 256) ∧ (∀ j, tg j < 256) ∧ bxF D pb = bx ∧ tgF D L nonce bx N = tg ∧ 50 ≤ N ∧ N ≤ 288 ∧ L ≤ 8) := ⟨PBX, pbl, bxl, by rw [← htg]; exact tgF_lt _ _ _ _ _, hbx, htg, by omega, by omega, by omega⟩
        have o1 : ∀ j, j < 16 → nonce j = on j := fun j hj => by rw [← hon]; unfold onB; rw [if_pos hj]
        have o2 : ∀ j, j < 16 → tg j = on (16 + j) := fun j hj => by rw [← hon]; unfold onB; rw [if_neg (by omega), if_pos (by omega)]; congr 1; omega
        have o3 : ∀ j, bx j = on (32 + j) := fun j => by rw [← hon]; unfold onB; rw [if_neg (by omega), if_neg (by omega)]; congr 1; omega
        have OO : Hid ((∀ j, j < 16 → nonce j = on (0 + j)) ∧ (∀ j, j < 16 → tg j = on (16 + j)) ∧ ∀ j, bx j = on (32 + j)) := ⟨fun j hj => by rw [Nat.zero_add]; exact o1 j hj, o2, o3⟩
        clear E E2 g1 g2 g3 g4 g5 h0 hlong hS hpb hbx htg hon hw PBX pbl bxl o1 o2 o3
        have z16 := zero16
        have s16 := sl16
        go_enter Tryz.func21, Tryz.ntmps21
        go_wp2_with (first
          | (refine atLoad 35 (.tmp 5) rfl ?_; go_must (refine wpList_ex rfl (execLdAll rfl rfl H.out.1 Tryz.underlying35 rfl (size16 _)) ?_))
          | (go_at_call 30; refine C.mono ?_; rintro e w1 ⟨rfl, hb1⟩; have B1 : Hid (_) := hb1; clear hb1)
          | (refine atStore 58 (.tmp 10) (.tmp 19) rfl ?_; go_must (refine wpList_exS rfl (execStAll (cells := bA 80 D) rfl rfl rfl (heapNew w1 _) (by rw [bA_size, bA_size]) (size80 _) (bA_one _ _)) ?_; obtain ⟨W2, hW2⟩ : ∃ W2, (w1.alloc (.cells (bA 80 fun _ => 0) 58)).setRow w1.heap.size (bA 80 D) = W2 := ⟨_, rfl⟩; have k2 : W2.heap[w1.heap.size]? = some (.cells (bA 80 D) 58) := (by rw [← hW2]; exact setRow_heap _ _ _ _ _ _ (heapNew w1 _)); have b2 : Below w1.heap.size w1 W2 := (by rw [← hW2]; exact below4 (belNew w1 _) (Nat.le_refl _) _); have a2 : W2.heap[V.heap.size]? = some (.cells (bA 16 nonce) 35) := (by have := B1.out.size; have := H.out.2.2; rw [b2.block _ (by omega), B1.out.block _ (by omega)]; exact H.out.1); have H2 : Hid (W2.heap[w1.heap.size]? = some (.cells (bA 80 D) 58) ∧ W2.heap[V.heap.size]? = some (.cells (bA 16 nonce) 35) ∧ Below V.heap.size V W2) := ⟨k2, a2, (H.out.2.1.trans (B1.out.mono H.out.2.1.size)).trans (b2.mono (by have := H.out.2.1.size; have := B1.out.size; omega))⟩; rw [hW2]; clear k2 b2 a2 hW2))
          | (go_at_call 31; refine (PS _).mono ?_; rintro e w2 ⟨rfl, hw2⟩; subst hw2)
          | (go_at_call 32; refine (PR _).mono ?_; rintro e w3 ⟨rfl, hw3⟩; subst hw3))
        refine wp_region_detX 54 [(0, 32), (1, 33), (2, 34), (3, 35), (4, 36), (5, 12)] (wpT D pb (L : Int) (.slice ao n cap) N bx w3) (fun _ => undef) (by kernel_rfl) (by kernel_rfl) rfl (by kernel_rfl) (by decide) (by decide) ?_ ?_ ?_
        · exact ⟨fun q => (by cases q), fun q => (by cases q), fun q => (by cases q), fun q => (by cases q), fun q => (by cases q), fun q => (by cases q), (Below.refl _ _).drew⟩
        · intro j hj l x a W hl hf hdep hl2 hcl _ hT
          obtain ⟨t0, t1, t2, t3, t4, t5, tb⟩ := hT
          have n4 : l 3 = false → l 4 = false := fun q => by
            cases h : l 4 with
            | false => rfl
            | true =>
              have := hcl 4 _ rfl h 3 rfl
              rw [q] at this
              cases this
          have n5 : l 4 = false → l 5 = false := fun q => by
            cases h : l 5 with
            | false => rfl
            | true =>
              have := hcl 5 _ rfl h 4 rfl
              rw [q] at this
              cases this
          match j, hj with
          | 0, _ => exact stepV rfl rfl (execLdAll rfl (hf 10 (by decide)) (by rw [tb.block _ (Array.getElem?_eq_some_iff.1 H2.out.1).1]; exact H2.out.1) Tryz.underlying58 rfl (size80 _)) ⟨_, ⟨_, rfl, rfl⟩, fun _ => rfl, t1, t2, t3, t4, t5, tb⟩
          | 1, _ => exact stepV rfl rfl (execMvB rfl (hf 2 (by decide))) ⟨_, ⟨_, rfl, rfl⟩, t0, fun _ => rfl, t2, t3, t4, t5, tb⟩
          | 2, _ => exact stepV rfl rfl (execMvB rfl (hf 3 (by decide))) ⟨_, ⟨_, rfl, rfl⟩, t0, t1, fun _ => rfl, t3, t4, t5, tb⟩
          | 3, _ =>
            refine stepC rfl rfl (execCall2 Tryz.func34 (by kernel_rfl) (by kernel_rfl) rfl ((hdep _ rfl 1 rfl _ rfl _ rfl).trans (t1 (hl2 _ rfl 1 rfl))) ((hdep _ rfl 2 rfl _ rfl _ rfl).trans (t2 (hl2 _ rfl 2 rfl)))) (PP.out.1 W (H2.out.2.2.trans (tb.mono H2.out.2.2.size))) fun e w' h => ?_
            obtain ⟨r, e1, own, bw⟩ := h
            refine ⟨_, e1, _, ⟨_, rfl, rfl⟩, t0, t1, t2, fun _ => own_base own tb.size, fun q => ?_, fun q => ?_, tb.trans (bw.mono tb.size)⟩
            · have q' : l 4 = true := q
              rw [n4 hl] at q'; cases q'
            · have q' : l 5 = true := q
              rw [n5 (n4 hl)] at q'; cases q'
          | 4, _ =>
            have own := t3 (hl2 _ rfl 3 rfl)
            refine stepC rfl rfl (execCall2 Tryz.func33 (by kernel_rfl) (by kernel_rfl) rfl ((hdep _ rfl 0 rfl _ rfl _ rfl).trans (t0 (hl2 _ rfl 0 rfl))) (hdep _ rfl 3 rfl _ rfl _ rfl)) (masked_any D pb N _ W DL.out (own_slice own (fun j _ => PP.out.2.1 j)) (by have := PP.out; omega)) fun e w' h => ?_
            obtain ⟨r, e1, own2, bw⟩ := h
            rw [PP.out.2.2.2.2.1] at own2
            refine ⟨_, e1, _, ⟨_, rfl, rfl⟩, t0, t1, t2, fun _ => ownsRow_below own bw, fun _ => own_base own2 tb.size, fun q => ?_, tb.trans (bw.mono tb.size)⟩
            have q' : l 5 = true := q
            rw [n5 hl] at q'; cases q'
          | 5, _ => exact stepV rfl rfl (execAsgB rfl (hdep _ rfl 4 rfl _ rfl _ rfl)) ⟨_, ⟨_, rfl, rfl⟩, t0, t1, t2, t3, t4, fun _ => rfl, tb⟩
          | n + 6, h => exact absurd h (by simp)
        · intro l x W hall hT
          obtain ⟨t0, t1, t2, t3, t4, t5, tb⟩ := hT
          have e0 := t0 (hall 0 (by simp))
          have e1 := t1 (hall 1 (by simp))
          have e2 := t2 (hall 2 (by simp))
          have e5 := t5 (hall 5 (by simp))
          have own := t4 (hall 4 (by simp))
          obtain ⟨bv, hbv⟩ : ∃ bv, x 4 = bv := ⟨_, rfl⟩
          rw [hbv] at own e5
          obtain ⟨ba, bc, rfl⟩ := own_shapeJ own
          have HB : Hid (SliceN W (.slice ba N bc) N bx ∧ W.heap[w1.heap.size]? = some (.cells (bA 80 D) 58) ∧ W.heap[V.heap.size]? = some (.cells (bA 16 nonce) 35) ∧ Below V.heap.size V W ∧ V.heap.size < W.heap.size) := ⟨own_slice own (fun j _ => PP.out.2.2.1 j), by rw [tb.block _ (Array.getElem?_eq_some_iff.1 H2.out.1).1]; exact H2.out.1, by rw [tb.block _ (Array.getElem?_eq_some_iff.1 H2.out.2.1).1]; exact H2.out.2.1, H2.out.2.2.trans (tb.mono H2.out.2.2.size), by have := (Array.getElem?_eq_some_iff.1 H2.out.2.1).1; have := tb.size; omega⟩
          have TG := tagOf_any D nonce bx L N (.slice ba N bc) W (HV.out.1.below HB.out.2.2.2.1 HV.out.1.sz) DL.out HV.out.2.1 (by have := PP.out; omega) (by have := PP.out; omega) (by have := PP.out; omega) HB.out.1
          rw [PP.out.2.2.2.2.2.1] at TG
          clear hall t0 t1 t2 t3 t4 t5 own tb
          generalize x 3 = x3
          simp only [putP, e0, e1, e2, e5, hbv, Act.put, List.setIfInBounds_toArray, List.set_cons_succ, List.set_cons_zero]
          clear e0 e1 e2 e5 hbv
          go_wp2_with (first
            | (refine atLoad 58 (.tmp 10) rfl ?_; go_must (refine wpList_ex rfl (execLdAll rfl rfl HB.out.2.1 Tryz.underlying58 rfl (size80 _)) ?_))
            | (refine atLoad 35 (.tmp 5) rfl ?_; go_must (refine wpList_ex rfl (execLdAll rfl rfl HB.out.2.2.1 Tryz.underlying35 rfl (size16 _)) ?_))
            | (go_at_call 35; refine TG.mono ?_; rintro e w5 ⟨rfl, hb5⟩; have B5 : Hid (_) := hb5; clear hb5)
            | (refine atStore 35 (.tmp 13) (.tmp 41) rfl ?_; go_must (refine wpList_exS rfl (execStAll (cells := bA 16 tg) rfl rfl rfl (heapNew w5 _) (by rw [bA_size, bA_size]) (size16 _) (bA_one _ _)) ?_; obtain ⟨W6, hW6⟩ : ∃ W6, (w5.alloc (.cells (bA 16 fun _ => 0) 35)).setRow w5.heap.size (bA 16 tg) = W6 := ⟨_, rfl⟩; have t6 : W6.heap[w5.heap.size]? = some (.cells (bA 16 tg) 35) := (by rw [← hW6]; exact setRow_heap _ _ _ _ _ _ (heapNew w5 _)); have b6 : Below w5.heap.size w5 W6 := (by rw [← hW6]; exact below4 (belNew w5 _) (Nat.le_refl _) _); have b56 : Below W.heap.size W W6 := B5.out.trans (b6.mono B5.out.size); have H6 : Hid (SliceN W6 (.slice (some ⟨w5.heap.size, 0, none⟩) 16 16) 16 tg ∧ SliceN W6 (.slice (some ⟨V.heap.size, 0, none⟩) 16 16) 16 nonce ∧ SliceN W6 (.slice ba N bc) N bx ∧ Below V.heap.size V W6 ∧ ba ≠ none) := ⟨row_slice t6 (fun j _ => PP.out.2.2.2.1 j) (by omega), row_slice (by rw [b56.block _ HB.out.2.2.2.2]; exact HB.out.2.2.1) (fun j hj => HV.out.2.1 j hj) (by omega), HB.out.1.on b56, HB.out.2.2.2.1.trans (b56.mono HB.out.2.2.2.1.size), (by intro q; obtain ⟨a', c', e', _, _, e3⟩ := HB.out.1.shape; obtain ⟨b', o', e'', _⟩ := e3 (by have := PP.out; omega); injection e' with e1'; rw [q, e''] at e1'; cases e1')⟩; rw [hW6]; clear t6 b6 b56 hW6))
            | (go_at_call 31; refine (PS _).mono ?_; rintro e w7 ⟨rfl, hw7⟩; subst hw7)
            | (refine wpList_ex rfl (execMk (l := 0) (n := 32 + N) rfl rfl rfl (by omega) (by have := PP.out; omega)) ?_; have O0 : Hid (_) := own_made w7 (B := w7.heap.size) (n := 32 + N) (Nat.le_refl _) (by have := PP.out; omega); have F0 : Hid (Below w7.heap.size w7 (w7.alloc (.cells (bA (32 + N) fun _ => 0) 5))) := belNew w7 _)
            | (refine atAppB (.tmp 45) (.tmp 46) rfl ?_; go_must (refine By8.wpList_appS (B := w7.heap.size) (n := 0) (m := 16) (p := on) rfl (.tmp 45) (.tmp 46) rfl rfl rfl O0.out (sliceN_cg (H6.out.2.1.on F0.out) OO.out.1) (fun l c e => by cases e) (by omega) F0.out.size ?_; intro u1 X1 ow1 gr1; have O1 : Hid (_) := ow1; have F1 : Hid (Below w7.heap.size w7 X1) := below_grown F0.out F0.out.size O0.out gr1; clear ow1 gr1))
            | (refine atAppB (.tmp 48) (.tmp 49) rfl ?_; go_must (refine By8.wpList_appS (B := w7.heap.size) (n := 0 + 16) (m := 16) (p := on) rfl (.tmp 48) (.tmp 49) rfl rfl rfl O1.out (sliceN_cg (H6.out.1.on F1.out) OO.out.2.1) (fun l c e => by cases e) (by omega) F1.out.size ?_; intro u2 X2 ow2 gr2; have O2 : Hid (_) := ow2; have F2 : Hid (Below w7.heap.size w7 X2) := below_grown F1.out F1.out.size O1.out gr2; clear ow2 gr2))
            | (refine atAppB (.tmp 51) (.tmp 52) rfl ?_; go_must (refine By8.wpList_appS (B := w7.heap.size) (n := 0 + 16 + 16) (m := N) (p := on) rfl (.tmp 51) (.tmp 52) rfl rfl rfl O2.out (sliceN_cg (H6.out.2.2.1.on F2.out) fun j _ => OO.out.2.2 j) (fun l c e => by injection e with e1; exact absurd e1 H6.out.2.2.2.2) (by have := PP.out; omega) F2.out.size ?_; intro u3 X3 ow3 gr3; have O3 : Hid (_) := ow3; have F3 : Hid (Below w7.heap.size w7 X3) := below_grown F2.out F2.out.size O2.out gr3; clear ow3 gr3)))
          refine bodyPost_ret (results_tmp2 rfl _ _ _) rfl ⟨_, rfl, ?_, H6.out.2.2.2.1.trans (F3.out.mono H6.out.2.2.2.1.size)⟩
          have := own_base O3.out H6.out.2.2.2.1.size
          rw [show 0 + 16 + 16 + N = 32 + N by omega] at this
          exact this
  · exact wrap_key key nonce inner lk n left vk vi V hk hl
end Go.Proofs.YteekoabgbjbabaaGreatDoor.Oni
