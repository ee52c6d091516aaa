import Derived.Test.YtaiiomoajjhliaaDoorX5g
namespace Go.Proofs.YtaiiomoajjhliaaDoor.Oni
open Go.RowKit Gf8 Aes By8 Cel
/- plainBox, Derive. -/

theorem pb_row (N n : Nat) (inner : Nat → Nat) (hn : 2 + n ≤ N) : bA N (spl (updN (updN (fun _ => 0) 0 (n / 256)) 1 (n % 256)) 2 n inner) = bA N (pbF n inner) := by
  have _ := hn
  refine bA_congr fun j _ => ?_
  unfold spl pbF cellF updN hd2
  by_cases h1 : j < 2
  · rw [if_neg (by omega), if_pos h1]
    by_cases h2 : j = 1
    · rw [if_pos h2, if_neg (by omega)]
    · rw [if_neg h2, if_pos (by omega), if_pos (by omega)]
  · rw [if_neg h1]
    by_cases h2 : j < 2 + n
    · rw [if_pos (by omega), if_pos h2]
    · rw [if_neg (by omega), if_neg h2, if_neg (by omega), if_neg (by omega)]
set_option maxRecDepth 20000 in
set_option maxHeartbeats 1000000 in
theorem plainBox_any (left : Int) (n : Nat) (inner : Nat → Nat) (v : Value) (V : World) (hs : sz left ≠ 0) (hn : n ≤ sz left - 34) (hv : SliceN V v n inner) :
    Calls Tryd.prog 44 #[.int .i64 left, v] V fun e w' => ∃ r, e = .returned r ∧ w'.ownsRow V.heap.size 5 1 r (sz left - 32) (bytesL (sz left - 32) (pbF n inner)) ∧ Below V.heap.size V w' := by
  obtain ⟨_, _, _, h82⟩ := sz_pos hs
  have h320 := sz_le left
  obtain ⟨S, hS⟩ : ∃ S, sz left = S := ⟨_, rfl⟩
  rw [hS] at hn h82 h320 ⊢
  obtain ⟨N, hN⟩ : ∃ N, S = N + 32 := ⟨S - 32, by omega⟩
  subst hN
  rw [show N + 32 - 32 = N by omega]
  have hN1 : 50 ≤ N ∧ N ≤ 288 ∧ n + 2 ≤ N := by omega
  obtain ⟨ao, cap, rfl, _⟩ := id hv.shape
  have PS := psize_any left V
  rw [hS] at PS
  have HV : Hid (SliceN V (.slice ao n cap) n inner ∧ 50 ≤ N ∧ N ≤ 288 ∧ n + 2 ≤ N) := ⟨hv, hN1⟩
  have r1 := heapNew V (.cells (bA N fun _ => 0) 5)
  obtain ⟨W1, hW1⟩ : ∃ W1, V.alloc (.cells (bA N fun _ => 0) 5) = W1 := ⟨_, rfl⟩
  have b1 := belNew V (.cells (bA N fun _ => 0) 5)
  rw [hW1] at r1 b1
  obtain ⟨W2, hW2⟩ : ∃ W2, W1.setRow V.heap.size (bA N (updN (fun _ => 0) 0 (n / 256))) = W2 := ⟨_, rfl⟩
  have r2 := setRow_heap _ _ _ (bA N (updN (fun _ => 0) 0 (n / 256))) _ _ r1
  have b2 := below4 b1 (Nat.le_refl _) (bA N (updN (fun _ => 0) 0 (n / 256)))
  rw [hW2] at r2 b2
  obtain ⟨W3, hW3⟩ : ∃ W3, W2.setRow V.heap.size (bA N (updN (updN (fun _ => 0) 0 (n / 256)) 1 (n % 256))) = W3 := ⟨_, rfl⟩
  have r3 := setRow_heap _ _ _ (bA N (updN (updN (fun _ => 0) 0 (n / 256)) 1 (n % 256))) _ _ r2
  have b3 := below4 b2 (Nat.le_refl _) (bA N (updN (updN (fun _ => 0) 0 (n / 256)) 1 (n % 256)))
  rw [hW3] at r3 b3
  have H3 : Hid (Below V.heap.size V W3 ∧ W3.heap[V.heap.size]? = some (.cells (bA N (updN (updN (fun _ => 0) 0 (n / 256)) 1 (n % 256))) 5)) := ⟨b3, r3⟩
  have H1 : Hid (W1.heap[V.heap.size]? = some (.cells (bA N fun _ => 0) 5) ∧ W2.heap[V.heap.size]? = some (.cells (bA N (updN (fun _ => 0) 0 (n / 256))) 5)) := ⟨r1, r2⟩
  have sl : sliced (some ⟨V.heap.size, 0, none⟩) 2 N N 1 = .slice (some ⟨V.heap.size, 2, none⟩) (N - 2) (N - 2) := by
    unfold sliced
    rw [if_neg (by omega)]
    simp [Addr.add_mid]
  have sg : ∀ W, (Instr.sliceAt 24 (.slice (some ⟨V.heap.size, 0, none⟩) N N) (some (.int .i64 2)) none none).run Tryd.prog W = .ok (.slice (some ⟨V.heap.size, 2, none⟩) (N - 2) (N - 2)) W := fun W => by
    have := By8.slice_l (some ⟨V.heap.size, 0, none⟩) N N 2 (by omega) W
    rw [sl] at this
    exact this
  have i0 : (0 : Int) < (N : Int) := by omega
  have i1 : (1 : Int) < (N : Int) := by omega
  have i2 : (n : Int) ≤ 300 := by omega
  have i3 : (N : Int) ≤ 300 := by omega
  clear hs hn h82 h320 hS hN1 hv r1 r2 r3 b1 b2 b3 sl
  go_enter Tryd.func44, Tryd.ntmps44
  go_wp2_with (first
    | (go_at_call 15; refine PS.mono ?_; rintro e w1 ⟨rfl, hw1⟩; subst hw1)
    | (refine wpList_ex rfl (execSubI (p := N + 32) (q := 32) rfl rfl rfl (by omega) (by omega)) ?_; rw [show N + 32 - 32 = N by omega])
    | (refine wpList_ex rfl (execMk (l := N) (n := N) rfl rfl rfl (Nat.le_refl _) (by have := HV.out; omega)) ?_)
    | (refine wpList_ex rfl (execShr8 (n := n) rfl rfl) ?_)
    | (refine wpList_ex rfl (execU8s (x := .tmp 14) (n := n / 256) rfl rfl (by have := HV.out; omega)) ?_)
    | (refine wpList_ex rfl (execU8 (x := .tmp 17) (n := n) rfl rfl) ?_)
    | (refine atStore 5 (.tmp 19) (.tmp 15) rfl ?_; go_must (refine wpList_exS rfl (execStRow (z := n / 256) rfl rfl rfl H1.out.1 (by have := HV.out; omega)) ?_))
    | (refine atStore 5 (.tmp 20) (.tmp 18) rfl ?_; go_must (refine wpList_exS rfl (execStRow (z := n % 256) rfl rfl rfl H1.out.2 (by have := HV.out; omega)) ?_))
    | (refine wpList_ex rfl (execCopyZ (x := .tmp 22) (y := .tmp 23) rfl rfl rfl (HV.out.1.on H3.out.1) H3.out.2 (by have := HV.out; omega) (by have := HV.out; omega)) ?_))
  go_ret
  refine ⟨_, rfl, own_full (n := N) (by rw [← pb_row N n inner (by have := HV.out; omega)]; exact setRow_heap _ _ _ _ _ _ H3.out.2) (Nat.le_refl _) (by have := HV.out; omega), below4 H3.out.1 (Nat.le_refl _) _⟩
theorem sl_lk (g off len cap k : Nat) (hk : k ≤ len) (hc : k < cap) (W : World) : (Instr.sliceAt 24 (.slice (some ⟨g, off, none⟩) len cap) (some (.int .i64 (k : Int))) none none).run Tryd.prog W = .ok (.slice (some ⟨g, off + k, none⟩) (len - k) (cap - k)) W := by
  have h1 := By8.slice_l (some ⟨g, off, none⟩) len cap k hk W
  have e : sliced (some ⟨g, off, none⟩) k len cap 1 = .slice (some ⟨g, off + k, none⟩) (len - k) (cap - k) := by
    unfold sliced
    rw [if_neg (by omega)]
    simp [Addr.add_mid]
  rw [e] at h1
  exact h1
theorem partN {w : World} {g off len cap : Nat} {p : Nat → Nat} (h : SliceN w (.slice (some ⟨g, off, none⟩) len cap) len p) {k : Nat} (hk : k ≤ len) : SliceN w (.slice (some ⟨g, off + k, none⟩) (len - k) (cap - k)) (len - k) fun j => p (k + j) := by
  obtain ⟨⟨a', cap', e, e1, e2, e3⟩, hp⟩ := h
  obtain ⟨rfl, _, rfl⟩ : some (⟨g, off, none⟩ : Addr) = a' ∧ len = len ∧ cap = cap' := by
    injection e with x y z
    exact ⟨x, rfl, z⟩
  refine ⟨⟨_, _, rfl, by omega, by omega, fun h0 => ?_⟩, fun j hj => hp _ (by omega)⟩
  obtain ⟨b, of, e', hb, hc⟩ := e3 (by omega)
  injection e' with e'
  injection e' with e4 e5
  subst e4 e5
  exact ⟨_, _, rfl, hb, fun j hj => by rw [Nat.add_assoc]; exact hc _ (by omega)⟩
theorem dk_row (D : Nat → Nat) : bA 80 (spl (spl (spl (fun _ => 0) 0 16 D) 16 32 (fun j => D (16 + j))) 48 32 fun j => D (48 + j)) = bA 80 D := by
  refine bA_congr fun j hj => ?_
  unfold spl
  by_cases h1 : j < 16
  · rw [if_neg (by omega), if_neg (by omega), if_pos (by omega), Nat.sub_zero]
  · by_cases h2 : j < 48
    · rw [if_neg (by omega), if_pos (by omega)]; show D (16 + (j - 16)) = D j; congr 1; omega
    · rw [if_pos (by omega)]; show D (48 + (j - 48)) = D j; congr 1; omega
theorem ch_slice (W : World) : SliceN (W.alloc (.cells #[.int .u8 99, .int .u8 104, .int .u8 117, .int .u8 114, .int .u8 110] 5 (5, 6))) (.slice (some ⟨W.heap.size, 0, none⟩) 5 5) 5 chF :=
  lit_slice (heapNew W _) (fun j hj => by
    match j, hj with
    | 0, _ => rfl
    | 1, _ => rfl
    | 2, _ => rfl
    | 3, _ => rfl
    | 4, _ => rfl) chF_lt (by omega)
set_option maxRecDepth 20000 in
theorem pder_bad (key nonce : Nat → Nat) (lk : Nat) (v : Value) (V : World) (hv : SliceN V v lk key) (hl : lk ≠ 32) :
    Calls Tryd.prog 36 #[v, .agg (bA 16 nonce)] V fun e w' => e = .returned (.tuple #[.agg (bA 80 fun _ => 0), .int .i64 2]) ∧ Below V.heap.size V w' := by
  obtain ⟨V2, hV2⟩ : ∃ V2, (V.alloc (.cells (bA 16 nonce) 33)).alloc (.cells (bA 80 fun _ => 0) 65) = V2 := ⟨_, rfl⟩
  have hh := heap2c V (.cells (bA 16 nonce) 33) (.cells (bA 80 fun _ => 0) 65)
  have bl := below2c V (.cells (bA 16 nonce) 33) (.cells (bA 80 fun _ => 0) 65)
  rw [hV2] at hh bl
  obtain ⟨ao, cap, rfl, _⟩ := hv.shape
  have i1 : ((lk : Int) != 32) = true := by simp; omega
  have zk := zeroK
  have HH : Hid (V2.heap[V.heap.size + 1]? = some (.cells (bA 80 fun _ => 0) 65) ∧ Below V.heap.size V V2) := ⟨hh.2, bl⟩
  clear hv hl hh bl
  go_enter Tryd.func36, Tryd.ntmps36
  go_wp2_with (first
    | (refine wpList_ex rfl (execBK rfl) ?_)
    | (refine atStore 65 (.tmp 4) (.tmp 12) rfl ?_; go_must (refine wpList_exS rfl (execStAll (cells := bA 80 fun _ => 0) rfl rfl rfl HH.out.1 (by rw [bA_size]) (size80 _) (bA_one _ _)) ?_)))
  refine bodyPost_ret (results_cell_tmp1 Tryd.results36 _ _ (V.heap.size + 1) 65 _ (0, 0) _ rfl (setRow_heap _ _ _ _ _ _ HH.out.1) Tryd.underlying65 rfl (size80 _)) rfl ⟨rfl, below4 HH.out.2 (by omega) _⟩
set_option maxRecDepth 20000 in
set_option maxHeartbeats 1000000 in
theorem pder_ok (key nonce : Nat → Nat) (v : Value) (V : World) (hG : Glob V) (hn : By nonce) (hv : SliceN V v 32 key) :
    Calls Tryd.prog 36 #[v, .agg (bA 16 nonce)] V fun e w' => e = .returned (.tuple #[.agg (bA 80 (dk key nonce)), .int .i64 0]) ∧ Below V.heap.size V w' := by
  obtain ⟨V2, hV2⟩ : ∃ V2, (V.alloc (.cells (bA 16 nonce) 33)).alloc (.cells (bA 80 fun _ => 0) 65) = V2 := ⟨_, rfl⟩
  have hh := heap2c V (.cells (bA 16 nonce) 33) (.cells (bA 80 fun _ => 0) 65)
  have bl := below2c V (.cells (bA 16 nonce) 33) (.cells (bA 80 fun _ => 0) 65)
  rw [hV2] at hh bl
  have s2 : V2.heap.size = V.heap.size + 2 := by rw [← hV2]; simp
  obtain ⟨ao, cap, rfl, _⟩ := id hv.shape
  obtain ⟨D, hD⟩ : ∃ D, dk key nonce = D := ⟨_, rfl⟩
  have DL : Hid (∀ j, D j < 256) := by rw [← hD]; exact dk_lt key nonce
  obtain ⟨V3, hV3⟩ : ∃ V3, V2.alloc (.cells #[.int .u8 99, .int .u8 104, .int .u8 117, .int .u8 114, .int .u8 110] 5 (5, 6)) = V3 := ⟨_, rfl⟩
  have cs := ch_slice V2
  have b3 := belNew V2 (.cells #[.int .u8 99, .int .u8 104, .int .u8 117, .int .u8 114, .int .u8 110] 5 (5, 6))
  rw [hV3] at cs b3
  have b03 := bl.trans (b3.mono bl.size)
  have C := pderive_any (.slice ao 32 cap) (.slice (some ⟨V.heap.size, 0, none⟩) 16 16) (.slice (some ⟨V2.heap.size, 0, none⟩) 5 5) key nonce V3 (hG.below b03 hG.sz) (hv.on b03) (row_slice (by rw [b3.block _ (by omega)]; exact hh.1) (fun j hj => hn j hj) (by omega)) cs
  rw [hD] at C
  have HH : Hid (V3.heap[V.heap.size + 1]? = some (.cells (bA 80 fun _ => 0) 65) ∧ Below V.heap.size V V3 ∧ V.heap.size + 2 ≤ V3.heap.size) := ⟨by rw [b3.block _ (by omega)]; exact hh.2, b03, by have := b3.size; omega⟩
  have kc := fun (w : World) (C : Array Value) (n c : Nat) => Lib.run_convert_bytes_const (P := Tryd.prog) w 24 5 C n c Tryd.underlying24 Tryd.underlying5
  have zk := zeroK
  have s16 := slK
  have s32 := slK2
  rw [hD]
  clear hG hn hv hh bl s2 cs b3 b03
  go_enter Tryd.func36, Tryd.ntmps36
  go_wp2_with (first
    | (go_at_call 9
       refine C.mono ?_
       rintro e w1 ⟨r, rfl, own, hb1⟩
       obtain ⟨g, pc, rfl, hB, hc, _⟩ := own_cells own (by decide)
       have sp := own_slice own (fun j _ => DL.out j)
       have HC : Hid (80 ≤ pc) := hc
       have q1 := sl_lk g 0 80 pc 16 (by omega) (by omega)
       have q2 := sl_lk g 16 64 (pc - 16) 32 (by omega) (by omega)
       have g1 : ∀ W, (Instr.sliceAt 24 (.slice (some ⟨g, 0, none⟩) 80 pc) (some (.int .i64 16)) none none).run Tryd.prog W = .ok (.slice (some ⟨g, 16, none⟩) 64 (pc - 16)) W := q1
       have g2 : ∀ W, (Instr.sliceAt 24 (.slice (some ⟨g, 16, none⟩) 64 (pc - 16)) (some (.int .i64 32)) none none).run Tryd.prog W = .ok (.slice (some ⟨g, 48, none⟩) 32 (pc - 16 - 32)) W := q2
       have p1 := partN sp (k := 16) (by omega)
       have p2 := partN p1 (k := 32) (by omega)
       have p2' : SliceN w1 (.slice (some ⟨g, 48, none⟩) 32 (pc - 16 - 32)) 32 (fun j => D (48 + j)) := sliceN_cg p2 (fun j _ => by show D (16 + (32 + j)) = D (48 + j); congr 1; omega)
       have SP : Hid (SliceN w1 (.slice (some ⟨g, 0, none⟩) 80 pc) 80 D ∧ SliceN w1 (.slice (some ⟨g, 16, none⟩) 64 (pc - 16)) 64 (fun j => D (16 + j)) ∧ SliceN w1 (.slice (some ⟨g, 48, none⟩) 32 (pc - 16 - 32)) 32 (fun j => D (48 + j))) := ⟨sp, (by have := p1; rw [Nat.zero_add] at this; exact this), p2'⟩
       have B1 : Hid (Below V.heap.size V w1 ∧ w1.heap[V.heap.size + 1]? = some (.cells (bA 80 fun _ => 0) 65) ∧ V.heap.size + 2 ≤ w1.heap.size) := ⟨HH.out.2.1.trans (hb1.mono HH.out.2.1.size), by rw [hb1.block _ (by have := HH.out.2.2; omega)]; exact HH.out.1, Nat.le_trans HH.out.2.2 hb1.size⟩
       obtain ⟨X0, hX0⟩ : ∃ X0, w1.alloc (.cells (bA 80 fun _ => 0) 65) = X0 := ⟨_, rfl⟩
       have x0 := heapNew w1 (.cells (bA 80 fun _ => 0) 65)
       have y0 := belNew w1 (.cells (bA 80 fun _ => 0) 65)
       rw [hX0] at x0 y0
       obtain ⟨X1, hX1⟩ : ∃ X1, X0.setRow w1.heap.size (bA 80 (spl (fun _ => 0) 0 16 D)) = X1 := ⟨_, rfl⟩
       have x1 := setRow_heap _ _ _ (bA 80 (spl (fun _ => 0) 0 16 D)) _ _ x0
       have y1 := below4 y0 (Nat.le_refl _) (bA 80 (spl (fun _ => 0) 0 16 D))
       rw [hX1] at x1 y1
       obtain ⟨X2, hX2⟩ : ∃ X2, X1.setRow w1.heap.size (bA 80 (spl (spl (fun _ => 0) 0 16 D) 16 32 fun j => D (16 + j))) = X2 := ⟨_, rfl⟩
       have x2 := setRow_heap _ _ _ (bA 80 (spl (spl (fun _ => 0) 0 16 D) 16 32 fun j => D (16 + j))) _ _ x1
       have y2 := below4 y1 (Nat.le_refl _) (bA 80 (spl (spl (fun _ => 0) 0 16 D) 16 32 fun j => D (16 + j)))
       rw [hX2] at x2 y2
       obtain ⟨X3, hX3⟩ : ∃ X3, X2.setRow w1.heap.size (bA 80 D) = X3 := ⟨_, rfl⟩
       have x3 := setRow_heap _ _ _ (bA 80 D) _ _ x2
       have y3 := below4 y2 (Nat.le_refl _) (bA 80 D)
       rw [hX3] at x3 y3
       have XX : Hid (X0.heap[w1.heap.size]? = some (.cells (bA 80 fun _ => 0) 65) ∧ X1.heap[w1.heap.size]? = some (.cells (bA 80 (spl (fun _ => 0) 0 16 D)) 65) ∧ X2.heap[w1.heap.size]? = some (.cells (bA 80 (spl (spl (fun _ => 0) 0 16 D) 16 32 fun j => D (16 + j))) 65) ∧ X3.heap[w1.heap.size]? = some (.cells (bA 80 D) 65)) := ⟨x0, x1, x2, x3⟩
       have YY : Hid (Below w1.heap.size w1 X0 ∧ Below w1.heap.size w1 X1 ∧ Below w1.heap.size w1 X2 ∧ Below w1.heap.size w1 X3) := ⟨y0, y1, y2, y3⟩
       clear own hb1 hB hc sp q1 q2 p1 p2 p2' x0 x1 x2 x3 y0 y1 y2 y3)
    | (refine wpList_ex (v := .int .i64 16) rfl (execCopyN (x := .tmp 27) (y := .tmp 28) (n := 16) rfl rfl rfl (SP.out.1.on YY.out.1) XX.out.1 (by omega) (by omega) (by omega)) ?_)
    | (refine wpList_ex (v := .int .i64 32) rfl (execCopyN (x := .tmp 33) (y := .tmp 34) (n := 32) rfl rfl rfl (SP.out.2.1.on YY.out.2.1) XX.out.2.1 (by omega) (by omega) (by omega)) ?_)
    | (refine wpList_ex (v := .int .i64 32) rfl (execCopyN (x := .tmp 38) (y := .tmp 39) (n := 32) rfl rfl rfl (SP.out.2.2.on YY.out.2.2.1) XX.out.2.2.1 (by omega) (by omega) (by omega)) ?_; rw [dk_row, hX3])
    | (refine atLoad 65 (.tmp 8) rfl ?_; go_must (refine wpList_ex rfl (execLdAll rfl rfl XX.out.2.2.2 Tryd.underlying65 rfl (size80 _)) ?_))
    | (refine atStore 65 (.tmp 4) (.tmp 41) rfl ?_; go_must (refine wpList_exS rfl (execStAll (cells := bA 80 D) rfl rfl rfl (by rw [YY.out.2.2.2.block _ (by have := B1.out.2.2; omega)]; exact B1.out.2.1) (by rw [bA_size, bA_size]) (size80 _) (bA_one _ _)) ?_)))
  have b9 := B1.out.1.trans (YY.out.2.2.2.mono B1.out.1.size)
  refine bodyPost_ret (results_cell_tmp1 Tryd.results36 _ _ (V.heap.size + 1) 65 _ (0, 0) _ rfl (setRow_heap _ _ _ _ _ _ (by rw [YY.out.2.2.2.block _ (by have := B1.out.2.2; omega)]; exact B1.out.2.1)) Tryd.underlying65 rfl (size80 _)) rfl ⟨rfl, below4 b9 (by omega) _⟩
end Go.Proofs.YtaiiomoajjhliaaDoor.Oni
