import Derived.Test.YtpclecbhfjalnaaI9c
namespace Go.Proofs.Ytpclecbhfjalnaa.Drw
open Go.RowKit Gf8 Aes By8 Cel Cf Tap
/- DrawKeeps, whole. Written by tools/mkI9d.py. -/

theorem not_ga {a0 x0 : Value} {k : Nat} (h1 : a0.ownBlock = some k → False) (h2 : x0.ownBlock = some k → False) : ¬ KGa a0 x0 k := fun h => h.elim h1 h2
theorem own_cap {W : World} {B n g c : Nat} {t : TypeId} {xs : List Value} (h : W.ownsRow B t 1 (.slice (some ⟨g, 0, none⟩) n c) n xs) : n ≤ c := by
  rcases h.2 with ⟨e, _⟩ | ⟨g', cap', cur, e, _, _, h1, _⟩
  · cases e
  · injection e with _ _ e3
    omega
theorem tk_lt {W : World} {B n : Nat} {v : Value} {q : Nat → Nat} (h : TkA W B v n q) : ∀ k, v.ownBlock = some k → B ≤ k ∧ k < W.heap.size := fun k e => by
  rcases h with ⟨rfl, _⟩ | h
  · cases e
  · exact h.row k e
theorem own_overT {W W' : World} {B n s C m s' : Nat} {t u : TypeId} {v v2 : Value} {xs ys : List Value} (h : W.ownsRow B t s v n xs) (h2 : W.ownsRow C u s' v2 m ys) (gr : W.grownBy W' v2.ownBlock) (ht : t ≠ u) : W'.ownsRow B t s v n xs := by
  refine ⟨h.1, ?_⟩
  rcases h.2 with e | ⟨g1, cap, cur, e, hB, h1, hr⟩
  · exact Or.inl e
  · exact Or.inr ⟨g1, cap, cur, e, hB, heap_overL h2 gr h1 ht, hr⟩
theorem own_overB {W W' : World} {B n s C m s' : Nat} {t u : TypeId} {v v2 : Value} {xs ys : List Value} (h : W.ownsRow B t s v n xs) (hv : ∀ k, v.ownBlock = some k → k < C) (h2 : W.ownsRow C u s' v2 m ys) (gr : W.grownBy W' v2.ownBlock) : W'.ownsRow B t s v n xs :=
  ownW_grown h gr fun k e q => by
    have a1 := hv k e
    have a2 := (h2.lt k q).1
    omega
theorem cat2_fits {n m : Nat} {p q : Nat → Nat} (hp : ∀ j, j < n → p j < 256) (hq : ∀ j, j < m → q j < 256) : ∀ j, j < n + m → cat2 n p q j < 256 := fun j hj => by
  unfold cat2
  by_cases e : j < n
  · rw [if_pos e]; exact hp j e
  · rw [if_neg e]; exact hq _ (by omega)
theorem two_fits8 {y z : Nat} (hy : y < 256) (hz : z < 256) : ∀ j, j < 2 → (fun j => if j = 0 then y else z : Nat → Nat) j < 256 := fun j _ => by
  show (if j = 0 then y else z) < 256
  by_cases e : j = 0
  · rw [if_pos e]; exact hy
  · rw [if_neg e]; exact hz
theorem two_fits {y z : Int} (hy : -9223372036854775808 ≤ y ∧ y < 9223372036854775808) (hz : -9223372036854775808 ≤ z ∧ z < 9223372036854775808) : ∀ j, j < 2 → -9223372036854775808 ≤ (fun j => if j = 0 then y else z : Nat → Int) j ∧ (fun j => if j = 0 then y else z : Nat → Int) j < 9223372036854775808 := fun j _ => by
  show -9223372036854775808 ≤ (if j = 0 then y else z) ∧ (if j = 0 then y else z) < 9223372036854775808
  by_cases e : j = 0
  · rw [if_pos e]; exact hy
  · rw [if_neg e]; exact hz
theorem execBsI2 {o : Oper} {a : Act} {w : World} {y z : Int} (ho : o.op = .buildSlice 23 2 #[(0, .const (.int .i64 y)), (1, .const (.int .i64 z))]) : (execOp a.eval o).run Try.prog w = .ok (.value (.slice (some ⟨w.heap.size, 0, none⟩) 2 2)) (w.alloc (.cells #[.int .i64 y, .int .i64 z] 3)) := by
  unfold execOp
  simp only [ho]
  simp [go_sem]
theorem sliceI2 (X : World) (y z : Int) (hy : -9223372036854775808 ≤ y ∧ y < 9223372036854775808) (hz : -9223372036854775808 ≤ z ∧ z < 9223372036854775808) : SliceI (X.alloc (.cells #[.int .i64 y, .int .i64 z] 3)) (.slice (some ⟨X.heap.size, 0, none⟩) 2 2) 2 (fun j => if j = 0 then y else z) :=
  lit_ints (heapNew X _) (fun j hj => by
    match j, hj with
    | 0, _ => rfl
    | 1, _ => rfl
    | k + 2, h => omega) (two_fits hy hz) (by omega)
theorem sliceN2 (X : World) (y z : Nat) (hy : y < 256) (hz : z < 256) : SliceN (X.alloc (.cells #[.int .u8 ((y : Nat) : Int), .int .u8 ((z : Nat) : Int)] 5)) (.slice (some ⟨X.heap.size, 0, none⟩) 2 2) 2 (fun j => if j = 0 then y else z) :=
  lit_slice (heapNew X _) (fun j hj => by
    match j, hj with
    | 0, _ => rfl
    | 1, _ => rfl
    | k + 2, h => omega) (two_fits8 hy hz) (by omega)
theorem sl_hI (g len cap h : Nat) (hh : h ≤ cap) (W : World) : (Instr.sliceAt 23 (.slice (some ⟨g, 0, none⟩) len cap) none (some (.int .i64 (h : Int))) none).run Try.prog W = .ok (.slice (some ⟨g, 0, none⟩) h cap) W := by
  have e2 : (h : Int) ≤ cap := by omega
  have e : (Instr.sliceAt 23 (.slice (some ⟨g, 0, none⟩) len cap) none (some (.int .i64 (h : Int))) none).run Try.prog W = .ok (sliced (some ⟨g, 0, none⟩) 0 h cap 1) W := by
    obtain ⟨i, i1, _, _, _⟩ := infoI
    simp [Instr.sliceAt, Instr.slice, run_underlying Try.underlying23, Instr.sliceBounds, run_sliceBound, sliced, hh, sizeOf, typeInfo, i1]
  rw [sliced_0] at e
  exact e
theorem shpI {W : World} {v : Value} {n : Nat} {f : Nat → Int} (h : SliceI W v n f) : ∃ g c, v = .slice g n c := by
  obtain ⟨⟨a, c, e, _⟩, _⟩ := h
  exact ⟨a, c, e⟩
set_option maxRecDepth 100000 in
set_option maxHeartbeats 4000000 in
/-- DrawKeeps. -/
theorem keeps_any (I : Impl) (p : Nat → Nat) (l : Nat) (bs ws : Nat → Int) (n m : Nat) (pv bv wv : Value) (V : World) (hp : SliceN V pv l p) (hl : l ≤ 140737488351232) (hz : ∀ l c, pv = .slice none l c → c = 0) (hb : SliceI V bv n bs) (hn : n ≤ 17592186043904) (hzb : ∀ l c, bv = .slice none l c → c = 0) (hwv : SliceI V wv m ws) (hm : m ≤ 17592186043904) (hzw : ∀ l c, wv = .slice none l c → c = 0) :
    Calls Try.prog 8 #[pv, bv, wv] V fun e w' => e = .returned (.bool true) ∧ Below V.heap.size V w' := by
  have FPv := hp
  have FI := hb
  have FJ := hwv
  have hpb := hp.bytes
  have hfp : ∀ j, j < l + 2 → (cat2 l p (fun j => if j = 0 then 161 else 162)) j < 256 := cat2_fits hpb (two_fits8 (by decide) (by decide))
  have hfb : ∀ j, j < n + 2 → -9223372036854775808 ≤ (catI n bs (fun j => if j = 0 then 71 else 72)) j ∧ (catI n bs (fun j => if j = 0 then 71 else 72)) j < 9223372036854775808 := catI_fits hb.fits (two_fits (by omega) (by omega))
  have hfw : ∀ j, j < m + 2 → -9223372036854775808 ≤ (catI m ws (fun j => if j = 0 then 73 else 74)) j ∧ (catI m ws (fun j => if j = 0 then 73 else 74)) j < 9223372036854775808 := catI_fits hwv.fits (two_fits (by omega) (by omega))
  go_enter Try.func8, Try.ntmps8
  refine wp_seq ?_
  refine wp_region_sqK 309 [(0, 6)] (fun i_ => match i_ with | 0 => .bool false | _ => undef) rfl (by kernel_rfl) (by decide) (by decide) ?_ ?_
  · intro i_ hi_ a hf hv hn
    match i_, hi_ with
    | 0, _ => exact stepV rfl rfl (execAsgB rfl rfl) ⟨⟨_, rfl, rfl⟩, rfl⟩
    | k_ + 1, h_ => exact absurd h_ (by simp)
  intro a h1 h2 h3 h4
  have t0 : a.eval (.tmp 0) = pv := (h3 0 (by decide)).trans rfl
  have t1 : a.eval (.tmp 1) = bv := (h3 1 (by decide)).trans rfl
  have t2 : a.eval (.tmp 2) = wv := (h3 2 (by decide)).trans rfl
  have A : a.tmps.size = 309 ∧ a.defers = [] := ⟨h1, h2⟩
  have BW : Below V.heap.size V V := Below.refl _ _
  clear h1 h2 h3 h4
  refine wp_seq ?_
  refine wp_seq ?_
  refine wp_region_sq (σ := Unit) 309 [(0, 36), (1, 37)] (fun j_ s X => match j_ with | 0 => Below V.heap.size V X | 1 => Below V.heap.size V X | _ => Below V.heap.size V X) (fun s => fun i_ => match i_ with | 0 => .bool true | 1 => .bool false | _ => undef) () A.1 (by kernel_rfl) (by decide) (by decide) (Below.refl _ _) ?_ ?_
  · intro i_ hi_ s a X hf hv hn hS
    match i_, hi_ with
    | 0, _ => exact stepC rfl rfl (execCall0 Try.func9 (by kernel_rfl) (by kernel_rfl) rfl ) (alive10 I X) fun e w' hh => ⟨_, hh.1, s, ⟨_, rfl, rfl⟩, (hS).trans ((hh.2).mono (hS).size), fun _ _ => rfl⟩
    | 1, _ => exact stepV rfl rfl (execNot8 rfl (hv 0 (by omega) _ rfl _ rfl)) ⟨s, ⟨_, rfl, rfl⟩, hS, fun _ _ => rfl⟩
    | k_ + 2, h_ => exact absurd h_ (by simp)
  rintro _ a X1 h1 h2 h3 h4 hS
  replace hS : Below V.heap.size V X1 := hS
  have bX := hS
  clear hS
  replace t0 := (h3 0 (by decide)).trans t0
  replace t1 := (h3 1 (by decide)).trans t1
  replace t2 := (h3 2 (by decide)).trans t2
  have t37 : a.eval (.tmp 37) = .bool false := h4 1 _ rfl _ rfl
  replace FPv := (FPv.on bX)
  replace FI := (FI.on bX)
  replace FJ := (FJ.on bX)
  have ZX1 := bX.size
  replace BW := BW.trans (bX.mono BW.size)
  clear bX
  replace A := (⟨h1, h2.trans A.2⟩ : a.tmps.size = 309 ∧ a.defers = [])
  clear h1 h2 h3 h4
  refine wp_cond_false t37 ?_
  refine wp_skip ?_
  clear t37
  refine wp_seq ?_
  refine wp_region_sq (σ := Nat × Value × Nat × Value × Nat × Value × Nat × Value × Nat × Nat × Value × Nat × Value) 309 [(0, 38), (1, 39), (2, 40), (3, 41), (4, 42), (5, 43), (6, 44), (7, 45), (8, 46), (9, 47), (10, 48), (11, 49), (12, 50), (13, 51), (14, 52), (15, 7), (16, 8), (17, 9)] (fun j_ s X => match j_ with | 0 => Below X1.heap.size X1 X | 1 => Below X1.heap.size X1 X ∧ X.ownsRow (X1.heap.size) 5 1 (.slice (some ⟨s.1, 0, none⟩) 0 0) (0) (bytesL 0 (fun _ => 0)) | 2 => Below X1.heap.size X1 X ∧ X.ownsRow (X1.heap.size) 5 1 (.slice (some ⟨s.1, 0, none⟩) 0 0) (0) (bytesL 0 (fun _ => 0)) | 3 => Below X1.heap.size X1 X ∧ X.ownsRow (X1.heap.size) 5 1 s.2.1 (l) (bytesL (l) (cat2 l p (fun j => if j = 0 then 161 else 162))) | 4 => Below X1.heap.size X1 X ∧ X.ownsRow (X1.heap.size) 5 1 s.2.1 (l) (bytesL (l) (cat2 l p (fun j => if j = 0 then 161 else 162))) ∧ SliceN X (.slice (some ⟨s.2.2.1, 0, none⟩) 2 2) (2) (fun j => if j = 0 then 161 else 162) | 5 => Below X1.heap.size X1 X ∧ X.ownsRow (X1.heap.size) 5 1 s.2.2.2.1 (l + 2) (bytesL (l + 2) (cat2 l p (fun j => if j = 0 then 161 else 162))) | 6 => Below X1.heap.size X1 X ∧ X.ownsRow (X1.heap.size) 5 1 s.2.2.2.1 (l + 2) (bytesL (l + 2) (cat2 l p (fun j => if j = 0 then 161 else 162))) ∧ X.ownsRow (X1.heap.size) 3 1 (.slice (some ⟨s.2.2.2.2.1, 0, none⟩) 0 0) (0) (intsL 0 (fun _ => 0)) | 7 => Below X1.heap.size X1 X ∧ X.ownsRow (X1.heap.size) 5 1 s.2.2.2.1 (l + 2) (bytesL (l + 2) (cat2 l p (fun j => if j = 0 then 161 else 162))) ∧ X.ownsRow (X1.heap.size) 3 1 (.slice (some ⟨s.2.2.2.2.1, 0, none⟩) 0 0) (0) (intsL 0 (fun _ => 0)) | 8 => Below X1.heap.size X1 X ∧ X.ownsRow (X1.heap.size) 5 1 s.2.2.2.1 (l + 2) (bytesL (l + 2) (cat2 l p (fun j => if j = 0 then 161 else 162))) ∧ X.ownsRow (X1.heap.size) 3 1 s.2.2.2.2.2.1 (n) (intsL (n) (bs)) | 9 => Below X1.heap.size X1 X ∧ X.ownsRow (X1.heap.size) 5 1 s.2.2.2.1 (l + 2) (bytesL (l + 2) (cat2 l p (fun j => if j = 0 then 161 else 162))) ∧ X.ownsRow (X1.heap.size) 3 1 s.2.2.2.2.2.1 (n) (intsL (n) (bs)) ∧ (SliceI X (.slice (some ⟨s.2.2.2.2.2.2.1, 0, none⟩) 2 2) (2) (fun j => if j = 0 then 71 else 72)) | 10 => Below X1.heap.size X1 X ∧ X.ownsRow (X1.heap.size) 5 1 s.2.2.2.1 (l + 2) (bytesL (l + 2) (cat2 l p (fun j => if j = 0 then 161 else 162))) ∧ X.ownsRow (X1.heap.size) 3 1 s.2.2.2.2.2.2.2.1 (n + 2) (intsL (n + 2) (catI n bs (fun j => if j = 0 then 71 else 72))) | 11 => Below X1.heap.size X1 X ∧ X.ownsRow (X1.heap.size) 5 1 s.2.2.2.1 (l + 2) (bytesL (l + 2) (cat2 l p (fun j => if j = 0 then 161 else 162))) ∧ X.ownsRow (X1.heap.size) 3 1 s.2.2.2.2.2.2.2.1 (n + 2) (intsL (n + 2) (catI n bs (fun j => if j = 0 then 71 else 72))) ∧ X.ownsRow (s.2.2.2.2.2.2.2.2.2.1) 3 1 (.slice (some ⟨s.2.2.2.2.2.2.2.2.1, 0, none⟩) 0 0) (0) (intsL 0 (fun _ => 0)) ∧ (∀ k, s.2.2.2.2.2.2.2.1.ownBlock = some k → k < s.2.2.2.2.2.2.2.2.2.1) ∧ (X1.heap.size ≤ s.2.2.2.2.2.2.2.2.2.1) ∧ (s.2.2.2.2.2.2.2.2.2.1 ≤ X.heap.size) | 12 => Below X1.heap.size X1 X ∧ X.ownsRow (X1.heap.size) 5 1 s.2.2.2.1 (l + 2) (bytesL (l + 2) (cat2 l p (fun j => if j = 0 then 161 else 162))) ∧ X.ownsRow (X1.heap.size) 3 1 s.2.2.2.2.2.2.2.1 (n + 2) (intsL (n + 2) (catI n bs (fun j => if j = 0 then 71 else 72))) ∧ X.ownsRow (s.2.2.2.2.2.2.2.2.2.1) 3 1 (.slice (some ⟨s.2.2.2.2.2.2.2.2.1, 0, none⟩) 0 0) (0) (intsL 0 (fun _ => 0)) ∧ (∀ k, s.2.2.2.2.2.2.2.1.ownBlock = some k → k < s.2.2.2.2.2.2.2.2.2.1) ∧ (X1.heap.size ≤ s.2.2.2.2.2.2.2.2.2.1) ∧ (s.2.2.2.2.2.2.2.2.2.1 ≤ X.heap.size) | 13 => Below X1.heap.size X1 X ∧ X.ownsRow (X1.heap.size) 5 1 s.2.2.2.1 (l + 2) (bytesL (l + 2) (cat2 l p (fun j => if j = 0 then 161 else 162))) ∧ X.ownsRow (X1.heap.size) 3 1 s.2.2.2.2.2.2.2.1 (n + 2) (intsL (n + 2) (catI n bs (fun j => if j = 0 then 71 else 72))) ∧ (∀ k, s.2.2.2.2.2.2.2.1.ownBlock = some k → k < s.2.2.2.2.2.2.2.2.2.1) ∧ (X1.heap.size ≤ s.2.2.2.2.2.2.2.2.2.1) ∧ (s.2.2.2.2.2.2.2.2.2.1 ≤ X.heap.size) ∧ X.ownsRow (s.2.2.2.2.2.2.2.2.2.1) 3 1 s.2.2.2.2.2.2.2.2.2.2.1 (m) (intsL (m) (ws)) | 14 => Below X1.heap.size X1 X ∧ X.ownsRow (X1.heap.size) 5 1 s.2.2.2.1 (l + 2) (bytesL (l + 2) (cat2 l p (fun j => if j = 0 then 161 else 162))) ∧ X.ownsRow (X1.heap.size) 3 1 s.2.2.2.2.2.2.2.1 (n + 2) (intsL (n + 2) (catI n bs (fun j => if j = 0 then 71 else 72))) ∧ (∀ k, s.2.2.2.2.2.2.2.1.ownBlock = some k → k < s.2.2.2.2.2.2.2.2.2.1) ∧ (X1.heap.size ≤ s.2.2.2.2.2.2.2.2.2.1) ∧ (s.2.2.2.2.2.2.2.2.2.1 ≤ X.heap.size) ∧ X.ownsRow (s.2.2.2.2.2.2.2.2.2.1) 3 1 s.2.2.2.2.2.2.2.2.2.2.1 (m) (intsL (m) (ws)) ∧ (SliceI X (.slice (some ⟨s.2.2.2.2.2.2.2.2.2.2.2.1, 0, none⟩) 2 2) (2) (fun j => if j = 0 then 73 else 74)) | 15 => Below X1.heap.size X1 X ∧ X.ownsRow (X1.heap.size) 5 1 s.2.2.2.1 (l + 2) (bytesL (l + 2) (cat2 l p (fun j => if j = 0 then 161 else 162))) ∧ X.ownsRow (X1.heap.size) 3 1 s.2.2.2.2.2.2.2.1 (n + 2) (intsL (n + 2) (catI n bs (fun j => if j = 0 then 71 else 72))) ∧ (∀ k, s.2.2.2.2.2.2.2.1.ownBlock = some k → k < s.2.2.2.2.2.2.2.2.2.1) ∧ (X1.heap.size ≤ s.2.2.2.2.2.2.2.2.2.1) ∧ (s.2.2.2.2.2.2.2.2.2.1 ≤ X.heap.size) ∧ X.ownsRow (s.2.2.2.2.2.2.2.2.2.1) 3 1 s.2.2.2.2.2.2.2.2.2.2.2.2 (m + 2) (intsL (m + 2) (catI m ws (fun j => if j = 0 then 73 else 74))) | 16 => Below X1.heap.size X1 X ∧ X.ownsRow (X1.heap.size) 5 1 s.2.2.2.1 (l + 2) (bytesL (l + 2) (cat2 l p (fun j => if j = 0 then 161 else 162))) ∧ X.ownsRow (X1.heap.size) 3 1 s.2.2.2.2.2.2.2.1 (n + 2) (intsL (n + 2) (catI n bs (fun j => if j = 0 then 71 else 72))) ∧ (∀ k, s.2.2.2.2.2.2.2.1.ownBlock = some k → k < s.2.2.2.2.2.2.2.2.2.1) ∧ (X1.heap.size ≤ s.2.2.2.2.2.2.2.2.2.1) ∧ (s.2.2.2.2.2.2.2.2.2.1 ≤ X.heap.size) ∧ X.ownsRow (s.2.2.2.2.2.2.2.2.2.1) 3 1 s.2.2.2.2.2.2.2.2.2.2.2.2 (m + 2) (intsL (m + 2) (catI m ws (fun j => if j = 0 then 73 else 74))) | 17 => Below X1.heap.size X1 X ∧ X.ownsRow (X1.heap.size) 5 1 s.2.2.2.1 (l + 2) (bytesL (l + 2) (cat2 l p (fun j => if j = 0 then 161 else 162))) ∧ X.ownsRow (X1.heap.size) 3 1 s.2.2.2.2.2.2.2.1 (n + 2) (intsL (n + 2) (catI n bs (fun j => if j = 0 then 71 else 72))) ∧ (∀ k, s.2.2.2.2.2.2.2.1.ownBlock = some k → k < s.2.2.2.2.2.2.2.2.2.1) ∧ (X1.heap.size ≤ s.2.2.2.2.2.2.2.2.2.1) ∧ (s.2.2.2.2.2.2.2.2.2.1 ≤ X.heap.size) ∧ X.ownsRow (s.2.2.2.2.2.2.2.2.2.1) 3 1 s.2.2.2.2.2.2.2.2.2.2.2.2 (m + 2) (intsL (m + 2) (catI m ws (fun j => if j = 0 then 73 else 74))) | _ => Below X1.heap.size X1 X ∧ X.ownsRow (X1.heap.size) 5 1 s.2.2.2.1 (l + 2) (bytesL (l + 2) (cat2 l p (fun j => if j = 0 then 161 else 162))) ∧ X.ownsRow (X1.heap.size) 3 1 s.2.2.2.2.2.2.2.1 (n + 2) (intsL (n + 2) (catI n bs (fun j => if j = 0 then 71 else 72))) ∧ (∀ k, s.2.2.2.2.2.2.2.1.ownBlock = some k → k < s.2.2.2.2.2.2.2.2.2.1) ∧ (X1.heap.size ≤ s.2.2.2.2.2.2.2.2.2.1) ∧ (s.2.2.2.2.2.2.2.2.2.1 ≤ X.heap.size) ∧ X.ownsRow (s.2.2.2.2.2.2.2.2.2.1) 3 1 s.2.2.2.2.2.2.2.2.2.2.2.2 (m + 2) (intsL (m + 2) (catI m ws (fun j => if j = 0 then 73 else 74)))) (fun s => fun i_ => match i_ with | 0 => .slice (some ⟨s.1, 0, none⟩) 0 0 | 1 => pv | 2 => s.2.1 | 3 => .slice (some ⟨s.2.2.1, 0, none⟩) 2 2 | 4 => s.2.2.2.1 | 5 => .slice (some ⟨s.2.2.2.2.1, 0, none⟩) 0 0 | 6 => bv | 7 => s.2.2.2.2.2.1 | 8 => .slice (some ⟨s.2.2.2.2.2.2.1, 0, none⟩) 2 2 | 9 => s.2.2.2.2.2.2.2.1 | 10 => .slice (some ⟨s.2.2.2.2.2.2.2.2.1, 0, none⟩) 0 0 | 11 => wv | 12 => s.2.2.2.2.2.2.2.2.2.2.1 | 13 => .slice (some ⟨s.2.2.2.2.2.2.2.2.2.2.2.1, 0, none⟩) 2 2 | 14 => s.2.2.2.2.2.2.2.2.2.2.2.2 | 15 => s.2.2.2.1 | 16 => s.2.2.2.2.2.2.2.1 | 17 => s.2.2.2.2.2.2.2.2.2.2.2.2 | _ => undef) (0, undef, 0, undef, 0, undef, 0, undef, 0, 0, undef, 0, undef) A.1 (by kernel_rfl) (by decide) (by decide) (Below.refl _ _) ?_ ?_
  · intro i_ hi_ s a X hf hv hn hS
    match i_, hi_ with
    | 0, _ =>
      refine stepV rfl rfl (execBs0 rfl) ⟨(X.heap.size, s.2.1, s.2.2.1, s.2.2.2.1, s.2.2.2.2.1, s.2.2.2.2.2.1, s.2.2.2.2.2.2.1, s.2.2.2.2.2.2.2.1, s.2.2.2.2.2.2.2.2.1, s.2.2.2.2.2.2.2.2.2.1, s.2.2.2.2.2.2.2.2.2.2.1, s.2.2.2.2.2.2.2.2.2.2.2.1, s.2.2.2.2.2.2.2.2.2.2.2.2), ⟨_, rfl, rfl⟩, ⟨(hS).trans (((belNew X _)).mono (hS).size), ownD_base (own_none X _) (hS).size⟩, fun i hi => ?_⟩
      omega
    | 1, _ => exact stepV rfl rfl (execMvB rfl ((hf 0 (by decide)).trans t0)) ⟨s, ⟨_, rfl, rfl⟩, hS, fun _ _ => rfl⟩
    | 2, _ =>
      refine stepAppN (n := 0) (p := cat2 l p (fun j => if j = 0 then 161 else 162)) rfl rfl rfl (hv 0 (by omega) _ rfl _ rfl) (hv 1 (by omega) _ rfl _ rfl) hS.2 (sliceN_cg (FPv.on hS.1) fun j hj => by rw [Nat.zero_add]; exact (cat2_lo hj).symm) hz (by omega) (hS.1).size fun v' W' own' gr => ⟨(s.1, v', s.2.2.1, s.2.2.2.1, s.2.2.2.2.1, s.2.2.2.2.2.1, s.2.2.2.2.2.2.1, s.2.2.2.2.2.2.2.1, s.2.2.2.2.2.2.2.2.1, s.2.2.2.2.2.2.2.2.2.1, s.2.2.2.2.2.2.2.2.2.2.1, s.2.2.2.2.2.2.2.2.2.2.2.1, s.2.2.2.2.2.2.2.2.2.2.2.2), ⟨_, rfl, rfl⟩, ⟨(hS.1).grown gr (hS.1).size (fun k hk => (hS.2.lt k hk).1), own_z5 own'⟩, fun i hi => ?_⟩
      match i, hi with
      | 0, _ => rfl
      | 1, _ => rfl
      | n_ + 2, h_ => omega
    | 3, _ =>
      refine stepV rfl rfl (execBsU2 (y := 161) (z := 162) rfl) ⟨(s.1, s.2.1, X.heap.size, s.2.2.2.1, s.2.2.2.2.1, s.2.2.2.2.2.1, s.2.2.2.2.2.2.1, s.2.2.2.2.2.2.2.1, s.2.2.2.2.2.2.2.2.1, s.2.2.2.2.2.2.2.2.2.1, s.2.2.2.2.2.2.2.2.2.2.1, s.2.2.2.2.2.2.2.2.2.2.2.1, s.2.2.2.2.2.2.2.2.2.2.2.2), ⟨_, rfl, rfl⟩, ⟨(hS.1).trans (((belNew X _)).mono (hS.1).size), (ownsRow_below hS.2 (belNew X _)), sliceN2 X 161 162 (by decide) (by decide)⟩, fun i hi => ?_⟩
      match i, hi with
      | 0, _ => rfl
      | 1, _ => rfl
      | 2, _ => rfl
      | n_ + 3, h_ => omega
    | 4, _ =>
      refine stepAppN (n := l) (p := cat2 l p (fun j => if j = 0 then 161 else 162)) rfl rfl rfl (hv 2 (by omega) _ rfl _ rfl) (hv 3 (by omega) _ rfl _ rfl) hS.2.1 (sliceN_cg hS.2.2 fun j _ => (cat2_hi (q := fun j => if j = 0 then 161 else 162)).symm) (fun l c e => by cases e) (by omega) (hS.1).size fun v' W' own' gr => ⟨(s.1, s.2.1, s.2.2.1, v', s.2.2.2.2.1, s.2.2.2.2.2.1, s.2.2.2.2.2.2.1, s.2.2.2.2.2.2.2.1, s.2.2.2.2.2.2.2.2.1, s.2.2.2.2.2.2.2.2.2.1, s.2.2.2.2.2.2.2.2.2.2.1, s.2.2.2.2.2.2.2.2.2.2.2.1, s.2.2.2.2.2.2.2.2.2.2.2.2), ⟨_, rfl, rfl⟩, ⟨(hS.1).grown gr (hS.1).size (fun k hk => (hS.2.1.lt k hk).1), own'⟩, fun i hi => ?_⟩
      match i, hi with
      | 0, _ => rfl
      | 1, _ => rfl
      | 2, _ => rfl
      | 3, _ => rfl
      | n_ + 4, h_ => omega
    | 5, _ =>
      refine stepV rfl rfl (execBs0I rfl) ⟨(s.1, s.2.1, s.2.2.1, s.2.2.2.1, X.heap.size, s.2.2.2.2.2.1, s.2.2.2.2.2.2.1, s.2.2.2.2.2.2.2.1, s.2.2.2.2.2.2.2.2.1, s.2.2.2.2.2.2.2.2.2.1, s.2.2.2.2.2.2.2.2.2.2.1, s.2.2.2.2.2.2.2.2.2.2.2.1, s.2.2.2.2.2.2.2.2.2.2.2.2), ⟨_, rfl, rfl⟩, ⟨(hS.1).trans (((belNew X _)).mono (hS.1).size), (ownsRow_below hS.2 (belNew X _)), ownD_base (own_noneI X _) (hS.1).size⟩, fun i hi => ?_⟩
      match i, hi with
      | 0, _ => rfl
      | 1, _ => rfl
      | 2, _ => rfl
      | 3, _ => rfl
      | 4, _ => rfl
      | n_ + 5, h_ => omega
    | 6, _ => exact stepV rfl rfl (execMvB rfl ((hf 1 (by decide)).trans t1)) ⟨s, ⟨_, rfl, rfl⟩, hS, fun _ _ => rfl⟩
    | 7, _ =>
      refine stepAppIs (f := fun _ => 0) (g := bs) rfl rfl rfl (hv 5 (by omega) _ rfl _ rfl) (hv 6 (by omega) _ rfl _ rfl) hS.2.2 (FI.on hS.1) hzb (by omega) (hS.1).size fun v' W' own' gr => ⟨(s.1, s.2.1, s.2.2.1, s.2.2.2.1, s.2.2.2.2.1, v', s.2.2.2.2.2.2.1, s.2.2.2.2.2.2.2.1, s.2.2.2.2.2.2.2.2.1, s.2.2.2.2.2.2.2.2.2.1, s.2.2.2.2.2.2.2.2.2.2.1, s.2.2.2.2.2.2.2.2.2.2.2.1, s.2.2.2.2.2.2.2.2.2.2.2.2), ⟨_, rfl, rfl⟩, ⟨(hS.1).grown gr (hS.1).size (fun k hk => (hS.2.2.lt k hk).1), (own_overT hS.2.1 hS.2.2 gr (by decide)), own_cat0 own'⟩, fun i hi => ?_⟩
      match i, hi with
      | 0, _ => rfl
      | 1, _ => rfl
      | 2, _ => rfl
      | 3, _ => rfl
      | 4, _ => rfl
      | 5, _ => rfl
      | 6, _ => rfl
      | n_ + 7, h_ => omega
    | 8, _ =>
      refine stepV rfl rfl (execBsI2 (y := 71) (z := 72) rfl) ⟨(s.1, s.2.1, s.2.2.1, s.2.2.2.1, s.2.2.2.2.1, s.2.2.2.2.2.1, X.heap.size, s.2.2.2.2.2.2.2.1, s.2.2.2.2.2.2.2.2.1, s.2.2.2.2.2.2.2.2.2.1, s.2.2.2.2.2.2.2.2.2.2.1, s.2.2.2.2.2.2.2.2.2.2.2.1, s.2.2.2.2.2.2.2.2.2.2.2.2), ⟨_, rfl, rfl⟩, ⟨(hS.1).trans (((belNew X _)).mono (hS.1).size), (ownsRow_below hS.2.1 (belNew X _)), (ownD_below hS.2.2 (belNew X _)), sliceI2 X 71 72 (by omega) (by omega)⟩, fun i hi => ?_⟩
      match i, hi with
      | 0, _ => rfl
      | 1, _ => rfl
      | 2, _ => rfl
      | 3, _ => rfl
      | 4, _ => rfl
      | 5, _ => rfl
      | 6, _ => rfl
      | 7, _ => rfl
      | n_ + 8, h_ => omega
    | 9, _ =>
      refine stepAppIs (f := bs) (g := fun j => if j = 0 then 71 else 72) rfl rfl rfl (hv 7 (by omega) _ rfl _ rfl) (hv 8 (by omega) _ rfl _ rfl) hS.2.2.1 hS.2.2.2 (fun l c e => by cases e) (by omega) (hS.1).size fun v' W' own' gr => ⟨(s.1, s.2.1, s.2.2.1, s.2.2.2.1, s.2.2.2.2.1, s.2.2.2.2.2.1, s.2.2.2.2.2.2.1, v', s.2.2.2.2.2.2.2.2.1, s.2.2.2.2.2.2.2.2.2.1, s.2.2.2.2.2.2.2.2.2.2.1, s.2.2.2.2.2.2.2.2.2.2.2.1, s.2.2.2.2.2.2.2.2.2.2.2.2), ⟨_, rfl, rfl⟩, ⟨(hS.1).grown gr (hS.1).size (fun k hk => (hS.2.2.1.lt k hk).1), (own_overT hS.2.1 hS.2.2.1 gr (by decide)), own'⟩, fun i hi => ?_⟩
      match i, hi with
      | 0, _ => rfl
      | 1, _ => rfl
      | 2, _ => rfl
      | 3, _ => rfl
      | 4, _ => rfl
      | 5, _ => rfl
      | 6, _ => rfl
      | 7, _ => rfl
      | 8, _ => rfl
      | n_ + 9, h_ => omega
    | 10, _ =>
      refine stepV rfl rfl (execBs0I rfl) ⟨(s.1, s.2.1, s.2.2.1, s.2.2.2.1, s.2.2.2.2.1, s.2.2.2.2.2.1, s.2.2.2.2.2.2.1, s.2.2.2.2.2.2.2.1, X.heap.size, X.heap.size, s.2.2.2.2.2.2.2.2.2.2.1, s.2.2.2.2.2.2.2.2.2.2.2.1, s.2.2.2.2.2.2.2.2.2.2.2.2), ⟨_, rfl, rfl⟩, ⟨(hS.1).trans (((belNew X _)).mono (hS.1).size), (ownsRow_below hS.2.1 (belNew X _)), (ownD_below hS.2.2 (belNew X _)), own_noneI X _, fun k e => (hS.2.2.lt k e).2, (hS.1).size, (belNew X _).size⟩, fun i hi => ?_⟩
      match i, hi with
      | 0, _ => rfl
      | 1, _ => rfl
      | 2, _ => rfl
      | 3, _ => rfl
      | 4, _ => rfl
      | 5, _ => rfl
      | 6, _ => rfl
      | 7, _ => rfl
      | 8, _ => rfl
      | 9, _ => rfl
      | n_ + 10, h_ => omega
    | 11, _ => exact stepV rfl rfl (execMvB rfl ((hf 2 (by decide)).trans t2)) ⟨s, ⟨_, rfl, rfl⟩, hS, fun _ _ => rfl⟩
    | 12, _ =>
      refine stepAppIs (f := fun _ => 0) (g := ws) rfl rfl rfl (hv 10 (by omega) _ rfl _ rfl) (hv 11 (by omega) _ rfl _ rfl) hS.2.2.2.1 (FJ.on hS.1) hzw (by omega) hS.2.2.2.2.2.2 fun v' W' own' gr => ⟨(s.1, s.2.1, s.2.2.1, s.2.2.2.1, s.2.2.2.2.1, s.2.2.2.2.2.1, s.2.2.2.2.2.2.1, s.2.2.2.2.2.2.2.1, s.2.2.2.2.2.2.2.2.1, s.2.2.2.2.2.2.2.2.2.1, v', s.2.2.2.2.2.2.2.2.2.2.2.1, s.2.2.2.2.2.2.2.2.2.2.2.2), ⟨_, rfl, rfl⟩, ⟨(hS.1).grown gr (hS.1).size (fun k hk => Nat.le_trans hS.2.2.2.2.2.1 (hS.2.2.2.1.lt k hk).1), (own_overT hS.2.1 hS.2.2.2.1 gr (by decide)), (own_overB hS.2.2.1 hS.2.2.2.2.1 hS.2.2.2.1 gr), hS.2.2.2.2.1, hS.2.2.2.2.2.1, (Nat.le_trans hS.2.2.2.2.2.2 gr.size), own_cat0 own'⟩, fun i hi => ?_⟩
      match i, hi with
      | 0, _ => rfl
      | 1, _ => rfl
      | 2, _ => rfl
      | 3, _ => rfl
      | 4, _ => rfl
      | 5, _ => rfl
      | 6, _ => rfl
      | 7, _ => rfl
      | 8, _ => rfl
      | 9, _ => rfl
      | 10, _ => rfl
      | 11, _ => rfl
      | n_ + 12, h_ => omega
    | 13, _ =>
      refine stepV rfl rfl (execBsI2 (y := 73) (z := 74) rfl) ⟨(s.1, s.2.1, s.2.2.1, s.2.2.2.1, s.2.2.2.2.1, s.2.2.2.2.2.1, s.2.2.2.2.2.2.1, s.2.2.2.2.2.2.2.1, s.2.2.2.2.2.2.2.2.1, s.2.2.2.2.2.2.2.2.2.1, s.2.2.2.2.2.2.2.2.2.2.1, X.heap.size, s.2.2.2.2.2.2.2.2.2.2.2.2), ⟨_, rfl, rfl⟩, ⟨(hS.1).trans (((belNew X _)).mono (hS.1).size), (ownsRow_below hS.2.1 (belNew X _)), (ownD_below hS.2.2.1 (belNew X _)), hS.2.2.2.1, hS.2.2.2.2.1, (Nat.le_trans hS.2.2.2.2.2.1 ((belNew X _)).size), (ownD_below hS.2.2.2.2.2.2 (belNew X _)), sliceI2 X 73 74 (by omega) (by omega)⟩, fun i hi => ?_⟩
      match i, hi with
      | 0, _ => rfl
      | 1, _ => rfl
      | 2, _ => rfl
      | 3, _ => rfl
      | 4, _ => rfl
      | 5, _ => rfl
      | 6, _ => rfl
      | 7, _ => rfl
      | 8, _ => rfl
      | 9, _ => rfl
      | 10, _ => rfl
      | 11, _ => rfl
      | 12, _ => rfl
      | n_ + 13, h_ => omega
    | 14, _ =>
      refine stepAppIs (f := ws) (g := fun j => if j = 0 then 73 else 74) rfl rfl rfl (hv 12 (by omega) _ rfl _ rfl) (hv 13 (by omega) _ rfl _ rfl) hS.2.2.2.2.2.2.1 hS.2.2.2.2.2.2.2 (fun l c e => by cases e) (by omega) hS.2.2.2.2.2.1 fun v' W' own' gr => ⟨(s.1, s.2.1, s.2.2.1, s.2.2.2.1, s.2.2.2.2.1, s.2.2.2.2.2.1, s.2.2.2.2.2.2.1, s.2.2.2.2.2.2.2.1, s.2.2.2.2.2.2.2.2.1, s.2.2.2.2.2.2.2.2.2.1, s.2.2.2.2.2.2.2.2.2.2.1, s.2.2.2.2.2.2.2.2.2.2.2.1, v'), ⟨_, rfl, rfl⟩, ⟨(hS.1).grown gr (hS.1).size (fun k hk => Nat.le_trans hS.2.2.2.2.1 (hS.2.2.2.2.2.2.1.lt k hk).1), (own_overT hS.2.1 hS.2.2.2.2.2.2.1 gr (by decide)), (own_overB hS.2.2.1 hS.2.2.2.1 hS.2.2.2.2.2.2.1 gr), hS.2.2.2.1, hS.2.2.2.2.1, (Nat.le_trans hS.2.2.2.2.2.1 gr.size), own'⟩, fun i hi => ?_⟩
      match i, hi with
      | 0, _ => rfl
      | 1, _ => rfl
      | 2, _ => rfl
      | 3, _ => rfl
      | 4, _ => rfl
      | 5, _ => rfl
      | 6, _ => rfl
      | 7, _ => rfl
      | 8, _ => rfl
      | 9, _ => rfl
      | 10, _ => rfl
      | 11, _ => rfl
      | 12, _ => rfl
      | 13, _ => rfl
      | n_ + 14, h_ => omega
    | 15, _ => exact stepV rfl rfl (execAsgB rfl (hv 4 (by omega) _ rfl _ rfl)) ⟨s, ⟨_, rfl, rfl⟩, hS, fun _ _ => rfl⟩
    | 16, _ => exact stepV rfl rfl (execAsgB rfl (hv 9 (by omega) _ rfl _ rfl)) ⟨s, ⟨_, rfl, rfl⟩, hS, fun _ _ => rfl⟩
    | 17, _ => exact stepV rfl rfl (execAsgB rfl (hv 14 (by omega) _ rfl _ rfl)) ⟨s, ⟨_, rfl, rfl⟩, hS, fun _ _ => rfl⟩
    | k_ + 18, h_ => exact absurd h_ (by simp)
  rintro ⟨g38, v40, g41, v42, g43, v45, g46, v47, g48, b48, v50, g51, v52⟩ a X3 h1 h2 h3 h4 hS
  replace hS : Below X1.heap.size X1 X3 ∧ X3.ownsRow (X1.heap.size) 5 1 v42 (l + 2) (bytesL (l + 2) (cat2 l p (fun j => if j = 0 then 161 else 162))) ∧ X3.ownsRow (X1.heap.size) 3 1 v47 (n + 2) (intsL (n + 2) (catI n bs (fun j => if j = 0 then 71 else 72))) ∧ (∀ k, v47.ownBlock = some k → k < b48) ∧ (X1.heap.size ≤ b48) ∧ (b48 ≤ X3.heap.size) ∧ X3.ownsRow (b48) 3 1 v52 (m + 2) (intsL (m + 2) (catI m ws (fun j => if j = 0 then 73 else 74))) := hS
  obtain ⟨bX, Fv42, Fv47, Fb48, Fc48, Fs48, Fv52⟩ := hS
  replace t0 := (h3 0 (by decide)).trans t0
  replace t1 := (h3 1 (by decide)).trans t1
  replace t2 := (h3 2 (by decide)).trans t2
  have t7 : a.eval (.tmp 7) = v42 := h4 15 _ rfl _ rfl
  have t8 : a.eval (.tmp 8) = v47 := h4 16 _ rfl _ rfl
  have t9 : a.eval (.tmp 9) = v52 := h4 17 _ rfl _ rfl
  replace FPv := (FPv.on bX)
  replace FI := (FI.on bX)
  replace FJ := (FJ.on bX)
  have ZX3 := bX.size
  replace BW := BW.trans (bX.mono BW.size)
  clear bX
  replace A := (⟨h1, h2.trans A.2⟩ : a.tmps.size = 309 ∧ a.defers = [])
  clear h1 h2 h3 h4
  obtain ⟨gp, cp, rfl, hgp0, hgpX⟩ := ownL_some9 Fv42 (by omega)
  obtain ⟨gb, cb, rfl, hgb0, hgbX⟩ := ownL_some9 Fv47 (by omega)
  obtain ⟨gw, cw, rfl, hgw0, hgwX⟩ := ownL_some9 Fv52 (by omega)
  have hcp := own_cap Fv42
  have hcb := own_cap Fv47
  have hcw := own_cap Fv52
  clear Fb48 Fc48 Fs48
  refine wp_seq ?_
  refine wp_region_detA 309 [(0, 53), (1, 54), (2, 55), (3, 56), (4, 57), (5, 58), (6, 59), (7, 60), (8, 61), (9, 62), (10, 63), (11, 64), (12, 10), (13, 11), (14, 12)] (fun i_ => match i_ with | 0 => .slice (some ⟨gp, 0, none⟩) (l + 2) cp | 1 => pv | 2 => .int .i64 ((l : Nat) : Int) | 3 => .slice (some ⟨gp, 0, none⟩) l cp | 4 => .slice (some ⟨gb, 0, none⟩) (n + 2) cb | 5 => bv | 6 => .int .i64 ((n : Nat) : Int) | 7 => .slice (some ⟨gb, 0, none⟩) n cb | 8 => .slice (some ⟨gw, 0, none⟩) (m + 2) cw | 9 => wv | 10 => .int .i64 ((m : Nat) : Int) | 11 => .slice (some ⟨gw, 0, none⟩) m cw | 12 => .slice (some ⟨gp, 0, none⟩) l cp | 13 => .slice (some ⟨gb, 0, none⟩) n cb | 14 => .slice (some ⟨gw, 0, none⟩) m cw | _ => undef) (fun _ X => Below X3.heap.size X3 X) (by kernel_rfl) (by kernel_rfl) A.1 (by kernel_rfl) (by decide) (by decide) (Below.refl _ _).drew ?_ ?_
  · intro i_ hi_ l_ a X hl_ hf hdep hl2 hcl hno hT
    match i_, hi_ with
    | 0, _ => exact stepV rfl rfl (execMvB rfl ((hf 7 (by decide)).trans t7)) ⟨⟨_, rfl, rfl⟩, hT⟩
    | 1, _ => exact stepV rfl rfl (execMvB rfl ((hf 0 (by decide)).trans t0)) ⟨⟨_, rfl, rfl⟩, hT⟩
    | 2, _ => exact stepV rfl rfl (execLenV (len := l) rfl (hdep _ rfl 1 rfl _ rfl _ rfl) (shp9 (FPv.on hT))) ⟨⟨_, rfl, rfl⟩, hT⟩
    | 3, _ => exact stepV rfl rfl (By8.execSlH rfl (hdep _ rfl 0 rfl _ rfl _ rfl) (hdep _ rfl 2 rfl _ rfl _ rfl) (sl_h8 gp _ cp l (by omega) X)) ⟨⟨_, rfl, rfl⟩, hT⟩
    | 4, _ => exact stepV rfl rfl (execMvB rfl ((hf 8 (by decide)).trans t8)) ⟨⟨_, rfl, rfl⟩, hT⟩
    | 5, _ => exact stepV rfl rfl (execMvB rfl ((hf 1 (by decide)).trans t1)) ⟨⟨_, rfl, rfl⟩, hT⟩
    | 6, _ => exact stepV rfl rfl (execLenI (len := n) rfl (hdep _ rfl 5 rfl _ rfl _ rfl) ((FI.on hT)).shp) ⟨⟨_, rfl, rfl⟩, hT⟩
    | 7, _ => exact stepV rfl rfl (By8.execSlH rfl (hdep _ rfl 4 rfl _ rfl _ rfl) (hdep _ rfl 6 rfl _ rfl _ rfl) (sl_hI gb _ cb n (by omega) X)) ⟨⟨_, rfl, rfl⟩, hT⟩
    | 8, _ => exact stepV rfl rfl (execMvB rfl ((hf 9 (by decide)).trans t9)) ⟨⟨_, rfl, rfl⟩, hT⟩
    | 9, _ => exact stepV rfl rfl (execMvB rfl ((hf 2 (by decide)).trans t2)) ⟨⟨_, rfl, rfl⟩, hT⟩
    | 10, _ => exact stepV rfl rfl (execLenI (len := m) rfl (hdep _ rfl 9 rfl _ rfl _ rfl) ((FJ.on hT)).shp) ⟨⟨_, rfl, rfl⟩, hT⟩
    | 11, _ => exact stepV rfl rfl (By8.execSlH rfl (hdep _ rfl 8 rfl _ rfl _ rfl) (hdep _ rfl 10 rfl _ rfl _ rfl) (sl_hI gw _ cw m (by omega) X)) ⟨⟨_, rfl, rfl⟩, hT⟩
    | 12, _ => exact stepV rfl rfl (execAsgB rfl (hdep _ rfl 3 rfl _ rfl _ rfl)) ⟨⟨_, rfl, rfl⟩, hT⟩
    | 13, _ => exact stepV rfl rfl (execAsgB rfl (hdep _ rfl 7 rfl _ rfl _ rfl)) ⟨⟨_, rfl, rfl⟩, hT⟩
    | 14, _ => exact stepV rfl rfl (execAsgB rfl (hdep _ rfl 11 rfl _ rfl _ rfl)) ⟨⟨_, rfl, rfl⟩, hT⟩
    | k_ + 15, h_ => exact absurd h_ (by simp)
  intro l_ a X4 h1 h2 h3 h4 hall hT
  clear hall
  have bX := hT
  clear hT
  replace t0 := (h3 0 (by decide)).trans t0
  replace t1 := (h3 1 (by decide)).trans t1
  replace t2 := (h3 2 (by decide)).trans t2
  replace t7 := (h3 7 (by decide)).trans t7
  replace t8 := (h3 8 (by decide)).trans t8
  replace t9 := (h3 9 (by decide)).trans t9
  have t10 : a.eval (.tmp 10) = .slice (some ⟨gp, 0, none⟩) l cp := h4 (12, 10) (by decide)
  have t11 : a.eval (.tmp 11) = .slice (some ⟨gb, 0, none⟩) n cb := h4 (13, 11) (by decide)
  have t12 : a.eval (.tmp 12) = .slice (some ⟨gw, 0, none⟩) m cw := h4 (14, 12) (by decide)
  replace FPv := (FPv.on bX)
  replace FI := (FI.on bX)
  replace FJ := (FJ.on bX)
  replace Fv42 := (ownsRow_below Fv42 bX)
  replace Fv47 := (ownD_below Fv47 bX)
  replace Fv52 := (ownD_below Fv52 bX)
  have ZX4 := bX.size
  replace BW := BW.trans (bX.mono BW.size)
  clear bX
  replace A := (⟨h1, h2.trans A.2⟩ : a.tmps.size = 309 ∧ a.defers = [])
  clear h1 h2 h3 h4
  obtain ⟨ip, hip⟩ : ∃ ip : Value, ip = .slice (some ⟨gp, 0, none⟩) l cp := ⟨_, rfl⟩
  obtain ⟨ib, hib⟩ : ∃ ib : Value, ib = .slice (some ⟨gb, 0, none⟩) n cb := ⟨_, rfl⟩
  obtain ⟨iw, hiw⟩ : ∃ iw : Value, iw = .slice (some ⟨gw, 0, none⟩) m cw := ⟨_, rfl⟩
  rw [← hip] at t10
  rw [← hib] at t11
  rw [← hiw] at t12
  have FPi : SliceN X4 ip l p := by rw [hip]; exact sliceN_cg (own_pre Fv42 hfp) (fun j hj => cat2_lo hj)
  have FIi : SliceI X4 ib n bs := by rw [hib]; exact (own_preI Fv47 hfb).cg fun j hj => catI_lo hj
  have FJi : SliceI X4 iw m ws := by rw [hiw]; exact (own_preI Fv52 hfw).cg fun j hj => catI_lo hj
  have hnip : ∀ l c, ip = .slice none l c → c = 0 := fun l c e => by rw [hip] at e; cases e
  refine wp_seq ?_
  refine wp_region_sq (σ := Value) 309 [(0, 66), (1, 67), (2, 68), (3, 65), (4, 69), (5, 70), (6, 71), (7, 13), (8, 14), (9, 15)] (fun j_ s X => match j_ with | 0 => Below X4.heap.size X4 X | 1 => Below X4.heap.size X4 X | 2 => Below X4.heap.size X4 X | 3 => Below X4.heap.size X4 X ∧ X.ownsRow (X4.heap.size) 3 1 s (allN p l bs n) (intsL (allN p l bs n) (fun i => (dA p l bs i : Int))) | 4 => Below X4.heap.size X4 X ∧ X.ownsRow (X4.heap.size) 3 1 s (allN p l bs n) (intsL (allN p l bs n) (fun i => (dA p l bs i : Int))) | 5 => Below X4.heap.size X4 X ∧ X.ownsRow (X4.heap.size) 3 1 s (allN p l bs n) (intsL (allN p l bs n) (fun i => (dA p l bs i : Int))) | 6 => Below X4.heap.size X4 X ∧ X.ownsRow (X4.heap.size) 3 1 s (allN p l bs n) (intsL (allN p l bs n) (fun i => (dA p l bs i : Int))) | 7 => Below X4.heap.size X4 X ∧ X.ownsRow (X4.heap.size) 3 1 s (allN p l bs n) (intsL (allN p l bs n) (fun i => (dA p l bs i : Int))) | 8 => Below X4.heap.size X4 X ∧ X.ownsRow (X4.heap.size) 3 1 s (allN p l bs n) (intsL (allN p l bs n) (fun i => (dA p l bs i : Int))) | 9 => Below X4.heap.size X4 X ∧ X.ownsRow (X4.heap.size) 3 1 s (allN p l bs n) (intsL (allN p l bs n) (fun i => (dA p l bs i : Int))) | _ => Below X4.heap.size X4 X ∧ X.ownsRow (X4.heap.size) 3 1 s (allN p l bs n) (intsL (allN p l bs n) (fun i => (dA p l bs i : Int)))) (fun s => fun i_ => match i_ with | 0 => ip | 1 => ib | 2 => .tuple #[s, .int .i64 ((allK p l bs n : Nat) : Int), .int .i64 ((allE p l bs n : Nat) : Int)] | 3 => .tuple #[s, .int .i64 ((allK p l bs n : Nat) : Int), .int .i64 ((allE p l bs n : Nat) : Int)] | 4 => s | 5 => .int .i64 ((allK p l bs n : Nat) : Int) | 6 => .int .i64 ((allE p l bs n : Nat) : Int) | 7 => s | 8 => .int .i64 ((allK p l bs n : Nat) : Int) | 9 => .int .i64 ((allE p l bs n : Nat) : Int) | _ => undef) undef A.1 (by kernel_rfl) (by decide) (by decide) (Below.refl _ _) ?_ ?_
  · intro i_ hi_ s a X hf hv hn hS
    match i_, hi_ with
    | 0, _ => exact stepV rfl rfl (execMvB rfl ((hf 10 (by decide)).trans t10)) ⟨s, ⟨_, rfl, rfl⟩, hS, fun _ _ => rfl⟩
    | 1, _ => exact stepV rfl rfl (execMvB rfl ((hf 11 (by decide)).trans t11)) ⟨s, ⟨_, rfl, rfl⟩, hS, fun _ _ => rfl⟩
    | 2, _ =>
      refine stepC rfl rfl (execCall2 Try.func17 (by kernel_rfl) (by kernel_rfl) rfl (hv 0 (by omega) _ rfl _ rfl) (hv 1 (by omega) _ rfl _ rfl)) (I.all p l bs n _ _ X (FPi.on hS) hl (FIi.on hS) (by omega)) fun e w' hh => ?_
      obtain ⟨r_, he, hk, hb⟩ := hh
      refine ⟨_, he, r_, ⟨_, rfl, rfl⟩, ⟨(hS).trans ((hb).mono (hS).size), ownD_base hk (hS).size⟩, fun i hi => ?_⟩
      match i, hi with
      | 0, _ => rfl
      | 1, _ => rfl
      | n_ + 2, h_ => omega
    | 3, _ => exact stepV rfl rfl (execMvB rfl (hv 2 (by omega) _ rfl _ rfl)) ⟨s, ⟨_, rfl, rfl⟩, hS, fun _ _ => rfl⟩
    | 4, _ => exact stepV rfl rfl (execExtT rfl (hv 3 (by omega) _ rfl _ rfl) rfl) ⟨s, ⟨_, rfl, rfl⟩, hS, fun _ _ => rfl⟩
    | 5, _ => exact stepV rfl rfl (execExtT rfl (hv 3 (by omega) _ rfl _ rfl) rfl) ⟨s, ⟨_, rfl, rfl⟩, hS, fun _ _ => rfl⟩
    | 6, _ => exact stepV rfl rfl (execExtT rfl (hv 3 (by omega) _ rfl _ rfl) rfl) ⟨s, ⟨_, rfl, rfl⟩, hS, fun _ _ => rfl⟩
    | 7, _ => exact stepV rfl rfl (execAsgB rfl (hv 4 (by omega) _ rfl _ rfl)) ⟨s, ⟨_, rfl, rfl⟩, hS, fun _ _ => rfl⟩
    | 8, _ => exact stepV rfl rfl (execAsgB rfl (hv 5 (by omega) _ rfl _ rfl)) ⟨s, ⟨_, rfl, rfl⟩, hS, fun _ _ => rfl⟩
    | 9, _ => exact stepV rfl rfl (execAsgB rfl (hv 6 (by omega) _ rfl _ rfl)) ⟨s, ⟨_, rfl, rfl⟩, hS, fun _ _ => rfl⟩
    | k_ + 10, h_ => exact absurd h_ (by simp)
  rintro v68 a X5 h1 h2 h3 h4 hS
  replace hS : Below X4.heap.size X4 X5 ∧ X5.ownsRow (X4.heap.size) 3 1 v68 (allN p l bs n) (intsL (allN p l bs n) (fun i => (dA p l bs i : Int))) := hS
  obtain ⟨bX, Fv68⟩ := hS
  replace t0 := (h3 0 (by decide)).trans t0
  replace t1 := (h3 1 (by decide)).trans t1
  replace t2 := (h3 2 (by decide)).trans t2
  replace t7 := (h3 7 (by decide)).trans t7
  replace t8 := (h3 8 (by decide)).trans t8
  replace t9 := (h3 9 (by decide)).trans t9
  replace t10 := (h3 10 (by decide)).trans t10
  replace t11 := (h3 11 (by decide)).trans t11
  replace t12 := (h3 12 (by decide)).trans t12
  have t13 : a.eval (.tmp 13) = v68 := h4 7 _ rfl _ rfl
  have t14 : a.eval (.tmp 14) = .int .i64 ((allK p l bs n : Nat) : Int) := h4 8 _ rfl _ rfl
  have t15 : a.eval (.tmp 15) = .int .i64 ((allE p l bs n : Nat) : Int) := h4 9 _ rfl _ rfl
  replace FPv := (FPv.on bX)
  replace FI := (FI.on bX)
  replace FJ := (FJ.on bX)
  replace Fv42 := (ownsRow_below Fv42 bX)
  replace Fv47 := (ownD_below Fv47 bX)
  replace Fv52 := (ownD_below Fv52 bX)
  replace FPi := (FPi.on bX)
  replace FIi := (FIi.on bX)
  replace FJi := (FJi.on bX)
  have ZX5 := bX.size
  replace BW := BW.trans (bX.mono BW.size)
  clear bX
  replace A := (⟨h1, h2.trans A.2⟩ : a.tmps.size = 309 ∧ a.defers = [])
  clear h1 h2 h3 h4
  have Pa := Fv68.lt
  refine wp_seq ?_
  refine wp_region_sq (σ := Value) 309 [(0, 73), (1, 74), (2, 75), (3, 72), (4, 76), (5, 77), (6, 78), (7, 16), (8, 17), (9, 18)] (fun j_ s X => match j_ with | 0 => Below X5.heap.size X5 X | 1 => Below X5.heap.size X5 X | 2 => Below X5.heap.size X5 X | 3 => Below X5.heap.size X5 X ∧ X.ownsRow (X5.heap.size) 3 1 s (allN p l bs n) (intsL (allN p l bs n) (fun i => (dA p l bs i : Int))) | 4 => Below X5.heap.size X5 X ∧ X.ownsRow (X5.heap.size) 3 1 s (allN p l bs n) (intsL (allN p l bs n) (fun i => (dA p l bs i : Int))) | 5 => Below X5.heap.size X5 X ∧ X.ownsRow (X5.heap.size) 3 1 s (allN p l bs n) (intsL (allN p l bs n) (fun i => (dA p l bs i : Int))) | 6 => Below X5.heap.size X5 X ∧ X.ownsRow (X5.heap.size) 3 1 s (allN p l bs n) (intsL (allN p l bs n) (fun i => (dA p l bs i : Int))) | 7 => Below X5.heap.size X5 X ∧ X.ownsRow (X5.heap.size) 3 1 s (allN p l bs n) (intsL (allN p l bs n) (fun i => (dA p l bs i : Int))) | 8 => Below X5.heap.size X5 X ∧ X.ownsRow (X5.heap.size) 3 1 s (allN p l bs n) (intsL (allN p l bs n) (fun i => (dA p l bs i : Int))) | 9 => Below X5.heap.size X5 X ∧ X.ownsRow (X5.heap.size) 3 1 s (allN p l bs n) (intsL (allN p l bs n) (fun i => (dA p l bs i : Int))) | _ => Below X5.heap.size X5 X ∧ X.ownsRow (X5.heap.size) 3 1 s (allN p l bs n) (intsL (allN p l bs n) (fun i => (dA p l bs i : Int)))) (fun s => fun i_ => match i_ with | 0 => ip | 1 => ib | 2 => .tuple #[s, .int .i64 ((allK p l bs n : Nat) : Int), .int .i64 ((allE p l bs n : Nat) : Int)] | 3 => .tuple #[s, .int .i64 ((allK p l bs n : Nat) : Int), .int .i64 ((allE p l bs n : Nat) : Int)] | 4 => s | 5 => .int .i64 ((allK p l bs n : Nat) : Int) | 6 => .int .i64 ((allE p l bs n : Nat) : Int) | 7 => s | 8 => .int .i64 ((allK p l bs n : Nat) : Int) | 9 => .int .i64 ((allE p l bs n : Nat) : Int) | _ => undef) undef A.1 (by kernel_rfl) (by decide) (by decide) (Below.refl _ _) ?_ ?_
  · intro i_ hi_ s a X hf hv hn hS
    match i_, hi_ with
    | 0, _ => exact stepV rfl rfl (execMvB rfl ((hf 10 (by decide)).trans t10)) ⟨s, ⟨_, rfl, rfl⟩, hS, fun _ _ => rfl⟩
    | 1, _ => exact stepV rfl rfl (execMvB rfl ((hf 11 (by decide)).trans t11)) ⟨s, ⟨_, rfl, rfl⟩, hS, fun _ _ => rfl⟩
    | 2, _ =>
      refine stepC rfl rfl (execCall2 Try.func17 (by kernel_rfl) (by kernel_rfl) rfl (hv 0 (by omega) _ rfl _ rfl) (hv 1 (by omega) _ rfl _ rfl)) (I.all p l bs n _ _ X (FPi.on hS) hl (FIi.on hS) (by omega)) fun e w' hh => ?_
      obtain ⟨r_, he, hk, hb⟩ := hh
      refine ⟨_, he, r_, ⟨_, rfl, rfl⟩, ⟨(hS).trans ((hb).mono (hS).size), ownD_base hk (hS).size⟩, fun i hi => ?_⟩
      match i, hi with
      | 0, _ => rfl
      | 1, _ => rfl
      | n_ + 2, h_ => omega
    | 3, _ => exact stepV rfl rfl (execMvB rfl (hv 2 (by omega) _ rfl _ rfl)) ⟨s, ⟨_, rfl, rfl⟩, hS, fun _ _ => rfl⟩
    | 4, _ => exact stepV rfl rfl (execExtT rfl (hv 3 (by omega) _ rfl _ rfl) rfl) ⟨s, ⟨_, rfl, rfl⟩, hS, fun _ _ => rfl⟩
    | 5, _ => exact stepV rfl rfl (execExtT rfl (hv 3 (by omega) _ rfl _ rfl) rfl) ⟨s, ⟨_, rfl, rfl⟩, hS, fun _ _ => rfl⟩
    | 6, _ => exact stepV rfl rfl (execExtT rfl (hv 3 (by omega) _ rfl _ rfl) rfl) ⟨s, ⟨_, rfl, rfl⟩, hS, fun _ _ => rfl⟩
    | 7, _ => exact stepV rfl rfl (execAsgB rfl (hv 4 (by omega) _ rfl _ rfl)) ⟨s, ⟨_, rfl, rfl⟩, hS, fun _ _ => rfl⟩
    | 8, _ => exact stepV rfl rfl (execAsgB rfl (hv 5 (by omega) _ rfl _ rfl)) ⟨s, ⟨_, rfl, rfl⟩, hS, fun _ _ => rfl⟩
    | 9, _ => exact stepV rfl rfl (execAsgB rfl (hv 6 (by omega) _ rfl _ rfl)) ⟨s, ⟨_, rfl, rfl⟩, hS, fun _ _ => rfl⟩
    | k_ + 10, h_ => exact absurd h_ (by simp)
  rintro v75 a X6 h1 h2 h3 h4 hS
  replace hS : Below X5.heap.size X5 X6 ∧ X6.ownsRow (X5.heap.size) 3 1 v75 (allN p l bs n) (intsL (allN p l bs n) (fun i => (dA p l bs i : Int))) := hS
  obtain ⟨bX, Fv75⟩ := hS
  replace t0 := (h3 0 (by decide)).trans t0
  replace t1 := (h3 1 (by decide)).trans t1
  replace t2 := (h3 2 (by decide)).trans t2
  replace t7 := (h3 7 (by decide)).trans t7
  replace t8 := (h3 8 (by decide)).trans t8
  replace t9 := (h3 9 (by decide)).trans t9
  replace t10 := (h3 10 (by decide)).trans t10
  replace t11 := (h3 11 (by decide)).trans t11
  replace t12 := (h3 12 (by decide)).trans t12
  replace t13 := (h3 13 (by decide)).trans t13
  replace t14 := (h3 14 (by decide)).trans t14
  replace t15 := (h3 15 (by decide)).trans t15
  have t16 : a.eval (.tmp 16) = v75 := h4 7 _ rfl _ rfl
  have t17 : a.eval (.tmp 17) = .int .i64 ((allK p l bs n : Nat) : Int) := h4 8 _ rfl _ rfl
  have t18 : a.eval (.tmp 18) = .int .i64 ((allE p l bs n : Nat) : Int) := h4 9 _ rfl _ rfl
  replace FPv := (FPv.on bX)
  replace FI := (FI.on bX)
  replace FJ := (FJ.on bX)
  replace Fv42 := (ownsRow_below Fv42 bX)
  replace Fv47 := (ownD_below Fv47 bX)
  replace Fv52 := (ownD_below Fv52 bX)
  replace FPi := (FPi.on bX)
  replace FIi := (FIi.on bX)
  replace FJi := (FJi.on bX)
  replace Fv68 := (ownD_below Fv68 bX)
  have ZX6 := bX.size
  replace BW := BW.trans (bX.mono BW.size)
  clear bX
  replace A := (⟨h1, h2.trans A.2⟩ : a.tmps.size = 309 ∧ a.defers = [])
  clear h1 h2 h3 h4
  have Pb := Fv75.lt
  refine wp_seq ?_
  refine wp_region_sq (σ := Value) 309 [(0, 80), (1, 81), (2, 82), (3, 83), (4, 79), (5, 84), (6, 85), (7, 19), (8, 20)] (fun j_ s X => match j_ with | 0 => Below X6.heap.size X6 X | 1 => Below X6.heap.size X6 X | 2 => Below X6.heap.size X6 X | 3 => Below X6.heap.size X6 X | 4 => Below X6.heap.size X6 X ∧ TkA X (X6.heap.size) s (trN p l bs n ws m) (trF p l bs ws n) | 5 => Below X6.heap.size X6 X ∧ TkA X (X6.heap.size) s (trN p l bs n ws m) (trF p l bs ws n) | 6 => Below X6.heap.size X6 X ∧ TkA X (X6.heap.size) s (trN p l bs n ws m) (trF p l bs ws n) | 7 => Below X6.heap.size X6 X ∧ TkA X (X6.heap.size) s (trN p l bs n ws m) (trF p l bs ws n) | 8 => Below X6.heap.size X6 X ∧ TkA X (X6.heap.size) s (trN p l bs n ws m) (trF p l bs ws n) | _ => Below X6.heap.size X6 X ∧ TkA X (X6.heap.size) s (trN p l bs n ws m) (trF p l bs ws n)) (fun s => fun i_ => match i_ with | 0 => ip | 1 => ib | 2 => iw | 3 => .tuple #[s, .int .i64 ((trE p l bs n ws m : Nat) : Int)] | 4 => .tuple #[s, .int .i64 ((trE p l bs n ws m : Nat) : Int)] | 5 => s | 6 => .int .i64 ((trE p l bs n ws m : Nat) : Int) | 7 => s | 8 => .int .i64 ((trE p l bs n ws m : Nat) : Int) | _ => undef) undef A.1 (by kernel_rfl) (by decide) (by decide) (Below.refl _ _) ?_ ?_
  · intro i_ hi_ s a X hf hv hn hS
    match i_, hi_ with
    | 0, _ => exact stepV rfl rfl (execMvB rfl ((hf 10 (by decide)).trans t10)) ⟨s, ⟨_, rfl, rfl⟩, hS, fun _ _ => rfl⟩
    | 1, _ => exact stepV rfl rfl (execMvB rfl ((hf 11 (by decide)).trans t11)) ⟨s, ⟨_, rfl, rfl⟩, hS, fun _ _ => rfl⟩
    | 2, _ => exact stepV rfl rfl (execMvB rfl ((hf 12 (by decide)).trans t12)) ⟨s, ⟨_, rfl, rfl⟩, hS, fun _ _ => rfl⟩
    | 3, _ =>
      refine stepC rfl rfl (execCall3 Try.func20 (by kernel_rfl) (by kernel_rfl) rfl (hv 0 (by omega) _ rfl _ rfl) (hv 1 (by omega) _ rfl _ rfl) (hv 2 (by omega) _ rfl _ rfl)) (I.turn p l bs ws n m _ _ _ X (FPi.on hS) hl hnip (FIi.on hS) (by omega) (FJi.on hS) (by omega)) fun e w' hh => ?_
      obtain ⟨r_, he, hk, hb⟩ := hh
      refine ⟨_, he, r_, ⟨_, rfl, rfl⟩, ⟨(hS).trans ((hb).mono (hS).size), hk.base (hS).size⟩, fun i hi => ?_⟩
      match i, hi with
      | 0, _ => rfl
      | 1, _ => rfl
      | 2, _ => rfl
      | n_ + 3, h_ => omega
    | 4, _ => exact stepV rfl rfl (execMvB rfl (hv 3 (by omega) _ rfl _ rfl)) ⟨s, ⟨_, rfl, rfl⟩, hS, fun _ _ => rfl⟩
    | 5, _ => exact stepV rfl rfl (execExtT rfl (hv 4 (by omega) _ rfl _ rfl) rfl) ⟨s, ⟨_, rfl, rfl⟩, hS, fun _ _ => rfl⟩
    | 6, _ => exact stepV rfl rfl (execExtT rfl (hv 4 (by omega) _ rfl _ rfl) rfl) ⟨s, ⟨_, rfl, rfl⟩, hS, fun _ _ => rfl⟩
    | 7, _ => exact stepV rfl rfl (execAsgB rfl (hv 5 (by omega) _ rfl _ rfl)) ⟨s, ⟨_, rfl, rfl⟩, hS, fun _ _ => rfl⟩
    | 8, _ => exact stepV rfl rfl (execAsgB rfl (hv 6 (by omega) _ rfl _ rfl)) ⟨s, ⟨_, rfl, rfl⟩, hS, fun _ _ => rfl⟩
    | k_ + 9, h_ => exact absurd h_ (by simp)
  rintro v83 a X7 h1 h2 h3 h4 hS
  replace hS : Below X6.heap.size X6 X7 ∧ TkA X7 (X6.heap.size) v83 (trN p l bs n ws m) (trF p l bs ws n) := hS
  obtain ⟨bX, Fv83⟩ := hS
  replace t0 := (h3 0 (by decide)).trans t0
  replace t1 := (h3 1 (by decide)).trans t1
  replace t2 := (h3 2 (by decide)).trans t2
  replace t7 := (h3 7 (by decide)).trans t7
  replace t8 := (h3 8 (by decide)).trans t8
  replace t9 := (h3 9 (by decide)).trans t9
  replace t10 := (h3 10 (by decide)).trans t10
  replace t11 := (h3 11 (by decide)).trans t11
  replace t12 := (h3 12 (by decide)).trans t12
  replace t13 := (h3 13 (by decide)).trans t13
  replace t14 := (h3 14 (by decide)).trans t14
  replace t15 := (h3 15 (by decide)).trans t15
  replace t16 := (h3 16 (by decide)).trans t16
  replace t17 := (h3 17 (by decide)).trans t17
  replace t18 := (h3 18 (by decide)).trans t18
  have t19 : a.eval (.tmp 19) = v83 := h4 7 _ rfl _ rfl
  have t20 : a.eval (.tmp 20) = .int .i64 ((trE p l bs n ws m : Nat) : Int) := h4 8 _ rfl _ rfl
  replace FPv := (FPv.on bX)
  replace FI := (FI.on bX)
  replace FJ := (FJ.on bX)
  replace Fv42 := (ownsRow_below Fv42 bX)
  replace Fv47 := (ownD_below Fv47 bX)
  replace Fv52 := (ownD_below Fv52 bX)
  replace FPi := (FPi.on bX)
  replace FIi := (FIi.on bX)
  replace FJi := (FJi.on bX)
  replace Fv68 := (ownD_below Fv68 bX)
  replace Fv75 := (ownD_below Fv75 bX)
  have ZX7 := bX.size
  replace BW := BW.trans (bX.mono BW.size)
  clear bX
  replace A := (⟨h1, h2.trans A.2⟩ : a.tmps.size = 309 ∧ a.defers = [])
  clear h1 h2 h3 h4
  have Px := tk_lt Fv83
  refine wp_seq ?_
  refine wp_region_sq (σ := Value) 309 [(0, 87), (1, 88), (2, 89), (3, 90), (4, 86), (5, 91), (6, 92), (7, 21), (8, 22)] (fun j_ s X => match j_ with | 0 => Below X7.heap.size X7 X | 1 => Below X7.heap.size X7 X | 2 => Below X7.heap.size X7 X | 3 => Below X7.heap.size X7 X | 4 => Below X7.heap.size X7 X ∧ TkA X (X7.heap.size) s (trN p l bs n ws m) (trF p l bs ws n) | 5 => Below X7.heap.size X7 X ∧ TkA X (X7.heap.size) s (trN p l bs n ws m) (trF p l bs ws n) | 6 => Below X7.heap.size X7 X ∧ TkA X (X7.heap.size) s (trN p l bs n ws m) (trF p l bs ws n) | 7 => Below X7.heap.size X7 X ∧ TkA X (X7.heap.size) s (trN p l bs n ws m) (trF p l bs ws n) | 8 => Below X7.heap.size X7 X ∧ TkA X (X7.heap.size) s (trN p l bs n ws m) (trF p l bs ws n) | _ => Below X7.heap.size X7 X ∧ TkA X (X7.heap.size) s (trN p l bs n ws m) (trF p l bs ws n)) (fun s => fun i_ => match i_ with | 0 => ip | 1 => ib | 2 => iw | 3 => .tuple #[s, .int .i64 ((trE p l bs n ws m : Nat) : Int)] | 4 => .tuple #[s, .int .i64 ((trE p l bs n ws m : Nat) : Int)] | 5 => s | 6 => .int .i64 ((trE p l bs n ws m : Nat) : Int) | 7 => s | 8 => .int .i64 ((trE p l bs n ws m : Nat) : Int) | _ => undef) undef A.1 (by kernel_rfl) (by decide) (by decide) (Below.refl _ _) ?_ ?_
  · intro i_ hi_ s a X hf hv hn hS
    match i_, hi_ with
    | 0, _ => exact stepV rfl rfl (execMvB rfl ((hf 10 (by decide)).trans t10)) ⟨s, ⟨_, rfl, rfl⟩, hS, fun _ _ => rfl⟩
    | 1, _ => exact stepV rfl rfl (execMvB rfl ((hf 11 (by decide)).trans t11)) ⟨s, ⟨_, rfl, rfl⟩, hS, fun _ _ => rfl⟩
    | 2, _ => exact stepV rfl rfl (execMvB rfl ((hf 12 (by decide)).trans t12)) ⟨s, ⟨_, rfl, rfl⟩, hS, fun _ _ => rfl⟩
    | 3, _ =>
      refine stepC rfl rfl (execCall3 Try.func20 (by kernel_rfl) (by kernel_rfl) rfl (hv 0 (by omega) _ rfl _ rfl) (hv 1 (by omega) _ rfl _ rfl) (hv 2 (by omega) _ rfl _ rfl)) (I.turn p l bs ws n m _ _ _ X (FPi.on hS) hl hnip (FIi.on hS) (by omega) (FJi.on hS) (by omega)) fun e w' hh => ?_
      obtain ⟨r_, he, hk, hb⟩ := hh
      refine ⟨_, he, r_, ⟨_, rfl, rfl⟩, ⟨(hS).trans ((hb).mono (hS).size), hk.base (hS).size⟩, fun i hi => ?_⟩
      match i, hi with
      | 0, _ => rfl
      | 1, _ => rfl
      | 2, _ => rfl
      | n_ + 3, h_ => omega
    | 4, _ => exact stepV rfl rfl (execMvB rfl (hv 3 (by omega) _ rfl _ rfl)) ⟨s, ⟨_, rfl, rfl⟩, hS, fun _ _ => rfl⟩
    | 5, _ => exact stepV rfl rfl (execExtT rfl (hv 4 (by omega) _ rfl _ rfl) rfl) ⟨s, ⟨_, rfl, rfl⟩, hS, fun _ _ => rfl⟩
    | 6, _ => exact stepV rfl rfl (execExtT rfl (hv 4 (by omega) _ rfl _ rfl) rfl) ⟨s, ⟨_, rfl, rfl⟩, hS, fun _ _ => rfl⟩
    | 7, _ => exact stepV rfl rfl (execAsgB rfl (hv 5 (by omega) _ rfl _ rfl)) ⟨s, ⟨_, rfl, rfl⟩, hS, fun _ _ => rfl⟩
    | 8, _ => exact stepV rfl rfl (execAsgB rfl (hv 6 (by omega) _ rfl _ rfl)) ⟨s, ⟨_, rfl, rfl⟩, hS, fun _ _ => rfl⟩
    | k_ + 9, h_ => exact absurd h_ (by simp)
  rintro v90 a X8 h1 h2 h3 h4 hS
  replace hS : Below X7.heap.size X7 X8 ∧ TkA X8 (X7.heap.size) v90 (trN p l bs n ws m) (trF p l bs ws n) := hS
  obtain ⟨bX, Fv90⟩ := hS
  replace t0 := (h3 0 (by decide)).trans t0
  replace t1 := (h3 1 (by decide)).trans t1
  replace t2 := (h3 2 (by decide)).trans t2
  replace t7 := (h3 7 (by decide)).trans t7
  replace t8 := (h3 8 (by decide)).trans t8
  replace t9 := (h3 9 (by decide)).trans t9
  replace t10 := (h3 10 (by decide)).trans t10
  replace t11 := (h3 11 (by decide)).trans t11
  replace t12 := (h3 12 (by decide)).trans t12
  replace t13 := (h3 13 (by decide)).trans t13
  replace t14 := (h3 14 (by decide)).trans t14
  replace t15 := (h3 15 (by decide)).trans t15
  replace t16 := (h3 16 (by decide)).trans t16
  replace t17 := (h3 17 (by decide)).trans t17
  replace t18 := (h3 18 (by decide)).trans t18
  replace t19 := (h3 19 (by decide)).trans t19
  replace t20 := (h3 20 (by decide)).trans t20
  have t21 : a.eval (.tmp 21) = v90 := h4 7 _ rfl _ rfl
  have t22 : a.eval (.tmp 22) = .int .i64 ((trE p l bs n ws m : Nat) : Int) := h4 8 _ rfl _ rfl
  replace FPv := (FPv.on bX)
  replace FI := (FI.on bX)
  replace FJ := (FJ.on bX)
  replace Fv42 := (ownsRow_below Fv42 bX)
  replace Fv47 := (ownD_below Fv47 bX)
  replace Fv52 := (ownD_below Fv52 bX)
  replace FPi := (FPi.on bX)
  replace FIi := (FIi.on bX)
  replace FJi := (FJi.on bX)
  replace Fv68 := (ownD_below Fv68 bX)
  replace Fv75 := (ownD_below Fv75 bX)
  replace Fv83 := (Fv83.on bX)
  have ZX8 := bX.size
  replace BW := BW.trans (bX.mono BW.size)
  clear bX
  replace A := (⟨h1, h2.trans A.2⟩ : a.tmps.size = 309 ∧ a.defers = [])
  clear h1 h2 h3 h4
  have Py := tk_lt Fv90
  refine wp_seq ?_
  refine wp_seq ?_
  refine wp_region_sq (σ := Unit) 309 [(0, 93), (1, 94), (2, 95), (3, 96), (4, 97), (5, 98), (6, 99), (7, 100), (8, 101), (9, 102), (10, 103), (11, 104), (12, 105), (13, 106), (14, 107), (15, 108), (16, 109), (17, 110), (18, 111), (19, 112), (20, 113), (21, 114), (22, 115), (23, 116), (24, 117), (25, 118), (26, 119), (27, 120), (28, 121), (29, 122), (30, 123), (31, 124), (32, 125), (33, 126), (34, 127), (35, 128), (36, 129), (37, 130), (38, 131), (39, 132), (40, 133), (41, 134), (42, 135), (43, 136), (44, 137)] (fun j_ s X => match j_ with | 0 => Below X8.heap.size X8 X | 1 => Below X8.heap.size X8 X | 2 => Below X8.heap.size X8 X | 3 => Below X8.heap.size X8 X | 4 => Below X8.heap.size X8 X | 5 => Below X8.heap.size X8 X | 6 => Below X8.heap.size X8 X | 7 => Below X8.heap.size X8 X | 8 => Below X8.heap.size X8 X | 9 => Below X8.heap.size X8 X | 10 => Below X8.heap.size X8 X | 11 => Below X8.heap.size X8 X | 12 => Below X8.heap.size X8 X | 13 => Below X8.heap.size X8 X | 14 => Below X8.heap.size X8 X | 15 => Below X8.heap.size X8 X | 16 => Below X8.heap.size X8 X | 17 => Below X8.heap.size X8 X | 18 => Below X8.heap.size X8 X | 19 => Below X8.heap.size X8 X | 20 => Below X8.heap.size X8 X | 21 => Below X8.heap.size X8 X | 22 => Below X8.heap.size X8 X | 23 => Below X8.heap.size X8 X | 24 => Below X8.heap.size X8 X | 25 => Below X8.heap.size X8 X | 26 => Below X8.heap.size X8 X | 27 => Below X8.heap.size X8 X | 28 => Below X8.heap.size X8 X | 29 => Below X8.heap.size X8 X | 30 => Below X8.heap.size X8 X | 31 => Below X8.heap.size X8 X | 32 => Below X8.heap.size X8 X | 33 => Below X8.heap.size X8 X | 34 => Below X8.heap.size X8 X | 35 => Below X8.heap.size X8 X | 36 => Below X8.heap.size X8 X | 37 => Below X8.heap.size X8 X | 38 => Below X8.heap.size X8 X | 39 => Below X8.heap.size X8 X | 40 => Below X8.heap.size X8 X | 41 => Below X8.heap.size X8 X | 42 => Below X8.heap.size X8 X | 43 => Below X8.heap.size X8 X | 44 => Below X8.heap.size X8 X | _ => Below X8.heap.size X8 X) (fun s => fun i_ => match i_ with | 0 => .int .i64 ((allK p l bs n : Nat) : Int) | 1 => .int .i64 ((allK p l bs n : Nat) : Int) | 2 => .bool false | 3 => .bool false | 4 => .int .i64 ((allE p l bs n : Nat) : Int) | 5 => .int .i64 ((allE p l bs n : Nat) : Int) | 6 => .bool false | 7 => .bool false | 8 => .bool false | 9 => .int .i64 ((trE p l bs n ws m : Nat) : Int) | 10 => .int .i64 ((trE p l bs n ws m : Nat) : Int) | 11 => .bool false | 12 => .bool false | 13 => .bool false | 14 => v68 | 15 => v75 | 16 => .bool true | 17 => .bool false | 18 => .bool false | 19 => .bool false | 20 => v83 | 21 => .string (strN (trF p l bs ws n) (trN p l bs n ws m)) | 22 => v90 | 23 => .string (strN (trF p l bs ws n) (trN p l bs n ws m)) | 24 => .bool false | 25 => .bool false | 26 => .bool false | 27 => ip | 28 => .string (strN (p) (l)) | 29 => pv | 30 => .string (strN (p) (l)) | 31 => .bool false | 32 => .bool false | 33 => .bool false | 34 => ib | 35 => bv | 36 => .bool true | 37 => .bool false | 38 => .bool false | 39 => .bool false | 40 => iw | 41 => wv | 42 => .bool true | 43 => .bool false | 44 => .bool false | _ => undef) () A.1 (by kernel_rfl) (by decide) (by decide) (Below.refl _ _) ?_ ?_
  · intro i_ hi_ s a X hf hv hn hS
    match i_, hi_ with
    | 0, _ => exact stepV rfl rfl (execMvB rfl ((hf 14 (by decide)).trans t14)) ⟨s, ⟨_, rfl, rfl⟩, hS, fun _ _ => rfl⟩
    | 1, _ => exact stepV rfl rfl (execMvB rfl ((hf 17 (by decide)).trans t17)) ⟨s, ⟨_, rfl, rfl⟩, hS, fun _ _ => rfl⟩
    | 2, _ => exact stepV rfl rfl (execDec (execNeN (p := allK p l bs n) (q := allK p l bs n) rfl (hv 0 (by omega) _ rfl _ rfl) (hv 1 (by omega) _ rfl _ rfl)) (decide_eq_false (by omega))) ⟨s, ⟨_, rfl, rfl⟩, hS, fun _ _ => rfl⟩
    | 3, _ => exact stepV rfl rfl (execMvB rfl (hv 2 (by omega) _ rfl _ rfl)) ⟨s, ⟨_, rfl, rfl⟩, hS, fun _ _ => rfl⟩
    | 4, _ => exact stepV rfl (wantedOf rfl (yieldedAt rfl rfl (show a.eval (.tmp 96) = .bool false from (hv 3 (by omega) _ rfl _ rfl)))) (execMvB rfl ((hf 15 (by decide)).trans t15)) ⟨s, ⟨_, rfl, rfl⟩, hS, fun _ _ => rfl⟩
    | 5, _ => exact stepV rfl (wantedOf rfl (yieldedAt rfl rfl (show a.eval (.tmp 96) = .bool false from (hv 3 (by omega) _ rfl _ rfl)))) (execMvB rfl ((hf 18 (by decide)).trans t18)) ⟨s, ⟨_, rfl, rfl⟩, hS, fun _ _ => rfl⟩
    | 6, _ => exact stepV rfl (wantedOf rfl (yieldedAt rfl rfl (show a.eval (.tmp 96) = .bool false from (hv 3 (by omega) _ rfl _ rfl)))) (execDec (execNeE (p := allE p l bs n) (q := allE p l bs n) rfl (hv 4 (by omega) _ rfl _ rfl) (hv 5 (by omega) _ rfl _ rfl)) (decide_eq_false (by omega))) ⟨s, ⟨_, rfl, rfl⟩, hS, fun _ _ => rfl⟩
    | 7, _ => exact stepV rfl rfl (execPickF rfl (hv 3 (by omega) _ rfl _ rfl) (hv 6 (by omega) _ rfl _ rfl)) ⟨s, ⟨_, rfl, rfl⟩, hS, fun _ _ => rfl⟩
    | 8, _ => exact stepV rfl rfl (execMvB rfl (hv 7 (by omega) _ rfl _ rfl)) ⟨s, ⟨_, rfl, rfl⟩, hS, fun _ _ => rfl⟩
    | 9, _ => exact stepV rfl (wantedOf rfl (yieldedAt rfl rfl (show a.eval (.tmp 101) = .bool false from (hv 8 (by omega) _ rfl _ rfl)))) (execMvB rfl ((hf 20 (by decide)).trans t20)) ⟨s, ⟨_, rfl, rfl⟩, hS, fun _ _ => rfl⟩
    | 10, _ => exact stepV rfl (wantedOf rfl (yieldedAt rfl rfl (show a.eval (.tmp 101) = .bool false from (hv 8 (by omega) _ rfl _ rfl)))) (execMvB rfl ((hf 22 (by decide)).trans t22)) ⟨s, ⟨_, rfl, rfl⟩, hS, fun _ _ => rfl⟩
    | 11, _ => exact stepV rfl (wantedOf rfl (yieldedAt rfl rfl (show a.eval (.tmp 101) = .bool false from (hv 8 (by omega) _ rfl _ rfl)))) (execDec (execNeE (p := trE p l bs n ws m) (q := trE p l bs n ws m) rfl (hv 9 (by omega) _ rfl _ rfl) (hv 10 (by omega) _ rfl _ rfl)) (decide_eq_false (by omega))) ⟨s, ⟨_, rfl, rfl⟩, hS, fun _ _ => rfl⟩
    | 12, _ => exact stepV rfl rfl (execPickF rfl (hv 8 (by omega) _ rfl _ rfl) (hv 11 (by omega) _ rfl _ rfl)) ⟨s, ⟨_, rfl, rfl⟩, hS, fun _ _ => rfl⟩
    | 13, _ => exact stepV rfl rfl (execMvB rfl (hv 12 (by omega) _ rfl _ rfl)) ⟨s, ⟨_, rfl, rfl⟩, hS, fun _ _ => rfl⟩
    | 14, _ => exact stepV rfl (wantedOf rfl (yieldedAt rfl rfl (show a.eval (.tmp 106) = .bool false from (hv 13 (by omega) _ rfl _ rfl)))) (execMvB rfl ((hf 13 (by decide)).trans t13)) ⟨s, ⟨_, rfl, rfl⟩, hS, fun _ _ => rfl⟩
    | 15, _ => exact stepV rfl (wantedOf rfl (yieldedAt rfl rfl (show a.eval (.tmp 106) = .bool false from (hv 13 (by omega) _ rfl _ rfl)))) (execMvB rfl ((hf 16 (by decide)).trans t16)) ⟨s, ⟨_, rfl, rfl⟩, hS, fun _ _ => rfl⟩
    | 16, _ => exact stepC rfl (wantedOf rfl (yieldedAt rfl rfl (show a.eval (.tmp 106) = .bool false from (hv 13 (by omega) _ rfl _ rfl)))) (execCall2 Try.func18 (by kernel_rfl) (by kernel_rfl) rfl (hv 14 (by omega) _ rfl _ rfl) (hv 15 (by omega) _ rfl _ rfl)) (sameI _ _ (allN p l bs n) _ _ X (own_ints (ownD_below Fv68 hS) (dA_fits _ _ _ _)) (own_ints (ownD_below Fv75 hS) (dA_fits _ _ _ _)) (by intro i hi; rfl) (by have := allN_le p l bs n; omega)) fun e w' hh => ⟨_, hh.1, s, ⟨_, rfl, rfl⟩, (hS).trans ((hh.2).mono (hS).size), fun _ _ => rfl⟩
    | 17, _ => exact stepV rfl (wantedOf rfl (yieldedAt rfl rfl (show a.eval (.tmp 106) = .bool false from (hv 13 (by omega) _ rfl _ rfl)))) (execNot8 rfl (hv 16 (by omega) _ rfl _ rfl)) ⟨s, ⟨_, rfl, rfl⟩, hS, fun _ _ => rfl⟩
    | 18, _ => exact stepV rfl rfl (execPickF rfl (hv 13 (by omega) _ rfl _ rfl) (hv 17 (by omega) _ rfl _ rfl)) ⟨s, ⟨_, rfl, rfl⟩, hS, fun _ _ => rfl⟩
    | 19, _ => exact stepV rfl rfl (execMvB rfl (hv 18 (by omega) _ rfl _ rfl)) ⟨s, ⟨_, rfl, rfl⟩, hS, fun _ _ => rfl⟩
    | 20, _ => exact stepV rfl (wantedOf rfl (yieldedAt rfl rfl (show a.eval (.tmp 112) = .bool false from (hv 19 (by omega) _ rfl _ rfl)))) (execMvB rfl ((hf 19 (by decide)).trans t19)) ⟨s, ⟨_, rfl, rfl⟩, hS, fun _ _ => rfl⟩
    | 21, _ => exact stepV rfl (wantedOf rfl (yieldedAt rfl rfl (show a.eval (.tmp 112) = .bool false from (hv 19 (by omega) _ rfl _ rfl)))) (By8.execStr rfl (hv 20 (by omega) _ rfl _ rfl) (Fv83.on hS).slice) ⟨s, ⟨_, rfl, rfl⟩, hS, fun _ _ => rfl⟩
    | 22, _ => exact stepV rfl (wantedOf rfl (yieldedAt rfl rfl (show a.eval (.tmp 112) = .bool false from (hv 19 (by omega) _ rfl _ rfl)))) (execMvB rfl ((hf 21 (by decide)).trans t21)) ⟨s, ⟨_, rfl, rfl⟩, hS, fun _ _ => rfl⟩
    | 23, _ => exact stepV rfl (wantedOf rfl (yieldedAt rfl rfl (show a.eval (.tmp 112) = .bool false from (hv 19 (by omega) _ rfl _ rfl)))) (By8.execStr rfl (hv 22 (by omega) _ rfl _ rfl) (Fv90.on hS).slice) ⟨s, ⟨_, rfl, rfl⟩, hS, fun _ _ => rfl⟩
    | 24, _ => exact stepV rfl (wantedOf rfl (yieldedAt rfl rfl (show a.eval (.tmp 112) = .bool false from (hv 19 (by omega) _ rfl _ rfl)))) (By8.execNeqS rfl (hv 21 (by omega) _ rfl _ rfl) (hv 23 (by omega) _ rfl _ rfl)) ⟨s, ⟨_, rfl, rfl⟩, hS, fun _ _ => rfl⟩
    | 25, _ => exact stepV rfl rfl (execPickF rfl (hv 19 (by omega) _ rfl _ rfl) (hv 24 (by omega) _ rfl _ rfl)) ⟨s, ⟨_, rfl, rfl⟩, hS, fun _ _ => rfl⟩
    | 26, _ => exact stepV rfl rfl (execMvB rfl (hv 25 (by omega) _ rfl _ rfl)) ⟨s, ⟨_, rfl, rfl⟩, hS, fun _ _ => rfl⟩
    | 27, _ => exact stepV rfl (wantedOf rfl (yieldedAt rfl rfl (show a.eval (.tmp 119) = .bool false from (hv 26 (by omega) _ rfl _ rfl)))) (execMvB rfl ((hf 10 (by decide)).trans t10)) ⟨s, ⟨_, rfl, rfl⟩, hS, fun _ _ => rfl⟩
    | 28, _ => exact stepV rfl (wantedOf rfl (yieldedAt rfl rfl (show a.eval (.tmp 119) = .bool false from (hv 26 (by omega) _ rfl _ rfl)))) (By8.execStr rfl (hv 27 (by omega) _ rfl _ rfl) (FPi.on hS)) ⟨s, ⟨_, rfl, rfl⟩, hS, fun _ _ => rfl⟩
    | 29, _ => exact stepV rfl (wantedOf rfl (yieldedAt rfl rfl (show a.eval (.tmp 119) = .bool false from (hv 26 (by omega) _ rfl _ rfl)))) (execMvB rfl ((hf 0 (by decide)).trans t0)) ⟨s, ⟨_, rfl, rfl⟩, hS, fun _ _ => rfl⟩
    | 30, _ => exact stepV rfl (wantedOf rfl (yieldedAt rfl rfl (show a.eval (.tmp 119) = .bool false from (hv 26 (by omega) _ rfl _ rfl)))) (By8.execStr rfl (hv 29 (by omega) _ rfl _ rfl) (FPv.on hS)) ⟨s, ⟨_, rfl, rfl⟩, hS, fun _ _ => rfl⟩
    | 31, _ => exact stepV rfl (wantedOf rfl (yieldedAt rfl rfl (show a.eval (.tmp 119) = .bool false from (hv 26 (by omega) _ rfl _ rfl)))) (By8.execNeqS rfl (hv 28 (by omega) _ rfl _ rfl) (hv 30 (by omega) _ rfl _ rfl)) ⟨s, ⟨_, rfl, rfl⟩, hS, fun _ _ => rfl⟩
    | 32, _ => exact stepV rfl rfl (execPickF rfl (hv 26 (by omega) _ rfl _ rfl) (hv 31 (by omega) _ rfl _ rfl)) ⟨s, ⟨_, rfl, rfl⟩, hS, fun _ _ => rfl⟩
    | 33, _ => exact stepV rfl rfl (execMvB rfl (hv 32 (by omega) _ rfl _ rfl)) ⟨s, ⟨_, rfl, rfl⟩, hS, fun _ _ => rfl⟩
    | 34, _ => exact stepV rfl (wantedOf rfl (yieldedAt rfl rfl (show a.eval (.tmp 126) = .bool false from (hv 33 (by omega) _ rfl _ rfl)))) (execMvB rfl ((hf 11 (by decide)).trans t11)) ⟨s, ⟨_, rfl, rfl⟩, hS, fun _ _ => rfl⟩
    | 35, _ => exact stepV rfl (wantedOf rfl (yieldedAt rfl rfl (show a.eval (.tmp 126) = .bool false from (hv 33 (by omega) _ rfl _ rfl)))) (execMvB rfl ((hf 1 (by decide)).trans t1)) ⟨s, ⟨_, rfl, rfl⟩, hS, fun _ _ => rfl⟩
    | 36, _ => exact stepC rfl (wantedOf rfl (yieldedAt rfl rfl (show a.eval (.tmp 126) = .bool false from (hv 33 (by omega) _ rfl _ rfl)))) (execCall2 Try.func18 (by kernel_rfl) (by kernel_rfl) rfl (hv 34 (by omega) _ rfl _ rfl) (hv 35 (by omega) _ rfl _ rfl)) (sameI _ _ (n) _ _ X (FIi.on hS) (FI.on hS) (by intro i hi; rfl) (by have := allN_le p l bs n; omega)) fun e w' hh => ⟨_, hh.1, s, ⟨_, rfl, rfl⟩, (hS).trans ((hh.2).mono (hS).size), fun _ _ => rfl⟩
    | 37, _ => exact stepV rfl (wantedOf rfl (yieldedAt rfl rfl (show a.eval (.tmp 126) = .bool false from (hv 33 (by omega) _ rfl _ rfl)))) (execNot8 rfl (hv 36 (by omega) _ rfl _ rfl)) ⟨s, ⟨_, rfl, rfl⟩, hS, fun _ _ => rfl⟩
    | 38, _ => exact stepV rfl rfl (execPickF rfl (hv 33 (by omega) _ rfl _ rfl) (hv 37 (by omega) _ rfl _ rfl)) ⟨s, ⟨_, rfl, rfl⟩, hS, fun _ _ => rfl⟩
    | 39, _ => exact stepV rfl rfl (execMvB rfl (hv 38 (by omega) _ rfl _ rfl)) ⟨s, ⟨_, rfl, rfl⟩, hS, fun _ _ => rfl⟩
    | 40, _ => exact stepV rfl (wantedOf rfl (yieldedAt rfl rfl (show a.eval (.tmp 132) = .bool false from (hv 39 (by omega) _ rfl _ rfl)))) (execMvB rfl ((hf 12 (by decide)).trans t12)) ⟨s, ⟨_, rfl, rfl⟩, hS, fun _ _ => rfl⟩
    | 41, _ => exact stepV rfl (wantedOf rfl (yieldedAt rfl rfl (show a.eval (.tmp 132) = .bool false from (hv 39 (by omega) _ rfl _ rfl)))) (execMvB rfl ((hf 2 (by decide)).trans t2)) ⟨s, ⟨_, rfl, rfl⟩, hS, fun _ _ => rfl⟩
    | 42, _ => exact stepC rfl (wantedOf rfl (yieldedAt rfl rfl (show a.eval (.tmp 132) = .bool false from (hv 39 (by omega) _ rfl _ rfl)))) (execCall2 Try.func18 (by kernel_rfl) (by kernel_rfl) rfl (hv 40 (by omega) _ rfl _ rfl) (hv 41 (by omega) _ rfl _ rfl)) (sameI _ _ (m) _ _ X (FJi.on hS) (FJ.on hS) (by intro i hi; rfl) (by have := allN_le p l bs n; omega)) fun e w' hh => ⟨_, hh.1, s, ⟨_, rfl, rfl⟩, (hS).trans ((hh.2).mono (hS).size), fun _ _ => rfl⟩
    | 43, _ => exact stepV rfl (wantedOf rfl (yieldedAt rfl rfl (show a.eval (.tmp 132) = .bool false from (hv 39 (by omega) _ rfl _ rfl)))) (execNot8 rfl (hv 42 (by omega) _ rfl _ rfl)) ⟨s, ⟨_, rfl, rfl⟩, hS, fun _ _ => rfl⟩
    | 44, _ => exact stepV rfl rfl (execPickF rfl (hv 39 (by omega) _ rfl _ rfl) (hv 43 (by omega) _ rfl _ rfl)) ⟨s, ⟨_, rfl, rfl⟩, hS, fun _ _ => rfl⟩
    | k_ + 45, h_ => exact absurd h_ (by simp)
  rintro _ a X9 h1 h2 h3 h4 hS
  replace hS : Below X8.heap.size X8 X9 := hS
  have bX := hS
  clear hS
  replace t0 := (h3 0 (by decide)).trans t0
  replace t1 := (h3 1 (by decide)).trans t1
  replace t2 := (h3 2 (by decide)).trans t2
  replace t7 := (h3 7 (by decide)).trans t7
  replace t8 := (h3 8 (by decide)).trans t8
  replace t9 := (h3 9 (by decide)).trans t9
  replace t10 := (h3 10 (by decide)).trans t10
  replace t11 := (h3 11 (by decide)).trans t11
  replace t12 := (h3 12 (by decide)).trans t12
  replace t13 := (h3 13 (by decide)).trans t13
  replace t16 := (h3 16 (by decide)).trans t16
  replace t19 := (h3 19 (by decide)).trans t19
  replace t21 := (h3 21 (by decide)).trans t21
  have t137 : a.eval (.tmp 137) = .bool false := h4 44 _ rfl _ rfl
  replace FPv := (FPv.on bX)
  replace FI := (FI.on bX)
  replace FJ := (FJ.on bX)
  replace Fv42 := (ownsRow_below Fv42 bX)
  replace Fv47 := (ownD_below Fv47 bX)
  replace Fv52 := (ownD_below Fv52 bX)
  replace FPi := (FPi.on bX)
  replace FIi := (FIi.on bX)
  replace FJi := (FJi.on bX)
  replace Fv68 := (ownD_below Fv68 bX)
  replace Fv75 := (ownD_below Fv75 bX)
  replace Fv83 := (Fv83.on bX)
  replace Fv90 := (Fv90.on bX)
  have ZX9 := bX.size
  replace BW := BW.trans (bX.mono BW.size)
  clear bX
  replace A := (⟨h1, h2.trans A.2⟩ : a.tmps.size = 309 ∧ a.defers = [])
  clear h1 h2 h3 h4
  clear t14 t15 t17 t18 t20 t22
  refine wp_cond_false t137 ?_
  refine wp_skip ?_
  clear t137
  have FC0 : X9.cell? ⟨gp, 0 + l, none⟩ = some (.int .u8 ((161 : Nat) : Int)) := (own_cell9 Fv42 (show l < l + 2 by omega)).1.trans (congrArg _ (congrArg _ (congrArg _ (cat2_hi (j := 0)))))
  have FC1 : X9.cell? ⟨gp, 0 + (l + 1), none⟩ = some (.int .u8 ((162 : Nat) : Int)) := (own_cell9 Fv42 (show (l + 1) < l + 2 by omega)).1.trans (congrArg _ (congrArg _ (congrArg _ (cat2_hi (j := 1)))))
  have FC2 : X9.cell? ⟨gb, 0 + n, none⟩ = some (.int .i64 ((71 : Nat) : Int)) := (own_cellI Fv47 (show n < n + 2 by omega)).1.trans (congrArg _ (congrArg _ (catI_hi (i := 0))))
  have FC3 : X9.cell? ⟨gb, 0 + (n + 1), none⟩ = some (.int .i64 ((72 : Nat) : Int)) := (own_cellI Fv47 (show (n + 1) < n + 2 by omega)).1.trans (congrArg _ (congrArg _ (catI_hi (i := 1))))
  have FC4 : X9.cell? ⟨gw, 0 + m, none⟩ = some (.int .i64 ((73 : Nat) : Int)) := (own_cellI Fv52 (show m < m + 2 by omega)).1.trans (congrArg _ (congrArg _ (catI_hi (i := 0))))
  have FC5 : X9.cell? ⟨gw, 0 + (m + 1), none⟩ = some (.int .i64 ((74 : Nat) : Int)) := (own_cellI Fv52 (show (m + 1) < m + 2 by omega)).1.trans (congrArg _ (congrArg _ (catI_hi (i := 1))))
  refine wp_seq ?_
  refine wp_seq ?_
  refine wp_region_sq (σ := Unit) 309 [(0, 138), (1, 139), (2, 140), (3, 141), (4, 142), (5, 143), (6, 144), (7, 145), (8, 146), (9, 147), (10, 148), (11, 149), (12, 150), (13, 151), (14, 152), (15, 153), (16, 154), (17, 155), (18, 156), (19, 157), (20, 158), (21, 159), (22, 160), (23, 161), (24, 162), (25, 163), (26, 164), (27, 165), (28, 166), (29, 167), (30, 168), (31, 169), (32, 170), (33, 171), (34, 172), (35, 173), (36, 174), (37, 175), (38, 176), (39, 177), (40, 178), (41, 179), (42, 180), (43, 181), (44, 182), (45, 183), (46, 184), (47, 185), (48, 186)] (fun j_ s X => match j_ with | 0 => Below X9.heap.size X9 X | 1 => Below X9.heap.size X9 X | 2 => Below X9.heap.size X9 X | 3 => Below X9.heap.size X9 X | 4 => Below X9.heap.size X9 X | 5 => Below X9.heap.size X9 X | 6 => Below X9.heap.size X9 X | 7 => Below X9.heap.size X9 X | 8 => Below X9.heap.size X9 X | 9 => Below X9.heap.size X9 X | 10 => Below X9.heap.size X9 X | 11 => Below X9.heap.size X9 X | 12 => Below X9.heap.size X9 X | 13 => Below X9.heap.size X9 X | 14 => Below X9.heap.size X9 X | 15 => Below X9.heap.size X9 X | 16 => Below X9.heap.size X9 X | 17 => Below X9.heap.size X9 X | 18 => Below X9.heap.size X9 X | 19 => Below X9.heap.size X9 X | 20 => Below X9.heap.size X9 X | 21 => Below X9.heap.size X9 X | 22 => Below X9.heap.size X9 X | 23 => Below X9.heap.size X9 X | 24 => Below X9.heap.size X9 X | 25 => Below X9.heap.size X9 X | 26 => Below X9.heap.size X9 X | 27 => Below X9.heap.size X9 X | 28 => Below X9.heap.size X9 X | 29 => Below X9.heap.size X9 X | 30 => Below X9.heap.size X9 X | 31 => Below X9.heap.size X9 X | 32 => Below X9.heap.size X9 X | 33 => Below X9.heap.size X9 X | 34 => Below X9.heap.size X9 X | 35 => Below X9.heap.size X9 X | 36 => Below X9.heap.size X9 X | 37 => Below X9.heap.size X9 X | 38 => Below X9.heap.size X9 X | 39 => Below X9.heap.size X9 X | 40 => Below X9.heap.size X9 X | 41 => Below X9.heap.size X9 X | 42 => Below X9.heap.size X9 X | 43 => Below X9.heap.size X9 X | 44 => Below X9.heap.size X9 X | 45 => Below X9.heap.size X9 X | 46 => Below X9.heap.size X9 X | 47 => Below X9.heap.size X9 X | 48 => Below X9.heap.size X9 X | _ => Below X9.heap.size X9 X) (fun s => fun i_ => match i_ with | 0 => .slice (some ⟨gp, 0, none⟩) (l + 2) cp | 1 => pv | 2 => .int .i64 ((l : Nat) : Int) | 3 => .pointer (some ⟨gp, 0 + l, none⟩) | 4 => .int .u8 ((161 : Nat) : Int) | 5 => .bool false | 6 => .bool false | 7 => .slice (some ⟨gp, 0, none⟩) (l + 2) cp | 8 => pv | 9 => .int .i64 ((l : Nat) : Int) | 10 => .int .i64 ((l + 1 : Nat) : Int) | 11 => .pointer (some ⟨gp, 0 + (l + 1), none⟩) | 12 => .int .u8 ((162 : Nat) : Int) | 13 => .bool false | 14 => .bool false | 15 => .bool false | 16 => .slice (some ⟨gb, 0, none⟩) (n + 2) cb | 17 => ib | 18 => .int .i64 ((n : Nat) : Int) | 19 => .pointer (some ⟨gb, 0 + n, none⟩) | 20 => .int .i64 ((71 : Nat) : Int) | 21 => .bool false | 22 => .bool false | 23 => .bool false | 24 => .slice (some ⟨gb, 0, none⟩) (n + 2) cb | 25 => ib | 26 => .int .i64 ((n : Nat) : Int) | 27 => .int .i64 ((n + 1 : Nat) : Int) | 28 => .pointer (some ⟨gb, 0 + (n + 1), none⟩) | 29 => .int .i64 ((72 : Nat) : Int) | 30 => .bool false | 31 => .bool false | 32 => .bool false | 33 => .slice (some ⟨gw, 0, none⟩) (m + 2) cw | 34 => iw | 35 => .int .i64 ((m : Nat) : Int) | 36 => .pointer (some ⟨gw, 0 + m, none⟩) | 37 => .int .i64 ((73 : Nat) : Int) | 38 => .bool false | 39 => .bool false | 40 => .bool false | 41 => .slice (some ⟨gw, 0, none⟩) (m + 2) cw | 42 => iw | 43 => .int .i64 ((m : Nat) : Int) | 44 => .int .i64 ((m + 1 : Nat) : Int) | 45 => .pointer (some ⟨gw, 0 + (m + 1), none⟩) | 46 => .int .i64 ((74 : Nat) : Int) | 47 => .bool false | 48 => .bool false | _ => undef) () A.1 (by kernel_rfl) (by decide) (by decide) (Below.refl _ _) ?_ ?_
  · intro i_ hi_ s a X hf hv hn hS
    match i_, hi_ with
    | 0, _ => exact stepV rfl rfl (execMvB rfl ((hf 7 (by decide)).trans t7)) ⟨s, ⟨_, rfl, rfl⟩, hS, fun _ _ => rfl⟩
    | 1, _ => exact stepV rfl rfl (execMvB rfl ((hf 0 (by decide)).trans t0)) ⟨s, ⟨_, rfl, rfl⟩, hS, fun _ _ => rfl⟩
    | 2, _ => exact stepV rfl rfl (execLenV (len := l) rfl (hv 1 (by omega) _ rfl _ rfl) (shp9 (FPv.on hS))) ⟨s, ⟨_, rfl, rfl⟩, hS, fun _ _ => rfl⟩
    | 3, _ => exact stepV rfl rfl (execIdxB9 (k := l) rfl (hv 0 (by omega) _ rfl _ rfl) (hv 2 (by omega) _ rfl _ rfl) (by omega)) ⟨s, ⟨_, rfl, rfl⟩, hS, fun _ _ => rfl⟩
    | 4, _ => exact stepV rfl rfl (execLdB rfl (hv 3 (by omega) _ rfl _ rfl) (cell_on9 FC0 hS)) ⟨s, ⟨_, rfl, rfl⟩, hS, fun _ _ => rfl⟩
    | 5, _ => exact stepV rfl rfl (execNeqU8 rfl (hv 4 (by omega) _ rfl _ rfl) rfl) ⟨s, ⟨_, rfl, rfl⟩, hS, fun _ _ => rfl⟩
    | 6, _ => exact stepV rfl rfl (execMvB rfl (hv 5 (by omega) _ rfl _ rfl)) ⟨s, ⟨_, rfl, rfl⟩, hS, fun _ _ => rfl⟩
    | 7, _ => exact stepV rfl (wantedOf rfl (yieldedAt rfl rfl (show a.eval (.tmp 144) = .bool false from (hv 6 (by omega) _ rfl _ rfl)))) (execMvB rfl ((hf 7 (by decide)).trans t7)) ⟨s, ⟨_, rfl, rfl⟩, hS, fun _ _ => rfl⟩
    | 8, _ => exact stepV rfl (wantedOf rfl (yieldedAt rfl rfl (show a.eval (.tmp 144) = .bool false from (hv 6 (by omega) _ rfl _ rfl)))) (execMvB rfl ((hf 0 (by decide)).trans t0)) ⟨s, ⟨_, rfl, rfl⟩, hS, fun _ _ => rfl⟩
    | 9, _ => exact stepV rfl (wantedOf rfl (yieldedAt rfl rfl (show a.eval (.tmp 144) = .bool false from (hv 6 (by omega) _ rfl _ rfl)))) (execLenV (len := l) rfl (hv 8 (by omega) _ rfl _ rfl) (shp9 (FPv.on hS))) ⟨s, ⟨_, rfl, rfl⟩, hS, fun _ _ => rfl⟩
    | 10, _ => exact stepV rfl (wantedOf rfl (yieldedAt rfl rfl (show a.eval (.tmp 144) = .bool false from (hv 6 (by omega) _ rfl _ rfl)))) (execAd8 (p := l) (q := 1) rfl (hv 9 (by omega) _ rfl _ rfl) rfl (by omega)) ⟨s, ⟨_, rfl, rfl⟩, hS, fun _ _ => rfl⟩
    | 11, _ => exact stepV rfl (wantedOf rfl (yieldedAt rfl rfl (show a.eval (.tmp 144) = .bool false from (hv 6 (by omega) _ rfl _ rfl)))) (execIdxB9 (k := l + 1) rfl (hv 7 (by omega) _ rfl _ rfl) (hv 10 (by omega) _ rfl _ rfl) (by omega)) ⟨s, ⟨_, rfl, rfl⟩, hS, fun _ _ => rfl⟩
    | 12, _ => exact stepV rfl (wantedOf rfl (yieldedAt rfl rfl (show a.eval (.tmp 144) = .bool false from (hv 6 (by omega) _ rfl _ rfl)))) (execLdB rfl (hv 11 (by omega) _ rfl _ rfl) (cell_on9 FC1 hS)) ⟨s, ⟨_, rfl, rfl⟩, hS, fun _ _ => rfl⟩
    | 13, _ => exact stepV rfl (wantedOf rfl (yieldedAt rfl rfl (show a.eval (.tmp 144) = .bool false from (hv 6 (by omega) _ rfl _ rfl)))) (execNeqU8 rfl (hv 12 (by omega) _ rfl _ rfl) rfl) ⟨s, ⟨_, rfl, rfl⟩, hS, fun _ _ => rfl⟩
    | 14, _ => exact stepV rfl rfl (execPickF rfl (hv 6 (by omega) _ rfl _ rfl) (hv 13 (by omega) _ rfl _ rfl)) ⟨s, ⟨_, rfl, rfl⟩, hS, fun _ _ => rfl⟩
    | 15, _ => exact stepV rfl rfl (execMvB rfl (hv 14 (by omega) _ rfl _ rfl)) ⟨s, ⟨_, rfl, rfl⟩, hS, fun _ _ => rfl⟩
    | 16, _ => exact stepV rfl (wantedOf rfl (yieldedAt rfl rfl (show a.eval (.tmp 153) = .bool false from (hv 15 (by omega) _ rfl _ rfl)))) (execMvB rfl ((hf 8 (by decide)).trans t8)) ⟨s, ⟨_, rfl, rfl⟩, hS, fun _ _ => rfl⟩
    | 17, _ => exact stepV rfl (wantedOf rfl (yieldedAt rfl rfl (show a.eval (.tmp 153) = .bool false from (hv 15 (by omega) _ rfl _ rfl)))) (execMvB rfl ((hf 11 (by decide)).trans t11)) ⟨s, ⟨_, rfl, rfl⟩, hS, fun _ _ => rfl⟩
    | 18, _ => exact stepV rfl (wantedOf rfl (yieldedAt rfl rfl (show a.eval (.tmp 153) = .bool false from (hv 15 (by omega) _ rfl _ rfl)))) (execLenI (len := n) rfl (hv 17 (by omega) _ rfl _ rfl) (shpI FIi)) ⟨s, ⟨_, rfl, rfl⟩, hS, fun _ _ => rfl⟩
    | 19, _ => exact stepV rfl (wantedOf rfl (yieldedAt rfl rfl (show a.eval (.tmp 153) = .bool false from (hv 15 (by omega) _ rfl _ rfl)))) (execIdxN (k := n) rfl (hv 16 (by omega) _ rfl _ rfl) (hv 18 (by omega) _ rfl _ rfl) (by omega)) ⟨s, ⟨_, rfl, rfl⟩, hS, fun _ _ => rfl⟩
    | 20, _ => exact stepV rfl (wantedOf rfl (yieldedAt rfl rfl (show a.eval (.tmp 153) = .bool false from (hv 15 (by omega) _ rfl _ rfl)))) (execLd3 rfl (hv 19 (by omega) _ rfl _ rfl) (cell_on9 FC2 hS)) ⟨s, ⟨_, rfl, rfl⟩, hS, fun _ _ => rfl⟩
    | 21, _ => exact stepV rfl (wantedOf rfl (yieldedAt rfl rfl (show a.eval (.tmp 153) = .bool false from (hv 15 (by omega) _ rfl _ rfl)))) (execDec (execNeN (p := 71) (q := 71) rfl (hv 20 (by omega) _ rfl _ rfl) rfl) (decide_eq_false (by omega))) ⟨s, ⟨_, rfl, rfl⟩, hS, fun _ _ => rfl⟩
    | 22, _ => exact stepV rfl rfl (execPickF rfl (hv 15 (by omega) _ rfl _ rfl) (hv 21 (by omega) _ rfl _ rfl)) ⟨s, ⟨_, rfl, rfl⟩, hS, fun _ _ => rfl⟩
    | 23, _ => exact stepV rfl rfl (execMvB rfl (hv 22 (by omega) _ rfl _ rfl)) ⟨s, ⟨_, rfl, rfl⟩, hS, fun _ _ => rfl⟩
    | 24, _ => exact stepV rfl (wantedOf rfl (yieldedAt rfl rfl (show a.eval (.tmp 161) = .bool false from (hv 23 (by omega) _ rfl _ rfl)))) (execMvB rfl ((hf 8 (by decide)).trans t8)) ⟨s, ⟨_, rfl, rfl⟩, hS, fun _ _ => rfl⟩
    | 25, _ => exact stepV rfl (wantedOf rfl (yieldedAt rfl rfl (show a.eval (.tmp 161) = .bool false from (hv 23 (by omega) _ rfl _ rfl)))) (execMvB rfl ((hf 11 (by decide)).trans t11)) ⟨s, ⟨_, rfl, rfl⟩, hS, fun _ _ => rfl⟩
    | 26, _ => exact stepV rfl (wantedOf rfl (yieldedAt rfl rfl (show a.eval (.tmp 161) = .bool false from (hv 23 (by omega) _ rfl _ rfl)))) (execLenI (len := n) rfl (hv 25 (by omega) _ rfl _ rfl) (shpI FIi)) ⟨s, ⟨_, rfl, rfl⟩, hS, fun _ _ => rfl⟩
    | 27, _ => exact stepV rfl (wantedOf rfl (yieldedAt rfl rfl (show a.eval (.tmp 161) = .bool false from (hv 23 (by omega) _ rfl _ rfl)))) (execAd8 (p := n) (q := 1) rfl (hv 26 (by omega) _ rfl _ rfl) rfl (by omega)) ⟨s, ⟨_, rfl, rfl⟩, hS, fun _ _ => rfl⟩
    | 28, _ => exact stepV rfl (wantedOf rfl (yieldedAt rfl rfl (show a.eval (.tmp 161) = .bool false from (hv 23 (by omega) _ rfl _ rfl)))) (execIdxN (k := n + 1) rfl (hv 24 (by omega) _ rfl _ rfl) (hv 27 (by omega) _ rfl _ rfl) (by omega)) ⟨s, ⟨_, rfl, rfl⟩, hS, fun _ _ => rfl⟩
    | 29, _ => exact stepV rfl (wantedOf rfl (yieldedAt rfl rfl (show a.eval (.tmp 161) = .bool false from (hv 23 (by omega) _ rfl _ rfl)))) (execLd3 rfl (hv 28 (by omega) _ rfl _ rfl) (cell_on9 FC3 hS)) ⟨s, ⟨_, rfl, rfl⟩, hS, fun _ _ => rfl⟩
    | 30, _ => exact stepV rfl (wantedOf rfl (yieldedAt rfl rfl (show a.eval (.tmp 161) = .bool false from (hv 23 (by omega) _ rfl _ rfl)))) (execDec (execNeN (p := 72) (q := 72) rfl (hv 29 (by omega) _ rfl _ rfl) rfl) (decide_eq_false (by omega))) ⟨s, ⟨_, rfl, rfl⟩, hS, fun _ _ => rfl⟩
    | 31, _ => exact stepV rfl rfl (execPickF rfl (hv 23 (by omega) _ rfl _ rfl) (hv 30 (by omega) _ rfl _ rfl)) ⟨s, ⟨_, rfl, rfl⟩, hS, fun _ _ => rfl⟩
    | 32, _ => exact stepV rfl rfl (execMvB rfl (hv 31 (by omega) _ rfl _ rfl)) ⟨s, ⟨_, rfl, rfl⟩, hS, fun _ _ => rfl⟩
    | 33, _ => exact stepV rfl (wantedOf rfl (yieldedAt rfl rfl (show a.eval (.tmp 170) = .bool false from (hv 32 (by omega) _ rfl _ rfl)))) (execMvB rfl ((hf 9 (by decide)).trans t9)) ⟨s, ⟨_, rfl, rfl⟩, hS, fun _ _ => rfl⟩
    | 34, _ => exact stepV rfl (wantedOf rfl (yieldedAt rfl rfl (show a.eval (.tmp 170) = .bool false from (hv 32 (by omega) _ rfl _ rfl)))) (execMvB rfl ((hf 12 (by decide)).trans t12)) ⟨s, ⟨_, rfl, rfl⟩, hS, fun _ _ => rfl⟩
    | 35, _ => exact stepV rfl (wantedOf rfl (yieldedAt rfl rfl (show a.eval (.tmp 170) = .bool false from (hv 32 (by omega) _ rfl _ rfl)))) (execLenI (len := m) rfl (hv 34 (by omega) _ rfl _ rfl) (shpI FJi)) ⟨s, ⟨_, rfl, rfl⟩, hS, fun _ _ => rfl⟩
    | 36, _ => exact stepV rfl (wantedOf rfl (yieldedAt rfl rfl (show a.eval (.tmp 170) = .bool false from (hv 32 (by omega) _ rfl _ rfl)))) (execIdxN (k := m) rfl (hv 33 (by omega) _ rfl _ rfl) (hv 35 (by omega) _ rfl _ rfl) (by omega)) ⟨s, ⟨_, rfl, rfl⟩, hS, fun _ _ => rfl⟩
    | 37, _ => exact stepV rfl (wantedOf rfl (yieldedAt rfl rfl (show a.eval (.tmp 170) = .bool false from (hv 32 (by omega) _ rfl _ rfl)))) (execLd3 rfl (hv 36 (by omega) _ rfl _ rfl) (cell_on9 FC4 hS)) ⟨s, ⟨_, rfl, rfl⟩, hS, fun _ _ => rfl⟩
    | 38, _ => exact stepV rfl (wantedOf rfl (yieldedAt rfl rfl (show a.eval (.tmp 170) = .bool false from (hv 32 (by omega) _ rfl _ rfl)))) (execDec (execNeN (p := 73) (q := 73) rfl (hv 37 (by omega) _ rfl _ rfl) rfl) (decide_eq_false (by omega))) ⟨s, ⟨_, rfl, rfl⟩, hS, fun _ _ => rfl⟩
    | 39, _ => exact stepV rfl rfl (execPickF rfl (hv 32 (by omega) _ rfl _ rfl) (hv 38 (by omega) _ rfl _ rfl)) ⟨s, ⟨_, rfl, rfl⟩, hS, fun _ _ => rfl⟩
    | 40, _ => exact stepV rfl rfl (execMvB rfl (hv 39 (by omega) _ rfl _ rfl)) ⟨s, ⟨_, rfl, rfl⟩, hS, fun _ _ => rfl⟩
    | 41, _ => exact stepV rfl (wantedOf rfl (yieldedAt rfl rfl (show a.eval (.tmp 178) = .bool false from (hv 40 (by omega) _ rfl _ rfl)))) (execMvB rfl ((hf 9 (by decide)).trans t9)) ⟨s, ⟨_, rfl, rfl⟩, hS, fun _ _ => rfl⟩
    | 42, _ => exact stepV rfl (wantedOf rfl (yieldedAt rfl rfl (show a.eval (.tmp 178) = .bool false from (hv 40 (by omega) _ rfl _ rfl)))) (execMvB rfl ((hf 12 (by decide)).trans t12)) ⟨s, ⟨_, rfl, rfl⟩, hS, fun _ _ => rfl⟩
    | 43, _ => exact stepV rfl (wantedOf rfl (yieldedAt rfl rfl (show a.eval (.tmp 178) = .bool false from (hv 40 (by omega) _ rfl _ rfl)))) (execLenI (len := m) rfl (hv 42 (by omega) _ rfl _ rfl) (shpI FJi)) ⟨s, ⟨_, rfl, rfl⟩, hS, fun _ _ => rfl⟩
    | 44, _ => exact stepV rfl (wantedOf rfl (yieldedAt rfl rfl (show a.eval (.tmp 178) = .bool false from (hv 40 (by omega) _ rfl _ rfl)))) (execAd8 (p := m) (q := 1) rfl (hv 43 (by omega) _ rfl _ rfl) rfl (by omega)) ⟨s, ⟨_, rfl, rfl⟩, hS, fun _ _ => rfl⟩
    | 45, _ => exact stepV rfl (wantedOf rfl (yieldedAt rfl rfl (show a.eval (.tmp 178) = .bool false from (hv 40 (by omega) _ rfl _ rfl)))) (execIdxN (k := m + 1) rfl (hv 41 (by omega) _ rfl _ rfl) (hv 44 (by omega) _ rfl _ rfl) (by omega)) ⟨s, ⟨_, rfl, rfl⟩, hS, fun _ _ => rfl⟩
    | 46, _ => exact stepV rfl (wantedOf rfl (yieldedAt rfl rfl (show a.eval (.tmp 178) = .bool false from (hv 40 (by omega) _ rfl _ rfl)))) (execLd3 rfl (hv 45 (by omega) _ rfl _ rfl) (cell_on9 FC5 hS)) ⟨s, ⟨_, rfl, rfl⟩, hS, fun _ _ => rfl⟩
    | 47, _ => exact stepV rfl (wantedOf rfl (yieldedAt rfl rfl (show a.eval (.tmp 178) = .bool false from (hv 40 (by omega) _ rfl _ rfl)))) (execDec (execNeN (p := 74) (q := 74) rfl (hv 46 (by omega) _ rfl _ rfl) rfl) (decide_eq_false (by omega))) ⟨s, ⟨_, rfl, rfl⟩, hS, fun _ _ => rfl⟩
    | 48, _ => exact stepV rfl rfl (execPickF rfl (hv 40 (by omega) _ rfl _ rfl) (hv 47 (by omega) _ rfl _ rfl)) ⟨s, ⟨_, rfl, rfl⟩, hS, fun _ _ => rfl⟩
    | k_ + 49, h_ => exact absurd h_ (by simp)
  rintro _ a X11 h1 h2 h3 h4 hS
  replace hS : Below X9.heap.size X9 X11 := hS
  have bX := hS
  clear hS
  replace t0 := (h3 0 (by decide)).trans t0
  replace t10 := (h3 10 (by decide)).trans t10
  replace t11 := (h3 11 (by decide)).trans t11
  replace t13 := (h3 13 (by decide)).trans t13
  replace t16 := (h3 16 (by decide)).trans t16
  replace t19 := (h3 19 (by decide)).trans t19
  replace t21 := (h3 21 (by decide)).trans t21
  have t186 : a.eval (.tmp 186) = .bool false := h4 48 _ rfl _ rfl
  replace FPv := (FPv.on bX)
  replace FI := (FI.on bX)
  replace FJ := (FJ.on bX)
  replace Fv42 := (ownsRow_below Fv42 bX)
  replace Fv47 := (ownD_below Fv47 bX)
  replace Fv52 := (ownD_below Fv52 bX)
  replace FPi := (FPi.on bX)
  replace FIi := (FIi.on bX)
  replace FJi := (FJi.on bX)
  replace Fv68 := (ownD_below Fv68 bX)
  replace Fv75 := (ownD_below Fv75 bX)
  replace Fv83 := (Fv83.on bX)
  replace Fv90 := (Fv90.on bX)
  replace FC0 := (cell_on9 FC0 bX)
  replace FC1 := (cell_on9 FC1 bX)
  replace FC2 := (cell_on9 FC2 bX)
  replace FC3 := (cell_on9 FC3 bX)
  replace FC4 := (cell_on9 FC4 bX)
  replace FC5 := (cell_on9 FC5 bX)
  have ZX11 := bX.size
  replace BW := BW.trans (bX.mono BW.size)
  clear bX
  replace A := (⟨h1, h2.trans A.2⟩ : a.tmps.size = 309 ∧ a.defers = [])
  clear h1 h2 h3 h4
  clear t1 t2 t7 t8 t9 t12
  refine wp_cond_false t186 ?_
  refine wp_skip ?_
  clear t186
  have hnv68 := own_nilI Fv68
  clear FC0 FC1 FC2 FC3 FC4 FC5
  refine wp_seq ?_
  refine wp_region_stB (σ := Nat × Value) 309 [(0, 187), (1, 188), (2, 189), (3, 190), (4, 191), (5, 23), (6, 24)] (fun l_ s X => Below X11.heap.size X11 X ∧ (l_ 0 = true → l_ 2 = false → X.ownsRow (X11.heap.size) 3 1 (.slice (some ⟨s.1, 0, none⟩) 0 0) (0) (intsL 0 (fun _ => 0))) ∧ (l_ 2 = true → X.ownsRow (X11.heap.size) 3 1 s.2 (allN p l bs n) (intsL (allN p l bs n) (fun i => (dA p l bs i : Int))))) (fun s => fun i_ => match i_ with | 0 => .slice (some ⟨s.1, 0, none⟩) 0 0 | 1 => v68 | 2 => s.2 | 3 => v83 | 4 => .string (strN (trF p l bs ws n) (trN p l bs n ws m)) | 5 => s.2 | 6 => .string (strN (trF p l bs ws n) (trN p l bs n ws m)) | _ => undef) (0, undef) (by kernel_rfl) (by kernel_rfl) A.1 (by kernel_rfl) (by decide) (by decide) ⟨((Below.refl _ _).drew), (fun q0_ q1_ => by cases q0_), (fun q0_ => by cases q0_)⟩ ?_ ?_
  · intro i_ hi_ l_ s a X hl_ hf hdep hl2 hcl hno hT
    have up : ∀ j x, x ≠ j → updB l_ j x = l_ x := fun j x hj => by unfold updB; simp [hj]
    match i_, hi_ with
    | 0, _ =>
      refine stepV rfl rfl (execBs0I rfl) ⟨(X.heap.size, s.2), ⟨_, rfl, rfl⟩, ⟨hT.1.trans (((belNew X _)).mono hT.1.size), (fun _q0_ _q1_ => ownD_base (own_noneI X _) (hT.1).size), (fun q0_ => absurd (hl_.symm.trans (hcl 2 _ rfl ((up 0 2 (by decide)).symm.trans q0_) 0 rfl)) (by decide))⟩, fun i hi hli => ?_⟩
      match i, hi with
      | 0, _ => exact absurd (hl_.symm.trans hli) (by decide)
      | 1, _ => rfl
      | 2, _ => rfl
      | 3, _ => rfl
      | 4, _ => rfl
      | 5, _ => rfl
      | 6, _ => rfl
      | k_ + 7, h_ => exact absurd h_ (by simp)
    | 1, _ => exact stepV rfl rfl (execMvB rfl ((hf 13 (by decide)).trans t13)) ⟨s, ⟨_, rfl, rfl⟩, ⟨hT.1, (fun q0_ q1_ => (hT.2.1 (by rw [up 1 0 (by decide)] at q0_; exact q0_) (by rw [up 1 2 (by decide)] at q1_; exact q1_))), (fun q0_ => absurd (hl_.symm.trans (hcl 2 _ rfl ((up 1 2 (by decide)).symm.trans q0_) 1 rfl)) (by decide))⟩, fun _ _ _ => rfl⟩
    | 2, _ =>
      refine stepAppIs (f := fun _ => 0) (g := fun i => (dA p l bs i : Int)) rfl rfl rfl (hdep _ rfl 0 rfl _ rfl _ rfl) (hdep _ rfl 1 rfl _ rfl _ rfl) (hT.2.1 (hl2 _ rfl 0 rfl) hl_) (own_ints (ownD_below Fv68 hT.1) (dA_fits _ _ _ _)) hnv68 (by have := allN_le p l bs n; omega) (hT.1).size fun v' W' own' gr => ⟨(s.1, v'), ⟨_, rfl, rfl⟩, ⟨(hT.1).grown gr (hT.1).size (fun k hk => ((hT.2.1 (hl2 _ rfl 0 rfl) hl_).lt k hk).1), (fun q0_ q1_ => absurd q1_ (by unfold updB; simp)), (fun _q0_ => own_cat0 own')⟩, fun i hi hli => ?_⟩
      match i, hi with
      | 0, _ => rfl
      | 1, _ => rfl
      | 2, _ => exact absurd (hl_.symm.trans hli) (by decide)
      | 3, _ => rfl
      | 4, _ => rfl
      | 5, _ => exact absurd (hl_.symm.trans (hcl 5 _ rfl hli 2 rfl)) (by decide)
      | 6, _ => rfl
      | k_ + 7, h_ => exact absurd h_ (by simp)
    | 3, _ => exact stepV rfl rfl (execMvB rfl ((hf 19 (by decide)).trans t19)) ⟨s, ⟨_, rfl, rfl⟩, ⟨hT.1, (fun q0_ q1_ => (hT.2.1 (by rw [up 3 0 (by decide)] at q0_; exact q0_) (by rw [up 3 2 (by decide)] at q1_; exact q1_))), (fun q0_ => (hT.2.2 (by rw [up 3 2 (by decide)] at q0_; exact q0_)))⟩, fun _ _ _ => rfl⟩
    | 4, _ => exact stepV rfl rfl (By8.execStr rfl (hdep _ rfl 3 rfl _ rfl _ rfl) (Fv83.on hT.1).slice) ⟨s, ⟨_, rfl, rfl⟩, ⟨hT.1, (fun q0_ q1_ => (hT.2.1 (by rw [up 4 0 (by decide)] at q0_; exact q0_) (by rw [up 4 2 (by decide)] at q1_; exact q1_))), (fun q0_ => (hT.2.2 (by rw [up 4 2 (by decide)] at q0_; exact q0_)))⟩, fun _ _ _ => rfl⟩
    | 5, _ => exact stepV rfl rfl (execAsgB rfl (hdep _ rfl 2 rfl _ rfl _ rfl)) ⟨s, ⟨_, rfl, rfl⟩, ⟨hT.1, (fun q0_ q1_ => absurd (q1_.symm.trans ((up 5 2 (by decide)).trans (hl2 _ rfl 2 rfl))) (by decide)), (fun q0_ => (hT.2.2 (by rw [up 5 2 (by decide)] at q0_; exact q0_)))⟩, fun _ _ _ => rfl⟩
    | 6, _ => exact stepV rfl rfl (execAsgB rfl (hdep _ rfl 4 rfl _ rfl _ rfl)) ⟨s, ⟨_, rfl, rfl⟩, ⟨hT.1, (fun q0_ q1_ => absurd (q1_.symm.trans ((up 6 2 (by decide)).trans (hl2 _ rfl 2 rfl))) (by decide)), (fun q0_ => (hT.2.2 (by rw [up 6 2 (by decide)] at q0_; exact q0_)))⟩, fun _ _ _ => rfl⟩
    | k_ + 7, h_ => exact absurd h_ (by simp)
  rintro l_ ⟨g187, v189⟩ a X13 h1 h2 h3 h4 hall hT
  obtain ⟨bX, Fg187, Fv189⟩ := hT
  clear Fg187
  replace Fv189 : X13.ownsRow (X11.heap.size) 3 1 v189 (allN p l bs n) (intsL (allN p l bs n) (fun i => (dA p l bs i : Int))) := Fv189 (hall 2 (by decide))
  clear hall
  replace t0 := (h3 0 (by decide)).trans t0
  replace t10 := (h3 10 (by decide)).trans t10
  replace t11 := (h3 11 (by decide)).trans t11
  replace t13 := (h3 13 (by decide)).trans t13
  replace t16 := (h3 16 (by decide)).trans t16
  replace t19 := (h3 19 (by decide)).trans t19
  replace t21 := (h3 21 (by decide)).trans t21
  have t23 : a.eval (.tmp 23) = v189 := h4 (5, 23) (by decide)
  have t24 : a.eval (.tmp 24) = .string (strN (trF p l bs ws n) (trN p l bs n ws m)) := h4 (6, 24) (by decide)
  replace FPv := (FPv.on bX)
  replace FI := (FI.on bX)
  replace FJ := (FJ.on bX)
  replace Fv42 := (ownsRow_below Fv42 bX)
  replace Fv47 := (ownD_below Fv47 bX)
  replace Fv52 := (ownD_below Fv52 bX)
  replace FPi := (FPi.on bX)
  replace FIi := (FIi.on bX)
  replace FJi := (FJi.on bX)
  replace Fv68 := (ownD_below Fv68 bX)
  replace Fv75 := (ownD_below Fv75 bX)
  replace Fv83 := (Fv83.on bX)
  replace Fv90 := (Fv90.on bX)
  have ZX13 := bX.size
  replace BW := BW.trans (bX.mono BW.size)
  clear bX
  replace A := (⟨h1, h2.trans A.2⟩ : a.tmps.size = 309 ∧ a.defers = [])
  clear h1 h2 h3 h4
  have Pk := Fv189.lt
  have hN := allN_le p l bs n
  have hT : trN p l bs n ws m ≤ l := by unfold trN; by_cases e : trE p l bs n ws m = 0 <;> simp [e]
  exact keepsA I V X13 p l pv hp hl n hn gp cp gb cb (cat2 l p (fun j => if j = 0 then 161 else 162)) (catI n bs (fun j => if j = 0 then 71 else 72)) ip ib hip hib BW (ownD_base Fv42 (by omega)) hfp (fun j hj => cat2_lo hj) (ownD_base Fv47 (by omega)) hfb v68 v83 v75 v189 v90 (allN p l bs n) (allN p l bs n) (trN p l bs n ws m) (fun i => (dA p l bs i : Int)) (trF p l bs ws n) (by omega) (by omega) (by omega)
    ⟨BW, Saved.refl _ _, ⟨_, ownD_base Fv68 (by omega)⟩, fun k e => Or.inr (Or.inl e), ⟨_, Fv83.base (by omega)⟩, fun k e => Or.inr (Or.inr e)⟩
    (own_ints Fv75 (dA_fits _ _ _ _)) (own_ints Fv189 (dA_fits _ _ _ _)) Fv90.slice (not_ga (fun e => by have := Pa gp e; omega) (fun e => by have := Px gp e; omega)) (not_ga (fun e => by have := Pa gb e; omega) (fun e => by have := Px gb e; omega))
    (fun k e => ⟨not_ga (fun e2 => by have := Pa k e2; have := Pb k e; omega) (fun e2 => by have := Px k e2; have := Pb k e; omega), by have := Pb k e; omega⟩)
    (fun k e => ⟨not_ga (fun e2 => by have := Pa k e2; have := Pk k e; omega) (fun e2 => by have := Px k e2; have := Pk k e; omega), by have := Pk k e; omega⟩)
    (fun k e => ⟨not_ga (fun e2 => by have := Pa k e2; have := Py k e; omega) (fun e2 => by have := Px k e2; have := Py k e; omega), by have := Py k e; omega⟩)
    a A t0 t10 t11 t13 t16 t19 t21 t23 t24
end Go.Proofs.Ytpclecbhfjalnaa.Drw
