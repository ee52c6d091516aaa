import Derived.Test.YthiakjmjpchckaaP9g
namespace Go.Proofs.Ythiakjmjpchckaa.Prm
open Go.RowKit Gf8 Aes By8 Cel Cf Tap Drw
/- What the program's package keeps (Impl); the laws' same, awake; PermChecks, PermMakes, PermPairs over any Impl. Written by tools/mkP9h.py. -/

theorem zl_le (E L : Nat) : zl E L ≤ L := by
  unfold zl
  by_cases h : E = 0
  · rw [if_pos h]; exact Nat.le_refl _
  · rw [if_neg h]; exact Nat.zero_le _
theorem zl_lt {E L j : Nat} (h : j < zl E L) : E = 0 ∧ j < L := by
  unfold zl at h
  by_cases q : E = 0
  · rw [if_pos q] at h; exact ⟨q, h⟩
  · rw [if_neg q] at h; omega
theorem posN_le (g : Nat → Nat) (x : Nat) : ∀ k, posN g x k ≤ k
  | 0 => Nat.le_refl _
  | k + 1 => by
    have := posN_le g x k
    unfold posN
    by_cases q : g k = x
    · rw [if_pos q]; omega
    · rw [if_neg q]; omega
theorem nat_fits {x : Nat} (h : x ≤ 17592186044416) : -9223372036854775808 ≤ (x : Int) ∧ (x : Int) < 9223372036854775808 := by omega
theorem pos_fits {g : Nat → Nat} {n m : Nat} (hn : n ≤ 17592186044416) : ∀ j, j < m → -9223372036854775808 ≤ (fun j => (posN g j n : Int)) j ∧ (fun j => (posN g j n : Int)) j < 9223372036854775808 := fun j _ => nat_fits (by have := posN_le g j n; omega)
theorem drw_fits {g : Nat → Nat} {n m : Nat} (hn : n ≤ 17592186044416) : ∀ j, j < m → -9223372036854775808 ≤ (fun j => (drD n g j : Int)) j ∧ (fun j => (drD n g j : Int)) j < 9223372036854775808 := fun j _ => nat_fits (by have := posN_le (drA n g j) (g (n - 1 - j)) (n - j); unfold drD; omega)
theorem rnk_fits {g : Nat → Nat} {n m : Nat} (hn : n ≤ 17592186044416) : ∀ j, j < m → -9223372036854775808 ≤ (fun j => (rkD g n j : Int)) j ∧ (fun j => (rkD g n j : Int)) j < 9223372036854775808 := fun j _ => nat_fits (by have := posN_le (lf g n j) (g j) (n - j); unfold rkD; omega)
theorem unE_ok {d : Nat → Int} {n : Nat} (h : unE d n = 0) : ∀ k, k < n → gN d k < n - k := fun k hk => by
  unfold unE at h
  by_cases q : fitQ d n n = true
  · have := fitQ_iff.1 q k hk
    show (d k).toNat < n - k
    omega
  · rw [if_neg q] at h; omega
theorem unr_fits {d : Nat → Int} {n : Nat} (hn : n ≤ 17592186044416) : ∀ j, j < zl (unE d n) n → -9223372036854775808 ≤ (fun j => (unr (gN d) j : Int)) j ∧ (fun j => (unr (gN d) j : Int)) j < 9223372036854775808 := fun j hj => nat_fits (by
  obtain ⟨h1, h2⟩ := zl_lt hj
  have := (unr_isP (unE_ok h1)).lt j h2
  omega)
theorem frE_0 {k : Int} {d : Nat → Int} {m : Nat} (h : frE k d m = 0) : 0 ≤ k ∧ m = k.toNat - 1 ∧ ∀ j, j < m → gN d j < k.toNat - j := by
  unfold frE at h
  by_cases q : k < 0
  · rw [if_pos q] at h; omega
  · rw [if_neg q] at h
    by_cases q2 : m = k.toNat - 1 ∧ fitQ d k.toNat m = true
    · refine ⟨by omega, q2.1, fun j hj => ?_⟩
      have := fitQ_iff.1 q2.2 j hj
      show (d j).toNat < k.toNat - j
      omega
    · rw [if_neg q2] at h; omega
theorem from_le {k : Int} {d : Nat → Int} {m : Nat} (hm : m ≤ 17592186043904) : zl (frE k d m) k.toNat ≤ 17592186044416 := by
  by_cases h : frE k d m = 0
  · obtain ⟨h1, h2, _⟩ := frE_0 h
    rw [h, zl_ok]
    omega
  · rw [zl_no h]; omega
theorem from_fits {k : Int} {d : Nat → Int} {m : Nat} (hm : m ≤ 17592186043904) : ∀ j, j < zl (frE k d m) k.toNat → -9223372036854775808 ≤ (fun j => (frA k.toNat (gN d) m j : Int)) j ∧ (fun j => (frA k.toNat (gN d) m j : Int)) j < 9223372036854775808 := fun j hj => nat_fits (by
  obtain ⟨h1, h2⟩ := zl_lt hj
  obtain ⟨h3, h4, h5⟩ := frE_0 h1
  have := (frA_isP (n := k.toNat) (d := gN d) (k := m) (by omega) h5).lt j h2
  omega)
theorem coE_0 {f g : Nat → Int} {n m : Nat} (h : coE f n g m = 0) : pE f n = 0 ∧ pE g m = 0 ∧ n = m := by
  unfold coE at h
  by_cases q : pE f n = 0 ∧ pE g m = 0 ∧ n = m
  · exact q
  · rw [if_neg q] at h; omega
theorem apE_0 {f : Nat → Int} {n m : Nat} (h : apE f n m = 0) : pE f n = 0 ∧ n = m := by
  unfold apE at h
  by_cases q : pE f n = 0 ∧ n = m
  · exact q
  · rw [if_neg q] at h; omega
theorem pE_0 {f : Nat → Int} {n : Nat} (h : pE f n = 0) : okQ f n n = true := by
  by_cases q : okQ f n n = true
  · exact q
  · rw [pE_no q] at h; omega
theorem co_fits {f g : Nat → Int} {n m : Nat} (hg : ∀ j, j < m → -9223372036854775808 ≤ g j ∧ g j < 9223372036854775808) : ∀ j, j < zl (coE f n g m) n → -9223372036854775808 ≤ (fun j => g (f j).toNat) j ∧ (fun j => g (f j).toNat) j < 9223372036854775808 := fun j hj => by
  obtain ⟨h1, h2⟩ := zl_lt hj
  obtain ⟨h3, _, h4⟩ := coE_0 h1
  have := (okQ_iff.1 (pE_0 h3)).1 j h2
  exact hg _ (by omega)
theorem ap_fits {f g : Nat → Int} {n m : Nat} (hg : ∀ j, j < m → -9223372036854775808 ≤ g j ∧ g j < 9223372036854775808) : ∀ j, j < zl (apE f n m) n → -9223372036854775808 ≤ (fun j => g (f j).toNat) j ∧ (fun j => g (f j).toNat) j < 9223372036854775808 := fun j hj => by
  obtain ⟨h1, h2⟩ := zl_lt hj
  obtain ⟨h3, h4⟩ := apE_0 h1
  have := (okQ_iff.1 (pE_0 h3)).1 j h2
  exact hg _ (by omega)
theorem execZ3 {o : Oper} {a : Act} {w : World} (ho : o.op = .buildSlice 22 3 #[(0, .const (.int .i64 0)), (1, .const (.int .i64 0)), (2, .const (.int .i64 0))]) : (execOp a.eval o).run Try.prog w = .ok (.value (.slice (some ⟨w.heap.size, 0, none⟩) 3 3)) (w.alloc (.cells #[.int .i64 0, .int .i64 0, .int .i64 0] 3)) := by
  unfold execOp
  simp only [ho]
  simp [go_sem]
theorem sliceZ3 (X : World) : SliceI (X.alloc (.cells #[.int .i64 0, .int .i64 0, .int .i64 0] 3)) (.slice (some ⟨X.heap.size, 0, none⟩) 3 3) 3 (fun _ => 0) :=
  lit_ints (heapNew X _) (fun j hj => by
    match j, hj with
    | 0, _ => rfl
    | 1, _ => rfl
    | 2, _ => rfl
    | k + 3, h => omega) (fun _ _ => by decide) (by omega)
def aw4 : Nat → Int := fun j => if j = 0 then 1 else if j = 1 then 2 else if j = 2 then 3 else 0
theorem execL4 {o : Oper} {a : Act} {w : World} (ho : o.op = .buildSlice 22 4 #[(0, .const (.int .i64 1)), (1, .const (.int .i64 2)), (2, .const (.int .i64 3)), (3, .const (.int .i64 0))]) : (execOp a.eval o).run Try.prog w = .ok (.value (.slice (some ⟨w.heap.size, 0, none⟩) 4 4)) (w.alloc (.cells #[.int .i64 1, .int .i64 2, .int .i64 3, .int .i64 0] 3)) := by
  unfold execOp
  simp only [ho]
  simp [go_sem]
theorem sliceL4 (X : World) : SliceI (X.alloc (.cells #[.int .i64 1, .int .i64 2, .int .i64 3, .int .i64 0] 3)) (.slice (some ⟨X.heap.size, 0, none⟩) 4 4) 4 aw4 :=
  lit_ints (heapNew X _) (fun j hj => by
    match j, hj with
    | 0, _ => rfl
    | 1, _ => rfl
    | 2, _ => rfl
    | 3, _ => rfl
    | k + 4, h => omega) (fun j hj => by
    match j, hj with
    | 0, _ => decide
    | 1, _ => decide
    | 2, _ => decide
    | 3, _ => decide
    | k + 4, h => omega) (by omega)
theorem awE : frE ((4 : Nat) : Int) (fun _ => 0) 3 = 0 := by decide
theorem awF : ∀ j, j < (((4 : Nat) : Int)).toNat → (frA (((4 : Nat) : Int)).toNat (gN (fun _ => 0)) 3 j : Int) = aw4 j := by decide
theorem one11 : pE (fun j => if j = 0 then 1 else 1) 2 = 110 := by decide
/-- What the program's package keeps: the chapter's words. -/
structure Impl : Prop where
  check : ∀ (f : Nat → Int) (n : Nat) (v : Value) (V : World), SliceI V v n f → n ≤ 17592186044416 →
    Calls Try.prog 10 #[v] V fun e w' => e = .returned (.int .i64 ((pE f n : Nat) : Int)) ∧ Below V.heap.size V w'
  ident : ∀ (k : Int) (V : World), k ≤ 17592186044416 →
    Calls Try.prog 22 #[.int .i64 k] V fun e w' => ∃ r, e = .returned r ∧ w'.ownsRow V.heap.size 3 1 r k.toNat (intsL k.toNat (fun j => (j : Int))) ∧ Below V.heap.size V w'
  bounds : ∀ (k : Int) (V : World), k ≤ 17592186044416 →
    Calls Try.prog 24 #[.int .i64 k] V fun e w' => ∃ r, e = .returned r ∧ w'.ownsRow V.heap.size 3 1 r (k - 1).toNat (intsL (k - 1).toNat (fun j => k - (j : Int))) ∧ Below V.heap.size V w'
  inverse : ∀ (f : Nat → Int) (n : Nat) (v : Value) (V : World), SliceI V v n f → n ≤ 17592186044416 →
    Calls Try.prog 14 #[v] V fun e w' => ∃ r, e = .returned (.tuple #[r, .int .i64 ((pE f n : Nat) : Int)]) ∧ w'.ownsRow V.heap.size 3 1 r (zl (pE f n) n) (intsL (zl (pE f n) n) (fun j => (posN (gN f) j n : Int))) ∧ Below V.heap.size V w'
  draws : ∀ (f : Nat → Int) (n : Nat) (v : Value) (V : World), SliceI V v n f → n ≤ 17592186044416 →
    Calls Try.prog 15 #[v] V fun e w' => ∃ r, e = .returned (.tuple #[r, .int .i64 ((pE f n : Nat) : Int)]) ∧ w'.ownsRow V.heap.size 3 1 r (zl (pE f n) (n - 1)) (intsL (zl (pE f n) (n - 1)) (fun j => (drD n (gN f) j : Int))) ∧ Below V.heap.size V w'
  rank : ∀ (f : Nat → Int) (n : Nat) (v : Value) (V : World), SliceI V v n f → n ≤ 17592186044416 →
    Calls Try.prog 16 #[v] V fun e w' => ∃ r, e = .returned (.tuple #[r, .int .i64 ((pE f n : Nat) : Int)]) ∧ w'.ownsRow V.heap.size 3 1 r (zl (pE f n) n) (intsL (zl (pE f n) n) (fun j => (rkD (gN f) n j : Int))) ∧ Below V.heap.size V w'
  unrank : ∀ (d : Nat → Int) (n : Nat) (v : Value) (V : World), SliceI V v n d → n ≤ 17592186044416 →
    Calls Try.prog 21 #[v] V fun e w' => ∃ r, e = .returned (.tuple #[r, .int .i64 ((unE d n : Nat) : Int)]) ∧ w'.ownsRow V.heap.size 3 1 r (zl (unE d n) n) (intsL (zl (unE d n) n) (fun j => (unr (gN d) j : Int))) ∧ Below V.heap.size V w'
  compose : ∀ (f g : Nat → Int) (n m : Nat) (v u : Value) (V : World), SliceI V v n f → n ≤ 17592186044416 → SliceI V u m g → m ≤ 17592186044416 →
    Calls Try.prog 28 #[v, u] V fun e w' => ∃ r, e = .returned (.tuple #[r, .int .i64 ((coE f n g m : Nat) : Int)]) ∧ w'.ownsRow V.heap.size 3 1 r (zl (coE f n g m) n) (intsL (zl (coE f n g m) n) (fun j => g (f j).toNat)) ∧ Below V.heap.size V w'
  apply : ∀ (f g : Nat → Int) (n m : Nat) (v u : Value) (V : World), SliceI V v n f → n ≤ 17592186044416 → SliceI V u m g →
    Calls Try.prog 29 #[v, u] V fun e w' => ∃ r, e = .returned (.tuple #[r, .int .i64 ((apE f n m : Nat) : Int)]) ∧ w'.ownsRow V.heap.size 3 1 r (zl (apE f n m) n) (intsL (zl (apE f n m) n) (fun j => g (f j).toNat)) ∧ Below V.heap.size V w'
  from_ : ∀ (k : Int) (d : Nat → Int) (m : Nat) (v : Value) (V : World), SliceI V v m d → m ≤ 17592186043904 → k < 9223372036854775808 →
    Calls Try.prog 20 #[.int .i64 k, v] V fun e w' => ∃ r, e = .returned (.tuple #[r, .int .i64 ((frE k d m : Nat) : Int)]) ∧ w'.ownsRow V.heap.size 3 1 r (zl (frE k d m) k.toNat) (intsL (zl (frE k d m) k.toNat) (fun j => (frA k.toNat (gN d) m j : Int))) ∧ Below V.heap.size V w'
set_option maxRecDepth 100000 in
set_option maxHeartbeats 4000000 in
theorem sameP (f g : Nat → Int) (n : Nat) (v u : Value) (V : World) (hv : SliceI V v n f) (hu : SliceI V u n g) (he : ∀ i, i < n → f i = g i) (hn17 : n ≤ 17592186044416) :
    Calls Try.prog 17 #[v, u] V fun e w' => e = .returned (.bool true) ∧ Below V.heap.size V w' := by
  obtain ⟨ia, ic, rfl, -, -, hsh⟩ := id hv.shape
  obtain ⟨ja, jc, rfl, -, -, hsj⟩ := id hu.shape
  have FI := hv
  have FJ := hu
  go_enter Try.func17, Try.ntmps17
  refine wp_seq ?_
  refine wp_region_sqK 26 [(0, 4)] (fun i_ => match i_ with | 0 => .bool false | _ => undef) rfl (by kernel_rfl) (by decide) (by decide) ?_ ?_
  · intro i_ hi_ a hf hv hn
    match i_, hi_ with
    | 0, _ => exact stepV rfl rfl (execAsgB rfl rfl) ⟨⟨_, rfl, rfl⟩, rfl⟩
    | k_ + 1, h_ => exact absurd h_ (by simp)
  intro a h1 h2 h3 h4
  have t0 : a.eval (.tmp 0) = .slice ia n ic := (h3 0 (by decide)).trans rfl
  have t1 : a.eval (.tmp 1) = .slice ja n jc := (h3 1 (by decide)).trans rfl
  have A : a.tmps.size = 26 ∧ a.defers = [] := ⟨h1, h2⟩
  have BW : Below V.heap.size V V := Below.refl _ _
  clear h1 h2 h3 h4
  have BB := BW
  refine wp_seq ?_
  refine wp_seq ?_
  refine wp_region_sq (σ := Unit) 26 [(0, 6), (1, 7), (2, 8), (3, 9), (4, 10)] (fun j_ s X => match j_ with | 0 => Below V.heap.size V X | 1 => Below V.heap.size V X | 2 => Below V.heap.size V X | 3 => Below V.heap.size V X | 4 => Below V.heap.size V X | _ => Below V.heap.size V X) (fun s => fun i_ => match i_ with | 0 => .slice ia n ic | 1 => .int .i64 ((n : Nat) : Int) | 2 => .slice ja n jc | 3 => .int .i64 ((n : Nat) : Int) | 4 => .bool false | _ => undef) () A.1 (by kernel_rfl) (by decide) (by decide) (BB) ?_ ?_
  · intro i_ hi_ s a X hf hv hn hS
    match i_, hi_ with
    | 0, _ => exact stepV rfl rfl (execMvB rfl ((hf 0 (by decide)).trans t0)) ⟨s, ⟨_, rfl, rfl⟩, hS, fun _ _ => rfl⟩
    | 1, _ => exact stepV rfl rfl (execLenI (len := n) rfl (hv 0 (by omega) _ rfl _ rfl) ((FI.on hS)).shp) ⟨s, ⟨_, rfl, rfl⟩, hS, fun _ _ => rfl⟩
    | 2, _ => exact stepV rfl rfl (execMvB rfl ((hf 1 (by decide)).trans t1)) ⟨s, ⟨_, rfl, rfl⟩, hS, fun _ _ => rfl⟩
    | 3, _ => exact stepV rfl rfl (execLenI (len := n) rfl (hv 2 (by omega) _ rfl _ rfl) ((FJ.on hS)).shp) ⟨s, ⟨_, rfl, rfl⟩, hS, fun _ _ => rfl⟩
    | 4, _ => exact stepV rfl rfl (execDec (execNeN (p := n) (q := n) rfl (hv 1 (by omega) _ rfl _ rfl) (hv 3 (by omega) _ rfl _ rfl)) (decide_eq_false (by omega))) ⟨s, ⟨_, rfl, rfl⟩, hS, fun _ _ => rfl⟩
    | k_ + 5, h_ => exact absurd h_ (by simp)
  rintro _ a X1 h1 h2 h3 h4 hS
  clear BB
  replace hS : Below V.heap.size V X1 := hS
  have BB := hS
  clear hS
  replace t0 := (h3 0 (by decide)).trans t0
  replace t1 := (h3 1 (by decide)).trans t1
  have t10 : a.eval (.tmp 10) = .bool false := h4 4 _ rfl _ rfl
  replace A := (⟨h1, h2.trans A.2⟩ : a.tmps.size = 26 ∧ a.defers = [])
  clear h1 h2 h3 h4
  refine wp_cond_false t10 ?_
  refine wp_skip ?_
  clear t10
  refine wp_seq ?_
  refine wp_seq ?_
  refine wp_region_sq (σ := Unit) 26 [(0, 5)] (fun j_ s X => match j_ with | 0 => Below V.heap.size V X | _ => Below V.heap.size V X) (fun s => fun i_ => match i_ with | 0 => .int .i64 ((0 : Nat) : Int) | _ => undef) () A.1 (by kernel_rfl) (by decide) (by decide) (BB) ?_ ?_
  · intro i_ hi_ s a X hf hv hn hS
    match i_, hi_ with
    | 0, _ => exact stepV rfl rfl (execAsgB rfl rfl) ⟨s, ⟨_, rfl, rfl⟩, hS, fun _ _ => rfl⟩
    | k_ + 1, h_ => exact absurd h_ (by simp)
  rintro _ a X3 h1 h2 h3 h4 hS
  clear BB
  replace hS : Below V.heap.size V X3 := hS
  have BB := hS
  clear hS
  replace t0 := (h3 0 (by decide)).trans t0
  replace t1 := (h3 1 (by decide)).trans t1
  have t5 : a.eval (.tmp 5) = .int .i64 ((0 : Nat) : Int) := h4 0 _ rfl _ rfl
  replace A := (⟨h1, h2.trans A.2⟩ : a.tmps.size = 26 ∧ a.defers = [])
  clear h1 h2 h3 h4
  refine wp_block ?_
  refine wp_loop (fun a W => ∃ i : Nat, i ≤ n ∧ (a.tmps.size = 26 ∧ a.defers = []) ∧ a.eval (.tmp 0) = .slice ia n ic ∧ a.eval (.tmp 1) = .slice ja n jc ∧ a.eval (.tmp 5) = .int .i64 ((i : Nat) : Int) ∧ Below V.heap.size V W) (fun a _ => n - (intOf (a.eval (.tmp 5))).toNat) ⟨0, Nat.zero_le _, A, t0, t1, t5, BB⟩ ?_
  clear A t0 t1 t5 BB a
  rintro a XL ⟨i, hi, A, t0, t1, t5, BB⟩
  have e5 := t5
  refine wp_seq ?_
  refine wp_seq ?_
  refine wp_region_sq (σ := Unit) 26 [(0, 11), (1, 12), (2, 13), (3, 14)] (fun j_ s X => match j_ with | 0 => Below V.heap.size V X | 1 => Below V.heap.size V X | 2 => Below V.heap.size V X | 3 => Below V.heap.size V X | _ => Below V.heap.size V X) (fun s => fun i_ => match i_ with | 0 => .int .i64 ((i : Nat) : Int) | 1 => .slice ia n ic | 2 => .int .i64 ((n : Nat) : Int) | 3 => .bool (decide (i < n)) | _ => undef) () A.1 (by kernel_rfl) (by decide) (by decide) (BB) ?_ ?_
  · intro i_ hi_ s a X hf hv hn hS
    match i_, hi_ with
    | 0, _ => exact stepV rfl rfl (execMvB rfl ((hf 5 (by decide)).trans t5)) ⟨s, ⟨_, rfl, rfl⟩, hS, fun _ _ => rfl⟩
    | 1, _ => exact stepV rfl rfl (execMvB rfl ((hf 0 (by decide)).trans t0)) ⟨s, ⟨_, rfl, rfl⟩, hS, fun _ _ => rfl⟩
    | 2, _ => exact stepV rfl rfl (execLenI (len := n) rfl (hv 1 (by omega) _ rfl _ rfl) ((FI.on hS)).shp) ⟨s, ⟨_, rfl, rfl⟩, hS, fun _ _ => rfl⟩
    | 3, _ => exact stepV rfl rfl (execLtW (p := i) (q := n) rfl (hv 0 (by omega) _ rfl _ rfl) (hv 2 (by omega) _ rfl _ rfl)) ⟨s, ⟨_, rfl, rfl⟩, hS, fun _ _ => rfl⟩
    | k_ + 4, h_ => exact absurd h_ (by simp)
  rintro _ a X4 h1 h2 h3 h4 hS
  clear BB
  replace hS : Below V.heap.size V X4 := hS
  have BB := hS
  clear hS
  replace t0 := (h3 0 (by decide)).trans t0
  replace t1 := (h3 1 (by decide)).trans t1
  replace t5 := (h3 5 (by decide)).trans t5
  have t14 : a.eval (.tmp 14) = .bool (decide (i < n)) := h4 3 _ rfl _ rfl
  replace A := (⟨h1, h2.trans A.2⟩ : a.tmps.size = 26 ∧ a.defers = [])
  clear h1 h2 h3 h4
  by_cases hlt : i < n
  · rw [decide_eq_true hlt] at t14
    refine wp_cond_true t14 ?_
    refine wp_skip ?_
    clear t14
    obtain ⟨ib, io, rfl, hib, hcell⟩ := hsh (by omega)
    obtain ⟨jb, jo, rfl, hjb, hcelj⟩ := hsj (by omega)
    have cI : ∀ X, Below V.heap.size V X → X.cell? ⟨ib, io + i, none⟩ = some (.int .i64 (f i)) := fun X hX => by rw [cell_below hX hib]; exact hcell i hlt
    have cJ : ∀ X, Below V.heap.size V X → X.cell? ⟨jb, jo + i, none⟩ = some (.int .i64 (f i)) := fun X hX => by rw [cell_below hX hjb, he i hlt]; exact hcelj i hlt
    refine wp_seq ?_
    refine wp_block ?_
    refine wp_seq ?_
    refine wp_region_detA 26 [(0, 17), (1, 18), (2, 19), (3, 20), (4, 21), (5, 22), (6, 23), (7, 24), (8, 25)] (fun i_ => match i_ with | 0 => .slice (some ⟨ib, io, none⟩) n ic | 1 => .int .i64 ((i : Nat) : Int) | 2 => .pointer (some ⟨ib, io + i, none⟩) | 3 => .int .i64 (f i) | 4 => .slice (some ⟨jb, jo, none⟩) n jc | 5 => .int .i64 ((i : Nat) : Int) | 6 => .pointer (some ⟨jb, jo + i, none⟩) | 7 => .int .i64 (f i) | 8 => .bool false | _ => undef) (fun _ X => Below V.heap.size V X) (by kernel_rfl) (by kernel_rfl) A.1 (by kernel_rfl) (by decide) (by decide) BB.drew ?_ ?_
    · intro i_ hi_ l_ a X hl_ hf hdep hl2 hcl hno hT
      match i_, hi_ with
      | 0, _ => exact stepV rfl rfl (execMvB rfl ((hf 0 (by decide)).trans t0)) ⟨⟨_, rfl, rfl⟩, hT⟩
      | 1, _ => exact stepV rfl rfl (execMvB rfl ((hf 5 (by decide)).trans t5)) ⟨⟨_, rfl, rfl⟩, hT⟩
      | 2, _ => exact stepV rfl rfl (execIdxN (k := i) rfl (hdep _ rfl 0 rfl _ rfl _ rfl) (hdep _ rfl 1 rfl _ rfl _ rfl) hlt) ⟨⟨_, rfl, rfl⟩, hT⟩
      | 3, _ => exact stepV rfl rfl (execLd3 rfl (hdep _ rfl 2 rfl _ rfl _ rfl) (cI X hT)) ⟨⟨_, rfl, rfl⟩, hT⟩
      | 4, _ => exact stepV rfl rfl (execMvB rfl ((hf 1 (by decide)).trans t1)) ⟨⟨_, rfl, rfl⟩, hT⟩
      | 5, _ => exact stepV rfl rfl (execMvB rfl ((hf 5 (by decide)).trans t5)) ⟨⟨_, rfl, rfl⟩, hT⟩
      | 6, _ => exact stepV rfl rfl (execIdxN (k := i) rfl (hdep _ rfl 4 rfl _ rfl _ rfl) (hdep _ rfl 5 rfl _ rfl _ rfl) hlt) ⟨⟨_, rfl, rfl⟩, hT⟩
      | 7, _ => exact stepV rfl rfl (execLd3 rfl (hdep _ rfl 6 rfl _ rfl _ rfl) (cJ X hT)) ⟨⟨_, rfl, rfl⟩, hT⟩
      | 8, _ => exact stepV rfl rfl (execNeI rfl (hdep _ rfl 3 rfl _ rfl _ rfl) (hdep _ rfl 7 rfl _ rfl _ rfl)) ⟨⟨_, rfl, rfl⟩, hT⟩
      | k_ + 9, h_ => exact absurd h_ (by simp)
    intro l_ a X6 h1 h2 h3 h4 hall hT
    clear hall
    clear BB
    have BB := hT
    clear hT
    replace t0 := (h3 0 (by decide)).trans t0
    replace t1 := (h3 1 (by decide)).trans t1
    replace t5 := (h3 5 (by decide)).trans t5
    have t25 : a.eval (.tmp 25) = .bool false := h4 (8, 25) (by decide)
    replace A := (⟨h1, h2.trans A.2⟩ : a.tmps.size = 26 ∧ a.defers = [])
    clear h1 h2 h3 h4
    refine wp_cond_false t25 ?_
    refine wp_skip ?_
    clear t25
    refine wp_region_sq (σ := Unit) 26 [(0, 15), (1, 16), (2, 5)] (fun j_ s X => match j_ with | 0 => Below V.heap.size V X | 1 => Below V.heap.size V X | 2 => Below V.heap.size V X | _ => Below V.heap.size V X) (fun s => fun i_ => match i_ with | 0 => .int .i64 ((i : Nat) : Int) | 1 => .int .i64 ((i + 1 : Nat) : Int) | 2 => .int .i64 ((i + 1 : Nat) : Int) | _ => undef) () A.1 (by kernel_rfl) (by decide) (by decide) (BB) ?_ ?_
    · intro i_ hi_ s a X hf hv hn hS
      match i_, hi_ with
      | 0, _ => exact stepV rfl rfl (execMvB rfl ((hn 2 (by omega) _ rfl _ rfl).trans t5)) ⟨s, ⟨_, rfl, rfl⟩, hS, fun _ _ => rfl⟩
      | 1, _ => exact stepV rfl rfl (execAd8 (p := i) (q := 1) rfl (hv 0 (by omega) _ rfl _ rfl) rfl (by omega)) ⟨s, ⟨_, rfl, rfl⟩, hS, fun _ _ => rfl⟩
      | 2, _ => exact stepV rfl rfl (execAsgB rfl (hv 1 (by omega) _ rfl _ rfl)) ⟨s, ⟨_, rfl, rfl⟩, hS, fun _ _ => rfl⟩
      | k_ + 3, h_ => exact absurd h_ (by simp)
    rintro _ a X5 h1 h2 h3 h4 hS
    clear BB
    replace hS : Below V.heap.size V X5 := hS
    have BB := hS
    clear hS
    replace t0 := (h3 0 (by decide)).trans t0
    replace t1 := (h3 1 (by decide)).trans t1
    replace t5 : a.eval (.tmp 5) = .int .i64 ((i + 1 : Nat) : Int) := h4 2 _ rfl _ rfl
    replace A := (⟨h1, h2.trans A.2⟩ : a.tmps.size = 26 ∧ a.defers = [])
    clear h1 h2 h3 h4
    exact ⟨⟨i + 1, hlt, A, t0, t1, t5, BB⟩, by show n - (intOf (a.eval (.tmp 5))).toNat < n - (intOf (Act.eval _ (.tmp 5))).toNat; rw [t5, e5]; show n - (i + 1) < n - i; omega⟩
  · rw [decide_eq_false hlt] at t14
    refine wp_cond_false t14 ?_
    refine wp_exit ?_
    first | refine exit_in ?_ | refine exit_then (exit_in ?_) | refine exit_then (exit_then (exit_in ?_))
    clear t14
    refine wp_seq ?_
    refine wp_region_sq (σ := Unit) 26 [(0, 4)] (fun j_ s X => match j_ with | 0 => Below V.heap.size V X | _ => Below V.heap.size V X) (fun s => fun i_ => match i_ with | 0 => .bool true | _ => undef) () A.1 (by kernel_rfl) (by decide) (by decide) (BB) ?_ ?_
    · intro i_ hi_ s a X hf hv hn hS
      match i_, hi_ with
      | 0, _ => exact stepV rfl rfl (execAsgB rfl rfl) ⟨s, ⟨_, rfl, rfl⟩, hS, fun _ _ => rfl⟩
      | k_ + 1, h_ => exact absurd h_ (by simp)
    rintro _ a X8 h1 h2 h3 h4 hS
    clear BB
    replace hS : Below V.heap.size V X8 := hS
    have BB := hS
    clear hS
    have t4 : a.eval (.tmp 4) = .bool true := h4 0 _ rfl _ rfl
    replace A := (⟨h1, h2.trans A.2⟩ : a.tmps.size = 26 ∧ a.defers = [])
    clear h1 h2 h3 h4
    clear t0 t1 t5
    refine wp_ret ?_
    repeat (first | refine ret_in ?_ | refine ret_then ?_)
    refine bodyPost_ret (results_tmp rfl _ _ _) A.2 ⟨?_, BB⟩
    show Ending.returned (a.eval (.tmp 4)) = _
    rw [t4]
set_option maxRecDepth 100000 in
set_option maxHeartbeats 4000000 in
/-- The laws' awake. -/
theorem awake11 (I : Impl) (V : World) :
    Calls Try.prog 9 #[] V fun e w' => e = .returned (.bool true) ∧ Below V.heap.size V w' := by
  go_enter Try.func9, Try.ntmps9
  refine wp_seq ?_
  refine wp_region_sqK 15 [(0, 0)] (fun i_ => match i_ with | 0 => .bool false | _ => undef) rfl (by kernel_rfl) (by decide) (by decide) ?_ ?_
  · intro i_ hi_ a hf hv hn
    match i_, hi_ with
    | 0, _ => exact stepV rfl rfl (execAsgB rfl rfl) ⟨⟨_, rfl, rfl⟩, rfl⟩
    | k_ + 1, h_ => exact absurd h_ (by simp)
  intro a h1 h2 h3 h4
  have A : a.tmps.size = 15 ∧ a.defers = [] := ⟨h1, h2⟩
  have BW : Below V.heap.size V V := Below.refl _ _
  clear h1 h2 h3 h4
  refine wp_seq ?_
  refine wp_region_sq (σ := Nat × Value) 15 [(0, 4), (1, 5), (2, 3), (3, 6), (4, 7), (5, 1), (6, 2)] (fun j_ s X => match j_ with | 0 => Below V.heap.size V X | 1 => Below V.heap.size V X ∧ (SliceI X (.slice (some ⟨s.1, 0, none⟩) 3 3) (3) (fun _ => 0)) | 2 => Below V.heap.size V X ∧ (SliceI X (.slice (some ⟨s.1, 0, none⟩) 3 3) (3) (fun _ => 0)) ∧ (SliceI X s.2 (zl (frE (((4 : Nat) : Int)) (fun _ => 0) 3) ((((4 : Nat) : Int)).toNat)) (fun j => (frA (((4 : Nat) : Int)).toNat (gN (fun _ => 0)) 3 j : Int))) | 3 => Below V.heap.size V X ∧ (SliceI X (.slice (some ⟨s.1, 0, none⟩) 3 3) (3) (fun _ => 0)) ∧ (SliceI X s.2 (zl (frE (((4 : Nat) : Int)) (fun _ => 0) 3) ((((4 : Nat) : Int)).toNat)) (fun j => (frA (((4 : Nat) : Int)).toNat (gN (fun _ => 0)) 3 j : Int))) | 4 => Below V.heap.size V X ∧ (SliceI X (.slice (some ⟨s.1, 0, none⟩) 3 3) (3) (fun _ => 0)) ∧ (SliceI X s.2 (zl (frE (((4 : Nat) : Int)) (fun _ => 0) 3) ((((4 : Nat) : Int)).toNat)) (fun j => (frA (((4 : Nat) : Int)).toNat (gN (fun _ => 0)) 3 j : Int))) | 5 => Below V.heap.size V X ∧ (SliceI X (.slice (some ⟨s.1, 0, none⟩) 3 3) (3) (fun _ => 0)) ∧ (SliceI X s.2 (zl (frE (((4 : Nat) : Int)) (fun _ => 0) 3) ((((4 : Nat) : Int)).toNat)) (fun j => (frA (((4 : Nat) : Int)).toNat (gN (fun _ => 0)) 3 j : Int))) | 6 => Below V.heap.size V X ∧ (SliceI X (.slice (some ⟨s.1, 0, none⟩) 3 3) (3) (fun _ => 0)) ∧ (SliceI X s.2 (zl (frE (((4 : Nat) : Int)) (fun _ => 0) 3) ((((4 : Nat) : Int)).toNat)) (fun j => (frA (((4 : Nat) : Int)).toNat (gN (fun _ => 0)) 3 j : Int))) | _ => Below V.heap.size V X ∧ (SliceI X (.slice (some ⟨s.1, 0, none⟩) 3 3) (3) (fun _ => 0)) ∧ (SliceI X s.2 (zl (frE (((4 : Nat) : Int)) (fun _ => 0) 3) ((((4 : Nat) : Int)).toNat)) (fun j => (frA (((4 : Nat) : Int)).toNat (gN (fun _ => 0)) 3 j : Int)))) (fun s => fun i_ => match i_ with | 0 => .slice (some ⟨s.1, 0, none⟩) 3 3 | 1 => .tuple #[s.2, .int .i64 ((frE (((4 : Nat) : Int)) (fun _ => 0) 3 : Nat) : Int)] | 2 => .tuple #[s.2, .int .i64 ((frE (((4 : Nat) : Int)) (fun _ => 0) 3 : Nat) : Int)] | 3 => s.2 | 4 => .int .i64 ((frE (((4 : Nat) : Int)) (fun _ => 0) 3 : Nat) : Int) | 5 => s.2 | 6 => .int .i64 ((frE (((4 : Nat) : Int)) (fun _ => 0) 3 : Nat) : Int) | _ => undef) (0, undef) A.1 (by kernel_rfl) (by decide) (by decide) (Below.refl _ _) ?_ ?_
  · intro i_ hi_ s a X hf hv hn hS
    match i_, hi_ with
    | 0, _ =>
      refine stepV rfl rfl (execZ3 rfl) ⟨(X.heap.size, s.2), ⟨_, rfl, rfl⟩, ⟨(hS).trans (((belNew X _)).mono (hS).size), sliceZ3 X⟩, fun i hi => ?_⟩
      omega
    | 1, _ =>
      refine stepC rfl rfl (execCall2 Try.func20 (by kernel_rfl) (by kernel_rfl) rfl rfl (hv 0 (by omega) _ rfl _ rfl)) (I.from_ (((4 : Nat) : Int)) (fun _ => 0) 3 _ X hS.2 (by decide) (by omega)) fun e w' hh => ?_
      obtain ⟨r_, he, hk, hb⟩ := hh
      refine ⟨_, he, (s.1, r_), ⟨_, rfl, rfl⟩, ⟨(hS.1).trans ((hb).mono (hS.1).size), (hS.2.on hb), own_ints hk (from_fits (by decide))⟩, fun i hi => ?_⟩
      match i, hi with
      | 0, _ => rfl
      | n_ + 1, h_ => omega
    | 2, _ => exact stepV rfl rfl (execMvB rfl (hv 1 (by omega) _ rfl _ rfl)) ⟨s, ⟨_, rfl, rfl⟩, hS, fun _ _ => rfl⟩
    | 3, _ => exact stepV rfl rfl (execExtT rfl (hv 2 (by omega) _ rfl _ rfl) rfl) ⟨s, ⟨_, rfl, rfl⟩, hS, fun _ _ => rfl⟩
    | 4, _ => exact stepV rfl rfl (execExtT rfl (hv 2 (by omega) _ rfl _ rfl) rfl) ⟨s, ⟨_, rfl, rfl⟩, hS, fun _ _ => rfl⟩
    | 5, _ => exact stepV rfl rfl (execAsgB rfl (hv 3 (by omega) _ rfl _ rfl)) ⟨s, ⟨_, rfl, rfl⟩, hS, fun _ _ => rfl⟩
    | 6, _ => exact stepV rfl rfl (execAsgB rfl (hv 4 (by omega) _ rfl _ rfl)) ⟨s, ⟨_, rfl, rfl⟩, hS, fun _ _ => rfl⟩
    | k_ + 7, h_ => exact absurd h_ (by simp)
  rintro ⟨g4, v5⟩ a X1 h1 h2 h3 h4 hS
  replace hS : Below V.heap.size V X1 ∧ (SliceI X1 (.slice (some ⟨g4, 0, none⟩) 3 3) (3) (fun _ => 0)) ∧ (SliceI X1 v5 (zl (frE (((4 : Nat) : Int)) (fun _ => 0) 3) ((((4 : Nat) : Int)).toNat)) (fun j => (frA (((4 : Nat) : Int)).toNat (gN (fun _ => 0)) 3 j : Int))) := hS
  obtain ⟨bX, Fg4, Fv5⟩ := hS
  have t1 : a.eval (.tmp 1) = v5 := h4 5 _ rfl _ rfl
  have t2 : a.eval (.tmp 2) = .int .i64 ((frE (((4 : Nat) : Int)) (fun _ => 0) 3 : Nat) : Int) := h4 6 _ rfl _ rfl
  have ZX1 := bX.size
  replace BW := BW.trans (bX.mono BW.size)
  clear bX
  replace A := (⟨h1, h2.trans A.2⟩ : a.tmps.size = 15 ∧ a.defers = [])
  clear h1 h2 h3 h4
  rw [awE, zl_ok] at Fv5
  rw [awE] at t2
  replace Fv5 := Fv5.cg (g := aw4) awF
  refine wp_seq ?_
  refine wp_region_sq (σ := Nat) 15 [(0, 8), (1, 9), (2, 10), (3, 11), (4, 12), (5, 13), (6, 14), (7, 0)] (fun j_ s X => match j_ with | 0 => Below X1.heap.size X1 X | 1 => Below X1.heap.size X1 X | 2 => Below X1.heap.size X1 X | 3 => Below X1.heap.size X1 X | 4 => Below X1.heap.size X1 X | 5 => Below X1.heap.size X1 X ∧ (SliceI X (.slice (some ⟨s, 0, none⟩) 4 4) (4) (aw4)) | 6 => Below X1.heap.size X1 X ∧ (SliceI X (.slice (some ⟨s, 0, none⟩) 4 4) (4) (aw4)) | 7 => Below X1.heap.size X1 X ∧ (SliceI X (.slice (some ⟨s, 0, none⟩) 4 4) (4) (aw4)) | _ => Below X1.heap.size X1 X ∧ (SliceI X (.slice (some ⟨s, 0, none⟩) 4 4) (4) (aw4))) (fun s => fun i_ => match i_ with | 0 => .int .i64 ((0 : Nat) : Int) | 1 => .bool true | 2 => .bool true | 3 => v5 | 4 => .slice (some ⟨s, 0, none⟩) 4 4 | 5 => .bool true | 6 => .bool true | 7 => .bool true | _ => undef) 0 A.1 (by kernel_rfl) (by decide) (by decide) (Below.refl _ _) ?_ ?_
  · intro i_ hi_ s a X hf hv hn hS
    match i_, hi_ with
    | 0, _ => exact stepV rfl rfl (execMvB rfl ((hf 2 (by decide)).trans t2)) ⟨s, ⟨_, rfl, rfl⟩, hS, fun _ _ => rfl⟩
    | 1, _ => exact stepV rfl rfl (execDec (execEqE (p := 0) (q := 0) rfl (hv 0 (by omega) _ rfl _ rfl) rfl) (decide_eq_true (by decide))) ⟨s, ⟨_, rfl, rfl⟩, hS, fun _ _ => rfl⟩
    | 2, _ => exact stepV rfl rfl (execMvB rfl (hv 1 (by omega) _ rfl _ rfl)) ⟨s, ⟨_, rfl, rfl⟩, hS, fun _ _ => rfl⟩
    | 3, _ => exact stepV rfl (wantedOf rfl (yieldedAt rfl rfl (show a.eval (.tmp 10) = .bool true from (hv 2 (by omega) _ rfl _ rfl)))) (execMvB rfl ((hf 1 (by decide)).trans t1)) ⟨s, ⟨_, rfl, rfl⟩, hS, fun _ _ => rfl⟩
    | 4, _ =>
      refine stepV rfl (wantedOf rfl (yieldedAt rfl rfl (show a.eval (.tmp 10) = .bool true from (hv 2 (by omega) _ rfl _ rfl)))) (execL4 rfl) ⟨X.heap.size, ⟨_, rfl, rfl⟩, ⟨(hS).trans (((belNew X _)).mono (hS).size), sliceL4 X⟩, fun i hi => ?_⟩
      match i, hi with
      | 0, _ => rfl
      | 1, _ => rfl
      | 2, _ => rfl
      | 3, _ => rfl
      | n_ + 4, h_ => omega
    | 5, _ => exact stepC rfl (wantedOf rfl (yieldedAt rfl rfl (show a.eval (.tmp 10) = .bool true from (hv 2 (by omega) _ rfl _ rfl)))) (execCall2 Try.func17 (by kernel_rfl) (by kernel_rfl) rfl (hv 3 (by omega) _ rfl _ rfl) (hv 4 (by omega) _ rfl _ rfl)) (sameP _ _ (4) _ _ X (Fv5.on hS.1) hS.2 (by intro i hi; rfl) (by decide)) fun e w' hh => ⟨_, hh.1, s, ⟨_, rfl, rfl⟩, ⟨(hS.1).trans ((hh.2).mono (hS.1).size), (hS.2.on hh.2)⟩, fun _ _ => rfl⟩
    | 6, _ => exact stepV rfl rfl (execPickT rfl (hv 2 (by omega) _ rfl _ rfl) (hv 5 (by omega) _ rfl _ rfl)) ⟨s, ⟨_, rfl, rfl⟩, hS, fun _ _ => rfl⟩
    | 7, _ => exact stepV rfl rfl (execAsgB rfl (hv 6 (by omega) _ rfl _ rfl)) ⟨s, ⟨_, rfl, rfl⟩, hS, fun _ _ => rfl⟩
    | k_ + 8, h_ => exact absurd h_ (by simp)
  rintro g12 a X2 h1 h2 h3 h4 hS
  replace hS : Below X1.heap.size X1 X2 ∧ (SliceI X2 (.slice (some ⟨g12, 0, none⟩) 4 4) (4) (aw4)) := hS
  obtain ⟨bX, Fg12⟩ := hS
  have t0 : a.eval (.tmp 0) = .bool true := h4 7 _ rfl _ rfl
  replace Fv5 := (Fv5.on bX)
  have ZX2 := bX.size
  replace BW := BW.trans (bX.mono BW.size)
  clear bX
  replace A := (⟨h1, h2.trans A.2⟩ : a.tmps.size = 15 ∧ a.defers = [])
  clear h1 h2 h3 h4
  clear t1 t2
  refine wp_ret ?_
  refine bodyPost_ret (results_tmp rfl _ _ _) A.2 ⟨?_, BW⟩
  show Ending.returned (a.eval (.tmp 0)) = _
  rw [t0]
set_option maxRecDepth 100000 in
set_option maxHeartbeats 4000000 in
/-- PermChecks. -/
theorem checks_any (I : Impl) (f : Nat → Int) (n : Nat) (pv : Value) (V : World) (hv0 : SliceI V pv n f) (hn17 : n ≤ 17592186044416) :
    Calls Try.prog 3 #[pv] V fun e w' => e = .returned (.bool true) ∧ Below V.heap.size V w' := by
  have FI := hv0
  go_enter Try.func3, Try.ntmps3
  refine wp_seq ?_
  refine wp_region_sqK 86 [(0, 2)] (fun i_ => match i_ with | 0 => .bool false | _ => undef) rfl (by kernel_rfl) (by decide) (by decide) ?_ ?_
  · intro i_ hi_ a hf hv hn
    match i_, hi_ with
    | 0, _ => exact stepV rfl rfl (execAsgB rfl rfl) ⟨⟨_, rfl, rfl⟩, rfl⟩
    | k_ + 1, h_ => exact absurd h_ (by simp)
  intro a h1 h2 h3 h4
  have t0 : a.eval (.tmp 0) = pv := (h3 0 (by decide)).trans rfl
  have A : a.tmps.size = 86 ∧ a.defers = [] := ⟨h1, h2⟩
  have BW : Below V.heap.size V V := Below.refl _ _
  clear h1 h2 h3 h4
  refine wp_seq ?_
  refine wp_seq ?_
  refine wp_region_sq (σ := Nat) 86 [(0, 15), (1, 16), (2, 17), (3, 18), (4, 19), (5, 20), (6, 21)] (fun j_ s X => match j_ with | 0 => Below V.heap.size V X | 1 => Below V.heap.size V X | 2 => Below V.heap.size V X | 3 => Below V.heap.size V X | 4 => Below V.heap.size V X ∧ (SliceI X (.slice (some ⟨s, 0, none⟩) 2 2) (2) (fun j => if j = 0 then 1 else 1)) | 5 => Below V.heap.size V X ∧ (SliceI X (.slice (some ⟨s, 0, none⟩) 2 2) (2) (fun j => if j = 0 then 1 else 1)) | 6 => Below V.heap.size V X ∧ (SliceI X (.slice (some ⟨s, 0, none⟩) 2 2) (2) (fun j => if j = 0 then 1 else 1)) | _ => Below V.heap.size V X ∧ (SliceI X (.slice (some ⟨s, 0, none⟩) 2 2) (2) (fun j => if j = 0 then 1 else 1))) (fun s => fun i_ => match i_ with | 0 => .bool true | 1 => .bool false | 2 => .bool false | 3 => .slice (some ⟨s, 0, none⟩) 2 2 | 4 => .int .i64 ((pE (fun j => if j = 0 then 1 else 1) 2 : Nat) : Int) | 5 => .bool false | 6 => .bool false | _ => undef) 0 A.1 (by kernel_rfl) (by decide) (by decide) (Below.refl _ _) ?_ ?_
  · intro i_ hi_ s a X hf hv hn hS
    match i_, hi_ with
    | 0, _ => exact stepC rfl rfl (execCall0 Try.func9 (by kernel_rfl) (by kernel_rfl) rfl ) (awake11 I X) fun e w' hh => ⟨_, hh.1, s, ⟨_, rfl, rfl⟩, (hS).trans ((hh.2).mono (hS).size), fun _ _ => rfl⟩
    | 1, _ => exact stepV rfl rfl (execNot8 rfl (hv 0 (by omega) _ rfl _ rfl)) ⟨s, ⟨_, rfl, rfl⟩, hS, fun _ _ => rfl⟩
    | 2, _ => exact stepV rfl rfl (execMvB rfl (hv 1 (by omega) _ rfl _ rfl)) ⟨s, ⟨_, rfl, rfl⟩, hS, fun _ _ => rfl⟩
    | 3, _ =>
      refine stepV rfl (wantedOf rfl (yieldedAt rfl rfl (show a.eval (.tmp 17) = .bool false from (hv 2 (by omega) _ rfl _ rfl)))) (execBsI2 (y := 1) (z := 1) rfl) ⟨X.heap.size, ⟨_, rfl, rfl⟩, ⟨(hS).trans (((belNew X _)).mono (hS).size), sliceI2 X 1 1 (by omega) (by omega)⟩, fun i hi => ?_⟩
      match i, hi with
      | 0, _ => rfl
      | 1, _ => rfl
      | 2, _ => rfl
      | n_ + 3, h_ => omega
    | 4, _ => exact stepC rfl (wantedOf rfl (yieldedAt rfl rfl (show a.eval (.tmp 17) = .bool false from (hv 2 (by omega) _ rfl _ rfl)))) (execCall1 Try.func10 (by kernel_rfl) (by kernel_rfl) rfl (hv 3 (by omega) _ rfl _ rfl)) (I.check (fun j => if j = 0 then 1 else 1) 2 _ X hS.2 (by omega)) fun e w' hh => ⟨_, hh.1, s, ⟨_, rfl, rfl⟩, ⟨(hS.1).trans ((hh.2).mono (hS.1).size), (hS.2.on hh.2)⟩, fun _ _ => rfl⟩
    | 5, _ => exact stepV rfl (wantedOf rfl (yieldedAt rfl rfl (show a.eval (.tmp 17) = .bool false from (hv 2 (by omega) _ rfl _ rfl)))) (execDec (execEqE (p := pE (fun j => if j = 0 then 1 else 1) 2) (q := 0) rfl (hv 4 (by omega) _ rfl _ rfl) rfl) (decide_eq_false (by rw [one11]; decide))) ⟨s, ⟨_, rfl, rfl⟩, hS, fun _ _ => rfl⟩
    | 6, _ => exact stepV rfl rfl (execPickF rfl (hv 2 (by omega) _ rfl _ rfl) (hv 5 (by omega) _ rfl _ rfl)) ⟨s, ⟨_, rfl, rfl⟩, hS, fun _ _ => rfl⟩
    | k_ + 7, h_ => exact absurd h_ (by simp)
  rintro g18 a X1 h1 h2 h3 h4 hS
  replace hS : Below V.heap.size V X1 ∧ (SliceI X1 (.slice (some ⟨g18, 0, none⟩) 2 2) (2) (fun j => if j = 0 then 1 else 1)) := hS
  obtain ⟨bX, Fg18⟩ := hS
  replace t0 := (h3 0 (by decide)).trans t0
  have t21 : a.eval (.tmp 21) = .bool false := h4 6 _ rfl _ rfl
  replace FI := (FI.on bX)
  have ZX1 := bX.size
  replace BW := BW.trans (bX.mono BW.size)
  clear bX
  replace A := (⟨h1, h2.trans A.2⟩ : a.tmps.size = 86 ∧ a.defers = [])
  clear h1 h2 h3 h4
  refine wp_cond_false t21 ?_
  refine wp_skip ?_
  clear t21
  refine wp_seq ?_
  refine wp_region_sq (σ := Value) 86 [(0, 23), (1, 24), (2, 22), (3, 25), (4, 26), (5, 3), (6, 4)] (fun j_ s X => match j_ with | 0 => Below X1.heap.size X1 X | 1 => Below X1.heap.size X1 X | 2 => Below X1.heap.size X1 X ∧ (SliceI X s (zl (pE f n) n) (fun j => (posN (gN f) j n : Int))) | 3 => Below X1.heap.size X1 X ∧ (SliceI X s (zl (pE f n) n) (fun j => (posN (gN f) j n : Int))) | 4 => Below X1.heap.size X1 X ∧ (SliceI X s (zl (pE f n) n) (fun j => (posN (gN f) j n : Int))) | 5 => Below X1.heap.size X1 X ∧ (SliceI X s (zl (pE f n) n) (fun j => (posN (gN f) j n : Int))) | 6 => Below X1.heap.size X1 X ∧ (SliceI X s (zl (pE f n) n) (fun j => (posN (gN f) j n : Int))) | _ => Below X1.heap.size X1 X ∧ (SliceI X s (zl (pE f n) n) (fun j => (posN (gN f) j n : Int)))) (fun s => fun i_ => match i_ with | 0 => pv | 1 => .tuple #[s, .int .i64 ((pE f n : Nat) : Int)] | 2 => .tuple #[s, .int .i64 ((pE f n : Nat) : Int)] | 3 => s | 4 => .int .i64 ((pE f n : Nat) : Int) | 5 => s | 6 => .int .i64 ((pE f n : Nat) : Int) | _ => undef) undef A.1 (by kernel_rfl) (by decide) (by decide) (Below.refl _ _) ?_ ?_
  · intro i_ hi_ s a X hf hv hn hS
    match i_, hi_ with
    | 0, _ => exact stepV rfl rfl (execMvB rfl ((hf 0 (by decide)).trans t0)) ⟨s, ⟨_, rfl, rfl⟩, hS, fun _ _ => rfl⟩
    | 1, _ =>
      refine stepC rfl rfl (execCall1 Try.func11 (by kernel_rfl) (by kernel_rfl) rfl (hv 0 (by omega) _ rfl _ rfl)) (rinverse f n _ X (FI.on hS) (by omega)) fun e w' hh => ?_
      obtain ⟨r_, he, hk, hb⟩ := hh
      refine ⟨_, he, r_, ⟨_, rfl, rfl⟩, ⟨(hS).trans ((hb).mono (hS).size), own_ints hk (pos_fits (by omega))⟩, fun i hi => ?_⟩
      match i, hi with
      | 0, _ => rfl
      | n_ + 1, h_ => omega
    | 2, _ => exact stepV rfl rfl (execMvB rfl (hv 1 (by omega) _ rfl _ rfl)) ⟨s, ⟨_, rfl, rfl⟩, hS, fun _ _ => rfl⟩
    | 3, _ => exact stepV rfl rfl (execExtT rfl (hv 2 (by omega) _ rfl _ rfl) rfl) ⟨s, ⟨_, rfl, rfl⟩, hS, fun _ _ => rfl⟩
    | 4, _ => exact stepV rfl rfl (execExtT rfl (hv 2 (by omega) _ rfl _ rfl) rfl) ⟨s, ⟨_, rfl, rfl⟩, hS, fun _ _ => rfl⟩
    | 5, _ => exact stepV rfl rfl (execAsgB rfl (hv 3 (by omega) _ rfl _ rfl)) ⟨s, ⟨_, rfl, rfl⟩, hS, fun _ _ => rfl⟩
    | 6, _ => exact stepV rfl rfl (execAsgB rfl (hv 4 (by omega) _ rfl _ rfl)) ⟨s, ⟨_, rfl, rfl⟩, hS, fun _ _ => rfl⟩
    | k_ + 7, h_ => exact absurd h_ (by simp)
  rintro v24 a X3 h1 h2 h3 h4 hS
  replace hS : Below X1.heap.size X1 X3 ∧ (SliceI X3 v24 (zl (pE f n) n) (fun j => (posN (gN f) j n : Int))) := hS
  obtain ⟨bX, Fv24⟩ := hS
  replace t0 := (h3 0 (by decide)).trans t0
  have t3 : a.eval (.tmp 3) = v24 := h4 5 _ rfl _ rfl
  have t4 : a.eval (.tmp 4) = .int .i64 ((pE f n : Nat) : Int) := h4 6 _ rfl _ rfl
  replace FI := (FI.on bX)
  replace Fg18 := (Fg18.on bX)
  have ZX3 := bX.size
  replace BW := BW.trans (bX.mono BW.size)
  clear bX
  replace A := (⟨h1, h2.trans A.2⟩ : a.tmps.size = 86 ∧ a.defers = [])
  clear h1 h2 h3 h4
  refine wp_seq ?_
  refine wp_region_sq (σ := Value) 86 [(0, 28), (1, 29), (2, 27), (3, 30), (4, 31), (5, 5), (6, 6)] (fun j_ s X => match j_ with | 0 => Below X3.heap.size X3 X | 1 => Below X3.heap.size X3 X | 2 => Below X3.heap.size X3 X ∧ (SliceI X s (zl (pE f n) (n - 1)) (fun j => (drD n (gN f) j : Int))) | 3 => Below X3.heap.size X3 X ∧ (SliceI X s (zl (pE f n) (n - 1)) (fun j => (drD n (gN f) j : Int))) | 4 => Below X3.heap.size X3 X ∧ (SliceI X s (zl (pE f n) (n - 1)) (fun j => (drD n (gN f) j : Int))) | 5 => Below X3.heap.size X3 X ∧ (SliceI X s (zl (pE f n) (n - 1)) (fun j => (drD n (gN f) j : Int))) | 6 => Below X3.heap.size X3 X ∧ (SliceI X s (zl (pE f n) (n - 1)) (fun j => (drD n (gN f) j : Int))) | _ => Below X3.heap.size X3 X ∧ (SliceI X s (zl (pE f n) (n - 1)) (fun j => (drD n (gN f) j : Int)))) (fun s => fun i_ => match i_ with | 0 => pv | 1 => .tuple #[s, .int .i64 ((pE f n : Nat) : Int)] | 2 => .tuple #[s, .int .i64 ((pE f n : Nat) : Int)] | 3 => s | 4 => .int .i64 ((pE f n : Nat) : Int) | 5 => s | 6 => .int .i64 ((pE f n : Nat) : Int) | _ => undef) undef A.1 (by kernel_rfl) (by decide) (by decide) (Below.refl _ _) ?_ ?_
  · intro i_ hi_ s a X hf hv hn hS
    match i_, hi_ with
    | 0, _ => exact stepV rfl rfl (execMvB rfl ((hf 0 (by decide)).trans t0)) ⟨s, ⟨_, rfl, rfl⟩, hS, fun _ _ => rfl⟩
    | 1, _ =>
      refine stepC rfl rfl (execCall1 Try.func12 (by kernel_rfl) (by kernel_rfl) rfl (hv 0 (by omega) _ rfl _ rfl)) (rdraws f n _ X (FI.on hS) (by omega)) fun e w' hh => ?_
      obtain ⟨r_, he, hk, hb⟩ := hh
      refine ⟨_, he, r_, ⟨_, rfl, rfl⟩, ⟨(hS).trans ((hb).mono (hS).size), own_ints hk (drw_fits (by omega))⟩, fun i hi => ?_⟩
      match i, hi with
      | 0, _ => rfl
      | n_ + 1, h_ => omega
    | 2, _ => exact stepV rfl rfl (execMvB rfl (hv 1 (by omega) _ rfl _ rfl)) ⟨s, ⟨_, rfl, rfl⟩, hS, fun _ _ => rfl⟩
    | 3, _ => exact stepV rfl rfl (execExtT rfl (hv 2 (by omega) _ rfl _ rfl) rfl) ⟨s, ⟨_, rfl, rfl⟩, hS, fun _ _ => rfl⟩
    | 4, _ => exact stepV rfl rfl (execExtT rfl (hv 2 (by omega) _ rfl _ rfl) rfl) ⟨s, ⟨_, rfl, rfl⟩, hS, fun _ _ => rfl⟩
    | 5, _ => exact stepV rfl rfl (execAsgB rfl (hv 3 (by omega) _ rfl _ rfl)) ⟨s, ⟨_, rfl, rfl⟩, hS, fun _ _ => rfl⟩
    | 6, _ => exact stepV rfl rfl (execAsgB rfl (hv 4 (by omega) _ rfl _ rfl)) ⟨s, ⟨_, rfl, rfl⟩, hS, fun _ _ => rfl⟩
    | k_ + 7, h_ => exact absurd h_ (by simp)
  rintro v29 a X4 h1 h2 h3 h4 hS
  replace hS : Below X3.heap.size X3 X4 ∧ (SliceI X4 v29 (zl (pE f n) (n - 1)) (fun j => (drD n (gN f) j : Int))) := hS
  obtain ⟨bX, Fv29⟩ := hS
  replace t0 := (h3 0 (by decide)).trans t0
  replace t3 := (h3 3 (by decide)).trans t3
  replace t4 := (h3 4 (by decide)).trans t4
  have t5 : a.eval (.tmp 5) = v29 := h4 5 _ rfl _ rfl
  have t6 : a.eval (.tmp 6) = .int .i64 ((pE f n : Nat) : Int) := h4 6 _ rfl _ rfl
  replace FI := (FI.on bX)
  replace Fg18 := (Fg18.on bX)
  replace Fv24 := (Fv24.on bX)
  have ZX4 := bX.size
  replace BW := BW.trans (bX.mono BW.size)
  clear bX
  replace A := (⟨h1, h2.trans A.2⟩ : a.tmps.size = 86 ∧ a.defers = [])
  clear h1 h2 h3 h4
  refine wp_seq ?_
  refine wp_region_sq (σ := Value) 86 [(0, 33), (1, 34), (2, 32), (3, 35), (4, 36), (5, 7), (6, 8)] (fun j_ s X => match j_ with | 0 => Below X4.heap.size X4 X | 1 => Below X4.heap.size X4 X | 2 => Below X4.heap.size X4 X ∧ (SliceI X s (zl (pE f n) n) (fun j => (rkD (gN f) n j : Int))) | 3 => Below X4.heap.size X4 X ∧ (SliceI X s (zl (pE f n) n) (fun j => (rkD (gN f) n j : Int))) | 4 => Below X4.heap.size X4 X ∧ (SliceI X s (zl (pE f n) n) (fun j => (rkD (gN f) n j : Int))) | 5 => Below X4.heap.size X4 X ∧ (SliceI X s (zl (pE f n) n) (fun j => (rkD (gN f) n j : Int))) | 6 => Below X4.heap.size X4 X ∧ (SliceI X s (zl (pE f n) n) (fun j => (rkD (gN f) n j : Int))) | _ => Below X4.heap.size X4 X ∧ (SliceI X s (zl (pE f n) n) (fun j => (rkD (gN f) n j : Int)))) (fun s => fun i_ => match i_ with | 0 => pv | 1 => .tuple #[s, .int .i64 ((pE f n : Nat) : Int)] | 2 => .tuple #[s, .int .i64 ((pE f n : Nat) : Int)] | 3 => s | 4 => .int .i64 ((pE f n : Nat) : Int) | 5 => s | 6 => .int .i64 ((pE f n : Nat) : Int) | _ => undef) undef A.1 (by kernel_rfl) (by decide) (by decide) (Below.refl _ _) ?_ ?_
  · intro i_ hi_ s a X hf hv hn hS
    match i_, hi_ with
    | 0, _ => exact stepV rfl rfl (execMvB rfl ((hf 0 (by decide)).trans t0)) ⟨s, ⟨_, rfl, rfl⟩, hS, fun _ _ => rfl⟩
    | 1, _ =>
      refine stepC rfl rfl (execCall1 Try.func13 (by kernel_rfl) (by kernel_rfl) rfl (hv 0 (by omega) _ rfl _ rfl)) (rrank f n _ X (FI.on hS) (by omega)) fun e w' hh => ?_
      obtain ⟨r_, he, hk, hb⟩ := hh
      refine ⟨_, he, r_, ⟨_, rfl, rfl⟩, ⟨(hS).trans ((hb).mono (hS).size), own_ints hk (rnk_fits (by omega))⟩, fun i hi => ?_⟩
      match i, hi with
      | 0, _ => rfl
      | n_ + 1, h_ => omega
    | 2, _ => exact stepV rfl rfl (execMvB rfl (hv 1 (by omega) _ rfl _ rfl)) ⟨s, ⟨_, rfl, rfl⟩, hS, fun _ _ => rfl⟩
    | 3, _ => exact stepV rfl rfl (execExtT rfl (hv 2 (by omega) _ rfl _ rfl) rfl) ⟨s, ⟨_, rfl, rfl⟩, hS, fun _ _ => rfl⟩
    | 4, _ => exact stepV rfl rfl (execExtT rfl (hv 2 (by omega) _ rfl _ rfl) rfl) ⟨s, ⟨_, rfl, rfl⟩, hS, fun _ _ => rfl⟩
    | 5, _ => exact stepV rfl rfl (execAsgB rfl (hv 3 (by omega) _ rfl _ rfl)) ⟨s, ⟨_, rfl, rfl⟩, hS, fun _ _ => rfl⟩
    | 6, _ => exact stepV rfl rfl (execAsgB rfl (hv 4 (by omega) _ rfl _ rfl)) ⟨s, ⟨_, rfl, rfl⟩, hS, fun _ _ => rfl⟩
    | k_ + 7, h_ => exact absurd h_ (by simp)
  rintro v34 a X5 h1 h2 h3 h4 hS
  replace hS : Below X4.heap.size X4 X5 ∧ (SliceI X5 v34 (zl (pE f n) n) (fun j => (rkD (gN f) n j : Int))) := hS
  obtain ⟨bX, Fv34⟩ := hS
  replace t0 := (h3 0 (by decide)).trans t0
  replace t3 := (h3 3 (by decide)).trans t3
  replace t4 := (h3 4 (by decide)).trans t4
  replace t5 := (h3 5 (by decide)).trans t5
  replace t6 := (h3 6 (by decide)).trans t6
  have t7 : a.eval (.tmp 7) = v34 := h4 5 _ rfl _ rfl
  have t8 : a.eval (.tmp 8) = .int .i64 ((pE f n : Nat) : Int) := h4 6 _ rfl _ rfl
  replace FI := (FI.on bX)
  replace Fg18 := (Fg18.on bX)
  replace Fv24 := (Fv24.on bX)
  replace Fv29 := (Fv29.on bX)
  have ZX5 := bX.size
  replace BW := BW.trans (bX.mono BW.size)
  clear bX
  replace A := (⟨h1, h2.trans A.2⟩ : a.tmps.size = 86 ∧ a.defers = [])
  clear h1 h2 h3 h4
  refine wp_seq ?_
  refine wp_region_sq (σ := Value) 86 [(0, 38), (1, 39), (2, 37), (3, 40), (4, 41), (5, 9), (6, 10)] (fun j_ s X => match j_ with | 0 => Below X5.heap.size X5 X | 1 => Below X5.heap.size X5 X | 2 => Below X5.heap.size X5 X ∧ (SliceI X s (zl (pE f n) n) (fun j => (posN (gN f) j n : Int))) | 3 => Below X5.heap.size X5 X ∧ (SliceI X s (zl (pE f n) n) (fun j => (posN (gN f) j n : Int))) | 4 => Below X5.heap.size X5 X ∧ (SliceI X s (zl (pE f n) n) (fun j => (posN (gN f) j n : Int))) | 5 => Below X5.heap.size X5 X ∧ (SliceI X s (zl (pE f n) n) (fun j => (posN (gN f) j n : Int))) | 6 => Below X5.heap.size X5 X ∧ (SliceI X s (zl (pE f n) n) (fun j => (posN (gN f) j n : Int))) | _ => Below X5.heap.size X5 X ∧ (SliceI X s (zl (pE f n) n) (fun j => (posN (gN f) j n : Int)))) (fun s => fun i_ => match i_ with | 0 => pv | 1 => .tuple #[s, .int .i64 ((pE f n : Nat) : Int)] | 2 => .tuple #[s, .int .i64 ((pE f n : Nat) : Int)] | 3 => s | 4 => .int .i64 ((pE f n : Nat) : Int) | 5 => s | 6 => .int .i64 ((pE f n : Nat) : Int) | _ => undef) undef A.1 (by kernel_rfl) (by decide) (by decide) (Below.refl _ _) ?_ ?_
  · intro i_ hi_ s a X hf hv hn hS
    match i_, hi_ with
    | 0, _ => exact stepV rfl rfl (execMvB rfl ((hf 0 (by decide)).trans t0)) ⟨s, ⟨_, rfl, rfl⟩, hS, fun _ _ => rfl⟩
    | 1, _ =>
      refine stepC rfl rfl (execCall1 Try.func14 (by kernel_rfl) (by kernel_rfl) rfl (hv 0 (by omega) _ rfl _ rfl)) (I.inverse f n _ X (FI.on hS) (by omega)) fun e w' hh => ?_
      obtain ⟨r_, he, hk, hb⟩ := hh
      refine ⟨_, he, r_, ⟨_, rfl, rfl⟩, ⟨(hS).trans ((hb).mono (hS).size), own_ints hk (pos_fits (by omega))⟩, fun i hi => ?_⟩
      match i, hi with
      | 0, _ => rfl
      | n_ + 1, h_ => omega
    | 2, _ => exact stepV rfl rfl (execMvB rfl (hv 1 (by omega) _ rfl _ rfl)) ⟨s, ⟨_, rfl, rfl⟩, hS, fun _ _ => rfl⟩
    | 3, _ => exact stepV rfl rfl (execExtT rfl (hv 2 (by omega) _ rfl _ rfl) rfl) ⟨s, ⟨_, rfl, rfl⟩, hS, fun _ _ => rfl⟩
    | 4, _ => exact stepV rfl rfl (execExtT rfl (hv 2 (by omega) _ rfl _ rfl) rfl) ⟨s, ⟨_, rfl, rfl⟩, hS, fun _ _ => rfl⟩
    | 5, _ => exact stepV rfl rfl (execAsgB rfl (hv 3 (by omega) _ rfl _ rfl)) ⟨s, ⟨_, rfl, rfl⟩, hS, fun _ _ => rfl⟩
    | 6, _ => exact stepV rfl rfl (execAsgB rfl (hv 4 (by omega) _ rfl _ rfl)) ⟨s, ⟨_, rfl, rfl⟩, hS, fun _ _ => rfl⟩
    | k_ + 7, h_ => exact absurd h_ (by simp)
  rintro v39 a X6 h1 h2 h3 h4 hS
  replace hS : Below X5.heap.size X5 X6 ∧ (SliceI X6 v39 (zl (pE f n) n) (fun j => (posN (gN f) j n : Int))) := hS
  obtain ⟨bX, Fv39⟩ := hS
  replace t0 := (h3 0 (by decide)).trans t0
  replace t3 := (h3 3 (by decide)).trans t3
  replace t4 := (h3 4 (by decide)).trans t4
  replace t5 := (h3 5 (by decide)).trans t5
  replace t6 := (h3 6 (by decide)).trans t6
  replace t7 := (h3 7 (by decide)).trans t7
  replace t8 := (h3 8 (by decide)).trans t8
  have t9 : a.eval (.tmp 9) = v39 := h4 5 _ rfl _ rfl
  have t10 : a.eval (.tmp 10) = .int .i64 ((pE f n : Nat) : Int) := h4 6 _ rfl _ rfl
  replace FI := (FI.on bX)
  replace Fg18 := (Fg18.on bX)
  replace Fv24 := (Fv24.on bX)
  replace Fv29 := (Fv29.on bX)
  replace Fv34 := (Fv34.on bX)
  have ZX6 := bX.size
  replace BW := BW.trans (bX.mono BW.size)
  clear bX
  replace A := (⟨h1, h2.trans A.2⟩ : a.tmps.size = 86 ∧ a.defers = [])
  clear h1 h2 h3 h4
  refine wp_seq ?_
  refine wp_region_sq (σ := Value) 86 [(0, 43), (1, 44), (2, 42), (3, 45), (4, 46), (5, 11), (6, 12)] (fun j_ s X => match j_ with | 0 => Below X6.heap.size X6 X | 1 => Below X6.heap.size X6 X | 2 => Below X6.heap.size X6 X ∧ (SliceI X s (zl (pE f n) (n - 1)) (fun j => (drD n (gN f) j : Int))) | 3 => Below X6.heap.size X6 X ∧ (SliceI X s (zl (pE f n) (n - 1)) (fun j => (drD n (gN f) j : Int))) | 4 => Below X6.heap.size X6 X ∧ (SliceI X s (zl (pE f n) (n - 1)) (fun j => (drD n (gN f) j : Int))) | 5 => Below X6.heap.size X6 X ∧ (SliceI X s (zl (pE f n) (n - 1)) (fun j => (drD n (gN f) j : Int))) | 6 => Below X6.heap.size X6 X ∧ (SliceI X s (zl (pE f n) (n - 1)) (fun j => (drD n (gN f) j : Int))) | _ => Below X6.heap.size X6 X ∧ (SliceI X s (zl (pE f n) (n - 1)) (fun j => (drD n (gN f) j : Int)))) (fun s => fun i_ => match i_ with | 0 => pv | 1 => .tuple #[s, .int .i64 ((pE f n : Nat) : Int)] | 2 => .tuple #[s, .int .i64 ((pE f n : Nat) : Int)] | 3 => s | 4 => .int .i64 ((pE f n : Nat) : Int) | 5 => s | 6 => .int .i64 ((pE f n : Nat) : Int) | _ => undef) undef A.1 (by kernel_rfl) (by decide) (by decide) (Below.refl _ _) ?_ ?_
  · intro i_ hi_ s a X hf hv hn hS
    match i_, hi_ with
    | 0, _ => exact stepV rfl rfl (execMvB rfl ((hf 0 (by decide)).trans t0)) ⟨s, ⟨_, rfl, rfl⟩, hS, fun _ _ => rfl⟩
    | 1, _ =>
      refine stepC rfl rfl (execCall1 Try.func15 (by kernel_rfl) (by kernel_rfl) rfl (hv 0 (by omega) _ rfl _ rfl)) (I.draws f n _ X (FI.on hS) (by omega)) fun e w' hh => ?_
      obtain ⟨r_, he, hk, hb⟩ := hh
      refine ⟨_, he, r_, ⟨_, rfl, rfl⟩, ⟨(hS).trans ((hb).mono (hS).size), own_ints hk (drw_fits (by omega))⟩, fun i hi => ?_⟩
      match i, hi with
      | 0, _ => rfl
      | n_ + 1, h_ => omega
    | 2, _ => exact stepV rfl rfl (execMvB rfl (hv 1 (by omega) _ rfl _ rfl)) ⟨s, ⟨_, rfl, rfl⟩, hS, fun _ _ => rfl⟩
    | 3, _ => exact stepV rfl rfl (execExtT rfl (hv 2 (by omega) _ rfl _ rfl) rfl) ⟨s, ⟨_, rfl, rfl⟩, hS, fun _ _ => rfl⟩
    | 4, _ => exact stepV rfl rfl (execExtT rfl (hv 2 (by omega) _ rfl _ rfl) rfl) ⟨s, ⟨_, rfl, rfl⟩, hS, fun _ _ => rfl⟩
    | 5, _ => exact stepV rfl rfl (execAsgB rfl (hv 3 (by omega) _ rfl _ rfl)) ⟨s, ⟨_, rfl, rfl⟩, hS, fun _ _ => rfl⟩
    | 6, _ => exact stepV rfl rfl (execAsgB rfl (hv 4 (by omega) _ rfl _ rfl)) ⟨s, ⟨_, rfl, rfl⟩, hS, fun _ _ => rfl⟩
    | k_ + 7, h_ => exact absurd h_ (by simp)
  rintro v44 a X7 h1 h2 h3 h4 hS
  replace hS : Below X6.heap.size X6 X7 ∧ (SliceI X7 v44 (zl (pE f n) (n - 1)) (fun j => (drD n (gN f) j : Int))) := hS
  obtain ⟨bX, Fv44⟩ := hS
  replace t0 := (h3 0 (by decide)).trans t0
  replace t3 := (h3 3 (by decide)).trans t3
  replace t4 := (h3 4 (by decide)).trans t4
  replace t5 := (h3 5 (by decide)).trans t5
  replace t6 := (h3 6 (by decide)).trans t6
  replace t7 := (h3 7 (by decide)).trans t7
  replace t8 := (h3 8 (by decide)).trans t8
  replace t9 := (h3 9 (by decide)).trans t9
  replace t10 := (h3 10 (by decide)).trans t10
  have t11 : a.eval (.tmp 11) = v44 := h4 5 _ rfl _ rfl
  have t12 : a.eval (.tmp 12) = .int .i64 ((pE f n : Nat) : Int) := h4 6 _ rfl _ rfl
  replace FI := (FI.on bX)
  replace Fg18 := (Fg18.on bX)
  replace Fv24 := (Fv24.on bX)
  replace Fv29 := (Fv29.on bX)
  replace Fv34 := (Fv34.on bX)
  replace Fv39 := (Fv39.on bX)
  have ZX7 := bX.size
  replace BW := BW.trans (bX.mono BW.size)
  clear bX
  replace A := (⟨h1, h2.trans A.2⟩ : a.tmps.size = 86 ∧ a.defers = [])
  clear h1 h2 h3 h4
  refine wp_seq ?_
  refine wp_region_sq (σ := Value) 86 [(0, 48), (1, 49), (2, 47), (3, 50), (4, 51), (5, 13), (6, 14)] (fun j_ s X => match j_ with | 0 => Below X7.heap.size X7 X | 1 => Below X7.heap.size X7 X | 2 => Below X7.heap.size X7 X ∧ (SliceI X s (zl (pE f n) n) (fun j => (rkD (gN f) n j : Int))) | 3 => Below X7.heap.size X7 X ∧ (SliceI X s (zl (pE f n) n) (fun j => (rkD (gN f) n j : Int))) | 4 => Below X7.heap.size X7 X ∧ (SliceI X s (zl (pE f n) n) (fun j => (rkD (gN f) n j : Int))) | 5 => Below X7.heap.size X7 X ∧ (SliceI X s (zl (pE f n) n) (fun j => (rkD (gN f) n j : Int))) | 6 => Below X7.heap.size X7 X ∧ (SliceI X s (zl (pE f n) n) (fun j => (rkD (gN f) n j : Int))) | _ => Below X7.heap.size X7 X ∧ (SliceI X s (zl (pE f n) n) (fun j => (rkD (gN f) n j : Int)))) (fun s => fun i_ => match i_ with | 0 => pv | 1 => .tuple #[s, .int .i64 ((pE f n : Nat) : Int)] | 2 => .tuple #[s, .int .i64 ((pE f n : Nat) : Int)] | 3 => s | 4 => .int .i64 ((pE f n : Nat) : Int) | 5 => s | 6 => .int .i64 ((pE f n : Nat) : Int) | _ => undef) undef A.1 (by kernel_rfl) (by decide) (by decide) (Below.refl _ _) ?_ ?_
  · intro i_ hi_ s a X hf hv hn hS
    match i_, hi_ with
    | 0, _ => exact stepV rfl rfl (execMvB rfl ((hf 0 (by decide)).trans t0)) ⟨s, ⟨_, rfl, rfl⟩, hS, fun _ _ => rfl⟩
    | 1, _ =>
      refine stepC rfl rfl (execCall1 Try.func16 (by kernel_rfl) (by kernel_rfl) rfl (hv 0 (by omega) _ rfl _ rfl)) (I.rank f n _ X (FI.on hS) (by omega)) fun e w' hh => ?_
      obtain ⟨r_, he, hk, hb⟩ := hh
      refine ⟨_, he, r_, ⟨_, rfl, rfl⟩, ⟨(hS).trans ((hb).mono (hS).size), own_ints hk (rnk_fits (by omega))⟩, fun i hi => ?_⟩
      match i, hi with
      | 0, _ => rfl
      | n_ + 1, h_ => omega
    | 2, _ => exact stepV rfl rfl (execMvB rfl (hv 1 (by omega) _ rfl _ rfl)) ⟨s, ⟨_, rfl, rfl⟩, hS, fun _ _ => rfl⟩
    | 3, _ => exact stepV rfl rfl (execExtT rfl (hv 2 (by omega) _ rfl _ rfl) rfl) ⟨s, ⟨_, rfl, rfl⟩, hS, fun _ _ => rfl⟩
    | 4, _ => exact stepV rfl rfl (execExtT rfl (hv 2 (by omega) _ rfl _ rfl) rfl) ⟨s, ⟨_, rfl, rfl⟩, hS, fun _ _ => rfl⟩
    | 5, _ => exact stepV rfl rfl (execAsgB rfl (hv 3 (by omega) _ rfl _ rfl)) ⟨s, ⟨_, rfl, rfl⟩, hS, fun _ _ => rfl⟩
    | 6, _ => exact stepV rfl rfl (execAsgB rfl (hv 4 (by omega) _ rfl _ rfl)) ⟨s, ⟨_, rfl, rfl⟩, hS, fun _ _ => rfl⟩
    | k_ + 7, h_ => exact absurd h_ (by simp)
  rintro v49 a X8 h1 h2 h3 h4 hS
  replace hS : Below X7.heap.size X7 X8 ∧ (SliceI X8 v49 (zl (pE f n) n) (fun j => (rkD (gN f) n j : Int))) := hS
  obtain ⟨bX, Fv49⟩ := hS
  replace t0 := (h3 0 (by decide)).trans t0
  replace t3 := (h3 3 (by decide)).trans t3
  replace t4 := (h3 4 (by decide)).trans t4
  replace t5 := (h3 5 (by decide)).trans t5
  replace t6 := (h3 6 (by decide)).trans t6
  replace t7 := (h3 7 (by decide)).trans t7
  replace t8 := (h3 8 (by decide)).trans t8
  replace t9 := (h3 9 (by decide)).trans t9
  replace t10 := (h3 10 (by decide)).trans t10
  replace t11 := (h3 11 (by decide)).trans t11
  replace t12 := (h3 12 (by decide)).trans t12
  have t13 : a.eval (.tmp 13) = v49 := h4 5 _ rfl _ rfl
  have t14 : a.eval (.tmp 14) = .int .i64 ((pE f n : Nat) : Int) := h4 6 _ rfl _ rfl
  replace FI := (FI.on bX)
  replace Fg18 := (Fg18.on bX)
  replace Fv24 := (Fv24.on bX)
  replace Fv29 := (Fv29.on bX)
  replace Fv34 := (Fv34.on bX)
  replace Fv39 := (Fv39.on bX)
  replace Fv44 := (Fv44.on bX)
  have ZX8 := bX.size
  replace BW := BW.trans (bX.mono BW.size)
  clear bX
  replace A := (⟨h1, h2.trans A.2⟩ : a.tmps.size = 86 ∧ a.defers = [])
  clear h1 h2 h3 h4
  refine wp_seq ?_
  refine wp_region_sq (σ := Unit) 86 [(0, 52), (1, 53), (2, 54), (3, 55), (4, 56), (5, 57), (6, 58), (7, 59), (8, 60), (9, 61), (10, 62), (11, 63), (12, 64), (13, 65), (14, 66), (15, 67), (16, 68), (17, 69), (18, 70), (19, 71), (20, 72), (21, 73), (22, 74), (23, 75), (24, 76), (25, 77), (26, 78), (27, 79), (28, 80), (29, 81), (30, 82), (31, 83), (32, 84), (33, 85), (34, 2)] (fun j_ s X => match j_ with | 0 => Below X8.heap.size X8 X | 1 => Below X8.heap.size X8 X | 2 => Below X8.heap.size X8 X | 3 => Below X8.heap.size X8 X | 4 => Below X8.heap.size X8 X | 5 => Below X8.heap.size X8 X | 6 => Below X8.heap.size X8 X | 7 => Below X8.heap.size X8 X | 8 => Below X8.heap.size X8 X | 9 => Below X8.heap.size X8 X | 10 => Below X8.heap.size X8 X | 11 => Below X8.heap.size X8 X | 12 => Below X8.heap.size X8 X | 13 => Below X8.heap.size X8 X | 14 => Below X8.heap.size X8 X | 15 => Below X8.heap.size X8 X | 16 => Below X8.heap.size X8 X | 17 => Below X8.heap.size X8 X | 18 => Below X8.heap.size X8 X | 19 => Below X8.heap.size X8 X | 20 => Below X8.heap.size X8 X | 21 => Below X8.heap.size X8 X | 22 => Below X8.heap.size X8 X | 23 => Below X8.heap.size X8 X | 24 => Below X8.heap.size X8 X | 25 => Below X8.heap.size X8 X | 26 => Below X8.heap.size X8 X | 27 => Below X8.heap.size X8 X | 28 => Below X8.heap.size X8 X | 29 => Below X8.heap.size X8 X | 30 => Below X8.heap.size X8 X | 31 => Below X8.heap.size X8 X | 32 => Below X8.heap.size X8 X | 33 => Below X8.heap.size X8 X | 34 => Below X8.heap.size X8 X | _ => Below X8.heap.size X8 X) (fun s => fun i_ => match i_ with | 0 => pv | 1 => .int .i64 ((pE f n : Nat) : Int) | 2 => .int .i64 ((pE f n : Nat) : Int) | 3 => .bool true | 4 => .bool true | 5 => .int .i64 ((pE f n : Nat) : Int) | 6 => .int .i64 ((pE f n : Nat) : Int) | 7 => .bool true | 8 => .bool true | 9 => .bool true | 10 => .int .i64 ((pE f n : Nat) : Int) | 11 => .int .i64 ((pE f n : Nat) : Int) | 12 => .bool true | 13 => .bool true | 14 => .bool true | 15 => .int .i64 ((pE f n : Nat) : Int) | 16 => .int .i64 ((pE f n : Nat) : Int) | 17 => .bool true | 18 => .bool true | 19 => .bool true | 20 => v39 | 21 => v24 | 22 => .bool true | 23 => .bool true | 24 => .bool true | 25 => v44 | 26 => v29 | 27 => .bool true | 28 => .bool true | 29 => .bool true | 30 => v49 | 31 => v34 | 32 => .bool true | 33 => .bool true | 34 => .bool true | _ => undef) () A.1 (by kernel_rfl) (by decide) (by decide) (Below.refl _ _) ?_ ?_
  · intro i_ hi_ s a X hf hv hn hS
    match i_, hi_ with
    | 0, _ => exact stepV rfl rfl (execMvB rfl ((hf 0 (by decide)).trans t0)) ⟨s, ⟨_, rfl, rfl⟩, hS, fun _ _ => rfl⟩
    | 1, _ => exact stepC rfl rfl (execCall1 Try.func10 (by kernel_rfl) (by kernel_rfl) rfl (hv 0 (by omega) _ rfl _ rfl)) (I.check f n _ X (FI.on hS) (by first | omega | (have := zl_le (pE f n) n; omega) | (have := zl_le (pE f n) (n - 1); omega))) fun e w' hh => ⟨_, hh.1, s, ⟨_, rfl, rfl⟩, (hS).trans ((hh.2).mono (hS).size), fun _ _ => rfl⟩
    | 2, _ => exact stepV rfl rfl (execMvB rfl ((hf 4 (by decide)).trans t4)) ⟨s, ⟨_, rfl, rfl⟩, hS, fun _ _ => rfl⟩
    | 3, _ => exact stepV rfl rfl (execDec (execEqN (p := pE f n) (q := pE f n) rfl (hv 1 (by omega) _ rfl _ rfl) (hv 2 (by omega) _ rfl _ rfl)) (decide_eq_true (by omega))) ⟨s, ⟨_, rfl, rfl⟩, hS, fun _ _ => rfl⟩
    | 4, _ => exact stepV rfl rfl (execMvB rfl (hv 3 (by omega) _ rfl _ rfl)) ⟨s, ⟨_, rfl, rfl⟩, hS, fun _ _ => rfl⟩
    | 5, _ => exact stepV rfl (wantedOf rfl (yieldedAt rfl rfl (show a.eval (.tmp 56) = .bool true from (hv 4 (by omega) _ rfl _ rfl)))) (execMvB rfl ((hf 10 (by decide)).trans t10)) ⟨s, ⟨_, rfl, rfl⟩, hS, fun _ _ => rfl⟩
    | 6, _ => exact stepV rfl (wantedOf rfl (yieldedAt rfl rfl (show a.eval (.tmp 56) = .bool true from (hv 4 (by omega) _ rfl _ rfl)))) (execMvB rfl ((hf 4 (by decide)).trans t4)) ⟨s, ⟨_, rfl, rfl⟩, hS, fun _ _ => rfl⟩
    | 7, _ => exact stepV rfl (wantedOf rfl (yieldedAt rfl rfl (show a.eval (.tmp 56) = .bool true from (hv 4 (by omega) _ rfl _ rfl)))) (execDec (execEqN (p := pE f n) (q := pE f n) rfl (hv 5 (by omega) _ rfl _ rfl) (hv 6 (by omega) _ rfl _ rfl)) (decide_eq_true (by omega))) ⟨s, ⟨_, rfl, rfl⟩, hS, fun _ _ => rfl⟩
    | 8, _ => exact stepV rfl rfl (execPickT rfl (hv 4 (by omega) _ rfl _ rfl) (hv 7 (by omega) _ rfl _ rfl)) ⟨s, ⟨_, rfl, rfl⟩, hS, fun _ _ => rfl⟩
    | 9, _ => exact stepV rfl rfl (execMvB rfl (hv 8 (by omega) _ rfl _ rfl)) ⟨s, ⟨_, rfl, rfl⟩, hS, fun _ _ => rfl⟩
    | 10, _ => exact stepV rfl (wantedOf rfl (yieldedAt rfl rfl (show a.eval (.tmp 61) = .bool true from (hv 9 (by omega) _ rfl _ rfl)))) (execMvB rfl ((hf 12 (by decide)).trans t12)) ⟨s, ⟨_, rfl, rfl⟩, hS, fun _ _ => rfl⟩
    | 11, _ => exact stepV rfl (wantedOf rfl (yieldedAt rfl rfl (show a.eval (.tmp 61) = .bool true from (hv 9 (by omega) _ rfl _ rfl)))) (execMvB rfl ((hf 4 (by decide)).trans t4)) ⟨s, ⟨_, rfl, rfl⟩, hS, fun _ _ => rfl⟩
    | 12, _ => exact stepV rfl (wantedOf rfl (yieldedAt rfl rfl (show a.eval (.tmp 61) = .bool true from (hv 9 (by omega) _ rfl _ rfl)))) (execDec (execEqN (p := pE f n) (q := pE f n) rfl (hv 10 (by omega) _ rfl _ rfl) (hv 11 (by omega) _ rfl _ rfl)) (decide_eq_true (by omega))) ⟨s, ⟨_, rfl, rfl⟩, hS, fun _ _ => rfl⟩
    | 13, _ => exact stepV rfl rfl (execPickT rfl (hv 9 (by omega) _ rfl _ rfl) (hv 12 (by omega) _ rfl _ rfl)) ⟨s, ⟨_, rfl, rfl⟩, hS, fun _ _ => rfl⟩
    | 14, _ => exact stepV rfl rfl (execMvB rfl (hv 13 (by omega) _ rfl _ rfl)) ⟨s, ⟨_, rfl, rfl⟩, hS, fun _ _ => rfl⟩
    | 15, _ => exact stepV rfl (wantedOf rfl (yieldedAt rfl rfl (show a.eval (.tmp 66) = .bool true from (hv 14 (by omega) _ rfl _ rfl)))) (execMvB rfl ((hf 14 (by decide)).trans t14)) ⟨s, ⟨_, rfl, rfl⟩, hS, fun _ _ => rfl⟩
    | 16, _ => exact stepV rfl (wantedOf rfl (yieldedAt rfl rfl (show a.eval (.tmp 66) = .bool true from (hv 14 (by omega) _ rfl _ rfl)))) (execMvB rfl ((hf 4 (by decide)).trans t4)) ⟨s, ⟨_, rfl, rfl⟩, hS, fun _ _ => rfl⟩
    | 17, _ => exact stepV rfl (wantedOf rfl (yieldedAt rfl rfl (show a.eval (.tmp 66) = .bool true from (hv 14 (by omega) _ rfl _ rfl)))) (execDec (execEqN (p := pE f n) (q := pE f n) rfl (hv 15 (by omega) _ rfl _ rfl) (hv 16 (by omega) _ rfl _ rfl)) (decide_eq_true (by omega))) ⟨s, ⟨_, rfl, rfl⟩, hS, fun _ _ => rfl⟩
    | 18, _ => exact stepV rfl rfl (execPickT rfl (hv 14 (by omega) _ rfl _ rfl) (hv 17 (by omega) _ rfl _ rfl)) ⟨s, ⟨_, rfl, rfl⟩, hS, fun _ _ => rfl⟩
    | 19, _ => exact stepV rfl rfl (execMvB rfl (hv 18 (by omega) _ rfl _ rfl)) ⟨s, ⟨_, rfl, rfl⟩, hS, fun _ _ => rfl⟩
    | 20, _ => exact stepV rfl (wantedOf rfl (yieldedAt rfl rfl (show a.eval (.tmp 71) = .bool true from (hv 19 (by omega) _ rfl _ rfl)))) (execMvB rfl ((hf 9 (by decide)).trans t9)) ⟨s, ⟨_, rfl, rfl⟩, hS, fun _ _ => rfl⟩
    | 21, _ => exact stepV rfl (wantedOf rfl (yieldedAt rfl rfl (show a.eval (.tmp 71) = .bool true from (hv 19 (by omega) _ rfl _ rfl)))) (execMvB rfl ((hf 3 (by decide)).trans t3)) ⟨s, ⟨_, rfl, rfl⟩, hS, fun _ _ => rfl⟩
    | 22, _ => exact stepC rfl (wantedOf rfl (yieldedAt rfl rfl (show a.eval (.tmp 71) = .bool true from (hv 19 (by omega) _ rfl _ rfl)))) (execCall2 Try.func17 (by kernel_rfl) (by kernel_rfl) rfl (hv 20 (by omega) _ rfl _ rfl) (hv 21 (by omega) _ rfl _ rfl)) (sameP _ _ (zl (pE f n) n) _ _ X (Fv39.on hS) (Fv24.on hS) (by intro i hi; rfl) (by first | omega | (have := zl_le (pE f n) n; omega) | (have := zl_le (pE f n) (n - 1); omega))) fun e w' hh => ⟨_, hh.1, s, ⟨_, rfl, rfl⟩, (hS).trans ((hh.2).mono (hS).size), fun _ _ => rfl⟩
    | 23, _ => exact stepV rfl rfl (execPickT rfl (hv 19 (by omega) _ rfl _ rfl) (hv 22 (by omega) _ rfl _ rfl)) ⟨s, ⟨_, rfl, rfl⟩, hS, fun _ _ => rfl⟩
    | 24, _ => exact stepV rfl rfl (execMvB rfl (hv 23 (by omega) _ rfl _ rfl)) ⟨s, ⟨_, rfl, rfl⟩, hS, fun _ _ => rfl⟩
    | 25, _ => exact stepV rfl (wantedOf rfl (yieldedAt rfl rfl (show a.eval (.tmp 76) = .bool true from (hv 24 (by omega) _ rfl _ rfl)))) (execMvB rfl ((hf 11 (by decide)).trans t11)) ⟨s, ⟨_, rfl, rfl⟩, hS, fun _ _ => rfl⟩
    | 26, _ => exact stepV rfl (wantedOf rfl (yieldedAt rfl rfl (show a.eval (.tmp 76) = .bool true from (hv 24 (by omega) _ rfl _ rfl)))) (execMvB rfl ((hf 5 (by decide)).trans t5)) ⟨s, ⟨_, rfl, rfl⟩, hS, fun _ _ => rfl⟩
    | 27, _ => exact stepC rfl (wantedOf rfl (yieldedAt rfl rfl (show a.eval (.tmp 76) = .bool true from (hv 24 (by omega) _ rfl _ rfl)))) (execCall2 Try.func17 (by kernel_rfl) (by kernel_rfl) rfl (hv 25 (by omega) _ rfl _ rfl) (hv 26 (by omega) _ rfl _ rfl)) (sameP _ _ (zl (pE f n) (n - 1)) _ _ X (Fv44.on hS) (Fv29.on hS) (by intro i hi; rfl) (by first | omega | (have := zl_le (pE f n) n; omega) | (have := zl_le (pE f n) (n - 1); omega))) fun e w' hh => ⟨_, hh.1, s, ⟨_, rfl, rfl⟩, (hS).trans ((hh.2).mono (hS).size), fun _ _ => rfl⟩
    | 28, _ => exact stepV rfl rfl (execPickT rfl (hv 24 (by omega) _ rfl _ rfl) (hv 27 (by omega) _ rfl _ rfl)) ⟨s, ⟨_, rfl, rfl⟩, hS, fun _ _ => rfl⟩
    | 29, _ => exact stepV rfl rfl (execMvB rfl (hv 28 (by omega) _ rfl _ rfl)) ⟨s, ⟨_, rfl, rfl⟩, hS, fun _ _ => rfl⟩
    | 30, _ => exact stepV rfl (wantedOf rfl (yieldedAt rfl rfl (show a.eval (.tmp 81) = .bool true from (hv 29 (by omega) _ rfl _ rfl)))) (execMvB rfl ((hf 13 (by decide)).trans t13)) ⟨s, ⟨_, rfl, rfl⟩, hS, fun _ _ => rfl⟩
    | 31, _ => exact stepV rfl (wantedOf rfl (yieldedAt rfl rfl (show a.eval (.tmp 81) = .bool true from (hv 29 (by omega) _ rfl _ rfl)))) (execMvB rfl ((hf 7 (by decide)).trans t7)) ⟨s, ⟨_, rfl, rfl⟩, hS, fun _ _ => rfl⟩
    | 32, _ => exact stepC rfl (wantedOf rfl (yieldedAt rfl rfl (show a.eval (.tmp 81) = .bool true from (hv 29 (by omega) _ rfl _ rfl)))) (execCall2 Try.func17 (by kernel_rfl) (by kernel_rfl) rfl (hv 30 (by omega) _ rfl _ rfl) (hv 31 (by omega) _ rfl _ rfl)) (sameP _ _ (zl (pE f n) n) _ _ X (Fv49.on hS) (Fv34.on hS) (by intro i hi; rfl) (by first | omega | (have := zl_le (pE f n) n; omega) | (have := zl_le (pE f n) (n - 1); omega))) fun e w' hh => ⟨_, hh.1, s, ⟨_, rfl, rfl⟩, (hS).trans ((hh.2).mono (hS).size), fun _ _ => rfl⟩
    | 33, _ => exact stepV rfl rfl (execPickT rfl (hv 29 (by omega) _ rfl _ rfl) (hv 32 (by omega) _ rfl _ rfl)) ⟨s, ⟨_, rfl, rfl⟩, hS, fun _ _ => rfl⟩
    | 34, _ => exact stepV rfl rfl (execAsgB rfl (hv 33 (by omega) _ rfl _ rfl)) ⟨s, ⟨_, rfl, rfl⟩, hS, fun _ _ => rfl⟩
    | k_ + 35, h_ => exact absurd h_ (by simp)
  rintro _ a X9 h1 h2 h3 h4 hS
  replace hS : Below X8.heap.size X8 X9 := hS
  have bX := hS
  clear hS
  have t2 : a.eval (.tmp 2) = .bool true := h4 34 _ rfl _ rfl
  replace FI := (FI.on bX)
  replace Fg18 := (Fg18.on bX)
  replace Fv24 := (Fv24.on bX)
  replace Fv29 := (Fv29.on bX)
  replace Fv34 := (Fv34.on bX)
  replace Fv39 := (Fv39.on bX)
  replace Fv44 := (Fv44.on bX)
  replace Fv49 := (Fv49.on bX)
  have ZX9 := bX.size
  replace BW := BW.trans (bX.mono BW.size)
  clear bX
  replace A := (⟨h1, h2.trans A.2⟩ : a.tmps.size = 86 ∧ a.defers = [])
  clear h1 h2 h3 h4
  clear t0 t3 t4 t5 t6 t7 t8 t9 t10 t11 t12 t13 t14
  refine wp_ret ?_
  refine bodyPost_ret (results_tmp rfl _ _ _) A.2 ⟨?_, BW⟩
  show Ending.returned (a.eval (.tmp 2)) = _
  rw [t2]
set_option maxRecDepth 100000 in
set_option maxHeartbeats 4000000 in
/-- PermMakes. -/
theorem makes_any (I : Impl) (k : Int) (d : Nat → Int) (m : Nat) (lv : Value) (V : World) (hv0 : SliceI V lv m d) (hm : m ≤ 17592186043904) (hk63 : k < 9223372036854775808) :
    Calls Try.prog 4 #[.int .i64 k, lv] V fun e w' => e = .returned (.bool true) ∧ Below V.heap.size V w' := by
  have FI := hv0
  go_enter Try.func4, Try.ntmps4
  refine wp_seq ?_
  refine wp_region_sqK 73 [(0, 4)] (fun i_ => match i_ with | 0 => .bool false | _ => undef) rfl (by kernel_rfl) (by decide) (by decide) ?_ ?_
  · intro i_ hi_ a hf hv hn
    match i_, hi_ with
    | 0, _ => exact stepV rfl rfl (execAsgB rfl rfl) ⟨⟨_, rfl, rfl⟩, rfl⟩
    | k_ + 1, h_ => exact absurd h_ (by simp)
  intro a h1 h2 h3 h4
  have t0 : a.eval (.tmp 0) = .int .i64 k := (h3 0 (by decide)).trans rfl
  have t1 : a.eval (.tmp 1) = lv := (h3 1 (by decide)).trans rfl
  have A : a.tmps.size = 73 ∧ a.defers = [] := ⟨h1, h2⟩
  have BW : Below V.heap.size V V := Below.refl _ _
  clear h1 h2 h3 h4
  refine wp_seq ?_
  refine wp_seq ?_
  refine wp_region_sq (σ := Unit) 73 [(0, 13), (1, 14)] (fun j_ s X => match j_ with | 0 => Below V.heap.size V X | 1 => Below V.heap.size V X | _ => Below V.heap.size V X) (fun s => fun i_ => match i_ with | 0 => .bool true | 1 => .bool false | _ => undef) () A.1 (by kernel_rfl) (by decide) (by decide) (Below.refl _ _) ?_ ?_
  · intro i_ hi_ s a X hf hv hn hS
    match i_, hi_ with
    | 0, _ => exact stepC rfl rfl (execCall0 Try.func9 (by kernel_rfl) (by kernel_rfl) rfl ) (awake11 I X) fun e w' hh => ⟨_, hh.1, s, ⟨_, rfl, rfl⟩, (hS).trans ((hh.2).mono (hS).size), fun _ _ => rfl⟩
    | 1, _ => exact stepV rfl rfl (execNot8 rfl (hv 0 (by omega) _ rfl _ rfl)) ⟨s, ⟨_, rfl, rfl⟩, hS, fun _ _ => rfl⟩
    | k_ + 2, h_ => exact absurd h_ (by simp)
  rintro _ a X1 h1 h2 h3 h4 hS
  replace hS : Below V.heap.size V X1 := hS
  have bX := hS
  clear hS
  replace t0 := (h3 0 (by decide)).trans t0
  replace t1 := (h3 1 (by decide)).trans t1
  have t14 : a.eval (.tmp 14) = .bool false := h4 1 _ rfl _ rfl
  replace FI := (FI.on bX)
  have ZX1 := bX.size
  replace BW := BW.trans (bX.mono BW.size)
  clear bX
  replace A := (⟨h1, h2.trans A.2⟩ : a.tmps.size = 73 ∧ a.defers = [])
  clear h1 h2 h3 h4
  refine wp_cond_false t14 ?_
  refine wp_skip ?_
  clear t14
  refine wp_seq ?_
  refine wp_region_sq (σ := Value) 73 [(0, 16), (1, 17), (2, 18), (3, 15), (4, 19), (5, 20), (6, 5), (7, 6)] (fun j_ s X => match j_ with | 0 => Below X1.heap.size X1 X | 1 => Below X1.heap.size X1 X | 2 => Below X1.heap.size X1 X | 3 => Below X1.heap.size X1 X ∧ (SliceI X s (zl (frE (k) d m) ((k).toNat)) (fun j => (frA (k).toNat (gN d) m j : Int))) | 4 => Below X1.heap.size X1 X ∧ (SliceI X s (zl (frE (k) d m) ((k).toNat)) (fun j => (frA (k).toNat (gN d) m j : Int))) | 5 => Below X1.heap.size X1 X ∧ (SliceI X s (zl (frE (k) d m) ((k).toNat)) (fun j => (frA (k).toNat (gN d) m j : Int))) | 6 => Below X1.heap.size X1 X ∧ (SliceI X s (zl (frE (k) d m) ((k).toNat)) (fun j => (frA (k).toNat (gN d) m j : Int))) | 7 => Below X1.heap.size X1 X ∧ (SliceI X s (zl (frE (k) d m) ((k).toNat)) (fun j => (frA (k).toNat (gN d) m j : Int))) | _ => Below X1.heap.size X1 X ∧ (SliceI X s (zl (frE (k) d m) ((k).toNat)) (fun j => (frA (k).toNat (gN d) m j : Int)))) (fun s => fun i_ => match i_ with | 0 => .int .i64 k | 1 => lv | 2 => .tuple #[s, .int .i64 ((frE (k) d m : Nat) : Int)] | 3 => .tuple #[s, .int .i64 ((frE (k) d m : Nat) : Int)] | 4 => s | 5 => .int .i64 ((frE (k) d m : Nat) : Int) | 6 => s | 7 => .int .i64 ((frE (k) d m : Nat) : Int) | _ => undef) undef A.1 (by kernel_rfl) (by decide) (by decide) (Below.refl _ _) ?_ ?_
  · intro i_ hi_ s a X hf hv hn hS
    match i_, hi_ with
    | 0, _ => exact stepV rfl rfl (execMvB rfl ((hf 0 (by decide)).trans t0)) ⟨s, ⟨_, rfl, rfl⟩, hS, fun _ _ => rfl⟩
    | 1, _ => exact stepV rfl rfl (execMvB rfl ((hf 1 (by decide)).trans t1)) ⟨s, ⟨_, rfl, rfl⟩, hS, fun _ _ => rfl⟩
    | 2, _ =>
      refine stepC rfl rfl (execCall2 Try.func18 (by kernel_rfl) (by kernel_rfl) rfl (hv 0 (by omega) _ rfl _ rfl) (hv 1 (by omega) _ rfl _ rfl)) (rfrom (k) d m _ X (FI.on hS) (by omega)) fun e w' hh => ?_
      obtain ⟨r_, he, hk, hb⟩ := hh
      refine ⟨_, he, r_, ⟨_, rfl, rfl⟩, ⟨(hS).trans ((hb).mono (hS).size), own_ints hk (from_fits (by have := hm; omega))⟩, fun i hi => ?_⟩
      match i, hi with
      | 0, _ => rfl
      | 1, _ => rfl
      | n_ + 2, h_ => omega
    | 3, _ => exact stepV rfl rfl (execMvB rfl (hv 2 (by omega) _ rfl _ rfl)) ⟨s, ⟨_, rfl, rfl⟩, hS, fun _ _ => rfl⟩
    | 4, _ => exact stepV rfl rfl (execExtT rfl (hv 3 (by omega) _ rfl _ rfl) rfl) ⟨s, ⟨_, rfl, rfl⟩, hS, fun _ _ => rfl⟩
    | 5, _ => exact stepV rfl rfl (execExtT rfl (hv 3 (by omega) _ rfl _ rfl) rfl) ⟨s, ⟨_, rfl, rfl⟩, hS, fun _ _ => rfl⟩
    | 6, _ => exact stepV rfl rfl (execAsgB rfl (hv 4 (by omega) _ rfl _ rfl)) ⟨s, ⟨_, rfl, rfl⟩, hS, fun _ _ => rfl⟩
    | 7, _ => exact stepV rfl rfl (execAsgB rfl (hv 5 (by omega) _ rfl _ rfl)) ⟨s, ⟨_, rfl, rfl⟩, hS, fun _ _ => rfl⟩
    | k_ + 8, h_ => exact absurd h_ (by simp)
  rintro v18 a X3 h1 h2 h3 h4 hS
  replace hS : Below X1.heap.size X1 X3 ∧ (SliceI X3 v18 (zl (frE (k) d m) ((k).toNat)) (fun j => (frA (k).toNat (gN d) m j : Int))) := hS
  obtain ⟨bX, Fv18⟩ := hS
  replace t0 := (h3 0 (by decide)).trans t0
  replace t1 := (h3 1 (by decide)).trans t1
  have t5 : a.eval (.tmp 5) = v18 := h4 6 _ rfl _ rfl
  have t6 : a.eval (.tmp 6) = .int .i64 ((frE (k) d m : Nat) : Int) := h4 7 _ rfl _ rfl
  replace FI := (FI.on bX)
  have ZX3 := bX.size
  replace BW := BW.trans (bX.mono BW.size)
  clear bX
  replace A := (⟨h1, h2.trans A.2⟩ : a.tmps.size = 73 ∧ a.defers = [])
  clear h1 h2 h3 h4
  refine wp_seq ?_
  refine wp_region_sq (σ := Value) 73 [(0, 22), (1, 23), (2, 21), (3, 24), (4, 25), (5, 7), (6, 8)] (fun j_ s X => match j_ with | 0 => Below X3.heap.size X3 X | 1 => Below X3.heap.size X3 X | 2 => Below X3.heap.size X3 X ∧ (SliceI X s (zl (unE d m) m) (fun j => (unr (gN d) j : Int))) | 3 => Below X3.heap.size X3 X ∧ (SliceI X s (zl (unE d m) m) (fun j => (unr (gN d) j : Int))) | 4 => Below X3.heap.size X3 X ∧ (SliceI X s (zl (unE d m) m) (fun j => (unr (gN d) j : Int))) | 5 => Below X3.heap.size X3 X ∧ (SliceI X s (zl (unE d m) m) (fun j => (unr (gN d) j : Int))) | 6 => Below X3.heap.size X3 X ∧ (SliceI X s (zl (unE d m) m) (fun j => (unr (gN d) j : Int))) | _ => Below X3.heap.size X3 X ∧ (SliceI X s (zl (unE d m) m) (fun j => (unr (gN d) j : Int)))) (fun s => fun i_ => match i_ with | 0 => lv | 1 => .tuple #[s, .int .i64 ((unE d m : Nat) : Int)] | 2 => .tuple #[s, .int .i64 ((unE d m : Nat) : Int)] | 3 => s | 4 => .int .i64 ((unE d m : Nat) : Int) | 5 => s | 6 => .int .i64 ((unE d m : Nat) : Int) | _ => undef) undef A.1 (by kernel_rfl) (by decide) (by decide) (Below.refl _ _) ?_ ?_
  · intro i_ hi_ s a X hf hv hn hS
    match i_, hi_ with
    | 0, _ => exact stepV rfl rfl (execMvB rfl ((hf 1 (by decide)).trans t1)) ⟨s, ⟨_, rfl, rfl⟩, hS, fun _ _ => rfl⟩
    | 1, _ =>
      refine stepC rfl rfl (execCall1 Try.func19 (by kernel_rfl) (by kernel_rfl) rfl (hv 0 (by omega) _ rfl _ rfl)) (runrank d m _ X (FI.on hS) (by omega)) fun e w' hh => ?_
      obtain ⟨r_, he, hk, hb⟩ := hh
      refine ⟨_, he, r_, ⟨_, rfl, rfl⟩, ⟨(hS).trans ((hb).mono (hS).size), own_ints hk (unr_fits (by omega))⟩, fun i hi => ?_⟩
      match i, hi with
      | 0, _ => rfl
      | n_ + 1, h_ => omega
    | 2, _ => exact stepV rfl rfl (execMvB rfl (hv 1 (by omega) _ rfl _ rfl)) ⟨s, ⟨_, rfl, rfl⟩, hS, fun _ _ => rfl⟩
    | 3, _ => exact stepV rfl rfl (execExtT rfl (hv 2 (by omega) _ rfl _ rfl) rfl) ⟨s, ⟨_, rfl, rfl⟩, hS, fun _ _ => rfl⟩
    | 4, _ => exact stepV rfl rfl (execExtT rfl (hv 2 (by omega) _ rfl _ rfl) rfl) ⟨s, ⟨_, rfl, rfl⟩, hS, fun _ _ => rfl⟩
    | 5, _ => exact stepV rfl rfl (execAsgB rfl (hv 3 (by omega) _ rfl _ rfl)) ⟨s, ⟨_, rfl, rfl⟩, hS, fun _ _ => rfl⟩
    | 6, _ => exact stepV rfl rfl (execAsgB rfl (hv 4 (by omega) _ rfl _ rfl)) ⟨s, ⟨_, rfl, rfl⟩, hS, fun _ _ => rfl⟩
    | k_ + 7, h_ => exact absurd h_ (by simp)
  rintro v23 a X4 h1 h2 h3 h4 hS
  replace hS : Below X3.heap.size X3 X4 ∧ (SliceI X4 v23 (zl (unE d m) m) (fun j => (unr (gN d) j : Int))) := hS
  obtain ⟨bX, Fv23⟩ := hS
  replace t0 := (h3 0 (by decide)).trans t0
  replace t1 := (h3 1 (by decide)).trans t1
  replace t5 := (h3 5 (by decide)).trans t5
  replace t6 := (h3 6 (by decide)).trans t6
  have t7 : a.eval (.tmp 7) = v23 := h4 5 _ rfl _ rfl
  have t8 : a.eval (.tmp 8) = .int .i64 ((unE d m : Nat) : Int) := h4 6 _ rfl _ rfl
  replace FI := (FI.on bX)
  replace Fv18 := (Fv18.on bX)
  have ZX4 := bX.size
  replace BW := BW.trans (bX.mono BW.size)
  clear bX
  replace A := (⟨h1, h2.trans A.2⟩ : a.tmps.size = 73 ∧ a.defers = [])
  clear h1 h2 h3 h4
  refine wp_seq ?_
  refine wp_region_sq (σ := Value) 73 [(0, 27), (1, 28), (2, 29), (3, 26), (4, 30), (5, 31), (6, 9), (7, 10)] (fun j_ s X => match j_ with | 0 => Below X4.heap.size X4 X | 1 => Below X4.heap.size X4 X | 2 => Below X4.heap.size X4 X | 3 => Below X4.heap.size X4 X ∧ (SliceI X s (zl (frE (k) d m) ((k).toNat)) (fun j => (frA (k).toNat (gN d) m j : Int))) | 4 => Below X4.heap.size X4 X ∧ (SliceI X s (zl (frE (k) d m) ((k).toNat)) (fun j => (frA (k).toNat (gN d) m j : Int))) | 5 => Below X4.heap.size X4 X ∧ (SliceI X s (zl (frE (k) d m) ((k).toNat)) (fun j => (frA (k).toNat (gN d) m j : Int))) | 6 => Below X4.heap.size X4 X ∧ (SliceI X s (zl (frE (k) d m) ((k).toNat)) (fun j => (frA (k).toNat (gN d) m j : Int))) | 7 => Below X4.heap.size X4 X ∧ (SliceI X s (zl (frE (k) d m) ((k).toNat)) (fun j => (frA (k).toNat (gN d) m j : Int))) | _ => Below X4.heap.size X4 X ∧ (SliceI X s (zl (frE (k) d m) ((k).toNat)) (fun j => (frA (k).toNat (gN d) m j : Int)))) (fun s => fun i_ => match i_ with | 0 => .int .i64 k | 1 => lv | 2 => .tuple #[s, .int .i64 ((frE (k) d m : Nat) : Int)] | 3 => .tuple #[s, .int .i64 ((frE (k) d m : Nat) : Int)] | 4 => s | 5 => .int .i64 ((frE (k) d m : Nat) : Int) | 6 => s | 7 => .int .i64 ((frE (k) d m : Nat) : Int) | _ => undef) undef A.1 (by kernel_rfl) (by decide) (by decide) (Below.refl _ _) ?_ ?_
  · intro i_ hi_ s a X hf hv hn hS
    match i_, hi_ with
    | 0, _ => exact stepV rfl rfl (execMvB rfl ((hf 0 (by decide)).trans t0)) ⟨s, ⟨_, rfl, rfl⟩, hS, fun _ _ => rfl⟩
    | 1, _ => exact stepV rfl rfl (execMvB rfl ((hf 1 (by decide)).trans t1)) ⟨s, ⟨_, rfl, rfl⟩, hS, fun _ _ => rfl⟩
    | 2, _ =>
      refine stepC rfl rfl (execCall2 Try.func20 (by kernel_rfl) (by kernel_rfl) rfl (hv 0 (by omega) _ rfl _ rfl) (hv 1 (by omega) _ rfl _ rfl)) (I.from_ (k) d m _ X (FI.on hS) (by omega) hk63) fun e w' hh => ?_
      obtain ⟨r_, he, hk, hb⟩ := hh
      refine ⟨_, he, r_, ⟨_, rfl, rfl⟩, ⟨(hS).trans ((hb).mono (hS).size), own_ints hk (from_fits (by have := hm; omega))⟩, fun i hi => ?_⟩
      match i, hi with
      | 0, _ => rfl
      | 1, _ => rfl
      | n_ + 2, h_ => omega
    | 3, _ => exact stepV rfl rfl (execMvB rfl (hv 2 (by omega) _ rfl _ rfl)) ⟨s, ⟨_, rfl, rfl⟩, hS, fun _ _ => rfl⟩
    | 4, _ => exact stepV rfl rfl (execExtT rfl (hv 3 (by omega) _ rfl _ rfl) rfl) ⟨s, ⟨_, rfl, rfl⟩, hS, fun _ _ => rfl⟩
    | 5, _ => exact stepV rfl rfl (execExtT rfl (hv 3 (by omega) _ rfl _ rfl) rfl) ⟨s, ⟨_, rfl, rfl⟩, hS, fun _ _ => rfl⟩
    | 6, _ => exact stepV rfl rfl (execAsgB rfl (hv 4 (by omega) _ rfl _ rfl)) ⟨s, ⟨_, rfl, rfl⟩, hS, fun _ _ => rfl⟩
    | 7, _ => exact stepV rfl rfl (execAsgB rfl (hv 5 (by omega) _ rfl _ rfl)) ⟨s, ⟨_, rfl, rfl⟩, hS, fun _ _ => rfl⟩
    | k_ + 8, h_ => exact absurd h_ (by simp)
  rintro v29 a X5 h1 h2 h3 h4 hS
  replace hS : Below X4.heap.size X4 X5 ∧ (SliceI X5 v29 (zl (frE (k) d m) ((k).toNat)) (fun j => (frA (k).toNat (gN d) m j : Int))) := hS
  obtain ⟨bX, Fv29⟩ := hS
  replace t0 := (h3 0 (by decide)).trans t0
  replace t1 := (h3 1 (by decide)).trans t1
  replace t5 := (h3 5 (by decide)).trans t5
  replace t6 := (h3 6 (by decide)).trans t6
  replace t7 := (h3 7 (by decide)).trans t7
  replace t8 := (h3 8 (by decide)).trans t8
  have t9 : a.eval (.tmp 9) = v29 := h4 6 _ rfl _ rfl
  have t10 : a.eval (.tmp 10) = .int .i64 ((frE (k) d m : Nat) : Int) := h4 7 _ rfl _ rfl
  replace FI := (FI.on bX)
  replace Fv18 := (Fv18.on bX)
  replace Fv23 := (Fv23.on bX)
  have ZX5 := bX.size
  replace BW := BW.trans (bX.mono BW.size)
  clear bX
  replace A := (⟨h1, h2.trans A.2⟩ : a.tmps.size = 73 ∧ a.defers = [])
  clear h1 h2 h3 h4
  refine wp_seq ?_
  refine wp_region_sq (σ := Value) 73 [(0, 33), (1, 34), (2, 32), (3, 35), (4, 36), (5, 11), (6, 12)] (fun j_ s X => match j_ with | 0 => Below X5.heap.size X5 X | 1 => Below X5.heap.size X5 X | 2 => Below X5.heap.size X5 X ∧ (SliceI X s (zl (unE d m) m) (fun j => (unr (gN d) j : Int))) | 3 => Below X5.heap.size X5 X ∧ (SliceI X s (zl (unE d m) m) (fun j => (unr (gN d) j : Int))) | 4 => Below X5.heap.size X5 X ∧ (SliceI X s (zl (unE d m) m) (fun j => (unr (gN d) j : Int))) | 5 => Below X5.heap.size X5 X ∧ (SliceI X s (zl (unE d m) m) (fun j => (unr (gN d) j : Int))) | 6 => Below X5.heap.size X5 X ∧ (SliceI X s (zl (unE d m) m) (fun j => (unr (gN d) j : Int))) | _ => Below X5.heap.size X5 X ∧ (SliceI X s (zl (unE d m) m) (fun j => (unr (gN d) j : Int)))) (fun s => fun i_ => match i_ with | 0 => lv | 1 => .tuple #[s, .int .i64 ((unE d m : Nat) : Int)] | 2 => .tuple #[s, .int .i64 ((unE d m : Nat) : Int)] | 3 => s | 4 => .int .i64 ((unE d m : Nat) : Int) | 5 => s | 6 => .int .i64 ((unE d m : Nat) : Int) | _ => undef) undef A.1 (by kernel_rfl) (by decide) (by decide) (Below.refl _ _) ?_ ?_
  · intro i_ hi_ s a X hf hv hn hS
    match i_, hi_ with
    | 0, _ => exact stepV rfl rfl (execMvB rfl ((hf 1 (by decide)).trans t1)) ⟨s, ⟨_, rfl, rfl⟩, hS, fun _ _ => rfl⟩
    | 1, _ =>
      refine stepC rfl rfl (execCall1 Try.func21 (by kernel_rfl) (by kernel_rfl) rfl (hv 0 (by omega) _ rfl _ rfl)) (I.unrank d m _ X (FI.on hS) (by omega)) fun e w' hh => ?_
      obtain ⟨r_, he, hk, hb⟩ := hh
      refine ⟨_, he, r_, ⟨_, rfl, rfl⟩, ⟨(hS).trans ((hb).mono (hS).size), own_ints hk (unr_fits (by omega))⟩, fun i hi => ?_⟩
      match i, hi with
      | 0, _ => rfl
      | n_ + 1, h_ => omega
    | 2, _ => exact stepV rfl rfl (execMvB rfl (hv 1 (by omega) _ rfl _ rfl)) ⟨s, ⟨_, rfl, rfl⟩, hS, fun _ _ => rfl⟩
    | 3, _ => exact stepV rfl rfl (execExtT rfl (hv 2 (by omega) _ rfl _ rfl) rfl) ⟨s, ⟨_, rfl, rfl⟩, hS, fun _ _ => rfl⟩
    | 4, _ => exact stepV rfl rfl (execExtT rfl (hv 2 (by omega) _ rfl _ rfl) rfl) ⟨s, ⟨_, rfl, rfl⟩, hS, fun _ _ => rfl⟩
    | 5, _ => exact stepV rfl rfl (execAsgB rfl (hv 3 (by omega) _ rfl _ rfl)) ⟨s, ⟨_, rfl, rfl⟩, hS, fun _ _ => rfl⟩
    | 6, _ => exact stepV rfl rfl (execAsgB rfl (hv 4 (by omega) _ rfl _ rfl)) ⟨s, ⟨_, rfl, rfl⟩, hS, fun _ _ => rfl⟩
    | k_ + 7, h_ => exact absurd h_ (by simp)
  rintro v34 a X6 h1 h2 h3 h4 hS
  replace hS : Below X5.heap.size X5 X6 ∧ (SliceI X6 v34 (zl (unE d m) m) (fun j => (unr (gN d) j : Int))) := hS
  obtain ⟨bX, Fv34⟩ := hS
  replace t0 := (h3 0 (by decide)).trans t0
  replace t1 := (h3 1 (by decide)).trans t1
  replace t5 := (h3 5 (by decide)).trans t5
  replace t6 := (h3 6 (by decide)).trans t6
  replace t7 := (h3 7 (by decide)).trans t7
  replace t8 := (h3 8 (by decide)).trans t8
  replace t9 := (h3 9 (by decide)).trans t9
  replace t10 := (h3 10 (by decide)).trans t10
  have t11 : a.eval (.tmp 11) = v34 := h4 5 _ rfl _ rfl
  have t12 : a.eval (.tmp 12) = .int .i64 ((unE d m : Nat) : Int) := h4 6 _ rfl _ rfl
  replace FI := (FI.on bX)
  replace Fv18 := (Fv18.on bX)
  replace Fv23 := (Fv23.on bX)
  replace Fv29 := (Fv29.on bX)
  have ZX6 := bX.size
  replace BW := BW.trans (bX.mono BW.size)
  clear bX
  replace A := (⟨h1, h2.trans A.2⟩ : a.tmps.size = 73 ∧ a.defers = [])
  clear h1 h2 h3 h4
  refine wp_seq ?_
  refine wp_seq ?_
  refine wp_region_sq (σ := Unit) 73 [(0, 37), (1, 38), (2, 39), (3, 40), (4, 41), (5, 42), (6, 43), (7, 44), (8, 45), (9, 46), (10, 47), (11, 48), (12, 49), (13, 50), (14, 51), (15, 52), (16, 53), (17, 54), (18, 55), (19, 56)] (fun j_ s X => match j_ with | 0 => Below X6.heap.size X6 X | 1 => Below X6.heap.size X6 X | 2 => Below X6.heap.size X6 X | 3 => Below X6.heap.size X6 X | 4 => Below X6.heap.size X6 X | 5 => Below X6.heap.size X6 X | 6 => Below X6.heap.size X6 X | 7 => Below X6.heap.size X6 X | 8 => Below X6.heap.size X6 X | 9 => Below X6.heap.size X6 X | 10 => Below X6.heap.size X6 X | 11 => Below X6.heap.size X6 X | 12 => Below X6.heap.size X6 X | 13 => Below X6.heap.size X6 X | 14 => Below X6.heap.size X6 X | 15 => Below X6.heap.size X6 X | 16 => Below X6.heap.size X6 X | 17 => Below X6.heap.size X6 X | 18 => Below X6.heap.size X6 X | 19 => Below X6.heap.size X6 X | _ => Below X6.heap.size X6 X) (fun s => fun i_ => match i_ with | 0 => .int .i64 ((frE (k) d m : Nat) : Int) | 1 => .int .i64 ((frE (k) d m : Nat) : Int) | 2 => .bool false | 3 => .bool false | 4 => .int .i64 ((unE d m : Nat) : Int) | 5 => .int .i64 ((unE d m : Nat) : Int) | 6 => .bool false | 7 => .bool false | 8 => .bool false | 9 => v29 | 10 => v18 | 11 => .bool true | 12 => .bool false | 13 => .bool false | 14 => .bool false | 15 => v34 | 16 => v23 | 17 => .bool true | 18 => .bool false | 19 => .bool false | _ => undef) () A.1 (by kernel_rfl) (by decide) (by decide) (Below.refl _ _) ?_ ?_
  · intro i_ hi_ s a X hf hv hn hS
    match i_, hi_ with
    | 0, _ => exact stepV rfl rfl (execMvB rfl ((hf 10 (by decide)).trans t10)) ⟨s, ⟨_, rfl, rfl⟩, hS, fun _ _ => rfl⟩
    | 1, _ => exact stepV rfl rfl (execMvB rfl ((hf 6 (by decide)).trans t6)) ⟨s, ⟨_, rfl, rfl⟩, hS, fun _ _ => rfl⟩
    | 2, _ => exact stepV rfl rfl (execDec (execNeN (p := frE (k) d m) (q := frE (k) d m) rfl (hv 0 (by omega) _ rfl _ rfl) (hv 1 (by omega) _ rfl _ rfl)) (decide_eq_false (by omega))) ⟨s, ⟨_, rfl, rfl⟩, hS, fun _ _ => rfl⟩
    | 3, _ => exact stepV rfl rfl (execMvB rfl (hv 2 (by omega) _ rfl _ rfl)) ⟨s, ⟨_, rfl, rfl⟩, hS, fun _ _ => rfl⟩
    | 4, _ => exact stepV rfl (wantedOf rfl (yieldedAt rfl rfl (show a.eval (.tmp 40) = .bool false from (hv 3 (by omega) _ rfl _ rfl)))) (execMvB rfl ((hf 12 (by decide)).trans t12)) ⟨s, ⟨_, rfl, rfl⟩, hS, fun _ _ => rfl⟩
    | 5, _ => exact stepV rfl (wantedOf rfl (yieldedAt rfl rfl (show a.eval (.tmp 40) = .bool false from (hv 3 (by omega) _ rfl _ rfl)))) (execMvB rfl ((hf 8 (by decide)).trans t8)) ⟨s, ⟨_, rfl, rfl⟩, hS, fun _ _ => rfl⟩
    | 6, _ => exact stepV rfl (wantedOf rfl (yieldedAt rfl rfl (show a.eval (.tmp 40) = .bool false from (hv 3 (by omega) _ rfl _ rfl)))) (execDec (execNeN (p := unE d m) (q := unE d m) rfl (hv 4 (by omega) _ rfl _ rfl) (hv 5 (by omega) _ rfl _ rfl)) (decide_eq_false (by omega))) ⟨s, ⟨_, rfl, rfl⟩, hS, fun _ _ => rfl⟩
    | 7, _ => exact stepV rfl rfl (execPickF rfl (hv 3 (by omega) _ rfl _ rfl) (hv 6 (by omega) _ rfl _ rfl)) ⟨s, ⟨_, rfl, rfl⟩, hS, fun _ _ => rfl⟩
    | 8, _ => exact stepV rfl rfl (execMvB rfl (hv 7 (by omega) _ rfl _ rfl)) ⟨s, ⟨_, rfl, rfl⟩, hS, fun _ _ => rfl⟩
    | 9, _ => exact stepV rfl (wantedOf rfl (yieldedAt rfl rfl (show a.eval (.tmp 45) = .bool false from (hv 8 (by omega) _ rfl _ rfl)))) (execMvB rfl ((hf 9 (by decide)).trans t9)) ⟨s, ⟨_, rfl, rfl⟩, hS, fun _ _ => rfl⟩
    | 10, _ => exact stepV rfl (wantedOf rfl (yieldedAt rfl rfl (show a.eval (.tmp 45) = .bool false from (hv 8 (by omega) _ rfl _ rfl)))) (execMvB rfl ((hf 5 (by decide)).trans t5)) ⟨s, ⟨_, rfl, rfl⟩, hS, fun _ _ => rfl⟩
    | 11, _ => exact stepC rfl (wantedOf rfl (yieldedAt rfl rfl (show a.eval (.tmp 45) = .bool false from (hv 8 (by omega) _ rfl _ rfl)))) (execCall2 Try.func17 (by kernel_rfl) (by kernel_rfl) rfl (hv 9 (by omega) _ rfl _ rfl) (hv 10 (by omega) _ rfl _ rfl)) (sameP _ _ (zl (frE (k) d m) ((k).toNat)) _ _ X (Fv29.on hS) (Fv18.on hS) (by intro i hi; rfl) (by first | omega | (have := zl_le (unE d m) m; omega) | exact from_le hm)) fun e w' hh => ⟨_, hh.1, s, ⟨_, rfl, rfl⟩, (hS).trans ((hh.2).mono (hS).size), fun _ _ => rfl⟩
    | 12, _ => exact stepV rfl (wantedOf rfl (yieldedAt rfl rfl (show a.eval (.tmp 45) = .bool false from (hv 8 (by omega) _ rfl _ rfl)))) (execNot8 rfl (hv 11 (by omega) _ rfl _ rfl)) ⟨s, ⟨_, rfl, rfl⟩, hS, fun _ _ => rfl⟩
    | 13, _ => exact stepV rfl rfl (execPickF rfl (hv 8 (by omega) _ rfl _ rfl) (hv 12 (by omega) _ rfl _ rfl)) ⟨s, ⟨_, rfl, rfl⟩, hS, fun _ _ => rfl⟩
    | 14, _ => exact stepV rfl rfl (execMvB rfl (hv 13 (by omega) _ rfl _ rfl)) ⟨s, ⟨_, rfl, rfl⟩, hS, fun _ _ => rfl⟩
    | 15, _ => exact stepV rfl (wantedOf rfl (yieldedAt rfl rfl (show a.eval (.tmp 51) = .bool false from (hv 14 (by omega) _ rfl _ rfl)))) (execMvB rfl ((hf 11 (by decide)).trans t11)) ⟨s, ⟨_, rfl, rfl⟩, hS, fun _ _ => rfl⟩
    | 16, _ => exact stepV rfl (wantedOf rfl (yieldedAt rfl rfl (show a.eval (.tmp 51) = .bool false from (hv 14 (by omega) _ rfl _ rfl)))) (execMvB rfl ((hf 7 (by decide)).trans t7)) ⟨s, ⟨_, rfl, rfl⟩, hS, fun _ _ => rfl⟩
    | 17, _ => exact stepC rfl (wantedOf rfl (yieldedAt rfl rfl (show a.eval (.tmp 51) = .bool false from (hv 14 (by omega) _ rfl _ rfl)))) (execCall2 Try.func17 (by kernel_rfl) (by kernel_rfl) rfl (hv 15 (by omega) _ rfl _ rfl) (hv 16 (by omega) _ rfl _ rfl)) (sameP _ _ (zl (unE d m) m) _ _ X (Fv34.on hS) (Fv23.on hS) (by intro i hi; rfl) (by first | omega | (have := zl_le (unE d m) m; omega) | exact from_le hm)) fun e w' hh => ⟨_, hh.1, s, ⟨_, rfl, rfl⟩, (hS).trans ((hh.2).mono (hS).size), fun _ _ => rfl⟩
    | 18, _ => exact stepV rfl (wantedOf rfl (yieldedAt rfl rfl (show a.eval (.tmp 51) = .bool false from (hv 14 (by omega) _ rfl _ rfl)))) (execNot8 rfl (hv 17 (by omega) _ rfl _ rfl)) ⟨s, ⟨_, rfl, rfl⟩, hS, fun _ _ => rfl⟩
    | 19, _ => exact stepV rfl rfl (execPickF rfl (hv 14 (by omega) _ rfl _ rfl) (hv 18 (by omega) _ rfl _ rfl)) ⟨s, ⟨_, rfl, rfl⟩, hS, fun _ _ => rfl⟩
    | k_ + 20, h_ => exact absurd h_ (by simp)
  rintro _ a X7 h1 h2 h3 h4 hS
  replace hS : Below X6.heap.size X6 X7 := hS
  have bX := hS
  clear hS
  replace t0 := (h3 0 (by decide)).trans t0
  have t56 : a.eval (.tmp 56) = .bool false := h4 19 _ rfl _ rfl
  replace FI := (FI.on bX)
  replace Fv18 := (Fv18.on bX)
  replace Fv23 := (Fv23.on bX)
  replace Fv29 := (Fv29.on bX)
  replace Fv34 := (Fv34.on bX)
  have ZX7 := bX.size
  replace BW := BW.trans (bX.mono BW.size)
  clear bX
  replace A := (⟨h1, h2.trans A.2⟩ : a.tmps.size = 73 ∧ a.defers = [])
  clear h1 h2 h3 h4
  clear t1 t5 t6 t7 t8 t9 t10 t11 t12
  refine wp_cond_false t56 ?_
  refine wp_skip ?_
  clear t56
  by_cases hk : 5000 < k
  · refine wp_seq ?_
    refine wp_region_sq (σ := Unit) 73 [(0, 57), (1, 58), (2, 59), (3, 60), (4, 61), (5, 62), (6, 63), (7, 64), (8, 65), (9, 66), (10, 67), (11, 68), (12, 69), (13, 70), (14, 71), (15, 72), (16, 4)] (fun j_ s X => match j_ with | 0 => Below X7.heap.size X7 X | 1 => Below X7.heap.size X7 X | 2 => Below X7.heap.size X7 X | 3 => Below X7.heap.size X7 X | 4 => Below X7.heap.size X7 X | 5 => Below X7.heap.size X7 X | 6 => Below X7.heap.size X7 X | 7 => Below X7.heap.size X7 X | 8 => Below X7.heap.size X7 X | 9 => Below X7.heap.size X7 X | 10 => Below X7.heap.size X7 X | 11 => Below X7.heap.size X7 X | 12 => Below X7.heap.size X7 X | 13 => Below X7.heap.size X7 X | 14 => Below X7.heap.size X7 X | 15 => Below X7.heap.size X7 X | 16 => Below X7.heap.size X7 X | _ => Below X7.heap.size X7 X) (fun s => fun i_ => match i_ with | 0 => .int .i64 k | 1 => .bool true | 2 => .bool true | 3 => undef | 4 => undef | 5 => undef | 6 => undef | 7 => undef | 8 => undef | 9 => undef | 10 => undef | 11 => undef | 12 => undef | 13 => undef | 14 => undef | 15 => .bool true | 16 => .bool true | _ => undef) () A.1 (by kernel_rfl) (by decide) (by decide) (Below.refl _ _) ?_ ?_
    · intro i_ hi_ s a X hf hv hn hS
      match i_, hi_ with
      | 0, _ => exact stepV rfl rfl (execMvB rfl ((hf 0 (by decide)).trans t0)) ⟨s, ⟨_, rfl, rfl⟩, hS, fun _ _ => rfl⟩
      | 1, _ => exact stepV rfl rfl (execGtCt (p := k) (q := 5000) rfl (hv 0 (by omega) _ rfl _ rfl) (by exact hk)) ⟨s, ⟨_, rfl, rfl⟩, hS, fun _ _ => rfl⟩
      | 2, _ => exact stepV rfl rfl (execMvB rfl (hv 1 (by omega) _ rfl _ rfl)) ⟨s, ⟨_, rfl, rfl⟩, hS, fun _ _ => rfl⟩
      | 3, _ => exact stepU rfl (unwantedOf rfl (yieldedAt rfl rfl (show a.eval (.tmp 59) = .bool (!false) from (hv 2 (by omega) _ rfl _ rfl)))) ⟨s, ⟨_, rfl, rfl⟩, hS, fun _ _ => rfl⟩
      | 4, _ => exact stepU rfl (unwantedOf rfl (yieldedAt rfl rfl (show a.eval (.tmp 59) = .bool (!false) from (hv 2 (by omega) _ rfl _ rfl)))) ⟨s, ⟨_, rfl, rfl⟩, hS, fun _ _ => rfl⟩
      | 5, _ => exact stepU rfl (unwantedOf rfl (yieldedAt rfl rfl (show a.eval (.tmp 59) = .bool (!false) from (hv 2 (by omega) _ rfl _ rfl)))) ⟨s, ⟨_, rfl, rfl⟩, hS, fun _ _ => rfl⟩
      | 6, _ => exact stepU rfl (unwantedOf rfl (yieldedAt rfl rfl (show a.eval (.tmp 59) = .bool (!false) from (hv 2 (by omega) _ rfl _ rfl)))) ⟨s, ⟨_, rfl, rfl⟩, hS, fun _ _ => rfl⟩
      | 7, _ => exact stepU rfl (unwantedOf rfl (yieldedAt rfl rfl (show a.eval (.tmp 59) = .bool (!false) from (hv 2 (by omega) _ rfl _ rfl)))) ⟨s, ⟨_, rfl, rfl⟩, hS, fun _ _ => rfl⟩
      | 8, _ => exact stepU rfl (unwantedOf rfl (yieldedAt rfl rfl (show a.eval (.tmp 59) = .bool (!false) from (hv 2 (by omega) _ rfl _ rfl)))) ⟨s, ⟨_, rfl, rfl⟩, hS, fun _ _ => rfl⟩
      | 9, _ => exact stepU rfl (unwantedNo rfl (yieldedNo rfl rfl (show a.eval (.tmp 65) = undef from (hv 8 (by omega) _ rfl _ rfl)))) ⟨s, ⟨_, rfl, rfl⟩, hS, fun _ _ => rfl⟩
      | 10, _ => exact stepU rfl (unwantedNo rfl (yieldedNo rfl rfl (show a.eval (.tmp 65) = undef from (hv 8 (by omega) _ rfl _ rfl)))) ⟨s, ⟨_, rfl, rfl⟩, hS, fun _ _ => rfl⟩
      | 11, _ => exact stepU rfl (unwantedNo rfl (yieldedNo rfl rfl (show a.eval (.tmp 65) = undef from (hv 8 (by omega) _ rfl _ rfl)))) ⟨s, ⟨_, rfl, rfl⟩, hS, fun _ _ => rfl⟩
      | 12, _ => exact stepU rfl (unwantedNo rfl (yieldedNo rfl rfl (show a.eval (.tmp 65) = undef from (hv 8 (by omega) _ rfl _ rfl)))) ⟨s, ⟨_, rfl, rfl⟩, hS, fun _ _ => rfl⟩
      | 13, _ => exact stepU rfl (unwantedNo rfl (yieldedNo rfl rfl (show a.eval (.tmp 65) = undef from (hv 8 (by omega) _ rfl _ rfl)))) ⟨s, ⟨_, rfl, rfl⟩, hS, fun _ _ => rfl⟩
      | 14, _ => exact stepU rfl (unwantedOf rfl (yieldedAt rfl rfl (show a.eval (.tmp 59) = .bool (!false) from (hv 2 (by omega) _ rfl _ rfl)))) ⟨s, ⟨_, rfl, rfl⟩, hS, fun _ _ => rfl⟩
      | 15, _ => exact stepV rfl rfl (execPickT rfl (hv 2 (by omega) _ rfl _ rfl) rfl) ⟨s, ⟨_, rfl, rfl⟩, hS, fun _ _ => rfl⟩
      | 16, _ => exact stepV rfl rfl (execAsgB rfl (hv 15 (by omega) _ rfl _ rfl)) ⟨s, ⟨_, rfl, rfl⟩, hS, fun _ _ => rfl⟩
      | k_ + 17, h_ => exact absurd h_ (by simp)
    rintro _ a X9 h1 h2 h3 h4 hS
    replace hS : Below X7.heap.size X7 X9 := hS
    have bX := hS
    clear hS
    have t4 : a.eval (.tmp 4) = .bool true := h4 16 _ rfl _ rfl
    replace FI := (FI.on bX)
    replace Fv18 := (Fv18.on bX)
    replace Fv23 := (Fv23.on bX)
    replace Fv29 := (Fv29.on bX)
    replace Fv34 := (Fv34.on bX)
    have ZX9 := bX.size
    replace BW := BW.trans (bX.mono BW.size)
    clear bX
    replace A := (⟨h1, h2.trans A.2⟩ : a.tmps.size = 73 ∧ a.defers = [])
    clear h1 h2 h3 h4
    clear t0
    refine wp_ret ?_
    refine bodyPost_ret (results_tmp rfl _ _ _) A.2 ⟨?_, BW⟩
    show Ending.returned (a.eval (.tmp 4)) = _
    rw [t4]
  · refine wp_seq ?_
    refine wp_region_sq (σ := Value × Value × Value × Value) 73 [(0, 57), (1, 58), (2, 59), (3, 60), (4, 61), (5, 62), (6, 63), (7, 64), (8, 65), (9, 66), (10, 67), (11, 68), (12, 69), (13, 70), (14, 71), (15, 72), (16, 4)] (fun j_ s X => match j_ with | 0 => Below X7.heap.size X7 X | 1 => Below X7.heap.size X7 X | 2 => Below X7.heap.size X7 X | 3 => Below X7.heap.size X7 X | 4 => Below X7.heap.size X7 X | 5 => Below X7.heap.size X7 X ∧ (SliceI X s.1 ((k).toNat) (fun j => (j : Int))) | 6 => Below X7.heap.size X7 X ∧ (SliceI X s.1 ((k).toNat) (fun j => (j : Int))) | 7 => Below X7.heap.size X7 X ∧ (SliceI X s.1 ((k).toNat) (fun j => (j : Int))) ∧ (SliceI X s.2.1 ((k).toNat) (fun j => (j : Int))) | 8 => Below X7.heap.size X7 X ∧ (SliceI X s.1 ((k).toNat) (fun j => (j : Int))) ∧ (SliceI X s.2.1 ((k).toNat) (fun j => (j : Int))) | 9 => Below X7.heap.size X7 X ∧ (SliceI X s.1 ((k).toNat) (fun j => (j : Int))) ∧ (SliceI X s.2.1 ((k).toNat) (fun j => (j : Int))) | 10 => Below X7.heap.size X7 X ∧ (SliceI X s.1 ((k).toNat) (fun j => (j : Int))) ∧ (SliceI X s.2.1 ((k).toNat) (fun j => (j : Int))) | 11 => Below X7.heap.size X7 X ∧ (SliceI X s.1 ((k).toNat) (fun j => (j : Int))) ∧ (SliceI X s.2.1 ((k).toNat) (fun j => (j : Int))) ∧ (SliceI X s.2.2.1 (((k) - 1).toNat) (fun j => (k) - (j : Int))) | 12 => Below X7.heap.size X7 X ∧ (SliceI X s.1 ((k).toNat) (fun j => (j : Int))) ∧ (SliceI X s.2.1 ((k).toNat) (fun j => (j : Int))) ∧ (SliceI X s.2.2.1 (((k) - 1).toNat) (fun j => (k) - (j : Int))) | 13 => Below X7.heap.size X7 X ∧ (SliceI X s.1 ((k).toNat) (fun j => (j : Int))) ∧ (SliceI X s.2.1 ((k).toNat) (fun j => (j : Int))) ∧ (SliceI X s.2.2.1 (((k) - 1).toNat) (fun j => (k) - (j : Int))) ∧ (SliceI X s.2.2.2 (((k) - 1).toNat) (fun j => (k) - (j : Int))) | 14 => Below X7.heap.size X7 X ∧ (SliceI X s.1 ((k).toNat) (fun j => (j : Int))) ∧ (SliceI X s.2.1 ((k).toNat) (fun j => (j : Int))) ∧ (SliceI X s.2.2.1 (((k) - 1).toNat) (fun j => (k) - (j : Int))) ∧ (SliceI X s.2.2.2 (((k) - 1).toNat) (fun j => (k) - (j : Int))) | 15 => Below X7.heap.size X7 X ∧ (SliceI X s.1 ((k).toNat) (fun j => (j : Int))) ∧ (SliceI X s.2.1 ((k).toNat) (fun j => (j : Int))) ∧ (SliceI X s.2.2.1 (((k) - 1).toNat) (fun j => (k) - (j : Int))) ∧ (SliceI X s.2.2.2 (((k) - 1).toNat) (fun j => (k) - (j : Int))) | 16 => Below X7.heap.size X7 X ∧ (SliceI X s.1 ((k).toNat) (fun j => (j : Int))) ∧ (SliceI X s.2.1 ((k).toNat) (fun j => (j : Int))) ∧ (SliceI X s.2.2.1 (((k) - 1).toNat) (fun j => (k) - (j : Int))) ∧ (SliceI X s.2.2.2 (((k) - 1).toNat) (fun j => (k) - (j : Int))) | _ => Below X7.heap.size X7 X ∧ (SliceI X s.1 ((k).toNat) (fun j => (j : Int))) ∧ (SliceI X s.2.1 ((k).toNat) (fun j => (j : Int))) ∧ (SliceI X s.2.2.1 (((k) - 1).toNat) (fun j => (k) - (j : Int))) ∧ (SliceI X s.2.2.2 (((k) - 1).toNat) (fun j => (k) - (j : Int)))) (fun s => fun i_ => match i_ with | 0 => .int .i64 k | 1 => .bool false | 2 => .bool false | 3 => .int .i64 k | 4 => s.1 | 5 => .int .i64 k | 6 => s.2.1 | 7 => .bool true | 8 => .bool true | 9 => .int .i64 k | 10 => s.2.2.1 | 11 => .int .i64 k | 12 => s.2.2.2 | 13 => .bool true | 14 => .bool true | 15 => .bool true | 16 => .bool true | _ => undef) (undef, undef, undef, undef) A.1 (by kernel_rfl) (by decide) (by decide) (Below.refl _ _) ?_ ?_
    · intro i_ hi_ s a X hf hv hn hS
      match i_, hi_ with
      | 0, _ => exact stepV rfl rfl (execMvB rfl ((hf 0 (by decide)).trans t0)) ⟨s, ⟨_, rfl, rfl⟩, hS, fun _ _ => rfl⟩
      | 1, _ => exact stepV rfl rfl (execGtCf (p := k) (q := 5000) rfl (hv 0 (by omega) _ rfl _ rfl) (by exact hk)) ⟨s, ⟨_, rfl, rfl⟩, hS, fun _ _ => rfl⟩
      | 2, _ => exact stepV rfl rfl (execMvB rfl (hv 1 (by omega) _ rfl _ rfl)) ⟨s, ⟨_, rfl, rfl⟩, hS, fun _ _ => rfl⟩
      | 3, _ => exact stepV rfl (wantedOf rfl (yieldedAt rfl rfl (show a.eval (.tmp 59) = .bool false from (hv 2 (by omega) _ rfl _ rfl)))) (execMvB rfl ((hf 0 (by decide)).trans t0)) ⟨s, ⟨_, rfl, rfl⟩, hS, fun _ _ => rfl⟩
      | 4, _ =>
        refine stepC rfl (wantedOf rfl (yieldedAt rfl rfl (show a.eval (.tmp 59) = .bool false from (hv 2 (by omega) _ rfl _ rfl)))) (execCall1 Try.func22 (by kernel_rfl) (by kernel_rfl) rfl (hv 3 (by omega) _ rfl _ rfl)) (I.ident (k) X (by omega)) fun e w' hh => ?_
        obtain ⟨r_, he, hk, hb⟩ := hh
        refine ⟨_, he, (r_, s.2.1, s.2.2.1, s.2.2.2), ⟨_, rfl, rfl⟩, ⟨(hS).trans ((hb).mono (hS).size), own_ints hk (fun j hj => by omega)⟩, fun i hi => ?_⟩
        match i, hi with
        | 0, _ => rfl
        | 1, _ => rfl
        | 2, _ => rfl
        | 3, _ => rfl
        | n_ + 4, h_ => omega
      | 5, _ => exact stepV rfl (wantedOf rfl (yieldedAt rfl rfl (show a.eval (.tmp 59) = .bool false from (hv 2 (by omega) _ rfl _ rfl)))) (execMvB rfl ((hf 0 (by decide)).trans t0)) ⟨s, ⟨_, rfl, rfl⟩, hS, fun _ _ => rfl⟩
      | 6, _ =>
        refine stepC rfl (wantedOf rfl (yieldedAt rfl rfl (show a.eval (.tmp 59) = .bool false from (hv 2 (by omega) _ rfl _ rfl)))) (execCall1 Try.func23 (by kernel_rfl) (by kernel_rfl) rfl (hv 5 (by omega) _ rfl _ rfl)) (rident (k) X (by omega)) fun e w' hh => ?_
        obtain ⟨r_, he, hk, hb⟩ := hh
        refine ⟨_, he, (s.1, r_, s.2.2.1, s.2.2.2), ⟨_, rfl, rfl⟩, ⟨(hS.1).trans ((hb).mono (hS.1).size), (hS.2.on hb), own_ints hk (fun j hj => by omega)⟩, fun i hi => ?_⟩
        match i, hi with
        | 0, _ => rfl
        | 1, _ => rfl
        | 2, _ => rfl
        | 3, _ => rfl
        | 4, _ => rfl
        | 5, _ => rfl
        | n_ + 6, h_ => omega
      | 7, _ => exact stepC rfl (wantedOf rfl (yieldedAt rfl rfl (show a.eval (.tmp 59) = .bool false from (hv 2 (by omega) _ rfl _ rfl)))) (execCall2 Try.func17 (by kernel_rfl) (by kernel_rfl) rfl (hv 4 (by omega) _ rfl _ rfl) (hv 6 (by omega) _ rfl _ rfl)) (sameP _ _ ((k).toNat) _ _ X hS.2.1 hS.2.2 (by intro i hi; rfl) (by omega)) fun e w' hh => ⟨_, hh.1, s, ⟨_, rfl, rfl⟩, ⟨(hS.1).trans ((hh.2).mono (hS.1).size), (hS.2.1.on hh.2), (hS.2.2.on hh.2)⟩, fun _ _ => rfl⟩
      | 8, _ => exact stepV rfl (wantedOf rfl (yieldedAt rfl rfl (show a.eval (.tmp 59) = .bool false from (hv 2 (by omega) _ rfl _ rfl)))) (execMvB rfl (hv 7 (by omega) _ rfl _ rfl)) ⟨s, ⟨_, rfl, rfl⟩, hS, fun _ _ => rfl⟩
      | 9, _ => exact stepV rfl (wantedOf rfl (yieldedAt rfl rfl (show a.eval (.tmp 65) = .bool true from (hv 8 (by omega) _ rfl _ rfl)))) (execMvB rfl ((hf 0 (by decide)).trans t0)) ⟨s, ⟨_, rfl, rfl⟩, hS, fun _ _ => rfl⟩
      | 10, _ =>
        refine stepC rfl (wantedOf rfl (yieldedAt rfl rfl (show a.eval (.tmp 65) = .bool true from (hv 8 (by omega) _ rfl _ rfl)))) (execCall1 Try.func24 (by kernel_rfl) (by kernel_rfl) rfl (hv 9 (by omega) _ rfl _ rfl)) (I.bounds (k) X (by omega)) fun e w' hh => ?_
        obtain ⟨r_, he, hk, hb⟩ := hh
        refine ⟨_, he, (s.1, s.2.1, r_, s.2.2.2), ⟨_, rfl, rfl⟩, ⟨(hS.1).trans ((hb).mono (hS.1).size), (hS.2.1.on hb), (hS.2.2.on hb), own_ints hk (fun j hj => by omega)⟩, fun i hi => ?_⟩
        match i, hi with
        | 0, _ => rfl
        | 1, _ => rfl
        | 2, _ => rfl
        | 3, _ => rfl
        | 4, _ => rfl
        | 5, _ => rfl
        | 6, _ => rfl
        | 7, _ => rfl
        | 8, _ => rfl
        | 9, _ => rfl
        | n_ + 10, h_ => omega
      | 11, _ => exact stepV rfl (wantedOf rfl (yieldedAt rfl rfl (show a.eval (.tmp 65) = .bool true from (hv 8 (by omega) _ rfl _ rfl)))) (execMvB rfl ((hf 0 (by decide)).trans t0)) ⟨s, ⟨_, rfl, rfl⟩, hS, fun _ _ => rfl⟩
      | 12, _ =>
        refine stepC rfl (wantedOf rfl (yieldedAt rfl rfl (show a.eval (.tmp 65) = .bool true from (hv 8 (by omega) _ rfl _ rfl)))) (execCall1 Try.func25 (by kernel_rfl) (by kernel_rfl) rfl (hv 11 (by omega) _ rfl _ rfl)) (rbounds (k) X (by omega)) fun e w' hh => ?_
        obtain ⟨r_, he, hk, hb⟩ := hh
        refine ⟨_, he, (s.1, s.2.1, s.2.2.1, r_), ⟨_, rfl, rfl⟩, ⟨(hS.1).trans ((hb).mono (hS.1).size), (hS.2.1.on hb), (hS.2.2.1.on hb), (hS.2.2.2.on hb), own_ints hk (fun j hj => by omega)⟩, fun i hi => ?_⟩
        match i, hi with
        | 0, _ => rfl
        | 1, _ => rfl
        | 2, _ => rfl
        | 3, _ => rfl
        | 4, _ => rfl
        | 5, _ => rfl
        | 6, _ => rfl
        | 7, _ => rfl
        | 8, _ => rfl
        | 9, _ => rfl
        | 10, _ => rfl
        | 11, _ => rfl
        | n_ + 12, h_ => omega
      | 13, _ => exact stepC rfl (wantedOf rfl (yieldedAt rfl rfl (show a.eval (.tmp 65) = .bool true from (hv 8 (by omega) _ rfl _ rfl)))) (execCall2 Try.func17 (by kernel_rfl) (by kernel_rfl) rfl (hv 10 (by omega) _ rfl _ rfl) (hv 12 (by omega) _ rfl _ rfl)) (sameP _ _ (((k) - 1).toNat) _ _ X hS.2.2.2.1 hS.2.2.2.2 (by intro i hi; rfl) (by omega)) fun e w' hh => ⟨_, hh.1, s, ⟨_, rfl, rfl⟩, ⟨(hS.1).trans ((hh.2).mono (hS.1).size), (hS.2.1.on hh.2), (hS.2.2.1.on hh.2), (hS.2.2.2.1.on hh.2), (hS.2.2.2.2.on hh.2)⟩, fun _ _ => rfl⟩
      | 14, _ => exact stepV rfl (wantedOf rfl (yieldedAt rfl rfl (show a.eval (.tmp 59) = .bool false from (hv 2 (by omega) _ rfl _ rfl)))) (execPickT rfl (hv 8 (by omega) _ rfl _ rfl) (hv 13 (by omega) _ rfl _ rfl)) ⟨s, ⟨_, rfl, rfl⟩, hS, fun _ _ => rfl⟩
      | 15, _ => exact stepV rfl rfl (execPickF rfl (hv 2 (by omega) _ rfl _ rfl) (hv 14 (by omega) _ rfl _ rfl)) ⟨s, ⟨_, rfl, rfl⟩, hS, fun _ _ => rfl⟩
      | 16, _ => exact stepV rfl rfl (execAsgB rfl (hv 15 (by omega) _ rfl _ rfl)) ⟨s, ⟨_, rfl, rfl⟩, hS, fun _ _ => rfl⟩
      | k_ + 17, h_ => exact absurd h_ (by simp)
    rintro ⟨v61, v63, v67, v69⟩ a X9 h1 h2 h3 h4 hS
    replace hS : Below X7.heap.size X7 X9 ∧ (SliceI X9 v61 ((k).toNat) (fun j => (j : Int))) ∧ (SliceI X9 v63 ((k).toNat) (fun j => (j : Int))) ∧ (SliceI X9 v67 (((k) - 1).toNat) (fun j => (k) - (j : Int))) ∧ (SliceI X9 v69 (((k) - 1).toNat) (fun j => (k) - (j : Int))) := hS
    obtain ⟨bX, Fv61, Fv63, Fv67, Fv69⟩ := hS
    have t4 : a.eval (.tmp 4) = .bool true := h4 16 _ rfl _ rfl
    replace FI := (FI.on bX)
    replace Fv18 := (Fv18.on bX)
    replace Fv23 := (Fv23.on bX)
    replace Fv29 := (Fv29.on bX)
    replace Fv34 := (Fv34.on bX)
    have ZX9 := bX.size
    replace BW := BW.trans (bX.mono BW.size)
    clear bX
    replace A := (⟨h1, h2.trans A.2⟩ : a.tmps.size = 73 ∧ a.defers = [])
    clear h1 h2 h3 h4
    clear t0
    refine wp_ret ?_
    refine bodyPost_ret (results_tmp rfl _ _ _) A.2 ⟨?_, BW⟩
    show Ending.returned (a.eval (.tmp 4)) = _
    rw [t4]
set_option maxRecDepth 100000 in
set_option maxHeartbeats 4000000 in
/-- PermPairs. -/
theorem pairs_any (I : Impl) (f g : Nat → Int) (n m : Nat) (pv qv : Value) (V : World) (hv0 : SliceI V pv n f) (hn17 : n ≤ 17592186044416) (hw0 : SliceI V qv m g) (hm17 : m ≤ 17592186044416) :
    Calls Try.prog 5 #[pv, qv] V fun e w' => e = .returned (.bool true) ∧ Below V.heap.size V w' := by
  have FI := hv0
  have FJ := hw0
  go_enter Try.func5, Try.ntmps5
  refine wp_seq ?_
  refine wp_region_sqK 57 [(0, 4)] (fun i_ => match i_ with | 0 => .bool false | _ => undef) rfl (by kernel_rfl) (by decide) (by decide) ?_ ?_
  · intro i_ hi_ a hf hv hn
    match i_, hi_ with
    | 0, _ => exact stepV rfl rfl (execAsgB rfl rfl) ⟨⟨_, rfl, rfl⟩, rfl⟩
    | k_ + 1, h_ => exact absurd h_ (by simp)
  intro a h1 h2 h3 h4
  have t0 : a.eval (.tmp 0) = pv := (h3 0 (by decide)).trans rfl
  have t1 : a.eval (.tmp 1) = qv := (h3 1 (by decide)).trans rfl
  have A : a.tmps.size = 57 ∧ a.defers = [] := ⟨h1, h2⟩
  have BW : Below V.heap.size V V := Below.refl _ _
  clear h1 h2 h3 h4
  refine wp_seq ?_
  refine wp_seq ?_
  refine wp_region_sq (σ := Unit) 57 [(0, 13), (1, 14)] (fun j_ s X => match j_ with | 0 => Below V.heap.size V X | 1 => Below V.heap.size V X | _ => Below V.heap.size V X) (fun s => fun i_ => match i_ with | 0 => .bool true | 1 => .bool false | _ => undef) () A.1 (by kernel_rfl) (by decide) (by decide) (Below.refl _ _) ?_ ?_
  · intro i_ hi_ s a X hf hv hn hS
    match i_, hi_ with
    | 0, _ => exact stepC rfl rfl (execCall0 Try.func9 (by kernel_rfl) (by kernel_rfl) rfl ) (awake11 I X) fun e w' hh => ⟨_, hh.1, s, ⟨_, rfl, rfl⟩, (hS).trans ((hh.2).mono (hS).size), fun _ _ => rfl⟩
    | 1, _ => exact stepV rfl rfl (execNot8 rfl (hv 0 (by omega) _ rfl _ rfl)) ⟨s, ⟨_, rfl, rfl⟩, hS, fun _ _ => rfl⟩
    | k_ + 2, h_ => exact absurd h_ (by simp)
  rintro _ a X1 h1 h2 h3 h4 hS
  replace hS : Below V.heap.size V X1 := hS
  have bX := hS
  clear hS
  replace t0 := (h3 0 (by decide)).trans t0
  replace t1 := (h3 1 (by decide)).trans t1
  have t14 : a.eval (.tmp 14) = .bool false := h4 1 _ rfl _ rfl
  replace FI := (FI.on bX)
  replace FJ := (FJ.on bX)
  have ZX1 := bX.size
  replace BW := BW.trans (bX.mono BW.size)
  clear bX
  replace A := (⟨h1, h2.trans A.2⟩ : a.tmps.size = 57 ∧ a.defers = [])
  clear h1 h2 h3 h4
  refine wp_cond_false t14 ?_
  refine wp_skip ?_
  clear t14
  refine wp_seq ?_
  refine wp_region_sq (σ := Value) 57 [(0, 16), (1, 17), (2, 18), (3, 15), (4, 19), (5, 20), (6, 5), (7, 6)] (fun j_ s X => match j_ with | 0 => Below X1.heap.size X1 X | 1 => Below X1.heap.size X1 X | 2 => Below X1.heap.size X1 X | 3 => Below X1.heap.size X1 X ∧ (SliceI X s (zl (coE f n g m) n) (fun j => g (f j).toNat)) | 4 => Below X1.heap.size X1 X ∧ (SliceI X s (zl (coE f n g m) n) (fun j => g (f j).toNat)) | 5 => Below X1.heap.size X1 X ∧ (SliceI X s (zl (coE f n g m) n) (fun j => g (f j).toNat)) | 6 => Below X1.heap.size X1 X ∧ (SliceI X s (zl (coE f n g m) n) (fun j => g (f j).toNat)) | 7 => Below X1.heap.size X1 X ∧ (SliceI X s (zl (coE f n g m) n) (fun j => g (f j).toNat)) | _ => Below X1.heap.size X1 X ∧ (SliceI X s (zl (coE f n g m) n) (fun j => g (f j).toNat))) (fun s => fun i_ => match i_ with | 0 => pv | 1 => qv | 2 => .tuple #[s, .int .i64 ((coE f n g m : Nat) : Int)] | 3 => .tuple #[s, .int .i64 ((coE f n g m : Nat) : Int)] | 4 => s | 5 => .int .i64 ((coE f n g m : Nat) : Int) | 6 => s | 7 => .int .i64 ((coE f n g m : Nat) : Int) | _ => undef) undef A.1 (by kernel_rfl) (by decide) (by decide) (Below.refl _ _) ?_ ?_
  · intro i_ hi_ s a X hf hv hn hS
    match i_, hi_ with
    | 0, _ => exact stepV rfl rfl (execMvB rfl ((hf 0 (by decide)).trans t0)) ⟨s, ⟨_, rfl, rfl⟩, hS, fun _ _ => rfl⟩
    | 1, _ => exact stepV rfl rfl (execMvB rfl ((hf 1 (by decide)).trans t1)) ⟨s, ⟨_, rfl, rfl⟩, hS, fun _ _ => rfl⟩
    | 2, _ =>
      refine stepC rfl rfl (execCall2 Try.func26 (by kernel_rfl) (by kernel_rfl) rfl (hv 0 (by omega) _ rfl _ rfl) (hv 1 (by omega) _ rfl _ rfl)) (rcompose f g n m _ _ X (FI.on hS) (by omega) (FJ.on hS) (by omega)) fun e w' hh => ?_
      obtain ⟨r_, he, hk, hb⟩ := hh
      refine ⟨_, he, r_, ⟨_, rfl, rfl⟩, ⟨(hS).trans ((hb).mono (hS).size), own_ints hk (co_fits ((FJ.on hS)).fits)⟩, fun i hi => ?_⟩
      match i, hi with
      | 0, _ => rfl
      | 1, _ => rfl
      | n_ + 2, h_ => omega
    | 3, _ => exact stepV rfl rfl (execMvB rfl (hv 2 (by omega) _ rfl _ rfl)) ⟨s, ⟨_, rfl, rfl⟩, hS, fun _ _ => rfl⟩
    | 4, _ => exact stepV rfl rfl (execExtT rfl (hv 3 (by omega) _ rfl _ rfl) rfl) ⟨s, ⟨_, rfl, rfl⟩, hS, fun _ _ => rfl⟩
    | 5, _ => exact stepV rfl rfl (execExtT rfl (hv 3 (by omega) _ rfl _ rfl) rfl) ⟨s, ⟨_, rfl, rfl⟩, hS, fun _ _ => rfl⟩
    | 6, _ => exact stepV rfl rfl (execAsgB rfl (hv 4 (by omega) _ rfl _ rfl)) ⟨s, ⟨_, rfl, rfl⟩, hS, fun _ _ => rfl⟩
    | 7, _ => exact stepV rfl rfl (execAsgB rfl (hv 5 (by omega) _ rfl _ rfl)) ⟨s, ⟨_, rfl, rfl⟩, hS, fun _ _ => rfl⟩
    | k_ + 8, h_ => exact absurd h_ (by simp)
  rintro v18 a X3 h1 h2 h3 h4 hS
  replace hS : Below X1.heap.size X1 X3 ∧ (SliceI X3 v18 (zl (coE f n g m) n) (fun j => g (f j).toNat)) := hS
  obtain ⟨bX, Fv18⟩ := hS
  replace t0 := (h3 0 (by decide)).trans t0
  replace t1 := (h3 1 (by decide)).trans t1
  have t5 : a.eval (.tmp 5) = v18 := h4 6 _ rfl _ rfl
  have t6 : a.eval (.tmp 6) = .int .i64 ((coE f n g m : Nat) : Int) := h4 7 _ rfl _ rfl
  replace FI := (FI.on bX)
  replace FJ := (FJ.on bX)
  have ZX3 := bX.size
  replace BW := BW.trans (bX.mono BW.size)
  clear bX
  replace A := (⟨h1, h2.trans A.2⟩ : a.tmps.size = 57 ∧ a.defers = [])
  clear h1 h2 h3 h4
  refine wp_seq ?_
  refine wp_region_sq (σ := Value) 57 [(0, 22), (1, 23), (2, 24), (3, 21), (4, 25), (5, 26), (6, 7), (7, 8)] (fun j_ s X => match j_ with | 0 => Below X3.heap.size X3 X | 1 => Below X3.heap.size X3 X | 2 => Below X3.heap.size X3 X | 3 => Below X3.heap.size X3 X ∧ (SliceI X s (zl (apE f n m) n) (fun j => g (f j).toNat)) | 4 => Below X3.heap.size X3 X ∧ (SliceI X s (zl (apE f n m) n) (fun j => g (f j).toNat)) | 5 => Below X3.heap.size X3 X ∧ (SliceI X s (zl (apE f n m) n) (fun j => g (f j).toNat)) | 6 => Below X3.heap.size X3 X ∧ (SliceI X s (zl (apE f n m) n) (fun j => g (f j).toNat)) | 7 => Below X3.heap.size X3 X ∧ (SliceI X s (zl (apE f n m) n) (fun j => g (f j).toNat)) | _ => Below X3.heap.size X3 X ∧ (SliceI X s (zl (apE f n m) n) (fun j => g (f j).toNat))) (fun s => fun i_ => match i_ with | 0 => pv | 1 => qv | 2 => .tuple #[s, .int .i64 ((apE f n m : Nat) : Int)] | 3 => .tuple #[s, .int .i64 ((apE f n m : Nat) : Int)] | 4 => s | 5 => .int .i64 ((apE f n m : Nat) : Int) | 6 => s | 7 => .int .i64 ((apE f n m : Nat) : Int) | _ => undef) undef A.1 (by kernel_rfl) (by decide) (by decide) (Below.refl _ _) ?_ ?_
  · intro i_ hi_ s a X hf hv hn hS
    match i_, hi_ with
    | 0, _ => exact stepV rfl rfl (execMvB rfl ((hf 0 (by decide)).trans t0)) ⟨s, ⟨_, rfl, rfl⟩, hS, fun _ _ => rfl⟩
    | 1, _ => exact stepV rfl rfl (execMvB rfl ((hf 1 (by decide)).trans t1)) ⟨s, ⟨_, rfl, rfl⟩, hS, fun _ _ => rfl⟩
    | 2, _ =>
      refine stepC rfl rfl (execCall2 Try.func27 (by kernel_rfl) (by kernel_rfl) rfl (hv 0 (by omega) _ rfl _ rfl) (hv 1 (by omega) _ rfl _ rfl)) (rapply f g n m _ _ X (FI.on hS) (by omega) (FJ.on hS)) fun e w' hh => ?_
      obtain ⟨r_, he, hk, hb⟩ := hh
      refine ⟨_, he, r_, ⟨_, rfl, rfl⟩, ⟨(hS).trans ((hb).mono (hS).size), own_ints hk (ap_fits ((FJ.on hS)).fits)⟩, fun i hi => ?_⟩
      match i, hi with
      | 0, _ => rfl
      | 1, _ => rfl
      | n_ + 2, h_ => omega
    | 3, _ => exact stepV rfl rfl (execMvB rfl (hv 2 (by omega) _ rfl _ rfl)) ⟨s, ⟨_, rfl, rfl⟩, hS, fun _ _ => rfl⟩
    | 4, _ => exact stepV rfl rfl (execExtT rfl (hv 3 (by omega) _ rfl _ rfl) rfl) ⟨s, ⟨_, rfl, rfl⟩, hS, fun _ _ => rfl⟩
    | 5, _ => exact stepV rfl rfl (execExtT rfl (hv 3 (by omega) _ rfl _ rfl) rfl) ⟨s, ⟨_, rfl, rfl⟩, hS, fun _ _ => rfl⟩
    | 6, _ => exact stepV rfl rfl (execAsgB rfl (hv 4 (by omega) _ rfl _ rfl)) ⟨s, ⟨_, rfl, rfl⟩, hS, fun _ _ => rfl⟩
    | 7, _ => exact stepV rfl rfl (execAsgB rfl (hv 5 (by omega) _ rfl _ rfl)) ⟨s, ⟨_, rfl, rfl⟩, hS, fun _ _ => rfl⟩
    | k_ + 8, h_ => exact absurd h_ (by simp)
  rintro v24 a X4 h1 h2 h3 h4 hS
  replace hS : Below X3.heap.size X3 X4 ∧ (SliceI X4 v24 (zl (apE f n m) n) (fun j => g (f j).toNat)) := hS
  obtain ⟨bX, Fv24⟩ := hS
  replace t0 := (h3 0 (by decide)).trans t0
  replace t1 := (h3 1 (by decide)).trans t1
  replace t5 := (h3 5 (by decide)).trans t5
  replace t6 := (h3 6 (by decide)).trans t6
  have t7 : a.eval (.tmp 7) = v24 := h4 6 _ rfl _ rfl
  have t8 : a.eval (.tmp 8) = .int .i64 ((apE f n m : Nat) : Int) := h4 7 _ rfl _ rfl
  replace FI := (FI.on bX)
  replace FJ := (FJ.on bX)
  replace Fv18 := (Fv18.on bX)
  have ZX4 := bX.size
  replace BW := BW.trans (bX.mono BW.size)
  clear bX
  replace A := (⟨h1, h2.trans A.2⟩ : a.tmps.size = 57 ∧ a.defers = [])
  clear h1 h2 h3 h4
  refine wp_seq ?_
  refine wp_region_sq (σ := Value) 57 [(0, 28), (1, 29), (2, 30), (3, 27), (4, 31), (5, 32), (6, 9), (7, 10)] (fun j_ s X => match j_ with | 0 => Below X4.heap.size X4 X | 1 => Below X4.heap.size X4 X | 2 => Below X4.heap.size X4 X | 3 => Below X4.heap.size X4 X ∧ (SliceI X s (zl (coE f n g m) n) (fun j => g (f j).toNat)) | 4 => Below X4.heap.size X4 X ∧ (SliceI X s (zl (coE f n g m) n) (fun j => g (f j).toNat)) | 5 => Below X4.heap.size X4 X ∧ (SliceI X s (zl (coE f n g m) n) (fun j => g (f j).toNat)) | 6 => Below X4.heap.size X4 X ∧ (SliceI X s (zl (coE f n g m) n) (fun j => g (f j).toNat)) | 7 => Below X4.heap.size X4 X ∧ (SliceI X s (zl (coE f n g m) n) (fun j => g (f j).toNat)) | _ => Below X4.heap.size X4 X ∧ (SliceI X s (zl (coE f n g m) n) (fun j => g (f j).toNat))) (fun s => fun i_ => match i_ with | 0 => pv | 1 => qv | 2 => .tuple #[s, .int .i64 ((coE f n g m : Nat) : Int)] | 3 => .tuple #[s, .int .i64 ((coE f n g m : Nat) : Int)] | 4 => s | 5 => .int .i64 ((coE f n g m : Nat) : Int) | 6 => s | 7 => .int .i64 ((coE f n g m : Nat) : Int) | _ => undef) undef A.1 (by kernel_rfl) (by decide) (by decide) (Below.refl _ _) ?_ ?_
  · intro i_ hi_ s a X hf hv hn hS
    match i_, hi_ with
    | 0, _ => exact stepV rfl rfl (execMvB rfl ((hf 0 (by decide)).trans t0)) ⟨s, ⟨_, rfl, rfl⟩, hS, fun _ _ => rfl⟩
    | 1, _ => exact stepV rfl rfl (execMvB rfl ((hf 1 (by decide)).trans t1)) ⟨s, ⟨_, rfl, rfl⟩, hS, fun _ _ => rfl⟩
    | 2, _ =>
      refine stepC rfl rfl (execCall2 Try.func28 (by kernel_rfl) (by kernel_rfl) rfl (hv 0 (by omega) _ rfl _ rfl) (hv 1 (by omega) _ rfl _ rfl)) (I.compose f g n m _ _ X (FI.on hS) (by omega) (FJ.on hS) (by omega)) fun e w' hh => ?_
      obtain ⟨r_, he, hk, hb⟩ := hh
      refine ⟨_, he, r_, ⟨_, rfl, rfl⟩, ⟨(hS).trans ((hb).mono (hS).size), own_ints hk (co_fits ((FJ.on hS)).fits)⟩, fun i hi => ?_⟩
      match i, hi with
      | 0, _ => rfl
      | 1, _ => rfl
      | n_ + 2, h_ => omega
    | 3, _ => exact stepV rfl rfl (execMvB rfl (hv 2 (by omega) _ rfl _ rfl)) ⟨s, ⟨_, rfl, rfl⟩, hS, fun _ _ => rfl⟩
    | 4, _ => exact stepV rfl rfl (execExtT rfl (hv 3 (by omega) _ rfl _ rfl) rfl) ⟨s, ⟨_, rfl, rfl⟩, hS, fun _ _ => rfl⟩
    | 5, _ => exact stepV rfl rfl (execExtT rfl (hv 3 (by omega) _ rfl _ rfl) rfl) ⟨s, ⟨_, rfl, rfl⟩, hS, fun _ _ => rfl⟩
    | 6, _ => exact stepV rfl rfl (execAsgB rfl (hv 4 (by omega) _ rfl _ rfl)) ⟨s, ⟨_, rfl, rfl⟩, hS, fun _ _ => rfl⟩
    | 7, _ => exact stepV rfl rfl (execAsgB rfl (hv 5 (by omega) _ rfl _ rfl)) ⟨s, ⟨_, rfl, rfl⟩, hS, fun _ _ => rfl⟩
    | k_ + 8, h_ => exact absurd h_ (by simp)
  rintro v30 a X5 h1 h2 h3 h4 hS
  replace hS : Below X4.heap.size X4 X5 ∧ (SliceI X5 v30 (zl (coE f n g m) n) (fun j => g (f j).toNat)) := hS
  obtain ⟨bX, Fv30⟩ := hS
  replace t0 := (h3 0 (by decide)).trans t0
  replace t1 := (h3 1 (by decide)).trans t1
  replace t5 := (h3 5 (by decide)).trans t5
  replace t6 := (h3 6 (by decide)).trans t6
  replace t7 := (h3 7 (by decide)).trans t7
  replace t8 := (h3 8 (by decide)).trans t8
  have t9 : a.eval (.tmp 9) = v30 := h4 6 _ rfl _ rfl
  have t10 : a.eval (.tmp 10) = .int .i64 ((coE f n g m : Nat) : Int) := h4 7 _ rfl _ rfl
  replace FI := (FI.on bX)
  replace FJ := (FJ.on bX)
  replace Fv18 := (Fv18.on bX)
  replace Fv24 := (Fv24.on bX)
  have ZX5 := bX.size
  replace BW := BW.trans (bX.mono BW.size)
  clear bX
  replace A := (⟨h1, h2.trans A.2⟩ : a.tmps.size = 57 ∧ a.defers = [])
  clear h1 h2 h3 h4
  refine wp_seq ?_
  refine wp_region_sq (σ := Value) 57 [(0, 34), (1, 35), (2, 36), (3, 33), (4, 37), (5, 38), (6, 11), (7, 12)] (fun j_ s X => match j_ with | 0 => Below X5.heap.size X5 X | 1 => Below X5.heap.size X5 X | 2 => Below X5.heap.size X5 X | 3 => Below X5.heap.size X5 X ∧ (SliceI X s (zl (apE f n m) n) (fun j => g (f j).toNat)) | 4 => Below X5.heap.size X5 X ∧ (SliceI X s (zl (apE f n m) n) (fun j => g (f j).toNat)) | 5 => Below X5.heap.size X5 X ∧ (SliceI X s (zl (apE f n m) n) (fun j => g (f j).toNat)) | 6 => Below X5.heap.size X5 X ∧ (SliceI X s (zl (apE f n m) n) (fun j => g (f j).toNat)) | 7 => Below X5.heap.size X5 X ∧ (SliceI X s (zl (apE f n m) n) (fun j => g (f j).toNat)) | _ => Below X5.heap.size X5 X ∧ (SliceI X s (zl (apE f n m) n) (fun j => g (f j).toNat))) (fun s => fun i_ => match i_ with | 0 => pv | 1 => qv | 2 => .tuple #[s, .int .i64 ((apE f n m : Nat) : Int)] | 3 => .tuple #[s, .int .i64 ((apE f n m : Nat) : Int)] | 4 => s | 5 => .int .i64 ((apE f n m : Nat) : Int) | 6 => s | 7 => .int .i64 ((apE f n m : Nat) : Int) | _ => undef) undef A.1 (by kernel_rfl) (by decide) (by decide) (Below.refl _ _) ?_ ?_
  · intro i_ hi_ s a X hf hv hn hS
    match i_, hi_ with
    | 0, _ => exact stepV rfl rfl (execMvB rfl ((hf 0 (by decide)).trans t0)) ⟨s, ⟨_, rfl, rfl⟩, hS, fun _ _ => rfl⟩
    | 1, _ => exact stepV rfl rfl (execMvB rfl ((hf 1 (by decide)).trans t1)) ⟨s, ⟨_, rfl, rfl⟩, hS, fun _ _ => rfl⟩
    | 2, _ =>
      refine stepC rfl rfl (execCall2 Try.func29 (by kernel_rfl) (by kernel_rfl) rfl (hv 0 (by omega) _ rfl _ rfl) (hv 1 (by omega) _ rfl _ rfl)) (I.apply f g n m _ _ X (FI.on hS) (by omega) (FJ.on hS)) fun e w' hh => ?_
      obtain ⟨r_, he, hk, hb⟩ := hh
      refine ⟨_, he, r_, ⟨_, rfl, rfl⟩, ⟨(hS).trans ((hb).mono (hS).size), own_ints hk (ap_fits ((FJ.on hS)).fits)⟩, fun i hi => ?_⟩
      match i, hi with
      | 0, _ => rfl
      | 1, _ => rfl
      | n_ + 2, h_ => omega
    | 3, _ => exact stepV rfl rfl (execMvB rfl (hv 2 (by omega) _ rfl _ rfl)) ⟨s, ⟨_, rfl, rfl⟩, hS, fun _ _ => rfl⟩
    | 4, _ => exact stepV rfl rfl (execExtT rfl (hv 3 (by omega) _ rfl _ rfl) rfl) ⟨s, ⟨_, rfl, rfl⟩, hS, fun _ _ => rfl⟩
    | 5, _ => exact stepV rfl rfl (execExtT rfl (hv 3 (by omega) _ rfl _ rfl) rfl) ⟨s, ⟨_, rfl, rfl⟩, hS, fun _ _ => rfl⟩
    | 6, _ => exact stepV rfl rfl (execAsgB rfl (hv 4 (by omega) _ rfl _ rfl)) ⟨s, ⟨_, rfl, rfl⟩, hS, fun _ _ => rfl⟩
    | 7, _ => exact stepV rfl rfl (execAsgB rfl (hv 5 (by omega) _ rfl _ rfl)) ⟨s, ⟨_, rfl, rfl⟩, hS, fun _ _ => rfl⟩
    | k_ + 8, h_ => exact absurd h_ (by simp)
  rintro v36 a X6 h1 h2 h3 h4 hS
  replace hS : Below X5.heap.size X5 X6 ∧ (SliceI X6 v36 (zl (apE f n m) n) (fun j => g (f j).toNat)) := hS
  obtain ⟨bX, Fv36⟩ := hS
  replace t0 := (h3 0 (by decide)).trans t0
  replace t1 := (h3 1 (by decide)).trans t1
  replace t5 := (h3 5 (by decide)).trans t5
  replace t6 := (h3 6 (by decide)).trans t6
  replace t7 := (h3 7 (by decide)).trans t7
  replace t8 := (h3 8 (by decide)).trans t8
  replace t9 := (h3 9 (by decide)).trans t9
  replace t10 := (h3 10 (by decide)).trans t10
  have t11 : a.eval (.tmp 11) = v36 := h4 6 _ rfl _ rfl
  have t12 : a.eval (.tmp 12) = .int .i64 ((apE f n m : Nat) : Int) := h4 7 _ rfl _ rfl
  replace FI := (FI.on bX)
  replace FJ := (FJ.on bX)
  replace Fv18 := (Fv18.on bX)
  replace Fv24 := (Fv24.on bX)
  replace Fv30 := (Fv30.on bX)
  have ZX6 := bX.size
  replace BW := BW.trans (bX.mono BW.size)
  clear bX
  replace A := (⟨h1, h2.trans A.2⟩ : a.tmps.size = 57 ∧ a.defers = [])
  clear h1 h2 h3 h4
  refine wp_seq ?_
  refine wp_region_sq (σ := Unit) 57 [(0, 39), (1, 40), (2, 41), (3, 42), (4, 43), (5, 44), (6, 45), (7, 46), (8, 47), (9, 48), (10, 49), (11, 50), (12, 51), (13, 52), (14, 53), (15, 54), (16, 55), (17, 56), (18, 4)] (fun j_ s X => match j_ with | 0 => Below X6.heap.size X6 X | 1 => Below X6.heap.size X6 X | 2 => Below X6.heap.size X6 X | 3 => Below X6.heap.size X6 X | 4 => Below X6.heap.size X6 X | 5 => Below X6.heap.size X6 X | 6 => Below X6.heap.size X6 X | 7 => Below X6.heap.size X6 X | 8 => Below X6.heap.size X6 X | 9 => Below X6.heap.size X6 X | 10 => Below X6.heap.size X6 X | 11 => Below X6.heap.size X6 X | 12 => Below X6.heap.size X6 X | 13 => Below X6.heap.size X6 X | 14 => Below X6.heap.size X6 X | 15 => Below X6.heap.size X6 X | 16 => Below X6.heap.size X6 X | 17 => Below X6.heap.size X6 X | 18 => Below X6.heap.size X6 X | _ => Below X6.heap.size X6 X) (fun s => fun i_ => match i_ with | 0 => .int .i64 ((coE f n g m : Nat) : Int) | 1 => .int .i64 ((coE f n g m : Nat) : Int) | 2 => .bool true | 3 => .bool true | 4 => .int .i64 ((apE f n m : Nat) : Int) | 5 => .int .i64 ((apE f n m : Nat) : Int) | 6 => .bool true | 7 => .bool true | 8 => .bool true | 9 => v30 | 10 => v18 | 11 => .bool true | 12 => .bool true | 13 => .bool true | 14 => v36 | 15 => v24 | 16 => .bool true | 17 => .bool true | 18 => .bool true | _ => undef) () A.1 (by kernel_rfl) (by decide) (by decide) (Below.refl _ _) ?_ ?_
  · intro i_ hi_ s a X hf hv hn hS
    match i_, hi_ with
    | 0, _ => exact stepV rfl rfl (execMvB rfl ((hf 10 (by decide)).trans t10)) ⟨s, ⟨_, rfl, rfl⟩, hS, fun _ _ => rfl⟩
    | 1, _ => exact stepV rfl rfl (execMvB rfl ((hf 6 (by decide)).trans t6)) ⟨s, ⟨_, rfl, rfl⟩, hS, fun _ _ => rfl⟩
    | 2, _ => exact stepV rfl rfl (execDec (execEqN (p := coE f n g m) (q := coE f n g m) rfl (hv 0 (by omega) _ rfl _ rfl) (hv 1 (by omega) _ rfl _ rfl)) (decide_eq_true (by omega))) ⟨s, ⟨_, rfl, rfl⟩, hS, fun _ _ => rfl⟩
    | 3, _ => exact stepV rfl rfl (execMvB rfl (hv 2 (by omega) _ rfl _ rfl)) ⟨s, ⟨_, rfl, rfl⟩, hS, fun _ _ => rfl⟩
    | 4, _ => exact stepV rfl (wantedOf rfl (yieldedAt rfl rfl (show a.eval (.tmp 42) = .bool true from (hv 3 (by omega) _ rfl _ rfl)))) (execMvB rfl ((hf 12 (by decide)).trans t12)) ⟨s, ⟨_, rfl, rfl⟩, hS, fun _ _ => rfl⟩
    | 5, _ => exact stepV rfl (wantedOf rfl (yieldedAt rfl rfl (show a.eval (.tmp 42) = .bool true from (hv 3 (by omega) _ rfl _ rfl)))) (execMvB rfl ((hf 8 (by decide)).trans t8)) ⟨s, ⟨_, rfl, rfl⟩, hS, fun _ _ => rfl⟩
    | 6, _ => exact stepV rfl (wantedOf rfl (yieldedAt rfl rfl (show a.eval (.tmp 42) = .bool true from (hv 3 (by omega) _ rfl _ rfl)))) (execDec (execEqN (p := apE f n m) (q := apE f n m) rfl (hv 4 (by omega) _ rfl _ rfl) (hv 5 (by omega) _ rfl _ rfl)) (decide_eq_true (by omega))) ⟨s, ⟨_, rfl, rfl⟩, hS, fun _ _ => rfl⟩
    | 7, _ => exact stepV rfl rfl (execPickT rfl (hv 3 (by omega) _ rfl _ rfl) (hv 6 (by omega) _ rfl _ rfl)) ⟨s, ⟨_, rfl, rfl⟩, hS, fun _ _ => rfl⟩
    | 8, _ => exact stepV rfl rfl (execMvB rfl (hv 7 (by omega) _ rfl _ rfl)) ⟨s, ⟨_, rfl, rfl⟩, hS, fun _ _ => rfl⟩
    | 9, _ => exact stepV rfl (wantedOf rfl (yieldedAt rfl rfl (show a.eval (.tmp 47) = .bool true from (hv 8 (by omega) _ rfl _ rfl)))) (execMvB rfl ((hf 9 (by decide)).trans t9)) ⟨s, ⟨_, rfl, rfl⟩, hS, fun _ _ => rfl⟩
    | 10, _ => exact stepV rfl (wantedOf rfl (yieldedAt rfl rfl (show a.eval (.tmp 47) = .bool true from (hv 8 (by omega) _ rfl _ rfl)))) (execMvB rfl ((hf 5 (by decide)).trans t5)) ⟨s, ⟨_, rfl, rfl⟩, hS, fun _ _ => rfl⟩
    | 11, _ => exact stepC rfl (wantedOf rfl (yieldedAt rfl rfl (show a.eval (.tmp 47) = .bool true from (hv 8 (by omega) _ rfl _ rfl)))) (execCall2 Try.func17 (by kernel_rfl) (by kernel_rfl) rfl (hv 9 (by omega) _ rfl _ rfl) (hv 10 (by omega) _ rfl _ rfl)) (sameP _ _ (zl (coE f n g m) n) _ _ X (Fv30.on hS) (Fv18.on hS) (by intro i hi; rfl) (by first | omega | (have := zl_le (coE f n g m) n; omega) | (have := zl_le (apE f n m) n; omega))) fun e w' hh => ⟨_, hh.1, s, ⟨_, rfl, rfl⟩, (hS).trans ((hh.2).mono (hS).size), fun _ _ => rfl⟩
    | 12, _ => exact stepV rfl rfl (execPickT rfl (hv 8 (by omega) _ rfl _ rfl) (hv 11 (by omega) _ rfl _ rfl)) ⟨s, ⟨_, rfl, rfl⟩, hS, fun _ _ => rfl⟩
    | 13, _ => exact stepV rfl rfl (execMvB rfl (hv 12 (by omega) _ rfl _ rfl)) ⟨s, ⟨_, rfl, rfl⟩, hS, fun _ _ => rfl⟩
    | 14, _ => exact stepV rfl (wantedOf rfl (yieldedAt rfl rfl (show a.eval (.tmp 52) = .bool true from (hv 13 (by omega) _ rfl _ rfl)))) (execMvB rfl ((hf 11 (by decide)).trans t11)) ⟨s, ⟨_, rfl, rfl⟩, hS, fun _ _ => rfl⟩
    | 15, _ => exact stepV rfl (wantedOf rfl (yieldedAt rfl rfl (show a.eval (.tmp 52) = .bool true from (hv 13 (by omega) _ rfl _ rfl)))) (execMvB rfl ((hf 7 (by decide)).trans t7)) ⟨s, ⟨_, rfl, rfl⟩, hS, fun _ _ => rfl⟩
    | 16, _ => exact stepC rfl (wantedOf rfl (yieldedAt rfl rfl (show a.eval (.tmp 52) = .bool true from (hv 13 (by omega) _ rfl _ rfl)))) (execCall2 Try.func17 (by kernel_rfl) (by kernel_rfl) rfl (hv 14 (by omega) _ rfl _ rfl) (hv 15 (by omega) _ rfl _ rfl)) (sameP _ _ (zl (apE f n m) n) _ _ X (Fv36.on hS) (Fv24.on hS) (by intro i hi; rfl) (by first | omega | (have := zl_le (coE f n g m) n; omega) | (have := zl_le (apE f n m) n; omega))) fun e w' hh => ⟨_, hh.1, s, ⟨_, rfl, rfl⟩, (hS).trans ((hh.2).mono (hS).size), fun _ _ => rfl⟩
    | 17, _ => exact stepV rfl rfl (execPickT rfl (hv 13 (by omega) _ rfl _ rfl) (hv 16 (by omega) _ rfl _ rfl)) ⟨s, ⟨_, rfl, rfl⟩, hS, fun _ _ => rfl⟩
    | 18, _ => exact stepV rfl rfl (execAsgB rfl (hv 17 (by omega) _ rfl _ rfl)) ⟨s, ⟨_, rfl, rfl⟩, hS, fun _ _ => rfl⟩
    | k_ + 19, h_ => exact absurd h_ (by simp)
  rintro _ a X7 h1 h2 h3 h4 hS
  replace hS : Below X6.heap.size X6 X7 := hS
  have bX := hS
  clear hS
  have t4 : a.eval (.tmp 4) = .bool true := h4 18 _ rfl _ rfl
  replace FI := (FI.on bX)
  replace FJ := (FJ.on bX)
  replace Fv18 := (Fv18.on bX)
  replace Fv24 := (Fv24.on bX)
  replace Fv30 := (Fv30.on bX)
  replace Fv36 := (Fv36.on bX)
  have ZX7 := bX.size
  replace BW := BW.trans (bX.mono BW.size)
  clear bX
  replace A := (⟨h1, h2.trans A.2⟩ : a.tmps.size = 57 ∧ a.defers = [])
  clear h1 h2 h3 h4
  clear t0 t1 t5 t6 t7 t8 t9 t10 t11 t12
  refine wp_ret ?_
  refine bodyPost_ret (results_tmp rfl _ _ _) A.2 ⟨?_, BW⟩
  show Ending.returned (a.eval (.tmp 4)) = _
  rw [t4]
end Go.Proofs.Ythiakjmjpchckaa.Prm
