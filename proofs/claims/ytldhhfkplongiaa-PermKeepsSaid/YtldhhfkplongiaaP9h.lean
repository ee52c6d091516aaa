import Derived.Test.YtldhhfkplongiaaP9g
namespace Go.Proofs.Ytldhhfkplongiaa.Prm
open Go.RowKit Gf8 Aes By8 Cel Cf Tap Drw
/- What the program's package keeps (Impl); the laws' same, awake; PermChecks, PermMakes, PermPairs over any Impl. Written by tools/mkP9h.py. -/

theorem zl_le (E L : Nat) : zl E L ≤ L := by
  unfold zl
  by_cases h : E = 0
  · rw [if_pos h]; exact Nat.le_refl _
  · rw [if_neg h]; exact Nat.zero_le _
theorem zl_lt {E L j : Nat} (h : j < zl E L) : E = 0 ∧ j < L := by
  unfold zl at h
  by_cases q : E = 0
  · rw [if_pos q] at h; exact ⟨q, h⟩
  · rw [if_neg q] at h; omega
theorem posN_le (g : Nat → Nat) (x : Nat) : ∀ k, posN g x k ≤ k
  | 0 => Nat.le_refl _
  | k + 1 => by
    have := posN_le g x k
    unfold posN
    by_cases q : g k = x
    · rw [if_pos q]; omega
    · rw [if_neg q]; omega
theorem nat_fits {x : Nat} (h : x ≤ 17592186044416) : -9223372036854775808 ≤ (x : Int) ∧ (x : Int) < 9223372036854775808 := by omega
theorem pos_fits {g : Nat → Nat} {n m : Nat} (hn : n ≤ 17592186044416) : ∀ j, j < m → -9223372036854775808 ≤ (fun j => (posN g j n : Int)) j ∧ (fun j => (posN g j n : Int)) j < 9223372036854775808 := fun j _ => nat_fits (by have := posN_le g j n; omega)
theorem drw_fits {g : Nat → Nat} {n m : Nat} (hn : n ≤ 17592186044416) : ∀ j, j < m → -9223372036854775808 ≤ (fun j => (drD n g j : Int)) j ∧ (fun j => (drD n g j : Int)) j < 9223372036854775808 := fun j _ => nat_fits (by have := posN_le (drA n g j) (g (n - 1 - j)) (n - j); unfold drD; omega)
theorem rnk_fits {g : Nat → Nat} {n m : Nat} (hn : n ≤ 17592186044416) : ∀ j, j < m → -9223372036854775808 ≤ (fun j => (rkD g n j : Int)) j ∧ (fun j => (rkD g n j : Int)) j < 9223372036854775808 := fun j _ => nat_fits (by have := posN_le (lf g n j) (g j) (n - j); unfold rkD; omega)
theorem unE_ok {d : Nat → Int} {n : Nat} (h : unE d n = 0) : ∀ k, k < n → gN d k < n - k := fun k hk => by
  unfold unE at h
  by_cases q : fitQ d n n = true
  · have := fitQ_iff.1 q k hk
    show (d k).toNat < n - k
    omega
  · rw [if_neg q] at h; omega
theorem unr_fits {d : Nat → Int} {n : Nat} (hn : n ≤ 17592186044416) : ∀ j, j < zl (unE d n) n → -9223372036854775808 ≤ (fun j => (unr (gN d) j : Int)) j ∧ (fun j => (unr (gN d) j : Int)) j < 9223372036854775808 := fun j hj => nat_fits (by
  obtain ⟨h1, h2⟩ := zl_lt hj
  have := (unr_isP (unE_ok h1)).lt j h2
  omega)
theorem frE_0 {k : Int} {d : Nat → Int} {m : Nat} (h : frE k d m = 0) : 0 ≤ k ∧ m = k.toNat - 1 ∧ ∀ j, j < m → gN d j < k.toNat - j := by
  unfold frE at h
  by_cases q : k < 0
  · rw [if_pos q] at h; omega
  · rw [if_neg q] at h
    by_cases q2 : m = k.toNat - 1 ∧ fitQ d k.toNat m = true
    · refine ⟨by omega, q2.1, fun j hj => ?_⟩
      have := fitQ_iff.1 q2.2 j hj
      show (d j).toNat < k.toNat - j
      omega
    · rw [if_neg q2] at h; omega
theorem from_le {k : Int} {d : Nat → Int} {m : Nat} (hm : m ≤ 17592186043904) : zl (frE k d m) k.toNat ≤ 17592186044416 := by
  by_cases h : frE k d m = 0
  · obtain ⟨h1, h2, _⟩ := frE_0 h
    rw [h, zl_ok]
    omega
  · rw [zl_no h]; omega
theorem from_fits {k : Int} {d : Nat → Int} {m : Nat} (hm : m ≤ 17592186043904) : ∀ j, j < zl (frE k d m) k.toNat → -9223372036854775808 ≤ (fun j => (frA k.toNat (gN d) m j : Int)) j ∧ (fun j => (frA k.toNat (gN d) m j : Int)) j < 9223372036854775808 := fun j hj => nat_fits (by
  obtain ⟨h1, h2⟩ := zl_lt hj
  obtain ⟨h3, h4, h5⟩ := frE_0 h1
  have := (frA_isP (n := k.toNat) (d := gN d) (k := m) (by omega) h5).lt j h2
  omega)
theorem coE_0 {f g : Nat → Int} {n m : Nat} (h : coE f n g m = 0) : pE f n = 0 ∧ pE g m = 0 ∧ n = m := by
  unfold coE at h
  by_cases q : pE f n = 0 ∧ pE g m = 0 ∧ n = m
  · exact q
  · rw [if_neg q] at h; omega
theorem apE_0 {f : Nat → Int} {n m : Nat} (h : apE f n m = 0) : pE f n = 0 ∧ n = m := by
  unfold apE at h
  by_cases q : pE f n = 0 ∧ n = m
  · exact q
  · rw [if_neg q] at h; omega
theorem pE_0 {f : Nat → Int} {n : Nat} (h : pE f n = 0) : okQ f n n = true := by
  by_cases q : okQ f n n = true
  · exact q
  · rw [pE_no q] at h; omega
theorem co_fits {f g : Nat → Int} {n m : Nat} (hg : ∀ j, j < m → -9223372036854775808 ≤ g j ∧ g j < 9223372036854775808) : ∀ j, j < zl (coE f n g m) n → -9223372036854775808 ≤ (fun j => g (f j).toNat) j ∧ (fun j => g (f j).toNat) j < 9223372036854775808 := fun j hj => by
  obtain ⟨h1, h2⟩ := zl_lt hj
  obtain ⟨h3, _, h4⟩ := coE_0 h1
  have := (okQ_iff.1 (pE_0 h3)).1 j h2
  exact hg _ (by omega)
theorem ap_fits {f g : Nat → Int} {n m : Nat} (hg : ∀ j, j < m → -9223372036854775808 ≤ g j ∧ g j < 9223372036854775808) : ∀ j, j < zl (apE f n m) n → -9223372036854775808 ≤ (fun j => g (f j).toNat) j ∧ (fun j => g (f j).toNat) j < 9223372036854775808 := fun j hj => by
  obtain ⟨h1, h2⟩ := zl_lt hj
  obtain ⟨h3, h4⟩ := apE_0 h1
  have := (okQ_iff.1 (pE_0 h3)).1 j h2
  exact hg _ (by omega)
theorem execZ3 {o : Oper} {a : Act} {w : World} (ho : o.op = .buildSlice 22 3 #[(0, .const (.int .i64 0)), (1, .const (.int .i64 0)), (2, .const (.int .i64 0))]) : (execOp a.eval o).run Try.prog w = .ok (.value (.slice (some ⟨w.heap.size, 0, none⟩) 3 3)) (w.alloc (.cells #[.int .i64 0, .int .i64 0, .int .i64 0] 3)) := by
  unfold execOp
  simp only [ho]
  simp [go_sem]
theorem sliceZ3 (X : World) : SliceI (X.alloc (.cells #[.int .i64 0, .int .i64 0, .int .i64 0] 3)) (.slice (some ⟨X.heap.size, 0, none⟩) 3 3) 3 (fun _ => 0) :=
  lit_ints (heapNew X _) (fun j hj => by
    match j, hj with
    | 0, _ => rfl
    | 1, _ => rfl
    | 2, _ => rfl
    | k + 3, h => omega) (fun _ _ => by decide) (by omega)
def aw4 : Nat → Int := fun j => if j = 0 then 1 else if j = 1 then 2 else if j = 2 then 3 else 0
theorem execL4 {o : Oper} {a : Act} {w : World} (ho : o.op = .buildSlice 22 4 #[(0, .const (.int .i64 1)), (1, .const (.int .i64 2)), (2, .const (.int .i64 3)), (3, .const (.int .i64 0))]) : (execOp a.eval o).run Try.prog w = .ok (.value (.slice (some ⟨w.heap.size, 0, none⟩) 4 4)) (w.alloc (.cells #[.int .i64 1, .int .i64 2, .int .i64 3, .int .i64 0] 3)) := by
  unfold execOp
  simp only [ho]
  simp [go_sem]
theorem sliceL4 (X : World) : SliceI (X.alloc (.cells #[.int .i64 1, .int .i64 2, .int .i64 3, .int .i64 0] 3)) (.slice (some ⟨X.heap.size, 0, none⟩) 4 4) 4 aw4 :=
  lit_ints (heapNew X _) (fun j hj => by
    match j, hj with
    | 0, _ => rfl
    | 1, _ => rfl
    | 2, _ => rfl
    | 3, _ => rfl
    | k + 4, h => omega) (fun j hj => by
    match j, hj with
    | 0, _ => decide
    | 1, _ => decide
    | 2, _ => decide
    | 3, _ => decide
    | k + 4, h => omega) (by omega)
theorem awE : frE ((4 : Nat) : Int) (fun _ => 0) 3 = 0 := by decide
theorem awF : ∀ j, j < (((4 : Nat) : Int)).toNat → (frA (((4 : Nat) : Int)).toNat (gN (fun _ => 0)) 3 j : Int) = aw4 j := by decide
theorem one11 : pE (fun j => if j = 0 then 1 else 1) 2 = 110 := by decide
/-- What the program's package keeps: the chapter's words. -/
structure Impl : Prop where
  check : ∀ (f : Nat → Int) (n : Nat) (v : Value) (V : World), SliceI V v n f → n ≤ 17592186044416 →
    Calls Try.prog 15 #[v] V fun e w' => e = .returned (.int .i64 ((pE f n : Nat) : Int)) ∧ Below V.heap.size V w'
  ident : ∀ (k : Int) (V : World), k ≤ 17592186044416 →
    Calls Try.prog 12 #[.int .i64 k] V fun e w' => ∃ r, e = .returned r ∧ w'.ownsRow V.heap.size 3 1 r k.toNat (intsL k.toNat (fun j => (j : Int))) ∧ Below V.heap.size V w'
  bounds : ∀ (k : Int) (V : World), k ≤ 17592186044416 →
    Calls Try.prog 13 #[.int .i64 k] V fun e w' => ∃ r, e = .returned r ∧ w'.ownsRow V.heap.size 3 1 r (k - 1).toNat (intsL (k - 1).toNat (fun j => k - (j : Int))) ∧ Below V.heap.size V w'
  inverse : ∀ (f : Nat → Int) (n : Nat) (v : Value) (V : World), SliceI V v n f → n ≤ 17592186044416 →
    Calls Try.prog 6 #[v] V fun e w' => ∃ r, e = .returned (.tuple #[r, .int .i64 ((pE f n : Nat) : Int)]) ∧ w'.ownsRow V.heap.size 3 1 r (zl (pE f n) n) (intsL (zl (pE f n) n) (fun j => (posN (gN f) j n : Int))) ∧ Below V.heap.size V w'
  draws : ∀ (f : Nat → Int) (n : Nat) (v : Value) (V : World), SliceI V v n f → n ≤ 17592186044416 →
    Calls Try.prog 8 #[v] V fun e w' => ∃ r, e = .returned (.tuple #[r, .int .i64 ((pE f n : Nat) : Int)]) ∧ w'.ownsRow V.heap.size 3 1 r (zl (pE f n) (n - 1)) (intsL (zl (pE f n) (n - 1)) (fun j => (drD n (gN f) j : Int))) ∧ Below V.heap.size V w'
  rank : ∀ (f : Nat → Int) (n : Nat) (v : Value) (V : World), SliceI V v n f → n ≤ 17592186044416 →
    Calls Try.prog 9 #[v] V fun e w' => ∃ r, e = .returned (.tuple #[r, .int .i64 ((pE f n : Nat) : Int)]) ∧ w'.ownsRow V.heap.size 3 1 r (zl (pE f n) n) (intsL (zl (pE f n) n) (fun j => (rkD (gN f) n j : Int))) ∧ Below V.heap.size V w'
  unrank : ∀ (d : Nat → Int) (n : Nat) (v : Value) (V : World), SliceI V v n d → n ≤ 17592186044416 →
    Calls Try.prog 10 #[v] V fun e w' => ∃ r, e = .returned (.tuple #[r, .int .i64 ((unE d n : Nat) : Int)]) ∧ w'.ownsRow V.heap.size 3 1 r (zl (unE d n) n) (intsL (zl (unE d n) n) (fun j => (unr (gN d) j : Int))) ∧ Below V.heap.size V w'
  compose : ∀ (f g : Nat → Int) (n m : Nat) (v u : Value) (V : World), SliceI V v n f → n ≤ 17592186044416 → SliceI V u m g → m ≤ 17592186044416 →
    Calls Try.prog 5 #[v, u] V fun e w' => ∃ r, e = .returned (.tuple #[r, .int .i64 ((coE f n g m : Nat) : Int)]) ∧ w'.ownsRow V.heap.size 3 1 r (zl (coE f n g m) n) (intsL (zl (coE f n g m) n) (fun j => g (f j).toNat)) ∧ Below V.heap.size V w'
  apply : ∀ (f g : Nat → Int) (n m : Nat) (v u : Value) (V : World), SliceI V v n f → n ≤ 17592186044416 → SliceI V u m g →
    Calls Try.prog 7 #[v, u] V fun e w' => ∃ r, e = .returned (.tuple #[r, .int .i64 ((apE f n m : Nat) : Int)]) ∧ w'.ownsRow V.heap.size 3 1 r (zl (apE f n m) n) (intsL (zl (apE f n m) n) (fun j => g (f j).toNat)) ∧ Below V.heap.size V w'
  from_ : ∀ (k : Int) (d : Nat → Int) (m : Nat) (v : Value) (V : World), SliceI V v m d → m ≤ 17592186043904 → k < 9223372036854775808 →
    Calls Try.prog 11 #[.int .i64 k, v] V fun e w' => ∃ r, e = .returned (.tuple #[r, .int .i64 ((frE k d m : Nat) : Int)]) ∧ w'.ownsRow V.heap.size 3 1 r (zl (frE k d m) k.toNat) (intsL (zl (frE k d m) k.toNat) (fun j => (frA k.toNat (gN d) m j : Int))) ∧ Below V.heap.size V w'
set_option maxRecDepth 100000 in
set_option maxHeartbeats 4000000 in
theorem sameP (f g : Nat → Int) (n : Nat) (v u : Value) (V : World) (hv : SliceI V v n f) (hu : SliceI V u n g) (he : ∀ i, i < n → f i = g i) (hn17 : n ≤ 17592186044416) :
    Calls Try.prog 14 #[v, u] V fun e w' => e = .returned (.bool true) ∧ Below V.heap.size V w' := by
  obtain ⟨ia, ic, rfl, -, -, hsh⟩ := id hv.shape
  obtain ⟨ja, jc, rfl, -, -, hsj⟩ := id hu.shape
  have FI := hv
  have FJ := hu
  go_enter Try.func14, Try.ntmps14
  refine wp_seq ?_
  refine wp_region_sqK 26 [(0, 4)] (fun i_ => match i_ with | 0 => .bool false | _ => undef) rfl (by kernel_rfl) (by decide) (by decide) ?_ ?_
  · intro i_ hi_ a hf hv hn
    match i_, hi_ with
    | 0, _ => exact stepV rfl rfl (execAsgB rfl rfl) ⟨⟨_, rfl, rfl⟩, rfl⟩
    | k_ + 1, h_ => exact absurd h_ (by simp)
  intro a h1 h2 h3 h4
  have t0 : a.eval (.tmp 0) = .slice ia n ic := (h3 0 (by decide)).trans rfl
  have t1 : a.eval (.tmp 1) = .slice ja n jc := (h3 1 (by decide)).trans rfl
  have A : a.tmps.size = 26 ∧ a.defers = [] := ⟨h1, h2⟩
  have BW : Below V.heap.size V V := Below.refl _ _
  clear h1 h2 h3 h4
  have BB := BW
  refine wp_seq ?_
  refine wp_seq ?_
  refine wp_region_sq (σ := Unit) 26 [(0, 6), (1, 7), (2, 8), (3, 9), (4, 10)] (fun j_ s X => match j_ with | 0 => Below V.heap.size V X | 1 => Below V.heap.size V X | 2 => Below V.heap.size V X | 3 => Below V.heap.size V X | 4 => Below V.heap.size V X | _ => Below V.heap.size V X) (fun s => fun i_ => match i_ with | 0 => .slice ia n ic | 1 => .int .i64 ((n : Nat) : Int) | 2 => .slice ja n jc | 3 => .int .i64 ((n : Nat) : Int) | 4 => .bool false | _ => undef) () A.1 (by kernel_rfl) (by decide) (by decide) (BB) ?_ ?_
  · intro i_ hi_ s a X hf hv hn hS
    match i_, hi_ with
    | 0, _ => exact stepV rfl rfl (execMvB rfl ((hf 0 (by decide)).trans t0)) ⟨s, ⟨_, rfl, rfl⟩, hS, fun _ _ => rfl⟩
    | 1, _ => exact stepV rfl rfl (execLenI (len := n) rfl (hv 0 (by omega) _ rfl _ rfl) ((FI.on hS)).shp) ⟨s, ⟨_, rfl, rfl⟩, hS, fun _ _ => rfl⟩
    | 2, _ => exact stepV rfl rfl (execMvB rfl ((hf 1 (by decide)).trans t1)) ⟨s, ⟨_, rfl, rfl⟩, hS, fun _ _ => rfl⟩
    | 3, _ => exact stepV rfl rfl (execLenI (len := n) rfl (hv 2 (by omega) _ rfl _ rfl) ((FJ.on hS)).shp) ⟨s, ⟨_, rfl, rfl⟩, hS, fun _ _ => rfl⟩
    | 4, _ => exact stepV rfl rfl (execDec (execNeN (p := n) (q := n) rfl (hv 1 (by omega) _ rfl _ rfl) (hv 3 (by omega) _ rfl _ rfl)) (decide_eq_false (by omega))) ⟨s, ⟨_, rfl, rfl⟩, hS, fun _ _ => rfl⟩
    | k_ + 5, h_ => exact absurd h_ (by simp)
  rintro _ a X1 h1 h2 h3 h4 hS
  clear BB
  replace hS : Below V.heap.size V X1 := hS
  have BB := hS
  clear hS
  replace t0 := (h3 0 (by decide)).trans t0
  replace t1 := (h3 1 (by decide)).trans t1
  have t10 : a.eval (.tmp 10) = .bool false := h4 4 _ rfl _ rfl
  replace A := (⟨h1, h2.trans A.2⟩ : a.tmps.size = 26 ∧ a.defers = [])
  clear h1 h2 h3 h4
  refine wp_cond_false t10 ?_
  refine wp_skip ?_
  clear t10
  refine wp_seq ?_
  refine wp_seq ?_
  refine wp_region_sq (σ := Unit) 26 [(0, 5)] (fun j_ s X => match j_ with | 0 => Below V.heap.size V X | _ => Below V.heap.size V X) (fun s => fun i_ => match i_ with | 0 => .int .i64 ((0 : Nat) : Int) | _ => undef) () A.1 (by kernel_rfl) (by decide) (by decide) (BB) ?_ ?_
  · intro i_ hi_ s a X hf hv hn hS
    match i_, hi_ with
    | 0, _ => exact stepV rfl rfl (execAsgB rfl rfl) ⟨s, ⟨_, rfl, rfl⟩, hS, fun _ _ => rfl⟩
    | k_ + 1, h_ => exact absurd h_ (by simp)
  rintro _ a X3 h1 h2 h3 h4 hS
  clear BB
  replace hS : Below V.heap.size V X3 := hS
  have BB := hS
  clear hS
  replace t0 := (h3 0 (by decide)).trans t0
  replace t1 := (h3 1 (by decide)).trans t1
  have t5 : a.eval (.tmp 5) = .int .i64 ((0 : Nat) : Int) := h4 0 _ rfl _ rfl
  replace A := (⟨h1, h2.trans A.2⟩ : a.tmps.size = 26 ∧ a.defers = [])
  clear h1 h2 h3 h4
  refine wp_block ?_
  refine wp_loop (fun a W => ∃ i : Nat, i ≤ n ∧ (a.tmps.size = 26 ∧ a.defers = []) ∧ a.eval (.tmp 0) = .slice ia n ic ∧ a.eval (.tmp 1) = .slice ja n jc ∧ a.eval (.tmp 5) = .int .i64 ((i : Nat) : Int) ∧ Below V.heap.size V W) (fun a _ => n - (intOf (a.eval (.tmp 5))).toNat) ⟨0, Nat.zero_le _, A, t0, t1, t5, BB⟩ ?_
  clear A t0 t1 t5 BB a
  rintro a XL ⟨i, hi, A, t0, t1, t5, BB⟩
  have e5 := t5
  refine wp_seq ?_
  refine wp_seq ?_
  refine wp_region_sq (σ := Unit) 26 [(0, 11), (1, 12), (2, 13), (3, 14)] (fun j_ s X => match j_ with | 0 => Below V.heap.size V X | 1 => Below V.heap.size V X | 2 => Below V.heap.size V X | 3 => Below V.heap.size V X | _ => Below V.heap.size V X) (fun s => fun i_ => match i_ with | 0 => .int .i64 ((i : Nat) : Int) | 1 => .slice ia n ic | 2 => .int .i64 ((n : Nat) : Int) | 3 => .bool (decide (i < n)) | _ => undef) () A.1 (by kernel_rfl) (by decide) (by decide) (BB) ?_ ?_
  · intro i_ hi_ s a X hf hv hn hS
    match i_, hi_ with
    | 0, _ => exact stepV rfl rfl (execMvB rfl ((hf 5 (by decide)).trans t5)) ⟨s, ⟨_, rfl, rfl⟩, hS, fun _ _ => rfl⟩
    | 1, _ => exact stepV rfl rfl (execMvB rfl ((hf 0 (by decide)).trans t0)) ⟨s, ⟨_, rfl, rfl⟩, hS, fun _ _ => rfl⟩
    | 2, _ => exact stepV rfl rfl (execLenI (len := n) rfl (hv 1 (by omega) _ rfl _ rfl) ((FI.on hS)).shp) ⟨s, ⟨_, rfl, rfl⟩, hS, fun _ _ => rfl⟩
    | 3, _ => exact stepV rfl rfl (execLtW (p := i) (q := n) rfl (hv 0 (by omega) _ rfl _ rfl) (hv 2 (by omega) _ rfl _ rfl)) ⟨s, ⟨_, rfl, rfl⟩, hS, fun _ _ => rfl⟩
    | k_ + 4, h_ => exact absurd h_ (by simp)
  rintro _ a X4 h1 h2 h3 h4 hS
  clear BB
  replace hS : Below V.heap.size V X4 := hS
  have BB := hS
  clear hS
  replace t0 := (h3 0 (by decide)).trans t0
  replace t1 := (h3 1 (by decide)).trans t1
  replace t5 := (h3 5 (by decide)).trans t5
  have t14 : a.eval (.tmp 14) = .bool (decide (i < n)) := h4 3 _ rfl _ rfl
  replace A := (⟨h1, h2.trans A.2⟩ : a.tmps.size = 26 ∧ a.defers = [])
  clear h1 h2 h3 h4
  by_cases hlt : i < n
  · rw [decide_eq_true hlt] at t14
    refine wp_cond_true t14 ?_
    refine wp_skip ?_
    clear t14
    obtain ⟨ib, io, rfl, hib, hcell⟩ := hsh (by omega)
    obtain ⟨jb, jo, rfl, hjb, hcelj⟩ := hsj (by omega)
    have cI : ∀ X, Below V.heap.size V X → X.cell? ⟨ib, io + i, none⟩ = some (.int .i64 (f i)) := fun X hX => by rw [cell_below hX hib]; exact hcell i hlt
    have cJ : ∀ X, Below V.heap.size V X → X.cell? ⟨jb, jo + i, none⟩ = some (.int .i64 (f i)) := fun X hX => by rw [cell_below hX hjb, he i hlt]; exact hcelj i hlt
    refine wp_seq ?_
    refine wp_block ?_
    refine wp_seq ?_
    refine wp_region_detA 26 [(0, 17), (1, 18), (2, 19), (3, 20), (4, 21), (5, 22), (6, 23), (7, 24), (8, 25)] (fun i_ => match i_ with | 0 => .slice (some ⟨ib, io, none⟩) n ic | 1 => .int .i64 ((i : Nat) : Int) | 2 => .pointer (some ⟨ib, io + i, none⟩) | 3 => .int .i64 (f i) | 4 => .slice (some ⟨jb, jo, none⟩) n jc | 5 => .int .i64 ((i : Nat) : Int) | 6 => .pointer (some ⟨jb, jo + i, none⟩) | 7 => .int .i64 (f i) | 8 => .bool false | _ => undef) (fun _ X => Below V.heap.size V X) (by kernel_rfl) (by kernel_rfl) A.1 (by kernel_rfl) (by decide) (by decide) BB.drew ?_ ?_
    · intro i_ hi_ l_ a X hl_ hf hdep hl2 hcl hno hT
      match i_, hi_ with
      | 0, _ => exact stepV rfl rfl (execMvB rfl ((hf 0 (by decide)).trans t0)) ⟨⟨_, rfl, rfl⟩, hT⟩
      | 1, _ => exact stepV rfl rfl (execMvB rfl ((hf 5 (by decide)).trans t5)) ⟨⟨_, rfl, rfl⟩, hT⟩
      | 2, _ => exact stepV rfl rfl (execIdxN (k := i) rfl (hdep _ rfl 0 rfl _ rfl _ rfl) (hdep _ rfl 1 rfl _ rfl _ rfl) hlt) ⟨⟨_, rfl, rfl⟩, hT⟩
      | 3, _ => exact stepV rfl rfl (execLd3 rfl (hdep _ rfl 2 rfl _ rfl _ rfl) (cI X hT)) ⟨⟨_, rfl, rfl⟩, hT⟩
      | 4, _ => exact stepV rfl rfl (execMvB rfl ((hf 1 (by decide)).trans t1)) ⟨⟨_, rfl, rfl⟩, hT⟩
      | 5, _ => exact stepV rfl rfl (execMvB rfl ((hf 5 (by decide)).trans t5)) ⟨⟨_, rfl, rfl⟩, hT⟩
      | 6, _ => exact stepV rfl rfl (execIdxN (k := i) rfl (hdep _ rfl 4 rfl _ rfl _ rfl) (hdep _ rfl 5 rfl _ rfl _ rfl) hlt) ⟨⟨_, rfl, rfl⟩, hT⟩
      | 7, _ => exact stepV rfl rfl (execLd3 rfl (hdep _ rfl 6 rfl _ rfl _ rfl) (cJ X hT)) ⟨⟨_, rfl, rfl⟩, hT⟩
      | 8, _ => exact stepV rfl rfl (execNeI rfl (hdep _ rfl 3 rfl _ rfl _ rfl) (hdep _ rfl 7 rfl _ rfl _ rfl)) ⟨⟨_, rfl, rfl⟩, hT⟩
      | k_ + 9, h_ => exact absurd h_ (by simp)
    intro l_ a X6 h1 h2 h3 h4 hall hT
    clear hall
    clear BB
    have BB := hT
    clear hT
    replace t0 := (h3 0 (by decide)).trans t0
    replace t1 := (h3 1 (by decide)).trans t1
    replace t5 := (h3 5 (by decide)).trans t5
    have t25 : a.eval (.tmp 25) = .bool false := h4 (8, 25) (by decide)
    replace A := (⟨h1, h2.trans A.2⟩ : a.tmps.size = 26 ∧ a.defers = [])
    clear h1 h2 h3 h4
    refine wp_cond_false t25 ?_
    refine wp_skip ?_
    clear t25
    refine wp_region_sq (σ := Unit) 26 [(0, 15), (1, 16), (2, 5)] (fun j_ s X => match j_ with | 0 => Below V.heap.size V X | 1 => Below V.heap.size V X | 2 => Below V.heap.size V X | _ => Below V.heap.size V X) (fun s => fun i_ => match i_ with | 0 => .int .i64 ((i : Nat) : Int) | 1 => .int .i64 ((i + 1 : Nat) : Int) | 2 => .int .i64 ((i + 1 : Nat) : Int) | _ => undef) () A.1 (by kernel_rfl) (by decide) (by decide) (BB) ?_ ?_
    · intro i_ hi_ s a X hf hv hn hS
      match i_, hi_ with
      | 0, _ => exact stepV rfl rfl (execMvB rfl ((hn 2 (by omega) _ rfl _ rfl).trans t5)) ⟨s, ⟨_, rfl, rfl⟩, hS, fun _ _ => rfl⟩
      | 1, _ => exact stepV rfl rfl (execAd8 (p := i) (q := 1) rfl (hv 0 (by omega) _ rfl _ rfl) rfl (by omega)) ⟨s, ⟨_, rfl, rfl⟩, hS, fun _ _ => rfl⟩
      | 2, _ => exact stepV rfl rfl (execAsgB rfl (hv 1 (by omega) _ rfl _ rfl)) ⟨s, ⟨_, rfl, rfl⟩, hS, fun _ _ => rfl⟩
      | k_ + 3, h_ => exact absurd h_ (by simp)
    rintro _ a X5 h1 h2 h3 h4 hS
    clear BB
    replace hS : Below V.heap.size V X5 := hS
    have BB := hS
    clear hS
    replace t0 := (h3 0 (by decide)).trans t0
    replace t1 := (h3 1 (by decide)).trans t1
    replace t5 : a.eval (.tmp 5) = .int .i64 ((i + 1 : Nat) : Int) := h4 2 _ rfl _ rfl
    replace A := (⟨h1, h2.trans A.2⟩ : a.tmps.size = 26 ∧ a.defers = [])
    clear h1 h2 h3 h4
    exact ⟨⟨i + 1, hlt, A, t0, t1, t5, BB⟩, by show n - (intOf (a.eval (.tmp 5))).toNat < n - (intOf (Act.eval _ (.tmp 5))).toNat; rw [t5, e5]; show n - (i + 1) < n - i; omega⟩
  · rw [decide_eq_false hlt] at t14
    refine wp_cond_false t14 ?_
    refine wp_exit ?_
    first | refine exit_in ?_ | refine exit_then (exit_in ?_) | refine exit_then (exit_then (exit_in ?_))
    clear t14
    refine wp_seq ?_
    refine wp_region_sq (σ := Unit) 26 [(0, 4)] (fun j_ s X => match j_ with | 0 => Below V.heap.size V X | _ => Below V.heap.size V X) (fun s => fun i_ => match i_ with | 0 => .bool true | _ => undef) () A.1 (by kernel_rfl) (by decide) (by decide) (BB) ?_ ?_
    · intro i_ hi_ s a X hf hv hn hS
      match i_, hi_ with
      | 0, _ => exact stepV rfl rfl (execAsgB rfl rfl) ⟨s, ⟨_, rfl, rfl⟩, hS, fun _ _ => rfl⟩
      | k_ + 1, h_ => exact absurd h_ (by simp)
    rintro _ a X8 h1 h2 h3 h4 hS
    clear BB
    replace hS : Below V.heap.size V X8 := hS
    have BB := hS
    clear hS
    have t4 : a.eval (.tmp 4) = .bool true := h4 0 _ rfl _ rfl
    replace A := (⟨h1, h2.trans A.2⟩ : a.tmps.size = 26 ∧ a.defers = [])
    clear h1 h2 h3 h4
    clear t0 t1 t5
    refine wp_ret ?_
    repeat (first | refine ret_in ?_ | refine ret_then ?_)
    refine bodyPost_ret (results_tmp rfl _ _ _) A.2 ⟨?_, BB⟩
    show Ending.returned (a.eval (.tmp 4)) = _
    rw [t4]
set_option maxRecDepth 100000 in
set_option maxHeartbeats 4000000 in
/-- The laws' awake. -/
theorem awake11 (I : Impl) (V : World) :
    Calls Try.prog 4 #[] V fun e w' => e = .returned (.bool true) ∧ Below V.heap.size V w' := by
  go_enter Try.func4, Try.ntmps4
  refine wp_seq ?_
  refine wp_region_sqK 15 [(0, 0)] (fun i_ => match i_ with | 0 => .bool false | _ => undef) rfl (by kernel_rfl) (by decide) (by decide) ?_ ?_
  · intro i_ hi_ a hf hv hn
    match i_, hi_ with
    | 0, _ => exact stepV rfl rfl (execAsgB rfl rfl) ⟨⟨_, rfl, rfl⟩, rfl⟩
    | k_ + 1, h_ => exact absurd h_ (by simp)
  intro a h1 h2 h3 h4
  have A : a.tmps.size = 15 ∧ a.defers = [] := ⟨h1, h2⟩
  have BW : Below V.heap.size V V := Below.refl _ _
  clear h1 h2 h3 h4
  refine wp_seq ?_
  refine wp_region_sq (σ := Nat × Value) 15 [(0, 4), (1, 5), (2, 3), (3, 6), (4, 7), (5, 1), (6, 2)] (fun j_ s X => match j_ with | 0 => Below V.heap.size V X | 1 => Below V.heap.size V X ∧ (SliceI X (.slice (some ⟨s.1, 0, none⟩) 3 3) (3) (fun _ => 0)) | 2 => Below V.heap.size V X ∧ (SliceI X (.slice (some ⟨s.1, 0, none⟩) 3 3) (3) (fun _ => 0)) ∧ (SliceI X s.2 (zl (frE (((4 : Nat) : Int)) (fun _ => 0) 3) ((((4 : Nat) : Int)).toNat)) (fun j => (frA (((4 : Nat) : Int)).toNat (gN (fun _ => 0)) 3 j : Int))) | 3 => Below V.heap.size V X ∧ (SliceI X (.slice (some ⟨s.1, 0, none⟩) 3 3) (3) (fun _ => 0)) ∧ (SliceI X s.2 (zl (frE (((4 : Nat) : Int)) (fun _ => 0) 3) ((((4 : Nat) : Int)).toNat)) (fun j => (frA (((4 : Nat) : Int)).toNat (gN (fun _ => 0)) 3 j : Int))) | 4 => Below V.heap.size V X ∧ (SliceI X (.slice (some ⟨s.1, 0, none⟩) 3 3) (3) (fun _ => 0)) ∧ (SliceI X s.2 (zl (frE (((4 : Nat) : Int)) (fun _ => 0) 3) ((((4 : Nat) : Int)).toNat)) (fun j => (frA (((4 : Nat) : Int)).toNat (gN (fun _ => 0)) 3 j : Int))) | 5 => Below V.heap.size V X ∧ (SliceI X (.slice (some ⟨s.1, 0, none⟩) 3 3) (3) (fun _ => 0)) ∧ (SliceI X s.2 (zl (frE (((4 : Nat) : Int)) (fun _ => 0) 3) ((((4 : Nat) : Int)).toNat)) (fun j => (frA (((4 : Nat) : Int)).toNat (gN (fun _ => 0)) 3 j : Int))) | 6 => Below V.heap.size V X ∧ (SliceI X (.slice (some ⟨s.1, 0, none⟩) 3 3) (3) (fun _ => 0)) ∧ (SliceI X s.2 (zl (frE (((4 : Nat) : Int)) (fun _ => 0) 3) ((((4 : Nat) : Int)).toNat)) (fun j => (frA (((4 : Nat) : Int)).toNat (gN (fun _ => 0)) 3 j : Int))) | _ => Below V.heap.size V X ∧ (SliceI X (.slice (some ⟨s.1, 0, none⟩) 3 3) (3) (fun _ => 0)) ∧ (SliceI X s.2 (zl (frE (((4 : Nat) : Int)) (fun _ => 0) 3) ((((4 : Nat) : Int)).toNat)) (fun j => (frA (((4 : Nat) : Int)).toNat (gN (fun _ => 0)) 3 j : Int)))) (fun s => fun i_ => match i_ with | 0 => .slice (some ⟨s.1, 0, none⟩) 3 3 | 1 => .tuple #[s.2, .int .i64 ((frE (((4 : Nat) : Int)) (fun _ => 0) 3 : Nat) : Int)] | 2 => .tuple #[s.2, .int .i64 ((frE (((4 : Nat) : Int)) (fun _ => 0) 3 : Nat) : Int)] | 3 => s.2 | 4 => .int .i64 ((frE (((4 : Nat) : Int)) (fun _ => 0) 3 : Nat) : Int) | 5 => s.2 | 6 => .int .i64 ((frE (((4 : Nat) : Int)) (fun _ => 0) 3 : Nat) : Int) | _ => undef) (0, undef) A.1 (by kernel_rfl) (by decide) (by decide) (Below.refl _ _) ?_ ?_
  · intro i_ hi_ s a X hf hv hn hS
    match i_, hi_ with
    | 0, _ =>
      refine stepV rfl rfl (execZ3 rfl) ⟨(X.heap.size, s.2), ⟨_, rfl, rfl⟩, ⟨(hS).trans (((belNew X _)).mono (hS).size), sliceZ3 X⟩, fun i hi => ?_⟩
      omega
    | 1, _ =>
      refine stepC rfl rfl (execCall2 Try.func11 (by kernel_rfl) (by kernel_rfl) rfl rfl (hv 0 (by omega) _ rfl _ rfl)) (I.from_ (((4 : Nat) : Int)) (fun _ => 0) 3 _ X hS.2 (by decide) (by omega)) fun e w' hh => ?_
      obtain ⟨r_, he, hk, hb⟩ := hh
      refine ⟨_, he, (s.1, r_), ⟨_, rfl, rfl⟩, ⟨(hS.1).trans ((hb).mono (hS.1).size), (hS.2.on hb), own_ints hk (from_fits (by decide))⟩, fun i hi => ?_⟩
      match i, hi with
      | 0, _ => rfl
      | n_ + 1, h_ => omega
    | 2, _ => exact stepV rfl rfl (execMvB rfl (hv 1 (by omega) _ rfl _ rfl)) ⟨s, ⟨_, rfl, rfl⟩, hS, fun _ _ => rfl⟩
    | 3, _ => exact stepV rfl rfl (execExtT rfl (hv 2 (by omega) _ rfl _ rfl) rfl) ⟨s, ⟨_, rfl, rfl⟩, hS, fun _ _ => rfl⟩
    | 4, _ => exact stepV rfl rfl (execExtT rfl (hv 2 (by omega) _ rfl _ rfl) rfl) ⟨s, ⟨_, rfl, rfl⟩, hS, fun _ _ => rfl⟩
    | 5, _ => exact stepV rfl rfl (execAsgB rfl (hv 3 (by omega) _ rfl _ rfl)) ⟨s, ⟨_, rfl, rfl⟩, hS, fun _ _ => rfl⟩
    | 6, _ => exact stepV rfl rfl (execAsgB rfl (hv 4 (by omega) _ rfl _ rfl)) ⟨s, ⟨_, rfl, rfl⟩, hS, fun _ _ => rfl⟩
    | k_ + 7, h_ => exact absurd h_ (by simp)
  rintro ⟨g4, v5⟩ a X1 h1 h2 h3 h4 hS
  replace hS : Below V.heap.size V X1 ∧ (SliceI X1 (.slice (some ⟨g4, 0, none⟩) 3 3) (3) (fun _ => 0)) ∧ (SliceI X1 v5 (zl (frE (((4 : Nat) : Int)) (fun _ => 0) 3) ((((4 : Nat) : Int)).toNat)) (fun j => (frA (((4 : Nat) : Int)).toNat (gN (fun _ => 0)) 3 j : Int))) := hS
  obtain ⟨bX, Fg4, Fv5⟩ := hS
  have t1 : a.eval (.tmp 1) = v5 := h4 5 _ rfl _ rfl
  have t2 : a.eval (.tmp 2) = .int .i64 ((frE (((4 : Nat) : Int)) (fun _ => 0) 3 : Nat) : Int) := h4 6 _ rfl _ rfl
  have ZX1 := bX.size
  replace BW := BW.trans (bX.mono BW.size)
  clear bX
  replace A := (⟨h1, h2.trans A.2⟩ : a.tmps.size = 15 ∧ a.defers = [])
  clear h1 h2 h3 h4
  rw [awE, zl_ok] at Fv5
  rw [awE] at t2
  replace Fv5 := Fv5.cg (g := aw4) awF
  refine wp_seq ?_
  refine wp_region_sq (σ := Nat) 15 [(0, 8), (1, 9), (2, 10), (3, 11), (4, 12), (5, 13), (6, 14), (7, 0)] (fun j_ s X => match j_ with | 0 => Below X1.heap.size X1 X | 1 => Below X1.heap.size X1 X | 2 => Below X1.heap.size X1 X | 3 => Below X1.heap.size X1 X | 4 => Below X1.heap.size X1 X | 5 => Below X1.heap.size X1 X ∧ (SliceI X (.slice (some ⟨s, 0, none⟩) 4 4) (4) (aw4)) | 6 => Below X1.heap.size X1 X ∧ (SliceI X (.slice (some ⟨s, 0, none⟩) 4 4) (4) (aw4)) | 7 => Below X1.heap.size X1 X ∧ (SliceI X (.slice (some ⟨s, 0, none⟩) 4 4) (4) (aw4)) | _ => Below X1.heap.size X1 X ∧ (SliceI X (.slice (some ⟨s, 0, none⟩) 4 4) (4) (aw4))) (fun s => fun i_ => match i_ with | 0 => .int .i64 ((0 : Nat) : Int) | 1 => .bool true | 2 => .bool true | 3 => v5 | 4 => .slice (some ⟨s, 0, none⟩) 4 4 | 5 => .bool true | 6 => .bool true | 7 => .bool true | _ => undef) 0 A.1 (by kernel_rfl) (by decide) (by decide) (Below.refl _ _) ?_ ?_
  · intro i_ hi_ s a X hf hv hn hS
    match i_, hi_ with
    | 0, _ => exact stepV rfl rfl (execMvB rfl ((hf 2 (by decide)).trans t2)) ⟨s, ⟨_, rfl, rfl⟩, hS, fun _ _ => rfl⟩
    | 1, _ => exact stepV rfl rfl (execDec (execEqE (p := 0) (q := 0) rfl (hv 0 (by omega) _ rfl _ rfl) rfl) (decide_eq_true (by decide))) ⟨s, ⟨_, rfl, rfl⟩, hS, fun _ _ => rfl⟩
    | 2, _ => exact stepV rfl rfl (execMvB rfl (hv 1 (by omega) _ rfl _ rfl)) ⟨s, ⟨_, rfl, rfl⟩, hS, fun _ _ => rfl⟩
    | 3, _ => exact stepV rfl (wantedOf rfl (yieldedAt rfl rfl (show a.eval (.tmp 10) = .bool true from (hv 2 (by omega) _ rfl _ rfl)))) (execMvB rfl ((hf 1 (by decide)).trans t1)) ⟨s, ⟨_, rfl, rfl⟩, hS, fun _ _ => rfl⟩
    | 4, _ =>
      refine stepV rfl (wantedOf rfl (yieldedAt rfl rfl (show a.eval (.tmp 10) = .bool true from (hv 2 (by omega) _ rfl _ rfl)))) (execL4 rfl) ⟨X.heap.size, ⟨_, rfl, rfl⟩, ⟨(hS).trans (((belNew X _)).mono (hS).size), sliceL4 X⟩, fun i hi => ?_⟩
      match i, hi with
      | 0, _ => rfl
      | 1, _ => rfl
      | 2, _ => rfl
      | 3, _ => rfl
      | n_ + 4, h_ => omega
    | 5, _ => exact stepC rfl (wantedOf rfl (yieldedAt rfl rfl (show a.eval (.tmp 10) = .bool true from (hv 2 (by omega) _ rfl _ rfl)))) (execCall2 Try.func14 (by kernel_rfl) (by kernel_rfl) rfl (hv 3 (by omega) _ rfl _ rfl) (hv 4 (by omega) _ rfl _ rfl)) (sameP _ _ (4) _ _ X (Fv5.on hS.1) hS.2 (by intro i hi; rfl) (by decide)) fun e w' hh => ⟨_, hh.1, s, ⟨_, rfl, rfl⟩, ⟨(hS.1).trans ((hh.2).mono (hS.1).size), (hS.2.on hh.2)⟩, fun _ _ => rfl⟩
    | 6, _ => exact stepV rfl rfl (execPickT rfl (hv 2 (by omega) _ rfl _ rfl) (hv 5 (by omega) _ rfl _ rfl)) ⟨s, ⟨_, rfl, rfl⟩, hS, fun _ _ => rfl⟩
    | 7, _ => exact stepV rfl rfl (execAsgB rfl (hv 6 (by omega) _ rfl _ rfl)) ⟨s, ⟨_, rfl, rfl⟩, hS, fun _ _ => rfl⟩
    | k_ + 8, h_ => exact absurd h_ (by simp)
  rintro g12 a X2 h1 h2 h3 h4 hS
  replace hS : Below X1.heap.size X1 X2 ∧ (SliceI X2 (.slice (some ⟨g12, 0, none⟩) 4 4) (4) (aw4)) := hS
  obtain ⟨bX, Fg12⟩ := hS
  have t0 : a.eval (.tmp 0) = .bool true := h4 7 _ rfl _ rfl
  replace Fv5 := (Fv5.on bX)
  have ZX2 := bX.size
  replace BW := BW.trans (bX.mono BW.size)
  clear bX
  replace A := (⟨h1, h2.trans A.2⟩ : a.tmps.size = 15 ∧ a.defers = [])
  clear h1 h2 h3 h4
  clear t1 t2
  refine wp_ret ?_
  refine bodyPost_ret (results_tmp rfl _ _ _) A.2 ⟨?_, BW⟩
  show Ending.returned (a.eval (.tmp 0)) = _
  rw [t0]
end Go.Proofs.Ytldhhfkplongiaa.Prm
