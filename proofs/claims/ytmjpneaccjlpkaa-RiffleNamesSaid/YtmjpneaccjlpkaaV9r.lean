import Derived.Test.YtmjpneaccjlpkaaV9q
namespace Go.Proofs.Ytmjpneaccjlpkaa.Tap
open Go.RowKit Gf8 Aes By8 Cel Cf
/- The program's pieces. Written by tools/mkV9r.py. -/

set_option maxRecDepth 100000 in
set_option maxHeartbeats 4000000 in
theorem pieces_any (f : Nat → Nat) (len n : Nat) (v : Value) (V : World) (hv : SliceN V v len f) (hl : len ≤ 140737488351232) (hn0 : 0 < n) (hn : n ≤ 64) (q : Nat) (hq : len / n = q) :
  Calls Try.prog 40 #[v, .int .i64 (n : Int)] V fun e w' => ∃ r x, e = .returned r ∧ w'.ownsRow V.heap.size 23 1 r n (lL x n) ∧ Fam V.heap.size n x (fun _ => q) (fun i j => f (i * q + j)) w' ∧ Below V.heap.size V w' := by
 obtain ⟨ao, cap, rfl, hcl, _⟩ := id hv.shape
 have hql : q ≤ len := by rw [← hq]; exact Nat.div_le_self _ _
 go_enter Try.func40, Try.ntmps40
 refine wp_seq ?_
 refine wp_region_sqK 34 [(0, 4)] (fun i_ => match i_ with | 0 => .slice none 0 0 | _ => undef) rfl (by kernel_rfl) (by decide) (by decide) ?_ ?_
 ·intro i_ hi_ a hf hv hn
  match i_, hi_ with
  | 0, _ => exact stepV rfl rfl (execAsgB rfl rfl) ⟨⟨_, rfl, rfl⟩, rfl⟩
  | k_ + 1, h_ => exact absurd h_ (by simp)
 intro a h1 h2 h3 h4
 have t0 : a.eval (.tmp 0) = .slice ao len cap := (h3 0 (by decide)).trans rfl
 have t1 : a.eval (.tmp 1) = .int .i64 ((n : Nat) : Int) := (h3 1 (by decide)).trans rfl
 have A : a.tmps.size = 34 ∧ a.defers = [] := ⟨h1, h2⟩
 have BW : Below V.heap.size V V := Below.refl _ _
 clear h1 h2 h3 h4
 have BB := BW
 refine wp_seq ?_
 refine wp_region_sq (σ := Unit) 34 [(0, 8), (1, 9), (2, 10), (3, 11), (4, 5)] (fun j_ s X => match j_ with | 0 => Below V.heap.size V X | 1 => Below V.heap.size V X | 2 => Below V.heap.size V X | 3 => Below V.heap.size V X | 4 => Below V.heap.size V X | _ => Below V.heap.size V X) (fun s => fun i_ => match i_ with | 0 => .slice ao len cap | 1 => .int .i64 ((len : Nat) : Int) | 2 => .int .i64 ((n : Nat) : Int) | 3 => .int .i64 ((q : Nat) : Int) | 4 => .int .i64 ((q : Nat) : Int) | _ => undef) () A.1 (by kernel_rfl) (by decide) (by decide) (BB) ?_ ?_
 ·intro i_ hi_ s a X hf hv hn hS
  match i_, hi_ with
  | 0, _ => exact stepV rfl rfl (execMvB rfl ((hf 0 (by decide)).trans t0)) ⟨s, ⟨_, rfl, rfl⟩, hS, fun _ _ => rfl⟩
  | 1, _ => exact stepV rfl rfl (execLenV (len := len) rfl (hv 0 (by omega) _ rfl _ rfl) ⟨_, _, rfl⟩) ⟨s, ⟨_, rfl, rfl⟩, hS, fun _ _ => rfl⟩
  | 2, _ => exact stepV rfl rfl (execMvB rfl ((hf 1 (by decide)).trans t1)) ⟨s, ⟨_, rfl, rfl⟩, hS, fun _ _ => rfl⟩
  | 3, _ => exact stepV rfl rfl (hq ▸ execQuoN (p := len) (q := n) rfl (hv 1 (by omega) _ rfl _ rfl) (hv 2 (by omega) _ rfl _ rfl) (by omega) (by omega)) ⟨s, ⟨_, rfl, rfl⟩, hS, fun _ _ => rfl⟩
  | 4, _ => exact stepV rfl rfl (execAsgB rfl (hv 3 (by omega) _ rfl _ rfl)) ⟨s, ⟨_, rfl, rfl⟩, hS, fun _ _ => rfl⟩
  | k_ + 5, h_ => exact absurd h_ (by simp)
 rintro _ a X1 h1 h2 h3 h4 hS
 clear BB
 replace hS : Below V.heap.size V X1 := hS
 have BB := hS
 clear hS
 replace t0 := (h3 0 (by decide)).trans t0
 replace t1 := (h3 1 (by decide)).trans t1
 have t5 : a.eval (.tmp 5) = .int .i64 ((q : Nat) : Int) := h4 4 _ rfl _ rfl
 replace A := (⟨h1, h2.trans A.2⟩ : a.tmps.size = 34 ∧ a.defers = [])
 clear h1 h2 h3 h4
 refine wp_seq ?_
 refine wp_region_sq (σ := Nat) 34 [(0, 12), (1, 13), (2, 6)] (fun j_ s X => match j_ with | 0 => Below V.heap.size V X | 1 => Below V.heap.size V X | 2 => Below V.heap.size V X ∧ (LiR s n 0 (fun _ => undef) X) ∧ (Fam V.heap.size 0 (fun _ => undef) (fun _ => q) (fun i j => f (i * q + j)) X) ∧ (V.heap.size ≤ s) | _ => Below V.heap.size V X ∧ (LiR s n 0 (fun _ => undef) X) ∧ (Fam V.heap.size 0 (fun _ => undef) (fun _ => q) (fun i j => f (i * q + j)) X) ∧ (V.heap.size ≤ s)) (fun s => fun i_ => match i_ with | 0 => .int .i64 ((n : Nat) : Int) | 1 => .slice (some ⟨s, 0, none⟩) n n | 2 => .slice (some ⟨s, 0, none⟩) n n | _ => undef) 0 A.1 (by kernel_rfl) (by decide) (by decide) (BB) ?_ ?_
 ·intro i_ hi_ s a X hf hv hn hS
  match i_, hi_ with
  | 0, _ => exact stepV rfl rfl (execMvB rfl ((hf 1 (by decide)).trans t1)) ⟨s, ⟨_, rfl, rfl⟩, hS, fun _ _ => rfl⟩
  | 1, _ =>
   refine stepV rfl rfl (execMkL rfl (hv 0 (by omega) _ rfl _ rfl) (hv 0 (by omega) _ rfl _ rfl) (by omega)) ⟨X.heap.size, ⟨_, rfl, rfl⟩, ⟨(hS).trans (((belNew X _)).mono (hS).size), LiR.begin X n _, Fam.none _ _ _ _ _, (hS).size⟩, fun i hi => ?_⟩
   match i, hi with
   | 0, _ => rfl
   | n_ + 1, h_ => omega
  | 2, _ => exact stepV rfl rfl (execAsgB rfl (hv 1 (by omega) _ rfl _ rfl)) ⟨s, ⟨_, rfl, rfl⟩, hS, fun _ _ => rfl⟩
  | k_ + 3, h_ => exact absurd h_ (by simp)
 rintro g6 a X2 h1 h2 h3 h4 hS
 clear BB
 replace hS : Below V.heap.size V X2 ∧ (LiR g6 n 0 (fun _ => undef) X2) ∧ (Fam V.heap.size 0 (fun _ => undef) (fun _ => q) (fun i j => f (i * q + j)) X2) ∧ (V.heap.size ≤ g6) := hS
 obtain ⟨BB, FR, FF, Fge6⟩ := hS
 replace t0 := (h3 0 (by decide)).trans t0
 replace t1 := (h3 1 (by decide)).trans t1
 replace t5 := (h3 5 (by decide)).trans t5
 have t6 : a.eval (.tmp 6) = .slice (some ⟨g6, 0, none⟩) n n := h4 2 _ rfl _ rfl
 replace A := (⟨h1, h2.trans A.2⟩ : a.tmps.size = 34 ∧ a.defers = [])
 clear h1 h2 h3 h4
 refine wp_seq ?_
 refine wp_seq ?_
 refine wp_region_sq (σ := Unit) 34 [(0, 14), (1, 15), (2, 16)] (fun j_ s X => match j_ with | 0 => Below V.heap.size V X ∧ (LiR g6 n 0 (fun _ => undef) X) ∧ (Fam V.heap.size 0 (fun _ => undef) (fun _ => q) (fun i j => f (i * q + j)) X) ∧ (V.heap.size ≤ g6) | 1 => Below V.heap.size V X ∧ (LiR g6 n 0 (fun _ => undef) X) ∧ (Fam V.heap.size 0 (fun _ => undef) (fun _ => q) (fun i j => f (i * q + j)) X) ∧ (V.heap.size ≤ g6) | 2 => Below V.heap.size V X ∧ (LiR g6 n 0 (fun _ => undef) X) ∧ (Fam V.heap.size 0 (fun _ => undef) (fun _ => q) (fun i j => f (i * q + j)) X) ∧ (V.heap.size ≤ g6) | _ => Below V.heap.size V X ∧ (LiR g6 n 0 (fun _ => undef) X) ∧ (Fam V.heap.size 0 (fun _ => undef) (fun _ => q) (fun i j => f (i * q + j)) X) ∧ (V.heap.size ≤ g6)) (fun s => fun i_ => match i_ with | 0 => .slice (some ⟨g6, 0, none⟩) n n | 1 => .int .i64 ((n : Nat) : Int) | 2 => .int .i64 ((0 : Nat) : Int) | _ => undef) () A.1 (by kernel_rfl) (by decide) (by decide) ⟨BB, FR, FF, Fge6⟩ ?_ ?_
 ·intro i_ hi_ s a X hf hv hn hS
  match i_, hi_ with
  | 0, _ => exact stepV rfl rfl (execMvB rfl ((hf 6 (by decide)).trans t6)) ⟨s, ⟨_, rfl, rfl⟩, hS, fun _ _ => rfl⟩
  | 1, _ => exact stepV rfl rfl (execLenL (len := n) rfl (hv 0 (by omega) _ rfl _ rfl)) ⟨s, ⟨_, rfl, rfl⟩, hS, fun _ _ => rfl⟩
  | 2, _ => exact stepV rfl rfl (execMvB rfl rfl) ⟨s, ⟨_, rfl, rfl⟩, hS, fun _ _ => rfl⟩
  | k_ + 3, h_ => exact absurd h_ (by simp)
 rintro _ a X3 h1 h2 h3 h4 hS
 clear BB
 clear FR
 clear FF
 clear Fge6
 replace hS : Below V.heap.size V X3 ∧ (LiR g6 n 0 (fun _ => undef) X3) ∧ (Fam V.heap.size 0 (fun _ => undef) (fun _ => q) (fun i j => f (i * q + j)) X3) ∧ (V.heap.size ≤ g6) := hS
 obtain ⟨BB, FR, FF, Fge6⟩ := hS
 replace t0 := (h3 0 (by decide)).trans t0
 replace t1 := (h3 1 (by decide)).trans t1
 replace t5 := (h3 5 (by decide)).trans t5
 replace t6 := (h3 6 (by decide)).trans t6
 have t15 : a.eval (.tmp 15) = .int .i64 ((n : Nat) : Int) := h4 1 _ rfl _ rfl
 have t16 : a.eval (.tmp 16) = .int .i64 ((0 : Nat) : Int) := h4 2 _ rfl _ rfl
 replace A := (⟨h1, h2.trans A.2⟩ : a.tmps.size = 34 ∧ a.defers = [])
 clear h1 h2 h3 h4
 refine wp_block ?_
 refine wp_loop (fun a W => ∃ (i : Nat) (x : Nat → Value), i ≤ n ∧ ((a.tmps.size = 34 ∧ a.defers = []) ∧ a.eval (.tmp 0) = .slice ao len cap ∧ a.eval (.tmp 1) = .int .i64 ((n : Nat) : Int) ∧ a.eval (.tmp 5) = .int .i64 ((q : Nat) : Int) ∧ a.eval (.tmp 6) = .slice (some ⟨g6, 0, none⟩) n n ∧ a.eval (.tmp 15) = .int .i64 ((n : Nat) : Int) ∧ a.eval (.tmp 16) = .int .i64 ((i : Nat) : Int) ∧ Below V.heap.size V W ∧ LiR g6 n i x W ∧ Fam V.heap.size i x (fun _ => q) (fun i j => f (i * q + j)) W)) (fun a _ => n - (intOf (a.eval (.tmp 16))).toNat) ⟨0, _, by omega, A, t0, t1, t5, t6, t15, t16, BB, FR, FF⟩ ?_
 clear A t0 t1 t5 t6 t15 t16 BB FR FF a
 rintro a XL ⟨i, x, hi, A, t0, t1, t5, t6, t15, t16, BB, FR, FF⟩
 have e16 := t16
 refine wp_seq ?_
 refine wp_region_sq (σ := Unit) 34 [(0, 17)] (fun j_ s X => match j_ with | 0 => Below V.heap.size V X ∧ (LiR g6 n i x X) ∧ (Fam V.heap.size i x (fun _ => q) (fun i j => f (i * q + j)) X) ∧ (V.heap.size ≤ g6) | _ => Below V.heap.size V X ∧ (LiR g6 n i x X) ∧ (Fam V.heap.size i x (fun _ => q) (fun i j => f (i * q + j)) X) ∧ (V.heap.size ≤ g6)) (fun s => fun i_ => match i_ with | 0 => .bool (decide (i < n)) | _ => undef) () A.1 (by kernel_rfl) (by decide) (by decide) ⟨BB, FR, FF, Fge6⟩ ?_ ?_
 ·intro i_ hi_ s a X hf hv hn hS
  match i_, hi_ with
  | 0, _ => exact stepV rfl rfl (execLtW (p := i) (q := n) rfl ((hf 16 (by decide)).trans t16) ((hf 15 (by decide)).trans t15)) ⟨s, ⟨_, rfl, rfl⟩, hS, fun _ _ => rfl⟩
  | k_ + 1, h_ => exact absurd h_ (by simp)
 rintro _ a X4 h1 h2 h3 h4 hS
 clear BB
 clear FR
 clear FF
 clear Fge6
 replace hS : Below V.heap.size V X4 ∧ (LiR g6 n i x X4) ∧ (Fam V.heap.size i x (fun _ => q) (fun i j => f (i * q + j)) X4) ∧ (V.heap.size ≤ g6) := hS
 obtain ⟨BB, FR, FF, Fge6⟩ := hS
 replace t0 := (h3 0 (by decide)).trans t0
 replace t1 := (h3 1 (by decide)).trans t1
 replace t5 := (h3 5 (by decide)).trans t5
 replace t6 := (h3 6 (by decide)).trans t6
 replace t15 := (h3 15 (by decide)).trans t15
 replace t16 := (h3 16 (by decide)).trans t16
 have t17 : a.eval (.tmp 17) = .bool (decide (i < n)) := h4 0 _ rfl _ rfl
 replace A := (⟨h1, h2.trans A.2⟩ : a.tmps.size = 34 ∧ a.defers = [])
 clear h1 h2 h3 h4
 refine wp_seq ?_
 by_cases hlt : i < n
 ·rw [decide_eq_true hlt] at t17
  refine wp_cond_true t17 ?_
  refine wp_skip ?_
  clear t17
  have h1q : i * q ≤ (i + 1) * q := Nat.mul_le_mul_right _ (by omega)
  have h2q : (i + 1) * q ≤ len := Nat.le_trans (Nat.mul_le_mul_right q (show i + 1 ≤ n by omega)) (by rw [← hq]; exact Nat.mul_div_le len n)
  have h3q : (i + 1) * q = i * q + q := by rw [Nat.add_mul, Nat.one_mul]
  have hs : SliceN V (sliced ao (i * q) ((i + 1) * q) cap 1) q (fun j => f (i * q + j)) := by
   have := hv.sub (i * q) ((i + 1) * q) h1q h2q
   rw [show (i + 1) * q - i * q = q by omega] at this
   exact this
  refine wp_seq ?_
  refine wp_block ?_
  refine wp_seq ?_
  refine wp_region_sq (σ := Unit) 34 [(0, 18), (1, 7)] (fun j_ s X => match j_ with | 0 => Below V.heap.size V X ∧ (LiR g6 n i x X) ∧ (Fam V.heap.size i x (fun _ => q) (fun i j => f (i * q + j)) X) ∧ (V.heap.size ≤ g6) | 1 => Below V.heap.size V X ∧ (LiR g6 n i x X) ∧ (Fam V.heap.size i x (fun _ => q) (fun i j => f (i * q + j)) X) ∧ (V.heap.size ≤ g6) | _ => Below V.heap.size V X ∧ (LiR g6 n i x X) ∧ (Fam V.heap.size i x (fun _ => q) (fun i j => f (i * q + j)) X) ∧ (V.heap.size ≤ g6)) (fun s => fun i_ => match i_ with | 0 => .int .i64 ((i : Nat) : Int) | 1 => .int .i64 ((i : Nat) : Int) | _ => undef) () A.1 (by kernel_rfl) (by decide) (by decide) ⟨BB, FR, FF, Fge6⟩ ?_ ?_
  ·intro i_ hi_ s a X hf hv hn hS
   match i_, hi_ with
   | 0, _ => exact stepV rfl rfl (execMvB rfl ((hf 16 (by decide)).trans t16)) ⟨s, ⟨_, rfl, rfl⟩, hS, fun _ _ => rfl⟩
   | 1, _ => exact stepV rfl rfl (execAsgB rfl (hv 0 (by omega) _ rfl _ rfl)) ⟨s, ⟨_, rfl, rfl⟩, hS, fun _ _ => rfl⟩
   | k_ + 2, h_ => exact absurd h_ (by simp)
  rintro _ a X5 h1 h2 h3 h4 hS
  clear BB
  clear FR
  clear FF
  clear Fge6
  replace hS : Below V.heap.size V X5 ∧ (LiR g6 n i x X5) ∧ (Fam V.heap.size i x (fun _ => q) (fun i j => f (i * q + j)) X5) ∧ (V.heap.size ≤ g6) := hS
  obtain ⟨BB, FR, FF, Fge6⟩ := hS
  replace t0 := (h3 0 (by decide)).trans t0
  replace t1 := (h3 1 (by decide)).trans t1
  replace t5 := (h3 5 (by decide)).trans t5
  replace t6 := (h3 6 (by decide)).trans t6
  replace t15 := (h3 15 (by decide)).trans t15
  replace t16 := (h3 16 (by decide)).trans t16
  have t7 : a.eval (.tmp 7) = .int .i64 ((i : Nat) : Int) := h4 1 _ rfl _ rfl
  replace A := (⟨h1, h2.trans A.2⟩ : a.tmps.size = 34 ∧ a.defers = [])
  clear h1 h2 h3 h4
  refine wp_region_sq (σ := Value) 34 [(0, 19), (1, 20), (2, 21), (3, 22), (4, 23), (5, 24), (6, 25), (7, 26), (8, 27), (9, 28), (10, 29), (11, 30), (12, 31)] (fun j_ s X => match j_ with | 0 => Below V.heap.size V X ∧ (LiR g6 n i x X) ∧ (Fam V.heap.size i x (fun _ => q) (fun i j => f (i * q + j)) X) ∧ (V.heap.size ≤ g6) | 1 => Below V.heap.size V X ∧ (LiR g6 n i x X) ∧ (Fam V.heap.size i x (fun _ => q) (fun i j => f (i * q + j)) X) ∧ (V.heap.size ≤ g6) | 2 => Below V.heap.size V X ∧ (LiR g6 n i x X) ∧ (Fam V.heap.size i x (fun _ => q) (fun i j => f (i * q + j)) X) ∧ (V.heap.size ≤ g6) | 3 => Below V.heap.size V X ∧ (LiR g6 n i x X) ∧ (Fam V.heap.size i x (fun _ => q) (fun i j => f (i * q + j)) X) ∧ (V.heap.size ≤ g6) | 4 => Below V.heap.size V X ∧ (LiR g6 n i x X) ∧ (Fam V.heap.size i x (fun _ => q) (fun i j => f (i * q + j)) X) ∧ (V.heap.size ≤ g6) | 5 => Below V.heap.size V X ∧ (LiR g6 n i x X) ∧ (Fam V.heap.size i x (fun _ => q) (fun i j => f (i * q + j)) X) ∧ (V.heap.size ≤ g6) | 6 => Below V.heap.size V X ∧ (LiR g6 n i x X) ∧ (Fam V.heap.size i x (fun _ => q) (fun i j => f (i * q + j)) X) ∧ (V.heap.size ≤ g6) | 7 => Below V.heap.size V X ∧ (LiR g6 n i x X) ∧ (Fam V.heap.size i x (fun _ => q) (fun i j => f (i * q + j)) X) ∧ (V.heap.size ≤ g6) | 8 => Below V.heap.size V X ∧ (LiR g6 n i x X) ∧ (Fam V.heap.size i x (fun _ => q) (fun i j => f (i * q + j)) X) ∧ (V.heap.size ≤ g6) | 9 => Below V.heap.size V X ∧ (LiR g6 n i x X) ∧ (Fam V.heap.size i x (fun _ => q) (fun i j => f (i * q + j)) X) ∧ (V.heap.size ≤ g6) | 10 => Below V.heap.size V X ∧ (LiR g6 n i x X) ∧ (Fam V.heap.size i x (fun _ => q) (fun i j => f (i * q + j)) X) ∧ (V.heap.size ≤ g6) | 11 => Below V.heap.size V X ∧ (LiR g6 n i x X) ∧ (Fam V.heap.size i x (fun _ => q) (fun i j => f (i * q + j)) X) ∧ (V.heap.size ≤ g6) | 12 => Below V.heap.size V X ∧ (LiR g6 n i x X) ∧ (V.heap.size ≤ g6) ∧ (Fam V.heap.size (i + 1) (updX x i s) (fun _ => q) (fun i j => f (i * q + j)) X) ∧ (∃ g_ n_ c_, s = .slice g_ n_ c_) | 13 => Below V.heap.size V X ∧ (LiR g6 n i x X) ∧ (V.heap.size ≤ g6) ∧ (Fam V.heap.size (i + 1) (updX x i s) (fun _ => q) (fun i j => f (i * q + j)) X) ∧ (∃ g_ n_ c_, s = .slice g_ n_ c_) | _ => Below V.heap.size V X ∧ (V.heap.size ≤ g6) ∧ (Fam V.heap.size (i + 1) (updX x i s) (fun _ => q) (fun i j => f (i * q + j)) X) ∧ (LiR g6 n (i + 1) (updX x i s) X)) (fun s => fun i_ => match i_ with | 0 => .slice (some ⟨g6, 0, none⟩) n n | 1 => .int .i64 ((i : Nat) : Int) | 2 => .slice ao len cap | 3 => .int .i64 ((i : Nat) : Int) | 4 => .int .i64 ((q : Nat) : Int) | 5 => .int .i64 ((i * q : Nat) : Int) | 6 => .int .i64 ((i : Nat) : Int) | 7 => .int .i64 ((i + 1 : Nat) : Int) | 8 => .int .i64 ((q : Nat) : Int) | 9 => .int .i64 (((i + 1) * q : Nat) : Int) | 10 => (sliced ao (i * q) ((i + 1) * q) cap 1) | 11 => s | 12 => .pointer (some ⟨g6, 0 + i, none⟩) | 13 => undef | _ => undef) undef A.1 (by kernel_rfl) (by decide) (by decide) ⟨BB, FR, FF, Fge6⟩ ?_ ?_
  ·intro i_ hi_ s a X hf hv hn hS
   match i_, hi_ with
   | 0, _ => exact stepV rfl rfl (execMvB rfl ((hf 6 (by decide)).trans t6)) ⟨s, ⟨_, rfl, rfl⟩, hS, fun _ _ => rfl⟩
   | 1, _ => exact stepV rfl rfl (execMvB rfl ((hf 7 (by decide)).trans t7)) ⟨s, ⟨_, rfl, rfl⟩, hS, fun _ _ => rfl⟩
   | 2, _ => exact stepV rfl rfl (execMvB rfl ((hf 0 (by decide)).trans t0)) ⟨s, ⟨_, rfl, rfl⟩, hS, fun _ _ => rfl⟩
   | 3, _ => exact stepV rfl rfl (execMvB rfl ((hf 7 (by decide)).trans t7)) ⟨s, ⟨_, rfl, rfl⟩, hS, fun _ _ => rfl⟩
   | 4, _ => exact stepV rfl rfl (execMvB rfl ((hf 5 (by decide)).trans t5)) ⟨s, ⟨_, rfl, rfl⟩, hS, fun _ _ => rfl⟩
   | 5, _ => exact stepV rfl rfl (execMulN (p := i) (q := q) rfl (hv 3 (by omega) _ rfl _ rfl) (hv 4 (by omega) _ rfl _ rfl) (by omega)) ⟨s, ⟨_, rfl, rfl⟩, hS, fun _ _ => rfl⟩
   | 6, _ => exact stepV rfl rfl (execMvB rfl ((hf 7 (by decide)).trans t7)) ⟨s, ⟨_, rfl, rfl⟩, hS, fun _ _ => rfl⟩
   | 7, _ => exact stepV rfl rfl (execAd8 (p := i) (q := 1) rfl (hv 6 (by omega) _ rfl _ rfl) rfl (by omega)) ⟨s, ⟨_, rfl, rfl⟩, hS, fun _ _ => rfl⟩
   | 8, _ => exact stepV rfl rfl (execMvB rfl ((hf 5 (by decide)).trans t5)) ⟨s, ⟨_, rfl, rfl⟩, hS, fun _ _ => rfl⟩
   | 9, _ => exact stepV rfl rfl (execMulN (p := i + 1) (q := q) rfl (hv 7 (by omega) _ rfl _ rfl) (hv 8 (by omega) _ rfl _ rfl) (by omega)) ⟨s, ⟨_, rfl, rfl⟩, hS, fun _ _ => rfl⟩
   | 10, _ => exact stepV rfl rfl (By8.execSlLH rfl (hv 2 (by omega) _ rfl _ rfl) (hv 5 (by omega) _ rfl _ rfl) (hv 9 (by omega) _ rfl _ rfl) (By8.slice_lh ao len cap (i * q) ((i + 1) * q) h1q (by omega) X)) ⟨s, ⟨_, rfl, rfl⟩, hS, fun _ _ => rfl⟩
   | 11, _ =>
    refine stepC rfl rfl (execCall1 Try.func39 (by kernel_rfl) (by kernel_rfl) rfl (hv 10 (by omega) _ rfl _ rfl)) (clone9 (fun j => f (i * q + j)) q _ X (hs.on hS.1) (by omega)) fun e w' hh => ?_
    obtain ⟨r_, he, hown, hb⟩ := hh
    refine ⟨_, he, r_, ⟨_, rfl, rfl⟩, ⟨(hS.1).trans ((hb).mono (hS.1).size), (hS.2.1.on hb), hS.2.2.2, hS.2.2.1.add hb (hS.1).size hown, (by obtain ⟨g_, c_, e_⟩ := ownQ_shape hown; exact ⟨g_, _, c_, e_⟩)⟩, fun i hi => ?_⟩
    match i, hi with
    | 0, _ => rfl
    | 1, _ => rfl
    | 2, _ => rfl
    | 3, _ => rfl
    | 4, _ => rfl
    | 5, _ => rfl
    | 6, _ => rfl
    | 7, _ => rfl
    | 8, _ => rfl
    | 9, _ => rfl
    | 10, _ => rfl
    | n_ + 11, h_ => omega
   | 12, _ => exact stepV rfl rfl (Cf.execIdxL (k := i) rfl (hv 0 (by omega) _ rfl _ rfl) (hv 1 (by omega) _ rfl _ rfl) hlt) ⟨s, ⟨_, rfl, rfl⟩, hS, fun _ _ => rfl⟩
   | 13, _ =>
    obtain ⟨⟨old, hc⟩, hfz⟩ := hS.2.1.cell (show 0 + i < n by omega)
    obtain ⟨c_, hR, _⟩ := id hS.2.1
    refine stepS rfl rfl (execStL rfl (hv 12 (by omega) _ rfl _ rfl) (hv 11 (by omega) _ rfl _ rfl) hS.2.2.2.2 hc hfz) ⟨s, ⟨_, rfl, rfl⟩, ⟨(hS.1).setCell hS.2.2.1 _, hS.2.2.1, fam_setL hS.2.2.2.1 hR, hS.2.1.put hlt _⟩, fun i hi => ?_⟩
    match i, hi with
    | 0, _ => rfl
    | 1, _ => rfl
    | 2, _ => rfl
    | 3, _ => rfl
    | 4, _ => rfl
    | 5, _ => rfl
    | 6, _ => rfl
    | 7, _ => rfl
    | 8, _ => rfl
    | 9, _ => rfl
    | 10, _ => rfl
    | 11, _ => rfl
    | 12, _ => rfl
    | n_ + 13, h_ => omega
   | k_ + 14, h_ => exact absurd h_ (by simp)
  rintro v30 a X6 h1 h2 h3 h4 hS
  clear BB
  clear FR
  clear FF
  clear Fge6
  replace hS : Below V.heap.size V X6 ∧ (V.heap.size ≤ g6) ∧ (Fam V.heap.size (i + 1) (updX x i v30) (fun _ => q) (fun i j => f (i * q + j)) X6) ∧ (LiR g6 n (i + 1) (updX x i v30) X6) := hS
  obtain ⟨BB, Fge6, FG, FR2⟩ := hS
  replace t0 := (h3 0 (by decide)).trans t0
  replace t1 := (h3 1 (by decide)).trans t1
  replace t5 := (h3 5 (by decide)).trans t5
  replace t6 := (h3 6 (by decide)).trans t6
  replace t15 := (h3 15 (by decide)).trans t15
  replace t16 := (h3 16 (by decide)).trans t16
  replace A := (⟨h1, h2.trans A.2⟩ : a.tmps.size = 34 ∧ a.defers = [])
  clear h1 h2 h3 h4
  clear t7
  refine wp_region_sq (σ := Unit) 34 [(0, 32), (1, 16)] (fun j_ s X => match j_ with | 0 => Below V.heap.size V X ∧ (V.heap.size ≤ g6) ∧ (Fam V.heap.size (i + 1) (updX x i v30) (fun _ => q) (fun i j => f (i * q + j)) X) ∧ (LiR g6 n (i + 1) (updX x i v30) X) | 1 => Below V.heap.size V X ∧ (V.heap.size ≤ g6) ∧ (Fam V.heap.size (i + 1) (updX x i v30) (fun _ => q) (fun i j => f (i * q + j)) X) ∧ (LiR g6 n (i + 1) (updX x i v30) X) | _ => Below V.heap.size V X ∧ (V.heap.size ≤ g6) ∧ (Fam V.heap.size (i + 1) (updX x i v30) (fun _ => q) (fun i j => f (i * q + j)) X) ∧ (LiR g6 n (i + 1) (updX x i v30) X)) (fun s => fun i_ => match i_ with | 0 => .int .i64 ((i + 1 : Nat) : Int) | 1 => .int .i64 ((i + 1 : Nat) : Int) | _ => undef) () A.1 (by kernel_rfl) (by decide) (by decide) ⟨BB, Fge6, FG, FR2⟩ ?_ ?_
  ·intro i_ hi_ s a X hf hv hn hS
   match i_, hi_ with
   | 0, _ => exact stepV rfl rfl (execAd8 (p := i) (q := 1) rfl ((hn 1 (by omega) _ rfl _ rfl).trans t16) rfl (by omega)) ⟨s, ⟨_, rfl, rfl⟩, hS, fun _ _ => rfl⟩
   | 1, _ => exact stepV rfl rfl (execMvB rfl (hv 0 (by omega) _ rfl _ rfl)) ⟨s, ⟨_, rfl, rfl⟩, hS, fun _ _ => rfl⟩
   | k_ + 2, h_ => exact absurd h_ (by simp)
  rintro _ a X7 h1 h2 h3 h4 hS
  clear BB
  clear Fge6
  clear FG
  clear FR2
  replace hS : Below V.heap.size V X7 ∧ (V.heap.size ≤ g6) ∧ (Fam V.heap.size (i + 1) (updX x i v30) (fun _ => q) (fun i j => f (i * q + j)) X7) ∧ (LiR g6 n (i + 1) (updX x i v30) X7) := hS
  obtain ⟨BB, Fge6, FG, FR2⟩ := hS
  replace t0 := (h3 0 (by decide)).trans t0
  replace t1 := (h3 1 (by decide)).trans t1
  replace t5 := (h3 5 (by decide)).trans t5
  replace t6 := (h3 6 (by decide)).trans t6
  replace t15 := (h3 15 (by decide)).trans t15
  replace t16 : a.eval (.tmp 16) = .int .i64 ((i + 1 : Nat) : Int) := h4 1 _ rfl _ rfl
  replace A := (⟨h1, h2.trans A.2⟩ : a.tmps.size = 34 ∧ a.defers = [])
  clear h1 h2 h3 h4
  exact ⟨⟨i + 1, _, hlt, A, t0, t1, t5, t6, t15, t16, BB, FR2, FG⟩, by show n - (intOf (a.eval (.tmp 16))).toNat < n - (intOf (Act.eval _ (.tmp 16))).toNat; rw [t16, e16]; show n - (i + 1) < n - i; omega⟩
 ·rw [decide_eq_false hlt] at t17
  refine wp_cond_false t17 ?_
  refine wp_exit ?_
  first | refine exit_in ?_ | refine exit_then (exit_in ?_) | refine exit_then (exit_then (exit_in ?_))
  clear t17
  have hin : i = n := by omega
  rw [hin] at FR FF
  refine wp_seq ?_
  refine wp_region_sq (σ := Unit) 34 [(0, 33), (1, 4)] (fun j_ s X => match j_ with | 0 => Below V.heap.size V X ∧ (LiR g6 n n x X) ∧ (Fam V.heap.size n x (fun _ => q) (fun i j => f (i * q + j)) X) ∧ (V.heap.size ≤ g6) | 1 => Below V.heap.size V X ∧ (LiR g6 n n x X) ∧ (Fam V.heap.size n x (fun _ => q) (fun i j => f (i * q + j)) X) ∧ (V.heap.size ≤ g6) | _ => Below V.heap.size V X ∧ (LiR g6 n n x X) ∧ (Fam V.heap.size n x (fun _ => q) (fun i j => f (i * q + j)) X) ∧ (V.heap.size ≤ g6)) (fun s => fun i_ => match i_ with | 0 => .slice (some ⟨g6, 0, none⟩) n n | 1 => .slice (some ⟨g6, 0, none⟩) n n | _ => undef) () A.1 (by kernel_rfl) (by decide) (by decide) ⟨BB, FR, FF, Fge6⟩ ?_ ?_
  ·intro i_ hi_ s a X hf hv hn hS
   match i_, hi_ with
   | 0, _ => exact stepV rfl rfl (execMvB rfl ((hf 6 (by decide)).trans t6)) ⟨s, ⟨_, rfl, rfl⟩, hS, fun _ _ => rfl⟩
   | 1, _ => exact stepV rfl rfl (execAsgB rfl (hv 0 (by omega) _ rfl _ rfl)) ⟨s, ⟨_, rfl, rfl⟩, hS, fun _ _ => rfl⟩
   | k_ + 2, h_ => exact absurd h_ (by simp)
  rintro _ a X8 h1 h2 h3 h4 hS
  clear BB
  clear FR
  clear FF
  clear Fge6
  replace hS : Below V.heap.size V X8 ∧ (LiR g6 n n x X8) ∧ (Fam V.heap.size n x (fun _ => q) (fun i j => f (i * q + j)) X8) ∧ (V.heap.size ≤ g6) := hS
  obtain ⟨BB, FR, FF, Fge6⟩ := hS
  have t4 : a.eval (.tmp 4) = .slice (some ⟨g6, 0, none⟩) n n := h4 1 _ rfl _ rfl
  replace A := (⟨h1, h2.trans A.2⟩ : a.tmps.size = 34 ∧ a.defers = [])
  clear h1 h2 h3 h4
  clear t0 t1 t5 t6 t15 t16
  refine wp_ret ?_
  refine bodyPost_ret (results_tmp rfl _ _ _) A.2 ⟨_, x, ?_, FR.own Fge6 (by omega), FF, BB⟩
  show Ending.returned (a.eval (.tmp 4)) = _
  rw [t4]
end Go.Proofs.Ytmjpneaccjlpkaa.Tap
