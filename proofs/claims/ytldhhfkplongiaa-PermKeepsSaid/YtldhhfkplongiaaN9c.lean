import Derived.Test.YtldhhfkplongiaaN9b
namespace Go.Proofs.Ytldhhfkplongiaa.Prm
open Go.RowKit Gf8 Aes By8 Cel Cf Tap Drw
/- PermKeeps: the end; the appends. Written by tools/mkN9c.py. -/

theorem funC_fits {f g : Nat → Int} {n m c : Nat} (hg : ∀ j, j < m → -9223372036854775808 ≤ g j ∧ g j < 9223372036854775808) (hn : n ≤ 17592186043904) (hm : m ≤ 17592186043904) : ∀ j, j < lenC f g n m c → -9223372036854775808 ≤ funC f g n m c j ∧ funC f g n m c j < 9223372036854775808 := by
  unfold lenC funC
  repeat' split
  · exact co_fits hg
  · exact pos_fits (by omega)
  · exact ap_fits hg
  · exact drw_fits (by omega)
  · exact rnk_fits (by omega)
  · exact unr_fits (by omega)
  · exact from_fits hm
  · intro j hj
    show -9223372036854775808 ≤ (j : Int) ∧ (j : Int) < 9223372036854775808
    omega
  · intro j hj
    show -9223372036854775808 ≤ ((n % 500 : Nat) : Int) - (j : Int) ∧ ((n % 500 : Nat) : Int) - (j : Int) < 9223372036854775808
    omega
/-- A row that holds an answer still. -/
theorem K2.want {V W : World} {k bw b t c : Nat} {x : Nat → Value} {ff : Nat → Nat → Int} {lv wv : Value} {f g : Nat → Int} {n m : Nat} (h : K2 V W k x (nnK f g n m) ff lv wv bw b) (hg : ∀ j, j < m → -9223372036854775808 ≤ g j ∧ g j < 9223372036854775808) (hn : n ≤ 17592186043904) (hm : m ≤ 17592186043904) (hff : ff t = ffK f g n m t) (ht : t < k) (h2 : 2 ≤ t) (hc : (t - 2) % 9 = c) : SliceI W (x t) (lenC f g n m c) (funC f g n m c) := by
  have h1 := h.k1.fam.rows t ht
  have e1 : nnK f g n m t = lenC f g n m c := by unfold nnK; rw [if_neg (by omega), if_neg (by omega), hc]
  have e2 : ffK f g n m t = funC f g n m c := by unfold ffK; rw [if_neg (by omega), if_neg (by omega), hc]
  rw [hff, e1, e2] at h1
  exact own_ints h1 (funC_fits hg hn hm)
set_option maxRecDepth 100000 in
set_option maxHeartbeats 4000000 in
/-- PermKeeps, from region 64. -/
theorem keeps64 (I : Impl) (V : World) (f g : Nat → Int) (n m : Nat) (pv qv : Value) (hp : SliceI V pv n f) (hq : SliceI V qv m g) (hn17 : n ≤ 17592186043904) (hm17 : m ≤ 17592186043904) (S : World) (x : Nat → Value) (ff : Nat → Nat → Int) (gl cl gw cw bw : Nat) (BB : Below V.heap.size V S) (h20 : ∀ t, 20 ≤ t → ff t = ffK f g n m t) (FK : (K2 V S 38 x (nnK f g n m) ff (.slice (some ⟨gl, 0, none⟩) 18 cl) (.slice (some ⟨gw, 0, none⟩) 18 cw) bw 18))
    (a : Act) (A : a.tmps.size = 312 ∧ a.defers = []) (t0 : a.eval (.tmp 0) = pv) (t1 : a.eval (.tmp 1) = qv) (t10 : a.eval (.tmp 10) = .slice (some ⟨gw, 0, none⟩) 18 cw) :
    (findR 64 (Try.f3.body.getD .skip)).wp Try.prog (bodyPost Try.prog Try.f3 fun e w' => e = .returned (.bool true) ∧ Below V.heap.size V w') a S := by
  have FI := hp
  have FJ := hq
  refine wp_seq ?_
  refine wp_region_sq (σ := Value) 312 [(0, 290), (1, 291), (2, 292), (3, 289), (4, 293), (5, 294), (6, 38), (7, 39)] (fun j_ s X => match j_ with | 0 => Below V.heap.size V X ∧ (K2 V X 38 x (nnK f g n m) ff (.slice (some ⟨gl, 0, none⟩) 18 cl) (.slice (some ⟨gw, 0, none⟩) 18 cw) bw 18) | 1 => Below V.heap.size V X ∧ (K2 V X 38 x (nnK f g n m) ff (.slice (some ⟨gl, 0, none⟩) 18 cl) (.slice (some ⟨gw, 0, none⟩) 18 cw) bw 18) | 2 => Below V.heap.size V X ∧ (K2 V X 38 x (nnK f g n m) ff (.slice (some ⟨gl, 0, none⟩) 18 cl) (.slice (some ⟨gw, 0, none⟩) 18 cw) bw 18) | 3 => Below V.heap.size V X ∧ (K2 V X 38 x (nnK f g n m) ff (.slice (some ⟨gl, 0, none⟩) 18 cl) (.slice (some ⟨gw, 0, none⟩) 18 cw) bw 18) ∧ (SliceI X s (zl (coE f n g m) n) (fun j => g (f j).toNat)) | 4 => Below V.heap.size V X ∧ (K2 V X 38 x (nnK f g n m) ff (.slice (some ⟨gl, 0, none⟩) 18 cl) (.slice (some ⟨gw, 0, none⟩) 18 cw) bw 18) ∧ (SliceI X s (zl (coE f n g m) n) (fun j => g (f j).toNat)) | 5 => Below V.heap.size V X ∧ (K2 V X 38 x (nnK f g n m) ff (.slice (some ⟨gl, 0, none⟩) 18 cl) (.slice (some ⟨gw, 0, none⟩) 18 cw) bw 18) ∧ (SliceI X s (zl (coE f n g m) n) (fun j => g (f j).toNat)) | 6 => Below V.heap.size V X ∧ (K2 V X 38 x (nnK f g n m) ff (.slice (some ⟨gl, 0, none⟩) 18 cl) (.slice (some ⟨gw, 0, none⟩) 18 cw) bw 18) ∧ (SliceI X s (zl (coE f n g m) n) (fun j => g (f j).toNat)) | 7 => Below V.heap.size V X ∧ (K2 V X 38 x (nnK f g n m) ff (.slice (some ⟨gl, 0, none⟩) 18 cl) (.slice (some ⟨gw, 0, none⟩) 18 cw) bw 18) ∧ (SliceI X s (zl (coE f n g m) n) (fun j => g (f j).toNat)) | _ => Below V.heap.size V X ∧ (K2 V X 38 x (nnK f g n m) ff (.slice (some ⟨gl, 0, none⟩) 18 cl) (.slice (some ⟨gw, 0, none⟩) 18 cw) bw 18) ∧ (SliceI X s (zl (coE f n g m) n) (fun j => g (f j).toNat))) (fun s => fun i_ => match i_ with | 0 => pv | 1 => qv | 2 => .tuple #[s, .int .i64 ((coE f n g m : Nat) : Int)] | 3 => .tuple #[s, .int .i64 ((coE f n g m : Nat) : Int)] | 4 => s | 5 => .int .i64 ((coE f n g m : Nat) : Int) | 6 => s | 7 => .int .i64 ((coE f n g m : Nat) : Int) | _ => undef) undef A.1 (by kernel_rfl) (by decide) (by decide) ⟨BB, FK⟩ ?_ ?_
  · intro i_ hi_ s a X hf hv hn hS
    match i_, hi_ with
    | 0, _ => exact stepV rfl rfl (execMvB rfl ((hf 0 (by decide)).trans t0)) ⟨s, ⟨_, rfl, rfl⟩, hS, fun _ _ => rfl⟩
    | 1, _ => exact stepV rfl rfl (execMvB rfl ((hf 1 (by decide)).trans t1)) ⟨s, ⟨_, rfl, rfl⟩, hS, fun _ _ => rfl⟩
    | 2, _ =>
      refine stepC rfl rfl (execCall2 Try.func5 (by kernel_rfl) (by kernel_rfl) rfl (hv 0 (by omega) _ rfl _ rfl) (hv 1 (by omega) _ rfl _ rfl)) (I.compose f g n m _ _ X (FI.on hS.1) (by omega) (FJ.on hS.1) (by omega)) fun e w' hh => ?_
      obtain ⟨r_, he, hk, hb⟩ := hh
      refine ⟨_, he, r_, ⟨_, rfl, rfl⟩, ⟨(hS.1).trans ((hb).mono (hS.1).size), (hS.2.on hb), own_ints hk (co_fits ((FJ.on hS.1)).fits)⟩, fun i hi => ?_⟩
      match i, hi with
      | 0, _ => rfl
      | 1, _ => rfl
      | n_ + 2, h_ => omega
    | 3, _ => exact stepV rfl rfl (execMvB rfl (hv 2 (by omega) _ rfl _ rfl)) ⟨s, ⟨_, rfl, rfl⟩, hS, fun _ _ => rfl⟩
    | 4, _ => exact stepV rfl rfl (execExtT rfl (hv 3 (by omega) _ rfl _ rfl) rfl) ⟨s, ⟨_, rfl, rfl⟩, hS, fun _ _ => rfl⟩
    | 5, _ => exact stepV rfl rfl (execExtT rfl (hv 3 (by omega) _ rfl _ rfl) rfl) ⟨s, ⟨_, rfl, rfl⟩, hS, fun _ _ => rfl⟩
    | 6, _ => exact stepV rfl rfl (execAsgB rfl (hv 4 (by omega) _ rfl _ rfl)) ⟨s, ⟨_, rfl, rfl⟩, hS, fun _ _ => rfl⟩
    | 7, _ => exact stepV rfl rfl (execAsgB rfl (hv 5 (by omega) _ rfl _ rfl)) ⟨s, ⟨_, rfl, rfl⟩, hS, fun _ _ => rfl⟩
    | k_ + 8, h_ => exact absurd h_ (by simp)
  rintro v292 a X64 h1 h2 h3 h4 hS
  clear BB
  clear FK
  replace hS : Below V.heap.size V X64 ∧ (K2 V X64 38 x (nnK f g n m) ff (.slice (some ⟨gl, 0, none⟩) 18 cl) (.slice (some ⟨gw, 0, none⟩) 18 cw) bw 18) ∧ (SliceI X64 v292 (zl (coE f n g m) n) (fun j => g (f j).toNat)) := hS
  obtain ⟨BB, FK, Fv292⟩ := hS
  replace t0 := (h3 0 (by decide)).trans t0
  replace t10 := (h3 10 (by decide)).trans t10
  have t38 : a.eval (.tmp 38) = v292 := h4 6 _ rfl _ rfl
  replace A := (⟨h1, h2.trans A.2⟩ : a.tmps.size = 312 ∧ a.defers = [])
  clear h1 h2 h3 h4
  clear t1
  refine wp_seq ?_
  refine wp_region_sq (σ := Value) 312 [(0, 296), (1, 297), (2, 295), (3, 298), (4, 299), (5, 40), (6, 41)] (fun j_ s X => match j_ with | 0 => Below V.heap.size V X ∧ (K2 V X 38 x (nnK f g n m) ff (.slice (some ⟨gl, 0, none⟩) 18 cl) (.slice (some ⟨gw, 0, none⟩) 18 cw) bw 18) ∧ (SliceI X v292 (zl (coE f n g m) n) (fun j => g (f j).toNat)) | 1 => Below V.heap.size V X ∧ (K2 V X 38 x (nnK f g n m) ff (.slice (some ⟨gl, 0, none⟩) 18 cl) (.slice (some ⟨gw, 0, none⟩) 18 cw) bw 18) ∧ (SliceI X v292 (zl (coE f n g m) n) (fun j => g (f j).toNat)) | 2 => Below V.heap.size V X ∧ (K2 V X 38 x (nnK f g n m) ff (.slice (some ⟨gl, 0, none⟩) 18 cl) (.slice (some ⟨gw, 0, none⟩) 18 cw) bw 18) ∧ (SliceI X v292 (zl (coE f n g m) n) (fun j => g (f j).toNat)) ∧ (SliceI X s (zl (pE f n) n) (fun j => (rkD (gN f) n j : Int))) | 3 => Below V.heap.size V X ∧ (K2 V X 38 x (nnK f g n m) ff (.slice (some ⟨gl, 0, none⟩) 18 cl) (.slice (some ⟨gw, 0, none⟩) 18 cw) bw 18) ∧ (SliceI X v292 (zl (coE f n g m) n) (fun j => g (f j).toNat)) ∧ (SliceI X s (zl (pE f n) n) (fun j => (rkD (gN f) n j : Int))) | 4 => Below V.heap.size V X ∧ (K2 V X 38 x (nnK f g n m) ff (.slice (some ⟨gl, 0, none⟩) 18 cl) (.slice (some ⟨gw, 0, none⟩) 18 cw) bw 18) ∧ (SliceI X v292 (zl (coE f n g m) n) (fun j => g (f j).toNat)) ∧ (SliceI X s (zl (pE f n) n) (fun j => (rkD (gN f) n j : Int))) | 5 => Below V.heap.size V X ∧ (K2 V X 38 x (nnK f g n m) ff (.slice (some ⟨gl, 0, none⟩) 18 cl) (.slice (some ⟨gw, 0, none⟩) 18 cw) bw 18) ∧ (SliceI X v292 (zl (coE f n g m) n) (fun j => g (f j).toNat)) ∧ (SliceI X s (zl (pE f n) n) (fun j => (rkD (gN f) n j : Int))) | 6 => Below V.heap.size V X ∧ (K2 V X 38 x (nnK f g n m) ff (.slice (some ⟨gl, 0, none⟩) 18 cl) (.slice (some ⟨gw, 0, none⟩) 18 cw) bw 18) ∧ (SliceI X v292 (zl (coE f n g m) n) (fun j => g (f j).toNat)) ∧ (SliceI X s (zl (pE f n) n) (fun j => (rkD (gN f) n j : Int))) | _ => Below V.heap.size V X ∧ (K2 V X 38 x (nnK f g n m) ff (.slice (some ⟨gl, 0, none⟩) 18 cl) (.slice (some ⟨gw, 0, none⟩) 18 cw) bw 18) ∧ (SliceI X v292 (zl (coE f n g m) n) (fun j => g (f j).toNat)) ∧ (SliceI X s (zl (pE f n) n) (fun j => (rkD (gN f) n j : Int)))) (fun s => fun i_ => match i_ with | 0 => pv | 1 => .tuple #[s, .int .i64 ((pE f n : Nat) : Int)] | 2 => .tuple #[s, .int .i64 ((pE f n : Nat) : Int)] | 3 => s | 4 => .int .i64 ((pE f n : Nat) : Int) | 5 => s | 6 => .int .i64 ((pE f n : Nat) : Int) | _ => undef) undef A.1 (by kernel_rfl) (by decide) (by decide) ⟨BB, FK, Fv292⟩ ?_ ?_
  · intro i_ hi_ s a X hf hv hn hS
    match i_, hi_ with
    | 0, _ => exact stepV rfl rfl (execMvB rfl ((hf 0 (by decide)).trans t0)) ⟨s, ⟨_, rfl, rfl⟩, hS, fun _ _ => rfl⟩
    | 1, _ =>
      refine stepC rfl rfl (execCall1 Try.func9 (by kernel_rfl) (by kernel_rfl) rfl (hv 0 (by omega) _ rfl _ rfl)) (I.rank f n _ X (FI.on hS.1) (by omega)) fun e w' hh => ?_
      obtain ⟨r_, he, hk, hb⟩ := hh
      refine ⟨_, he, r_, ⟨_, rfl, rfl⟩, ⟨(hS.1).trans ((hb).mono (hS.1).size), (hS.2.1.on hb), (hS.2.2.on hb), own_ints hk (rnk_fits (by omega))⟩, fun i hi => ?_⟩
      match i, hi with
      | 0, _ => rfl
      | n_ + 1, h_ => omega
    | 2, _ => exact stepV rfl rfl (execMvB rfl (hv 1 (by omega) _ rfl _ rfl)) ⟨s, ⟨_, rfl, rfl⟩, hS, fun _ _ => rfl⟩
    | 3, _ => exact stepV rfl rfl (execExtT rfl (hv 2 (by omega) _ rfl _ rfl) rfl) ⟨s, ⟨_, rfl, rfl⟩, hS, fun _ _ => rfl⟩
    | 4, _ => exact stepV rfl rfl (execExtT rfl (hv 2 (by omega) _ rfl _ rfl) rfl) ⟨s, ⟨_, rfl, rfl⟩, hS, fun _ _ => rfl⟩
    | 5, _ => exact stepV rfl rfl (execAsgB rfl (hv 3 (by omega) _ rfl _ rfl)) ⟨s, ⟨_, rfl, rfl⟩, hS, fun _ _ => rfl⟩
    | 6, _ => exact stepV rfl rfl (execAsgB rfl (hv 4 (by omega) _ rfl _ rfl)) ⟨s, ⟨_, rfl, rfl⟩, hS, fun _ _ => rfl⟩
    | k_ + 7, h_ => exact absurd h_ (by simp)
  rintro v297 a X65 h1 h2 h3 h4 hS
  clear BB
  clear FK
  clear Fv292
  replace hS : Below V.heap.size V X65 ∧ (K2 V X65 38 x (nnK f g n m) ff (.slice (some ⟨gl, 0, none⟩) 18 cl) (.slice (some ⟨gw, 0, none⟩) 18 cw) bw 18) ∧ (SliceI X65 v292 (zl (coE f n g m) n) (fun j => g (f j).toNat)) ∧ (SliceI X65 v297 (zl (pE f n) n) (fun j => (rkD (gN f) n j : Int))) := hS
  obtain ⟨BB, FK, Fv292, Fv297⟩ := hS
  replace t10 := (h3 10 (by decide)).trans t10
  replace t38 := (h3 38 (by decide)).trans t38
  have t40 : a.eval (.tmp 40) = v297 := h4 5 _ rfl _ rfl
  replace A := (⟨h1, h2.trans A.2⟩ : a.tmps.size = 312 ∧ a.defers = [])
  clear h1 h2 h3 h4
  clear t0
  refine wp_seq ?_
  refine wp_region_sq (σ := Unit) 312 [(0, 300), (1, 301), (2, 302), (3, 303), (4, 304), (5, 305), (6, 306), (7, 307), (8, 308), (9, 309), (10, 310), (11, 311), (12, 4)] (fun j_ s X => match j_ with | 0 => Below V.heap.size V X ∧ (K2 V X 38 x (nnK f g n m) ff (.slice (some ⟨gl, 0, none⟩) 18 cl) (.slice (some ⟨gw, 0, none⟩) 18 cw) bw 18) ∧ (SliceI X v292 (zl (coE f n g m) n) (fun j => g (f j).toNat)) ∧ (SliceI X v297 (zl (pE f n) n) (fun j => (rkD (gN f) n j : Int))) | 1 => Below V.heap.size V X ∧ (K2 V X 38 x (nnK f g n m) ff (.slice (some ⟨gl, 0, none⟩) 18 cl) (.slice (some ⟨gw, 0, none⟩) 18 cw) bw 18) ∧ (SliceI X v292 (zl (coE f n g m) n) (fun j => g (f j).toNat)) ∧ (SliceI X v297 (zl (pE f n) n) (fun j => (rkD (gN f) n j : Int))) | 2 => Below V.heap.size V X ∧ (K2 V X 38 x (nnK f g n m) ff (.slice (some ⟨gl, 0, none⟩) 18 cl) (.slice (some ⟨gw, 0, none⟩) 18 cw) bw 18) ∧ (SliceI X v292 (zl (coE f n g m) n) (fun j => g (f j).toNat)) ∧ (SliceI X v297 (zl (pE f n) n) (fun j => (rkD (gN f) n j : Int))) | 3 => Below V.heap.size V X ∧ (K2 V X 38 x (nnK f g n m) ff (.slice (some ⟨gl, 0, none⟩) 18 cl) (.slice (some ⟨gw, 0, none⟩) 18 cw) bw 18) ∧ (SliceI X v292 (zl (coE f n g m) n) (fun j => g (f j).toNat)) ∧ (SliceI X v297 (zl (pE f n) n) (fun j => (rkD (gN f) n j : Int))) | 4 => Below V.heap.size V X ∧ (K2 V X 38 x (nnK f g n m) ff (.slice (some ⟨gl, 0, none⟩) 18 cl) (.slice (some ⟨gw, 0, none⟩) 18 cw) bw 18) ∧ (SliceI X v292 (zl (coE f n g m) n) (fun j => g (f j).toNat)) ∧ (SliceI X v297 (zl (pE f n) n) (fun j => (rkD (gN f) n j : Int))) | 5 => Below V.heap.size V X ∧ (K2 V X 38 x (nnK f g n m) ff (.slice (some ⟨gl, 0, none⟩) 18 cl) (.slice (some ⟨gw, 0, none⟩) 18 cw) bw 18) ∧ (SliceI X v292 (zl (coE f n g m) n) (fun j => g (f j).toNat)) ∧ (SliceI X v297 (zl (pE f n) n) (fun j => (rkD (gN f) n j : Int))) | 6 => Below V.heap.size V X ∧ (K2 V X 38 x (nnK f g n m) ff (.slice (some ⟨gl, 0, none⟩) 18 cl) (.slice (some ⟨gw, 0, none⟩) 18 cw) bw 18) ∧ (SliceI X v292 (zl (coE f n g m) n) (fun j => g (f j).toNat)) ∧ (SliceI X v297 (zl (pE f n) n) (fun j => (rkD (gN f) n j : Int))) | 7 => Below V.heap.size V X ∧ (K2 V X 38 x (nnK f g n m) ff (.slice (some ⟨gl, 0, none⟩) 18 cl) (.slice (some ⟨gw, 0, none⟩) 18 cw) bw 18) ∧ (SliceI X v292 (zl (coE f n g m) n) (fun j => g (f j).toNat)) ∧ (SliceI X v297 (zl (pE f n) n) (fun j => (rkD (gN f) n j : Int))) | 8 => Below V.heap.size V X ∧ (K2 V X 38 x (nnK f g n m) ff (.slice (some ⟨gl, 0, none⟩) 18 cl) (.slice (some ⟨gw, 0, none⟩) 18 cw) bw 18) ∧ (SliceI X v292 (zl (coE f n g m) n) (fun j => g (f j).toNat)) ∧ (SliceI X v297 (zl (pE f n) n) (fun j => (rkD (gN f) n j : Int))) | 9 => Below V.heap.size V X ∧ (K2 V X 38 x (nnK f g n m) ff (.slice (some ⟨gl, 0, none⟩) 18 cl) (.slice (some ⟨gw, 0, none⟩) 18 cw) bw 18) ∧ (SliceI X v292 (zl (coE f n g m) n) (fun j => g (f j).toNat)) ∧ (SliceI X v297 (zl (pE f n) n) (fun j => (rkD (gN f) n j : Int))) | 10 => Below V.heap.size V X ∧ (K2 V X 38 x (nnK f g n m) ff (.slice (some ⟨gl, 0, none⟩) 18 cl) (.slice (some ⟨gw, 0, none⟩) 18 cw) bw 18) ∧ (SliceI X v292 (zl (coE f n g m) n) (fun j => g (f j).toNat)) ∧ (SliceI X v297 (zl (pE f n) n) (fun j => (rkD (gN f) n j : Int))) | 11 => Below V.heap.size V X ∧ (K2 V X 38 x (nnK f g n m) ff (.slice (some ⟨gl, 0, none⟩) 18 cl) (.slice (some ⟨gw, 0, none⟩) 18 cw) bw 18) ∧ (SliceI X v292 (zl (coE f n g m) n) (fun j => g (f j).toNat)) ∧ (SliceI X v297 (zl (pE f n) n) (fun j => (rkD (gN f) n j : Int))) | 12 => Below V.heap.size V X ∧ (K2 V X 38 x (nnK f g n m) ff (.slice (some ⟨gl, 0, none⟩) 18 cl) (.slice (some ⟨gw, 0, none⟩) 18 cw) bw 18) ∧ (SliceI X v292 (zl (coE f n g m) n) (fun j => g (f j).toNat)) ∧ (SliceI X v297 (zl (pE f n) n) (fun j => (rkD (gN f) n j : Int))) | _ => Below V.heap.size V X ∧ (K2 V X 38 x (nnK f g n m) ff (.slice (some ⟨gl, 0, none⟩) 18 cl) (.slice (some ⟨gw, 0, none⟩) 18 cw) bw 18) ∧ (SliceI X v292 (zl (coE f n g m) n) (fun j => g (f j).toNat)) ∧ (SliceI X v297 (zl (pE f n) n) (fun j => (rkD (gN f) n j : Int)))) (fun s => fun i_ => match i_ with | 0 => v292 | 1 => .slice (some ⟨gw, 0, none⟩) 18 cw | 2 => .pointer (some ⟨gw, 0 + 0, none⟩) | 3 => x (20 + 0) | 4 => .bool true | 5 => .bool true | 6 => v297 | 7 => .slice (some ⟨gw, 0, none⟩) 18 cw | 8 => .pointer (some ⟨gw, 0 + 4, none⟩) | 9 => x (20 + 4) | 10 => .bool true | 11 => .bool true | 12 => .bool true | _ => undef) () A.1 (by kernel_rfl) (by decide) (by decide) ⟨BB, FK, Fv292, Fv297⟩ ?_ ?_
  · intro i_ hi_ s a X hf hv hn hS
    match i_, hi_ with
    | 0, _ => exact stepV rfl rfl (execMvB rfl ((hf 38 (by decide)).trans t38)) ⟨s, ⟨_, rfl, rfl⟩, hS, fun _ _ => rfl⟩
    | 1, _ => exact stepV rfl rfl (execMvB rfl ((hf 10 (by decide)).trans t10)) ⟨s, ⟨_, rfl, rfl⟩, hS, fun _ _ => rfl⟩
    | 2, _ => exact stepV rfl rfl (execIdxLI (k := 0) rfl (hv 1 (by omega) _ rfl _ rfl) rfl (by decide)) ⟨s, ⟨_, rfl, rfl⟩, hS, fun _ _ => rfl⟩
    | 3, _ => exact stepV rfl rfl (execLdLI rfl (hv 2 (by omega) _ rfl _ rfl) (ownL_cellI (hS.2.1).wa (by decide))) ⟨s, ⟨_, rfl, rfl⟩, hS, fun _ _ => rfl⟩
    | 4, _ => exact stepC rfl rfl (execCall2 Try.func14 (by kernel_rfl) (by kernel_rfl) rfl (hv 0 (by omega) _ rfl _ rfl) (hv 3 (by omega) _ rfl _ rfl)) (sameP _ _ (zl (coE f n g m) n) _ _ X hS.2.2.1 (K2.want (t := 20 + 0) (c := 0) hS.2.1 hq.fits hn17 hm17 (h20 _ (by omega)) (by omega) (by omega) (by omega)) (fun _ _ => rfl) (Nat.le_trans (zl_le _ _) (by omega))) fun e w' hh => ⟨_, hh.1, s, ⟨_, rfl, rfl⟩, ⟨(hS.1).trans ((hh.2).mono (hS.1).size), (hS.2.1.on hh.2), (hS.2.2.1.on hh.2), (hS.2.2.2.on hh.2)⟩, fun _ _ => rfl⟩
    | 5, _ => exact stepV rfl rfl (execMvB rfl (hv 4 (by omega) _ rfl _ rfl)) ⟨s, ⟨_, rfl, rfl⟩, hS, fun _ _ => rfl⟩
    | 6, _ => exact stepV rfl (wantedOf rfl (yieldedAt rfl rfl (show a.eval (.tmp 305) = .bool true from (hv 5 (by omega) _ rfl _ rfl)))) (execMvB rfl ((hf 40 (by decide)).trans t40)) ⟨s, ⟨_, rfl, rfl⟩, hS, fun _ _ => rfl⟩
    | 7, _ => exact stepV rfl (wantedOf rfl (yieldedAt rfl rfl (show a.eval (.tmp 305) = .bool true from (hv 5 (by omega) _ rfl _ rfl)))) (execMvB rfl ((hf 10 (by decide)).trans t10)) ⟨s, ⟨_, rfl, rfl⟩, hS, fun _ _ => rfl⟩
    | 8, _ => exact stepV rfl (wantedOf rfl (yieldedAt rfl rfl (show a.eval (.tmp 305) = .bool true from (hv 5 (by omega) _ rfl _ rfl)))) (execIdxLI (k := 4) rfl (hv 7 (by omega) _ rfl _ rfl) rfl (by decide)) ⟨s, ⟨_, rfl, rfl⟩, hS, fun _ _ => rfl⟩
    | 9, _ => exact stepV rfl (wantedOf rfl (yieldedAt rfl rfl (show a.eval (.tmp 305) = .bool true from (hv 5 (by omega) _ rfl _ rfl)))) (execLdLI rfl (hv 8 (by omega) _ rfl _ rfl) (ownL_cellI (hS.2.1).wa (by decide))) ⟨s, ⟨_, rfl, rfl⟩, hS, fun _ _ => rfl⟩
    | 10, _ => exact stepC rfl (wantedOf rfl (yieldedAt rfl rfl (show a.eval (.tmp 305) = .bool true from (hv 5 (by omega) _ rfl _ rfl)))) (execCall2 Try.func14 (by kernel_rfl) (by kernel_rfl) rfl (hv 6 (by omega) _ rfl _ rfl) (hv 9 (by omega) _ rfl _ rfl)) (sameP _ _ (zl (pE f n) n) _ _ X hS.2.2.2 (K2.want (t := 20 + 4) (c := 4) hS.2.1 hq.fits hn17 hm17 (h20 _ (by omega)) (by omega) (by omega) (by omega)) (fun _ _ => rfl) (Nat.le_trans (zl_le _ _) (by omega))) fun e w' hh => ⟨_, hh.1, s, ⟨_, rfl, rfl⟩, ⟨(hS.1).trans ((hh.2).mono (hS.1).size), (hS.2.1.on hh.2), (hS.2.2.1.on hh.2), (hS.2.2.2.on hh.2)⟩, fun _ _ => rfl⟩
    | 11, _ => exact stepV rfl rfl (execPickT rfl (hv 5 (by omega) _ rfl _ rfl) (hv 10 (by omega) _ rfl _ rfl)) ⟨s, ⟨_, rfl, rfl⟩, hS, fun _ _ => rfl⟩
    | 12, _ => exact stepV rfl rfl (execAsgB rfl (hv 11 (by omega) _ rfl _ rfl)) ⟨s, ⟨_, rfl, rfl⟩, hS, fun _ _ => rfl⟩
    | k_ + 13, h_ => exact absurd h_ (by simp)
  rintro _ a X66 h1 h2 h3 h4 hS
  clear BB
  clear FK
  clear Fv292
  clear Fv297
  replace hS : Below V.heap.size V X66 ∧ (K2 V X66 38 x (nnK f g n m) ff (.slice (some ⟨gl, 0, none⟩) 18 cl) (.slice (some ⟨gw, 0, none⟩) 18 cw) bw 18) ∧ (SliceI X66 v292 (zl (coE f n g m) n) (fun j => g (f j).toNat)) ∧ (SliceI X66 v297 (zl (pE f n) n) (fun j => (rkD (gN f) n j : Int))) := hS
  obtain ⟨BB, FK, Fv292, Fv297⟩ := hS
  have t4 : a.eval (.tmp 4) = .bool true := h4 12 _ rfl _ rfl
  replace A := (⟨h1, h2.trans A.2⟩ : a.tmps.size = 312 ∧ a.defers = [])
  clear h1 h2 h3 h4
  clear t10 t38 t40
  refine wp_ret ?_
  refine bodyPost_ret (results_tmp rfl _ _ _) A.2 ⟨?_, BB⟩
  show Ending.returned (a.eval (.tmp 4)) = _
  rw [t4]
set_option maxRecDepth 100000 in
set_option maxHeartbeats 4000000 in
/-- PermKeeps, from region 48: the appends. -/
theorem keeps48 (I : Impl) (V : World) (f g : Nat → Int) (n m : Nat) (pv qv : Value) (hp : SliceI V pv n f) (hq : SliceI V qv m g) (hn17 : n ≤ 17592186043904) (hm17 : m ≤ 17592186043904) (S : World) (x : Nat → Value) (ff : Nat → Nat → Int) (gl cl gw cw bw : Nat) (BB : Below V.heap.size V S) (h20 : ∀ t, 20 ≤ t → ff t = ffK f g n m t) (hmk : ∀ s, s < 18 → ∀ j, j < nnK f g n m (2 + s) → ff (2 + s) j = -100 - (s : Int)) (FK : (K2 V S 38 x (nnK f g n m) ff (.slice (some ⟨gl, 0, none⟩) 18 cl) (.slice (some ⟨gw, 0, none⟩) 18 cw) bw 18))
    (a : Act) (A : a.tmps.size = 312 ∧ a.defers = []) (t0 : a.eval (.tmp 0) = pv) (t1 : a.eval (.tmp 1) = qv) (t9 : a.eval (.tmp 9) = .slice (some ⟨gl, 0, none⟩) 18 cl) (t10 : a.eval (.tmp 10) = .slice (some ⟨gw, 0, none⟩) 18 cw) :
    (findR 48 (Try.f3.body.getD .skip)).wp Try.prog (bodyPost Try.prog Try.f3 fun e w' => e = .returned (.bool true) ∧ Below V.heap.size V w') a S := by
  have FI := hp
  have FJ := hq
  refine wp_seq ?_
  refine wp_seq ?_
  refine wp_region_sq (σ := Unit) 312 [(0, 33)] (fun j_ s X => match j_ with | 0 => Below V.heap.size V X ∧ (K2 V X 38 x (nnK f g n m) ff (.slice (some ⟨gl, 0, none⟩) 18 cl) (.slice (some ⟨gw, 0, none⟩) 18 cw) bw 18) | _ => Below V.heap.size V X ∧ (K2 V X 38 x (nnK f g n m) ff (.slice (some ⟨gl, 0, none⟩) 18 cl) (.slice (some ⟨gw, 0, none⟩) 18 cw) bw 18)) (fun s => fun i_ => match i_ with | 0 => .int .i64 ((0 : Nat) : Int) | _ => undef) () A.1 (by kernel_rfl) (by decide) (by decide) ⟨BB, FK⟩ ?_ ?_
  · intro i_ hi_ s a X hf hv hn hS
    match i_, hi_ with
    | 0, _ => exact stepV rfl rfl (execAsgB rfl rfl) ⟨s, ⟨_, rfl, rfl⟩, hS, fun _ _ => rfl⟩
    | k_ + 1, h_ => exact absurd h_ (by simp)
  rintro _ a X48 h1 h2 h3 h4 hS
  clear BB
  clear FK
  replace hS : Below V.heap.size V X48 ∧ (K2 V X48 38 x (nnK f g n m) ff (.slice (some ⟨gl, 0, none⟩) 18 cl) (.slice (some ⟨gw, 0, none⟩) 18 cw) bw 18) := hS
  obtain ⟨BB, FK⟩ := hS
  replace t0 := (h3 0 (by decide)).trans t0
  replace t1 := (h3 1 (by decide)).trans t1
  replace t9 := (h3 9 (by decide)).trans t9
  replace t10 := (h3 10 (by decide)).trans t10
  have t33 : a.eval (.tmp 33) = .int .i64 ((0 : Nat) : Int) := h4 0 _ rfl _ rfl
  replace A := (⟨h1, h2.trans A.2⟩ : a.tmps.size = 312 ∧ a.defers = [])
  clear h1 h2 h3 h4
  refine wp_block ?_
  refine wp_loop (fun a W => ∃ (c : Nat), c ≤ 2 ∧ (a.tmps.size = 312 ∧ a.defers = []) ∧ a.eval (.tmp 0) = pv ∧ a.eval (.tmp 1) = qv ∧ a.eval (.tmp 9) = .slice (some ⟨gl, 0, none⟩) 18 cl ∧ a.eval (.tmp 10) = .slice (some ⟨gw, 0, none⟩) 18 cw ∧ a.eval (.tmp 33) = .int .i64 ((c : Nat) : Int) ∧ Below V.heap.size V W ∧ (K2 V W 38 x (nnK f g n m) ff (.slice (some ⟨gl, 0, none⟩) 18 cl) (.slice (some ⟨gw, 0, none⟩) 18 cw) bw 18)) (fun a _ => 2 - (intOf (a.eval (.tmp 33))).toNat) ⟨0, Nat.zero_le _, A, t0, t1, t9, t10, t33, BB, FK⟩ ?_
  clear A t0 t1 t9 t10 t33 BB FK a
  rintro a XL49 ⟨c, hc, A, t0, t1, t9, t10, t33, BB, FK⟩
  have esc := t33
  refine wp_seq ?_
  refine wp_seq ?_
  refine wp_region_sq (σ := Unit) 312 [(0, 255), (1, 256)] (fun j_ s X => match j_ with | 0 => Below V.heap.size V X ∧ (K2 V X 38 x (nnK f g n m) ff (.slice (some ⟨gl, 0, none⟩) 18 cl) (.slice (some ⟨gw, 0, none⟩) 18 cw) bw 18) | 1 => Below V.heap.size V X ∧ (K2 V X 38 x (nnK f g n m) ff (.slice (some ⟨gl, 0, none⟩) 18 cl) (.slice (some ⟨gw, 0, none⟩) 18 cw) bw 18) | _ => Below V.heap.size V X ∧ (K2 V X 38 x (nnK f g n m) ff (.slice (some ⟨gl, 0, none⟩) 18 cl) (.slice (some ⟨gw, 0, none⟩) 18 cw) bw 18)) (fun s => fun i_ => match i_ with | 0 => .int .i64 ((c : Nat) : Int) | 1 => .bool (decide (c < 2)) | _ => undef) () A.1 (by kernel_rfl) (by decide) (by decide) ⟨BB, FK⟩ ?_ ?_
  · intro i_ hi_ s a X hf hv hn hS
    match i_, hi_ with
    | 0, _ => exact stepV rfl rfl (execMvB rfl ((hf 33 (by decide)).trans t33)) ⟨s, ⟨_, rfl, rfl⟩, hS, fun _ _ => rfl⟩
    | 1, _ => exact stepV rfl rfl (execLtW (p := c) (q := 2) rfl (hv 0 (by omega) _ rfl _ rfl) rfl) ⟨s, ⟨_, rfl, rfl⟩, hS, fun _ _ => rfl⟩
    | k_ + 2, h_ => exact absurd h_ (by simp)
  rintro _ a X49 h1 h2 h3 h4 hS
  clear BB
  clear FK
  replace hS : Below V.heap.size V X49 ∧ (K2 V X49 38 x (nnK f g n m) ff (.slice (some ⟨gl, 0, none⟩) 18 cl) (.slice (some ⟨gw, 0, none⟩) 18 cw) bw 18) := hS
  obtain ⟨BB, FK⟩ := hS
  replace t0 := (h3 0 (by decide)).trans t0
  replace t1 := (h3 1 (by decide)).trans t1
  replace t9 := (h3 9 (by decide)).trans t9
  replace t10 := (h3 10 (by decide)).trans t10
  replace t33 := (h3 33 (by decide)).trans t33
  have t256 : a.eval (.tmp 256) = .bool (decide (c < 2)) := h4 1 _ rfl _ rfl
  replace A := (⟨h1, h2.trans A.2⟩ : a.tmps.size = 312 ∧ a.defers = [])
  clear h1 h2 h3 h4
  by_cases ltc : c < 2
  · rw [decide_eq_true ltc] at t256
    refine wp_cond_true t256 ?_
    refine wp_skip ?_
    clear t256
    refine wp_seq ?_
    refine wp_block ?_
    refine wp_seq ?_
    refine wp_region_sq (σ := Unit) 312 [(0, 34)] (fun j_ s X => match j_ with | 0 => Below V.heap.size V X ∧ (K2 V X 38 x (nnK f g n m) ff (.slice (some ⟨gl, 0, none⟩) 18 cl) (.slice (some ⟨gw, 0, none⟩) 18 cw) bw 18) | _ => Below V.heap.size V X ∧ (K2 V X 38 x (nnK f g n m) ff (.slice (some ⟨gl, 0, none⟩) 18 cl) (.slice (some ⟨gw, 0, none⟩) 18 cw) bw 18)) (fun s => fun i_ => match i_ with | 0 => .int .i64 ((0 : Nat) : Int) | _ => undef) () A.1 (by kernel_rfl) (by decide) (by decide) ⟨BB, FK⟩ ?_ ?_
    · intro i_ hi_ s a X hf hv hn hS
      match i_, hi_ with
      | 0, _ => exact stepV rfl rfl (execAsgB rfl rfl) ⟨s, ⟨_, rfl, rfl⟩, hS, fun _ _ => rfl⟩
      | k_ + 1, h_ => exact absurd h_ (by simp)
    rintro _ a X51 h1 h2 h3 h4 hS
    clear BB
    clear FK
    replace hS : Below V.heap.size V X51 ∧ (K2 V X51 38 x (nnK f g n m) ff (.slice (some ⟨gl, 0, none⟩) 18 cl) (.slice (some ⟨gw, 0, none⟩) 18 cw) bw 18) := hS
    obtain ⟨BB, FK⟩ := hS
    replace t0 := (h3 0 (by decide)).trans t0
    replace t1 := (h3 1 (by decide)).trans t1
    replace t9 := (h3 9 (by decide)).trans t9
    replace t10 := (h3 10 (by decide)).trans t10
    replace t33 := (h3 33 (by decide)).trans t33
    have t34 : a.eval (.tmp 34) = .int .i64 ((0 : Nat) : Int) := h4 0 _ rfl _ rfl
    replace A := (⟨h1, h2.trans A.2⟩ : a.tmps.size = 312 ∧ a.defers = [])
    clear h1 h2 h3 h4
    refine wp_block ?_
    refine wp_loop (fun a W => ∃ (i : Nat), i ≤ 18 ∧ (a.tmps.size = 312 ∧ a.defers = []) ∧ a.eval (.tmp 0) = pv ∧ a.eval (.tmp 1) = qv ∧ a.eval (.tmp 9) = .slice (some ⟨gl, 0, none⟩) 18 cl ∧ a.eval (.tmp 10) = .slice (some ⟨gw, 0, none⟩) 18 cw ∧ a.eval (.tmp 33) = .int .i64 ((c : Nat) : Int) ∧ a.eval (.tmp 34) = .int .i64 ((i : Nat) : Int) ∧ Below V.heap.size V W ∧ (K2 V W 38 x (nnK f g n m) ff (.slice (some ⟨gl, 0, none⟩) 18 cl) (.slice (some ⟨gw, 0, none⟩) 18 cw) bw 18)) (fun a _ => 18 - (intOf (a.eval (.tmp 34))).toNat) ⟨0, Nat.zero_le _, A, t0, t1, t9, t10, t33, t34, BB, FK⟩ ?_
    clear A t0 t1 t9 t10 t33 t34 BB FK a
    rintro a XL52 ⟨i, hi, A, t0, t1, t9, t10, t33, t34, BB, FK⟩
    have esi := t34
    refine wp_seq ?_
    refine wp_seq ?_
    refine wp_region_sq (σ := Unit) 312 [(0, 259), (1, 260), (2, 261), (3, 262)] (fun j_ s X => match j_ with | 0 => Below V.heap.size V X ∧ (K2 V X 38 x (nnK f g n m) ff (.slice (some ⟨gl, 0, none⟩) 18 cl) (.slice (some ⟨gw, 0, none⟩) 18 cw) bw 18) | 1 => Below V.heap.size V X ∧ (K2 V X 38 x (nnK f g n m) ff (.slice (some ⟨gl, 0, none⟩) 18 cl) (.slice (some ⟨gw, 0, none⟩) 18 cw) bw 18) | 2 => Below V.heap.size V X ∧ (K2 V X 38 x (nnK f g n m) ff (.slice (some ⟨gl, 0, none⟩) 18 cl) (.slice (some ⟨gw, 0, none⟩) 18 cw) bw 18) | 3 => Below V.heap.size V X ∧ (K2 V X 38 x (nnK f g n m) ff (.slice (some ⟨gl, 0, none⟩) 18 cl) (.slice (some ⟨gw, 0, none⟩) 18 cw) bw 18) | _ => Below V.heap.size V X ∧ (K2 V X 38 x (nnK f g n m) ff (.slice (some ⟨gl, 0, none⟩) 18 cl) (.slice (some ⟨gw, 0, none⟩) 18 cw) bw 18)) (fun s => fun i_ => match i_ with | 0 => .int .i64 ((i : Nat) : Int) | 1 => .slice (some ⟨gl, 0, none⟩) 18 cl | 2 => .int .i64 ((18 : Nat) : Int) | 3 => .bool (decide (i < 18)) | _ => undef) () A.1 (by kernel_rfl) (by decide) (by decide) ⟨BB, FK⟩ ?_ ?_
    · intro i_ hi_ s a X hf hv hn hS
      match i_, hi_ with
      | 0, _ => exact stepV rfl rfl (execMvB rfl ((hf 34 (by decide)).trans t34)) ⟨s, ⟨_, rfl, rfl⟩, hS, fun _ _ => rfl⟩
      | 1, _ => exact stepV rfl rfl (execMvB rfl ((hf 9 (by decide)).trans t9)) ⟨s, ⟨_, rfl, rfl⟩, hS, fun _ _ => rfl⟩
      | 2, _ => exact stepV rfl rfl (execLenLI (len := 18) rfl (hv 1 (by omega) _ rfl _ rfl) ⟨_, _, rfl⟩) ⟨s, ⟨_, rfl, rfl⟩, hS, fun _ _ => rfl⟩
      | 3, _ => exact stepV rfl rfl (execLtW (p := i) (q := 18) rfl (hv 0 (by omega) _ rfl _ rfl) (hv 2 (by omega) _ rfl _ rfl)) ⟨s, ⟨_, rfl, rfl⟩, hS, fun _ _ => rfl⟩
      | k_ + 4, h_ => exact absurd h_ (by simp)
    rintro _ a X52 h1 h2 h3 h4 hS
    clear BB
    clear FK
    replace hS : Below V.heap.size V X52 ∧ (K2 V X52 38 x (nnK f g n m) ff (.slice (some ⟨gl, 0, none⟩) 18 cl) (.slice (some ⟨gw, 0, none⟩) 18 cw) bw 18) := hS
    obtain ⟨BB, FK⟩ := hS
    replace t0 := (h3 0 (by decide)).trans t0
    replace t1 := (h3 1 (by decide)).trans t1
    replace t9 := (h3 9 (by decide)).trans t9
    replace t10 := (h3 10 (by decide)).trans t10
    replace t33 := (h3 33 (by decide)).trans t33
    replace t34 := (h3 34 (by decide)).trans t34
    have t262 : a.eval (.tmp 262) = .bool (decide (i < 18)) := h4 3 _ rfl _ rfl
    replace A := (⟨h1, h2.trans A.2⟩ : a.tmps.size = 312 ∧ a.defers = [])
    clear h1 h2 h3 h4
    by_cases lti : i < 18
    · rw [decide_eq_true lti] at t262
      refine wp_cond_true t262 ?_
      refine wp_skip ?_
      clear t262
      refine wp_seq ?_
      refine wp_block ?_
      have hnl := nnK_le (f := f) (g := g) (t := 2 + i) hn17 hm17
      refine wp_seq ?_
      refine wp_region_sq (σ := Unit) 312 [(0, 265), (1, 266), (2, 267), (3, 268), (4, 35)] (fun j_ s X => match j_ with | 0 => Below V.heap.size V X ∧ (K2 V X 38 x (nnK f g n m) ff (.slice (some ⟨gl, 0, none⟩) 18 cl) (.slice (some ⟨gw, 0, none⟩) 18 cw) bw 18) | 1 => Below V.heap.size V X ∧ (K2 V X 38 x (nnK f g n m) ff (.slice (some ⟨gl, 0, none⟩) 18 cl) (.slice (some ⟨gw, 0, none⟩) 18 cw) bw 18) | 2 => Below V.heap.size V X ∧ (K2 V X 38 x (nnK f g n m) ff (.slice (some ⟨gl, 0, none⟩) 18 cl) (.slice (some ⟨gw, 0, none⟩) 18 cw) bw 18) | 3 => Below V.heap.size V X ∧ (K2 V X 38 x (nnK f g n m) ff (.slice (some ⟨gl, 0, none⟩) 18 cl) (.slice (some ⟨gw, 0, none⟩) 18 cw) bw 18) | 4 => Below V.heap.size V X ∧ (K2 V X 38 x (nnK f g n m) ff (.slice (some ⟨gl, 0, none⟩) 18 cl) (.slice (some ⟨gw, 0, none⟩) 18 cw) bw 18) | _ => Below V.heap.size V X ∧ (K2 V X 38 x (nnK f g n m) ff (.slice (some ⟨gl, 0, none⟩) 18 cl) (.slice (some ⟨gw, 0, none⟩) 18 cw) bw 18)) (fun s => fun i_ => match i_ with | 0 => .slice (some ⟨gl, 0, none⟩) 18 cl | 1 => .int .i64 ((i : Nat) : Int) | 2 => .pointer (some ⟨gl, 0 + i, none⟩) | 3 => x (2 + i) | 4 => x (2 + i) | _ => undef) () A.1 (by kernel_rfl) (by decide) (by decide) ⟨BB, FK⟩ ?_ ?_
      · intro i_ hi_ s a X hf hv hn hS
        match i_, hi_ with
        | 0, _ => exact stepV rfl rfl (execMvB rfl ((hf 9 (by decide)).trans t9)) ⟨s, ⟨_, rfl, rfl⟩, hS, fun _ _ => rfl⟩
        | 1, _ => exact stepV rfl rfl (execMvB rfl ((hf 34 (by decide)).trans t34)) ⟨s, ⟨_, rfl, rfl⟩, hS, fun _ _ => rfl⟩
        | 2, _ => exact stepV rfl rfl (execIdxLI (k := i) rfl (hv 0 (by omega) _ rfl _ rfl) (hv 1 (by omega) _ rfl _ rfl) (by omega)) ⟨s, ⟨_, rfl, rfl⟩, hS, fun _ _ => rfl⟩
        | 3, _ => exact stepV rfl rfl (execLdLI rfl (hv 2 (by omega) _ rfl _ rfl) (ownL_cellI (hS.2).k1.li (by omega))) ⟨s, ⟨_, rfl, rfl⟩, hS, fun _ _ => rfl⟩
        | 4, _ => exact stepV rfl rfl (execAsgB rfl (hv 3 (by omega) _ rfl _ rfl)) ⟨s, ⟨_, rfl, rfl⟩, hS, fun _ _ => rfl⟩
        | k_ + 5, h_ => exact absurd h_ (by simp)
      rintro _ a X54 h1 h2 h3 h4 hS
      clear BB
      clear FK
      replace hS : Below V.heap.size V X54 ∧ (K2 V X54 38 x (nnK f g n m) ff (.slice (some ⟨gl, 0, none⟩) 18 cl) (.slice (some ⟨gw, 0, none⟩) 18 cw) bw 18) := hS
      obtain ⟨BB, FK⟩ := hS
      replace t0 := (h3 0 (by decide)).trans t0
      replace t1 := (h3 1 (by decide)).trans t1
      replace t9 := (h3 9 (by decide)).trans t9
      replace t10 := (h3 10 (by decide)).trans t10
      replace t33 := (h3 33 (by decide)).trans t33
      replace t34 := (h3 34 (by decide)).trans t34
      have t35 : a.eval (.tmp 35) = x (2 + i) := h4 4 _ rfl _ rfl
      replace A := (⟨h1, h2.trans A.2⟩ : a.tmps.size = 312 ∧ a.defers = [])
      clear h1 h2 h3 h4
      refine wp_seq ?_
      refine wp_seq ?_
      refine wp_region_sq (σ := Unit) 312 [(0, 36)] (fun j_ s X => match j_ with | 0 => Below V.heap.size V X ∧ (K2 V X 38 x (nnK f g n m) ff (.slice (some ⟨gl, 0, none⟩) 18 cl) (.slice (some ⟨gw, 0, none⟩) 18 cw) bw 18) | _ => Below V.heap.size V X ∧ (K2 V X 38 x (nnK f g n m) ff (.slice (some ⟨gl, 0, none⟩) 18 cl) (.slice (some ⟨gw, 0, none⟩) 18 cw) bw 18)) (fun s => fun i_ => match i_ with | 0 => .int .i64 ((0 : Nat) : Int) | _ => undef) () A.1 (by kernel_rfl) (by decide) (by decide) ⟨BB, FK⟩ ?_ ?_
      · intro i_ hi_ s a X hf hv hn hS
        match i_, hi_ with
        | 0, _ => exact stepV rfl rfl (execAsgB rfl rfl) ⟨s, ⟨_, rfl, rfl⟩, hS, fun _ _ => rfl⟩
        | k_ + 1, h_ => exact absurd h_ (by simp)
      rintro _ a X55 h1 h2 h3 h4 hS
      clear BB
      clear FK
      replace hS : Below V.heap.size V X55 ∧ (K2 V X55 38 x (nnK f g n m) ff (.slice (some ⟨gl, 0, none⟩) 18 cl) (.slice (some ⟨gw, 0, none⟩) 18 cw) bw 18) := hS
      obtain ⟨BB, FK⟩ := hS
      replace t0 := (h3 0 (by decide)).trans t0
      replace t1 := (h3 1 (by decide)).trans t1
      replace t9 := (h3 9 (by decide)).trans t9
      replace t10 := (h3 10 (by decide)).trans t10
      replace t33 := (h3 33 (by decide)).trans t33
      replace t34 := (h3 34 (by decide)).trans t34
      replace t35 := (h3 35 (by decide)).trans t35
      have t36 : a.eval (.tmp 36) = .int .i64 ((0 : Nat) : Int) := h4 0 _ rfl _ rfl
      replace A := (⟨h1, h2.trans A.2⟩ : a.tmps.size = 312 ∧ a.defers = [])
      clear h1 h2 h3 h4
      refine wp_block ?_
      refine wp_loop (fun a W => ∃ (j : Nat), j ≤ nnK f g n m (2 + i) ∧ (a.tmps.size = 312 ∧ a.defers = []) ∧ a.eval (.tmp 0) = pv ∧ a.eval (.tmp 1) = qv ∧ a.eval (.tmp 9) = .slice (some ⟨gl, 0, none⟩) 18 cl ∧ a.eval (.tmp 10) = .slice (some ⟨gw, 0, none⟩) 18 cw ∧ a.eval (.tmp 33) = .int .i64 ((c : Nat) : Int) ∧ a.eval (.tmp 34) = .int .i64 ((i : Nat) : Int) ∧ a.eval (.tmp 35) = x (2 + i) ∧ a.eval (.tmp 36) = .int .i64 ((j : Nat) : Int) ∧ Below V.heap.size V W ∧ (K2 V W 38 x (nnK f g n m) ff (.slice (some ⟨gl, 0, none⟩) 18 cl) (.slice (some ⟨gw, 0, none⟩) 18 cw) bw 18)) (fun a _ => nnK f g n m (2 + i) - (intOf (a.eval (.tmp 36))).toNat) ⟨0, Nat.zero_le _, A, t0, t1, t9, t10, t33, t34, t35, t36, BB, FK⟩ ?_
      clear A t0 t1 t9 t10 t33 t34 t35 t36 BB FK a
      rintro a XL56 ⟨j, hj, A, t0, t1, t9, t10, t33, t34, t35, t36, BB, FK⟩
      have esj := t36
      refine wp_seq ?_
      refine wp_seq ?_
      refine wp_region_sq (σ := Unit) 312 [(0, 269), (1, 270), (2, 271), (3, 272)] (fun j_ s X => match j_ with | 0 => Below V.heap.size V X ∧ (K2 V X 38 x (nnK f g n m) ff (.slice (some ⟨gl, 0, none⟩) 18 cl) (.slice (some ⟨gw, 0, none⟩) 18 cw) bw 18) | 1 => Below V.heap.size V X ∧ (K2 V X 38 x (nnK f g n m) ff (.slice (some ⟨gl, 0, none⟩) 18 cl) (.slice (some ⟨gw, 0, none⟩) 18 cw) bw 18) | 2 => Below V.heap.size V X ∧ (K2 V X 38 x (nnK f g n m) ff (.slice (some ⟨gl, 0, none⟩) 18 cl) (.slice (some ⟨gw, 0, none⟩) 18 cw) bw 18) | 3 => Below V.heap.size V X ∧ (K2 V X 38 x (nnK f g n m) ff (.slice (some ⟨gl, 0, none⟩) 18 cl) (.slice (some ⟨gw, 0, none⟩) 18 cw) bw 18) | _ => Below V.heap.size V X ∧ (K2 V X 38 x (nnK f g n m) ff (.slice (some ⟨gl, 0, none⟩) 18 cl) (.slice (some ⟨gw, 0, none⟩) 18 cw) bw 18)) (fun s => fun i_ => match i_ with | 0 => .int .i64 ((j : Nat) : Int) | 1 => x (2 + i) | 2 => .int .i64 ((nnK f g n m (2 + i) : Nat) : Int) | 3 => .bool (decide (j < nnK f g n m (2 + i))) | _ => undef) () A.1 (by kernel_rfl) (by decide) (by decide) ⟨BB, FK⟩ ?_ ?_
      · intro i_ hi_ s a X hf hv hn hS
        match i_, hi_ with
        | 0, _ => exact stepV rfl rfl (execMvB rfl ((hf 36 (by decide)).trans t36)) ⟨s, ⟨_, rfl, rfl⟩, hS, fun _ _ => rfl⟩
        | 1, _ => exact stepV rfl rfl (execMvB rfl ((hf 35 (by decide)).trans t35)) ⟨s, ⟨_, rfl, rfl⟩, hS, fun _ _ => rfl⟩
        | 2, _ => exact stepV rfl rfl (execLenI (len := nnK f g n m (2 + i)) rfl (hv 1 (by omega) _ rfl _ rfl) (shpO ((hS.2).k1.fam.rows (2 + i) (by omega)))) ⟨s, ⟨_, rfl, rfl⟩, hS, fun _ _ => rfl⟩
        | 3, _ => exact stepV rfl rfl (execLtW (p := j) (q := nnK f g n m (2 + i)) rfl (hv 0 (by omega) _ rfl _ rfl) (hv 2 (by omega) _ rfl _ rfl)) ⟨s, ⟨_, rfl, rfl⟩, hS, fun _ _ => rfl⟩
        | k_ + 4, h_ => exact absurd h_ (by simp)
      rintro _ a X56 h1 h2 h3 h4 hS
      clear BB
      clear FK
      replace hS : Below V.heap.size V X56 ∧ (K2 V X56 38 x (nnK f g n m) ff (.slice (some ⟨gl, 0, none⟩) 18 cl) (.slice (some ⟨gw, 0, none⟩) 18 cw) bw 18) := hS
      obtain ⟨BB, FK⟩ := hS
      replace t0 := (h3 0 (by decide)).trans t0
      replace t1 := (h3 1 (by decide)).trans t1
      replace t9 := (h3 9 (by decide)).trans t9
      replace t10 := (h3 10 (by decide)).trans t10
      replace t33 := (h3 33 (by decide)).trans t33
      replace t34 := (h3 34 (by decide)).trans t34
      replace t35 := (h3 35 (by decide)).trans t35
      replace t36 := (h3 36 (by decide)).trans t36
      have t272 : a.eval (.tmp 272) = .bool (decide (j < nnK f g n m (2 + i))) := h4 3 _ rfl _ rfl
      replace A := (⟨h1, h2.trans A.2⟩ : a.tmps.size = 312 ∧ a.defers = [])
      clear h1 h2 h3 h4
      by_cases ltj : j < nnK f g n m (2 + i)
      · rw [decide_eq_true ltj] at t272
        refine wp_cond_true t272 ?_
        refine wp_skip ?_
        clear t272
        refine wp_seq ?_
        refine wp_block ?_
        obtain ⟨g0, c0, ex0, _, _⟩ := ownL_some9 (FK.k1.fam.rows (2 + i) (by omega)) (by omega)
        refine wp_seq ?_
        refine wp_region_sq (σ := Unit) 312 [(0, 275), (1, 276), (2, 277), (3, 278), (4, 279), (5, 280), (6, 281)] (fun j_ s X => match j_ with | 0 => Below V.heap.size V X ∧ (K2 V X 38 x (nnK f g n m) ff (.slice (some ⟨gl, 0, none⟩) 18 cl) (.slice (some ⟨gw, 0, none⟩) 18 cw) bw 18) | 1 => Below V.heap.size V X ∧ (K2 V X 38 x (nnK f g n m) ff (.slice (some ⟨gl, 0, none⟩) 18 cl) (.slice (some ⟨gw, 0, none⟩) 18 cw) bw 18) | 2 => Below V.heap.size V X ∧ (K2 V X 38 x (nnK f g n m) ff (.slice (some ⟨gl, 0, none⟩) 18 cl) (.slice (some ⟨gw, 0, none⟩) 18 cw) bw 18) | 3 => Below V.heap.size V X ∧ (K2 V X 38 x (nnK f g n m) ff (.slice (some ⟨gl, 0, none⟩) 18 cl) (.slice (some ⟨gw, 0, none⟩) 18 cw) bw 18) | 4 => Below V.heap.size V X ∧ (K2 V X 38 x (nnK f g n m) ff (.slice (some ⟨gl, 0, none⟩) 18 cl) (.slice (some ⟨gw, 0, none⟩) 18 cw) bw 18) | 5 => Below V.heap.size V X ∧ (K2 V X 38 x (nnK f g n m) ff (.slice (some ⟨gl, 0, none⟩) 18 cl) (.slice (some ⟨gw, 0, none⟩) 18 cw) bw 18) | 6 => Below V.heap.size V X ∧ (K2 V X 38 x (nnK f g n m) ff (.slice (some ⟨gl, 0, none⟩) 18 cl) (.slice (some ⟨gw, 0, none⟩) 18 cw) bw 18) | _ => Below V.heap.size V X ∧ (K2 V X 38 x (nnK f g n m) ff (.slice (some ⟨gl, 0, none⟩) 18 cl) (.slice (some ⟨gw, 0, none⟩) 18 cw) bw 18)) (fun s => fun i_ => match i_ with | 0 => x (2 + i) | 1 => .int .i64 ((j : Nat) : Int) | 2 => .pointer (some ⟨g0, 0 + j, none⟩) | 3 => .int .i64 (-100 - (i : Int)) | 4 => .int .i64 ((i : Nat) : Int) | 5 => .int .i64 (-100 - (i : Int)) | 6 => .bool false | _ => undef) () A.1 (by kernel_rfl) (by decide) (by decide) ⟨BB, FK⟩ ?_ ?_
        · intro i_ hi_ s a X hf hv hn hS
          match i_, hi_ with
          | 0, _ => exact stepV rfl rfl (execMvB rfl ((hf 35 (by decide)).trans t35)) ⟨s, ⟨_, rfl, rfl⟩, hS, fun _ _ => rfl⟩
          | 1, _ => exact stepV rfl rfl (execMvB rfl ((hf 36 (by decide)).trans t36)) ⟨s, ⟨_, rfl, rfl⟩, hS, fun _ _ => rfl⟩
          | 2, _ => exact stepV rfl rfl (execIdxN (k := j) rfl ((hv 0 (by omega) _ rfl _ rfl).trans ex0) (hv 1 (by omega) _ rfl _ rfl) ltj) ⟨s, ⟨_, rfl, rfl⟩, hS, fun _ _ => rfl⟩
          | 3, _ => exact stepV rfl rfl (execLd3 rfl (hv 2 (by omega) _ rfl _ rfl) (by rw [(hS.2.k1.fam.cell (by omega) ex0 ltj).1, hmk i lti j ltj])) ⟨s, ⟨_, rfl, rfl⟩, hS, fun _ _ => rfl⟩
          | 4, _ => exact stepV rfl rfl (execMvB rfl ((hf 34 (by decide)).trans t34)) ⟨s, ⟨_, rfl, rfl⟩, hS, fun _ _ => rfl⟩
          | 5, _ => exact stepV rfl rfl (execSubIg (p := -100) (q := (i : Int)) (z := -100 - (i : Int)) rfl rfl (hv 4 (by omega) _ rfl _ rfl) rfl (by omega) (by omega)) ⟨s, ⟨_, rfl, rfl⟩, hS, fun _ _ => rfl⟩
          | 6, _ => exact stepV rfl rfl (execNeI rfl (hv 3 (by omega) _ rfl _ rfl) (hv 5 (by omega) _ rfl _ rfl)) ⟨s, ⟨_, rfl, rfl⟩, hS, fun _ _ => rfl⟩
          | k_ + 7, h_ => exact absurd h_ (by simp)
        rintro _ a X58 h1 h2 h3 h4 hS
        clear BB
        clear FK
        replace hS : Below V.heap.size V X58 ∧ (K2 V X58 38 x (nnK f g n m) ff (.slice (some ⟨gl, 0, none⟩) 18 cl) (.slice (some ⟨gw, 0, none⟩) 18 cw) bw 18) := hS
        obtain ⟨BB, FK⟩ := hS
        replace t0 := (h3 0 (by decide)).trans t0
        replace t1 := (h3 1 (by decide)).trans t1
        replace t9 := (h3 9 (by decide)).trans t9
        replace t10 := (h3 10 (by decide)).trans t10
        replace t33 := (h3 33 (by decide)).trans t33
        replace t34 := (h3 34 (by decide)).trans t34
        replace t35 := (h3 35 (by decide)).trans t35
        replace t36 := (h3 36 (by decide)).trans t36
        have t281 : a.eval (.tmp 281) = .bool false := h4 6 _ rfl _ rfl
        replace A := (⟨h1, h2.trans A.2⟩ : a.tmps.size = 312 ∧ a.defers = [])
        clear h1 h2 h3 h4
        refine wp_cond_false t281 ?_
        refine wp_skip ?_
        clear t281
        refine wp_region_sq (σ := Unit) 312 [(0, 273), (1, 274), (2, 36)] (fun j_ s X => match j_ with | 0 => Below V.heap.size V X ∧ (K2 V X 38 x (nnK f g n m) ff (.slice (some ⟨gl, 0, none⟩) 18 cl) (.slice (some ⟨gw, 0, none⟩) 18 cw) bw 18) | 1 => Below V.heap.size V X ∧ (K2 V X 38 x (nnK f g n m) ff (.slice (some ⟨gl, 0, none⟩) 18 cl) (.slice (some ⟨gw, 0, none⟩) 18 cw) bw 18) | 2 => Below V.heap.size V X ∧ (K2 V X 38 x (nnK f g n m) ff (.slice (some ⟨gl, 0, none⟩) 18 cl) (.slice (some ⟨gw, 0, none⟩) 18 cw) bw 18) | _ => Below V.heap.size V X ∧ (K2 V X 38 x (nnK f g n m) ff (.slice (some ⟨gl, 0, none⟩) 18 cl) (.slice (some ⟨gw, 0, none⟩) 18 cw) bw 18)) (fun s => fun i_ => match i_ with | 0 => .int .i64 ((j : Nat) : Int) | 1 => .int .i64 ((j + 1 : Nat) : Int) | 2 => .int .i64 ((j + 1 : Nat) : Int) | _ => undef) () A.1 (by kernel_rfl) (by decide) (by decide) ⟨BB, FK⟩ ?_ ?_
        · intro i_ hi_ s a X hf hv hn hS
          match i_, hi_ with
          | 0, _ => exact stepV rfl rfl (execMvB rfl ((hn 2 (by omega) _ rfl _ rfl).trans t36)) ⟨s, ⟨_, rfl, rfl⟩, hS, fun _ _ => rfl⟩
          | 1, _ => exact stepV rfl rfl (execAd8 (p := j) (q := 1) rfl (hv 0 (by omega) _ rfl _ rfl) rfl (by omega)) ⟨s, ⟨_, rfl, rfl⟩, hS, fun _ _ => rfl⟩
          | 2, _ => exact stepV rfl rfl (execAsgB rfl (hv 1 (by omega) _ rfl _ rfl)) ⟨s, ⟨_, rfl, rfl⟩, hS, fun _ _ => rfl⟩
          | k_ + 3, h_ => exact absurd h_ (by simp)
        rintro _ a X57 h1 h2 h3 h4 hS
        clear BB
        clear FK
        replace hS : Below V.heap.size V X57 ∧ (K2 V X57 38 x (nnK f g n m) ff (.slice (some ⟨gl, 0, none⟩) 18 cl) (.slice (some ⟨gw, 0, none⟩) 18 cw) bw 18) := hS
        obtain ⟨BB, FK⟩ := hS
        replace t0 := (h3 0 (by decide)).trans t0
        replace t1 := (h3 1 (by decide)).trans t1
        replace t9 := (h3 9 (by decide)).trans t9
        replace t10 := (h3 10 (by decide)).trans t10
        replace t33 := (h3 33 (by decide)).trans t33
        replace t34 := (h3 34 (by decide)).trans t34
        replace t35 := (h3 35 (by decide)).trans t35
        replace t36 : a.eval (.tmp 36) = .int .i64 ((j + 1 : Nat) : Int) := h4 2 _ rfl _ rfl
        replace A := (⟨h1, h2.trans A.2⟩ : a.tmps.size = 312 ∧ a.defers = [])
        clear h1 h2 h3 h4
        exact ⟨⟨j + 1, ltj, A, t0, t1, t9, t10, t33, t34, t35, t36, BB, FK⟩, by show nnK f g n m (2 + i) - (intOf (a.eval (.tmp 36))).toNat < nnK f g n m (2 + i) - (intOf (Act.eval _ (.tmp 36))).toNat; rw [t36, esj]; show nnK f g n m (2 + i) - (j + 1) < nnK f g n m (2 + i) - j; omega⟩
      · rw [decide_eq_false ltj] at t272
        refine wp_cond_false t272 ?_
        refine wp_exit ?_
        first | refine exit_in ?_ | refine exit_then (exit_in ?_) | refine exit_then (exit_then (exit_in ?_))
        clear t272 esj
        clear t36 ltj hj
        clear j
        refine wp_seq ?_
        refine wp_region_sq (σ := Unit) 312 [(0, 37)] (fun j_ s X => match j_ with | 0 => Below V.heap.size V X ∧ (K2 V X 38 x (nnK f g n m) ff (.slice (some ⟨gl, 0, none⟩) 18 cl) (.slice (some ⟨gw, 0, none⟩) 18 cw) bw 18) | _ => Below V.heap.size V X ∧ (K2 V X 38 x (nnK f g n m) ff (.slice (some ⟨gl, 0, none⟩) 18 cl) (.slice (some ⟨gw, 0, none⟩) 18 cw) bw 18)) (fun s => fun i_ => match i_ with | 0 => .int .i64 ((0 : Nat) : Int) | _ => undef) () A.1 (by kernel_rfl) (by decide) (by decide) ⟨BB, FK⟩ ?_ ?_
        · intro i_ hi_ s a X hf hv hn hS
          match i_, hi_ with
          | 0, _ => exact stepV rfl rfl (execAsgB rfl rfl) ⟨s, ⟨_, rfl, rfl⟩, hS, fun _ _ => rfl⟩
          | k_ + 1, h_ => exact absurd h_ (by simp)
        rintro _ a X60 h1 h2 h3 h4 hS
        clear BB
        clear FK
        replace hS : Below V.heap.size V X60 ∧ (K2 V X60 38 x (nnK f g n m) ff (.slice (some ⟨gl, 0, none⟩) 18 cl) (.slice (some ⟨gw, 0, none⟩) 18 cw) bw 18) := hS
        obtain ⟨BB, FK⟩ := hS
        replace t0 := (h3 0 (by decide)).trans t0
        replace t1 := (h3 1 (by decide)).trans t1
        replace t9 := (h3 9 (by decide)).trans t9
        replace t10 := (h3 10 (by decide)).trans t10
        replace t33 := (h3 33 (by decide)).trans t33
        replace t34 := (h3 34 (by decide)).trans t34
        replace t35 := (h3 35 (by decide)).trans t35
        have t37 : a.eval (.tmp 37) = .int .i64 ((0 : Nat) : Int) := h4 0 _ rfl _ rfl
        replace A := (⟨h1, h2.trans A.2⟩ : a.tmps.size = 312 ∧ a.defers = [])
        clear h1 h2 h3 h4
        have FA := Ap.begin FK (t := 2 + i) (by omega)
        clear FK
        refine wp_block ?_
        refine wp_loop (fun a W => ∃ (d : Nat) (l : Value), d ≤ 40 ∧ (a.tmps.size = 312 ∧ a.defers = []) ∧ a.eval (.tmp 0) = pv ∧ a.eval (.tmp 1) = qv ∧ a.eval (.tmp 9) = .slice (some ⟨gl, 0, none⟩) 18 cl ∧ a.eval (.tmp 10) = .slice (some ⟨gw, 0, none⟩) 18 cw ∧ a.eval (.tmp 33) = .int .i64 ((c : Nat) : Int) ∧ a.eval (.tmp 34) = .int .i64 ((i : Nat) : Int) ∧ a.eval (.tmp 35) = l ∧ a.eval (.tmp 37) = .int .i64 ((d : Nat) : Int) ∧ Below V.heap.size V W ∧ (Ap V W 38 x (nnK f g n m) ff (.slice (some ⟨gl, 0, none⟩) 18 cl) (.slice (some ⟨gw, 0, none⟩) 18 cw) bw (2 + i) l d)) (fun a _ => 40 - (intOf (a.eval (.tmp 37))).toNat) ⟨0, _, Nat.zero_le _, A, t0, t1, t9, t10, t33, t34, t35, t37, BB, FA⟩ ?_
        clear A t0 t1 t9 t10 t33 t34 t35 t37 BB FA a
        rintro a XL61 ⟨d, l, hd, A, t0, t1, t9, t10, t33, t34, t35, t37, BB, FA⟩
        have esd := t37
        refine wp_seq ?_
        refine wp_seq ?_
        refine wp_region_sq (σ := Unit) 312 [(0, 282), (1, 283)] (fun j_ s X => match j_ with | 0 => Below V.heap.size V X ∧ (Ap V X 38 x (nnK f g n m) ff (.slice (some ⟨gl, 0, none⟩) 18 cl) (.slice (some ⟨gw, 0, none⟩) 18 cw) bw (2 + i) l d) | 1 => Below V.heap.size V X ∧ (Ap V X 38 x (nnK f g n m) ff (.slice (some ⟨gl, 0, none⟩) 18 cl) (.slice (some ⟨gw, 0, none⟩) 18 cw) bw (2 + i) l d) | _ => Below V.heap.size V X ∧ (Ap V X 38 x (nnK f g n m) ff (.slice (some ⟨gl, 0, none⟩) 18 cl) (.slice (some ⟨gw, 0, none⟩) 18 cw) bw (2 + i) l d)) (fun s => fun i_ => match i_ with | 0 => .int .i64 ((d : Nat) : Int) | 1 => .bool (decide (d < 40)) | _ => undef) () A.1 (by kernel_rfl) (by decide) (by decide) ⟨BB, FA⟩ ?_ ?_
        · intro i_ hi_ s a X hf hv hn hS
          match i_, hi_ with
          | 0, _ => exact stepV rfl rfl (execMvB rfl ((hf 37 (by decide)).trans t37)) ⟨s, ⟨_, rfl, rfl⟩, hS, fun _ _ => rfl⟩
          | 1, _ => exact stepV rfl rfl (execLtW (p := d) (q := 40) rfl (hv 0 (by omega) _ rfl _ rfl) rfl) ⟨s, ⟨_, rfl, rfl⟩, hS, fun _ _ => rfl⟩
          | k_ + 2, h_ => exact absurd h_ (by simp)
        rintro _ a X61 h1 h2 h3 h4 hS
        clear BB
        clear FA
        replace hS : Below V.heap.size V X61 ∧ (Ap V X61 38 x (nnK f g n m) ff (.slice (some ⟨gl, 0, none⟩) 18 cl) (.slice (some ⟨gw, 0, none⟩) 18 cw) bw (2 + i) l d) := hS
        obtain ⟨BB, FA⟩ := hS
        replace t0 := (h3 0 (by decide)).trans t0
        replace t1 := (h3 1 (by decide)).trans t1
        replace t9 := (h3 9 (by decide)).trans t9
        replace t10 := (h3 10 (by decide)).trans t10
        replace t33 := (h3 33 (by decide)).trans t33
        replace t34 := (h3 34 (by decide)).trans t34
        replace t35 := (h3 35 (by decide)).trans t35
        replace t37 := (h3 37 (by decide)).trans t37
        have t283 : a.eval (.tmp 283) = .bool (decide (d < 40)) := h4 1 _ rfl _ rfl
        replace A := (⟨h1, h2.trans A.2⟩ : a.tmps.size = 312 ∧ a.defers = [])
        clear h1 h2 h3 h4
        by_cases ltd : d < 40
        · rw [decide_eq_true ltd] at t283
          refine wp_cond_true t283 ?_
          refine wp_skip ?_
          clear t283
          refine wp_seq ?_
          refine wp_block ?_
          refine wp_region_sq (σ := Nat × Value) 312 [(0, 286), (1, 287), (2, 288), (3, 35)] (fun j_ s X => match j_ with | 0 => Below V.heap.size V X ∧ (Ap V X 38 x (nnK f g n m) ff (.slice (some ⟨gl, 0, none⟩) 18 cl) (.slice (some ⟨gw, 0, none⟩) 18 cw) bw (2 + i) l d) | 1 => Below V.heap.size V X ∧ (Ap V X 38 x (nnK f g n m) ff (.slice (some ⟨gl, 0, none⟩) 18 cl) (.slice (some ⟨gw, 0, none⟩) 18 cw) bw (2 + i) l d) | 2 => Below V.heap.size V X ∧ (Ap V X 38 x (nnK f g n m) ff (.slice (some ⟨gl, 0, none⟩) 18 cl) (.slice (some ⟨gw, 0, none⟩) 18 cw) bw (2 + i) l d) ∧ (X.heap[s.1]? = some (.cells #[.int .i64 (-9)] 3)) | 3 => Below V.heap.size V X ∧ (Ap V X 38 x (nnK f g n m) ff (.slice (some ⟨gl, 0, none⟩) 18 cl) (.slice (some ⟨gw, 0, none⟩) 18 cw) bw (2 + i) s.2 (d + 1)) | _ => Below V.heap.size V X ∧ (Ap V X 38 x (nnK f g n m) ff (.slice (some ⟨gl, 0, none⟩) 18 cl) (.slice (some ⟨gw, 0, none⟩) 18 cw) bw (2 + i) s.2 (d + 1))) (fun s => fun i_ => match i_ with | 0 => l | 1 => .slice (some ⟨s.1, 0, none⟩) 1 1 | 2 => s.2 | 3 => s.2 | _ => undef) (0, undef) A.1 (by kernel_rfl) (by decide) (by decide) ⟨BB, FA⟩ ?_ ?_
          · intro i_ hi_ s a X hf hv hn hS
            match i_, hi_ with
            | 0, _ => exact stepV rfl rfl (execMvB rfl ((hn 3 (by omega) _ rfl _ rfl).trans t35)) ⟨s, ⟨_, rfl, rfl⟩, hS, fun _ _ => rfl⟩
            | 1, _ =>
              refine stepV rfl rfl (execBsI (z := -9) rfl rfl) ⟨(X.heap.size, s.2), ⟨_, rfl, rfl⟩, ⟨(hS.1).trans (((belNew X _)).mono (hS.1).size), (hS.2.on (belNew X _)), heapNew X _⟩, fun i hi => ?_⟩
              match i, hi with
              | 0, _ => rfl
              | n_ + 1, h_ => omega
            | 2, _ =>
              refine stepAp rfl rfl rfl (hv 0 (by omega) _ rfl _ rfl) (hv 1 (by omega) _ rfl _ rfl) hS.2.1 (by omega) hS.2.2 (by have := nnK_le (f := f) (g := g) (t := 2 + i) hn17 hm17; omega) fun l' W' hap => ⟨(s.1, l'), ⟨_, rfl, rfl⟩, ⟨hap.k2.k1.bel, hap⟩, fun i hi => ?_⟩
              match i, hi with
              | 0, _ => rfl
              | 1, _ => rfl
              | n_ + 2, h_ => omega
            | 3, _ => exact stepV rfl rfl (execAsgB rfl (hv 2 (by omega) _ rfl _ rfl)) ⟨s, ⟨_, rfl, rfl⟩, hS, fun _ _ => rfl⟩
            | k_ + 4, h_ => exact absurd h_ (by simp)
          rintro ⟨g9, v9⟩ a X63 h1 h2 h3 h4 hS
          clear BB
          clear FA
          replace hS : Below V.heap.size V X63 ∧ (Ap V X63 38 x (nnK f g n m) ff (.slice (some ⟨gl, 0, none⟩) 18 cl) (.slice (some ⟨gw, 0, none⟩) 18 cw) bw (2 + i) v9 (d + 1)) := hS
          obtain ⟨BB, FA2⟩ := hS
          replace t0 := (h3 0 (by decide)).trans t0
          replace t1 := (h3 1 (by decide)).trans t1
          replace t9 := (h3 9 (by decide)).trans t9
          replace t10 := (h3 10 (by decide)).trans t10
          replace t33 := (h3 33 (by decide)).trans t33
          replace t34 := (h3 34 (by decide)).trans t34
          replace t35 : a.eval (.tmp 35) = v9 := h4 3 _ rfl _ rfl
          replace t37 := (h3 37 (by decide)).trans t37
          replace A := (⟨h1, h2.trans A.2⟩ : a.tmps.size = 312 ∧ a.defers = [])
          clear h1 h2 h3 h4
          refine wp_region_sq (σ := Unit) 312 [(0, 284), (1, 285), (2, 37)] (fun j_ s X => match j_ with | 0 => Below V.heap.size V X ∧ (Ap V X 38 x (nnK f g n m) ff (.slice (some ⟨gl, 0, none⟩) 18 cl) (.slice (some ⟨gw, 0, none⟩) 18 cw) bw (2 + i) v9 (d + 1)) | 1 => Below V.heap.size V X ∧ (Ap V X 38 x (nnK f g n m) ff (.slice (some ⟨gl, 0, none⟩) 18 cl) (.slice (some ⟨gw, 0, none⟩) 18 cw) bw (2 + i) v9 (d + 1)) | 2 => Below V.heap.size V X ∧ (Ap V X 38 x (nnK f g n m) ff (.slice (some ⟨gl, 0, none⟩) 18 cl) (.slice (some ⟨gw, 0, none⟩) 18 cw) bw (2 + i) v9 (d + 1)) | _ => Below V.heap.size V X ∧ (Ap V X 38 x (nnK f g n m) ff (.slice (some ⟨gl, 0, none⟩) 18 cl) (.slice (some ⟨gw, 0, none⟩) 18 cw) bw (2 + i) v9 (d + 1))) (fun s => fun i_ => match i_ with | 0 => .int .i64 ((d : Nat) : Int) | 1 => .int .i64 ((d + 1 : Nat) : Int) | 2 => .int .i64 ((d + 1 : Nat) : Int) | _ => undef) () A.1 (by kernel_rfl) (by decide) (by decide) ⟨BB, FA2⟩ ?_ ?_
          · intro i_ hi_ s a X hf hv hn hS
            match i_, hi_ with
            | 0, _ => exact stepV rfl rfl (execMvB rfl ((hn 2 (by omega) _ rfl _ rfl).trans t37)) ⟨s, ⟨_, rfl, rfl⟩, hS, fun _ _ => rfl⟩
            | 1, _ => exact stepV rfl rfl (execAd8 (p := d) (q := 1) rfl (hv 0 (by omega) _ rfl _ rfl) rfl (by omega)) ⟨s, ⟨_, rfl, rfl⟩, hS, fun _ _ => rfl⟩
            | 2, _ => exact stepV rfl rfl (execAsgB rfl (hv 1 (by omega) _ rfl _ rfl)) ⟨s, ⟨_, rfl, rfl⟩, hS, fun _ _ => rfl⟩
            | k_ + 3, h_ => exact absurd h_ (by simp)
          rintro _ a X62 h1 h2 h3 h4 hS
          clear BB
          clear FA2
          replace hS : Below V.heap.size V X62 ∧ (Ap V X62 38 x (nnK f g n m) ff (.slice (some ⟨gl, 0, none⟩) 18 cl) (.slice (some ⟨gw, 0, none⟩) 18 cw) bw (2 + i) v9 (d + 1)) := hS
          obtain ⟨BB, FA2⟩ := hS
          replace t0 := (h3 0 (by decide)).trans t0
          replace t1 := (h3 1 (by decide)).trans t1
          replace t9 := (h3 9 (by decide)).trans t9
          replace t10 := (h3 10 (by decide)).trans t10
          replace t33 := (h3 33 (by decide)).trans t33
          replace t34 := (h3 34 (by decide)).trans t34
          replace t35 := (h3 35 (by decide)).trans t35
          replace t37 : a.eval (.tmp 37) = .int .i64 ((d + 1 : Nat) : Int) := h4 2 _ rfl _ rfl
          replace A := (⟨h1, h2.trans A.2⟩ : a.tmps.size = 312 ∧ a.defers = [])
          clear h1 h2 h3 h4
          exact ⟨⟨d + 1, _, ltd, A, t0, t1, t9, t10, t33, t34, t35, t37, BB, FA2⟩, by show 40 - (intOf (a.eval (.tmp 37))).toNat < 40 - (intOf (Act.eval _ (.tmp 37))).toNat; rw [t37, esd]; show 40 - (d + 1) < 40 - d; omega⟩
        · rw [decide_eq_false ltd] at t283
          refine wp_cond_false t283 ?_
          refine wp_exit ?_
          first | refine exit_in ?_ | refine exit_then (exit_in ?_) | refine exit_then (exit_then (exit_in ?_))
          clear t283 esd
          obtain rfl : d = 40 := by omega
          clear t37 ltd hd
          have FK := FA.k2
          clear FA
          clear t35
          refine wp_region_sq (σ := Unit) 312 [(0, 263), (1, 264), (2, 34)] (fun j_ s X => match j_ with | 0 => Below V.heap.size V X ∧ (K2 V X 38 x (nnK f g n m) ff (.slice (some ⟨gl, 0, none⟩) 18 cl) (.slice (some ⟨gw, 0, none⟩) 18 cw) bw 18) | 1 => Below V.heap.size V X ∧ (K2 V X 38 x (nnK f g n m) ff (.slice (some ⟨gl, 0, none⟩) 18 cl) (.slice (some ⟨gw, 0, none⟩) 18 cw) bw 18) | 2 => Below V.heap.size V X ∧ (K2 V X 38 x (nnK f g n m) ff (.slice (some ⟨gl, 0, none⟩) 18 cl) (.slice (some ⟨gw, 0, none⟩) 18 cw) bw 18) | _ => Below V.heap.size V X ∧ (K2 V X 38 x (nnK f g n m) ff (.slice (some ⟨gl, 0, none⟩) 18 cl) (.slice (some ⟨gw, 0, none⟩) 18 cw) bw 18)) (fun s => fun i_ => match i_ with | 0 => .int .i64 ((i : Nat) : Int) | 1 => .int .i64 ((i + 1 : Nat) : Int) | 2 => .int .i64 ((i + 1 : Nat) : Int) | _ => undef) () A.1 (by kernel_rfl) (by decide) (by decide) ⟨BB, FK⟩ ?_ ?_
          · intro i_ hi_ s a X hf hv hn hS
            match i_, hi_ with
            | 0, _ => exact stepV rfl rfl (execMvB rfl ((hn 2 (by omega) _ rfl _ rfl).trans t34)) ⟨s, ⟨_, rfl, rfl⟩, hS, fun _ _ => rfl⟩
            | 1, _ => exact stepV rfl rfl (execAd8 (p := i) (q := 1) rfl (hv 0 (by omega) _ rfl _ rfl) rfl (by omega)) ⟨s, ⟨_, rfl, rfl⟩, hS, fun _ _ => rfl⟩
            | 2, _ => exact stepV rfl rfl (execAsgB rfl (hv 1 (by omega) _ rfl _ rfl)) ⟨s, ⟨_, rfl, rfl⟩, hS, fun _ _ => rfl⟩
            | k_ + 3, h_ => exact absurd h_ (by simp)
          rintro _ a X53 h1 h2 h3 h4 hS
          clear BB
          clear FK
          replace hS : Below V.heap.size V X53 ∧ (K2 V X53 38 x (nnK f g n m) ff (.slice (some ⟨gl, 0, none⟩) 18 cl) (.slice (some ⟨gw, 0, none⟩) 18 cw) bw 18) := hS
          obtain ⟨BB, FK⟩ := hS
          replace t0 := (h3 0 (by decide)).trans t0
          replace t1 := (h3 1 (by decide)).trans t1
          replace t9 := (h3 9 (by decide)).trans t9
          replace t10 := (h3 10 (by decide)).trans t10
          replace t33 := (h3 33 (by decide)).trans t33
          replace t34 : a.eval (.tmp 34) = .int .i64 ((i + 1 : Nat) : Int) := h4 2 _ rfl _ rfl
          replace A := (⟨h1, h2.trans A.2⟩ : a.tmps.size = 312 ∧ a.defers = [])
          clear h1 h2 h3 h4
          exact ⟨⟨i + 1, lti, A, t0, t1, t9, t10, t33, t34, BB, FK⟩, by show 18 - (intOf (a.eval (.tmp 34))).toNat < 18 - (intOf (Act.eval _ (.tmp 34))).toNat; rw [t34, esi]; show 18 - (i + 1) < 18 - i; omega⟩
    · rw [decide_eq_false lti] at t262
      refine wp_cond_false t262 ?_
      refine wp_exit ?_
      first | refine exit_in ?_ | refine exit_then (exit_in ?_) | refine exit_then (exit_then (exit_in ?_))
      clear t262 esi
      obtain rfl : i = 18 := by omega
      clear t34 lti hi
      refine wp_region_sq (σ := Unit) 312 [(0, 257), (1, 258), (2, 33)] (fun j_ s X => match j_ with | 0 => Below V.heap.size V X ∧ (K2 V X 38 x (nnK f g n m) ff (.slice (some ⟨gl, 0, none⟩) 18 cl) (.slice (some ⟨gw, 0, none⟩) 18 cw) bw 18) | 1 => Below V.heap.size V X ∧ (K2 V X 38 x (nnK f g n m) ff (.slice (some ⟨gl, 0, none⟩) 18 cl) (.slice (some ⟨gw, 0, none⟩) 18 cw) bw 18) | 2 => Below V.heap.size V X ∧ (K2 V X 38 x (nnK f g n m) ff (.slice (some ⟨gl, 0, none⟩) 18 cl) (.slice (some ⟨gw, 0, none⟩) 18 cw) bw 18) | _ => Below V.heap.size V X ∧ (K2 V X 38 x (nnK f g n m) ff (.slice (some ⟨gl, 0, none⟩) 18 cl) (.slice (some ⟨gw, 0, none⟩) 18 cw) bw 18)) (fun s => fun i_ => match i_ with | 0 => .int .i64 ((c : Nat) : Int) | 1 => .int .i64 ((c + 1 : Nat) : Int) | 2 => .int .i64 ((c + 1 : Nat) : Int) | _ => undef) () A.1 (by kernel_rfl) (by decide) (by decide) ⟨BB, FK⟩ ?_ ?_
      · intro i_ hi_ s a X hf hv hn hS
        match i_, hi_ with
        | 0, _ => exact stepV rfl rfl (execMvB rfl ((hn 2 (by omega) _ rfl _ rfl).trans t33)) ⟨s, ⟨_, rfl, rfl⟩, hS, fun _ _ => rfl⟩
        | 1, _ => exact stepV rfl rfl (execAd8 (p := c) (q := 1) rfl (hv 0 (by omega) _ rfl _ rfl) rfl (by omega)) ⟨s, ⟨_, rfl, rfl⟩, hS, fun _ _ => rfl⟩
        | 2, _ => exact stepV rfl rfl (execAsgB rfl (hv 1 (by omega) _ rfl _ rfl)) ⟨s, ⟨_, rfl, rfl⟩, hS, fun _ _ => rfl⟩
        | k_ + 3, h_ => exact absurd h_ (by simp)
      rintro _ a X50 h1 h2 h3 h4 hS
      clear BB
      clear FK
      replace hS : Below V.heap.size V X50 ∧ (K2 V X50 38 x (nnK f g n m) ff (.slice (some ⟨gl, 0, none⟩) 18 cl) (.slice (some ⟨gw, 0, none⟩) 18 cw) bw 18) := hS
      obtain ⟨BB, FK⟩ := hS
      replace t0 := (h3 0 (by decide)).trans t0
      replace t1 := (h3 1 (by decide)).trans t1
      replace t9 := (h3 9 (by decide)).trans t9
      replace t10 := (h3 10 (by decide)).trans t10
      replace t33 : a.eval (.tmp 33) = .int .i64 ((c + 1 : Nat) : Int) := h4 2 _ rfl _ rfl
      replace A := (⟨h1, h2.trans A.2⟩ : a.tmps.size = 312 ∧ a.defers = [])
      clear h1 h2 h3 h4
      exact ⟨⟨c + 1, ltc, A, t0, t1, t9, t10, t33, BB, FK⟩, by show 2 - (intOf (a.eval (.tmp 33))).toNat < 2 - (intOf (Act.eval _ (.tmp 33))).toNat; rw [t33, esc]; show 2 - (c + 1) < 2 - c; omega⟩
  · rw [decide_eq_false ltc] at t256
    refine wp_cond_false t256 ?_
    refine wp_exit ?_
    first | refine exit_in ?_ | refine exit_then (exit_in ?_) | refine exit_then (exit_then (exit_in ?_))
    clear t256 esc
    obtain rfl : c = 2 := by omega
    clear t33 ltc hc
    exact keeps64 I V f g n m pv qv hp hq hn17 hm17 _ x ff gl cl gw cw bw BB h20 FK a A t0 t1 t10
end Go.Proofs.Ytldhhfkplongiaa.Prm
