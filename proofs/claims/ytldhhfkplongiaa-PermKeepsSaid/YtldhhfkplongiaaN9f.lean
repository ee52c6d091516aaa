import Derived.Test.YtldhhfkplongiaaN9e
namespace Go.Proofs.Ytldhhfkplongiaa.Prm
open Go.RowKit Gf8 Aes By8 Cel Cf Tap Drw
/- PermKeeps, whole. Written by tools/mkN9f.py. -/

theorem K1.start {V W : World} {f g : Nat → Int} {n m b : Nat} {r0 r1 : Value} (BB : Below V.heap.size V W) (o0 : W.ownsRow V.heap.size 3 1 r0 (n + 2) (intsL (n + 2) (catI n f (fun j => if j = 0 then -77 else -78)))) (o1 : W.ownsRow b 3 1 r1 (m + 2) (intsL (m + 2) (catI m g (fun j => if j = 0 then -79 else -80)))) (hb : V.heap.size ≤ b) (h01 : ∀ k, r0.ownBlock = some k → k < b) : K1 V W 2 (updX (updX (fun _ => undef) 0 r0) 1 r1) (nnK f g n m) (ffK f g n m) (.slice none 0 0) 0 := by
  have a0 : FmI V.heap.size 0 (fun _ => undef) (nnK f g n m) (ffK f g n m) W := ⟨fun t h => by omega, fun s t h => by omega⟩
  have a1 : FmI V.heap.size 1 (updX (fun _ => undef) 0 r0) (nnK f g n m) (ffK f g n m) W := a0.add (fun t h => by omega) o0 (Nat.le_refl _) rfl (fun _ _ => rfl)
  have a2 : FmI V.heap.size 2 (updX (updX (fun _ => undef) 0 r0) 1 r1) (nnK f g n m) (ffK f g n m) W := a1.add (fun t h z e => by
    obtain rfl : t = 0 := by omega
    rw [updX_at] at e
    exact h01 z e) o1 hb rfl (fun _ _ => rfl)
  exact ⟨BB, a2, World.ownsRow_nil _ _ _ _⟩
theorem lit9 {u v w : Nat → Value} {i : Nat} (h1 : ∀ t, t < 2 + 9 * i + 8 → w t = v t) (h2 : ∀ t, t < 2 + 9 * i + 7 → v t = u t) : ∀ j, j < 9 → (#[u (2 + 9 * i + 0), u (2 + 9 * i + 1), u (2 + 9 * i + 2), u (2 + 9 * i + 3), u (2 + 9 * i + 4), u (2 + 9 * i + 5), u (2 + 9 * i + 6), v (2 + 9 * i + 7), w (2 + 9 * i + 8)] : Array Value)[j]? = some (w (2 + (9 * i + j))) := fun j hj => by
  rw [← Nat.add_assoc]
  match j, hj with
  | 0, _ => exact congrArg some ((h1 (2 + 9 * i + 0) (by omega)).trans (h2 _ (by omega))).symm
  | 1, _ => exact congrArg some ((h1 (2 + 9 * i + 1) (by omega)).trans (h2 _ (by omega))).symm
  | 2, _ => exact congrArg some ((h1 (2 + 9 * i + 2) (by omega)).trans (h2 _ (by omega))).symm
  | 3, _ => exact congrArg some ((h1 (2 + 9 * i + 3) (by omega)).trans (h2 _ (by omega))).symm
  | 4, _ => exact congrArg some ((h1 (2 + 9 * i + 4) (by omega)).trans (h2 _ (by omega))).symm
  | 5, _ => exact congrArg some ((h1 (2 + 9 * i + 5) (by omega)).trans (h2 _ (by omega))).symm
  | 6, _ => exact congrArg some ((h1 (2 + 9 * i + 6) (by omega)).trans (h2 _ (by omega))).symm
  | 7, _ => exact congrArg some (h1 (2 + 9 * i + 7) (by omega)).symm
  | 8, _ => rfl
  | k + 9, h => omega
set_option maxRecDepth 100000 in
set_option maxHeartbeats 4000000 in
/-- PermKeeps. -/
theorem keeps_any (I : Impl) (V : World) (f g : Nat → Int) (n m : Nat) (pv qv : Value) (hp : SliceI V pv n f) (hq : SliceI V qv m g) (hn17 : n ≤ 17592186043904) (hm17 : m ≤ 17592186043904) (hzp : ∀ l c, pv = .slice none l c → c = 0) (hzq : ∀ l c, qv = .slice none l c → c = 0) :
    Calls Try.prog 3 #[pv, qv] V fun e w' => e = .returned (.bool true) ∧ Below V.heap.size V w' := by
  have FI := hp
  have FJ := hq
  go_enter Try.func3, Try.ntmps3
  refine wp_seq ?_
  refine wp_region_sqK 312 [(0, 4)] (fun i_ => match i_ with | 0 => .bool false | _ => undef) rfl (by kernel_rfl) (by decide) (by decide) ?_ ?_
  · intro i_ hi_ a hf hv hn
    match i_, hi_ with
    | 0, _ => exact stepV rfl rfl (execAsgB rfl rfl) ⟨⟨_, rfl, rfl⟩, rfl⟩
    | k_ + 1, h_ => exact absurd h_ (by simp)
  intro a h1 h2 h3 h4
  have t0 : a.eval (.tmp 0) = pv := (h3 0 (by decide)).trans rfl
  have t1 : a.eval (.tmp 1) = qv := (h3 1 (by decide)).trans rfl
  have A : a.tmps.size = 312 ∧ a.defers = [] := ⟨h1, h2⟩
  have BW : Below V.heap.size V V := Below.refl _ _
  clear h1 h2 h3 h4
  have BB := BW
  clear BW
  refine wp_seq ?_
  refine wp_seq ?_
  refine wp_region_sq (σ := Unit) 312 [(0, 42), (1, 43)] (fun j_ s X => match j_ with | 0 => Below V.heap.size V X | 1 => Below V.heap.size V X | _ => Below V.heap.size V X) (fun s => fun i_ => match i_ with | 0 => .bool true | 1 => .bool false | _ => undef) () A.1 (by kernel_rfl) (by decide) (by decide) (BB) ?_ ?_
  · intro i_ hi_ s a X hf hv hn hS
    match i_, hi_ with
    | 0, _ => exact stepC rfl rfl (execCall0 Try.func4 (by kernel_rfl) (by kernel_rfl) rfl ) (awake11 I X) fun e w' hh => ⟨_, hh.1, s, ⟨_, rfl, rfl⟩, (hS).trans ((hh.2).mono (hS).size), fun _ _ => rfl⟩
    | 1, _ => exact stepV rfl rfl (execNot8 rfl (hv 0 (by omega) _ rfl _ rfl)) ⟨s, ⟨_, rfl, rfl⟩, hS, fun _ _ => rfl⟩
    | k_ + 2, h_ => exact absurd h_ (by simp)
  rintro _ a X1 h1 h2 h3 h4 hS
  clear BB
  replace hS : Below V.heap.size V X1 := hS
  have BB := hS
  clear hS
  replace t0 := (h3 0 (by decide)).trans t0
  replace t1 := (h3 1 (by decide)).trans t1
  have t43 : a.eval (.tmp 43) = .bool false := h4 1 _ rfl _ rfl
  replace A := (⟨h1, h2.trans A.2⟩ : a.tmps.size = 312 ∧ a.defers = [])
  clear h1 h2 h3 h4
  refine wp_cond_false t43 ?_
  refine wp_skip ?_
  clear t43
  refine wp_seq ?_
  refine wp_region_sq (σ := Nat × Value × Nat × Value × Nat × Nat × Value × Nat × Value) 312 [(0, 44), (1, 45), (2, 46), (3, 47), (4, 48), (5, 49), (6, 50), (7, 51), (8, 52), (9, 53), (10, 5), (11, 6)] (fun j_ s X => match j_ with | 0 => Below V.heap.size V X | 1 => Below V.heap.size V X ∧ (X.ownsRow V.heap.size 3 1 (.slice (some ⟨s.1, 0, none⟩) 0 0) (0) (intsL (0) (fun _ => 0))) | 2 => Below V.heap.size V X ∧ (X.ownsRow V.heap.size 3 1 (.slice (some ⟨s.1, 0, none⟩) 0 0) (0) (intsL (0) (fun _ => 0))) | 3 => Below V.heap.size V X ∧ (X.ownsRow V.heap.size 3 1 s.2.1 (n) (intsL (n) (f))) | 4 => Below V.heap.size V X ∧ (X.ownsRow V.heap.size 3 1 s.2.1 (n) (intsL (n) (f))) ∧ (SliceI X (.slice (some ⟨s.2.2.1, 0, none⟩) 2 2) (2) (fun j => if j = 0 then -77 else -78)) | 5 => Below V.heap.size V X ∧ (X.ownsRow V.heap.size 3 1 s.2.2.2.1 (n + 2) (intsL (n + 2) (catI n f (fun j => if j = 0 then -77 else -78)))) | 6 => Below V.heap.size V X ∧ (X.ownsRow V.heap.size 3 1 s.2.2.2.1 (n + 2) (intsL (n + 2) (catI n f (fun j => if j = 0 then -77 else -78)))) ∧ (X.ownsRow s.2.2.2.2.2.1 3 1 (.slice (some ⟨s.2.2.2.2.1, 0, none⟩) 0 0) (0) (intsL (0) (fun _ => 0))) ∧ (∀ k, s.2.2.2.1.ownBlock = some k → k < s.2.2.2.2.2.1) ∧ (V.heap.size ≤ s.2.2.2.2.2.1) ∧ (s.2.2.2.2.2.1 ≤ X.heap.size) | 7 => Below V.heap.size V X ∧ (X.ownsRow V.heap.size 3 1 s.2.2.2.1 (n + 2) (intsL (n + 2) (catI n f (fun j => if j = 0 then -77 else -78)))) ∧ (X.ownsRow s.2.2.2.2.2.1 3 1 (.slice (some ⟨s.2.2.2.2.1, 0, none⟩) 0 0) (0) (intsL (0) (fun _ => 0))) ∧ (∀ k, s.2.2.2.1.ownBlock = some k → k < s.2.2.2.2.2.1) ∧ (V.heap.size ≤ s.2.2.2.2.2.1) ∧ (s.2.2.2.2.2.1 ≤ X.heap.size) | 8 => Below V.heap.size V X ∧ (X.ownsRow V.heap.size 3 1 s.2.2.2.1 (n + 2) (intsL (n + 2) (catI n f (fun j => if j = 0 then -77 else -78)))) ∧ (∀ k, s.2.2.2.1.ownBlock = some k → k < s.2.2.2.2.2.1) ∧ (V.heap.size ≤ s.2.2.2.2.2.1) ∧ (s.2.2.2.2.2.1 ≤ X.heap.size) ∧ (X.ownsRow s.2.2.2.2.2.1 3 1 s.2.2.2.2.2.2.1 (m) (intsL (m) (g))) | 9 => Below V.heap.size V X ∧ (X.ownsRow V.heap.size 3 1 s.2.2.2.1 (n + 2) (intsL (n + 2) (catI n f (fun j => if j = 0 then -77 else -78)))) ∧ (∀ k, s.2.2.2.1.ownBlock = some k → k < s.2.2.2.2.2.1) ∧ (V.heap.size ≤ s.2.2.2.2.2.1) ∧ (s.2.2.2.2.2.1 ≤ X.heap.size) ∧ (X.ownsRow s.2.2.2.2.2.1 3 1 s.2.2.2.2.2.2.1 (m) (intsL (m) (g))) ∧ (SliceI X (.slice (some ⟨s.2.2.2.2.2.2.2.1, 0, none⟩) 2 2) (2) (fun j => if j = 0 then -79 else -80)) | 10 => Below V.heap.size V X ∧ (X.ownsRow V.heap.size 3 1 s.2.2.2.1 (n + 2) (intsL (n + 2) (catI n f (fun j => if j = 0 then -77 else -78)))) ∧ (∀ k, s.2.2.2.1.ownBlock = some k → k < s.2.2.2.2.2.1) ∧ (V.heap.size ≤ s.2.2.2.2.2.1) ∧ (s.2.2.2.2.2.1 ≤ X.heap.size) ∧ (X.ownsRow s.2.2.2.2.2.1 3 1 s.2.2.2.2.2.2.2.2 (m + 2) (intsL (m + 2) (catI m g (fun j => if j = 0 then -79 else -80)))) | 11 => Below V.heap.size V X ∧ (X.ownsRow V.heap.size 3 1 s.2.2.2.1 (n + 2) (intsL (n + 2) (catI n f (fun j => if j = 0 then -77 else -78)))) ∧ (∀ k, s.2.2.2.1.ownBlock = some k → k < s.2.2.2.2.2.1) ∧ (V.heap.size ≤ s.2.2.2.2.2.1) ∧ (s.2.2.2.2.2.1 ≤ X.heap.size) ∧ (X.ownsRow s.2.2.2.2.2.1 3 1 s.2.2.2.2.2.2.2.2 (m + 2) (intsL (m + 2) (catI m g (fun j => if j = 0 then -79 else -80)))) | _ => Below V.heap.size V X ∧ (X.ownsRow V.heap.size 3 1 s.2.2.2.1 (n + 2) (intsL (n + 2) (catI n f (fun j => if j = 0 then -77 else -78)))) ∧ (∀ k, s.2.2.2.1.ownBlock = some k → k < s.2.2.2.2.2.1) ∧ (V.heap.size ≤ s.2.2.2.2.2.1) ∧ (s.2.2.2.2.2.1 ≤ X.heap.size) ∧ (X.ownsRow s.2.2.2.2.2.1 3 1 s.2.2.2.2.2.2.2.2 (m + 2) (intsL (m + 2) (catI m g (fun j => if j = 0 then -79 else -80))))) (fun s => fun i_ => match i_ with | 0 => .slice (some ⟨s.1, 0, none⟩) 0 0 | 1 => pv | 2 => s.2.1 | 3 => .slice (some ⟨s.2.2.1, 0, none⟩) 2 2 | 4 => s.2.2.2.1 | 5 => .slice (some ⟨s.2.2.2.2.1, 0, none⟩) 0 0 | 6 => qv | 7 => s.2.2.2.2.2.2.1 | 8 => .slice (some ⟨s.2.2.2.2.2.2.2.1, 0, none⟩) 2 2 | 9 => s.2.2.2.2.2.2.2.2 | 10 => s.2.2.2.1 | 11 => s.2.2.2.2.2.2.2.2 | _ => undef) (0, undef, 0, undef, 0, 0, undef, 0, undef) A.1 (by kernel_rfl) (by decide) (by decide) (BB) ?_ ?_
  · intro i_ hi_ s a X hf hv hn hS
    match i_, hi_ with
    | 0, _ =>
      refine stepV rfl rfl (execBs0I rfl) ⟨(X.heap.size, s.2.1, s.2.2.1, s.2.2.2.1, s.2.2.2.2.1, s.2.2.2.2.2.1, s.2.2.2.2.2.2.1, s.2.2.2.2.2.2.2.1, s.2.2.2.2.2.2.2.2), ⟨_, rfl, rfl⟩, ⟨(hS).trans (((belNew X _)).mono (hS).size), ownD_base (own_noneI X _) (hS).size⟩, fun i hi => ?_⟩
      omega
    | 1, _ => exact stepV rfl rfl (execMvB rfl ((hf 0 (by decide)).trans t0)) ⟨s, ⟨_, rfl, rfl⟩, hS, fun _ _ => rfl⟩
    | 2, _ =>
      refine stepAppIs (f := fun _ => 0) (g := f) rfl rfl rfl (hv 0 (by omega) _ rfl _ rfl) (hv 1 (by omega) _ rfl _ rfl) hS.2 (FI.on hS.1) hzp (by omega) (hS.1).size fun v' W' own' gr => ⟨(s.1, v', s.2.2.1, s.2.2.2.1, s.2.2.2.2.1, s.2.2.2.2.2.1, s.2.2.2.2.2.2.1, s.2.2.2.2.2.2.2.1, s.2.2.2.2.2.2.2.2), ⟨_, rfl, rfl⟩, ⟨(hS.1).grown gr (hS.1).size (fun k hk => (hS.2.lt k hk).1), own_cat0 own'⟩, fun i hi => ?_⟩
      match i, hi with
      | 0, _ => rfl
      | 1, _ => rfl
      | n_ + 2, h_ => omega
    | 3, _ =>
      refine stepV rfl rfl (execBsI2 (y := -77) (z := -78) rfl) ⟨(s.1, s.2.1, X.heap.size, s.2.2.2.1, s.2.2.2.2.1, s.2.2.2.2.2.1, s.2.2.2.2.2.2.1, s.2.2.2.2.2.2.2.1, s.2.2.2.2.2.2.2.2), ⟨_, rfl, rfl⟩, ⟨(hS.1).trans (((belNew X _)).mono (hS.1).size), (ownD_below hS.2 (belNew X _)), sliceI2 X (-77) (-78) (by omega) (by omega)⟩, fun i hi => ?_⟩
      match i, hi with
      | 0, _ => rfl
      | 1, _ => rfl
      | 2, _ => rfl
      | n_ + 3, h_ => omega
    | 4, _ =>
      refine stepAppIs (f := f) (g := fun j => if j = 0 then -77 else -78) rfl rfl rfl (hv 2 (by omega) _ rfl _ rfl) (hv 3 (by omega) _ rfl _ rfl) hS.2.1 hS.2.2 (fun l c e => by cases e) (by omega) (hS.1).size fun v' W' own' gr => ⟨(s.1, s.2.1, s.2.2.1, v', s.2.2.2.2.1, s.2.2.2.2.2.1, s.2.2.2.2.2.2.1, s.2.2.2.2.2.2.2.1, s.2.2.2.2.2.2.2.2), ⟨_, rfl, rfl⟩, ⟨(hS.1).grown gr (hS.1).size (fun k hk => (hS.2.1.lt k hk).1), own'⟩, fun i hi => ?_⟩
      match i, hi with
      | 0, _ => rfl
      | 1, _ => rfl
      | 2, _ => rfl
      | 3, _ => rfl
      | n_ + 4, h_ => omega
    | 5, _ =>
      refine stepV rfl rfl (execBs0I rfl) ⟨(s.1, s.2.1, s.2.2.1, s.2.2.2.1, X.heap.size, X.heap.size, s.2.2.2.2.2.2.1, s.2.2.2.2.2.2.2.1, s.2.2.2.2.2.2.2.2), ⟨_, rfl, rfl⟩, ⟨(hS.1).trans (((belNew X _)).mono (hS.1).size), (ownD_below hS.2 (belNew X _)), own_noneI X _, fun k e => (hS.2.lt k e).2, (hS.1).size, (belNew X _).size⟩, fun i hi => ?_⟩
      match i, hi with
      | 0, _ => rfl
      | 1, _ => rfl
      | 2, _ => rfl
      | 3, _ => rfl
      | 4, _ => rfl
      | n_ + 5, h_ => omega
    | 6, _ => exact stepV rfl rfl (execMvB rfl ((hf 1 (by decide)).trans t1)) ⟨s, ⟨_, rfl, rfl⟩, hS, fun _ _ => rfl⟩
    | 7, _ =>
      refine stepAppIs (f := fun _ => 0) (g := g) rfl rfl rfl (hv 5 (by omega) _ rfl _ rfl) (hv 6 (by omega) _ rfl _ rfl) hS.2.2.1 (FJ.on hS.1) hzq (by omega) hS.2.2.2.2.2 fun v' W' own' gr => ⟨(s.1, s.2.1, s.2.2.1, s.2.2.2.1, s.2.2.2.2.1, s.2.2.2.2.2.1, v', s.2.2.2.2.2.2.2.1, s.2.2.2.2.2.2.2.2), ⟨_, rfl, rfl⟩, ⟨(hS.1).grown gr (hS.1).size (fun k hk => Nat.le_trans hS.2.2.2.2.1 (hS.2.2.1.lt k hk).1), (own_overB hS.2.1 hS.2.2.2.1 hS.2.2.1 gr), hS.2.2.2.1, hS.2.2.2.2.1, (Nat.le_trans hS.2.2.2.2.2 gr.size), own_cat0 own'⟩, fun i hi => ?_⟩
      match i, hi with
      | 0, _ => rfl
      | 1, _ => rfl
      | 2, _ => rfl
      | 3, _ => rfl
      | 4, _ => rfl
      | 5, _ => rfl
      | 6, _ => rfl
      | n_ + 7, h_ => omega
    | 8, _ =>
      refine stepV rfl rfl (execBsI2 (y := -79) (z := -80) rfl) ⟨(s.1, s.2.1, s.2.2.1, s.2.2.2.1, s.2.2.2.2.1, s.2.2.2.2.2.1, s.2.2.2.2.2.2.1, X.heap.size, s.2.2.2.2.2.2.2.2), ⟨_, rfl, rfl⟩, ⟨(hS.1).trans (((belNew X _)).mono (hS.1).size), (ownD_below hS.2.1 (belNew X _)), hS.2.2.1, hS.2.2.2.1, (Nat.le_trans hS.2.2.2.2.1 ((belNew X _)).size), (ownD_below hS.2.2.2.2.2 (belNew X _)), sliceI2 X (-79) (-80) (by omega) (by omega)⟩, fun i hi => ?_⟩
      match i, hi with
      | 0, _ => rfl
      | 1, _ => rfl
      | 2, _ => rfl
      | 3, _ => rfl
      | 4, _ => rfl
      | 5, _ => rfl
      | 6, _ => rfl
      | 7, _ => rfl
      | n_ + 8, h_ => omega
    | 9, _ =>
      refine stepAppIs (f := g) (g := fun j => if j = 0 then -79 else -80) rfl rfl rfl (hv 7 (by omega) _ rfl _ rfl) (hv 8 (by omega) _ rfl _ rfl) hS.2.2.2.2.2.1 hS.2.2.2.2.2.2 (fun l c e => by cases e) (by omega) hS.2.2.2.2.1 fun v' W' own' gr => ⟨(s.1, s.2.1, s.2.2.1, s.2.2.2.1, s.2.2.2.2.1, s.2.2.2.2.2.1, s.2.2.2.2.2.2.1, s.2.2.2.2.2.2.2.1, v'), ⟨_, rfl, rfl⟩, ⟨(hS.1).grown gr (hS.1).size (fun k hk => Nat.le_trans hS.2.2.2.1 (hS.2.2.2.2.2.1.lt k hk).1), (own_overB hS.2.1 hS.2.2.1 hS.2.2.2.2.2.1 gr), hS.2.2.1, hS.2.2.2.1, (Nat.le_trans hS.2.2.2.2.1 gr.size), own'⟩, fun i hi => ?_⟩
      match i, hi with
      | 0, _ => rfl
      | 1, _ => rfl
      | 2, _ => rfl
      | 3, _ => rfl
      | 4, _ => rfl
      | 5, _ => rfl
      | 6, _ => rfl
      | 7, _ => rfl
      | 8, _ => rfl
      | n_ + 9, h_ => omega
    | 10, _ => exact stepV rfl rfl (execAsgB rfl (hv 4 (by omega) _ rfl _ rfl)) ⟨s, ⟨_, rfl, rfl⟩, hS, fun _ _ => rfl⟩
    | 11, _ => exact stepV rfl rfl (execAsgB rfl (hv 9 (by omega) _ rfl _ rfl)) ⟨s, ⟨_, rfl, rfl⟩, hS, fun _ _ => rfl⟩
    | k_ + 12, h_ => exact absurd h_ (by simp)
  rintro ⟨g44, v46, g47, v48, g49, b49, v51, g52, v53⟩ a X3 h1 h2 h3 h4 hS
  clear BB
  replace hS : Below V.heap.size V X3 ∧ (X3.ownsRow V.heap.size 3 1 v48 (n + 2) (intsL (n + 2) (catI n f (fun j => if j = 0 then -77 else -78)))) ∧ (∀ k, v48.ownBlock = some k → k < b49) ∧ (V.heap.size ≤ b49) ∧ (b49 ≤ X3.heap.size) ∧ (X3.ownsRow b49 3 1 v53 (m + 2) (intsL (m + 2) (catI m g (fun j => if j = 0 then -79 else -80)))) := hS
  obtain ⟨BB, Fv48, Fb49, Fc49, Fs49, Fv53⟩ := hS
  replace t0 := (h3 0 (by decide)).trans t0
  replace t1 := (h3 1 (by decide)).trans t1
  have t5 : a.eval (.tmp 5) = v48 := h4 10 _ rfl _ rfl
  have t6 : a.eval (.tmp 6) = v53 := h4 11 _ rfl _ rfl
  replace A := (⟨h1, h2.trans A.2⟩ : a.tmps.size = 312 ∧ a.defers = [])
  clear h1 h2 h3 h4
  obtain ⟨gr, cr, rfl, _, _⟩ := ownL_some9 Fv48 (by omega)
  obtain ⟨gs, cs, rfl, _, _⟩ := ownL_some9 Fv53 (by omega)
  have hcr := own_cap Fv48
  have hcs := own_cap Fv53
  have FK := K1.start (f := f) (g := g) BB Fv48 Fv53 Fc49 Fb49
  clear Fv48 Fv53 Fc49 Fb49 Fs49
  refine wp_seq ?_
  refine wp_region_detA 312 [(0, 54), (1, 55), (2, 56), (3, 57), (4, 58), (5, 59), (6, 60), (7, 61), (8, 7), (9, 8)] (fun i_ => match i_ with | 0 => .slice (some ⟨gr, 0, none⟩) (n + 2) cr | 1 => pv | 2 => .int .i64 ((n : Nat) : Int) | 3 => .slice (some ⟨gr, 0, none⟩) n cr | 4 => .slice (some ⟨gs, 0, none⟩) (m + 2) cs | 5 => qv | 6 => .int .i64 ((m : Nat) : Int) | 7 => .slice (some ⟨gs, 0, none⟩) m cs | 8 => .slice (some ⟨gr, 0, none⟩) n cr | 9 => .slice (some ⟨gs, 0, none⟩) m cs | _ => undef) (fun _ X => Below V.heap.size V X ∧ (K1 V X (2) (updX (updX (fun _ => undef) 0 (.slice (some ⟨gr, 0, none⟩) (n + 2) cr)) 1 (.slice (some ⟨gs, 0, none⟩) (m + 2) cs)) (nnK f g n m) (ffK f g n m) (.slice none 0 0) (0))) (by kernel_rfl) (by kernel_rfl) A.1 (by kernel_rfl) (by decide) (by decide) ⟨BB.drew, (FK.on (Below.refl _ _).drew)⟩ ?_ ?_
  · intro i_ hi_ l_ a X hl_ hf hdep hl2 hcl hno hT
    match i_, hi_ with
    | 0, _ => exact stepV rfl rfl (execMvB rfl ((hf 5 (by decide)).trans t5)) ⟨⟨_, rfl, rfl⟩, hT⟩
    | 1, _ => exact stepV rfl rfl (execMvB rfl ((hf 0 (by decide)).trans t0)) ⟨⟨_, rfl, rfl⟩, hT⟩
    | 2, _ => exact stepV rfl rfl (execLenI (len := n) rfl (hdep _ rfl 1 rfl _ rfl _ rfl) ((FI.on hT.1)).shp) ⟨⟨_, rfl, rfl⟩, hT⟩
    | 3, _ => exact stepV rfl rfl (By8.execSlH rfl (hdep _ rfl 0 rfl _ rfl _ rfl) (hdep _ rfl 2 rfl _ rfl _ rfl) (sl_hI gr _ cr n (by omega) X)) ⟨⟨_, rfl, rfl⟩, hT⟩
    | 4, _ => exact stepV rfl rfl (execMvB rfl ((hf 6 (by decide)).trans t6)) ⟨⟨_, rfl, rfl⟩, hT⟩
    | 5, _ => exact stepV rfl rfl (execMvB rfl ((hf 1 (by decide)).trans t1)) ⟨⟨_, rfl, rfl⟩, hT⟩
    | 6, _ => exact stepV rfl rfl (execLenI (len := m) rfl (hdep _ rfl 5 rfl _ rfl _ rfl) ((FJ.on hT.1)).shp) ⟨⟨_, rfl, rfl⟩, hT⟩
    | 7, _ => exact stepV rfl rfl (By8.execSlH rfl (hdep _ rfl 4 rfl _ rfl _ rfl) (hdep _ rfl 6 rfl _ rfl _ rfl) (sl_hI gs _ cs m (by omega) X)) ⟨⟨_, rfl, rfl⟩, hT⟩
    | 8, _ => exact stepV rfl rfl (execAsgB rfl (hdep _ rfl 3 rfl _ rfl _ rfl)) ⟨⟨_, rfl, rfl⟩, hT⟩
    | 9, _ => exact stepV rfl rfl (execAsgB rfl (hdep _ rfl 7 rfl _ rfl _ rfl)) ⟨⟨_, rfl, rfl⟩, hT⟩
    | k_ + 10, h_ => exact absurd h_ (by simp)
  intro l_ a X4 h1 h2 h3 h4 hall hT
  clear hall
  clear BB
  clear FK
  obtain ⟨BB, FK⟩ := hT
  replace t0 := (h3 0 (by decide)).trans t0
  replace t1 := (h3 1 (by decide)).trans t1
  replace t5 := (h3 5 (by decide)).trans t5
  replace t6 := (h3 6 (by decide)).trans t6
  have t7 : a.eval (.tmp 7) = .slice (some ⟨gr, 0, none⟩) n cr := h4 (8, 7) (by decide)
  have t8 : a.eval (.tmp 8) = .slice (some ⟨gs, 0, none⟩) m cs := h4 (9, 8) (by decide)
  replace A := (⟨h1, h2.trans A.2⟩ : a.tmps.size = 312 ∧ a.defers = [])
  clear h1 h2 h3 h4
  refine wp_seq ?_
  refine wp_region_sq (σ := Unit) 312 [(0, 9), (1, 10)] (fun j_ s X => match j_ with | 0 => Below V.heap.size V X ∧ (K1 V X (2) (updX (updX (fun _ => undef) 0 (.slice (some ⟨gr, 0, none⟩) (n + 2) cr)) 1 (.slice (some ⟨gs, 0, none⟩) (m + 2) cs)) (nnK f g n m) (ffK f g n m) (.slice none 0 0) (0)) | 1 => Below V.heap.size V X ∧ (K1 V X (2) (updX (updX (fun _ => undef) 0 (.slice (some ⟨gr, 0, none⟩) (n + 2) cr)) 1 (.slice (some ⟨gs, 0, none⟩) (m + 2) cs)) (nnK f g n m) (ffK f g n m) (.slice none 0 0) (0)) | _ => Below V.heap.size V X ∧ (K1 V X (2) (updX (updX (fun _ => undef) 0 (.slice (some ⟨gr, 0, none⟩) (n + 2) cr)) 1 (.slice (some ⟨gs, 0, none⟩) (m + 2) cs)) (nnK f g n m) (ffK f g n m) (.slice none 0 0) (0))) (fun s => fun i_ => match i_ with | 0 => .slice none 0 0 | 1 => .slice none 0 0 | _ => undef) () A.1 (by kernel_rfl) (by decide) (by decide) ⟨BB, FK⟩ ?_ ?_
  · intro i_ hi_ s a X hf hv hn hS
    match i_, hi_ with
    | 0, _ => exact stepV rfl rfl (execAsgB rfl rfl) ⟨s, ⟨_, rfl, rfl⟩, hS, fun _ _ => rfl⟩
    | 1, _ => exact stepV rfl rfl (execAsgB rfl rfl) ⟨s, ⟨_, rfl, rfl⟩, hS, fun _ _ => rfl⟩
    | k_ + 2, h_ => exact absurd h_ (by simp)
  rintro _ a X5 h1 h2 h3 h4 hS
  clear BB
  clear FK
  replace hS : Below V.heap.size V X5 ∧ (K1 V X5 (2) (updX (updX (fun _ => undef) 0 (.slice (some ⟨gr, 0, none⟩) (n + 2) cr)) 1 (.slice (some ⟨gs, 0, none⟩) (m + 2) cs)) (nnK f g n m) (ffK f g n m) (.slice none 0 0) (0)) := hS
  obtain ⟨BB, FK⟩ := hS
  replace t0 := (h3 0 (by decide)).trans t0
  replace t1 := (h3 1 (by decide)).trans t1
  replace t5 := (h3 5 (by decide)).trans t5
  replace t6 := (h3 6 (by decide)).trans t6
  replace t7 := (h3 7 (by decide)).trans t7
  replace t8 := (h3 8 (by decide)).trans t8
  have t9 : a.eval (.tmp 9) = .slice none 0 0 := h4 0 _ rfl _ rfl
  have t10 : a.eval (.tmp 10) = .slice none 0 0 := h4 1 _ rfl _ rfl
  replace A := (⟨h1, h2.trans A.2⟩ : a.tmps.size = 312 ∧ a.defers = [])
  clear h1 h2 h3 h4
  refine wp_seq ?_
  refine wp_seq ?_
  refine wp_region_sq (σ := Unit) 312 [(0, 11)] (fun j_ s X => match j_ with | 0 => Below V.heap.size V X ∧ (K1 V X (2) (updX (updX (fun _ => undef) 0 (.slice (some ⟨gr, 0, none⟩) (n + 2) cr)) 1 (.slice (some ⟨gs, 0, none⟩) (m + 2) cs)) (nnK f g n m) (ffK f g n m) (.slice none 0 0) (0)) | _ => Below V.heap.size V X ∧ (K1 V X (2) (updX (updX (fun _ => undef) 0 (.slice (some ⟨gr, 0, none⟩) (n + 2) cr)) 1 (.slice (some ⟨gs, 0, none⟩) (m + 2) cs)) (nnK f g n m) (ffK f g n m) (.slice none 0 0) (0))) (fun s => fun i_ => match i_ with | 0 => .int .i64 ((0 : Nat) : Int) | _ => undef) () A.1 (by kernel_rfl) (by decide) (by decide) ⟨BB, FK⟩ ?_ ?_
  · intro i_ hi_ s a X hf hv hn hS
    match i_, hi_ with
    | 0, _ => exact stepV rfl rfl (execAsgB rfl rfl) ⟨s, ⟨_, rfl, rfl⟩, hS, fun _ _ => rfl⟩
    | k_ + 1, h_ => exact absurd h_ (by simp)
  rintro _ a X6 h1 h2 h3 h4 hS
  clear BB
  clear FK
  replace hS : Below V.heap.size V X6 ∧ (K1 V X6 (2) (updX (updX (fun _ => undef) 0 (.slice (some ⟨gr, 0, none⟩) (n + 2) cr)) 1 (.slice (some ⟨gs, 0, none⟩) (m + 2) cs)) (nnK f g n m) (ffK f g n m) (.slice none 0 0) (0)) := hS
  obtain ⟨BB, FK⟩ := hS
  replace t0 := (h3 0 (by decide)).trans t0
  replace t1 := (h3 1 (by decide)).trans t1
  replace t5 := (h3 5 (by decide)).trans t5
  replace t6 := (h3 6 (by decide)).trans t6
  replace t7 := (h3 7 (by decide)).trans t7
  replace t8 := (h3 8 (by decide)).trans t8
  replace t9 := (h3 9 (by decide)).trans t9
  replace t10 := (h3 10 (by decide)).trans t10
  have t11 : a.eval (.tmp 11) = .int .i64 ((0 : Nat) : Int) := h4 0 _ rfl _ rfl
  replace A := (⟨h1, h2.trans A.2⟩ : a.tmps.size = 312 ∧ a.defers = [])
  clear h1 h2 h3 h4
  refine wp_block ?_
  refine wp_loop (fun a W => ∃ (i : Nat) (xx : Nat → Value) (lv : Value), i ≤ 2 ∧ (xx 0 = .slice (some ⟨gr, 0, none⟩) (nnK f g n m 0) cr) ∧ (xx 1 = .slice (some ⟨gs, 0, none⟩) (nnK f g n m 1) cs) ∧ (a.tmps.size = 312 ∧ a.defers = []) ∧ a.eval (.tmp 0) = pv ∧ a.eval (.tmp 1) = qv ∧ a.eval (.tmp 5) = .slice (some ⟨gr, 0, none⟩) (n + 2) cr ∧ a.eval (.tmp 6) = .slice (some ⟨gs, 0, none⟩) (m + 2) cs ∧ a.eval (.tmp 7) = .slice (some ⟨gr, 0, none⟩) n cr ∧ a.eval (.tmp 8) = .slice (some ⟨gs, 0, none⟩) m cs ∧ a.eval (.tmp 9) = lv ∧ a.eval (.tmp 10) = .slice none 0 0 ∧ a.eval (.tmp 11) = .int .i64 ((i : Nat) : Int) ∧ Below V.heap.size V W ∧ (K1 V W (2 + 9 * i) xx (nnK f g n m) (ffK f g n m) lv (9 * i))) (fun a _ => 2 - (intOf (a.eval (.tmp 11))).toNat) ⟨0, updX (updX (fun _ => undef) 0 (.slice (some ⟨gr, 0, none⟩) (n + 2) cr)) 1 (.slice (some ⟨gs, 0, none⟩) (m + 2) cs), _, Nat.zero_le _, rfl, rfl, A, t0, t1, t5, t6, t7, t8, t9, t10, t11, BB, FK⟩ ?_
  clear A t0 t1 t5 t6 t7 t8 t9 t10 t11 BB FK a
  rintro a XL7 ⟨i, xx, lv, hi, e0, e1, A, t0, t1, t5, t6, t7, t8, t9, t10, t11, BB, FK⟩
  have esi := t11
  refine wp_seq ?_
  refine wp_seq ?_
  refine wp_region_sq (σ := Unit) 312 [(0, 62), (1, 63)] (fun j_ s X => match j_ with | 0 => Below V.heap.size V X ∧ (K1 V X (2 + 9 * i) xx (nnK f g n m) (ffK f g n m) lv (9 * i)) | 1 => Below V.heap.size V X ∧ (K1 V X (2 + 9 * i) xx (nnK f g n m) (ffK f g n m) lv (9 * i)) | _ => Below V.heap.size V X ∧ (K1 V X (2 + 9 * i) xx (nnK f g n m) (ffK f g n m) lv (9 * i))) (fun s => fun i_ => match i_ with | 0 => .int .i64 ((i : Nat) : Int) | 1 => .bool (decide (i < 2)) | _ => undef) () A.1 (by kernel_rfl) (by decide) (by decide) ⟨BB, FK⟩ ?_ ?_
  · intro i_ hi_ s a X hf hv hn hS
    match i_, hi_ with
    | 0, _ => exact stepV rfl rfl (execMvB rfl ((hf 11 (by decide)).trans t11)) ⟨s, ⟨_, rfl, rfl⟩, hS, fun _ _ => rfl⟩
    | 1, _ => exact stepV rfl rfl (execLtW (p := i) (q := 2) rfl (hv 0 (by omega) _ rfl _ rfl) rfl) ⟨s, ⟨_, rfl, rfl⟩, hS, fun _ _ => rfl⟩
    | k_ + 2, h_ => exact absurd h_ (by simp)
  rintro _ a X7 h1 h2 h3 h4 hS
  clear BB
  clear FK
  replace hS : Below V.heap.size V X7 ∧ (K1 V X7 (2 + 9 * i) xx (nnK f g n m) (ffK f g n m) lv (9 * i)) := hS
  obtain ⟨BB, FK⟩ := hS
  replace t0 := (h3 0 (by decide)).trans t0
  replace t1 := (h3 1 (by decide)).trans t1
  replace t5 := (h3 5 (by decide)).trans t5
  replace t6 := (h3 6 (by decide)).trans t6
  replace t7 := (h3 7 (by decide)).trans t7
  replace t8 := (h3 8 (by decide)).trans t8
  replace t9 := (h3 9 (by decide)).trans t9
  replace t10 := (h3 10 (by decide)).trans t10
  replace t11 := (h3 11 (by decide)).trans t11
  have t63 : a.eval (.tmp 63) = .bool (decide (i < 2)) := h4 1 _ rfl _ rfl
  replace A := (⟨h1, h2.trans A.2⟩ : a.tmps.size = 312 ∧ a.defers = [])
  clear h1 h2 h3 h4
  by_cases lti : i < 2
  · rw [decide_eq_true lti] at t63
    refine wp_cond_true t63 ?_
    refine wp_skip ?_
    clear t63
    refine wp_seq ?_
    refine wp_block ?_
    refine wp_seq ?_
    refine wp_region_sq (σ := (Nat → Value)) 312 [(0, 67), (1, 68), (2, 69), (3, 66), (4, 70), (5, 71), (6, 12), (7, 13)] (fun j_ s X => match j_ with | 0 => Below V.heap.size V X ∧ (K1 V X (2 + 9 * i) xx (nnK f g n m) (ffK f g n m) lv (9 * i)) | 1 => Below V.heap.size V X ∧ (K1 V X (2 + 9 * i) xx (nnK f g n m) (ffK f g n m) lv (9 * i)) | 2 => Below V.heap.size V X ∧ (K1 V X (2 + 9 * i) xx (nnK f g n m) (ffK f g n m) lv (9 * i)) | 3 => Below V.heap.size V X ∧ (K1 V X (2 + 9 * i + 0 + 1) (s) (nnK f g n m) (ffK f g n m) lv (9 * i)) ∧ (∀ t, t < 2 + 9 * i + 0 → s t = xx t) | 4 => Below V.heap.size V X ∧ (K1 V X (2 + 9 * i + 0 + 1) (s) (nnK f g n m) (ffK f g n m) lv (9 * i)) ∧ (∀ t, t < 2 + 9 * i + 0 → s t = xx t) | 5 => Below V.heap.size V X ∧ (K1 V X (2 + 9 * i + 0 + 1) (s) (nnK f g n m) (ffK f g n m) lv (9 * i)) ∧ (∀ t, t < 2 + 9 * i + 0 → s t = xx t) | 6 => Below V.heap.size V X ∧ (K1 V X (2 + 9 * i + 0 + 1) (s) (nnK f g n m) (ffK f g n m) lv (9 * i)) ∧ (∀ t, t < 2 + 9 * i + 0 → s t = xx t) | 7 => Below V.heap.size V X ∧ (K1 V X (2 + 9 * i + 0 + 1) (s) (nnK f g n m) (ffK f g n m) lv (9 * i)) ∧ (∀ t, t < 2 + 9 * i + 0 → s t = xx t) | _ => Below V.heap.size V X ∧ (K1 V X (2 + 9 * i + 0 + 1) (s) (nnK f g n m) (ffK f g n m) lv (9 * i)) ∧ (∀ t, t < 2 + 9 * i + 0 → s t = xx t)) (fun s => fun i_ => match i_ with | 0 => .slice (some ⟨gr, 0, none⟩) n cr | 1 => .slice (some ⟨gs, 0, none⟩) m cs | 2 => .tuple #[s (2 + 9 * i + 0), .int .i64 ((coE f n g m : Nat) : Int)] | 3 => .tuple #[s (2 + 9 * i + 0), .int .i64 ((coE f n g m : Nat) : Int)] | 4 => s (2 + 9 * i + 0) | 5 => .int .i64 ((coE f n g m : Nat) : Int) | 6 => s (2 + 9 * i + 0) | 7 => .int .i64 ((coE f n g m : Nat) : Int) | _ => undef) (fun _ => undef) A.1 (by kernel_rfl) (by decide) (by decide) ⟨BB, FK⟩ ?_ ?_
    · intro i_ hi_ s a X hf hv hn hS
      match i_, hi_ with
      | 0, _ => exact stepV rfl rfl (execMvB rfl ((hf 7 (by decide)).trans t7)) ⟨s, ⟨_, rfl, rfl⟩, hS, fun _ _ => rfl⟩
      | 1, _ => exact stepV rfl rfl (execMvB rfl ((hf 8 (by decide)).trans t8)) ⟨s, ⟨_, rfl, rfl⟩, hS, fun _ _ => rfl⟩
      | 2, _ =>
        refine stepC rfl rfl (execCall2 Try.func5 (by kernel_rfl) (by kernel_rfl) rfl (hv 0 (by omega) _ rfl _ rfl) (hv 1 (by omega) _ rfl _ rfl)) (I.compose f g n m _ _ X (hS.2.fam.inX (by omega) e0 hp.fits) (by omega) (hS.2.fam.inY (by omega) e1 hq.fits) (by omega)) fun e w' hh => ?_
        obtain ⟨r_, he, hk, hb⟩ := hh
        refine ⟨.tuple #[updX xx (2 + 9 * i + 0) r_ (2 + 9 * i + 0), .int .i64 ((coE f n g m : Nat) : Int)], by rw [updX_at]; exact he, updX xx (2 + 9 * i + 0) r_, ⟨_, rfl, rfl⟩, ⟨(hS.1).trans ((hb).mono (hS.1).size), K1.call (k := 2 + 9 * i + 0) hS.2 (by omega) hb hk (nnK_at (c := 0) (by decide)) (fun j _ => by rw [ffK_at (c := 0) (by decide)]; rfl), fun t ht => updX_lt _ _ ht⟩, fun i hi => ?_⟩
        match i, hi with
        | 0, _ => rfl
        | 1, _ => rfl
        | n_ + 2, h_ => omega
      | 3, _ => exact stepV rfl rfl (execMvB rfl (hv 2 (by omega) _ rfl _ rfl)) ⟨s, ⟨_, rfl, rfl⟩, hS, fun _ _ => rfl⟩
      | 4, _ => exact stepV rfl rfl (execExtT rfl (hv 3 (by omega) _ rfl _ rfl) rfl) ⟨s, ⟨_, rfl, rfl⟩, hS, fun _ _ => rfl⟩
      | 5, _ => exact stepV rfl rfl (execExtT rfl (hv 3 (by omega) _ rfl _ rfl) rfl) ⟨s, ⟨_, rfl, rfl⟩, hS, fun _ _ => rfl⟩
      | 6, _ => exact stepV rfl rfl (execAsgB rfl (hv 4 (by omega) _ rfl _ rfl)) ⟨s, ⟨_, rfl, rfl⟩, hS, fun _ _ => rfl⟩
      | 7, _ => exact stepV rfl rfl (execAsgB rfl (hv 5 (by omega) _ rfl _ rfl)) ⟨s, ⟨_, rfl, rfl⟩, hS, fun _ _ => rfl⟩
      | k_ + 8, h_ => exact absurd h_ (by simp)
    rintro y69 a X9 h1 h2 h3 h4 hS
    clear BB
    clear FK
    replace hS : Below V.heap.size V X9 ∧ (K1 V X9 (2 + 9 * i + 0 + 1) (y69) (nnK f g n m) (ffK f g n m) lv (9 * i)) ∧ (∀ t, t < 2 + 9 * i + 0 → y69 t = xx t) := hS
    obtain ⟨BB, Fy69, Fe69⟩ := hS
    replace t0 := (h3 0 (by decide)).trans t0
    replace t1 := (h3 1 (by decide)).trans t1
    replace t5 := (h3 5 (by decide)).trans t5
    replace t6 := (h3 6 (by decide)).trans t6
    replace t7 := (h3 7 (by decide)).trans t7
    replace t8 := (h3 8 (by decide)).trans t8
    replace t9 := (h3 9 (by decide)).trans t9
    replace t10 := (h3 10 (by decide)).trans t10
    replace t11 := (h3 11 (by decide)).trans t11
    have t12 : a.eval (.tmp 12) = y69 (2 + 9 * i + 0) := h4 6 _ rfl _ rfl
    replace A := (⟨h1, h2.trans A.2⟩ : a.tmps.size = 312 ∧ a.defers = [])
    clear h1 h2 h3 h4
    replace e0 := (Fe69 0 (by omega)).trans e0
    replace e1 := (Fe69 1 (by omega)).trans e1
    clear Fe69
    refine wp_seq ?_
    refine wp_region_sq (σ := (Nat → Value)) 312 [(0, 73), (1, 74), (2, 72), (3, 75), (4, 76), (5, 14), (6, 15)] (fun j_ s X => match j_ with | 0 => Below V.heap.size V X ∧ (K1 V X (2 + 9 * i + 0 + 1) (y69) (nnK f g n m) (ffK f g n m) lv (9 * i)) | 1 => Below V.heap.size V X ∧ (K1 V X (2 + 9 * i + 0 + 1) (y69) (nnK f g n m) (ffK f g n m) lv (9 * i)) | 2 => Below V.heap.size V X ∧ (K1 V X (2 + 9 * i + 1 + 1) (s) (nnK f g n m) (ffK f g n m) lv (9 * i)) ∧ (∀ t, t < 2 + 9 * i + 1 → s t = y69 t) | 3 => Below V.heap.size V X ∧ (K1 V X (2 + 9 * i + 1 + 1) (s) (nnK f g n m) (ffK f g n m) lv (9 * i)) ∧ (∀ t, t < 2 + 9 * i + 1 → s t = y69 t) | 4 => Below V.heap.size V X ∧ (K1 V X (2 + 9 * i + 1 + 1) (s) (nnK f g n m) (ffK f g n m) lv (9 * i)) ∧ (∀ t, t < 2 + 9 * i + 1 → s t = y69 t) | 5 => Below V.heap.size V X ∧ (K1 V X (2 + 9 * i + 1 + 1) (s) (nnK f g n m) (ffK f g n m) lv (9 * i)) ∧ (∀ t, t < 2 + 9 * i + 1 → s t = y69 t) | 6 => Below V.heap.size V X ∧ (K1 V X (2 + 9 * i + 1 + 1) (s) (nnK f g n m) (ffK f g n m) lv (9 * i)) ∧ (∀ t, t < 2 + 9 * i + 1 → s t = y69 t) | _ => Below V.heap.size V X ∧ (K1 V X (2 + 9 * i + 1 + 1) (s) (nnK f g n m) (ffK f g n m) lv (9 * i)) ∧ (∀ t, t < 2 + 9 * i + 1 → s t = y69 t)) (fun s => fun i_ => match i_ with | 0 => .slice (some ⟨gr, 0, none⟩) n cr | 1 => .tuple #[s (2 + 9 * i + 1), .int .i64 ((pE f n : Nat) : Int)] | 2 => .tuple #[s (2 + 9 * i + 1), .int .i64 ((pE f n : Nat) : Int)] | 3 => s (2 + 9 * i + 1) | 4 => .int .i64 ((pE f n : Nat) : Int) | 5 => s (2 + 9 * i + 1) | 6 => .int .i64 ((pE f n : Nat) : Int) | _ => undef) (fun _ => undef) A.1 (by kernel_rfl) (by decide) (by decide) ⟨BB, Fy69⟩ ?_ ?_
    · intro i_ hi_ s a X hf hv hn hS
      match i_, hi_ with
      | 0, _ => exact stepV rfl rfl (execMvB rfl ((hf 7 (by decide)).trans t7)) ⟨s, ⟨_, rfl, rfl⟩, hS, fun _ _ => rfl⟩
      | 1, _ =>
        refine stepC rfl rfl (execCall1 Try.func6 (by kernel_rfl) (by kernel_rfl) rfl (hv 0 (by omega) _ rfl _ rfl)) (I.inverse f n _ X (hS.2.fam.inX (by omega) e0 hp.fits) (by omega)) fun e w' hh => ?_
        obtain ⟨r_, he, hk, hb⟩ := hh
        refine ⟨.tuple #[updX y69 (2 + 9 * i + 1) r_ (2 + 9 * i + 1), .int .i64 ((pE f n : Nat) : Int)], by rw [updX_at]; exact he, updX y69 (2 + 9 * i + 1) r_, ⟨_, rfl, rfl⟩, ⟨(hS.1).trans ((hb).mono (hS.1).size), K1.call (k := 2 + 9 * i + 1) hS.2 (by omega) hb hk (nnK_at (c := 1) (by decide)) (fun j _ => by rw [ffK_at (c := 1) (by decide)]; rfl), fun t ht => updX_lt _ _ ht⟩, fun i hi => ?_⟩
        match i, hi with
        | 0, _ => rfl
        | n_ + 1, h_ => omega
      | 2, _ => exact stepV rfl rfl (execMvB rfl (hv 1 (by omega) _ rfl _ rfl)) ⟨s, ⟨_, rfl, rfl⟩, hS, fun _ _ => rfl⟩
      | 3, _ => exact stepV rfl rfl (execExtT rfl (hv 2 (by omega) _ rfl _ rfl) rfl) ⟨s, ⟨_, rfl, rfl⟩, hS, fun _ _ => rfl⟩
      | 4, _ => exact stepV rfl rfl (execExtT rfl (hv 2 (by omega) _ rfl _ rfl) rfl) ⟨s, ⟨_, rfl, rfl⟩, hS, fun _ _ => rfl⟩
      | 5, _ => exact stepV rfl rfl (execAsgB rfl (hv 3 (by omega) _ rfl _ rfl)) ⟨s, ⟨_, rfl, rfl⟩, hS, fun _ _ => rfl⟩
      | 6, _ => exact stepV rfl rfl (execAsgB rfl (hv 4 (by omega) _ rfl _ rfl)) ⟨s, ⟨_, rfl, rfl⟩, hS, fun _ _ => rfl⟩
      | k_ + 7, h_ => exact absurd h_ (by simp)
    rintro y74 a X10 h1 h2 h3 h4 hS
    clear BB
    clear Fy69
    replace hS : Below V.heap.size V X10 ∧ (K1 V X10 (2 + 9 * i + 1 + 1) (y74) (nnK f g n m) (ffK f g n m) lv (9 * i)) ∧ (∀ t, t < 2 + 9 * i + 1 → y74 t = y69 t) := hS
    obtain ⟨BB, Fy74, Fe74⟩ := hS
    replace t0 := (h3 0 (by decide)).trans t0
    replace t1 := (h3 1 (by decide)).trans t1
    replace t5 := (h3 5 (by decide)).trans t5
    replace t6 := (h3 6 (by decide)).trans t6
    replace t7 := (h3 7 (by decide)).trans t7
    replace t8 := (h3 8 (by decide)).trans t8
    replace t9 := (h3 9 (by decide)).trans t9
    replace t10 := (h3 10 (by decide)).trans t10
    replace t11 := (h3 11 (by decide)).trans t11
    replace t12 := (h3 12 (by decide)).trans t12
    have t14 : a.eval (.tmp 14) = y74 (2 + 9 * i + 1) := h4 5 _ rfl _ rfl
    replace A := (⟨h1, h2.trans A.2⟩ : a.tmps.size = 312 ∧ a.defers = [])
    clear h1 h2 h3 h4
    rw [← Fe74 _ (by omega)] at t12
    replace e0 := (Fe74 0 (by omega)).trans e0
    replace e1 := (Fe74 1 (by omega)).trans e1
    clear Fe74
    refine wp_seq ?_
    refine wp_region_sq (σ := (Nat → Value)) 312 [(0, 78), (1, 79), (2, 80), (3, 77), (4, 81), (5, 82), (6, 16), (7, 17)] (fun j_ s X => match j_ with | 0 => Below V.heap.size V X ∧ (K1 V X (2 + 9 * i + 1 + 1) (y74) (nnK f g n m) (ffK f g n m) lv (9 * i)) | 1 => Below V.heap.size V X ∧ (K1 V X (2 + 9 * i + 1 + 1) (y74) (nnK f g n m) (ffK f g n m) lv (9 * i)) | 2 => Below V.heap.size V X ∧ (K1 V X (2 + 9 * i + 1 + 1) (y74) (nnK f g n m) (ffK f g n m) lv (9 * i)) | 3 => Below V.heap.size V X ∧ (K1 V X (2 + 9 * i + 2 + 1) (s) (nnK f g n m) (ffK f g n m) lv (9 * i)) ∧ (∀ t, t < 2 + 9 * i + 2 → s t = y74 t) | 4 => Below V.heap.size V X ∧ (K1 V X (2 + 9 * i + 2 + 1) (s) (nnK f g n m) (ffK f g n m) lv (9 * i)) ∧ (∀ t, t < 2 + 9 * i + 2 → s t = y74 t) | 5 => Below V.heap.size V X ∧ (K1 V X (2 + 9 * i + 2 + 1) (s) (nnK f g n m) (ffK f g n m) lv (9 * i)) ∧ (∀ t, t < 2 + 9 * i + 2 → s t = y74 t) | 6 => Below V.heap.size V X ∧ (K1 V X (2 + 9 * i + 2 + 1) (s) (nnK f g n m) (ffK f g n m) lv (9 * i)) ∧ (∀ t, t < 2 + 9 * i + 2 → s t = y74 t) | 7 => Below V.heap.size V X ∧ (K1 V X (2 + 9 * i + 2 + 1) (s) (nnK f g n m) (ffK f g n m) lv (9 * i)) ∧ (∀ t, t < 2 + 9 * i + 2 → s t = y74 t) | _ => Below V.heap.size V X ∧ (K1 V X (2 + 9 * i + 2 + 1) (s) (nnK f g n m) (ffK f g n m) lv (9 * i)) ∧ (∀ t, t < 2 + 9 * i + 2 → s t = y74 t)) (fun s => fun i_ => match i_ with | 0 => .slice (some ⟨gr, 0, none⟩) n cr | 1 => .slice (some ⟨gs, 0, none⟩) m cs | 2 => .tuple #[s (2 + 9 * i + 2), .int .i64 ((apE f n m : Nat) : Int)] | 3 => .tuple #[s (2 + 9 * i + 2), .int .i64 ((apE f n m : Nat) : Int)] | 4 => s (2 + 9 * i + 2) | 5 => .int .i64 ((apE f n m : Nat) : Int) | 6 => s (2 + 9 * i + 2) | 7 => .int .i64 ((apE f n m : Nat) : Int) | _ => undef) (fun _ => undef) A.1 (by kernel_rfl) (by decide) (by decide) ⟨BB, Fy74⟩ ?_ ?_
    · intro i_ hi_ s a X hf hv hn hS
      match i_, hi_ with
      | 0, _ => exact stepV rfl rfl (execMvB rfl ((hf 7 (by decide)).trans t7)) ⟨s, ⟨_, rfl, rfl⟩, hS, fun _ _ => rfl⟩
      | 1, _ => exact stepV rfl rfl (execMvB rfl ((hf 8 (by decide)).trans t8)) ⟨s, ⟨_, rfl, rfl⟩, hS, fun _ _ => rfl⟩
      | 2, _ =>
        refine stepC rfl rfl (execCall2 Try.func7 (by kernel_rfl) (by kernel_rfl) rfl (hv 0 (by omega) _ rfl _ rfl) (hv 1 (by omega) _ rfl _ rfl)) (I.apply f g n m _ _ X (hS.2.fam.inX (by omega) e0 hp.fits) (by omega) (hS.2.fam.inY (by omega) e1 hq.fits)) fun e w' hh => ?_
        obtain ⟨r_, he, hk, hb⟩ := hh
        refine ⟨.tuple #[updX y74 (2 + 9 * i + 2) r_ (2 + 9 * i + 2), .int .i64 ((apE f n m : Nat) : Int)], by rw [updX_at]; exact he, updX y74 (2 + 9 * i + 2) r_, ⟨_, rfl, rfl⟩, ⟨(hS.1).trans ((hb).mono (hS.1).size), K1.call (k := 2 + 9 * i + 2) hS.2 (by omega) hb hk (nnK_at (c := 2) (by decide)) (fun j _ => by rw [ffK_at (c := 2) (by decide)]; rfl), fun t ht => updX_lt _ _ ht⟩, fun i hi => ?_⟩
        match i, hi with
        | 0, _ => rfl
        | 1, _ => rfl
        | n_ + 2, h_ => omega
      | 3, _ => exact stepV rfl rfl (execMvB rfl (hv 2 (by omega) _ rfl _ rfl)) ⟨s, ⟨_, rfl, rfl⟩, hS, fun _ _ => rfl⟩
      | 4, _ => exact stepV rfl rfl (execExtT rfl (hv 3 (by omega) _ rfl _ rfl) rfl) ⟨s, ⟨_, rfl, rfl⟩, hS, fun _ _ => rfl⟩
      | 5, _ => exact stepV rfl rfl (execExtT rfl (hv 3 (by omega) _ rfl _ rfl) rfl) ⟨s, ⟨_, rfl, rfl⟩, hS, fun _ _ => rfl⟩
      | 6, _ => exact stepV rfl rfl (execAsgB rfl (hv 4 (by omega) _ rfl _ rfl)) ⟨s, ⟨_, rfl, rfl⟩, hS, fun _ _ => rfl⟩
      | 7, _ => exact stepV rfl rfl (execAsgB rfl (hv 5 (by omega) _ rfl _ rfl)) ⟨s, ⟨_, rfl, rfl⟩, hS, fun _ _ => rfl⟩
      | k_ + 8, h_ => exact absurd h_ (by simp)
    rintro y80 a X11 h1 h2 h3 h4 hS
    clear BB
    clear Fy74
    replace hS : Below V.heap.size V X11 ∧ (K1 V X11 (2 + 9 * i + 2 + 1) (y80) (nnK f g n m) (ffK f g n m) lv (9 * i)) ∧ (∀ t, t < 2 + 9 * i + 2 → y80 t = y74 t) := hS
    obtain ⟨BB, Fy80, Fe80⟩ := hS
    replace t0 := (h3 0 (by decide)).trans t0
    replace t1 := (h3 1 (by decide)).trans t1
    replace t5 := (h3 5 (by decide)).trans t5
    replace t6 := (h3 6 (by decide)).trans t6
    replace t7 := (h3 7 (by decide)).trans t7
    replace t8 := (h3 8 (by decide)).trans t8
    replace t9 := (h3 9 (by decide)).trans t9
    replace t10 := (h3 10 (by decide)).trans t10
    replace t11 := (h3 11 (by decide)).trans t11
    replace t12 := (h3 12 (by decide)).trans t12
    replace t14 := (h3 14 (by decide)).trans t14
    have t16 : a.eval (.tmp 16) = y80 (2 + 9 * i + 2) := h4 6 _ rfl _ rfl
    replace A := (⟨h1, h2.trans A.2⟩ : a.tmps.size = 312 ∧ a.defers = [])
    clear h1 h2 h3 h4
    rw [← Fe80 _ (by omega)] at t12
    rw [← Fe80 _ (by omega)] at t14
    replace e0 := (Fe80 0 (by omega)).trans e0
    replace e1 := (Fe80 1 (by omega)).trans e1
    clear Fe80
    refine wp_seq ?_
    refine wp_region_sq (σ := (Nat → Value)) 312 [(0, 84), (1, 85), (2, 83), (3, 86), (4, 87), (5, 18), (6, 19)] (fun j_ s X => match j_ with | 0 => Below V.heap.size V X ∧ (K1 V X (2 + 9 * i + 2 + 1) (y80) (nnK f g n m) (ffK f g n m) lv (9 * i)) | 1 => Below V.heap.size V X ∧ (K1 V X (2 + 9 * i + 2 + 1) (y80) (nnK f g n m) (ffK f g n m) lv (9 * i)) | 2 => Below V.heap.size V X ∧ (K1 V X (2 + 9 * i + 3 + 1) (s) (nnK f g n m) (ffK f g n m) lv (9 * i)) ∧ (∀ t, t < 2 + 9 * i + 3 → s t = y80 t) | 3 => Below V.heap.size V X ∧ (K1 V X (2 + 9 * i + 3 + 1) (s) (nnK f g n m) (ffK f g n m) lv (9 * i)) ∧ (∀ t, t < 2 + 9 * i + 3 → s t = y80 t) | 4 => Below V.heap.size V X ∧ (K1 V X (2 + 9 * i + 3 + 1) (s) (nnK f g n m) (ffK f g n m) lv (9 * i)) ∧ (∀ t, t < 2 + 9 * i + 3 → s t = y80 t) | 5 => Below V.heap.size V X ∧ (K1 V X (2 + 9 * i + 3 + 1) (s) (nnK f g n m) (ffK f g n m) lv (9 * i)) ∧ (∀ t, t < 2 + 9 * i + 3 → s t = y80 t) | 6 => Below V.heap.size V X ∧ (K1 V X (2 + 9 * i + 3 + 1) (s) (nnK f g n m) (ffK f g n m) lv (9 * i)) ∧ (∀ t, t < 2 + 9 * i + 3 → s t = y80 t) | _ => Below V.heap.size V X ∧ (K1 V X (2 + 9 * i + 3 + 1) (s) (nnK f g n m) (ffK f g n m) lv (9 * i)) ∧ (∀ t, t < 2 + 9 * i + 3 → s t = y80 t)) (fun s => fun i_ => match i_ with | 0 => .slice (some ⟨gr, 0, none⟩) n cr | 1 => .tuple #[s (2 + 9 * i + 3), .int .i64 ((pE f n : Nat) : Int)] | 2 => .tuple #[s (2 + 9 * i + 3), .int .i64 ((pE f n : Nat) : Int)] | 3 => s (2 + 9 * i + 3) | 4 => .int .i64 ((pE f n : Nat) : Int) | 5 => s (2 + 9 * i + 3) | 6 => .int .i64 ((pE f n : Nat) : Int) | _ => undef) (fun _ => undef) A.1 (by kernel_rfl) (by decide) (by decide) ⟨BB, Fy80⟩ ?_ ?_
    · intro i_ hi_ s a X hf hv hn hS
      match i_, hi_ with
      | 0, _ => exact stepV rfl rfl (execMvB rfl ((hf 7 (by decide)).trans t7)) ⟨s, ⟨_, rfl, rfl⟩, hS, fun _ _ => rfl⟩
      | 1, _ =>
        refine stepC rfl rfl (execCall1 Try.func8 (by kernel_rfl) (by kernel_rfl) rfl (hv 0 (by omega) _ rfl _ rfl)) (I.draws f n _ X (hS.2.fam.inX (by omega) e0 hp.fits) (by omega)) fun e w' hh => ?_
        obtain ⟨r_, he, hk, hb⟩ := hh
        refine ⟨.tuple #[updX y80 (2 + 9 * i + 3) r_ (2 + 9 * i + 3), .int .i64 ((pE f n : Nat) : Int)], by rw [updX_at]; exact he, updX y80 (2 + 9 * i + 3) r_, ⟨_, rfl, rfl⟩, ⟨(hS.1).trans ((hb).mono (hS.1).size), K1.call (k := 2 + 9 * i + 3) hS.2 (by omega) hb hk (nnK_at (c := 3) (by decide)) (fun j _ => by rw [ffK_at (c := 3) (by decide)]; rfl), fun t ht => updX_lt _ _ ht⟩, fun i hi => ?_⟩
        match i, hi with
        | 0, _ => rfl
        | n_ + 1, h_ => omega
      | 2, _ => exact stepV rfl rfl (execMvB rfl (hv 1 (by omega) _ rfl _ rfl)) ⟨s, ⟨_, rfl, rfl⟩, hS, fun _ _ => rfl⟩
      | 3, _ => exact stepV rfl rfl (execExtT rfl (hv 2 (by omega) _ rfl _ rfl) rfl) ⟨s, ⟨_, rfl, rfl⟩, hS, fun _ _ => rfl⟩
      | 4, _ => exact stepV rfl rfl (execExtT rfl (hv 2 (by omega) _ rfl _ rfl) rfl) ⟨s, ⟨_, rfl, rfl⟩, hS, fun _ _ => rfl⟩
      | 5, _ => exact stepV rfl rfl (execAsgB rfl (hv 3 (by omega) _ rfl _ rfl)) ⟨s, ⟨_, rfl, rfl⟩, hS, fun _ _ => rfl⟩
      | 6, _ => exact stepV rfl rfl (execAsgB rfl (hv 4 (by omega) _ rfl _ rfl)) ⟨s, ⟨_, rfl, rfl⟩, hS, fun _ _ => rfl⟩
      | k_ + 7, h_ => exact absurd h_ (by simp)
    rintro y85 a X12 h1 h2 h3 h4 hS
    clear BB
    clear Fy80
    replace hS : Below V.heap.size V X12 ∧ (K1 V X12 (2 + 9 * i + 3 + 1) (y85) (nnK f g n m) (ffK f g n m) lv (9 * i)) ∧ (∀ t, t < 2 + 9 * i + 3 → y85 t = y80 t) := hS
    obtain ⟨BB, Fy85, Fe85⟩ := hS
    replace t0 := (h3 0 (by decide)).trans t0
    replace t1 := (h3 1 (by decide)).trans t1
    replace t5 := (h3 5 (by decide)).trans t5
    replace t6 := (h3 6 (by decide)).trans t6
    replace t7 := (h3 7 (by decide)).trans t7
    replace t8 := (h3 8 (by decide)).trans t8
    replace t9 := (h3 9 (by decide)).trans t9
    replace t10 := (h3 10 (by decide)).trans t10
    replace t11 := (h3 11 (by decide)).trans t11
    replace t12 := (h3 12 (by decide)).trans t12
    replace t14 := (h3 14 (by decide)).trans t14
    replace t16 := (h3 16 (by decide)).trans t16
    have t18 : a.eval (.tmp 18) = y85 (2 + 9 * i + 3) := h4 5 _ rfl _ rfl
    replace A := (⟨h1, h2.trans A.2⟩ : a.tmps.size = 312 ∧ a.defers = [])
    clear h1 h2 h3 h4
    rw [← Fe85 _ (by omega)] at t12
    rw [← Fe85 _ (by omega)] at t14
    rw [← Fe85 _ (by omega)] at t16
    replace e0 := (Fe85 0 (by omega)).trans e0
    replace e1 := (Fe85 1 (by omega)).trans e1
    clear Fe85
    refine wp_seq ?_
    refine wp_region_sq (σ := (Nat → Value)) 312 [(0, 89), (1, 90), (2, 88), (3, 91), (4, 92), (5, 20), (6, 21)] (fun j_ s X => match j_ with | 0 => Below V.heap.size V X ∧ (K1 V X (2 + 9 * i + 3 + 1) (y85) (nnK f g n m) (ffK f g n m) lv (9 * i)) | 1 => Below V.heap.size V X ∧ (K1 V X (2 + 9 * i + 3 + 1) (y85) (nnK f g n m) (ffK f g n m) lv (9 * i)) | 2 => Below V.heap.size V X ∧ (K1 V X (2 + 9 * i + 4 + 1) (s) (nnK f g n m) (ffK f g n m) lv (9 * i)) ∧ (∀ t, t < 2 + 9 * i + 4 → s t = y85 t) | 3 => Below V.heap.size V X ∧ (K1 V X (2 + 9 * i + 4 + 1) (s) (nnK f g n m) (ffK f g n m) lv (9 * i)) ∧ (∀ t, t < 2 + 9 * i + 4 → s t = y85 t) | 4 => Below V.heap.size V X ∧ (K1 V X (2 + 9 * i + 4 + 1) (s) (nnK f g n m) (ffK f g n m) lv (9 * i)) ∧ (∀ t, t < 2 + 9 * i + 4 → s t = y85 t) | 5 => Below V.heap.size V X ∧ (K1 V X (2 + 9 * i + 4 + 1) (s) (nnK f g n m) (ffK f g n m) lv (9 * i)) ∧ (∀ t, t < 2 + 9 * i + 4 → s t = y85 t) | 6 => Below V.heap.size V X ∧ (K1 V X (2 + 9 * i + 4 + 1) (s) (nnK f g n m) (ffK f g n m) lv (9 * i)) ∧ (∀ t, t < 2 + 9 * i + 4 → s t = y85 t) | _ => Below V.heap.size V X ∧ (K1 V X (2 + 9 * i + 4 + 1) (s) (nnK f g n m) (ffK f g n m) lv (9 * i)) ∧ (∀ t, t < 2 + 9 * i + 4 → s t = y85 t)) (fun s => fun i_ => match i_ with | 0 => .slice (some ⟨gr, 0, none⟩) n cr | 1 => .tuple #[s (2 + 9 * i + 4), .int .i64 ((pE f n : Nat) : Int)] | 2 => .tuple #[s (2 + 9 * i + 4), .int .i64 ((pE f n : Nat) : Int)] | 3 => s (2 + 9 * i + 4) | 4 => .int .i64 ((pE f n : Nat) : Int) | 5 => s (2 + 9 * i + 4) | 6 => .int .i64 ((pE f n : Nat) : Int) | _ => undef) (fun _ => undef) A.1 (by kernel_rfl) (by decide) (by decide) ⟨BB, Fy85⟩ ?_ ?_
    · intro i_ hi_ s a X hf hv hn hS
      match i_, hi_ with
      | 0, _ => exact stepV rfl rfl (execMvB rfl ((hf 7 (by decide)).trans t7)) ⟨s, ⟨_, rfl, rfl⟩, hS, fun _ _ => rfl⟩
      | 1, _ =>
        refine stepC rfl rfl (execCall1 Try.func9 (by kernel_rfl) (by kernel_rfl) rfl (hv 0 (by omega) _ rfl _ rfl)) (I.rank f n _ X (hS.2.fam.inX (by omega) e0 hp.fits) (by omega)) fun e w' hh => ?_
        obtain ⟨r_, he, hk, hb⟩ := hh
        refine ⟨.tuple #[updX y85 (2 + 9 * i + 4) r_ (2 + 9 * i + 4), .int .i64 ((pE f n : Nat) : Int)], by rw [updX_at]; exact he, updX y85 (2 + 9 * i + 4) r_, ⟨_, rfl, rfl⟩, ⟨(hS.1).trans ((hb).mono (hS.1).size), K1.call (k := 2 + 9 * i + 4) hS.2 (by omega) hb hk (nnK_at (c := 4) (by decide)) (fun j _ => by rw [ffK_at (c := 4) (by decide)]; rfl), fun t ht => updX_lt _ _ ht⟩, fun i hi => ?_⟩
        match i, hi with
        | 0, _ => rfl
        | n_ + 1, h_ => omega
      | 2, _ => exact stepV rfl rfl (execMvB rfl (hv 1 (by omega) _ rfl _ rfl)) ⟨s, ⟨_, rfl, rfl⟩, hS, fun _ _ => rfl⟩
      | 3, _ => exact stepV rfl rfl (execExtT rfl (hv 2 (by omega) _ rfl _ rfl) rfl) ⟨s, ⟨_, rfl, rfl⟩, hS, fun _ _ => rfl⟩
      | 4, _ => exact stepV rfl rfl (execExtT rfl (hv 2 (by omega) _ rfl _ rfl) rfl) ⟨s, ⟨_, rfl, rfl⟩, hS, fun _ _ => rfl⟩
      | 5, _ => exact stepV rfl rfl (execAsgB rfl (hv 3 (by omega) _ rfl _ rfl)) ⟨s, ⟨_, rfl, rfl⟩, hS, fun _ _ => rfl⟩
      | 6, _ => exact stepV rfl rfl (execAsgB rfl (hv 4 (by omega) _ rfl _ rfl)) ⟨s, ⟨_, rfl, rfl⟩, hS, fun _ _ => rfl⟩
      | k_ + 7, h_ => exact absurd h_ (by simp)
    rintro y90 a X13 h1 h2 h3 h4 hS
    clear BB
    clear Fy85
    replace hS : Below V.heap.size V X13 ∧ (K1 V X13 (2 + 9 * i + 4 + 1) (y90) (nnK f g n m) (ffK f g n m) lv (9 * i)) ∧ (∀ t, t < 2 + 9 * i + 4 → y90 t = y85 t) := hS
    obtain ⟨BB, Fy90, Fe90⟩ := hS
    replace t0 := (h3 0 (by decide)).trans t0
    replace t1 := (h3 1 (by decide)).trans t1
    replace t5 := (h3 5 (by decide)).trans t5
    replace t6 := (h3 6 (by decide)).trans t6
    replace t7 := (h3 7 (by decide)).trans t7
    replace t8 := (h3 8 (by decide)).trans t8
    replace t9 := (h3 9 (by decide)).trans t9
    replace t10 := (h3 10 (by decide)).trans t10
    replace t11 := (h3 11 (by decide)).trans t11
    replace t12 := (h3 12 (by decide)).trans t12
    replace t14 := (h3 14 (by decide)).trans t14
    replace t16 := (h3 16 (by decide)).trans t16
    replace t18 := (h3 18 (by decide)).trans t18
    have t20 : a.eval (.tmp 20) = y90 (2 + 9 * i + 4) := h4 5 _ rfl _ rfl
    replace A := (⟨h1, h2.trans A.2⟩ : a.tmps.size = 312 ∧ a.defers = [])
    clear h1 h2 h3 h4
    rw [← Fe90 _ (by omega)] at t12
    rw [← Fe90 _ (by omega)] at t14
    rw [← Fe90 _ (by omega)] at t16
    rw [← Fe90 _ (by omega)] at t18
    replace e0 := (Fe90 0 (by omega)).trans e0
    replace e1 := (Fe90 1 (by omega)).trans e1
    clear Fe90
    refine wp_seq ?_
    refine wp_region_sq (σ := (Nat → Value)) 312 [(0, 94), (1, 95), (2, 93), (3, 96), (4, 97), (5, 22), (6, 23)] (fun j_ s X => match j_ with | 0 => Below V.heap.size V X ∧ (K1 V X (2 + 9 * i + 4 + 1) (y90) (nnK f g n m) (ffK f g n m) lv (9 * i)) | 1 => Below V.heap.size V X ∧ (K1 V X (2 + 9 * i + 4 + 1) (y90) (nnK f g n m) (ffK f g n m) lv (9 * i)) | 2 => Below V.heap.size V X ∧ (K1 V X (2 + 9 * i + 5 + 1) (s) (nnK f g n m) (ffK f g n m) lv (9 * i)) ∧ (∀ t, t < 2 + 9 * i + 5 → s t = y90 t) | 3 => Below V.heap.size V X ∧ (K1 V X (2 + 9 * i + 5 + 1) (s) (nnK f g n m) (ffK f g n m) lv (9 * i)) ∧ (∀ t, t < 2 + 9 * i + 5 → s t = y90 t) | 4 => Below V.heap.size V X ∧ (K1 V X (2 + 9 * i + 5 + 1) (s) (nnK f g n m) (ffK f g n m) lv (9 * i)) ∧ (∀ t, t < 2 + 9 * i + 5 → s t = y90 t) | 5 => Below V.heap.size V X ∧ (K1 V X (2 + 9 * i + 5 + 1) (s) (nnK f g n m) (ffK f g n m) lv (9 * i)) ∧ (∀ t, t < 2 + 9 * i + 5 → s t = y90 t) | 6 => Below V.heap.size V X ∧ (K1 V X (2 + 9 * i + 5 + 1) (s) (nnK f g n m) (ffK f g n m) lv (9 * i)) ∧ (∀ t, t < 2 + 9 * i + 5 → s t = y90 t) | _ => Below V.heap.size V X ∧ (K1 V X (2 + 9 * i + 5 + 1) (s) (nnK f g n m) (ffK f g n m) lv (9 * i)) ∧ (∀ t, t < 2 + 9 * i + 5 → s t = y90 t)) (fun s => fun i_ => match i_ with | 0 => .slice (some ⟨gs, 0, none⟩) m cs | 1 => .tuple #[s (2 + 9 * i + 5), .int .i64 ((unE g m : Nat) : Int)] | 2 => .tuple #[s (2 + 9 * i + 5), .int .i64 ((unE g m : Nat) : Int)] | 3 => s (2 + 9 * i + 5) | 4 => .int .i64 ((unE g m : Nat) : Int) | 5 => s (2 + 9 * i + 5) | 6 => .int .i64 ((unE g m : Nat) : Int) | _ => undef) (fun _ => undef) A.1 (by kernel_rfl) (by decide) (by decide) ⟨BB, Fy90⟩ ?_ ?_
    · intro i_ hi_ s a X hf hv hn hS
      match i_, hi_ with
      | 0, _ => exact stepV rfl rfl (execMvB rfl ((hf 8 (by decide)).trans t8)) ⟨s, ⟨_, rfl, rfl⟩, hS, fun _ _ => rfl⟩
      | 1, _ =>
        refine stepC rfl rfl (execCall1 Try.func10 (by kernel_rfl) (by kernel_rfl) rfl (hv 0 (by omega) _ rfl _ rfl)) (I.unrank g m _ X (hS.2.fam.inY (by omega) e1 hq.fits) (by omega)) fun e w' hh => ?_
        obtain ⟨r_, he, hk, hb⟩ := hh
        refine ⟨.tuple #[updX y90 (2 + 9 * i + 5) r_ (2 + 9 * i + 5), .int .i64 ((unE g m : Nat) : Int)], by rw [updX_at]; exact he, updX y90 (2 + 9 * i + 5) r_, ⟨_, rfl, rfl⟩, ⟨(hS.1).trans ((hb).mono (hS.1).size), K1.call (k := 2 + 9 * i + 5) hS.2 (by omega) hb hk (nnK_at (c := 5) (by decide)) (fun j _ => by rw [ffK_at (c := 5) (by decide)]; rfl), fun t ht => updX_lt _ _ ht⟩, fun i hi => ?_⟩
        match i, hi with
        | 0, _ => rfl
        | n_ + 1, h_ => omega
      | 2, _ => exact stepV rfl rfl (execMvB rfl (hv 1 (by omega) _ rfl _ rfl)) ⟨s, ⟨_, rfl, rfl⟩, hS, fun _ _ => rfl⟩
      | 3, _ => exact stepV rfl rfl (execExtT rfl (hv 2 (by omega) _ rfl _ rfl) rfl) ⟨s, ⟨_, rfl, rfl⟩, hS, fun _ _ => rfl⟩
      | 4, _ => exact stepV rfl rfl (execExtT rfl (hv 2 (by omega) _ rfl _ rfl) rfl) ⟨s, ⟨_, rfl, rfl⟩, hS, fun _ _ => rfl⟩
      | 5, _ => exact stepV rfl rfl (execAsgB rfl (hv 3 (by omega) _ rfl _ rfl)) ⟨s, ⟨_, rfl, rfl⟩, hS, fun _ _ => rfl⟩
      | 6, _ => exact stepV rfl rfl (execAsgB rfl (hv 4 (by omega) _ rfl _ rfl)) ⟨s, ⟨_, rfl, rfl⟩, hS, fun _ _ => rfl⟩
      | k_ + 7, h_ => exact absurd h_ (by simp)
    rintro y95 a X14 h1 h2 h3 h4 hS
    clear BB
    clear Fy90
    replace hS : Below V.heap.size V X14 ∧ (K1 V X14 (2 + 9 * i + 5 + 1) (y95) (nnK f g n m) (ffK f g n m) lv (9 * i)) ∧ (∀ t, t < 2 + 9 * i + 5 → y95 t = y90 t) := hS
    obtain ⟨BB, Fy95, Fe95⟩ := hS
    replace t0 := (h3 0 (by decide)).trans t0
    replace t1 := (h3 1 (by decide)).trans t1
    replace t5 := (h3 5 (by decide)).trans t5
    replace t6 := (h3 6 (by decide)).trans t6
    replace t7 := (h3 7 (by decide)).trans t7
    replace t8 := (h3 8 (by decide)).trans t8
    replace t9 := (h3 9 (by decide)).trans t9
    replace t10 := (h3 10 (by decide)).trans t10
    replace t11 := (h3 11 (by decide)).trans t11
    replace t12 := (h3 12 (by decide)).trans t12
    replace t14 := (h3 14 (by decide)).trans t14
    replace t16 := (h3 16 (by decide)).trans t16
    replace t18 := (h3 18 (by decide)).trans t18
    replace t20 := (h3 20 (by decide)).trans t20
    have t22 : a.eval (.tmp 22) = y95 (2 + 9 * i + 5) := h4 5 _ rfl _ rfl
    replace A := (⟨h1, h2.trans A.2⟩ : a.tmps.size = 312 ∧ a.defers = [])
    clear h1 h2 h3 h4
    rw [← Fe95 _ (by omega)] at t12
    rw [← Fe95 _ (by omega)] at t14
    rw [← Fe95 _ (by omega)] at t16
    rw [← Fe95 _ (by omega)] at t18
    rw [← Fe95 _ (by omega)] at t20
    replace e0 := (Fe95 0 (by omega)).trans e0
    replace e1 := (Fe95 1 (by omega)).trans e1
    clear Fe95
    refine wp_seq ?_
    refine wp_region_sq (σ := (Nat → Value)) 312 [(0, 99), (1, 100), (2, 101), (3, 102), (4, 103), (5, 98), (6, 104), (7, 105), (8, 24), (9, 25)] (fun j_ s X => match j_ with | 0 => Below V.heap.size V X ∧ (K1 V X (2 + 9 * i + 5 + 1) (y95) (nnK f g n m) (ffK f g n m) lv (9 * i)) | 1 => Below V.heap.size V X ∧ (K1 V X (2 + 9 * i + 5 + 1) (y95) (nnK f g n m) (ffK f g n m) lv (9 * i)) | 2 => Below V.heap.size V X ∧ (K1 V X (2 + 9 * i + 5 + 1) (y95) (nnK f g n m) (ffK f g n m) lv (9 * i)) | 3 => Below V.heap.size V X ∧ (K1 V X (2 + 9 * i + 5 + 1) (y95) (nnK f g n m) (ffK f g n m) lv (9 * i)) | 4 => Below V.heap.size V X ∧ (K1 V X (2 + 9 * i + 5 + 1) (y95) (nnK f g n m) (ffK f g n m) lv (9 * i)) | 5 => Below V.heap.size V X ∧ (K1 V X (2 + 9 * i + 6 + 1) (s) (nnK f g n m) (ffK f g n m) lv (9 * i)) ∧ (∀ t, t < 2 + 9 * i + 6 → s t = y95 t) | 6 => Below V.heap.size V X ∧ (K1 V X (2 + 9 * i + 6 + 1) (s) (nnK f g n m) (ffK f g n m) lv (9 * i)) ∧ (∀ t, t < 2 + 9 * i + 6 → s t = y95 t) | 7 => Below V.heap.size V X ∧ (K1 V X (2 + 9 * i + 6 + 1) (s) (nnK f g n m) (ffK f g n m) lv (9 * i)) ∧ (∀ t, t < 2 + 9 * i + 6 → s t = y95 t) | 8 => Below V.heap.size V X ∧ (K1 V X (2 + 9 * i + 6 + 1) (s) (nnK f g n m) (ffK f g n m) lv (9 * i)) ∧ (∀ t, t < 2 + 9 * i + 6 → s t = y95 t) | 9 => Below V.heap.size V X ∧ (K1 V X (2 + 9 * i + 6 + 1) (s) (nnK f g n m) (ffK f g n m) lv (9 * i)) ∧ (∀ t, t < 2 + 9 * i + 6 → s t = y95 t) | _ => Below V.heap.size V X ∧ (K1 V X (2 + 9 * i + 6 + 1) (s) (nnK f g n m) (ffK f g n m) lv (9 * i)) ∧ (∀ t, t < 2 + 9 * i + 6 → s t = y95 t)) (fun s => fun i_ => match i_ with | 0 => qv | 1 => .int .i64 ((m : Nat) : Int) | 2 => .int .i64 ((m + 1 : Nat) : Int) | 3 => .slice (some ⟨gs, 0, none⟩) m cs | 4 => .tuple #[s (2 + 9 * i + 6), .int .i64 ((frE ((m + 1 : Nat) : Int) g m : Nat) : Int)] | 5 => .tuple #[s (2 + 9 * i + 6), .int .i64 ((frE ((m + 1 : Nat) : Int) g m : Nat) : Int)] | 6 => s (2 + 9 * i + 6) | 7 => .int .i64 ((frE ((m + 1 : Nat) : Int) g m : Nat) : Int) | 8 => s (2 + 9 * i + 6) | 9 => .int .i64 ((frE ((m + 1 : Nat) : Int) g m : Nat) : Int) | _ => undef) (fun _ => undef) A.1 (by kernel_rfl) (by decide) (by decide) ⟨BB, Fy95⟩ ?_ ?_
    · intro i_ hi_ s a X hf hv hn hS
      match i_, hi_ with
      | 0, _ => exact stepV rfl rfl (execMvB rfl ((hf 1 (by decide)).trans t1)) ⟨s, ⟨_, rfl, rfl⟩, hS, fun _ _ => rfl⟩
      | 1, _ => exact stepV rfl rfl (execLenI (len := m) rfl (hv 0 (by omega) _ rfl _ rfl) ((FJ.on hS.1)).shp) ⟨s, ⟨_, rfl, rfl⟩, hS, fun _ _ => rfl⟩
      | 2, _ => exact stepV rfl rfl (execAd8 (p := m) (q := 1) rfl (hv 1 (by omega) _ rfl _ rfl) rfl (by omega)) ⟨s, ⟨_, rfl, rfl⟩, hS, fun _ _ => rfl⟩
      | 3, _ => exact stepV rfl rfl (execMvB rfl ((hf 8 (by decide)).trans t8)) ⟨s, ⟨_, rfl, rfl⟩, hS, fun _ _ => rfl⟩
      | 4, _ =>
        refine stepC rfl rfl (execCall2 Try.func11 (by kernel_rfl) (by kernel_rfl) rfl (hv 2 (by omega) _ rfl _ rfl) (hv 3 (by omega) _ rfl _ rfl)) (I.from_ ((m + 1 : Nat) : Int) g m _ X (hS.2.fam.inY (by omega) e1 hq.fits) (by omega) (by omega)) fun e w' hh => ?_
        obtain ⟨r_, he, hk, hb⟩ := hh
        refine ⟨.tuple #[updX y95 (2 + 9 * i + 6) r_ (2 + 9 * i + 6), .int .i64 ((frE ((m + 1 : Nat) : Int) g m : Nat) : Int)], by rw [updX_at]; exact he, updX y95 (2 + 9 * i + 6) r_, ⟨_, rfl, rfl⟩, ⟨(hS.1).trans ((hb).mono (hS.1).size), K1.call (k := 2 + 9 * i + 6) hS.2 (by omega) hb hk (nnK_at (c := 6) (by decide)) (fun j _ => by rw [ffK_at (c := 6) (by decide)]; rfl), fun t ht => updX_lt _ _ ht⟩, fun i hi => ?_⟩
        match i, hi with
        | 0, _ => rfl
        | 1, _ => rfl
        | 2, _ => rfl
        | 3, _ => rfl
        | n_ + 4, h_ => omega
      | 5, _ => exact stepV rfl rfl (execMvB rfl (hv 4 (by omega) _ rfl _ rfl)) ⟨s, ⟨_, rfl, rfl⟩, hS, fun _ _ => rfl⟩
      | 6, _ => exact stepV rfl rfl (execExtT rfl (hv 5 (by omega) _ rfl _ rfl) rfl) ⟨s, ⟨_, rfl, rfl⟩, hS, fun _ _ => rfl⟩
      | 7, _ => exact stepV rfl rfl (execExtT rfl (hv 5 (by omega) _ rfl _ rfl) rfl) ⟨s, ⟨_, rfl, rfl⟩, hS, fun _ _ => rfl⟩
      | 8, _ => exact stepV rfl rfl (execAsgB rfl (hv 6 (by omega) _ rfl _ rfl)) ⟨s, ⟨_, rfl, rfl⟩, hS, fun _ _ => rfl⟩
      | 9, _ => exact stepV rfl rfl (execAsgB rfl (hv 7 (by omega) _ rfl _ rfl)) ⟨s, ⟨_, rfl, rfl⟩, hS, fun _ _ => rfl⟩
      | k_ + 10, h_ => exact absurd h_ (by simp)
    rintro y103 a X15 h1 h2 h3 h4 hS
    clear BB
    clear Fy95
    replace hS : Below V.heap.size V X15 ∧ (K1 V X15 (2 + 9 * i + 6 + 1) (y103) (nnK f g n m) (ffK f g n m) lv (9 * i)) ∧ (∀ t, t < 2 + 9 * i + 6 → y103 t = y95 t) := hS
    obtain ⟨BB, Fy103, Fe103⟩ := hS
    replace t0 := (h3 0 (by decide)).trans t0
    replace t1 := (h3 1 (by decide)).trans t1
    replace t5 := (h3 5 (by decide)).trans t5
    replace t6 := (h3 6 (by decide)).trans t6
    replace t7 := (h3 7 (by decide)).trans t7
    replace t8 := (h3 8 (by decide)).trans t8
    replace t9 := (h3 9 (by decide)).trans t9
    replace t10 := (h3 10 (by decide)).trans t10
    replace t11 := (h3 11 (by decide)).trans t11
    replace t12 := (h3 12 (by decide)).trans t12
    replace t14 := (h3 14 (by decide)).trans t14
    replace t16 := (h3 16 (by decide)).trans t16
    replace t18 := (h3 18 (by decide)).trans t18
    replace t20 := (h3 20 (by decide)).trans t20
    replace t22 := (h3 22 (by decide)).trans t22
    have t24 : a.eval (.tmp 24) = y103 (2 + 9 * i + 6) := h4 8 _ rfl _ rfl
    replace A := (⟨h1, h2.trans A.2⟩ : a.tmps.size = 312 ∧ a.defers = [])
    clear h1 h2 h3 h4
    rw [← Fe103 _ (by omega)] at t12
    rw [← Fe103 _ (by omega)] at t14
    rw [← Fe103 _ (by omega)] at t16
    rw [← Fe103 _ (by omega)] at t18
    rw [← Fe103 _ (by omega)] at t20
    rw [← Fe103 _ (by omega)] at t22
    replace e0 := (Fe103 0 (by omega)).trans e0
    replace e1 := (Fe103 1 (by omega)).trans e1
    clear Fe103
    refine wp_region_sq (σ := (Nat → Value) × (Nat → Value) × Nat × Value) 312 [(0, 106), (1, 107), (2, 108), (3, 109), (4, 110), (5, 111), (6, 112), (7, 113), (8, 114), (9, 115), (10, 116), (11, 117), (12, 118), (13, 119), (14, 120), (15, 121), (16, 122), (17, 123), (18, 9)] (fun j_ s X => match j_ with | 0 => Below V.heap.size V X ∧ (K1 V X (2 + 9 * i + 6 + 1) (y103) (nnK f g n m) (ffK f g n m) lv (9 * i)) | 1 => Below V.heap.size V X ∧ (K1 V X (2 + 9 * i + 6 + 1) (y103) (nnK f g n m) (ffK f g n m) lv (9 * i)) | 2 => Below V.heap.size V X ∧ (K1 V X (2 + 9 * i + 6 + 1) (y103) (nnK f g n m) (ffK f g n m) lv (9 * i)) | 3 => Below V.heap.size V X ∧ (K1 V X (2 + 9 * i + 6 + 1) (y103) (nnK f g n m) (ffK f g n m) lv (9 * i)) | 4 => Below V.heap.size V X ∧ (K1 V X (2 + 9 * i + 6 + 1) (y103) (nnK f g n m) (ffK f g n m) lv (9 * i)) | 5 => Below V.heap.size V X ∧ (K1 V X (2 + 9 * i + 6 + 1) (y103) (nnK f g n m) (ffK f g n m) lv (9 * i)) | 6 => Below V.heap.size V X ∧ (K1 V X (2 + 9 * i + 6 + 1) (y103) (nnK f g n m) (ffK f g n m) lv (9 * i)) | 7 => Below V.heap.size V X ∧ (K1 V X (2 + 9 * i + 6 + 1) (y103) (nnK f g n m) (ffK f g n m) lv (9 * i)) | 8 => Below V.heap.size V X ∧ (K1 V X (2 + 9 * i + 6 + 1) (y103) (nnK f g n m) (ffK f g n m) lv (9 * i)) | 9 => Below V.heap.size V X ∧ (K1 V X (2 + 9 * i + 6 + 1) (y103) (nnK f g n m) (ffK f g n m) lv (9 * i)) | 10 => Below V.heap.size V X ∧ (K1 V X (2 + 9 * i + 6 + 1) (y103) (nnK f g n m) (ffK f g n m) lv (9 * i)) | 11 => Below V.heap.size V X ∧ (K1 V X (2 + 9 * i + 6 + 1) (y103) (nnK f g n m) (ffK f g n m) lv (9 * i)) | 12 => Below V.heap.size V X ∧ (K1 V X (2 + 9 * i + 7 + 1) (s.1) (nnK f g n m) (ffK f g n m) lv (9 * i)) ∧ (∀ t, t < 2 + 9 * i + 7 → s.1 t = y103 t) | 13 => Below V.heap.size V X ∧ (K1 V X (2 + 9 * i + 7 + 1) (s.1) (nnK f g n m) (ffK f g n m) lv (9 * i)) ∧ (∀ t, t < 2 + 9 * i + 7 → s.1 t = y103 t) | 14 => Below V.heap.size V X ∧ (K1 V X (2 + 9 * i + 7 + 1) (s.1) (nnK f g n m) (ffK f g n m) lv (9 * i)) ∧ (∀ t, t < 2 + 9 * i + 7 → s.1 t = y103 t) | 15 => Below V.heap.size V X ∧ (K1 V X (2 + 9 * i + 7 + 1) (s.1) (nnK f g n m) (ffK f g n m) lv (9 * i)) ∧ (∀ t, t < 2 + 9 * i + 7 → s.1 t = y103 t) | 16 => Below V.heap.size V X ∧ (∀ t, t < 2 + 9 * i + 7 → s.1 t = y103 t) ∧ (K1 V X (2 + 9 * i + 8 + 1) (s.2.1) (nnK f g n m) (ffK f g n m) lv (9 * i)) ∧ (∀ t, t < 2 + 9 * i + 8 → s.2.1 t = s.1 t) | 17 => Below V.heap.size V X ∧ (∀ t, t < 2 + 9 * i + 7 → s.1 t = y103 t) ∧ (K1 V X (2 + 9 * i + 8 + 1) (s.2.1) (nnK f g n m) (ffK f g n m) lv (9 * i)) ∧ (∀ t, t < 2 + 9 * i + 8 → s.2.1 t = s.1 t) ∧ (X.heap[s.2.2.1]? = some (.cells #[y103 (2 + 9 * i + 0), y103 (2 + 9 * i + 1), y103 (2 + 9 * i + 2), y103 (2 + 9 * i + 3), y103 (2 + 9 * i + 4), y103 (2 + 9 * i + 5), y103 (2 + 9 * i + 6), s.1 (2 + 9 * i + 7), s.2.1 (2 + 9 * i + 8)] 22)) | 18 => Below V.heap.size V X ∧ (∀ t, t < 2 + 9 * i + 7 → s.1 t = y103 t) ∧ (∀ t, t < 2 + 9 * i + 8 → s.2.1 t = s.1 t) ∧ (K1 V X (2 + 9 * i + 8 + 1) (s.2.1) (nnK f g n m) (ffK f g n m) s.2.2.2 (9 * i + 9)) | _ => Below V.heap.size V X ∧ (∀ t, t < 2 + 9 * i + 7 → s.1 t = y103 t) ∧ (∀ t, t < 2 + 9 * i + 8 → s.2.1 t = s.1 t) ∧ (K1 V X (2 + 9 * i + 8 + 1) (s.2.1) (nnK f g n m) (ffK f g n m) s.2.2.2 (9 * i + 9))) (fun s => fun i_ => match i_ with | 0 => lv | 1 => y103 (2 + 9 * i + 0) | 2 => y103 (2 + 9 * i + 1) | 3 => y103 (2 + 9 * i + 2) | 4 => y103 (2 + 9 * i + 3) | 5 => y103 (2 + 9 * i + 4) | 6 => y103 (2 + 9 * i + 5) | 7 => y103 (2 + 9 * i + 6) | 8 => pv | 9 => .int .i64 ((n : Nat) : Int) | 10 => .int .i64 ((n % 500 : Nat) : Int) | 11 => s.1 (2 + 9 * i + 7) | 12 => pv | 13 => .int .i64 ((n : Nat) : Int) | 14 => .int .i64 ((n % 500 : Nat) : Int) | 15 => s.2.1 (2 + 9 * i + 8) | 16 => .slice (some ⟨s.2.2.1, 0, none⟩) 9 9 | 17 => s.2.2.2 | 18 => s.2.2.2 | _ => undef) ((fun _ => undef), (fun _ => undef), 0, undef) A.1 (by kernel_rfl) (by decide) (by decide) ⟨BB, Fy103⟩ ?_ ?_
    · intro i_ hi_ s a X hf hv hn hS
      match i_, hi_ with
      | 0, _ => exact stepV rfl rfl (execMvB rfl ((hn 18 (by omega) _ rfl _ rfl).trans t9)) ⟨s, ⟨_, rfl, rfl⟩, hS, fun _ _ => rfl⟩
      | 1, _ => exact stepV rfl rfl (execMvB rfl ((hf 12 (by decide)).trans t12)) ⟨s, ⟨_, rfl, rfl⟩, hS, fun _ _ => rfl⟩
      | 2, _ => exact stepV rfl rfl (execMvB rfl ((hf 14 (by decide)).trans t14)) ⟨s, ⟨_, rfl, rfl⟩, hS, fun _ _ => rfl⟩
      | 3, _ => exact stepV rfl rfl (execMvB rfl ((hf 16 (by decide)).trans t16)) ⟨s, ⟨_, rfl, rfl⟩, hS, fun _ _ => rfl⟩
      | 4, _ => exact stepV rfl rfl (execMvB rfl ((hf 18 (by decide)).trans t18)) ⟨s, ⟨_, rfl, rfl⟩, hS, fun _ _ => rfl⟩
      | 5, _ => exact stepV rfl rfl (execMvB rfl ((hf 20 (by decide)).trans t20)) ⟨s, ⟨_, rfl, rfl⟩, hS, fun _ _ => rfl⟩
      | 6, _ => exact stepV rfl rfl (execMvB rfl ((hf 22 (by decide)).trans t22)) ⟨s, ⟨_, rfl, rfl⟩, hS, fun _ _ => rfl⟩
      | 7, _ => exact stepV rfl rfl (execMvB rfl ((hf 24 (by decide)).trans t24)) ⟨s, ⟨_, rfl, rfl⟩, hS, fun _ _ => rfl⟩
      | 8, _ => exact stepV rfl rfl (execMvB rfl ((hf 0 (by decide)).trans t0)) ⟨s, ⟨_, rfl, rfl⟩, hS, fun _ _ => rfl⟩
      | 9, _ => exact stepV rfl rfl (execLenI (len := n) rfl (hv 8 (by omega) _ rfl _ rfl) ((FI.on hS.1)).shp) ⟨s, ⟨_, rfl, rfl⟩, hS, fun _ _ => rfl⟩
      | 10, _ => exact stepV rfl rfl (Aes.execRemI (p := n) (q := 500) rfl (hv 9 (by omega) _ rfl _ rfl) rfl (by decide)) ⟨s, ⟨_, rfl, rfl⟩, hS, fun _ _ => rfl⟩
      | 11, _ =>
        refine stepC rfl rfl (execCall1 Try.func12 (by kernel_rfl) (by kernel_rfl) rfl (hv 10 (by omega) _ rfl _ rfl)) (I.ident ((n % 500 : Nat) : Int) X (by omega)) fun e w' hh => ?_
        obtain ⟨r_, he, hk, hb⟩ := hh
        refine ⟨updX y103 (2 + 9 * i + 7) r_ (2 + 9 * i + 7), by rw [updX_at]; exact he, (updX y103 (2 + 9 * i + 7) r_, s.2.1, s.2.2.1, s.2.2.2), ⟨_, rfl, rfl⟩, ⟨(hS.1).trans ((hb).mono (hS.1).size), K1.call (k := 2 + 9 * i + 7) hS.2 (by omega) hb hk (nnK_at (c := 7) (by decide)) (fun j _ => by rw [ffK_at (c := 7) (by decide)]; rfl), fun t ht => updX_lt _ _ ht⟩, fun i hi => ?_⟩
        match i, hi with
        | 0, _ => rfl
        | 1, _ => rfl
        | 2, _ => rfl
        | 3, _ => rfl
        | 4, _ => rfl
        | 5, _ => rfl
        | 6, _ => rfl
        | 7, _ => rfl
        | 8, _ => rfl
        | 9, _ => rfl
        | 10, _ => rfl
        | n_ + 11, h_ => omega
      | 12, _ => exact stepV rfl rfl (execMvB rfl ((hf 0 (by decide)).trans t0)) ⟨s, ⟨_, rfl, rfl⟩, hS, fun _ _ => rfl⟩
      | 13, _ => exact stepV rfl rfl (execLenI (len := n) rfl (hv 12 (by omega) _ rfl _ rfl) ((FI.on hS.1)).shp) ⟨s, ⟨_, rfl, rfl⟩, hS, fun _ _ => rfl⟩
      | 14, _ => exact stepV rfl rfl (Aes.execRemI (p := n) (q := 500) rfl (hv 13 (by omega) _ rfl _ rfl) rfl (by decide)) ⟨s, ⟨_, rfl, rfl⟩, hS, fun _ _ => rfl⟩
      | 15, _ =>
        refine stepC rfl rfl (execCall1 Try.func13 (by kernel_rfl) (by kernel_rfl) rfl (hv 14 (by omega) _ rfl _ rfl)) (I.bounds ((n % 500 : Nat) : Int) X (by omega)) fun e w' hh => ?_
        obtain ⟨r_, he, hk, hb⟩ := hh
        refine ⟨updX (s.1) (2 + 9 * i + 8) r_ (2 + 9 * i + 8), by rw [updX_at]; exact he, (s.1, updX (s.1) (2 + 9 * i + 8) r_, s.2.2.1, s.2.2.2), ⟨_, rfl, rfl⟩, ⟨(hS.1).trans ((hb).mono (hS.1).size), hS.2.2, K1.call (k := 2 + 9 * i + 8) hS.2.1 (by omega) hb hk (nnK_at (c := 8) (by decide)) (fun j _ => by rw [ffK_at (c := 8) (by decide)]; rfl), fun t ht => updX_lt _ _ ht⟩, fun i hi => ?_⟩
        match i, hi with
        | 0, _ => rfl
        | 1, _ => rfl
        | 2, _ => rfl
        | 3, _ => rfl
        | 4, _ => rfl
        | 5, _ => rfl
        | 6, _ => rfl
        | 7, _ => rfl
        | 8, _ => rfl
        | 9, _ => rfl
        | 10, _ => rfl
        | 11, _ => rfl
        | 12, _ => rfl
        | 13, _ => rfl
        | 14, _ => rfl
        | n_ + 15, h_ => omega
      | 16, _ =>
        refine stepV rfl rfl (execBsLI9 rfl (hv 1 (by omega) _ rfl _ rfl) (hv 2 (by omega) _ rfl _ rfl) (hv 3 (by omega) _ rfl _ rfl) (hv 4 (by omega) _ rfl _ rfl) (hv 5 (by omega) _ rfl _ rfl) (hv 6 (by omega) _ rfl _ rfl) (hv 7 (by omega) _ rfl _ rfl) (hv 11 (by omega) _ rfl _ rfl) (hv 15 (by omega) _ rfl _ rfl) (by have h_ := hS.2.2.1.shp (t := 2 + 9 * i + 0) (by omega); rw [hS.2.2.2 _ (by omega), hS.2.1 _ (by omega)] at h_; exact h_) (by have h_ := hS.2.2.1.shp (t := 2 + 9 * i + 1) (by omega); rw [hS.2.2.2 _ (by omega), hS.2.1 _ (by omega)] at h_; exact h_) (by have h_ := hS.2.2.1.shp (t := 2 + 9 * i + 2) (by omega); rw [hS.2.2.2 _ (by omega), hS.2.1 _ (by omega)] at h_; exact h_) (by have h_ := hS.2.2.1.shp (t := 2 + 9 * i + 3) (by omega); rw [hS.2.2.2 _ (by omega), hS.2.1 _ (by omega)] at h_; exact h_) (by have h_ := hS.2.2.1.shp (t := 2 + 9 * i + 4) (by omega); rw [hS.2.2.2 _ (by omega), hS.2.1 _ (by omega)] at h_; exact h_) (by have h_ := hS.2.2.1.shp (t := 2 + 9 * i + 5) (by omega); rw [hS.2.2.2 _ (by omega), hS.2.1 _ (by omega)] at h_; exact h_) (by have h_ := hS.2.2.1.shp (t := 2 + 9 * i + 6) (by omega); rw [hS.2.2.2 _ (by omega), hS.2.1 _ (by omega)] at h_; exact h_) (by have h_ := hS.2.2.1.shp (t := 2 + 9 * i + 7) (by omega); rw [hS.2.2.2 _ (by omega)] at h_; exact h_) (by have h_ := hS.2.2.1.shp (t := 2 + 9 * i + 8) (by omega); exact h_)) ⟨(s.1, s.2.1, X.heap.size, s.2.2.2), ⟨_, rfl, rfl⟩, ⟨(hS.1).trans (((belNew X _)).mono (hS.1).size), hS.2.1, (hS.2.2.1.on (belNew X _)), hS.2.2.2, heapNew X _⟩, fun i hi => ?_⟩
        match i, hi with
        | 0, _ => rfl
        | 1, _ => rfl
        | 2, _ => rfl
        | 3, _ => rfl
        | 4, _ => rfl
        | 5, _ => rfl
        | 6, _ => rfl
        | 7, _ => rfl
        | 8, _ => rfl
        | 9, _ => rfl
        | 10, _ => rfl
        | 11, _ => rfl
        | 12, _ => rfl
        | 13, _ => rfl
        | 14, _ => rfl
        | 15, _ => rfl
        | n_ + 16, h_ => omega
      | 17, _ =>
        refine stepAppLI (z := fun t => s.2.1 (2 + t)) rfl rfl rfl (hv 0 (by omega) _ rfl _ rfl) (hv 16 (by omega) _ rfl _ rfl) hS.2.2.1.li hS.2.2.2.2 rfl (lit9 hS.2.2.2.1 hS.2.1) (fun j hj => one_shp (hS.2.2.1.shp (t := 2 + (9 * i + j)) (by omega))) (fun _ _ => rfl) (by omega) (hS.1).size fun v' W' own' gr => ⟨(s.1, s.2.1, s.2.2.1, v'), ⟨_, rfl, rfl⟩, ⟨(hS.2.2.1.app own' gr).bel, hS.2.1, hS.2.2.2.1, hS.2.2.1.app own' gr⟩, fun i hi => ?_⟩
        match i, hi with
        | 0, _ => rfl
        | 1, _ => rfl
        | 2, _ => rfl
        | 3, _ => rfl
        | 4, _ => rfl
        | 5, _ => rfl
        | 6, _ => rfl
        | 7, _ => rfl
        | 8, _ => rfl
        | 9, _ => rfl
        | 10, _ => rfl
        | 11, _ => rfl
        | 12, _ => rfl
        | 13, _ => rfl
        | 14, _ => rfl
        | 15, _ => rfl
        | 16, _ => rfl
        | n_ + 17, h_ => omega
      | 18, _ => exact stepV rfl rfl (execAsgB rfl (hv 17 (by omega) _ rfl _ rfl)) ⟨s, ⟨_, rfl, rfl⟩, hS, fun _ _ => rfl⟩
      | k_ + 19, h_ => exact absurd h_ (by simp)
    rintro ⟨y117, y121, g122, v123⟩ a X16 h1 h2 h3 h4 hS
    clear BB
    clear Fy103
    replace hS : Below V.heap.size V X16 ∧ (∀ t, t < 2 + 9 * i + 7 → y117 t = y103 t) ∧ (∀ t, t < 2 + 9 * i + 8 → y121 t = y117 t) ∧ (K1 V X16 (2 + 9 * i + 8 + 1) (y121) (nnK f g n m) (ffK f g n m) v123 (9 * i + 9)) := hS
    obtain ⟨BB, Fe117, Fe121, FKn⟩ := hS
    replace t0 := (h3 0 (by decide)).trans t0
    replace t1 := (h3 1 (by decide)).trans t1
    replace t5 := (h3 5 (by decide)).trans t5
    replace t6 := (h3 6 (by decide)).trans t6
    replace t7 := (h3 7 (by decide)).trans t7
    replace t8 := (h3 8 (by decide)).trans t8
    replace t9 : a.eval (.tmp 9) = v123 := h4 18 _ rfl _ rfl
    replace t10 := (h3 10 (by decide)).trans t10
    replace t11 := (h3 11 (by decide)).trans t11
    replace A := (⟨h1, h2.trans A.2⟩ : a.tmps.size = 312 ∧ a.defers = [])
    clear h1 h2 h3 h4
    clear t12 t14 t16 t18 t20 t22 t24
    replace e0 := (Fe121 0 (by omega)).trans ((Fe117 0 (by omega)).trans e0)
    replace e1 := (Fe121 1 (by omega)).trans ((Fe117 1 (by omega)).trans e1)
    clear Fe121 Fe117
    rw [show 2 + 9 * i + 8 + 1 = 2 + 9 * (i + 1) by omega, show 9 * i + 9 = 9 * (i + 1) by omega] at FKn
    refine wp_region_sq (σ := Unit) 312 [(0, 64), (1, 65), (2, 11)] (fun j_ s X => match j_ with | 0 => Below V.heap.size V X ∧ (K1 V X (2 + 9 * (i + 1)) y121 (nnK f g n m) (ffK f g n m) v123 (9 * (i + 1))) | 1 => Below V.heap.size V X ∧ (K1 V X (2 + 9 * (i + 1)) y121 (nnK f g n m) (ffK f g n m) v123 (9 * (i + 1))) | 2 => Below V.heap.size V X ∧ (K1 V X (2 + 9 * (i + 1)) y121 (nnK f g n m) (ffK f g n m) v123 (9 * (i + 1))) | _ => Below V.heap.size V X ∧ (K1 V X (2 + 9 * (i + 1)) y121 (nnK f g n m) (ffK f g n m) v123 (9 * (i + 1)))) (fun s => fun i_ => match i_ with | 0 => .int .i64 ((i : Nat) : Int) | 1 => .int .i64 ((i + 1 : Nat) : Int) | 2 => .int .i64 ((i + 1 : Nat) : Int) | _ => undef) () A.1 (by kernel_rfl) (by decide) (by decide) ⟨BB, FKn⟩ ?_ ?_
    · intro i_ hi_ s a X hf hv hn hS
      match i_, hi_ with
      | 0, _ => exact stepV rfl rfl (execMvB rfl ((hn 2 (by omega) _ rfl _ rfl).trans t11)) ⟨s, ⟨_, rfl, rfl⟩, hS, fun _ _ => rfl⟩
      | 1, _ => exact stepV rfl rfl (execAd8 (p := i) (q := 1) rfl (hv 0 (by omega) _ rfl _ rfl) rfl (by omega)) ⟨s, ⟨_, rfl, rfl⟩, hS, fun _ _ => rfl⟩
      | 2, _ => exact stepV rfl rfl (execAsgB rfl (hv 1 (by omega) _ rfl _ rfl)) ⟨s, ⟨_, rfl, rfl⟩, hS, fun _ _ => rfl⟩
      | k_ + 3, h_ => exact absurd h_ (by simp)
    rintro _ a X8 h1 h2 h3 h4 hS
    clear BB
    clear FKn
    replace hS : Below V.heap.size V X8 ∧ (K1 V X8 (2 + 9 * (i + 1)) y121 (nnK f g n m) (ffK f g n m) v123 (9 * (i + 1))) := hS
    obtain ⟨BB, FKn⟩ := hS
    replace t0 := (h3 0 (by decide)).trans t0
    replace t1 := (h3 1 (by decide)).trans t1
    replace t5 := (h3 5 (by decide)).trans t5
    replace t6 := (h3 6 (by decide)).trans t6
    replace t7 := (h3 7 (by decide)).trans t7
    replace t8 := (h3 8 (by decide)).trans t8
    replace t9 := (h3 9 (by decide)).trans t9
    replace t10 := (h3 10 (by decide)).trans t10
    replace t11 : a.eval (.tmp 11) = .int .i64 ((i + 1 : Nat) : Int) := h4 2 _ rfl _ rfl
    replace A := (⟨h1, h2.trans A.2⟩ : a.tmps.size = 312 ∧ a.defers = [])
    clear h1 h2 h3 h4
    exact ⟨⟨i + 1, _, _, lti, e0, e1, A, t0, t1, t5, t6, t7, t8, t9, t10, t11, BB, FKn⟩, by show 2 - (intOf (a.eval (.tmp 11))).toNat < 2 - (intOf (Act.eval _ (.tmp 11))).toNat; rw [t11, esi]; show 2 - (i + 1) < 2 - i; omega⟩
  · rw [decide_eq_false lti] at t63
    refine wp_cond_false t63 ?_
    refine wp_exit ?_
    first | refine exit_in ?_ | refine exit_then (exit_in ?_) | refine exit_then (exit_then (exit_in ?_))
    clear t63 esi
    obtain rfl : i = 2 := by omega
    clear t11 lti hi
    replace FK : K1 V X7 20 xx (nnK f g n m) (ffK f g n m) lv 18 := FK
    obtain ⟨gl, cl, rfl, _, _⟩ := ownL_some9 FK.li (by decide)
    exact keeps17 I V f g n m pv qv hp hq hn17 hm17 _ xx gl cl gr cr gs cs BB e0 e1 FK a A t0 t1 t5 t6 t7 t8 t9 t10
end Go.Proofs.Ytldhhfkplongiaa.Prm
