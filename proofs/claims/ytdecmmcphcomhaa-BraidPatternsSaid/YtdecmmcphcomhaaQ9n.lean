import Derived.Test.YtdecmmcphcomhaaQ9m
namespace Go.Proofs.Ytdecmmcphcomhaa.Brd
open Go.RowKit Gf8 Aes By8 Cel Cf Tap Drw Prm
/- Package braid as it landed: Draws. Written by tools/mkQ9n.py. -/

/-- Three rows: draws, what is left, the next visits. -/
def x3 (a l x : Value) (t : Nat) : Value := if t = 0 then a else if t = 1 then l else x
def n3 (n J t : Nat) : Nat := if t = 0 then n else J
def ffD (sf cf vf : Nat → Int) (i t : Nat) : Nat → Int :=
  if t = 0 then fun k => if k < i then dwF sf cf vf k else 0 else if t = 1 then fun j => (lefC (gN sf) (gN cf) i j : Int) else fun j => ((sumN (gN sf) j + cntC (gN cf) j i : Nat) : Int)
theorem fm3 {B C n J : Nat} {a l x : Value} {f0 : Nat → Int} {gg : Nat → Nat → Int} {W : World} (h0 : W.ownsRow B 3 1 a n (intsL n f0)) (ha : ∀ k, a.ownBlock = some k → k < C) (h2 : FmI C 2 (x2 l x) (fun _ => J) gg W) (hBC : B ≤ C) : FmI B 3 (x3 a l x) (n3 n J) (fun t => if t = 0 then f0 else if t = 1 then gg 0 else gg 1) W := by
  have r0 := h2.rows 0 (by omega)
  have r1 := h2.rows 1 (by omega)
  have d01 := h2.dis 0 1 (by omega) (by omega) (by omega)
  have hl : ∀ k, l.ownBlock = some k → C ≤ k := fun k e => (r0.lt k e).1
  have hx : ∀ k, x.ownBlock = some k → C ≤ k := fun k e => (r1.lt k e).1
  refine ⟨fun t ht => ?_, fun s t hs ht hst k e => ?_⟩
  · match t, ht with
    | 0, _ => exact h0
    | 1, _ => exact ownD_base r0 hBC
    | 2, _ => exact ownD_base r1 hBC
    | t + 3, h => omega
  · match s, hs, t, ht, hst, e with
    | 0, _, 0, _, h, _ => exact absurd rfl h
    | 0, _, 1, _, _, e => exact fun z => by have := ha k e; have := hl k z; omega
    | 0, _, 2, _, _, e => exact fun z => by have := ha k e; have := hx k z; omega
    | 1, _, 0, _, _, e => exact fun z => by have := ha k z; have := hl k e; omega
    | 1, _, 1, _, h, _ => exact absurd rfl h
    | 1, _, 2, _, _, e => exact d01 k e
    | 2, _, 0, _, _, e => exact fun z => by have := ha k z; have := hx k e; omega
    | 2, _, 1, _, _, e => exact fun z => d01 k z e
    | 2, _, 2, _, h, _ => exact absurd rfl h
    | s + 3, h, _, _, _, _ => omega
    | _, _, t + 3, h, _, _ => omega
theorem ffD_zero (sf cf vf : Nat → Int) (n J : Nat) : ∀ t, t < 3 → ∀ j, j < n3 n J t → (fun t => if t = 0 then (fun _ => 0) else if t = 1 then ffB sf 0 else ffB sf 1 : Nat → Nat → Int) t j = ffD sf cf vf 0 t j := fun t ht j _ => by
  match t, ht with
  | 0, _ => rfl
  | 1, _ => rfl
  | 2, _ => rfl
  | t + 3, h => omega
theorem ffD_next (sf cf vf : Nat → Int) (n J : Nat) {i c o p q : Nat} (ec : gN cf i = c) (eo : vf p = (o : Int)) (ep : sumN (gN sf) c + cntC (gN cf) c i = p) (eq : lefC (gN sf) (gN cf) i c = q) (hp0 : poC (gN sf) (gN cf) i = sumN (gN sf) c + cntC (gN cf) c i) :
    ∀ t, t < 3 → ∀ j, j < n3 n J t → updF (updF (updF (ffD sf cf vf i) 2 c ((p + 1 : Nat) : Int)) 1 c ((q - 1 : Nat) : Int)) 0 i ((sumN (lefC (gN sf) (gN cf) i) c + o : Nat) : Int) t j = ffD sf cf vf (i + 1) t j := fun t ht j _ => by
  match t, ht with
  | 0, _ =>
    rw [updF_at, updF_o (by omega), updF_o (by omega)]
    show (if j = i then ((sumN (lefC (gN sf) (gN cf) i) c + o : Nat) : Int) else if j < i then dwF sf cf vf j else 0) = if j < i + 1 then dwF sf cf vf j else 0
    by_cases e : j = i
    · subst e
      rw [if_pos rfl, if_pos (by omega)]
      show _ = (((vf (poC (gN sf) (gN cf) j)).toNat + sumN (lefC (gN sf) (gN cf) j) (gN cf j) : Nat) : Int)
      rw [hp0, ep, eo, ec, Int.toNat_natCast, Nat.add_comm]
    · rw [if_neg e]
      by_cases e2 : j < i
      · rw [if_pos e2, if_pos (by omega)]
      · rw [if_neg e2, if_neg (by omega)]
  | 1, _ =>
    rw [updF_o (by omega), updF_at, updF_o (by omega)]
    show (if j = c then ((q - 1 : Nat) : Int) else ((lefC _ _ i j : Nat) : Int)) = ((lefC (gN sf) (gN cf) (i + 1) j : Nat) : Int)
    rw [lefC_succ, ec]
    by_cases e : j = c
    · subst e
      rw [if_pos rfl, dec1_at, eq]
    · rw [if_neg e, dec1_o e]
  | 2, _ =>
    rw [updF_o (by omega), updF_o (by omega), updF_at]
    show (if j = c then ((p + 1 : Nat) : Int) else ((sumN (gN sf) j + cntC _ j i : Nat) : Int)) = ((sumN (gN sf) j + (cntC (gN cf) j i + if gN cf i = j then 1 else 0) : Nat) : Int)
    rw [ec]
    by_cases e : j = c
    · subst e
      rw [if_pos rfl, if_pos rfl, ← ep, Nat.add_assoc]
    · rw [if_neg e, if_neg (fun z => e z.symm), Nat.add_zero]
  | t + 3, h => omega
theorem lefC_fits (sf cf : Nat → Int) {J : Nat} (i j : Nat) (hok : okS sf J = true) (hj : j < J) : -9223372036854775808 ≤ ((lefC (gN sf) (gN cf) i j : Nat) : Int) ∧ ((lefC (gN sf) (gN cf) i j : Nat) : Int) < 9223372036854775808 := by
  have h1 : lefC (gN sf) (gN cf) i j ≤ gN sf j := Nat.sub_le _ _
  have h2 := sumN_at (r := gN sf) hj
  have h3 := okS_sum hok
  omega
set_option maxRecDepth 100000 in
set_option maxHeartbeats 4000000 in
/-- The program's Draws. -/
theorem pdraws12 (sf cf vf : Nat → Int) (J n m : Nat) (v u0 u1 : Value) (V : World) (hv : SliceI V v J sf) (hJ17 : J ≤ 17592186044416) (hv2 : SliceI V u0 n cf) (hn17 : n ≤ 17592186044416) (hv3 : SliceI V u1 m vf) :
    Calls Try.prog 20 #[v, u0, u1] V fun e w' => ∃ r, e = .returned (.tuple #[r, .int .i64 ((drE sf J cf n vf m : Nat) : Int)]) ∧ w'.ownsRow V.heap.size 3 1 r (zl (drE sf J cf n vf m) n) (intsL (zl (drE sf J cf n vf m) n) (dwF sf cf vf)) ∧ Below V.heap.size V w' := by
  obtain ⟨ia, ic, rfl, -, -, hsh⟩ := id hv.shape
  obtain ⟨ja, jc, rfl, -, -, hsj⟩ := id hv2.shape
  obtain ⟨ka, kc, rfl, -, -, hsk⟩ := id hv3.shape
  have FI := hv
  have FJ := hv2
  have FK := hv3
  go_enter Try.func20, Try.ntmps20
  refine wp_seq ?_
  refine wp_region_sqK 58 [(0, 6), (1, 7)] (fun i_ => match i_ with | 0 => .slice none 0 0 | 1 => .int .i64 ((0 : Nat) : Int) | _ => undef) rfl (by kernel_rfl) (by decide) (by decide) ?_ ?_
  · intro i_ hi_ a hf hv hn
    match i_, hi_ with
    | 0, _ => exact stepV rfl rfl (execAsgB rfl rfl) ⟨⟨_, rfl, rfl⟩, rfl⟩
    | 1, _ => exact stepV rfl rfl (execAsgB rfl rfl) ⟨⟨_, rfl, rfl⟩, rfl⟩
    | k_ + 2, h_ => exact absurd h_ (by simp)
  intro a h1 h2 h3 h4
  have t0 : a.eval (.tmp 0) = .slice ia J ic := (h3 0 (by decide)).trans rfl
  have t1 : a.eval (.tmp 1) = .slice ja n jc := (h3 1 (by decide)).trans rfl
  have t2 : a.eval (.tmp 2) = .slice ka m kc := (h3 2 (by decide)).trans rfl
  have A : a.tmps.size = 58 ∧ a.defers = [] := ⟨h1, h2⟩
  have BW : Below V.heap.size V V := Below.refl _ _
  clear h1 h2 h3 h4
  have BB := BW
  refine wp_seq ?_
  refine wp_seq ?_
  cases hs : szQ sf J with
  | false =>
    refine wp_region_sq (σ := Unit) 58 [(0, 13), (1, 14), (2, 15), (3, 16), (4, 17), (5, 18), (6, 19), (7, 20), (8, 21), (9, 22), (10, 23), (11, 24), (12, 25), (13, 26), (14, 27)] (fun j_ s X => match j_ with | 0 => Below V.heap.size V X | 1 => Below V.heap.size V X | 2 => Below V.heap.size V X | 3 => Below V.heap.size V X | 4 => Below V.heap.size V X | 5 => Below V.heap.size V X | 6 => Below V.heap.size V X | 7 => Below V.heap.size V X | 8 => Below V.heap.size V X | 9 => Below V.heap.size V X | 10 => Below V.heap.size V X | 11 => Below V.heap.size V X | 12 => Below V.heap.size V X | 13 => Below V.heap.size V X | 14 => Below V.heap.size V X | _ => Below V.heap.size V X) (fun s => fun i_ => match i_ with | 0 => .slice ia J ic | 1 => .bool false | 2 => .bool true | 3 => .bool true | 4 => undef | 5 => undef | 6 => undef | 7 => undef | 8 => .bool true | 9 => .bool true | 10 => undef | 11 => undef | 12 => undef | 13 => undef | 14 => .bool true | _ => undef) () A.1 (by kernel_rfl) (by decide) (by decide) (BB) ?_ ?_
    · intro i_ hi_ s a X hf hv hn hS
      match i_, hi_ with
      | 0, _ => exact stepV rfl rfl (execMvB rfl ((hf 0 (by decide)).trans t0)) ⟨s, ⟨_, rfl, rfl⟩, hS, fun _ _ => rfl⟩
      | 1, _ => exact stepC rfl rfl (execCall1 Try.func30 (by kernel_rfl) (by kernel_rfl) rfl (hv 0 (by omega) _ rfl _ rfl)) (hs ▸ pareSizes sf J _ X (FI.on hS) hJ17) fun e w' hh => ⟨_, hh.1, s, ⟨_, rfl, rfl⟩, (hS).trans ((hh.2).mono (hS).size), fun _ _ => rfl⟩
      | 2, _ => exact stepV rfl rfl (execNot8 rfl (hv 1 (by omega) _ rfl _ rfl)) ⟨s, ⟨_, rfl, rfl⟩, hS, fun _ _ => rfl⟩
      | 3, _ => exact stepV rfl rfl (execMvB rfl (hv 2 (by omega) _ rfl _ rfl)) ⟨s, ⟨_, rfl, rfl⟩, hS, fun _ _ => rfl⟩
      | 4, _ => exact stepU rfl (unwantedOf rfl (yieldedAt rfl rfl (show a.eval (.tmp 16) = .bool (!false) from (hv 3 (by omega) _ rfl _ rfl)))) ⟨s, ⟨_, rfl, rfl⟩, hS, fun _ _ => rfl⟩
      | 5, _ => exact stepU rfl (unwantedOf rfl (yieldedAt rfl rfl (show a.eval (.tmp 16) = .bool (!false) from (hv 3 (by omega) _ rfl _ rfl)))) ⟨s, ⟨_, rfl, rfl⟩, hS, fun _ _ => rfl⟩
      | 6, _ => exact stepU rfl (unwantedOf rfl (yieldedAt rfl rfl (show a.eval (.tmp 16) = .bool (!false) from (hv 3 (by omega) _ rfl _ rfl)))) ⟨s, ⟨_, rfl, rfl⟩, hS, fun _ _ => rfl⟩
      | 7, _ => exact stepU rfl (unwantedOf rfl (yieldedAt rfl rfl (show a.eval (.tmp 16) = .bool (!false) from (hv 3 (by omega) _ rfl _ rfl)))) ⟨s, ⟨_, rfl, rfl⟩, hS, fun _ _ => rfl⟩
      | 8, _ => exact stepV rfl rfl (execPickT rfl (hv 3 (by omega) _ rfl _ rfl) rfl) ⟨s, ⟨_, rfl, rfl⟩, hS, fun _ _ => rfl⟩
      | 9, _ => exact stepV rfl rfl (execMvB rfl (hv 8 (by omega) _ rfl _ rfl)) ⟨s, ⟨_, rfl, rfl⟩, hS, fun _ _ => rfl⟩
      | 10, _ => exact stepU rfl (unwantedOf rfl (yieldedAt rfl rfl (show a.eval (.tmp 22) = .bool (!false) from (hv 9 (by omega) _ rfl _ rfl)))) ⟨s, ⟨_, rfl, rfl⟩, hS, fun _ _ => rfl⟩
      | 11, _ => exact stepU rfl (unwantedOf rfl (yieldedAt rfl rfl (show a.eval (.tmp 22) = .bool (!false) from (hv 9 (by omega) _ rfl _ rfl)))) ⟨s, ⟨_, rfl, rfl⟩, hS, fun _ _ => rfl⟩
      | 12, _ => exact stepU rfl (unwantedOf rfl (yieldedAt rfl rfl (show a.eval (.tmp 22) = .bool (!false) from (hv 9 (by omega) _ rfl _ rfl)))) ⟨s, ⟨_, rfl, rfl⟩, hS, fun _ _ => rfl⟩
      | 13, _ => exact stepU rfl (unwantedOf rfl (yieldedAt rfl rfl (show a.eval (.tmp 22) = .bool (!false) from (hv 9 (by omega) _ rfl _ rfl)))) ⟨s, ⟨_, rfl, rfl⟩, hS, fun _ _ => rfl⟩
      | 14, _ => exact stepV rfl rfl (execPickT rfl (hv 9 (by omega) _ rfl _ rfl) rfl) ⟨s, ⟨_, rfl, rfl⟩, hS, fun _ _ => rfl⟩
      | k_ + 15, h_ => exact absurd h_ (by simp)
    rintro _ a X1 h1 h2 h3 h4 hS
    clear BB
    replace hS : Below V.heap.size V X1 := hS
    have BB := hS
    clear hS
    replace t0 := (h3 0 (by decide)).trans t0
    replace t1 := (h3 1 (by decide)).trans t1
    replace t2 := (h3 2 (by decide)).trans t2
    have t27 : a.eval (.tmp 27) = .bool true := h4 14 _ rfl _ rfl
    replace A := (⟨h1, h2.trans A.2⟩ : a.tmps.size = 58 ∧ a.defers = [])
    clear h1 h2 h3 h4
    refine wp_cond_true t27 ?_
    refine wp_seq ?_
    refine wp_region_sq (σ := Unit) 58 [(0, 6), (1, 7)] (fun j_ s X => match j_ with | 0 => Below V.heap.size V X | 1 => Below V.heap.size V X | _ => Below V.heap.size V X) (fun s => fun i_ => match i_ with | 0 => .slice none 0 0 | 1 => .int .i64 ((2 : Nat) : Int) | _ => undef) () A.1 (by kernel_rfl) (by decide) (by decide) (BB) ?_ ?_
    · intro i_ hi_ s a X hf hv hn hS
      match i_, hi_ with
      | 0, _ => exact stepV rfl rfl (execAsgB rfl rfl) ⟨s, ⟨_, rfl, rfl⟩, hS, fun _ _ => rfl⟩
      | 1, _ => exact stepV rfl rfl (execAsgB rfl rfl) ⟨s, ⟨_, rfl, rfl⟩, hS, fun _ _ => rfl⟩
      | k_ + 2, h_ => exact absurd h_ (by simp)
    rintro _ a X2 h1 h2 h3 h4 hS
    clear BB
    replace hS : Below V.heap.size V X2 := hS
    have BB := hS
    clear hS
    have t6 : a.eval (.tmp 6) = .slice none 0 0 := h4 0 _ rfl _ rfl
    have t7 : a.eval (.tmp 7) = .int .i64 ((2 : Nat) : Int) := h4 1 _ rfl _ rfl
    replace A := (⟨h1, h2.trans A.2⟩ : a.tmps.size = 58 ∧ a.defers = [])
    clear h1 h2 h3 h4
    clear t0 t1 t2
    have hE : drE sf J cf n vf m = 2 := drE_no fun q => by have := (drQ_iff.1 q).1; rw [hs] at this; cases this
    rw [hE, zl_no (by decide)]
    refine wp_ret ?_
    repeat (first | refine ret_in ?_ | refine ret_then ?_)
    refine bodyPost_ret (results_tmp2 rfl _ _ _) A.2 ⟨_, ?_, World.ownsRow_nil _ _ _ _, BB⟩
    show Ending.returned (.tuple #[a.eval (.tmp 6), a.eval (.tmp 7)]) = _
    rw [t6, t7]
  | true =>
    have hok : okS sf J = true := (szQ_iff.1 hs).2
    have hJ64 : J ≤ 64 := (szQ_iff.1 hs).1.2
    cases hst : stQ cf n sf J with
    | false =>
      refine wp_region_sq (σ := Unit) 58 [(0, 13), (1, 14), (2, 15), (3, 16), (4, 17), (5, 18), (6, 19), (7, 20), (8, 21), (9, 22), (10, 23), (11, 24), (12, 25), (13, 26), (14, 27)] (fun j_ s X => match j_ with | 0 => Below V.heap.size V X | 1 => Below V.heap.size V X | 2 => Below V.heap.size V X | 3 => Below V.heap.size V X | 4 => Below V.heap.size V X | 5 => Below V.heap.size V X | 6 => Below V.heap.size V X | 7 => Below V.heap.size V X | 8 => Below V.heap.size V X | 9 => Below V.heap.size V X | 10 => Below V.heap.size V X | 11 => Below V.heap.size V X | 12 => Below V.heap.size V X | 13 => Below V.heap.size V X | 14 => Below V.heap.size V X | _ => Below V.heap.size V X) (fun s => fun i_ => match i_ with | 0 => .slice ia J ic | 1 => .bool true | 2 => .bool false | 3 => .bool false | 4 => .slice ja n jc | 5 => .slice ia J ic | 6 => .bool false | 7 => .bool true | 8 => .bool true | 9 => .bool true | 10 => undef | 11 => undef | 12 => undef | 13 => undef | 14 => .bool true | _ => undef) () A.1 (by kernel_rfl) (by decide) (by decide) (BB) ?_ ?_
      · intro i_ hi_ s a X hf hv hn hS
        match i_, hi_ with
        | 0, _ => exact stepV rfl rfl (execMvB rfl ((hf 0 (by decide)).trans t0)) ⟨s, ⟨_, rfl, rfl⟩, hS, fun _ _ => rfl⟩
        | 1, _ => exact stepC rfl rfl (execCall1 Try.func30 (by kernel_rfl) (by kernel_rfl) rfl (hv 0 (by omega) _ rfl _ rfl)) (hs ▸ pareSizes sf J _ X (FI.on hS) hJ17) fun e w' hh => ⟨_, hh.1, s, ⟨_, rfl, rfl⟩, (hS).trans ((hh.2).mono (hS).size), fun _ _ => rfl⟩
        | 2, _ => exact stepV rfl rfl (execNot8 rfl (hv 1 (by omega) _ rfl _ rfl)) ⟨s, ⟨_, rfl, rfl⟩, hS, fun _ _ => rfl⟩
        | 3, _ => exact stepV rfl rfl (execMvB rfl (hv 2 (by omega) _ rfl _ rfl)) ⟨s, ⟨_, rfl, rfl⟩, hS, fun _ _ => rfl⟩
        | 4, _ => exact stepV rfl (wantedOf rfl (yieldedAt rfl rfl (show a.eval (.tmp 16) = .bool false from (hv 3 (by omega) _ rfl _ rfl)))) (execMvB rfl ((hf 1 (by decide)).trans t1)) ⟨s, ⟨_, rfl, rfl⟩, hS, fun _ _ => rfl⟩
        | 5, _ => exact stepV rfl (wantedOf rfl (yieldedAt rfl rfl (show a.eval (.tmp 16) = .bool false from (hv 3 (by omega) _ rfl _ rfl)))) (execMvB rfl ((hf 0 (by decide)).trans t0)) ⟨s, ⟨_, rfl, rfl⟩, hS, fun _ _ => rfl⟩
        | 6, _ => exact stepC rfl (wantedOf rfl (yieldedAt rfl rfl (show a.eval (.tmp 16) = .bool false from (hv 3 (by omega) _ rfl _ rfl)))) (execCall2 Try.func36 (by kernel_rfl) (by kernel_rfl) rfl (hv 4 (by omega) _ rfl _ rfl) (hv 5 (by omega) _ rfl _ rfl)) (hst ▸ pstands cf sf n J _ _ X (FJ.on hS) hn17 (FI.on hS) hJ17 (fun j hj => (okS_iff.1 hok j hj).1)) fun e w' hh => ⟨_, hh.1, s, ⟨_, rfl, rfl⟩, (hS).trans ((hh.2).mono (hS).size), fun _ _ => rfl⟩
        | 7, _ => exact stepV rfl (wantedOf rfl (yieldedAt rfl rfl (show a.eval (.tmp 16) = .bool false from (hv 3 (by omega) _ rfl _ rfl)))) (execNot8 rfl (hv 6 (by omega) _ rfl _ rfl)) ⟨s, ⟨_, rfl, rfl⟩, hS, fun _ _ => rfl⟩
        | 8, _ => exact stepV rfl rfl (execPickF rfl (hv 3 (by omega) _ rfl _ rfl) (hv 7 (by omega) _ rfl _ rfl)) ⟨s, ⟨_, rfl, rfl⟩, hS, fun _ _ => rfl⟩
        | 9, _ => exact stepV rfl rfl (execMvB rfl (hv 8 (by omega) _ rfl _ rfl)) ⟨s, ⟨_, rfl, rfl⟩, hS, fun _ _ => rfl⟩
        | 10, _ => exact stepU rfl (unwantedOf rfl (yieldedAt rfl rfl (show a.eval (.tmp 22) = .bool (!false) from (hv 9 (by omega) _ rfl _ rfl)))) ⟨s, ⟨_, rfl, rfl⟩, hS, fun _ _ => rfl⟩
        | 11, _ => exact stepU rfl (unwantedOf rfl (yieldedAt rfl rfl (show a.eval (.tmp 22) = .bool (!false) from (hv 9 (by omega) _ rfl _ rfl)))) ⟨s, ⟨_, rfl, rfl⟩, hS, fun _ _ => rfl⟩
        | 12, _ => exact stepU rfl (unwantedOf rfl (yieldedAt rfl rfl (show a.eval (.tmp 22) = .bool (!false) from (hv 9 (by omega) _ rfl _ rfl)))) ⟨s, ⟨_, rfl, rfl⟩, hS, fun _ _ => rfl⟩
        | 13, _ => exact stepU rfl (unwantedOf rfl (yieldedAt rfl rfl (show a.eval (.tmp 22) = .bool (!false) from (hv 9 (by omega) _ rfl _ rfl)))) ⟨s, ⟨_, rfl, rfl⟩, hS, fun _ _ => rfl⟩
        | 14, _ => exact stepV rfl rfl (execPickT rfl (hv 9 (by omega) _ rfl _ rfl) rfl) ⟨s, ⟨_, rfl, rfl⟩, hS, fun _ _ => rfl⟩
        | k_ + 15, h_ => exact absurd h_ (by simp)
      rintro _ a X1 h1 h2 h3 h4 hS
      clear BB
      replace hS : Below V.heap.size V X1 := hS
      have BB := hS
      clear hS
      replace t0 := (h3 0 (by decide)).trans t0
      replace t1 := (h3 1 (by decide)).trans t1
      replace t2 := (h3 2 (by decide)).trans t2
      have t27 : a.eval (.tmp 27) = .bool true := h4 14 _ rfl _ rfl
      replace A := (⟨h1, h2.trans A.2⟩ : a.tmps.size = 58 ∧ a.defers = [])
      clear h1 h2 h3 h4
      refine wp_cond_true t27 ?_
      refine wp_seq ?_
      refine wp_region_sq (σ := Unit) 58 [(0, 6), (1, 7)] (fun j_ s X => match j_ with | 0 => Below V.heap.size V X | 1 => Below V.heap.size V X | _ => Below V.heap.size V X) (fun s => fun i_ => match i_ with | 0 => .slice none 0 0 | 1 => .int .i64 ((2 : Nat) : Int) | _ => undef) () A.1 (by kernel_rfl) (by decide) (by decide) (BB) ?_ ?_
      · intro i_ hi_ s a X hf hv hn hS
        match i_, hi_ with
        | 0, _ => exact stepV rfl rfl (execAsgB rfl rfl) ⟨s, ⟨_, rfl, rfl⟩, hS, fun _ _ => rfl⟩
        | 1, _ => exact stepV rfl rfl (execAsgB rfl rfl) ⟨s, ⟨_, rfl, rfl⟩, hS, fun _ _ => rfl⟩
        | k_ + 2, h_ => exact absurd h_ (by simp)
      rintro _ a X2 h1 h2 h3 h4 hS
      clear BB
      replace hS : Below V.heap.size V X2 := hS
      have BB := hS
      clear hS
      have t6 : a.eval (.tmp 6) = .slice none 0 0 := h4 0 _ rfl _ rfl
      have t7 : a.eval (.tmp 7) = .int .i64 ((2 : Nat) : Int) := h4 1 _ rfl _ rfl
      replace A := (⟨h1, h2.trans A.2⟩ : a.tmps.size = 58 ∧ a.defers = [])
      clear h1 h2 h3 h4
      clear t0 t1 t2
      have hE : drE sf J cf n vf m = 2 := drE_no fun q => by have := (drQ_iff.1 q).2.1; rw [hst] at this; cases this
      rw [hE, zl_no (by decide)]
      refine wp_ret ?_
      repeat (first | refine ret_in ?_ | refine ret_then ?_)
      refine bodyPost_ret (results_tmp2 rfl _ _ _) A.2 ⟨_, ?_, World.ownsRow_nil _ _ _ _, BB⟩
      show Ending.returned (.tuple #[a.eval (.tmp 6), a.eval (.tmp 7)]) = _
      rw [t6, t7]
    | true =>
      cases hof : (decide (m = sumN (gN sf) J) && ofQ sf J vf) with
      | false =>
        refine wp_region_sq (σ := Unit) 58 [(0, 13), (1, 14), (2, 15), (3, 16), (4, 17), (5, 18), (6, 19), (7, 20), (8, 21), (9, 22), (10, 23), (11, 24), (12, 25), (13, 26), (14, 27)] (fun j_ s X => match j_ with | 0 => Below V.heap.size V X | 1 => Below V.heap.size V X | 2 => Below V.heap.size V X | 3 => Below V.heap.size V X | 4 => Below V.heap.size V X | 5 => Below V.heap.size V X | 6 => Below V.heap.size V X | 7 => Below V.heap.size V X | 8 => Below V.heap.size V X | 9 => Below V.heap.size V X | 10 => Below V.heap.size V X | 11 => Below V.heap.size V X | 12 => Below V.heap.size V X | 13 => Below V.heap.size V X | 14 => Below V.heap.size V X | _ => Below V.heap.size V X) (fun s => fun i_ => match i_ with | 0 => .slice ia J ic | 1 => .bool true | 2 => .bool false | 3 => .bool false | 4 => .slice ja n jc | 5 => .slice ia J ic | 6 => .bool true | 7 => .bool false | 8 => .bool false | 9 => .bool false | 10 => .slice ia J ic | 11 => .slice ka m kc | 12 => .bool false | 13 => .bool true | 14 => .bool true | _ => undef) () A.1 (by kernel_rfl) (by decide) (by decide) (BB) ?_ ?_
        · intro i_ hi_ s a X hf hv hn hS
          match i_, hi_ with
          | 0, _ => exact stepV rfl rfl (execMvB rfl ((hf 0 (by decide)).trans t0)) ⟨s, ⟨_, rfl, rfl⟩, hS, fun _ _ => rfl⟩
          | 1, _ => exact stepC rfl rfl (execCall1 Try.func30 (by kernel_rfl) (by kernel_rfl) rfl (hv 0 (by omega) _ rfl _ rfl)) (hs ▸ pareSizes sf J _ X (FI.on hS) hJ17) fun e w' hh => ⟨_, hh.1, s, ⟨_, rfl, rfl⟩, (hS).trans ((hh.2).mono (hS).size), fun _ _ => rfl⟩
          | 2, _ => exact stepV rfl rfl (execNot8 rfl (hv 1 (by omega) _ rfl _ rfl)) ⟨s, ⟨_, rfl, rfl⟩, hS, fun _ _ => rfl⟩
          | 3, _ => exact stepV rfl rfl (execMvB rfl (hv 2 (by omega) _ rfl _ rfl)) ⟨s, ⟨_, rfl, rfl⟩, hS, fun _ _ => rfl⟩
          | 4, _ => exact stepV rfl (wantedOf rfl (yieldedAt rfl rfl (show a.eval (.tmp 16) = .bool false from (hv 3 (by omega) _ rfl _ rfl)))) (execMvB rfl ((hf 1 (by decide)).trans t1)) ⟨s, ⟨_, rfl, rfl⟩, hS, fun _ _ => rfl⟩
          | 5, _ => exact stepV rfl (wantedOf rfl (yieldedAt rfl rfl (show a.eval (.tmp 16) = .bool false from (hv 3 (by omega) _ rfl _ rfl)))) (execMvB rfl ((hf 0 (by decide)).trans t0)) ⟨s, ⟨_, rfl, rfl⟩, hS, fun _ _ => rfl⟩
          | 6, _ => exact stepC rfl (wantedOf rfl (yieldedAt rfl rfl (show a.eval (.tmp 16) = .bool false from (hv 3 (by omega) _ rfl _ rfl)))) (execCall2 Try.func36 (by kernel_rfl) (by kernel_rfl) rfl (hv 4 (by omega) _ rfl _ rfl) (hv 5 (by omega) _ rfl _ rfl)) (hst ▸ pstands cf sf n J _ _ X (FJ.on hS) hn17 (FI.on hS) hJ17 (fun j hj => (okS_iff.1 hok j hj).1)) fun e w' hh => ⟨_, hh.1, s, ⟨_, rfl, rfl⟩, (hS).trans ((hh.2).mono (hS).size), fun _ _ => rfl⟩
          | 7, _ => exact stepV rfl (wantedOf rfl (yieldedAt rfl rfl (show a.eval (.tmp 16) = .bool false from (hv 3 (by omega) _ rfl _ rfl)))) (execNot8 rfl (hv 6 (by omega) _ rfl _ rfl)) ⟨s, ⟨_, rfl, rfl⟩, hS, fun _ _ => rfl⟩
          | 8, _ => exact stepV rfl rfl (execPickF rfl (hv 3 (by omega) _ rfl _ rfl) (hv 7 (by omega) _ rfl _ rfl)) ⟨s, ⟨_, rfl, rfl⟩, hS, fun _ _ => rfl⟩
          | 9, _ => exact stepV rfl rfl (execMvB rfl (hv 8 (by omega) _ rfl _ rfl)) ⟨s, ⟨_, rfl, rfl⟩, hS, fun _ _ => rfl⟩
          | 10, _ => exact stepV rfl (wantedOf rfl (yieldedAt rfl rfl (show a.eval (.tmp 22) = .bool false from (hv 9 (by omega) _ rfl _ rfl)))) (execMvB rfl ((hf 0 (by decide)).trans t0)) ⟨s, ⟨_, rfl, rfl⟩, hS, fun _ _ => rfl⟩
          | 11, _ => exact stepV rfl (wantedOf rfl (yieldedAt rfl rfl (show a.eval (.tmp 22) = .bool false from (hv 9 (by omega) _ rfl _ rfl)))) (execMvB rfl ((hf 2 (by decide)).trans t2)) ⟨s, ⟨_, rfl, rfl⟩, hS, fun _ _ => rfl⟩
          | 12, _ => exact stepC rfl (wantedOf rfl (yieldedAt rfl rfl (show a.eval (.tmp 22) = .bool false from (hv 9 (by omega) _ rfl _ rfl)))) (execCall2 Try.func37 (by kernel_rfl) (by kernel_rfl) rfl (hv 10 (by omega) _ rfl _ rfl) (hv 11 (by omega) _ rfl _ rfl)) (hof ▸ pareOffsets sf vf J m _ _ X (FI.on hS) hJ64 hok (FK.on hS)) fun e w' hh => ⟨_, hh.1, s, ⟨_, rfl, rfl⟩, (hS).trans ((hh.2).mono (hS).size), fun _ _ => rfl⟩
          | 13, _ => exact stepV rfl (wantedOf rfl (yieldedAt rfl rfl (show a.eval (.tmp 22) = .bool false from (hv 9 (by omega) _ rfl _ rfl)))) (execNot8 rfl (hv 12 (by omega) _ rfl _ rfl)) ⟨s, ⟨_, rfl, rfl⟩, hS, fun _ _ => rfl⟩
          | 14, _ => exact stepV rfl rfl (execPickF rfl (hv 9 (by omega) _ rfl _ rfl) (hv 13 (by omega) _ rfl _ rfl)) ⟨s, ⟨_, rfl, rfl⟩, hS, fun _ _ => rfl⟩
          | k_ + 15, h_ => exact absurd h_ (by simp)
        rintro _ a X1 h1 h2 h3 h4 hS
        clear BB
        replace hS : Below V.heap.size V X1 := hS
        have BB := hS
        clear hS
        replace t0 := (h3 0 (by decide)).trans t0
        replace t1 := (h3 1 (by decide)).trans t1
        replace t2 := (h3 2 (by decide)).trans t2
        have t27 : a.eval (.tmp 27) = .bool true := h4 14 _ rfl _ rfl
        replace A := (⟨h1, h2.trans A.2⟩ : a.tmps.size = 58 ∧ a.defers = [])
        clear h1 h2 h3 h4
        refine wp_cond_true t27 ?_
        refine wp_seq ?_
        refine wp_region_sq (σ := Unit) 58 [(0, 6), (1, 7)] (fun j_ s X => match j_ with | 0 => Below V.heap.size V X | 1 => Below V.heap.size V X | _ => Below V.heap.size V X) (fun s => fun i_ => match i_ with | 0 => .slice none 0 0 | 1 => .int .i64 ((2 : Nat) : Int) | _ => undef) () A.1 (by kernel_rfl) (by decide) (by decide) (BB) ?_ ?_
        · intro i_ hi_ s a X hf hv hn hS
          match i_, hi_ with
          | 0, _ => exact stepV rfl rfl (execAsgB rfl rfl) ⟨s, ⟨_, rfl, rfl⟩, hS, fun _ _ => rfl⟩
          | 1, _ => exact stepV rfl rfl (execAsgB rfl rfl) ⟨s, ⟨_, rfl, rfl⟩, hS, fun _ _ => rfl⟩
          | k_ + 2, h_ => exact absurd h_ (by simp)
        rintro _ a X2 h1 h2 h3 h4 hS
        clear BB
        replace hS : Below V.heap.size V X2 := hS
        have BB := hS
        clear hS
        have t6 : a.eval (.tmp 6) = .slice none 0 0 := h4 0 _ rfl _ rfl
        have t7 : a.eval (.tmp 7) = .int .i64 ((2 : Nat) : Int) := h4 1 _ rfl _ rfl
        replace A := (⟨h1, h2.trans A.2⟩ : a.tmps.size = 58 ∧ a.defers = [])
        clear h1 h2 h3 h4
        clear t0 t1 t2
        have hE : drE sf J cf n vf m = 2 := drE_no fun q => by obtain ⟨_, _, q3, q4⟩ := drQ_iff.1 q; rw [decide_eq_true q3, q4] at hof; cases hof
        rw [hE, zl_no (by decide)]
        refine wp_ret ?_
        repeat (first | refine ret_in ?_ | refine ret_then ?_)
        refine bodyPost_ret (results_tmp2 rfl _ _ _) A.2 ⟨_, ?_, World.ownsRow_nil _ _ _ _, BB⟩
        show Ending.returned (.tuple #[a.eval (.tmp 6), a.eval (.tmp 7)]) = _
        rw [t6, t7]
      | true =>
        refine wp_region_sq (σ := Unit) 58 [(0, 13), (1, 14), (2, 15), (3, 16), (4, 17), (5, 18), (6, 19), (7, 20), (8, 21), (9, 22), (10, 23), (11, 24), (12, 25), (13, 26), (14, 27)] (fun j_ s X => match j_ with | 0 => Below V.heap.size V X | 1 => Below V.heap.size V X | 2 => Below V.heap.size V X | 3 => Below V.heap.size V X | 4 => Below V.heap.size V X | 5 => Below V.heap.size V X | 6 => Below V.heap.size V X | 7 => Below V.heap.size V X | 8 => Below V.heap.size V X | 9 => Below V.heap.size V X | 10 => Below V.heap.size V X | 11 => Below V.heap.size V X | 12 => Below V.heap.size V X | 13 => Below V.heap.size V X | 14 => Below V.heap.size V X | _ => Below V.heap.size V X) (fun s => fun i_ => match i_ with | 0 => .slice ia J ic | 1 => .bool true | 2 => .bool false | 3 => .bool false | 4 => .slice ja n jc | 5 => .slice ia J ic | 6 => .bool true | 7 => .bool false | 8 => .bool false | 9 => .bool false | 10 => .slice ia J ic | 11 => .slice ka m kc | 12 => .bool true | 13 => .bool false | 14 => .bool false | _ => undef) () A.1 (by kernel_rfl) (by decide) (by decide) (BB) ?_ ?_
        · intro i_ hi_ s a X hf hv hn hS
          match i_, hi_ with
          | 0, _ => exact stepV rfl rfl (execMvB rfl ((hf 0 (by decide)).trans t0)) ⟨s, ⟨_, rfl, rfl⟩, hS, fun _ _ => rfl⟩
          | 1, _ => exact stepC rfl rfl (execCall1 Try.func30 (by kernel_rfl) (by kernel_rfl) rfl (hv 0 (by omega) _ rfl _ rfl)) (hs ▸ pareSizes sf J _ X (FI.on hS) hJ17) fun e w' hh => ⟨_, hh.1, s, ⟨_, rfl, rfl⟩, (hS).trans ((hh.2).mono (hS).size), fun _ _ => rfl⟩
          | 2, _ => exact stepV rfl rfl (execNot8 rfl (hv 1 (by omega) _ rfl _ rfl)) ⟨s, ⟨_, rfl, rfl⟩, hS, fun _ _ => rfl⟩
          | 3, _ => exact stepV rfl rfl (execMvB rfl (hv 2 (by omega) _ rfl _ rfl)) ⟨s, ⟨_, rfl, rfl⟩, hS, fun _ _ => rfl⟩
          | 4, _ => exact stepV rfl (wantedOf rfl (yieldedAt rfl rfl (show a.eval (.tmp 16) = .bool false from (hv 3 (by omega) _ rfl _ rfl)))) (execMvB rfl ((hf 1 (by decide)).trans t1)) ⟨s, ⟨_, rfl, rfl⟩, hS, fun _ _ => rfl⟩
          | 5, _ => exact stepV rfl (wantedOf rfl (yieldedAt rfl rfl (show a.eval (.tmp 16) = .bool false from (hv 3 (by omega) _ rfl _ rfl)))) (execMvB rfl ((hf 0 (by decide)).trans t0)) ⟨s, ⟨_, rfl, rfl⟩, hS, fun _ _ => rfl⟩
          | 6, _ => exact stepC rfl (wantedOf rfl (yieldedAt rfl rfl (show a.eval (.tmp 16) = .bool false from (hv 3 (by omega) _ rfl _ rfl)))) (execCall2 Try.func36 (by kernel_rfl) (by kernel_rfl) rfl (hv 4 (by omega) _ rfl _ rfl) (hv 5 (by omega) _ rfl _ rfl)) (hst ▸ pstands cf sf n J _ _ X (FJ.on hS) hn17 (FI.on hS) hJ17 (fun j hj => (okS_iff.1 hok j hj).1)) fun e w' hh => ⟨_, hh.1, s, ⟨_, rfl, rfl⟩, (hS).trans ((hh.2).mono (hS).size), fun _ _ => rfl⟩
          | 7, _ => exact stepV rfl (wantedOf rfl (yieldedAt rfl rfl (show a.eval (.tmp 16) = .bool false from (hv 3 (by omega) _ rfl _ rfl)))) (execNot8 rfl (hv 6 (by omega) _ rfl _ rfl)) ⟨s, ⟨_, rfl, rfl⟩, hS, fun _ _ => rfl⟩
          | 8, _ => exact stepV rfl rfl (execPickF rfl (hv 3 (by omega) _ rfl _ rfl) (hv 7 (by omega) _ rfl _ rfl)) ⟨s, ⟨_, rfl, rfl⟩, hS, fun _ _ => rfl⟩
          | 9, _ => exact stepV rfl rfl (execMvB rfl (hv 8 (by omega) _ rfl _ rfl)) ⟨s, ⟨_, rfl, rfl⟩, hS, fun _ _ => rfl⟩
          | 10, _ => exact stepV rfl (wantedOf rfl (yieldedAt rfl rfl (show a.eval (.tmp 22) = .bool false from (hv 9 (by omega) _ rfl _ rfl)))) (execMvB rfl ((hf 0 (by decide)).trans t0)) ⟨s, ⟨_, rfl, rfl⟩, hS, fun _ _ => rfl⟩
          | 11, _ => exact stepV rfl (wantedOf rfl (yieldedAt rfl rfl (show a.eval (.tmp 22) = .bool false from (hv 9 (by omega) _ rfl _ rfl)))) (execMvB rfl ((hf 2 (by decide)).trans t2)) ⟨s, ⟨_, rfl, rfl⟩, hS, fun _ _ => rfl⟩
          | 12, _ => exact stepC rfl (wantedOf rfl (yieldedAt rfl rfl (show a.eval (.tmp 22) = .bool false from (hv 9 (by omega) _ rfl _ rfl)))) (execCall2 Try.func37 (by kernel_rfl) (by kernel_rfl) rfl (hv 10 (by omega) _ rfl _ rfl) (hv 11 (by omega) _ rfl _ rfl)) (hof ▸ pareOffsets sf vf J m _ _ X (FI.on hS) hJ64 hok (FK.on hS)) fun e w' hh => ⟨_, hh.1, s, ⟨_, rfl, rfl⟩, (hS).trans ((hh.2).mono (hS).size), fun _ _ => rfl⟩
          | 13, _ => exact stepV rfl (wantedOf rfl (yieldedAt rfl rfl (show a.eval (.tmp 22) = .bool false from (hv 9 (by omega) _ rfl _ rfl)))) (execNot8 rfl (hv 12 (by omega) _ rfl _ rfl)) ⟨s, ⟨_, rfl, rfl⟩, hS, fun _ _ => rfl⟩
          | 14, _ => exact stepV rfl rfl (execPickF rfl (hv 9 (by omega) _ rfl _ rfl) (hv 13 (by omega) _ rfl _ rfl)) ⟨s, ⟨_, rfl, rfl⟩, hS, fun _ _ => rfl⟩
          | k_ + 15, h_ => exact absurd h_ (by simp)
        rintro _ a X1 h1 h2 h3 h4 hS
        clear BB
        replace hS : Below V.heap.size V X1 := hS
        have BB := hS
        clear hS
        replace t0 := (h3 0 (by decide)).trans t0
        replace t1 := (h3 1 (by decide)).trans t1
        replace t2 := (h3 2 (by decide)).trans t2
        have t27 : a.eval (.tmp 27) = .bool false := h4 14 _ rfl _ rfl
        replace A := (⟨h1, h2.trans A.2⟩ : a.tmps.size = 58 ∧ a.defers = [])
        clear h1 h2 h3 h4
        refine wp_cond_false t27 ?_
        refine wp_skip ?_
        clear t27
        obtain ⟨hmd, hoq⟩ := Bool.and_eq_true _ _ ▸ hof
        have hmS : m = sumN (gN sf) J := of_decide_eq_true hmd
        have hdr : drQ sf J cf n vf m = true := drQ_iff.2 ⟨hs, hst, hmS, hoq⟩
        have hE : drE sf J cf n vf m = 0 := drE_ok hdr
        rw [hE, zl_ok]
        obtain ⟨hnS, _, hrd⟩ := (rd_dr hs).2 hdr
        have hpt := stQ_pat hst
        have hsum := okS_sum hok
        refine wp_seq ?_
        refine wp_region_sq (σ := Value) 58 [(0, 28), (1, 29), (2, 30), (3, 8)] (fun j_ s X => match j_ with | 0 => Below V.heap.size V X | 1 => Below V.heap.size V X | 2 => Below V.heap.size V X | 3 => Below V.heap.size V X ∧ (X.ownsRow V.heap.size 3 1 s (n) (intsL (n) (fun _ => 0))) ∧ (∀ b, s.ownBlock = some b → b < X.heap.size) | _ => Below V.heap.size V X ∧ (X.ownsRow V.heap.size 3 1 s (n) (intsL (n) (fun _ => 0))) ∧ (∀ b, s.ownBlock = some b → b < X.heap.size)) (fun s => fun i_ => match i_ with | 0 => .slice ja n jc | 1 => .int .i64 ((n : Nat) : Int) | 2 => s | 3 => s | _ => undef) undef A.1 (by kernel_rfl) (by decide) (by decide) (BB) ?_ ?_
        · intro i_ hi_ s a X hf hv hn hS
          match i_, hi_ with
          | 0, _ => exact stepV rfl rfl (execMvB rfl ((hf 1 (by decide)).trans t1)) ⟨s, ⟨_, rfl, rfl⟩, hS, fun _ _ => rfl⟩
          | 1, _ => exact stepV rfl rfl (execLenI (len := n) rfl (hv 0 (by omega) _ rfl _ rfl) ((FJ.on hS)).shp) ⟨s, ⟨_, rfl, rfl⟩, hS, fun _ _ => rfl⟩
          | 2, _ =>
            refine stepV rfl rfl (execMkN rfl (hv 1 (by omega) _ rfl _ rfl) (hv 1 (by omega) _ rfl _ rfl) hn17) ⟨.slice (some ⟨X.heap.size, 0, none⟩) n n, ⟨_, rfl, rfl⟩, ⟨(hS).trans (((belNew X _)).mono (hS).size), ownD_base (own_mkZ X n (fun _ => 0) hn17 (fun _ _ => rfl)) (hS).size, fun b e => by have e1 : X.heap.size = b := Option.some.inj e; have e2 : (X.alloc (.cells (madeCells #[.int .i64 0] n) 3)).heap.size = X.heap.size + 1 := (by simp); omega⟩, fun i hi => ?_⟩
            match i, hi with
            | 0, _ => rfl
            | 1, _ => rfl
            | n_ + 2, h_ => omega
          | 3, _ => exact stepV rfl rfl (execAsgB rfl (hv 2 (by omega) _ rfl _ rfl)) ⟨s, ⟨_, rfl, rfl⟩, hS, fun _ _ => rfl⟩
          | k_ + 4, h_ => exact absurd h_ (by simp)
        rintro v30 a X3 h1 h2 h3 h4 hS
        clear BB
        replace hS : Below V.heap.size V X3 ∧ (X3.ownsRow V.heap.size 3 1 v30 (n) (intsL (n) (fun _ => 0))) ∧ (∀ b, v30.ownBlock = some b → b < X3.heap.size) := hS
        obtain ⟨BB, FD, Fb30⟩ := hS
        replace t0 := (h3 0 (by decide)).trans t0
        replace t1 := (h3 1 (by decide)).trans t1
        replace t2 := (h3 2 (by decide)).trans t2
        have t8 : a.eval (.tmp 8) = v30 := h4 3 _ rfl _ rfl
        replace A := (⟨h1, h2.trans A.2⟩ : a.tmps.size = 58 ∧ a.defers = [])
        clear h1 h2 h3 h4
        refine wp_seq ?_
        refine wp_region_sq (σ := Value × Value × Nat) 58 [(0, 31), (1, 32), (2, 9)] (fun j_ s X => match j_ with | 0 => Below V.heap.size V X ∧ (X.ownsRow V.heap.size 3 1 v30 (n) (intsL (n) (fun _ => 0))) ∧ (∀ b, v30.ownBlock = some b → b < X.heap.size) | 1 => Below V.heap.size V X ∧ (X.ownsRow V.heap.size 3 1 v30 (n) (intsL (n) (fun _ => 0))) ∧ (∀ b, v30.ownBlock = some b → b < X.heap.size) | 2 => Below V.heap.size V X ∧ (FmI V.heap.size 3 (x3 v30 s.1 s.2.1) (n3 n J) (ffD sf cf vf 0) X) ∧ (∃ g_ n_ c_, s.1 = .slice g_ n_ c_) ∧ (∃ g_ n_ c_, s.2.1 = .slice g_ n_ c_) | 3 => Below V.heap.size V X ∧ (FmI V.heap.size 3 (x3 v30 s.1 s.2.1) (n3 n J) (ffD sf cf vf 0) X) ∧ (∃ g_ n_ c_, s.1 = .slice g_ n_ c_) ∧ (∃ g_ n_ c_, s.2.1 = .slice g_ n_ c_) ∧ (X.heap[s.2.2]? = some (.cells (rsC (.slice none 0 0) (.slice none 0 0)) 69)) ∧ (V.heap.size ≤ s.2.2) | _ => Below V.heap.size V X ∧ (FmI V.heap.size 3 (x3 v30 s.1 s.2.1) (n3 n J) (ffD sf cf vf 0) X) ∧ (∃ g_ n_ c_, s.1 = .slice g_ n_ c_) ∧ (∃ g_ n_ c_, s.2.1 = .slice g_ n_ c_) ∧ (V.heap.size ≤ s.2.2) ∧ (X.heap[s.2.2]? = some (.cells (rsC (s.1) (s.2.1)) 69))) (fun s => fun i_ => match i_ with | 0 => .slice ia J ic | 1 => .agg (rsC (s.1) (s.2.1)) | 2 => .pointer (some ⟨s.2.2, 0, none⟩) | 3 => undef | _ => undef) (undef, undef, 0) A.1 (by kernel_rfl) (by decide) (by decide) ⟨BB, FD, Fb30⟩ ?_ ?_
        · intro i_ hi_ s a X hf hv hn hS
          match i_, hi_ with
          | 0, _ => exact stepV rfl rfl (execMvB rfl ((hf 0 (by decide)).trans t0)) ⟨s, ⟨_, rfl, rfl⟩, hS, fun _ _ => rfl⟩
          | 1, _ =>
            refine stepC rfl rfl (execCall1 Try.func33 (by kernel_rfl) (by kernel_rfl) rfl (hv 0 (by omega) _ rfl _ rfl)) (pbegin sf J _ X (FI.on hS.1) hJ64 hok) fun e w' hh => ?_
            obtain ⟨l_, x_, he, hk, hb⟩ := hh
            refine ⟨_, he, (l_, x_, s.2.2), ⟨_, rfl, rfl⟩, ⟨(hS.1).trans ((hb).mono (hS.1).size), FmI.cgF (fm3 (ownD_below hS.2.1 hb) hS.2.2 hk (hS.1).size) (ffD_zero sf cf vf n J), shp3 (hk.rows 0 (by omega)), shp3 (hk.rows 1 (by omega))⟩, fun i hi => ?_⟩
            match i, hi with
            | 0, _ => rfl
            | n_ + 1, h_ => omega
          | 2, _ =>
            refine stepV rfl rfl (execAllRs rfl) ⟨(s.1, s.2.1, X.heap.size), ⟨_, rfl, rfl⟩, ⟨(hS.1).trans (((belNew X _)).mono (hS.1).size), (hS.2.1.on (belNew X _)), hS.2.2.1, hS.2.2.2, heapNew X _, (hS.1).size⟩, fun i hi => ?_⟩
            match i, hi with
            | 0, _ => rfl
            | 1, _ => rfl
            | n_ + 2, h_ => omega
          | 3, _ =>
            refine stepS rfl rfl (execStRs rfl (hv 2 (by omega) _ rfl _ rfl) (hv 1 (by omega) _ rfl _ rfl) hS.2.2.2.2.1 hS.2.2.1 hS.2.2.2.1) ⟨s, ⟨_, rfl, rfl⟩, ⟨below4 hS.1 hS.2.2.2.2.2 _, (hS.2.1.setT hS.2.2.2.2.1 (by decide)), hS.2.2.1, hS.2.2.2.1, hS.2.2.2.2.2, setRow_heap _ _ _ _ _ _ hS.2.2.2.2.1⟩, fun i hi => ?_⟩
            match i, hi with
            | 0, _ => rfl
            | 1, _ => rfl
            | 2, _ => rfl
            | n_ + 3, h_ => omega
          | k_ + 4, h_ => exact absurd h_ (by simp)
        rintro ⟨lv, xv, g9⟩ a X4 h1 h2 h3 h4 hS
        clear BB
        clear FD
        clear Fb30
        replace hS : Below V.heap.size V X4 ∧ (FmI V.heap.size 3 (x3 v30 lv xv) (n3 n J) (ffD sf cf vf 0) X4) ∧ (∃ g_ n_ c_, lv = .slice g_ n_ c_) ∧ (∃ g_ n_ c_, xv = .slice g_ n_ c_) ∧ (V.heap.size ≤ g9) ∧ (X4.heap[g9]? = some (.cells (rsC (lv) (xv)) 69)) := hS
        obtain ⟨BB, FM, Fhl, Fhx, F9g, F9B⟩ := hS
        replace t1 := (h3 1 (by decide)).trans t1
        replace t2 := (h3 2 (by decide)).trans t2
        replace t8 := (h3 8 (by decide)).trans t8
        have t9 : a.eval (.tmp 9) = .pointer (some ⟨g9, 0, none⟩) := h4 2 _ rfl _ rfl
        replace A := (⟨h1, h2.trans A.2⟩ : a.tmps.size = 58 ∧ a.defers = [])
        clear h1 h2 h3 h4
        clear t0
        refine wp_seq ?_
        refine wp_seq ?_
        refine wp_region_sq (σ := Unit) 58 [(0, 33), (1, 34), (2, 35)] (fun j_ s X => match j_ with | 0 => Below V.heap.size V X ∧ (FmI V.heap.size 3 (x3 v30 lv xv) (n3 n J) (ffD sf cf vf 0) X) ∧ (X.heap[g9]? = some (.cells (rsC (lv) (xv)) 69)) | 1 => Below V.heap.size V X ∧ (FmI V.heap.size 3 (x3 v30 lv xv) (n3 n J) (ffD sf cf vf 0) X) ∧ (X.heap[g9]? = some (.cells (rsC (lv) (xv)) 69)) | 2 => Below V.heap.size V X ∧ (FmI V.heap.size 3 (x3 v30 lv xv) (n3 n J) (ffD sf cf vf 0) X) ∧ (X.heap[g9]? = some (.cells (rsC (lv) (xv)) 69)) | _ => Below V.heap.size V X ∧ (FmI V.heap.size 3 (x3 v30 lv xv) (n3 n J) (ffD sf cf vf 0) X) ∧ (X.heap[g9]? = some (.cells (rsC (lv) (xv)) 69))) (fun s => fun i_ => match i_ with | 0 => .slice ja n jc | 1 => .int .i64 ((n : Nat) : Int) | 2 => .int .i64 ((0 : Nat) : Int) | _ => undef) () A.1 (by kernel_rfl) (by decide) (by decide) ⟨BB, FM, F9B⟩ ?_ ?_
        · intro i_ hi_ s a X hf hv hn hS
          match i_, hi_ with
          | 0, _ => exact stepV rfl rfl (execMvB rfl ((hf 1 (by decide)).trans t1)) ⟨s, ⟨_, rfl, rfl⟩, hS, fun _ _ => rfl⟩
          | 1, _ => exact stepV rfl rfl (execLenI (len := n) rfl (hv 0 (by omega) _ rfl _ rfl) ((FJ.on hS.1)).shp) ⟨s, ⟨_, rfl, rfl⟩, hS, fun _ _ => rfl⟩
          | 2, _ => exact stepV rfl rfl (execMvB rfl rfl) ⟨s, ⟨_, rfl, rfl⟩, hS, fun _ _ => rfl⟩
          | k_ + 3, h_ => exact absurd h_ (by simp)
        rintro _ a X5 h1 h2 h3 h4 hS
        clear BB
        clear FM
        clear F9B
        replace hS : Below V.heap.size V X5 ∧ (FmI V.heap.size 3 (x3 v30 lv xv) (n3 n J) (ffD sf cf vf 0) X5) ∧ (X5.heap[g9]? = some (.cells (rsC (lv) (xv)) 69)) := hS
        obtain ⟨BB, FM, F9B⟩ := hS
        replace t2 := (h3 2 (by decide)).trans t2
        replace t8 := (h3 8 (by decide)).trans t8
        replace t9 := (h3 9 (by decide)).trans t9
        have t33 : a.eval (.tmp 33) = .slice ja n jc := h4 0 _ rfl _ rfl
        have t34 : a.eval (.tmp 34) = .int .i64 ((n : Nat) : Int) := h4 1 _ rfl _ rfl
        have t35 : a.eval (.tmp 35) = .int .i64 ((0 : Nat) : Int) := h4 2 _ rfl _ rfl
        replace A := (⟨h1, h2.trans A.2⟩ : a.tmps.size = 58 ∧ a.defers = [])
        clear h1 h2 h3 h4
        clear t1
        refine wp_block ?_
        refine wp_loop (fun a W => ∃ (i : Nat), i ≤ n ∧ (a.tmps.size = 58 ∧ a.defers = []) ∧ a.eval (.tmp 2) = .slice ka m kc ∧ a.eval (.tmp 8) = v30 ∧ a.eval (.tmp 9) = .pointer (some ⟨g9, 0, none⟩) ∧ a.eval (.tmp 33) = .slice ja n jc ∧ a.eval (.tmp 34) = .int .i64 ((n : Nat) : Int) ∧ a.eval (.tmp 35) = .int .i64 ((i : Nat) : Int) ∧ Below V.heap.size V W ∧ (W.heap[g9]? = some (.cells (rsC (lv) (xv)) 69)) ∧ (FmI V.heap.size 3 (x3 v30 lv xv) (n3 n J) (ffD sf cf vf i) W)) (fun a _ => n - (intOf (a.eval (.tmp 35))).toNat) ⟨0, Nat.zero_le _, A, t2, t8, t9, t33, t34, t35, BB, F9B, FM⟩ ?_
        clear A t2 t8 t9 t33 t34 t35 BB F9B FM a
        rintro a XL6 ⟨i, hi, A, t2, t8, t9, t33, t34, t35, BB, F9B, FM⟩
        have esi := t35
        refine wp_seq ?_
        refine wp_region_sq (σ := Unit) 58 [(0, 36)] (fun j_ s X => match j_ with | 0 => Below V.heap.size V X ∧ (X.heap[g9]? = some (.cells (rsC (lv) (xv)) 69)) ∧ (FmI V.heap.size 3 (x3 v30 lv xv) (n3 n J) (ffD sf cf vf i) X) | _ => Below V.heap.size V X ∧ (X.heap[g9]? = some (.cells (rsC (lv) (xv)) 69)) ∧ (FmI V.heap.size 3 (x3 v30 lv xv) (n3 n J) (ffD sf cf vf i) X)) (fun s => fun i_ => match i_ with | 0 => .bool (decide (i < n)) | _ => undef) () A.1 (by kernel_rfl) (by decide) (by decide) ⟨BB, F9B, FM⟩ ?_ ?_
        · intro i_ hi_ s a X hf hv hn hS
          match i_, hi_ with
          | 0, _ => exact stepV rfl rfl (execLtW (p := i) (q := n) rfl ((hf 35 (by decide)).trans t35) ((hf 34 (by decide)).trans t34)) ⟨s, ⟨_, rfl, rfl⟩, hS, fun _ _ => rfl⟩
          | k_ + 1, h_ => exact absurd h_ (by simp)
        rintro _ a X6 h1 h2 h3 h4 hS
        clear BB
        clear F9B
        clear FM
        replace hS : Below V.heap.size V X6 ∧ (X6.heap[g9]? = some (.cells (rsC (lv) (xv)) 69)) ∧ (FmI V.heap.size 3 (x3 v30 lv xv) (n3 n J) (ffD sf cf vf i) X6) := hS
        obtain ⟨BB, F9B, FM⟩ := hS
        replace t2 := (h3 2 (by decide)).trans t2
        replace t8 := (h3 8 (by decide)).trans t8
        replace t9 := (h3 9 (by decide)).trans t9
        replace t33 := (h3 33 (by decide)).trans t33
        replace t34 := (h3 34 (by decide)).trans t34
        replace t35 := (h3 35 (by decide)).trans t35
        have t36 : a.eval (.tmp 36) = .bool (decide (i < n)) := h4 0 _ rfl _ rfl
        replace A := (⟨h1, h2.trans A.2⟩ : a.tmps.size = 58 ∧ a.defers = [])
        clear h1 h2 h3 h4
        refine wp_seq ?_
        by_cases lti : i < n
        · rw [decide_eq_true lti] at t36
          refine wp_cond_true t36 ?_
          refine wp_skip ?_
          clear t36
          refine wp_seq ?_
          refine wp_block ?_
          obtain ⟨jb, jo, rfl, hjb, hcelj⟩ := hsj (by omega)
          have cJ : ∀ k, k < n → ∀ X, Below V.heap.size V X → X.cell? ⟨jb, jo + k, none⟩ = some (.int .i64 (cf k)) := fun k hk X hX => by rw [cell_below hX hjb]; exact hcelj k hk
          obtain ⟨c, ec0⟩ : ∃ c : Nat, cf i = c := ⟨(cf i).toNat, by have := ((stQ_iff.1 hst).1 i lti).1; omega⟩
          have cW : ∀ X, Below V.heap.size V X → X.cell? ⟨jb, jo + i, none⟩ = some (.int .i64 ((c : Nat) : Int)) := fun X hX => by rw [cJ i lti X hX, ec0]
          clear hsh hsj
          have ec : gN cf i = c := by show (cf i).toNat = c; omega
          have hcJ : c < J := by rw [← ec]; exact hpt.lt i lti
          have hp0 : poC (gN sf) (gN cf) i = sumN (gN sf) c + cntC (gN cf) c i := by rw [← ec]; rfl
          have hpm : sumN (gN sf) c + cntC (gN cf) c i < m := by rw [← hp0, hmS, ← hnS]; exact poC_lt hnS.symm hpt lti
          have hro := (rdB_iff.1 (allB_iff.1 hrd i lti)).2
          rw [ec, hp0] at hro
          have hsl : sumN (lefC (gN sf) (gN cf) i) J = n - i := lefC_sum hnS.symm hpt.lt (o := vfO sf cf vf) (fun k hk => (rd_lt hrd hk).2) (by omega)
          obtain ⟨p_, ep⟩ : ∃ p_, sumN (gN sf) c + cntC (gN cf) c i = p_ := ⟨_, rfl⟩
          obtain ⟨q_, eq⟩ : ∃ q_, lefC (gN sf) (gN cf) i c = q_ := ⟨_, rfl⟩
          rw [ep] at hpm hro
          rw [eq] at hro
          have hqs : q_ ≤ 256 := by
            have h1 : q_ ≤ gN sf c := by rw [← eq]; exact Nat.sub_le _ _
            have h2 := sumN_at (r := gN sf) hcJ
            omega
          obtain ⟨kb, ko, rfl, hkb, hcelk⟩ := hsk (by omega)
          clear hsk
          obtain ⟨o_, eo⟩ : ∃ o_ : Nat, vf p_ = o_ := ⟨(vf p_).toNat, by omega⟩
          have cK : ∀ X, Below V.heap.size V X → X.cell? ⟨kb, ko + p_, none⟩ = some (.int .i64 ((o_ : Nat) : Int)) := fun X hX => by rw [cell_below hX hkb, hcelk p_ hpm, eo]
          obtain ⟨gl, cl, el, hBl, _⟩ := ownL_some9 (FM.rows 1 (by omega)) (show 0 < J by omega)
          have el' : lv = .slice (some ⟨gl, 0, none⟩) J cl := el
          obtain ⟨g30, c30, e30, hB30, _⟩ := ownL_some9 (FM.rows 0 (by omega)) (show 0 < n by omega)
          have e30' : v30 = .slice (some ⟨g30, 0, none⟩) n c30 := e30
          have n30 : g9 ≠ g30 := fun q => FM.notT (t := 0) (by omega) F9B (by decide) (by rw [e30, q]; rfl)
          have hah : sumN (lefC (gN sf) (gN cf) i) c ≤ n := by have := sumN_mono (r := lefC (gN sf) (gN cf) i) (show c ≤ J by omega); omega
          have hcl : J ≤ cl := by have h_ := FM.rows 1 (by omega); rw [el] at h_; exact own_cap h_
          have cS : ∀ X, FmI V.heap.size 3 (x3 v30 lv xv) (n3 n J) (ffD sf cf vf i) X → Calls Try.prog 31 #[.slice (some ⟨gl, 0, none⟩) c cl] X fun e w' => e = .returned (.int .i64 ((sumN (lefC (gN sf) (gN cf) i) c : Nat) : Int)) ∧ Below X.heap.size X w' := fun X hX => by
            have h_ := hX.rows 1 (by omega)
            rw [el] at h_
            exact psum (fun j => ((lefC (gN sf) (gN cf) i j : Nat) : Int)) c _ X (own_ints (own_takeI h_ (show c ≤ J by omega)) (fun j hj => lefC_fits sf cf i j hok (show j < J by omega))) (by omega) (fun j _ => Int.natCast_nonneg _) (show sumN (lefC (gN sf) (gN cf) i) c ≤ 1000000 by omega)
          refine wp_seq ?_
          refine wp_region_sq (σ := Unit) 58 [(0, 37), (1, 38), (2, 39), (3, 10), (4, 11)] (fun j_ s X => match j_ with | 0 => Below V.heap.size V X ∧ (X.heap[g9]? = some (.cells (rsC (lv) (xv)) 69)) ∧ (FmI V.heap.size 3 (x3 v30 lv xv) (n3 n J) (ffD sf cf vf i) X) | 1 => Below V.heap.size V X ∧ (X.heap[g9]? = some (.cells (rsC (lv) (xv)) 69)) ∧ (FmI V.heap.size 3 (x3 v30 lv xv) (n3 n J) (ffD sf cf vf i) X) | 2 => Below V.heap.size V X ∧ (X.heap[g9]? = some (.cells (rsC (lv) (xv)) 69)) ∧ (FmI V.heap.size 3 (x3 v30 lv xv) (n3 n J) (ffD sf cf vf i) X) | 3 => Below V.heap.size V X ∧ (X.heap[g9]? = some (.cells (rsC (lv) (xv)) 69)) ∧ (FmI V.heap.size 3 (x3 v30 lv xv) (n3 n J) (ffD sf cf vf i) X) | 4 => Below V.heap.size V X ∧ (X.heap[g9]? = some (.cells (rsC (lv) (xv)) 69)) ∧ (FmI V.heap.size 3 (x3 v30 lv xv) (n3 n J) (ffD sf cf vf i) X) | _ => Below V.heap.size V X ∧ (X.heap[g9]? = some (.cells (rsC (lv) (xv)) 69)) ∧ (FmI V.heap.size 3 (x3 v30 lv xv) (n3 n J) (ffD sf cf vf i) X)) (fun s => fun i_ => match i_ with | 0 => .int .i64 ((i : Nat) : Int) | 1 => .pointer (some ⟨jb, jo + i, none⟩) | 2 => .int .i64 ((c : Nat) : Int) | 3 => .int .i64 ((i : Nat) : Int) | 4 => .int .i64 ((c : Nat) : Int) | _ => undef) () A.1 (by kernel_rfl) (by decide) (by decide) ⟨BB, F9B, FM⟩ ?_ ?_
          · intro i_ hi_ s a X hf hv hn hS
            match i_, hi_ with
            | 0, _ => exact stepV rfl rfl (execMvB rfl ((hf 35 (by decide)).trans t35)) ⟨s, ⟨_, rfl, rfl⟩, hS, fun _ _ => rfl⟩
            | 1, _ => exact stepV rfl rfl (execIdxN (k := i) rfl ((hf 33 (by decide)).trans t33) ((hf 35 (by decide)).trans t35) lti) ⟨s, ⟨_, rfl, rfl⟩, hS, fun _ _ => rfl⟩
            | 2, _ => exact stepV rfl rfl (execLd3 rfl (hv 1 (by omega) _ rfl _ rfl) (cW X hS.1)) ⟨s, ⟨_, rfl, rfl⟩, hS, fun _ _ => rfl⟩
            | 3, _ => exact stepV rfl rfl (execAsgB rfl (hv 0 (by omega) _ rfl _ rfl)) ⟨s, ⟨_, rfl, rfl⟩, hS, fun _ _ => rfl⟩
            | 4, _ => exact stepV rfl rfl (execAsgB rfl (hv 2 (by omega) _ rfl _ rfl)) ⟨s, ⟨_, rfl, rfl⟩, hS, fun _ _ => rfl⟩
            | k_ + 5, h_ => exact absurd h_ (by simp)
          rintro _ a X7 h1 h2 h3 h4 hS
          clear BB
          clear F9B
          clear FM
          replace hS : Below V.heap.size V X7 ∧ (X7.heap[g9]? = some (.cells (rsC (lv) (xv)) 69)) ∧ (FmI V.heap.size 3 (x3 v30 lv xv) (n3 n J) (ffD sf cf vf i) X7) := hS
          obtain ⟨BB, F9B, FM⟩ := hS
          replace t2 := (h3 2 (by decide)).trans t2
          replace t8 := (h3 8 (by decide)).trans t8
          replace t9 := (h3 9 (by decide)).trans t9
          replace t33 := (h3 33 (by decide)).trans t33
          replace t34 := (h3 34 (by decide)).trans t34
          replace t35 := (h3 35 (by decide)).trans t35
          have t10 : a.eval (.tmp 10) = .int .i64 ((i : Nat) : Int) := h4 3 _ rfl _ rfl
          have t11 : a.eval (.tmp 11) = .int .i64 ((c : Nat) : Int) := h4 4 _ rfl _ rfl
          replace A := (⟨h1, h2.trans A.2⟩ : a.tmps.size = 58 ∧ a.defers = [])
          clear h1 h2 h3 h4
          refine wp_seq ?_
          refine wp_region_sq (σ := Unit) 58 [(0, 40), (1, 41), (2, 42), (3, 43), (4, 44), (5, 12)] (fun j_ s X => match j_ with | 0 => Below V.heap.size V X ∧ (X.heap[g9]? = some (.cells (rsC (lv) (xv)) 69)) ∧ (FmI V.heap.size 3 (x3 v30 lv xv) (n3 n J) (ffD sf cf vf i) X) | 1 => Below V.heap.size V X ∧ (X.heap[g9]? = some (.cells (rsC (lv) (xv)) 69)) ∧ (FmI V.heap.size 3 (x3 v30 lv xv) (n3 n J) (ffD sf cf vf i) X) | 2 => Below V.heap.size V X ∧ (X.heap[g9]? = some (.cells (rsC (lv) (xv)) 69)) ∧ (FmI V.heap.size 3 (x3 v30 lv xv) (n3 n J) (ffD sf cf vf i) X) | 3 => Below V.heap.size V X ∧ (X.heap[g9]? = some (.cells (rsC (lv) (xv)) 69)) ∧ (FmI V.heap.size 3 (x3 v30 lv xv) (n3 n J) (ffD sf cf vf i) X) | 4 => Below V.heap.size V X ∧ (X.heap[g9]? = some (.cells (rsC (lv) (xv)) 69)) ∧ (FmI V.heap.size 3 (x3 v30 lv xv) (n3 n J) (ffD sf cf vf i) X) | 5 => Below V.heap.size V X ∧ (X.heap[g9]? = some (.cells (rsC (lv) (xv)) 69)) ∧ (FmI V.heap.size 3 (x3 v30 lv xv) (n3 n J) (ffD sf cf vf i) X) | _ => Below V.heap.size V X ∧ (X.heap[g9]? = some (.cells (rsC (lv) (xv)) 69)) ∧ (FmI V.heap.size 3 (x3 v30 lv xv) (n3 n J) (ffD sf cf vf i) X)) (fun s => fun i_ => match i_ with | 0 => .pointer (some ⟨g9, 0, none⟩) | 1 => lv | 2 => .int .i64 ((c : Nat) : Int) | 3 => .slice (some ⟨gl, 0, none⟩) c cl | 4 => .int .i64 ((sumN (lefC (gN sf) (gN cf) i) c : Nat) : Int) | 5 => .int .i64 ((sumN (lefC (gN sf) (gN cf) i) c : Nat) : Int) | _ => undef) () A.1 (by kernel_rfl) (by decide) (by decide) ⟨BB, F9B, FM⟩ ?_ ?_
          · intro i_ hi_ s a X hf hv hn hS
            match i_, hi_ with
            | 0, _ => exact stepV rfl rfl (execFldRs0 rfl ((hf 9 (by decide)).trans t9)) ⟨s, ⟨_, rfl, rfl⟩, hS, fun _ _ => rfl⟩
            | 1, _ => exact stepV rfl rfl (execLdLI (v := lv) rfl (hv 0 (by omega) _ rfl _ rfl) (rs_at0 hS.2.1)) ⟨s, ⟨_, rfl, rfl⟩, hS, fun _ _ => rfl⟩
            | 2, _ => exact stepV rfl rfl (execMvB rfl ((hf 11 (by decide)).trans t11)) ⟨s, ⟨_, rfl, rfl⟩, hS, fun _ _ => rfl⟩
            | 3, _ => exact stepV rfl rfl (By8.execSlH rfl ((hv 1 (by omega) _ rfl _ rfl).trans el') (hv 2 (by omega) _ rfl _ rfl) (sl_hI gl J cl c (by omega) X)) ⟨s, ⟨_, rfl, rfl⟩, hS, fun _ _ => rfl⟩
            | 4, _ => exact stepC rfl rfl (execCall1 Try.func31 (by kernel_rfl) (by kernel_rfl) rfl (hv 3 (by omega) _ rfl _ rfl)) (cS X hS.2.2) fun e w' hh => ⟨_, hh.1, s, ⟨_, rfl, rfl⟩, ⟨(hS.1).trans ((hh.2).mono (hS.1).size), (on9 hS.2.1 hh.2), (hS.2.2.on hh.2)⟩, fun _ _ => rfl⟩
            | 5, _ => exact stepV rfl rfl (execAsgB rfl (hv 4 (by omega) _ rfl _ rfl)) ⟨s, ⟨_, rfl, rfl⟩, hS, fun _ _ => rfl⟩
            | k_ + 6, h_ => exact absurd h_ (by simp)
          rintro _ a X8 h1 h2 h3 h4 hS
          clear BB
          clear F9B
          clear FM
          replace hS : Below V.heap.size V X8 ∧ (X8.heap[g9]? = some (.cells (rsC (lv) (xv)) 69)) ∧ (FmI V.heap.size 3 (x3 v30 lv xv) (n3 n J) (ffD sf cf vf i) X8) := hS
          obtain ⟨BB, F9B, FM⟩ := hS
          replace t2 := (h3 2 (by decide)).trans t2
          replace t8 := (h3 8 (by decide)).trans t8
          replace t9 := (h3 9 (by decide)).trans t9
          replace t33 := (h3 33 (by decide)).trans t33
          replace t34 := (h3 34 (by decide)).trans t34
          replace t35 := (h3 35 (by decide)).trans t35
          replace t10 := (h3 10 (by decide)).trans t10
          replace t11 := (h3 11 (by decide)).trans t11
          have t12 : a.eval (.tmp 12) = .int .i64 ((sumN (lefC (gN sf) (gN cf) i) c : Nat) : Int) := h4 5 _ rfl _ rfl
          replace A := (⟨h1, h2.trans A.2⟩ : a.tmps.size = 58 ∧ a.defers = [])
          clear h1 h2 h3 h4
          refine wp_region_sq (σ := Unit) 58 [(0, 45), (1, 46), (2, 47), (3, 48), (4, 49), (5, 50), (6, 51), (7, 52), (8, 53), (9, 54), (10, 55)] (fun j_ s X => match j_ with | 0 => Below V.heap.size V X ∧ (X.heap[g9]? = some (.cells (rsC (lv) (xv)) 69)) ∧ (FmI V.heap.size 3 (x3 v30 lv xv) (n3 n J) (ffD sf cf vf i) X) | 1 => Below V.heap.size V X ∧ (X.heap[g9]? = some (.cells (rsC (lv) (xv)) 69)) ∧ (FmI V.heap.size 3 (x3 v30 lv xv) (n3 n J) (ffD sf cf vf i) X) | 2 => Below V.heap.size V X ∧ (X.heap[g9]? = some (.cells (rsC (lv) (xv)) 69)) ∧ (FmI V.heap.size 3 (x3 v30 lv xv) (n3 n J) (ffD sf cf vf i) X) | 3 => Below V.heap.size V X ∧ (X.heap[g9]? = some (.cells (rsC (lv) (xv)) 69)) ∧ (FmI V.heap.size 3 (x3 v30 lv xv) (n3 n J) (ffD sf cf vf i) X) | 4 => Below V.heap.size V X ∧ (X.heap[g9]? = some (.cells (rsC (lv) (xv)) 69)) ∧ (FmI V.heap.size 3 (x3 v30 lv xv) (n3 n J) (ffD sf cf vf i) X) | 5 => Below V.heap.size V X ∧ (X.heap[g9]? = some (.cells (rsC (lv) (xv)) 69)) ∧ (FmI V.heap.size 3 (x3 v30 lv xv) (n3 n J) (ffD sf cf vf i) X) | 6 => Below V.heap.size V X ∧ (X.heap[g9]? = some (.cells (rsC (lv) (xv)) 69)) ∧ (FmI V.heap.size 3 (x3 v30 lv xv) (n3 n J) (ffD sf cf vf i) X) | 7 => Below V.heap.size V X ∧ (X.heap[g9]? = some (.cells (rsC (lv) (xv)) 69)) ∧ (FmI V.heap.size 3 (x3 v30 lv xv) (n3 n J) (updF (updF (ffD sf cf vf i) 2 c ((p_ + 1 : Nat) : Int)) 1 c ((q_ - 1 : Nat) : Int)) X) | 8 => Below V.heap.size V X ∧ (X.heap[g9]? = some (.cells (rsC (lv) (xv)) 69)) ∧ (FmI V.heap.size 3 (x3 v30 lv xv) (n3 n J) (updF (updF (ffD sf cf vf i) 2 c ((p_ + 1 : Nat) : Int)) 1 c ((q_ - 1 : Nat) : Int)) X) | 9 => Below V.heap.size V X ∧ (X.heap[g9]? = some (.cells (rsC (lv) (xv)) 69)) ∧ (FmI V.heap.size 3 (x3 v30 lv xv) (n3 n J) (updF (updF (ffD sf cf vf i) 2 c ((p_ + 1 : Nat) : Int)) 1 c ((q_ - 1 : Nat) : Int)) X) | 10 => Below V.heap.size V X ∧ (X.heap[g9]? = some (.cells (rsC (lv) (xv)) 69)) ∧ (FmI V.heap.size 3 (x3 v30 lv xv) (n3 n J) (updF (updF (ffD sf cf vf i) 2 c ((p_ + 1 : Nat) : Int)) 1 c ((q_ - 1 : Nat) : Int)) X) | 11 => Below V.heap.size V X ∧ (X.heap[g9]? = some (.cells (rsC (lv) (xv)) 69)) ∧ (FmI V.heap.size 3 (x3 v30 lv xv) (n3 n J) (updF (updF (ffD sf cf vf i) 2 c ((p_ + 1 : Nat) : Int)) 1 c ((q_ - 1 : Nat) : Int)) X) | _ => Below V.heap.size V X ∧ (X.heap[g9]? = some (.cells (rsC (lv) (xv)) 69)) ∧ (FmI V.heap.size 3 (x3 v30 lv xv) (n3 n J) (updF (updF (updF (ffD sf cf vf i) 2 c ((p_ + 1 : Nat) : Int)) 1 c ((q_ - 1 : Nat) : Int)) 0 i ((sumN (lefC (gN sf) (gN cf) i) c + o_ : Nat) : Int)) X)) (fun s => fun i_ => match i_ with | 0 => v30 | 1 => .int .i64 ((i : Nat) : Int) | 2 => .int .i64 ((sumN (lefC (gN sf) (gN cf) i) c : Nat) : Int) | 3 => .slice (some ⟨kb, ko, none⟩) m kc | 4 => .agg (rsC (lv) (xv)) | 5 => .int .i64 ((c : Nat) : Int) | 6 => .int .i64 ((p_ : Nat) : Int) | 7 => .pointer (some ⟨kb, ko + p_, none⟩) | 8 => .int .i64 ((o_ : Nat) : Int) | 9 => .int .i64 ((sumN (lefC (gN sf) (gN cf) i) c + o_ : Nat) : Int) | 10 => .pointer (some ⟨g30, 0 + i, none⟩) | 11 => undef | _ => undef) () A.1 (by kernel_rfl) (by decide) (by decide) ⟨BB, F9B, FM⟩ ?_ ?_
          · intro i_ hi_ s a X hf hv hn hS
            match i_, hi_ with
            | 0, _ => exact stepV rfl rfl (execMvB rfl ((hf 8 (by decide)).trans t8)) ⟨s, ⟨_, rfl, rfl⟩, hS, fun _ _ => rfl⟩
            | 1, _ => exact stepV rfl rfl (execMvB rfl ((hf 10 (by decide)).trans t10)) ⟨s, ⟨_, rfl, rfl⟩, hS, fun _ _ => rfl⟩
            | 2, _ => exact stepV rfl rfl (execMvB rfl ((hf 12 (by decide)).trans t12)) ⟨s, ⟨_, rfl, rfl⟩, hS, fun _ _ => rfl⟩
            | 3, _ => exact stepV rfl rfl (execMvB rfl ((hf 2 (by decide)).trans t2)) ⟨s, ⟨_, rfl, rfl⟩, hS, fun _ _ => rfl⟩
            | 4, _ => exact stepV rfl rfl (execLdRs rfl ((hf 9 (by decide)).trans t9) hS.2.1) ⟨s, ⟨_, rfl, rfl⟩, hS, fun _ _ => rfl⟩
            | 5, _ => exact stepV rfl rfl (execMvB rfl ((hf 11 (by decide)).trans t11)) ⟨s, ⟨_, rfl, rfl⟩, hS, fun _ _ => rfl⟩
            | 6, _ =>
              refine stepC rfl rfl (execCall2 Try.func35 (by kernel_rfl) (by kernel_rfl) rfl (hv 4 (by omega) _ rfl _ rfl) (hv 5 (by omega) _ rfl _ rfl)) (pvisit V X 3 1 2 c p_ q_ (x3 v30 lv xv) (n3 n J) (ffD sf cf vf i) hS.1 hS.2.2 (by omega) (by omega) (by omega) hcJ hcJ (by rw [← ep]; rfl) (by rw [← eq]; rfl) (by omega) (by omega) (by omega)) fun e w' hh => ?_
              obtain ⟨he, hk, hsv, hb⟩ := hh
              refine ⟨_, he, s, ⟨_, rfl, rfl⟩, ⟨hb, (hp_saved hS.2.1 hsv (fun z => z.elim (hS.2.2.notT (t := 1) (by omega) hS.2.1 (by decide)) (hS.2.2.notT (t := 2) (by omega) hS.2.1 (by decide)))), hk⟩, fun i hi => ?_⟩
              match i, hi with
              | 0, _ => rfl
              | 1, _ => rfl
              | 2, _ => rfl
              | 3, _ => rfl
              | 4, _ => rfl
              | 5, _ => rfl
              | n_ + 6, h_ => omega
            | 7, _ => exact stepV rfl rfl (execIdxN (k := p_) rfl (hv 3 (by omega) _ rfl _ rfl) (hv 6 (by omega) _ rfl _ rfl) hpm) ⟨s, ⟨_, rfl, rfl⟩, hS, fun _ _ => rfl⟩
            | 8, _ => exact stepV rfl rfl (execLd3 rfl (hv 7 (by omega) _ rfl _ rfl) (cK X hS.1)) ⟨s, ⟨_, rfl, rfl⟩, hS, fun _ _ => rfl⟩
            | 9, _ => exact stepV rfl rfl (execAd8 (p := sumN (lefC (gN sf) (gN cf) i) c) (q := o_) rfl (hv 2 (by omega) _ rfl _ rfl) (hv 8 (by omega) _ rfl _ rfl) (by omega)) ⟨s, ⟨_, rfl, rfl⟩, hS, fun _ _ => rfl⟩
            | 10, _ => exact stepV rfl rfl (execIdxN (k := i) rfl ((hv 0 (by omega) _ rfl _ rfl).trans e30') (hv 1 (by omega) _ rfl _ rfl) lti) ⟨s, ⟨_, rfl, rfl⟩, hS, fun _ _ => rfl⟩
            | 11, _ =>
              obtain ⟨hc_, hf_⟩ := hS.2.2.cell (t := 0) (by omega) e30 lti
              refine stepS rfl rfl (execStI9 rfl (hv 10 (by omega) _ rfl _ rfl) (hv 9 (by omega) _ rfl _ rfl) hc_ hf_) ⟨s, ⟨_, rfl, rfl⟩, ⟨(hS.1).setCell hB30 _, ((Below.heap_setCell _ _ _ _ n30).trans hS.2.1), hS.2.2.set (t := 0) (by omega) e30 _⟩, fun i hi => ?_⟩
              match i, hi with
              | 0, _ => rfl
              | 1, _ => rfl
              | 2, _ => rfl
              | 3, _ => rfl
              | 4, _ => rfl
              | 5, _ => rfl
              | 6, _ => rfl
              | 7, _ => rfl
              | 8, _ => rfl
              | 9, _ => rfl
              | 10, _ => rfl
              | n_ + 11, h_ => omega
            | k_ + 12, h_ => exact absurd h_ (by simp)
          rintro _ a X9 h1 h2 h3 h4 hS
          clear BB
          clear F9B
          clear FM
          replace hS : Below V.heap.size V X9 ∧ (X9.heap[g9]? = some (.cells (rsC (lv) (xv)) 69)) ∧ (FmI V.heap.size 3 (x3 v30 lv xv) (n3 n J) (updF (updF (updF (ffD sf cf vf i) 2 c ((p_ + 1 : Nat) : Int)) 1 c ((q_ - 1 : Nat) : Int)) 0 i ((sumN (lefC (gN sf) (gN cf) i) c + o_ : Nat) : Int)) X9) := hS
          obtain ⟨BB, F9B, FM3⟩ := hS
          replace t2 := (h3 2 (by decide)).trans t2
          replace t8 := (h3 8 (by decide)).trans t8
          replace t9 := (h3 9 (by decide)).trans t9
          replace t33 := (h3 33 (by decide)).trans t33
          replace t34 := (h3 34 (by decide)).trans t34
          replace t35 := (h3 35 (by decide)).trans t35
          replace A := (⟨h1, h2.trans A.2⟩ : a.tmps.size = 58 ∧ a.defers = [])
          clear h1 h2 h3 h4
          clear t10 t11 t12
          have FM4 := FmI.cgF FM3 (ffD_next sf cf vf n J ec eo ep eq hp0)
          clear FM3
          refine wp_region_sq (σ := Unit) 58 [(0, 56), (1, 35)] (fun j_ s X => match j_ with | 0 => Below V.heap.size V X ∧ (X.heap[g9]? = some (.cells (rsC (lv) (xv)) 69)) ∧ (FmI V.heap.size 3 (x3 v30 lv xv) (n3 n J) (ffD sf cf vf (i + 1)) X) | 1 => Below V.heap.size V X ∧ (X.heap[g9]? = some (.cells (rsC (lv) (xv)) 69)) ∧ (FmI V.heap.size 3 (x3 v30 lv xv) (n3 n J) (ffD sf cf vf (i + 1)) X) | _ => Below V.heap.size V X ∧ (X.heap[g9]? = some (.cells (rsC (lv) (xv)) 69)) ∧ (FmI V.heap.size 3 (x3 v30 lv xv) (n3 n J) (ffD sf cf vf (i + 1)) X)) (fun s => fun i_ => match i_ with | 0 => .int .i64 ((i + 1 : Nat) : Int) | 1 => .int .i64 ((i + 1 : Nat) : Int) | _ => undef) () A.1 (by kernel_rfl) (by decide) (by decide) ⟨BB, F9B, FM4⟩ ?_ ?_
          · intro i_ hi_ s a X hf hv hn hS
            match i_, hi_ with
            | 0, _ => exact stepV rfl rfl (execAd8 (p := i) (q := 1) rfl ((hn 1 (by omega) _ rfl _ rfl).trans t35) rfl (by omega)) ⟨s, ⟨_, rfl, rfl⟩, hS, fun _ _ => rfl⟩
            | 1, _ => exact stepV rfl rfl (execMvB rfl (hv 0 (by omega) _ rfl _ rfl)) ⟨s, ⟨_, rfl, rfl⟩, hS, fun _ _ => rfl⟩
            | k_ + 2, h_ => exact absurd h_ (by simp)
          rintro _ a X10 h1 h2 h3 h4 hS
          clear BB
          clear F9B
          clear FM4
          replace hS : Below V.heap.size V X10 ∧ (X10.heap[g9]? = some (.cells (rsC (lv) (xv)) 69)) ∧ (FmI V.heap.size 3 (x3 v30 lv xv) (n3 n J) (ffD sf cf vf (i + 1)) X10) := hS
          obtain ⟨BB, F9B, FM4⟩ := hS
          replace t2 := (h3 2 (by decide)).trans t2
          replace t8 := (h3 8 (by decide)).trans t8
          replace t9 := (h3 9 (by decide)).trans t9
          replace t33 := (h3 33 (by decide)).trans t33
          replace t34 := (h3 34 (by decide)).trans t34
          replace t35 : a.eval (.tmp 35) = .int .i64 ((i + 1 : Nat) : Int) := h4 1 _ rfl _ rfl
          replace A := (⟨h1, h2.trans A.2⟩ : a.tmps.size = 58 ∧ a.defers = [])
          clear h1 h2 h3 h4
          exact ⟨⟨i + 1, lti, A, t2, t8, t9, t33, t34, t35, BB, F9B, FM4⟩, by show n - (intOf (a.eval (.tmp 35))).toNat < n - (intOf (Act.eval _ (.tmp 35))).toNat; rw [t35, esi]; show n - (i + 1) < n - i; omega⟩
        · rw [decide_eq_false lti] at t36
          refine wp_cond_false t36 ?_
          refine wp_exit ?_
          first | refine exit_in ?_ | refine exit_then (exit_in ?_) | refine exit_then (exit_then (exit_in ?_))
          clear t36 esi
          obtain rfl : i = n := by omega
          clear t2 t9 t33 t34 t35 F9B
          refine wp_seq ?_
          refine wp_region_sq (σ := Unit) 58 [(0, 57), (1, 6), (2, 7)] (fun j_ s X => match j_ with | 0 => Below V.heap.size V X ∧ (FmI V.heap.size 3 (x3 v30 lv xv) (n3 i J) (ffD sf cf vf i) X) | 1 => Below V.heap.size V X ∧ (FmI V.heap.size 3 (x3 v30 lv xv) (n3 i J) (ffD sf cf vf i) X) | 2 => Below V.heap.size V X ∧ (FmI V.heap.size 3 (x3 v30 lv xv) (n3 i J) (ffD sf cf vf i) X) | _ => Below V.heap.size V X ∧ (FmI V.heap.size 3 (x3 v30 lv xv) (n3 i J) (ffD sf cf vf i) X)) (fun s => fun i_ => match i_ with | 0 => v30 | 1 => v30 | 2 => .int .i64 ((0 : Nat) : Int) | _ => undef) () A.1 (by kernel_rfl) (by decide) (by decide) ⟨BB, FM⟩ ?_ ?_
          · intro i_ hi_ s a X hf hv hn hS
            match i_, hi_ with
            | 0, _ => exact stepV rfl rfl (execMvB rfl ((hf 8 (by decide)).trans t8)) ⟨s, ⟨_, rfl, rfl⟩, hS, fun _ _ => rfl⟩
            | 1, _ => exact stepV rfl rfl (execAsgB rfl (hv 0 (by omega) _ rfl _ rfl)) ⟨s, ⟨_, rfl, rfl⟩, hS, fun _ _ => rfl⟩
            | 2, _ => exact stepV rfl rfl (execAsgB rfl rfl) ⟨s, ⟨_, rfl, rfl⟩, hS, fun _ _ => rfl⟩
            | k_ + 3, h_ => exact absurd h_ (by simp)
          rintro _ a X11 h1 h2 h3 h4 hS
          clear BB
          clear FM
          replace hS : Below V.heap.size V X11 ∧ (FmI V.heap.size 3 (x3 v30 lv xv) (n3 i J) (ffD sf cf vf i) X11) := hS
          obtain ⟨BB, FM⟩ := hS
          have t6 : a.eval (.tmp 6) = v30 := h4 1 _ rfl _ rfl
          have t7 : a.eval (.tmp 7) = .int .i64 ((0 : Nat) : Int) := h4 2 _ rfl _ rfl
          replace A := (⟨h1, h2.trans A.2⟩ : a.tmps.size = 58 ∧ a.defers = [])
          clear h1 h2 h3 h4
          clear t8
          have FO : X11.ownsRow V.heap.size 3 1 v30 i (intsL i (fun k => if k < i then dwF sf cf vf k else 0)) := FM.rows 0 (by omega)
          rw [intsL_congr (g := dwF sf cf vf) (fun j hj => if_pos hj)] at FO
          refine wp_ret ?_
          refine bodyPost_ret (results_tmp2 rfl _ _ _) A.2 ⟨v30, ?_, FO, BB⟩
          show Ending.returned (.tuple #[a.eval (.tmp 6), a.eval (.tmp 7)]) = _
          rw [t6, t7]
end Go.Proofs.Ytdecmmcphcomhaa.Brd
