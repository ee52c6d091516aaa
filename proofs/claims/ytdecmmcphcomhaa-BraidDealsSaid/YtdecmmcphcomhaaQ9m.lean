import Derived.Test.YtdecmmcphcomhaaQ9l
namespace Go.Proofs.Ytdecmmcphcomhaa.Brd
open Go.RowKit Gf8 Aes By8 Cel Cf Tap Drw Prm
/- Package braid as it landed: Sizes, Bounds, Pattern. Written by tools/mkQ9m.py. -/

theorem results_tmp3 {fn : Func} {t u v : Tmp} (h : fn.results = #[.tmp t, .tmp u, .tmp v]) (tmps : Array Value) (P : Program) (w : World) : (results fn tmps).run P w = .ok (.tuple #[tmps.getD t undef, tmps.getD u undef, tmps.getD v undef]) w := by
  simp [results, h]
theorem sz_set1 {W : World} {B N D i : Nat} {v : Value} (h : W.ownsRow B 3 1 v D (intsL D (fun x => if x = i then ((N / D : Nat) : Int) else (fun j => if j < i then (szF N D j : Int) else 0) x))) (hlr : ¬ i < N % D) : W.ownsRow B 3 1 v D (intsL D (fun j => if j < (i + 1) then (szF N D j : Int) else 0)) := by
  rw [← intsL_congr (fun j hj => ?_)]
  · exact h
  · show (if j = i then ((N / D : Nat) : Int) else if j < i then (szF N D j : Int) else 0) = if j < i + 1 then (szF N D j : Int) else 0
    by_cases e : j = i
    · subst e
      rw [if_pos rfl, if_pos (by omega)]
      unfold szF
      rw [if_neg hlr]
      rfl
    · rw [if_neg e]
      by_cases e2 : j < i
      · rw [if_pos e2, if_pos (by omega)]
      · rw [if_neg e2, if_neg (by omega)]
theorem sz_set2 {W : World} {B N D i g c : Nat} (h : W.ownsRow B 3 1 (.slice (some ⟨g, 0, none⟩) D c) D (intsL D (fun x => if x = i then ((N / D : Nat) : Int) else (fun j => if j < i then (szF N D j : Int) else 0) x))) (hlr : i < N % D) : (W.setCell ⟨g, 0 + i, none⟩ (.int .i64 ((N / D + 1 : Nat) : Int))).ownsRow B 3 1 (.slice (some ⟨g, 0, none⟩) D c) D (intsL D (fun j => if j < (i + 1) then (szF N D j : Int) else 0)) := by
  have h1 := own_setF (k := i) ((N / D + 1 : Nat) : Int) h
  rw [← intsL_congr (fun j hj => ?_)]
  · exact h1
  · show (if j = i then ((N / D + 1 : Nat) : Int) else if j = i then ((N / D : Nat) : Int) else if j < i then (szF N D j : Int) else 0) = if j < i + 1 then (szF N D j : Int) else 0
    by_cases e : j = i
    · subst e
      rw [if_pos rfl, if_pos (by omega)]
      unfold szF
      rw [if_pos hlr]
    · rw [if_neg e, if_neg e]
      by_cases e2 : j < i
      · rw [if_pos e2, if_pos (by omega)]
      · rw [if_neg e2, if_neg (by omega)]
/-- Four rows: chunks, offsets, what is left, the next visits. -/
def x4 (a b l x : Value) (t : Nat) : Value := if t = 0 then a else if t = 1 then b else if t = 2 then l else x
def n4 (m J t : Nat) : Nat := if t < 2 then m else J
def f2 (f g : Nat → Int) (t : Nat) : Nat → Int := if t = 0 then f else g
def ffP (sf : Nat → Int) (J : Nat) (df : Nat → Int) (i t : Nat) : Nat → Int :=
  if t = 0 then fun k => if k < i then pcF sf J df k else 0 else if t = 1 then fun y => (ofv (gN sf) (chD (gN sf) J (gN df)) (ofD (gN sf) J (gN df)) i y : Int)
  else if t = 2 then fun j => (lefC (gN sf) (chD (gN sf) J (gN df)) i j : Int) else fun j => ((sumN (gN sf) j + cntC (chD (gN sf) J (gN df)) j i : Nat) : Int)
theorem lt_on {v : Value} {W W' : World} (h : ∀ b, v.ownBlock = some b → b < W.heap.size) (hb : Below W.heap.size W W') : ∀ b, v.ownBlock = some b → b < W'.heap.size := fun b e => Nat.lt_of_lt_of_le (h b e) hb.size
theorem hp_saved {G : Nat → Prop} {W W' : World} {k : Nat} {c : Obj} (h : W.heap[k]? = some c) (sv : Saved G W W') (hk : ¬ G k) : W'.heap[k]? = some c := (sv.block k (Array.getElem?_eq_some_iff.1 h).1 hk).trans h
theorem fm2nil (B : Nat) (ff : Nat → Nat → Int) (W : World) : FmI B 2 (x2 (.slice none 0 0) (.slice none 0 0)) (fun _ => 0) ff W := by
  have e : x2 (.slice none 0 0) (.slice none 0 0) = fun _ => Value.slice none 0 0 := by
    funext t
    unfold x2
    split <;> rfl
  rw [e]
  exact FmI.nils _ _ _ _
theorem fm4 {B C m J : Nat} {a b l x : Value} {f0 f1 : Nat → Int} {gg : Nat → Nat → Int} {W : World} (h0 : W.ownsRow B 3 1 a m (intsL m f0)) (h1 : W.ownsRow B 3 1 b m (intsL m f1)) (hd : ∀ k, a.ownBlock = some k → b.ownBlock ≠ some k) (ha : ∀ k, a.ownBlock = some k → k < C) (hb : ∀ k, b.ownBlock = some k → k < C)
    (h2 : FmI C 2 (x2 l x) (fun _ => J) gg W) (hBC : B ≤ C) : FmI B 4 (x4 a b l x) (n4 m J) (fun t => if t = 0 then f0 else if t = 1 then f1 else if t = 2 then gg 0 else gg 1) W := by
  have r0 := h2.rows 0 (by omega)
  have r1 := h2.rows 1 (by omega)
  have d01 := h2.dis 0 1 (by omega) (by omega) (by omega)
  have hl : ∀ k, l.ownBlock = some k → C ≤ k := fun k e => (r0.lt k e).1
  have hx : ∀ k, x.ownBlock = some k → C ≤ k := fun k e => (r1.lt k e).1
  refine ⟨fun t ht => ?_, fun s t hs ht hst k e => ?_⟩
  · match t, ht with
    | 0, _ => exact h0
    | 1, _ => exact h1
    | 2, _ => exact ownD_base r0 hBC
    | 3, _ => exact ownD_base r1 hBC
    | t + 4, h => omega
  · match s, hs, t, ht, hst, e with
    | 0, _, 0, _, h, _ => exact absurd rfl h
    | 0, _, 1, _, _, e => exact hd k e
    | 0, _, 2, _, _, e => exact fun z => by have := ha k e; have := hl k z; omega
    | 0, _, 3, _, _, e => exact fun z => by have := ha k e; have := hx k z; omega
    | 1, _, 0, _, _, e => exact fun z => hd k z e
    | 1, _, 1, _, h, _ => exact absurd rfl h
    | 1, _, 2, _, _, e => exact fun z => by have := hb k e; have := hl k z; omega
    | 1, _, 3, _, _, e => exact fun z => by have := hb k e; have := hx k z; omega
    | 2, _, 0, _, _, e => exact fun z => by have := ha k z; have := hl k e; omega
    | 2, _, 1, _, _, e => exact fun z => by have := hb k z; have := hl k e; omega
    | 2, _, 2, _, h, _ => exact absurd rfl h
    | 2, _, 3, _, _, e => exact d01 k e
    | 3, _, 0, _, _, e => exact fun z => by have := ha k z; have := hx k e; omega
    | 3, _, 1, _, _, e => exact fun z => by have := hb k z; have := hx k e; omega
    | 3, _, 2, _, _, e => exact fun z => d01 k z e
    | 3, _, 3, _, h, _ => exact absurd rfl h
    | s + 4, h, _, _, _, _ => omega
    | _, _, t + 4, h, _, _ => omega
end Go.Proofs.Ytdecmmcphcomhaa.Brd
namespace Go.Proofs.Ytdecmmcphcomhaa.Prm
open Go.RowKit Gf8 Aes By8 Cel Cf Tap Drw Brd
section
variable {B k : Nat} {x : Nat → Value} {nn : Nat → Nat} {ff : Nat → Nat → Int} {W : World}
theorem FmI.setT {g : Nat} {cur c : Array Value} {u : TypeId} (h : FmI B k x nn ff W) (hg : W.heap[g]? = some (.cells cur u)) (hu : u ≠ 3) : FmI B k x nn ff (W.setRow g c) := ⟨fun t ht => own_setT (h.rows t ht) hg hu, h.dis⟩
theorem FmI.notT {g t : Nat} {c : Array Value} {u : TypeId} {fr : Nat × Nat} (h : FmI B k x nn ff W) (ht : t < k) (hg : W.heap[g]? = some (.cells c u fr)) (hu : u ≠ 3) : ¬ (x t).ownBlock = some g := fun e => by
  rcases (h.rows t ht).2 with ⟨e1, _⟩ | ⟨g', cap, cur, e1, _, hg', _⟩
  · rw [e1] at e
    cases e
  · rw [e1] at e
    have e2 : g' = g := Option.some.inj e
    subst e2
    rw [hg] at hg'
    injection hg' with q
    injection q with _ q2 _
    exact hu q2
theorem FmI.first2 {m J : Nat} {a b l y : Value} {gg : Nat → Nat → Int} (h : FmI B 4 (x4 a b l y) (n4 m J) ff W) (e : ∀ t, t < 2 → ∀ j, j < m → ff t j = gg t j) : FmI B 2 (x2 a b) (fun _ => m) gg W := by
  refine ⟨fun t ht => ?_, fun s t hs ht hst => ?_⟩
  · rw [← intsL_congr (e t ht)]
    match t, ht with
    | 0, _ => exact h.rows 0 (by omega)
    | 1, _ => exact h.rows 1 (by omega)
    | t + 2, h => omega
  · match s, hs, t, ht, hst with
    | 0, _, 0, _, h => exact absurd rfl h
    | 0, _, 1, _, _ => exact h.dis 0 1 (by omega) (by omega) (by omega)
    | 1, _, 0, _, _ => exact h.dis 1 0 (by omega) (by omega) (by omega)
    | 1, _, 1, _, h => exact absurd rfl h
    | s + 2, h, _, _, _ => omega
    | _, _, t + 2, h, _ => omega
end
end Go.Proofs.Ytdecmmcphcomhaa.Prm
namespace Go.Proofs.Ytdecmmcphcomhaa.Brd
open Go.RowKit Gf8 Aes By8 Cel Cf Tap Drw Prm
theorem ffP_zero (sf : Nat → Int) (J : Nat) (df : Nat → Int) (m : Nat) : ∀ t, t < 4 → ∀ j, j < n4 m J t → (fun t => if t = 0 then (fun _ => 0) else if t = 1 then (fun _ => 0) else if t = 2 then ffB sf 0 else ffB sf 1 : Nat → Nat → Int) t j = ffP sf J df 0 t j := fun t ht j _ => by
  match t, ht with
  | 0, _ => rfl
  | 1, _ => rfl
  | 2, _ => rfl
  | 3, _ => rfl
  | t + 4, h => omega
theorem ffP_next (sf : Nat → Int) (J : Nat) (df : Nat → Int) (m : Nat) {i c o p q : Nat} (ec : chD (gN sf) J (gN df) i = c) (eo : ofD (gN sf) J (gN df) i = o) (ep : sumN (gN sf) c + cntC (chD (gN sf) J (gN df)) c i = p) (eq : lefC (gN sf) (chD (gN sf) J (gN df)) i c = q)
    (hp0 : poC (gN sf) (chD (gN sf) J (gN df)) i = sumN (gN sf) c + cntC (chD (gN sf) J (gN df)) c i) :
    ∀ t, t < 4 → ∀ j, j < n4 m J t → updF (updF (updF (updF (ffP sf J df i) 0 i ((c : Nat) : Int)) 3 c ((p + 1 : Nat) : Int)) 2 c ((q - 1 : Nat) : Int)) 1 p ((o : Nat) : Int) t j = ffP sf J df (i + 1) t j := fun t ht j _ => by
  match t, ht with
  | 0, _ =>
    rw [updF_o (by omega), updF_o (by omega), updF_o (by omega), updF_at]
    show (if j = i then ((c : Nat) : Int) else if j < i then pcF sf J df j else 0) = if j < i + 1 then pcF sf J df j else 0
    by_cases e : j = i
    · subst e
      rw [if_pos rfl, if_pos (by omega), ← ec]
      rfl
    · rw [if_neg e]
      by_cases e2 : j < i
      · rw [if_pos e2, if_pos (by omega)]
      · rw [if_neg e2, if_neg (by omega)]
  | 1, _ =>
    rw [updF_at, updF_o (by omega), updF_o (by omega), updF_o (by omega)]
    show (if j = p then ((o : Nat) : Int) else ((ofv _ _ _ i j : Nat) : Int)) = ((if j = poC (gN sf) (chD (gN sf) J (gN df)) i then ofD (gN sf) J (gN df) i else ofv _ _ _ i j : Nat) : Int)
    rw [hp0, ep, eo]
    by_cases e : j = p
    · rw [if_pos e, if_pos e]
    · rw [if_neg e, if_neg e]
  | 2, _ =>
    rw [updF_o (by omega), updF_at, updF_o (by omega), updF_o (by omega)]
    show (if j = c then ((q - 1 : Nat) : Int) else ((lefC _ _ i j : Nat) : Int)) = ((lefC (gN sf) (chD (gN sf) J (gN df)) (i + 1) j : Nat) : Int)
    rw [lefC_succ, ec]
    by_cases e : j = c
    · subst e
      rw [if_pos rfl, dec1_at, eq]
    · rw [if_neg e, dec1_o e]
  | 3, _ =>
    rw [updF_o (by omega), updF_o (by omega), updF_at, updF_o (by omega)]
    show (if j = c then ((p + 1 : Nat) : Int) else ((sumN (gN sf) j + cntC _ j i : Nat) : Int)) = ((sumN (gN sf) j + (cntC (chD (gN sf) J (gN df)) j i + if chD (gN sf) J (gN df) i = j then 1 else 0) : Nat) : Int)
    rw [ec]
    by_cases e : j = c
    · subst e
      rw [if_pos rfl, if_pos rfl, ← ep, Nat.add_assoc]
    · rw [if_neg e, if_neg (fun z => e z.symm), Nat.add_zero]
  | t + 4, h => omega
theorem ffP_end (sf : Nat → Int) (J : Nat) (df : Nat → Int) {m : Nat} (hn : sumN (gN sf) J = m) (hp : IsPat (gN sf) J m (chD (gN sf) J (gN df))) : ∀ t, t < 2 → ∀ j, j < m → ffP sf J df m t j = f2 (pcF sf J df) (poF sf J df m) t j := fun t ht j hj => by
  match t, ht with
  | 0, _ => exact if_pos hj
  | 1, _ =>
    show ((ofv _ _ _ m j : Nat) : Int) = ((ovF _ _ _ _ m j : Nat) : Int)
    rw [ofv_end hn hp hj]
  | t + 2, h => omega
theorem lef_fits (sf : Nat → Int) (J : Nat) (df : Nat → Int) (i j : Nat) (hok : okS sf J = true) (hj : j < J) : -9223372036854775808 ≤ ((lefC (gN sf) (chD (gN sf) J (gN df)) i j : Nat) : Int) ∧ ((lefC (gN sf) (chD (gN sf) J (gN df)) i j : Nat) : Int) < 9223372036854775808 := by
  have h1 : lefC (gN sf) (chD (gN sf) J (gN df)) i j ≤ gN sf j := Nat.sub_le _ _
  have h2 := sumN_at (r := gN sf) hj
  have h3 := okS_sum hok
  omega
set_option maxRecDepth 100000 in
set_option maxHeartbeats 4000000 in
/-- The program's Bounds. -/
theorem pbounds12 (k : Int) (V : World) :
    Calls Try.prog 13 #[.int .i64 k] V fun e w' => ∃ r, e = .returned r ∧ w'.ownsRow V.heap.size 3 1 r (bdN k) (intsL (bdN k) (fun j => k - (j : Int))) ∧ Below V.heap.size V w' := by
  go_enter Try.func13, Try.ntmps13
  refine wp_seq ?_
  refine wp_region_sqK 26 [(0, 2)] (fun i_ => match i_ with | 0 => .slice none 0 0 | _ => undef) rfl (by kernel_rfl) (by decide) (by decide) ?_ ?_
  · intro i_ hi_ a hf hv hn
    match i_, hi_ with
    | 0, _ => exact stepV rfl rfl (execAsgB rfl rfl) ⟨⟨_, rfl, rfl⟩, rfl⟩
    | k_ + 1, h_ => exact absurd h_ (by simp)
  intro a h1 h2 h3 h4
  have t0 : a.eval (.tmp 0) = .int .i64 k := (h3 0 (by decide)).trans rfl
  have A : a.tmps.size = 26 ∧ a.defers = [] := ⟨h1, h2⟩
  have BW : Below V.heap.size V V := Below.refl _ _
  clear h1 h2 h3 h4
  have BB := BW
  refine wp_seq ?_
  refine wp_seq ?_
  by_cases ha : k < 1
  · refine wp_region_sq (σ := Unit) 26 [(0, 5), (1, 6), (2, 7), (3, 8), (4, 9), (5, 10)] (fun j_ s X => match j_ with | 0 => Below V.heap.size V X | 1 => Below V.heap.size V X | 2 => Below V.heap.size V X | 3 => Below V.heap.size V X | 4 => Below V.heap.size V X | 5 => Below V.heap.size V X | _ => Below V.heap.size V X) (fun s => fun i_ => match i_ with | 0 => .int .i64 k | 1 => .bool true | 2 => .bool true | 3 => undef | 4 => undef | 5 => .bool true | _ => undef) () A.1 (by kernel_rfl) (by decide) (by decide) (BB) ?_ ?_
    · intro i_ hi_ s a X hf hv hn hS
      match i_, hi_ with
      | 0, _ => exact stepV rfl rfl (execMvB rfl ((hf 0 (by decide)).trans t0)) ⟨s, ⟨_, rfl, rfl⟩, hS, fun _ _ => rfl⟩
      | 1, _ => exact stepV rfl rfl (execLtCt (p := k) (q := 1) rfl (hv 0 (by omega) _ rfl _ rfl) (by omega)) ⟨s, ⟨_, rfl, rfl⟩, hS, fun _ _ => rfl⟩
      | 2, _ => exact stepV rfl rfl (execMvB rfl (hv 1 (by omega) _ rfl _ rfl)) ⟨s, ⟨_, rfl, rfl⟩, hS, fun _ _ => rfl⟩
      | 3, _ => exact stepU rfl (unwantedOf rfl (yieldedAt rfl rfl (show a.eval (.tmp 7) = .bool (!false) from (hv 2 (by omega) _ rfl _ rfl)))) ⟨s, ⟨_, rfl, rfl⟩, hS, fun _ _ => rfl⟩
      | 4, _ => exact stepU rfl (unwantedOf rfl (yieldedAt rfl rfl (show a.eval (.tmp 7) = .bool (!false) from (hv 2 (by omega) _ rfl _ rfl)))) ⟨s, ⟨_, rfl, rfl⟩, hS, fun _ _ => rfl⟩
      | 5, _ => exact stepV rfl rfl (execPickT rfl (hv 2 (by omega) _ rfl _ rfl) rfl) ⟨s, ⟨_, rfl, rfl⟩, hS, fun _ _ => rfl⟩
      | k_ + 6, h_ => exact absurd h_ (by simp)
    rintro _ a X1 h1 h2 h3 h4 hS
    clear BB
    replace hS : Below V.heap.size V X1 := hS
    have BB := hS
    clear hS
    replace t0 := (h3 0 (by decide)).trans t0
    have t10 : a.eval (.tmp 10) = .bool true := h4 5 _ rfl _ rfl
    replace A := (⟨h1, h2.trans A.2⟩ : a.tmps.size = 26 ∧ a.defers = [])
    clear h1 h2 h3 h4
    refine wp_cond_true t10 ?_
    refine wp_seq ?_
    refine wp_region_sq (σ := Unit) 26 [(0, 2)] (fun j_ s X => match j_ with | 0 => Below V.heap.size V X | _ => Below V.heap.size V X) (fun s => fun i_ => match i_ with | 0 => .slice none 0 0 | _ => undef) () A.1 (by kernel_rfl) (by decide) (by decide) (BB) ?_ ?_
    · intro i_ hi_ s a X hf hv hn hS
      match i_, hi_ with
      | 0, _ => exact stepV rfl rfl (execAsgB rfl rfl) ⟨s, ⟨_, rfl, rfl⟩, hS, fun _ _ => rfl⟩
      | k_ + 1, h_ => exact absurd h_ (by simp)
    rintro _ a X2 h1 h2 h3 h4 hS
    clear BB
    replace hS : Below V.heap.size V X2 := hS
    have BB := hS
    clear hS
    have t2 : a.eval (.tmp 2) = .slice none 0 0 := h4 0 _ rfl _ rfl
    replace A := (⟨h1, h2.trans A.2⟩ : a.tmps.size = 26 ∧ a.defers = [])
    clear h1 h2 h3 h4
    clear t0
    have hE : bdN k = 0 := by unfold bdN; split <;> omega
    rw [hE]
    refine wp_ret ?_
    repeat (first | refine ret_in ?_ | refine ret_then ?_)
    refine bodyPost_ret (results_tmp rfl _ _ _) A.2 ⟨_, ?_, World.ownsRow_nil _ _ _ _, BB⟩
    show Ending.returned (a.eval (.tmp 2)) = _
    rw [t2]
  · by_cases hb : 256 < k
    · refine wp_region_sq (σ := Unit) 26 [(0, 5), (1, 6), (2, 7), (3, 8), (4, 9), (5, 10)] (fun j_ s X => match j_ with | 0 => Below V.heap.size V X | 1 => Below V.heap.size V X | 2 => Below V.heap.size V X | 3 => Below V.heap.size V X | 4 => Below V.heap.size V X | 5 => Below V.heap.size V X | _ => Below V.heap.size V X) (fun s => fun i_ => match i_ with | 0 => .int .i64 k | 1 => .bool false | 2 => .bool false | 3 => .int .i64 k | 4 => .bool true | 5 => .bool true | _ => undef) () A.1 (by kernel_rfl) (by decide) (by decide) (BB) ?_ ?_
      · intro i_ hi_ s a X hf hv hn hS
        match i_, hi_ with
        | 0, _ => exact stepV rfl rfl (execMvB rfl ((hf 0 (by decide)).trans t0)) ⟨s, ⟨_, rfl, rfl⟩, hS, fun _ _ => rfl⟩
        | 1, _ => exact stepV rfl rfl (execLtCf (p := k) (q := 1) rfl (hv 0 (by omega) _ rfl _ rfl) (by omega)) ⟨s, ⟨_, rfl, rfl⟩, hS, fun _ _ => rfl⟩
        | 2, _ => exact stepV rfl rfl (execMvB rfl (hv 1 (by omega) _ rfl _ rfl)) ⟨s, ⟨_, rfl, rfl⟩, hS, fun _ _ => rfl⟩
        | 3, _ => exact stepV rfl (wantedOf rfl (yieldedAt rfl rfl (show a.eval (.tmp 7) = .bool false from (hv 2 (by omega) _ rfl _ rfl)))) (execMvB rfl ((hf 0 (by decide)).trans t0)) ⟨s, ⟨_, rfl, rfl⟩, hS, fun _ _ => rfl⟩
        | 4, _ => exact stepV rfl (wantedOf rfl (yieldedAt rfl rfl (show a.eval (.tmp 7) = .bool false from (hv 2 (by omega) _ rfl _ rfl)))) (execGtCt (p := k) (q := 256) rfl (hv 3 (by omega) _ rfl _ rfl) (by omega)) ⟨s, ⟨_, rfl, rfl⟩, hS, fun _ _ => rfl⟩
        | 5, _ => exact stepV rfl rfl (execPickF rfl (hv 2 (by omega) _ rfl _ rfl) (hv 4 (by omega) _ rfl _ rfl)) ⟨s, ⟨_, rfl, rfl⟩, hS, fun _ _ => rfl⟩
        | k_ + 6, h_ => exact absurd h_ (by simp)
      rintro _ a X1 h1 h2 h3 h4 hS
      clear BB
      replace hS : Below V.heap.size V X1 := hS
      have BB := hS
      clear hS
      replace t0 := (h3 0 (by decide)).trans t0
      have t10 : a.eval (.tmp 10) = .bool true := h4 5 _ rfl _ rfl
      replace A := (⟨h1, h2.trans A.2⟩ : a.tmps.size = 26 ∧ a.defers = [])
      clear h1 h2 h3 h4
      refine wp_cond_true t10 ?_
      refine wp_seq ?_
      refine wp_region_sq (σ := Unit) 26 [(0, 2)] (fun j_ s X => match j_ with | 0 => Below V.heap.size V X | _ => Below V.heap.size V X) (fun s => fun i_ => match i_ with | 0 => .slice none 0 0 | _ => undef) () A.1 (by kernel_rfl) (by decide) (by decide) (BB) ?_ ?_
      · intro i_ hi_ s a X hf hv hn hS
        match i_, hi_ with
        | 0, _ => exact stepV rfl rfl (execAsgB rfl rfl) ⟨s, ⟨_, rfl, rfl⟩, hS, fun _ _ => rfl⟩
        | k_ + 1, h_ => exact absurd h_ (by simp)
      rintro _ a X2 h1 h2 h3 h4 hS
      clear BB
      replace hS : Below V.heap.size V X2 := hS
      have BB := hS
      clear hS
      have t2 : a.eval (.tmp 2) = .slice none 0 0 := h4 0 _ rfl _ rfl
      replace A := (⟨h1, h2.trans A.2⟩ : a.tmps.size = 26 ∧ a.defers = [])
      clear h1 h2 h3 h4
      clear t0
      have hE : bdN k = 0 := by unfold bdN; split <;> omega
      rw [hE]
      refine wp_ret ?_
      repeat (first | refine ret_in ?_ | refine ret_then ?_)
      refine bodyPost_ret (results_tmp rfl _ _ _) A.2 ⟨_, ?_, World.ownsRow_nil _ _ _ _, BB⟩
      show Ending.returned (a.eval (.tmp 2)) = _
      rw [t2]
    · refine wp_region_sq (σ := Unit) 26 [(0, 5), (1, 6), (2, 7), (3, 8), (4, 9), (5, 10)] (fun j_ s X => match j_ with | 0 => Below V.heap.size V X | 1 => Below V.heap.size V X | 2 => Below V.heap.size V X | 3 => Below V.heap.size V X | 4 => Below V.heap.size V X | 5 => Below V.heap.size V X | _ => Below V.heap.size V X) (fun s => fun i_ => match i_ with | 0 => .int .i64 k | 1 => .bool false | 2 => .bool false | 3 => .int .i64 k | 4 => .bool false | 5 => .bool false | _ => undef) () A.1 (by kernel_rfl) (by decide) (by decide) (BB) ?_ ?_
      · intro i_ hi_ s a X hf hv hn hS
        match i_, hi_ with
        | 0, _ => exact stepV rfl rfl (execMvB rfl ((hf 0 (by decide)).trans t0)) ⟨s, ⟨_, rfl, rfl⟩, hS, fun _ _ => rfl⟩
        | 1, _ => exact stepV rfl rfl (execLtCf (p := k) (q := 1) rfl (hv 0 (by omega) _ rfl _ rfl) (by omega)) ⟨s, ⟨_, rfl, rfl⟩, hS, fun _ _ => rfl⟩
        | 2, _ => exact stepV rfl rfl (execMvB rfl (hv 1 (by omega) _ rfl _ rfl)) ⟨s, ⟨_, rfl, rfl⟩, hS, fun _ _ => rfl⟩
        | 3, _ => exact stepV rfl (wantedOf rfl (yieldedAt rfl rfl (show a.eval (.tmp 7) = .bool false from (hv 2 (by omega) _ rfl _ rfl)))) (execMvB rfl ((hf 0 (by decide)).trans t0)) ⟨s, ⟨_, rfl, rfl⟩, hS, fun _ _ => rfl⟩
        | 4, _ => exact stepV rfl (wantedOf rfl (yieldedAt rfl rfl (show a.eval (.tmp 7) = .bool false from (hv 2 (by omega) _ rfl _ rfl)))) (execGtCf (p := k) (q := 256) rfl (hv 3 (by omega) _ rfl _ rfl) (by omega)) ⟨s, ⟨_, rfl, rfl⟩, hS, fun _ _ => rfl⟩
        | 5, _ => exact stepV rfl rfl (execPickF rfl (hv 2 (by omega) _ rfl _ rfl) (hv 4 (by omega) _ rfl _ rfl)) ⟨s, ⟨_, rfl, rfl⟩, hS, fun _ _ => rfl⟩
        | k_ + 6, h_ => exact absurd h_ (by simp)
      rintro _ a X1 h1 h2 h3 h4 hS
      clear BB
      replace hS : Below V.heap.size V X1 := hS
      have BB := hS
      clear hS
      replace t0 := (h3 0 (by decide)).trans t0
      have t10 : a.eval (.tmp 10) = .bool false := h4 5 _ rfl _ rfl
      replace A := (⟨h1, h2.trans A.2⟩ : a.tmps.size = 26 ∧ a.defers = [])
      clear h1 h2 h3 h4
      refine wp_cond_false t10 ?_
      refine wp_skip ?_
      clear t10
      have hE : bdN k = k.toNat := if_pos (by omega)
      rw [hE]
      obtain ⟨M, hM⟩ : ∃ M : Nat, k = M := ⟨k.toNat, by omega⟩
      have hM2 : k.toNat = M := by omega
      rw [hM2]
      rw [hM] at t0
      refine wp_seq ?_
      refine wp_region_sq (σ := Nat) 26 [(0, 11), (1, 12), (2, 3)] (fun j_ s X => match j_ with | 0 => Below V.heap.size V X | 1 => Below V.heap.size V X | 2 => Below V.heap.size V X ∧ (X.ownsRow V.heap.size 3 1 (.slice (some ⟨s, 0, none⟩) M M) (M) (intsL (M) (fun j => if j < 0 then k - (j : Int) else 0))) ∧ (V.heap.size ≤ s) | _ => Below V.heap.size V X ∧ (X.ownsRow V.heap.size 3 1 (.slice (some ⟨s, 0, none⟩) M M) (M) (intsL (M) (fun j => if j < 0 then k - (j : Int) else 0))) ∧ (V.heap.size ≤ s)) (fun s => fun i_ => match i_ with | 0 => .int .i64 ((M : Nat) : Int) | 1 => .slice (some ⟨s, 0, none⟩) M M | 2 => .slice (some ⟨s, 0, none⟩) M M | _ => undef) 0 A.1 (by kernel_rfl) (by decide) (by decide) (BB) ?_ ?_
      · intro i_ hi_ s a X hf hv hn hS
        match i_, hi_ with
        | 0, _ => exact stepV rfl rfl (execMvB rfl ((hf 0 (by decide)).trans t0)) ⟨s, ⟨_, rfl, rfl⟩, hS, fun _ _ => rfl⟩
        | 1, _ =>
          refine stepV rfl rfl (execMkN rfl (hv 0 (by omega) _ rfl _ rfl) (hv 0 (by omega) _ rfl _ rfl) (by omega)) ⟨X.heap.size, ⟨_, rfl, rfl⟩, ⟨(hS).trans (((belNew X _)).mono (hS).size), ownD_base (own_mkZ X M _ (by omega) (fun j_ _ => if_neg (Nat.not_lt_zero _))) (hS).size, (hS).size⟩, fun i hi => ?_⟩
          match i, hi with
          | 0, _ => rfl
          | n_ + 1, h_ => omega
        | 2, _ => exact stepV rfl rfl (execAsgB rfl (hv 1 (by omega) _ rfl _ rfl)) ⟨s, ⟨_, rfl, rfl⟩, hS, fun _ _ => rfl⟩
        | k_ + 3, h_ => exact absurd h_ (by simp)
      rintro g3 a X3 h1 h2 h3 h4 hS
      clear BB
      replace hS : Below V.heap.size V X3 ∧ (X3.ownsRow V.heap.size 3 1 (.slice (some ⟨g3, 0, none⟩) M M) (M) (intsL (M) (fun j => if j < 0 then k - (j : Int) else 0))) ∧ (V.heap.size ≤ g3) := hS
      obtain ⟨BB, FO, Fg⟩ := hS
      replace t0 := (h3 0 (by decide)).trans t0
      have t3 : a.eval (.tmp 3) = .slice (some ⟨g3, 0, none⟩) M M := h4 2 _ rfl _ rfl
      replace A := (⟨h1, h2.trans A.2⟩ : a.tmps.size = 26 ∧ a.defers = [])
      clear h1 h2 h3 h4
      refine wp_seq ?_
      refine wp_seq ?_
      refine wp_region_sq (σ := Unit) 26 [(0, 13), (1, 14), (2, 15)] (fun j_ s X => match j_ with | 0 => Below V.heap.size V X ∧ (X.ownsRow V.heap.size 3 1 (.slice (some ⟨g3, 0, none⟩) M M) (M) (intsL (M) (fun j => if j < 0 then k - (j : Int) else 0))) | 1 => Below V.heap.size V X ∧ (X.ownsRow V.heap.size 3 1 (.slice (some ⟨g3, 0, none⟩) M M) (M) (intsL (M) (fun j => if j < 0 then k - (j : Int) else 0))) | 2 => Below V.heap.size V X ∧ (X.ownsRow V.heap.size 3 1 (.slice (some ⟨g3, 0, none⟩) M M) (M) (intsL (M) (fun j => if j < 0 then k - (j : Int) else 0))) | _ => Below V.heap.size V X ∧ (X.ownsRow V.heap.size 3 1 (.slice (some ⟨g3, 0, none⟩) M M) (M) (intsL (M) (fun j => if j < 0 then k - (j : Int) else 0)))) (fun s => fun i_ => match i_ with | 0 => .slice (some ⟨g3, 0, none⟩) M M | 1 => .int .i64 ((M : Nat) : Int) | 2 => .int .i64 ((0 : Nat) : Int) | _ => undef) () A.1 (by kernel_rfl) (by decide) (by decide) ⟨BB, FO⟩ ?_ ?_
      · intro i_ hi_ s a X hf hv hn hS
        match i_, hi_ with
        | 0, _ => exact stepV rfl rfl (execMvB rfl ((hf 3 (by decide)).trans t3)) ⟨s, ⟨_, rfl, rfl⟩, hS, fun _ _ => rfl⟩
        | 1, _ => exact stepV rfl rfl (execLenI (len := M) rfl (hv 0 (by omega) _ rfl _ rfl) ⟨_, _, rfl⟩) ⟨s, ⟨_, rfl, rfl⟩, hS, fun _ _ => rfl⟩
        | 2, _ => exact stepV rfl rfl (execMvB rfl rfl) ⟨s, ⟨_, rfl, rfl⟩, hS, fun _ _ => rfl⟩
        | k_ + 3, h_ => exact absurd h_ (by simp)
      rintro _ a X4 h1 h2 h3 h4 hS
      clear BB
      clear FO
      replace hS : Below V.heap.size V X4 ∧ (X4.ownsRow V.heap.size 3 1 (.slice (some ⟨g3, 0, none⟩) M M) (M) (intsL (M) (fun j => if j < 0 then k - (j : Int) else 0))) := hS
      obtain ⟨BB, FO⟩ := hS
      replace t0 := (h3 0 (by decide)).trans t0
      replace t3 := (h3 3 (by decide)).trans t3
      have t14 : a.eval (.tmp 14) = .int .i64 ((M : Nat) : Int) := h4 1 _ rfl _ rfl
      have t15 : a.eval (.tmp 15) = .int .i64 ((0 : Nat) : Int) := h4 2 _ rfl _ rfl
      replace A := (⟨h1, h2.trans A.2⟩ : a.tmps.size = 26 ∧ a.defers = [])
      clear h1 h2 h3 h4
      refine wp_block ?_
      refine wp_loop (fun a W => ∃ (i : Nat), i ≤ M ∧ (a.tmps.size = 26 ∧ a.defers = []) ∧ a.eval (.tmp 0) = .int .i64 ((M : Nat) : Int) ∧ a.eval (.tmp 3) = .slice (some ⟨g3, 0, none⟩) M M ∧ a.eval (.tmp 14) = .int .i64 ((M : Nat) : Int) ∧ a.eval (.tmp 15) = .int .i64 ((i : Nat) : Int) ∧ Below V.heap.size V W ∧ (W.ownsRow V.heap.size 3 1 (.slice (some ⟨g3, 0, none⟩) M M) (M) (intsL (M) (fun j => if j < i then k - (j : Int) else 0)))) (fun a _ => M - (intOf (a.eval (.tmp 15))).toNat) ⟨0, Nat.zero_le _, A, t0, t3, t14, t15, BB, FO⟩ ?_
      clear A t0 t3 t14 t15 BB FO a
      rintro a XL5 ⟨i, hi, A, t0, t3, t14, t15, BB, FO⟩
      have esi := t15
      refine wp_seq ?_
      refine wp_region_sq (σ := Unit) 26 [(0, 16)] (fun j_ s X => match j_ with | 0 => Below V.heap.size V X ∧ (X.ownsRow V.heap.size 3 1 (.slice (some ⟨g3, 0, none⟩) M M) (M) (intsL (M) (fun j => if j < i then k - (j : Int) else 0))) | _ => Below V.heap.size V X ∧ (X.ownsRow V.heap.size 3 1 (.slice (some ⟨g3, 0, none⟩) M M) (M) (intsL (M) (fun j => if j < i then k - (j : Int) else 0)))) (fun s => fun i_ => match i_ with | 0 => .bool (decide (i < M)) | _ => undef) () A.1 (by kernel_rfl) (by decide) (by decide) ⟨BB, FO⟩ ?_ ?_
      · intro i_ hi_ s a X hf hv hn hS
        match i_, hi_ with
        | 0, _ => exact stepV rfl rfl (execLtW (p := i) (q := M) rfl ((hf 15 (by decide)).trans t15) ((hf 14 (by decide)).trans t14)) ⟨s, ⟨_, rfl, rfl⟩, hS, fun _ _ => rfl⟩
        | k_ + 1, h_ => exact absurd h_ (by simp)
      rintro _ a X5 h1 h2 h3 h4 hS
      clear BB
      clear FO
      replace hS : Below V.heap.size V X5 ∧ (X5.ownsRow V.heap.size 3 1 (.slice (some ⟨g3, 0, none⟩) M M) (M) (intsL (M) (fun j => if j < i then k - (j : Int) else 0))) := hS
      obtain ⟨BB, FO⟩ := hS
      replace t0 := (h3 0 (by decide)).trans t0
      replace t3 := (h3 3 (by decide)).trans t3
      replace t14 := (h3 14 (by decide)).trans t14
      replace t15 := (h3 15 (by decide)).trans t15
      have t16 : a.eval (.tmp 16) = .bool (decide (i < M)) := h4 0 _ rfl _ rfl
      replace A := (⟨h1, h2.trans A.2⟩ : a.tmps.size = 26 ∧ a.defers = [])
      clear h1 h2 h3 h4
      refine wp_seq ?_
      by_cases lti : i < M
      · rw [decide_eq_true lti] at t16
        refine wp_cond_true t16 ?_
        refine wp_skip ?_
        clear t16
        refine wp_seq ?_
        refine wp_block ?_
        refine wp_seq ?_
        refine wp_region_sq (σ := Unit) 26 [(0, 17), (1, 4)] (fun j_ s X => match j_ with | 0 => Below V.heap.size V X ∧ (X.ownsRow V.heap.size 3 1 (.slice (some ⟨g3, 0, none⟩) M M) (M) (intsL (M) (fun j => if j < i then k - (j : Int) else 0))) | 1 => Below V.heap.size V X ∧ (X.ownsRow V.heap.size 3 1 (.slice (some ⟨g3, 0, none⟩) M M) (M) (intsL (M) (fun j => if j < i then k - (j : Int) else 0))) | _ => Below V.heap.size V X ∧ (X.ownsRow V.heap.size 3 1 (.slice (some ⟨g3, 0, none⟩) M M) (M) (intsL (M) (fun j => if j < i then k - (j : Int) else 0)))) (fun s => fun i_ => match i_ with | 0 => .int .i64 ((i : Nat) : Int) | 1 => .int .i64 ((i : Nat) : Int) | _ => undef) () A.1 (by kernel_rfl) (by decide) (by decide) ⟨BB, FO⟩ ?_ ?_
        · intro i_ hi_ s a X hf hv hn hS
          match i_, hi_ with
          | 0, _ => exact stepV rfl rfl (execMvB rfl ((hf 15 (by decide)).trans t15)) ⟨s, ⟨_, rfl, rfl⟩, hS, fun _ _ => rfl⟩
          | 1, _ => exact stepV rfl rfl (execAsgB rfl (hv 0 (by omega) _ rfl _ rfl)) ⟨s, ⟨_, rfl, rfl⟩, hS, fun _ _ => rfl⟩
          | k_ + 2, h_ => exact absurd h_ (by simp)
        rintro _ a X6 h1 h2 h3 h4 hS
        clear BB
        clear FO
        replace hS : Below V.heap.size V X6 ∧ (X6.ownsRow V.heap.size 3 1 (.slice (some ⟨g3, 0, none⟩) M M) (M) (intsL (M) (fun j => if j < i then k - (j : Int) else 0))) := hS
        obtain ⟨BB, FO⟩ := hS
        replace t0 := (h3 0 (by decide)).trans t0
        replace t3 := (h3 3 (by decide)).trans t3
        replace t14 := (h3 14 (by decide)).trans t14
        replace t15 := (h3 15 (by decide)).trans t15
        have t4 : a.eval (.tmp 4) = .int .i64 ((i : Nat) : Int) := h4 1 _ rfl _ rfl
        replace A := (⟨h1, h2.trans A.2⟩ : a.tmps.size = 26 ∧ a.defers = [])
        clear h1 h2 h3 h4
        refine wp_region_sq (σ := Unit) 26 [(0, 18), (1, 19), (2, 20), (3, 21), (4, 22), (5, 23)] (fun j_ s X => match j_ with | 0 => Below V.heap.size V X ∧ (X.ownsRow V.heap.size 3 1 (.slice (some ⟨g3, 0, none⟩) M M) (M) (intsL (M) (fun j => if j < i then k - (j : Int) else 0))) | 1 => Below V.heap.size V X ∧ (X.ownsRow V.heap.size 3 1 (.slice (some ⟨g3, 0, none⟩) M M) (M) (intsL (M) (fun j => if j < i then k - (j : Int) else 0))) | 2 => Below V.heap.size V X ∧ (X.ownsRow V.heap.size 3 1 (.slice (some ⟨g3, 0, none⟩) M M) (M) (intsL (M) (fun j => if j < i then k - (j : Int) else 0))) | 3 => Below V.heap.size V X ∧ (X.ownsRow V.heap.size 3 1 (.slice (some ⟨g3, 0, none⟩) M M) (M) (intsL (M) (fun j => if j < i then k - (j : Int) else 0))) | 4 => Below V.heap.size V X ∧ (X.ownsRow V.heap.size 3 1 (.slice (some ⟨g3, 0, none⟩) M M) (M) (intsL (M) (fun j => if j < i then k - (j : Int) else 0))) | 5 => Below V.heap.size V X ∧ (X.ownsRow V.heap.size 3 1 (.slice (some ⟨g3, 0, none⟩) M M) (M) (intsL (M) (fun j => if j < i then k - (j : Int) else 0))) | 6 => Below V.heap.size V X ∧ (X.ownsRow V.heap.size 3 1 (.slice (some ⟨g3, 0, none⟩) M M) (M) (intsL (M) (fun j => if j < i then k - (j : Int) else 0))) | _ => Below V.heap.size V X ∧ (X.ownsRow V.heap.size 3 1 (.slice (some ⟨g3, 0, none⟩) M M) (M) (intsL (M) (fun j => if j < (i + 1) then k - (j : Int) else 0)))) (fun s => fun i_ => match i_ with | 0 => .slice (some ⟨g3, 0, none⟩) M M | 1 => .int .i64 ((i : Nat) : Int) | 2 => .int .i64 ((M : Nat) : Int) | 3 => .int .i64 ((i : Nat) : Int) | 4 => .int .i64 (k - (i : Int)) | 5 => .pointer (some ⟨g3, 0 + i, none⟩) | 6 => undef | _ => undef) () A.1 (by kernel_rfl) (by decide) (by decide) ⟨BB, FO⟩ ?_ ?_
        · intro i_ hi_ s a X hf hv hn hS
          match i_, hi_ with
          | 0, _ => exact stepV rfl rfl (execMvB rfl ((hf 3 (by decide)).trans t3)) ⟨s, ⟨_, rfl, rfl⟩, hS, fun _ _ => rfl⟩
          | 1, _ => exact stepV rfl rfl (execMvB rfl ((hf 4 (by decide)).trans t4)) ⟨s, ⟨_, rfl, rfl⟩, hS, fun _ _ => rfl⟩
          | 2, _ => exact stepV rfl rfl (execMvB rfl ((hf 0 (by decide)).trans t0)) ⟨s, ⟨_, rfl, rfl⟩, hS, fun _ _ => rfl⟩
          | 3, _ => exact stepV rfl rfl (execMvB rfl ((hf 4 (by decide)).trans t4)) ⟨s, ⟨_, rfl, rfl⟩, hS, fun _ _ => rfl⟩
          | 4, _ => exact stepV rfl rfl (execSubIg (z := k - (i : Int)) rfl (hv 2 (by omega) _ rfl _ rfl) (hv 3 (by omega) _ rfl _ rfl) (by omega) (by omega) (by omega)) ⟨s, ⟨_, rfl, rfl⟩, hS, fun _ _ => rfl⟩
          | 5, _ => exact stepV rfl rfl (execIdxN (k := i) rfl (hv 0 (by omega) _ rfl _ rfl) (hv 1 (by omega) _ rfl _ rfl) lti) ⟨s, ⟨_, rfl, rfl⟩, hS, fun _ _ => rfl⟩
          | 6, _ =>
            obtain ⟨hc_, hf_⟩ := own_cellI hS.2 lti
            refine stepS rfl rfl (execStI9 rfl (hv 5 (by omega) _ rfl _ rfl) (hv 4 (by omega) _ rfl _ rfl) hc_ hf_) ⟨s, ⟨_, rfl, rfl⟩, ⟨(hS.1).setCell Fg _, own_fill hS.2 rfl⟩, fun i hi => ?_⟩
            match i, hi with
            | 0, _ => rfl
            | 1, _ => rfl
            | 2, _ => rfl
            | 3, _ => rfl
            | 4, _ => rfl
            | 5, _ => rfl
            | n_ + 6, h_ => omega
          | k_ + 7, h_ => exact absurd h_ (by simp)
        rintro _ a X7 h1 h2 h3 h4 hS
        clear BB
        clear FO
        replace hS : Below V.heap.size V X7 ∧ (X7.ownsRow V.heap.size 3 1 (.slice (some ⟨g3, 0, none⟩) M M) (M) (intsL (M) (fun j => if j < (i + 1) then k - (j : Int) else 0))) := hS
        obtain ⟨BB, FO2⟩ := hS
        replace t0 := (h3 0 (by decide)).trans t0
        replace t3 := (h3 3 (by decide)).trans t3
        replace t14 := (h3 14 (by decide)).trans t14
        replace t15 := (h3 15 (by decide)).trans t15
        replace A := (⟨h1, h2.trans A.2⟩ : a.tmps.size = 26 ∧ a.defers = [])
        clear h1 h2 h3 h4
        clear t4
        refine wp_region_sq (σ := Unit) 26 [(0, 24), (1, 15)] (fun j_ s X => match j_ with | 0 => Below V.heap.size V X ∧ (X.ownsRow V.heap.size 3 1 (.slice (some ⟨g3, 0, none⟩) M M) (M) (intsL (M) (fun j => if j < (i + 1) then k - (j : Int) else 0))) | 1 => Below V.heap.size V X ∧ (X.ownsRow V.heap.size 3 1 (.slice (some ⟨g3, 0, none⟩) M M) (M) (intsL (M) (fun j => if j < (i + 1) then k - (j : Int) else 0))) | _ => Below V.heap.size V X ∧ (X.ownsRow V.heap.size 3 1 (.slice (some ⟨g3, 0, none⟩) M M) (M) (intsL (M) (fun j => if j < (i + 1) then k - (j : Int) else 0)))) (fun s => fun i_ => match i_ with | 0 => .int .i64 ((i + 1 : Nat) : Int) | 1 => .int .i64 ((i + 1 : Nat) : Int) | _ => undef) () A.1 (by kernel_rfl) (by decide) (by decide) ⟨BB, FO2⟩ ?_ ?_
        · intro i_ hi_ s a X hf hv hn hS
          match i_, hi_ with
          | 0, _ => exact stepV rfl rfl (execAd8 (p := i) (q := 1) rfl ((hn 1 (by omega) _ rfl _ rfl).trans t15) rfl (by omega)) ⟨s, ⟨_, rfl, rfl⟩, hS, fun _ _ => rfl⟩
          | 1, _ => exact stepV rfl rfl (execMvB rfl (hv 0 (by omega) _ rfl _ rfl)) ⟨s, ⟨_, rfl, rfl⟩, hS, fun _ _ => rfl⟩
          | k_ + 2, h_ => exact absurd h_ (by simp)
        rintro _ a X8 h1 h2 h3 h4 hS
        clear BB
        clear FO2
        replace hS : Below V.heap.size V X8 ∧ (X8.ownsRow V.heap.size 3 1 (.slice (some ⟨g3, 0, none⟩) M M) (M) (intsL (M) (fun j => if j < (i + 1) then k - (j : Int) else 0))) := hS
        obtain ⟨BB, FO2⟩ := hS
        replace t0 := (h3 0 (by decide)).trans t0
        replace t3 := (h3 3 (by decide)).trans t3
        replace t14 := (h3 14 (by decide)).trans t14
        replace t15 : a.eval (.tmp 15) = .int .i64 ((i + 1 : Nat) : Int) := h4 1 _ rfl _ rfl
        replace A := (⟨h1, h2.trans A.2⟩ : a.tmps.size = 26 ∧ a.defers = [])
        clear h1 h2 h3 h4
        exact ⟨⟨i + 1, lti, A, t0, t3, t14, t15, BB, FO2⟩, by show M - (intOf (a.eval (.tmp 15))).toNat < M - (intOf (Act.eval _ (.tmp 15))).toNat; rw [t15, esi]; show M - (i + 1) < M - i; omega⟩
      · rw [decide_eq_false lti] at t16
        refine wp_cond_false t16 ?_
        refine wp_exit ?_
        first | refine exit_in ?_ | refine exit_then (exit_in ?_) | refine exit_then (exit_then (exit_in ?_))
        clear t16 esi
        obtain rfl : i = M := by omega
        rw [intsL_congr (g := fun j => k - (j : Int)) (fun j hj => if_pos hj)] at FO
        clear t0 t14 t15
        refine wp_seq ?_
        refine wp_region_sq (σ := Unit) 26 [(0, 25), (1, 2)] (fun j_ s X => match j_ with | 0 => Below V.heap.size V X ∧ (X.ownsRow V.heap.size 3 1 (.slice (some ⟨g3, 0, none⟩) i i) (i) (intsL (i) (fun j => k - (j : Int)))) | 1 => Below V.heap.size V X ∧ (X.ownsRow V.heap.size 3 1 (.slice (some ⟨g3, 0, none⟩) i i) (i) (intsL (i) (fun j => k - (j : Int)))) | _ => Below V.heap.size V X ∧ (X.ownsRow V.heap.size 3 1 (.slice (some ⟨g3, 0, none⟩) i i) (i) (intsL (i) (fun j => k - (j : Int))))) (fun s => fun i_ => match i_ with | 0 => .slice (some ⟨g3, 0, none⟩) i i | 1 => .slice (some ⟨g3, 0, none⟩) i i | _ => undef) () A.1 (by kernel_rfl) (by decide) (by decide) ⟨BB, FO⟩ ?_ ?_
        · intro i_ hi_ s a X hf hv hn hS
          match i_, hi_ with
          | 0, _ => exact stepV rfl rfl (execMvB rfl ((hf 3 (by decide)).trans t3)) ⟨s, ⟨_, rfl, rfl⟩, hS, fun _ _ => rfl⟩
          | 1, _ => exact stepV rfl rfl (execAsgB rfl (hv 0 (by omega) _ rfl _ rfl)) ⟨s, ⟨_, rfl, rfl⟩, hS, fun _ _ => rfl⟩
          | k_ + 2, h_ => exact absurd h_ (by simp)
        rintro _ a X9 h1 h2 h3 h4 hS
        clear BB
        clear FO
        replace hS : Below V.heap.size V X9 ∧ (X9.ownsRow V.heap.size 3 1 (.slice (some ⟨g3, 0, none⟩) i i) (i) (intsL (i) (fun j => k - (j : Int)))) := hS
        obtain ⟨BB, FO⟩ := hS
        have t2 : a.eval (.tmp 2) = .slice (some ⟨g3, 0, none⟩) i i := h4 1 _ rfl _ rfl
        replace A := (⟨h1, h2.trans A.2⟩ : a.tmps.size = 26 ∧ a.defers = [])
        clear h1 h2 h3 h4
        clear t3
        refine wp_ret ?_
        refine bodyPost_ret (results_tmp rfl _ _ _) A.2 ⟨_, ?_, FO, BB⟩
        show Ending.returned (a.eval (.tmp 2)) = _
        rw [t2]
set_option maxRecDepth 100000 in
set_option maxHeartbeats 4000000 in
/-- The program's Sizes. -/
theorem psizes (k c : Int) (V : World) :
    Calls Try.prog 12 #[.int .i64 k, .int .i64 c] V fun e w' => ∃ r, e = .returned (.tuple #[r, .int .i64 ((szE k c : Nat) : Int)]) ∧ w'.ownsRow V.heap.size 3 1 r (zl (szE k c) c.toNat) (intsL (zl (szE k c) c.toNat) (fun j => (szF k.toNat c.toNat j : Int))) ∧ Below V.heap.size V w' := by
  go_enter Try.func12, Try.ntmps12
  refine wp_seq ?_
  refine wp_region_sqK 48 [(0, 4), (1, 5)] (fun i_ => match i_ with | 0 => .slice none 0 0 | 1 => .int .i64 ((0 : Nat) : Int) | _ => undef) rfl (by kernel_rfl) (by decide) (by decide) ?_ ?_
  · intro i_ hi_ a hf hv hn
    match i_, hi_ with
    | 0, _ => exact stepV rfl rfl (execAsgB rfl rfl) ⟨⟨_, rfl, rfl⟩, rfl⟩
    | 1, _ => exact stepV rfl rfl (execAsgB rfl rfl) ⟨⟨_, rfl, rfl⟩, rfl⟩
    | k_ + 2, h_ => exact absurd h_ (by simp)
  intro a h1 h2 h3 h4
  have t0 : a.eval (.tmp 0) = .int .i64 k := (h3 0 (by decide)).trans rfl
  have t1 : a.eval (.tmp 1) = .int .i64 c := (h3 1 (by decide)).trans rfl
  have A : a.tmps.size = 48 ∧ a.defers = [] := ⟨h1, h2⟩
  have BW : Below V.heap.size V V := Below.refl _ _
  clear h1 h2 h3 h4
  have BB := BW
  refine wp_seq ?_
  refine wp_seq ?_
  by_cases ha : k < 0
  · refine wp_region_sq (σ := Unit) 48 [(0, 8), (1, 9), (2, 10), (3, 11), (4, 12), (5, 13), (6, 14), (7, 15), (8, 16), (9, 17), (10, 18), (11, 19), (12, 20), (13, 21)] (fun j_ s X => match j_ with | 0 => Below V.heap.size V X | 1 => Below V.heap.size V X | 2 => Below V.heap.size V X | 3 => Below V.heap.size V X | 4 => Below V.heap.size V X | 5 => Below V.heap.size V X | 6 => Below V.heap.size V X | 7 => Below V.heap.size V X | 8 => Below V.heap.size V X | 9 => Below V.heap.size V X | 10 => Below V.heap.size V X | 11 => Below V.heap.size V X | 12 => Below V.heap.size V X | 13 => Below V.heap.size V X | _ => Below V.heap.size V X) (fun s => fun i_ => match i_ with | 0 => .int .i64 k | 1 => .bool true | 2 => .bool true | 3 => undef | 4 => undef | 5 => .bool true | 6 => .bool true | 7 => undef | 8 => undef | 9 => .bool true | 10 => .bool true | 11 => undef | 12 => undef | 13 => .bool true | _ => undef) () A.1 (by kernel_rfl) (by decide) (by decide) (BB) ?_ ?_
    · intro i_ hi_ s a X hf hv hn hS
      match i_, hi_ with
      | 0, _ => exact stepV rfl rfl (execMvB rfl ((hf 0 (by decide)).trans t0)) ⟨s, ⟨_, rfl, rfl⟩, hS, fun _ _ => rfl⟩
      | 1, _ => exact stepV rfl rfl (execLtCt (p := k) (q := 0) rfl (hv 0 (by omega) _ rfl _ rfl) (by omega)) ⟨s, ⟨_, rfl, rfl⟩, hS, fun _ _ => rfl⟩
      | 2, _ => exact stepV rfl rfl (execMvB rfl (hv 1 (by omega) _ rfl _ rfl)) ⟨s, ⟨_, rfl, rfl⟩, hS, fun _ _ => rfl⟩
      | 3, _ => exact stepU rfl (unwantedOf rfl (yieldedAt rfl rfl (show a.eval (.tmp 10) = .bool (!false) from (hv 2 (by omega) _ rfl _ rfl)))) ⟨s, ⟨_, rfl, rfl⟩, hS, fun _ _ => rfl⟩
      | 4, _ => exact stepU rfl (unwantedOf rfl (yieldedAt rfl rfl (show a.eval (.tmp 10) = .bool (!false) from (hv 2 (by omega) _ rfl _ rfl)))) ⟨s, ⟨_, rfl, rfl⟩, hS, fun _ _ => rfl⟩
      | 5, _ => exact stepV rfl rfl (execPickT rfl (hv 2 (by omega) _ rfl _ rfl) rfl) ⟨s, ⟨_, rfl, rfl⟩, hS, fun _ _ => rfl⟩
      | 6, _ => exact stepV rfl rfl (execMvB rfl (hv 5 (by omega) _ rfl _ rfl)) ⟨s, ⟨_, rfl, rfl⟩, hS, fun _ _ => rfl⟩
      | 7, _ => exact stepU rfl (unwantedOf rfl (yieldedAt rfl rfl (show a.eval (.tmp 14) = .bool (!false) from (hv 6 (by omega) _ rfl _ rfl)))) ⟨s, ⟨_, rfl, rfl⟩, hS, fun _ _ => rfl⟩
      | 8, _ => exact stepU rfl (unwantedOf rfl (yieldedAt rfl rfl (show a.eval (.tmp 14) = .bool (!false) from (hv 6 (by omega) _ rfl _ rfl)))) ⟨s, ⟨_, rfl, rfl⟩, hS, fun _ _ => rfl⟩
      | 9, _ => exact stepV rfl rfl (execPickT rfl (hv 6 (by omega) _ rfl _ rfl) rfl) ⟨s, ⟨_, rfl, rfl⟩, hS, fun _ _ => rfl⟩
      | 10, _ => exact stepV rfl rfl (execMvB rfl (hv 9 (by omega) _ rfl _ rfl)) ⟨s, ⟨_, rfl, rfl⟩, hS, fun _ _ => rfl⟩
      | 11, _ => exact stepU rfl (unwantedOf rfl (yieldedAt rfl rfl (show a.eval (.tmp 18) = .bool (!false) from (hv 10 (by omega) _ rfl _ rfl)))) ⟨s, ⟨_, rfl, rfl⟩, hS, fun _ _ => rfl⟩
      | 12, _ => exact stepU rfl (unwantedOf rfl (yieldedAt rfl rfl (show a.eval (.tmp 18) = .bool (!false) from (hv 10 (by omega) _ rfl _ rfl)))) ⟨s, ⟨_, rfl, rfl⟩, hS, fun _ _ => rfl⟩
      | 13, _ => exact stepV rfl rfl (execPickT rfl (hv 10 (by omega) _ rfl _ rfl) rfl) ⟨s, ⟨_, rfl, rfl⟩, hS, fun _ _ => rfl⟩
      | k_ + 14, h_ => exact absurd h_ (by simp)
    rintro _ a X1 h1 h2 h3 h4 hS
    clear BB
    replace hS : Below V.heap.size V X1 := hS
    have BB := hS
    clear hS
    replace t0 := (h3 0 (by decide)).trans t0
    replace t1 := (h3 1 (by decide)).trans t1
    have t21 : a.eval (.tmp 21) = .bool true := h4 13 _ rfl _ rfl
    replace A := (⟨h1, h2.trans A.2⟩ : a.tmps.size = 48 ∧ a.defers = [])
    clear h1 h2 h3 h4
    refine wp_cond_true t21 ?_
    refine wp_seq ?_
    refine wp_region_sq (σ := Unit) 48 [(0, 4), (1, 5)] (fun j_ s X => match j_ with | 0 => Below V.heap.size V X | 1 => Below V.heap.size V X | _ => Below V.heap.size V X) (fun s => fun i_ => match i_ with | 0 => .slice none 0 0 | 1 => .int .i64 ((2 : Nat) : Int) | _ => undef) () A.1 (by kernel_rfl) (by decide) (by decide) (BB) ?_ ?_
    · intro i_ hi_ s a X hf hv hn hS
      match i_, hi_ with
      | 0, _ => exact stepV rfl rfl (execAsgB rfl rfl) ⟨s, ⟨_, rfl, rfl⟩, hS, fun _ _ => rfl⟩
      | 1, _ => exact stepV rfl rfl (execAsgB rfl rfl) ⟨s, ⟨_, rfl, rfl⟩, hS, fun _ _ => rfl⟩
      | k_ + 2, h_ => exact absurd h_ (by simp)
    rintro _ a X2 h1 h2 h3 h4 hS
    clear BB
    replace hS : Below V.heap.size V X2 := hS
    have BB := hS
    clear hS
    have t4 : a.eval (.tmp 4) = .slice none 0 0 := h4 0 _ rfl _ rfl
    have t5 : a.eval (.tmp 5) = .int .i64 ((2 : Nat) : Int) := h4 1 _ rfl _ rfl
    replace A := (⟨h1, h2.trans A.2⟩ : a.tmps.size = 48 ∧ a.defers = [])
    clear h1 h2 h3 h4
    clear t0 t1
    have hE : szE k c = 2 := if_neg (fun q => by omega)
    rw [hE, zl_no (by decide)]
    refine wp_ret ?_
    repeat (first | refine ret_in ?_ | refine ret_then ?_)
    refine bodyPost_ret (results_tmp2 rfl _ _ _) A.2 ⟨_, ?_, World.ownsRow_nil _ _ _ _, BB⟩
    show Ending.returned (.tuple #[a.eval (.tmp 4), a.eval (.tmp 5)]) = _
    rw [t4, t5]
  · by_cases hb : 256 < k
    · refine wp_region_sq (σ := Unit) 48 [(0, 8), (1, 9), (2, 10), (3, 11), (4, 12), (5, 13), (6, 14), (7, 15), (8, 16), (9, 17), (10, 18), (11, 19), (12, 20), (13, 21)] (fun j_ s X => match j_ with | 0 => Below V.heap.size V X | 1 => Below V.heap.size V X | 2 => Below V.heap.size V X | 3 => Below V.heap.size V X | 4 => Below V.heap.size V X | 5 => Below V.heap.size V X | 6 => Below V.heap.size V X | 7 => Below V.heap.size V X | 8 => Below V.heap.size V X | 9 => Below V.heap.size V X | 10 => Below V.heap.size V X | 11 => Below V.heap.size V X | 12 => Below V.heap.size V X | 13 => Below V.heap.size V X | _ => Below V.heap.size V X) (fun s => fun i_ => match i_ with | 0 => .int .i64 k | 1 => .bool false | 2 => .bool false | 3 => .int .i64 k | 4 => .bool true | 5 => .bool true | 6 => .bool true | 7 => undef | 8 => undef | 9 => .bool true | 10 => .bool true | 11 => undef | 12 => undef | 13 => .bool true | _ => undef) () A.1 (by kernel_rfl) (by decide) (by decide) (BB) ?_ ?_
      · intro i_ hi_ s a X hf hv hn hS
        match i_, hi_ with
        | 0, _ => exact stepV rfl rfl (execMvB rfl ((hf 0 (by decide)).trans t0)) ⟨s, ⟨_, rfl, rfl⟩, hS, fun _ _ => rfl⟩
        | 1, _ => exact stepV rfl rfl (execLtCf (p := k) (q := 0) rfl (hv 0 (by omega) _ rfl _ rfl) (by omega)) ⟨s, ⟨_, rfl, rfl⟩, hS, fun _ _ => rfl⟩
        | 2, _ => exact stepV rfl rfl (execMvB rfl (hv 1 (by omega) _ rfl _ rfl)) ⟨s, ⟨_, rfl, rfl⟩, hS, fun _ _ => rfl⟩
        | 3, _ => exact stepV rfl (wantedOf rfl (yieldedAt rfl rfl (show a.eval (.tmp 10) = .bool false from (hv 2 (by omega) _ rfl _ rfl)))) (execMvB rfl ((hf 0 (by decide)).trans t0)) ⟨s, ⟨_, rfl, rfl⟩, hS, fun _ _ => rfl⟩
        | 4, _ => exact stepV rfl (wantedOf rfl (yieldedAt rfl rfl (show a.eval (.tmp 10) = .bool false from (hv 2 (by omega) _ rfl _ rfl)))) (execGtCt (p := k) (q := 256) rfl (hv 3 (by omega) _ rfl _ rfl) (by omega)) ⟨s, ⟨_, rfl, rfl⟩, hS, fun _ _ => rfl⟩
        | 5, _ => exact stepV rfl rfl (execPickF rfl (hv 2 (by omega) _ rfl _ rfl) (hv 4 (by omega) _ rfl _ rfl)) ⟨s, ⟨_, rfl, rfl⟩, hS, fun _ _ => rfl⟩
        | 6, _ => exact stepV rfl rfl (execMvB rfl (hv 5 (by omega) _ rfl _ rfl)) ⟨s, ⟨_, rfl, rfl⟩, hS, fun _ _ => rfl⟩
        | 7, _ => exact stepU rfl (unwantedOf rfl (yieldedAt rfl rfl (show a.eval (.tmp 14) = .bool (!false) from (hv 6 (by omega) _ rfl _ rfl)))) ⟨s, ⟨_, rfl, rfl⟩, hS, fun _ _ => rfl⟩
        | 8, _ => exact stepU rfl (unwantedOf rfl (yieldedAt rfl rfl (show a.eval (.tmp 14) = .bool (!false) from (hv 6 (by omega) _ rfl _ rfl)))) ⟨s, ⟨_, rfl, rfl⟩, hS, fun _ _ => rfl⟩
        | 9, _ => exact stepV rfl rfl (execPickT rfl (hv 6 (by omega) _ rfl _ rfl) rfl) ⟨s, ⟨_, rfl, rfl⟩, hS, fun _ _ => rfl⟩
        | 10, _ => exact stepV rfl rfl (execMvB rfl (hv 9 (by omega) _ rfl _ rfl)) ⟨s, ⟨_, rfl, rfl⟩, hS, fun _ _ => rfl⟩
        | 11, _ => exact stepU rfl (unwantedOf rfl (yieldedAt rfl rfl (show a.eval (.tmp 18) = .bool (!false) from (hv 10 (by omega) _ rfl _ rfl)))) ⟨s, ⟨_, rfl, rfl⟩, hS, fun _ _ => rfl⟩
        | 12, _ => exact stepU rfl (unwantedOf rfl (yieldedAt rfl rfl (show a.eval (.tmp 18) = .bool (!false) from (hv 10 (by omega) _ rfl _ rfl)))) ⟨s, ⟨_, rfl, rfl⟩, hS, fun _ _ => rfl⟩
        | 13, _ => exact stepV rfl rfl (execPickT rfl (hv 10 (by omega) _ rfl _ rfl) rfl) ⟨s, ⟨_, rfl, rfl⟩, hS, fun _ _ => rfl⟩
        | k_ + 14, h_ => exact absurd h_ (by simp)
      rintro _ a X1 h1 h2 h3 h4 hS
      clear BB
      replace hS : Below V.heap.size V X1 := hS
      have BB := hS
      clear hS
      replace t0 := (h3 0 (by decide)).trans t0
      replace t1 := (h3 1 (by decide)).trans t1
      have t21 : a.eval (.tmp 21) = .bool true := h4 13 _ rfl _ rfl
      replace A := (⟨h1, h2.trans A.2⟩ : a.tmps.size = 48 ∧ a.defers = [])
      clear h1 h2 h3 h4
      refine wp_cond_true t21 ?_
      refine wp_seq ?_
      refine wp_region_sq (σ := Unit) 48 [(0, 4), (1, 5)] (fun j_ s X => match j_ with | 0 => Below V.heap.size V X | 1 => Below V.heap.size V X | _ => Below V.heap.size V X) (fun s => fun i_ => match i_ with | 0 => .slice none 0 0 | 1 => .int .i64 ((2 : Nat) : Int) | _ => undef) () A.1 (by kernel_rfl) (by decide) (by decide) (BB) ?_ ?_
      · intro i_ hi_ s a X hf hv hn hS
        match i_, hi_ with
        | 0, _ => exact stepV rfl rfl (execAsgB rfl rfl) ⟨s, ⟨_, rfl, rfl⟩, hS, fun _ _ => rfl⟩
        | 1, _ => exact stepV rfl rfl (execAsgB rfl rfl) ⟨s, ⟨_, rfl, rfl⟩, hS, fun _ _ => rfl⟩
        | k_ + 2, h_ => exact absurd h_ (by simp)
      rintro _ a X2 h1 h2 h3 h4 hS
      clear BB
      replace hS : Below V.heap.size V X2 := hS
      have BB := hS
      clear hS
      have t4 : a.eval (.tmp 4) = .slice none 0 0 := h4 0 _ rfl _ rfl
      have t5 : a.eval (.tmp 5) = .int .i64 ((2 : Nat) : Int) := h4 1 _ rfl _ rfl
      replace A := (⟨h1, h2.trans A.2⟩ : a.tmps.size = 48 ∧ a.defers = [])
      clear h1 h2 h3 h4
      clear t0 t1
      have hE : szE k c = 2 := if_neg (fun q => by omega)
      rw [hE, zl_no (by decide)]
      refine wp_ret ?_
      repeat (first | refine ret_in ?_ | refine ret_then ?_)
      refine bodyPost_ret (results_tmp2 rfl _ _ _) A.2 ⟨_, ?_, World.ownsRow_nil _ _ _ _, BB⟩
      show Ending.returned (.tuple #[a.eval (.tmp 4), a.eval (.tmp 5)]) = _
      rw [t4, t5]
    · by_cases hc : c < 1
      · refine wp_region_sq (σ := Unit) 48 [(0, 8), (1, 9), (2, 10), (3, 11), (4, 12), (5, 13), (6, 14), (7, 15), (8, 16), (9, 17), (10, 18), (11, 19), (12, 20), (13, 21)] (fun j_ s X => match j_ with | 0 => Below V.heap.size V X | 1 => Below V.heap.size V X | 2 => Below V.heap.size V X | 3 => Below V.heap.size V X | 4 => Below V.heap.size V X | 5 => Below V.heap.size V X | 6 => Below V.heap.size V X | 7 => Below V.heap.size V X | 8 => Below V.heap.size V X | 9 => Below V.heap.size V X | 10 => Below V.heap.size V X | 11 => Below V.heap.size V X | 12 => Below V.heap.size V X | 13 => Below V.heap.size V X | _ => Below V.heap.size V X) (fun s => fun i_ => match i_ with | 0 => .int .i64 k | 1 => .bool false | 2 => .bool false | 3 => .int .i64 k | 4 => .bool false | 5 => .bool false | 6 => .bool false | 7 => .int .i64 c | 8 => .bool true | 9 => .bool true | 10 => .bool true | 11 => undef | 12 => undef | 13 => .bool true | _ => undef) () A.1 (by kernel_rfl) (by decide) (by decide) (BB) ?_ ?_
        · intro i_ hi_ s a X hf hv hn hS
          match i_, hi_ with
          | 0, _ => exact stepV rfl rfl (execMvB rfl ((hf 0 (by decide)).trans t0)) ⟨s, ⟨_, rfl, rfl⟩, hS, fun _ _ => rfl⟩
          | 1, _ => exact stepV rfl rfl (execLtCf (p := k) (q := 0) rfl (hv 0 (by omega) _ rfl _ rfl) (by omega)) ⟨s, ⟨_, rfl, rfl⟩, hS, fun _ _ => rfl⟩
          | 2, _ => exact stepV rfl rfl (execMvB rfl (hv 1 (by omega) _ rfl _ rfl)) ⟨s, ⟨_, rfl, rfl⟩, hS, fun _ _ => rfl⟩
          | 3, _ => exact stepV rfl (wantedOf rfl (yieldedAt rfl rfl (show a.eval (.tmp 10) = .bool false from (hv 2 (by omega) _ rfl _ rfl)))) (execMvB rfl ((hf 0 (by decide)).trans t0)) ⟨s, ⟨_, rfl, rfl⟩, hS, fun _ _ => rfl⟩
          | 4, _ => exact stepV rfl (wantedOf rfl (yieldedAt rfl rfl (show a.eval (.tmp 10) = .bool false from (hv 2 (by omega) _ rfl _ rfl)))) (execGtCf (p := k) (q := 256) rfl (hv 3 (by omega) _ rfl _ rfl) (by omega)) ⟨s, ⟨_, rfl, rfl⟩, hS, fun _ _ => rfl⟩
          | 5, _ => exact stepV rfl rfl (execPickF rfl (hv 2 (by omega) _ rfl _ rfl) (hv 4 (by omega) _ rfl _ rfl)) ⟨s, ⟨_, rfl, rfl⟩, hS, fun _ _ => rfl⟩
          | 6, _ => exact stepV rfl rfl (execMvB rfl (hv 5 (by omega) _ rfl _ rfl)) ⟨s, ⟨_, rfl, rfl⟩, hS, fun _ _ => rfl⟩
          | 7, _ => exact stepV rfl (wantedOf rfl (yieldedAt rfl rfl (show a.eval (.tmp 14) = .bool false from (hv 6 (by omega) _ rfl _ rfl)))) (execMvB rfl ((hf 1 (by decide)).trans t1)) ⟨s, ⟨_, rfl, rfl⟩, hS, fun _ _ => rfl⟩
          | 8, _ => exact stepV rfl (wantedOf rfl (yieldedAt rfl rfl (show a.eval (.tmp 14) = .bool false from (hv 6 (by omega) _ rfl _ rfl)))) (execLtCt (p := c) (q := 1) rfl (hv 7 (by omega) _ rfl _ rfl) (by omega)) ⟨s, ⟨_, rfl, rfl⟩, hS, fun _ _ => rfl⟩
          | 9, _ => exact stepV rfl rfl (execPickF rfl (hv 6 (by omega) _ rfl _ rfl) (hv 8 (by omega) _ rfl _ rfl)) ⟨s, ⟨_, rfl, rfl⟩, hS, fun _ _ => rfl⟩
          | 10, _ => exact stepV rfl rfl (execMvB rfl (hv 9 (by omega) _ rfl _ rfl)) ⟨s, ⟨_, rfl, rfl⟩, hS, fun _ _ => rfl⟩
          | 11, _ => exact stepU rfl (unwantedOf rfl (yieldedAt rfl rfl (show a.eval (.tmp 18) = .bool (!false) from (hv 10 (by omega) _ rfl _ rfl)))) ⟨s, ⟨_, rfl, rfl⟩, hS, fun _ _ => rfl⟩
          | 12, _ => exact stepU rfl (unwantedOf rfl (yieldedAt rfl rfl (show a.eval (.tmp 18) = .bool (!false) from (hv 10 (by omega) _ rfl _ rfl)))) ⟨s, ⟨_, rfl, rfl⟩, hS, fun _ _ => rfl⟩
          | 13, _ => exact stepV rfl rfl (execPickT rfl (hv 10 (by omega) _ rfl _ rfl) rfl) ⟨s, ⟨_, rfl, rfl⟩, hS, fun _ _ => rfl⟩
          | k_ + 14, h_ => exact absurd h_ (by simp)
        rintro _ a X1 h1 h2 h3 h4 hS
        clear BB
        replace hS : Below V.heap.size V X1 := hS
        have BB := hS
        clear hS
        replace t0 := (h3 0 (by decide)).trans t0
        replace t1 := (h3 1 (by decide)).trans t1
        have t21 : a.eval (.tmp 21) = .bool true := h4 13 _ rfl _ rfl
        replace A := (⟨h1, h2.trans A.2⟩ : a.tmps.size = 48 ∧ a.defers = [])
        clear h1 h2 h3 h4
        refine wp_cond_true t21 ?_
        refine wp_seq ?_
        refine wp_region_sq (σ := Unit) 48 [(0, 4), (1, 5)] (fun j_ s X => match j_ with | 0 => Below V.heap.size V X | 1 => Below V.heap.size V X | _ => Below V.heap.size V X) (fun s => fun i_ => match i_ with | 0 => .slice none 0 0 | 1 => .int .i64 ((2 : Nat) : Int) | _ => undef) () A.1 (by kernel_rfl) (by decide) (by decide) (BB) ?_ ?_
        · intro i_ hi_ s a X hf hv hn hS
          match i_, hi_ with
          | 0, _ => exact stepV rfl rfl (execAsgB rfl rfl) ⟨s, ⟨_, rfl, rfl⟩, hS, fun _ _ => rfl⟩
          | 1, _ => exact stepV rfl rfl (execAsgB rfl rfl) ⟨s, ⟨_, rfl, rfl⟩, hS, fun _ _ => rfl⟩
          | k_ + 2, h_ => exact absurd h_ (by simp)
        rintro _ a X2 h1 h2 h3 h4 hS
        clear BB
        replace hS : Below V.heap.size V X2 := hS
        have BB := hS
        clear hS
        have t4 : a.eval (.tmp 4) = .slice none 0 0 := h4 0 _ rfl _ rfl
        have t5 : a.eval (.tmp 5) = .int .i64 ((2 : Nat) : Int) := h4 1 _ rfl _ rfl
        replace A := (⟨h1, h2.trans A.2⟩ : a.tmps.size = 48 ∧ a.defers = [])
        clear h1 h2 h3 h4
        clear t0 t1
        have hE : szE k c = 2 := if_neg (fun q => by omega)
        rw [hE, zl_no (by decide)]
        refine wp_ret ?_
        repeat (first | refine ret_in ?_ | refine ret_then ?_)
        refine bodyPost_ret (results_tmp2 rfl _ _ _) A.2 ⟨_, ?_, World.ownsRow_nil _ _ _ _, BB⟩
        show Ending.returned (.tuple #[a.eval (.tmp 4), a.eval (.tmp 5)]) = _
        rw [t4, t5]
      · by_cases hd : 64 < c
        · refine wp_region_sq (σ := Unit) 48 [(0, 8), (1, 9), (2, 10), (3, 11), (4, 12), (5, 13), (6, 14), (7, 15), (8, 16), (9, 17), (10, 18), (11, 19), (12, 20), (13, 21)] (fun j_ s X => match j_ with | 0 => Below V.heap.size V X | 1 => Below V.heap.size V X | 2 => Below V.heap.size V X | 3 => Below V.heap.size V X | 4 => Below V.heap.size V X | 5 => Below V.heap.size V X | 6 => Below V.heap.size V X | 7 => Below V.heap.size V X | 8 => Below V.heap.size V X | 9 => Below V.heap.size V X | 10 => Below V.heap.size V X | 11 => Below V.heap.size V X | 12 => Below V.heap.size V X | 13 => Below V.heap.size V X | _ => Below V.heap.size V X) (fun s => fun i_ => match i_ with | 0 => .int .i64 k | 1 => .bool false | 2 => .bool false | 3 => .int .i64 k | 4 => .bool false | 5 => .bool false | 6 => .bool false | 7 => .int .i64 c | 8 => .bool false | 9 => .bool false | 10 => .bool false | 11 => .int .i64 c | 12 => .bool true | 13 => .bool true | _ => undef) () A.1 (by kernel_rfl) (by decide) (by decide) (BB) ?_ ?_
          · intro i_ hi_ s a X hf hv hn hS
            match i_, hi_ with
            | 0, _ => exact stepV rfl rfl (execMvB rfl ((hf 0 (by decide)).trans t0)) ⟨s, ⟨_, rfl, rfl⟩, hS, fun _ _ => rfl⟩
            | 1, _ => exact stepV rfl rfl (execLtCf (p := k) (q := 0) rfl (hv 0 (by omega) _ rfl _ rfl) (by omega)) ⟨s, ⟨_, rfl, rfl⟩, hS, fun _ _ => rfl⟩
            | 2, _ => exact stepV rfl rfl (execMvB rfl (hv 1 (by omega) _ rfl _ rfl)) ⟨s, ⟨_, rfl, rfl⟩, hS, fun _ _ => rfl⟩
            | 3, _ => exact stepV rfl (wantedOf rfl (yieldedAt rfl rfl (show a.eval (.tmp 10) = .bool false from (hv 2 (by omega) _ rfl _ rfl)))) (execMvB rfl ((hf 0 (by decide)).trans t0)) ⟨s, ⟨_, rfl, rfl⟩, hS, fun _ _ => rfl⟩
            | 4, _ => exact stepV rfl (wantedOf rfl (yieldedAt rfl rfl (show a.eval (.tmp 10) = .bool false from (hv 2 (by omega) _ rfl _ rfl)))) (execGtCf (p := k) (q := 256) rfl (hv 3 (by omega) _ rfl _ rfl) (by omega)) ⟨s, ⟨_, rfl, rfl⟩, hS, fun _ _ => rfl⟩
            | 5, _ => exact stepV rfl rfl (execPickF rfl (hv 2 (by omega) _ rfl _ rfl) (hv 4 (by omega) _ rfl _ rfl)) ⟨s, ⟨_, rfl, rfl⟩, hS, fun _ _ => rfl⟩
            | 6, _ => exact stepV rfl rfl (execMvB rfl (hv 5 (by omega) _ rfl _ rfl)) ⟨s, ⟨_, rfl, rfl⟩, hS, fun _ _ => rfl⟩
            | 7, _ => exact stepV rfl (wantedOf rfl (yieldedAt rfl rfl (show a.eval (.tmp 14) = .bool false from (hv 6 (by omega) _ rfl _ rfl)))) (execMvB rfl ((hf 1 (by decide)).trans t1)) ⟨s, ⟨_, rfl, rfl⟩, hS, fun _ _ => rfl⟩
            | 8, _ => exact stepV rfl (wantedOf rfl (yieldedAt rfl rfl (show a.eval (.tmp 14) = .bool false from (hv 6 (by omega) _ rfl _ rfl)))) (execLtCf (p := c) (q := 1) rfl (hv 7 (by omega) _ rfl _ rfl) (by omega)) ⟨s, ⟨_, rfl, rfl⟩, hS, fun _ _ => rfl⟩
            | 9, _ => exact stepV rfl rfl (execPickF rfl (hv 6 (by omega) _ rfl _ rfl) (hv 8 (by omega) _ rfl _ rfl)) ⟨s, ⟨_, rfl, rfl⟩, hS, fun _ _ => rfl⟩
            | 10, _ => exact stepV rfl rfl (execMvB rfl (hv 9 (by omega) _ rfl _ rfl)) ⟨s, ⟨_, rfl, rfl⟩, hS, fun _ _ => rfl⟩
            | 11, _ => exact stepV rfl (wantedOf rfl (yieldedAt rfl rfl (show a.eval (.tmp 18) = .bool false from (hv 10 (by omega) _ rfl _ rfl)))) (execMvB rfl ((hf 1 (by decide)).trans t1)) ⟨s, ⟨_, rfl, rfl⟩, hS, fun _ _ => rfl⟩
            | 12, _ => exact stepV rfl (wantedOf rfl (yieldedAt rfl rfl (show a.eval (.tmp 18) = .bool false from (hv 10 (by omega) _ rfl _ rfl)))) (execGtCt (p := c) (q := 64) rfl (hv 11 (by omega) _ rfl _ rfl) (by omega)) ⟨s, ⟨_, rfl, rfl⟩, hS, fun _ _ => rfl⟩
            | 13, _ => exact stepV rfl rfl (execPickF rfl (hv 10 (by omega) _ rfl _ rfl) (hv 12 (by omega) _ rfl _ rfl)) ⟨s, ⟨_, rfl, rfl⟩, hS, fun _ _ => rfl⟩
            | k_ + 14, h_ => exact absurd h_ (by simp)
          rintro _ a X1 h1 h2 h3 h4 hS
          clear BB
          replace hS : Below V.heap.size V X1 := hS
          have BB := hS
          clear hS
          replace t0 := (h3 0 (by decide)).trans t0
          replace t1 := (h3 1 (by decide)).trans t1
          have t21 : a.eval (.tmp 21) = .bool true := h4 13 _ rfl _ rfl
          replace A := (⟨h1, h2.trans A.2⟩ : a.tmps.size = 48 ∧ a.defers = [])
          clear h1 h2 h3 h4
          refine wp_cond_true t21 ?_
          refine wp_seq ?_
          refine wp_region_sq (σ := Unit) 48 [(0, 4), (1, 5)] (fun j_ s X => match j_ with | 0 => Below V.heap.size V X | 1 => Below V.heap.size V X | _ => Below V.heap.size V X) (fun s => fun i_ => match i_ with | 0 => .slice none 0 0 | 1 => .int .i64 ((2 : Nat) : Int) | _ => undef) () A.1 (by kernel_rfl) (by decide) (by decide) (BB) ?_ ?_
          · intro i_ hi_ s a X hf hv hn hS
            match i_, hi_ with
            | 0, _ => exact stepV rfl rfl (execAsgB rfl rfl) ⟨s, ⟨_, rfl, rfl⟩, hS, fun _ _ => rfl⟩
            | 1, _ => exact stepV rfl rfl (execAsgB rfl rfl) ⟨s, ⟨_, rfl, rfl⟩, hS, fun _ _ => rfl⟩
            | k_ + 2, h_ => exact absurd h_ (by simp)
          rintro _ a X2 h1 h2 h3 h4 hS
          clear BB
          replace hS : Below V.heap.size V X2 := hS
          have BB := hS
          clear hS
          have t4 : a.eval (.tmp 4) = .slice none 0 0 := h4 0 _ rfl _ rfl
          have t5 : a.eval (.tmp 5) = .int .i64 ((2 : Nat) : Int) := h4 1 _ rfl _ rfl
          replace A := (⟨h1, h2.trans A.2⟩ : a.tmps.size = 48 ∧ a.defers = [])
          clear h1 h2 h3 h4
          clear t0 t1
          have hE : szE k c = 2 := if_neg (fun q => by omega)
          rw [hE, zl_no (by decide)]
          refine wp_ret ?_
          repeat (first | refine ret_in ?_ | refine ret_then ?_)
          refine bodyPost_ret (results_tmp2 rfl _ _ _) A.2 ⟨_, ?_, World.ownsRow_nil _ _ _ _, BB⟩
          show Ending.returned (.tuple #[a.eval (.tmp 4), a.eval (.tmp 5)]) = _
          rw [t4, t5]
        · refine wp_region_sq (σ := Unit) 48 [(0, 8), (1, 9), (2, 10), (3, 11), (4, 12), (5, 13), (6, 14), (7, 15), (8, 16), (9, 17), (10, 18), (11, 19), (12, 20), (13, 21)] (fun j_ s X => match j_ with | 0 => Below V.heap.size V X | 1 => Below V.heap.size V X | 2 => Below V.heap.size V X | 3 => Below V.heap.size V X | 4 => Below V.heap.size V X | 5 => Below V.heap.size V X | 6 => Below V.heap.size V X | 7 => Below V.heap.size V X | 8 => Below V.heap.size V X | 9 => Below V.heap.size V X | 10 => Below V.heap.size V X | 11 => Below V.heap.size V X | 12 => Below V.heap.size V X | 13 => Below V.heap.size V X | _ => Below V.heap.size V X) (fun s => fun i_ => match i_ with | 0 => .int .i64 k | 1 => .bool false | 2 => .bool false | 3 => .int .i64 k | 4 => .bool false | 5 => .bool false | 6 => .bool false | 7 => .int .i64 c | 8 => .bool false | 9 => .bool false | 10 => .bool false | 11 => .int .i64 c | 12 => .bool false | 13 => .bool false | _ => undef) () A.1 (by kernel_rfl) (by decide) (by decide) (BB) ?_ ?_
          · intro i_ hi_ s a X hf hv hn hS
            match i_, hi_ with
            | 0, _ => exact stepV rfl rfl (execMvB rfl ((hf 0 (by decide)).trans t0)) ⟨s, ⟨_, rfl, rfl⟩, hS, fun _ _ => rfl⟩
            | 1, _ => exact stepV rfl rfl (execLtCf (p := k) (q := 0) rfl (hv 0 (by omega) _ rfl _ rfl) (by omega)) ⟨s, ⟨_, rfl, rfl⟩, hS, fun _ _ => rfl⟩
            | 2, _ => exact stepV rfl rfl (execMvB rfl (hv 1 (by omega) _ rfl _ rfl)) ⟨s, ⟨_, rfl, rfl⟩, hS, fun _ _ => rfl⟩
            | 3, _ => exact stepV rfl (wantedOf rfl (yieldedAt rfl rfl (show a.eval (.tmp 10) = .bool false from (hv 2 (by omega) _ rfl _ rfl)))) (execMvB rfl ((hf 0 (by decide)).trans t0)) ⟨s, ⟨_, rfl, rfl⟩, hS, fun _ _ => rfl⟩
            | 4, _ => exact stepV rfl (wantedOf rfl (yieldedAt rfl rfl (show a.eval (.tmp 10) = .bool false from (hv 2 (by omega) _ rfl _ rfl)))) (execGtCf (p := k) (q := 256) rfl (hv 3 (by omega) _ rfl _ rfl) (by omega)) ⟨s, ⟨_, rfl, rfl⟩, hS, fun _ _ => rfl⟩
            | 5, _ => exact stepV rfl rfl (execPickF rfl (hv 2 (by omega) _ rfl _ rfl) (hv 4 (by omega) _ rfl _ rfl)) ⟨s, ⟨_, rfl, rfl⟩, hS, fun _ _ => rfl⟩
            | 6, _ => exact stepV rfl rfl (execMvB rfl (hv 5 (by omega) _ rfl _ rfl)) ⟨s, ⟨_, rfl, rfl⟩, hS, fun _ _ => rfl⟩
            | 7, _ => exact stepV rfl (wantedOf rfl (yieldedAt rfl rfl (show a.eval (.tmp 14) = .bool false from (hv 6 (by omega) _ rfl _ rfl)))) (execMvB rfl ((hf 1 (by decide)).trans t1)) ⟨s, ⟨_, rfl, rfl⟩, hS, fun _ _ => rfl⟩
            | 8, _ => exact stepV rfl (wantedOf rfl (yieldedAt rfl rfl (show a.eval (.tmp 14) = .bool false from (hv 6 (by omega) _ rfl _ rfl)))) (execLtCf (p := c) (q := 1) rfl (hv 7 (by omega) _ rfl _ rfl) (by omega)) ⟨s, ⟨_, rfl, rfl⟩, hS, fun _ _ => rfl⟩
            | 9, _ => exact stepV rfl rfl (execPickF rfl (hv 6 (by omega) _ rfl _ rfl) (hv 8 (by omega) _ rfl _ rfl)) ⟨s, ⟨_, rfl, rfl⟩, hS, fun _ _ => rfl⟩
            | 10, _ => exact stepV rfl rfl (execMvB rfl (hv 9 (by omega) _ rfl _ rfl)) ⟨s, ⟨_, rfl, rfl⟩, hS, fun _ _ => rfl⟩
            | 11, _ => exact stepV rfl (wantedOf rfl (yieldedAt rfl rfl (show a.eval (.tmp 18) = .bool false from (hv 10 (by omega) _ rfl _ rfl)))) (execMvB rfl ((hf 1 (by decide)).trans t1)) ⟨s, ⟨_, rfl, rfl⟩, hS, fun _ _ => rfl⟩
            | 12, _ => exact stepV rfl (wantedOf rfl (yieldedAt rfl rfl (show a.eval (.tmp 18) = .bool false from (hv 10 (by omega) _ rfl _ rfl)))) (execGtCf (p := c) (q := 64) rfl (hv 11 (by omega) _ rfl _ rfl) (by omega)) ⟨s, ⟨_, rfl, rfl⟩, hS, fun _ _ => rfl⟩
            | 13, _ => exact stepV rfl rfl (execPickF rfl (hv 10 (by omega) _ rfl _ rfl) (hv 12 (by omega) _ rfl _ rfl)) ⟨s, ⟨_, rfl, rfl⟩, hS, fun _ _ => rfl⟩
            | k_ + 14, h_ => exact absurd h_ (by simp)
          rintro _ a X1 h1 h2 h3 h4 hS
          clear BB
          replace hS : Below V.heap.size V X1 := hS
          have BB := hS
          clear hS
          replace t0 := (h3 0 (by decide)).trans t0
          replace t1 := (h3 1 (by decide)).trans t1
          have t21 : a.eval (.tmp 21) = .bool false := h4 13 _ rfl _ rfl
          replace A := (⟨h1, h2.trans A.2⟩ : a.tmps.size = 48 ∧ a.defers = [])
          clear h1 h2 h3 h4
          refine wp_cond_false t21 ?_
          refine wp_skip ?_
          clear t21
          obtain ⟨N, rfl⟩ : ∃ N : Nat, k = N := ⟨k.toNat, by omega⟩
          obtain ⟨D, rfl⟩ : ∃ D : Nat, c = D := ⟨c.toNat, by omega⟩
          refine wp_seq ?_
          refine wp_region_sq (σ := Nat) 48 [(0, 22), (1, 23), (2, 6)] (fun j_ s X => match j_ with | 0 => Below V.heap.size V X | 1 => Below V.heap.size V X | 2 => Below V.heap.size V X ∧ (X.ownsRow V.heap.size 3 1 (.slice (some ⟨s, 0, none⟩) D D) (D) (intsL (D) (fun j => if j < 0 then (szF N D j : Int) else 0))) ∧ (V.heap.size ≤ s) | _ => Below V.heap.size V X ∧ (X.ownsRow V.heap.size 3 1 (.slice (some ⟨s, 0, none⟩) D D) (D) (intsL (D) (fun j => if j < 0 then (szF N D j : Int) else 0))) ∧ (V.heap.size ≤ s)) (fun s => fun i_ => match i_ with | 0 => .int .i64 ((D : Nat) : Int) | 1 => .slice (some ⟨s, 0, none⟩) D D | 2 => .slice (some ⟨s, 0, none⟩) D D | _ => undef) 0 A.1 (by kernel_rfl) (by decide) (by decide) (BB) ?_ ?_
          · intro i_ hi_ s a X hf hv hn hS
            match i_, hi_ with
            | 0, _ => exact stepV rfl rfl (execMvB rfl ((hf 1 (by decide)).trans t1)) ⟨s, ⟨_, rfl, rfl⟩, hS, fun _ _ => rfl⟩
            | 1, _ =>
              refine stepV rfl rfl (execMkN rfl (hv 0 (by omega) _ rfl _ rfl) (hv 0 (by omega) _ rfl _ rfl) (by omega)) ⟨X.heap.size, ⟨_, rfl, rfl⟩, ⟨(hS).trans (((belNew X _)).mono (hS).size), ownD_base (own_mkZ X D _ (by omega) (fun j_ _ => if_neg (Nat.not_lt_zero _))) (hS).size, (hS).size⟩, fun i hi => ?_⟩
              match i, hi with
              | 0, _ => rfl
              | n_ + 1, h_ => omega
            | 2, _ => exact stepV rfl rfl (execAsgB rfl (hv 1 (by omega) _ rfl _ rfl)) ⟨s, ⟨_, rfl, rfl⟩, hS, fun _ _ => rfl⟩
            | k_ + 3, h_ => exact absurd h_ (by simp)
          rintro g6 a X3 h1 h2 h3 h4 hS
          clear BB
          replace hS : Below V.heap.size V X3 ∧ (X3.ownsRow V.heap.size 3 1 (.slice (some ⟨g6, 0, none⟩) D D) (D) (intsL (D) (fun j => if j < 0 then (szF N D j : Int) else 0))) ∧ (V.heap.size ≤ g6) := hS
          obtain ⟨BB, FO, Fg⟩ := hS
          replace t0 := (h3 0 (by decide)).trans t0
          replace t1 := (h3 1 (by decide)).trans t1
          have t6 : a.eval (.tmp 6) = .slice (some ⟨g6, 0, none⟩) D D := h4 2 _ rfl _ rfl
          replace A := (⟨h1, h2.trans A.2⟩ : a.tmps.size = 48 ∧ a.defers = [])
          clear h1 h2 h3 h4
          refine wp_seq ?_
          refine wp_seq ?_
          refine wp_region_sq (σ := Unit) 48 [(0, 24), (1, 25), (2, 26)] (fun j_ s X => match j_ with | 0 => Below V.heap.size V X ∧ (X.ownsRow V.heap.size 3 1 (.slice (some ⟨g6, 0, none⟩) D D) (D) (intsL (D) (fun j => if j < 0 then (szF N D j : Int) else 0))) | 1 => Below V.heap.size V X ∧ (X.ownsRow V.heap.size 3 1 (.slice (some ⟨g6, 0, none⟩) D D) (D) (intsL (D) (fun j => if j < 0 then (szF N D j : Int) else 0))) | 2 => Below V.heap.size V X ∧ (X.ownsRow V.heap.size 3 1 (.slice (some ⟨g6, 0, none⟩) D D) (D) (intsL (D) (fun j => if j < 0 then (szF N D j : Int) else 0))) | _ => Below V.heap.size V X ∧ (X.ownsRow V.heap.size 3 1 (.slice (some ⟨g6, 0, none⟩) D D) (D) (intsL (D) (fun j => if j < 0 then (szF N D j : Int) else 0)))) (fun s => fun i_ => match i_ with | 0 => .slice (some ⟨g6, 0, none⟩) D D | 1 => .int .i64 ((D : Nat) : Int) | 2 => .int .i64 ((0 : Nat) : Int) | _ => undef) () A.1 (by kernel_rfl) (by decide) (by decide) ⟨BB, FO⟩ ?_ ?_
          · intro i_ hi_ s a X hf hv hn hS
            match i_, hi_ with
            | 0, _ => exact stepV rfl rfl (execMvB rfl ((hf 6 (by decide)).trans t6)) ⟨s, ⟨_, rfl, rfl⟩, hS, fun _ _ => rfl⟩
            | 1, _ => exact stepV rfl rfl (execLenI (len := D) rfl (hv 0 (by omega) _ rfl _ rfl) ⟨_, _, rfl⟩) ⟨s, ⟨_, rfl, rfl⟩, hS, fun _ _ => rfl⟩
            | 2, _ => exact stepV rfl rfl (execMvB rfl rfl) ⟨s, ⟨_, rfl, rfl⟩, hS, fun _ _ => rfl⟩
            | k_ + 3, h_ => exact absurd h_ (by simp)
          rintro _ a X4 h1 h2 h3 h4 hS
          clear BB
          clear FO
          replace hS : Below V.heap.size V X4 ∧ (X4.ownsRow V.heap.size 3 1 (.slice (some ⟨g6, 0, none⟩) D D) (D) (intsL (D) (fun j => if j < 0 then (szF N D j : Int) else 0))) := hS
          obtain ⟨BB, FO⟩ := hS
          replace t0 := (h3 0 (by decide)).trans t0
          replace t1 := (h3 1 (by decide)).trans t1
          replace t6 := (h3 6 (by decide)).trans t6
          have t25 : a.eval (.tmp 25) = .int .i64 ((D : Nat) : Int) := h4 1 _ rfl _ rfl
          have t26 : a.eval (.tmp 26) = .int .i64 ((0 : Nat) : Int) := h4 2 _ rfl _ rfl
          replace A := (⟨h1, h2.trans A.2⟩ : a.tmps.size = 48 ∧ a.defers = [])
          clear h1 h2 h3 h4
          refine wp_block ?_
          refine wp_loop (fun a W => ∃ (i : Nat), i ≤ D ∧ (a.tmps.size = 48 ∧ a.defers = []) ∧ a.eval (.tmp 0) = .int .i64 ((N : Nat) : Int) ∧ a.eval (.tmp 1) = .int .i64 ((D : Nat) : Int) ∧ a.eval (.tmp 6) = .slice (some ⟨g6, 0, none⟩) D D ∧ a.eval (.tmp 25) = .int .i64 ((D : Nat) : Int) ∧ a.eval (.tmp 26) = .int .i64 ((i : Nat) : Int) ∧ Below V.heap.size V W ∧ (W.ownsRow V.heap.size 3 1 (.slice (some ⟨g6, 0, none⟩) D D) (D) (intsL (D) (fun j => if j < i then (szF N D j : Int) else 0)))) (fun a _ => D - (intOf (a.eval (.tmp 26))).toNat) ⟨0, Nat.zero_le _, A, t0, t1, t6, t25, t26, BB, FO⟩ ?_
          clear A t0 t1 t6 t25 t26 BB FO a
          rintro a XL5 ⟨i, hi, A, t0, t1, t6, t25, t26, BB, FO⟩
          have esi := t26
          refine wp_seq ?_
          refine wp_region_sq (σ := Unit) 48 [(0, 27)] (fun j_ s X => match j_ with | 0 => Below V.heap.size V X ∧ (X.ownsRow V.heap.size 3 1 (.slice (some ⟨g6, 0, none⟩) D D) (D) (intsL (D) (fun j => if j < i then (szF N D j : Int) else 0))) | _ => Below V.heap.size V X ∧ (X.ownsRow V.heap.size 3 1 (.slice (some ⟨g6, 0, none⟩) D D) (D) (intsL (D) (fun j => if j < i then (szF N D j : Int) else 0)))) (fun s => fun i_ => match i_ with | 0 => .bool (decide (i < D)) | _ => undef) () A.1 (by kernel_rfl) (by decide) (by decide) ⟨BB, FO⟩ ?_ ?_
          · intro i_ hi_ s a X hf hv hn hS
            match i_, hi_ with
            | 0, _ => exact stepV rfl rfl (execLtW (p := i) (q := D) rfl ((hf 26 (by decide)).trans t26) ((hf 25 (by decide)).trans t25)) ⟨s, ⟨_, rfl, rfl⟩, hS, fun _ _ => rfl⟩
            | k_ + 1, h_ => exact absurd h_ (by simp)
          rintro _ a X5 h1 h2 h3 h4 hS
          clear BB
          clear FO
          replace hS : Below V.heap.size V X5 ∧ (X5.ownsRow V.heap.size 3 1 (.slice (some ⟨g6, 0, none⟩) D D) (D) (intsL (D) (fun j => if j < i then (szF N D j : Int) else 0))) := hS
          obtain ⟨BB, FO⟩ := hS
          replace t0 := (h3 0 (by decide)).trans t0
          replace t1 := (h3 1 (by decide)).trans t1
          replace t6 := (h3 6 (by decide)).trans t6
          replace t25 := (h3 25 (by decide)).trans t25
          replace t26 := (h3 26 (by decide)).trans t26
          have t27 : a.eval (.tmp 27) = .bool (decide (i < D)) := h4 0 _ rfl _ rfl
          replace A := (⟨h1, h2.trans A.2⟩ : a.tmps.size = 48 ∧ a.defers = [])
          clear h1 h2 h3 h4
          refine wp_seq ?_
          by_cases lti : i < D
          · rw [decide_eq_true lti] at t27
            refine wp_cond_true t27 ?_
            refine wp_skip ?_
            clear t27
            refine wp_seq ?_
            refine wp_block ?_
            have hq1 : N / D ≤ N := Nat.div_le_self _ _
            refine wp_seq ?_
            refine wp_region_sq (σ := Unit) 48 [(0, 28), (1, 7)] (fun j_ s X => match j_ with | 0 => Below V.heap.size V X ∧ (X.ownsRow V.heap.size 3 1 (.slice (some ⟨g6, 0, none⟩) D D) (D) (intsL (D) (fun j => if j < i then (szF N D j : Int) else 0))) | 1 => Below V.heap.size V X ∧ (X.ownsRow V.heap.size 3 1 (.slice (some ⟨g6, 0, none⟩) D D) (D) (intsL (D) (fun j => if j < i then (szF N D j : Int) else 0))) | _ => Below V.heap.size V X ∧ (X.ownsRow V.heap.size 3 1 (.slice (some ⟨g6, 0, none⟩) D D) (D) (intsL (D) (fun j => if j < i then (szF N D j : Int) else 0)))) (fun s => fun i_ => match i_ with | 0 => .int .i64 ((i : Nat) : Int) | 1 => .int .i64 ((i : Nat) : Int) | _ => undef) () A.1 (by kernel_rfl) (by decide) (by decide) ⟨BB, FO⟩ ?_ ?_
            · intro i_ hi_ s a X hf hv hn hS
              match i_, hi_ with
              | 0, _ => exact stepV rfl rfl (execMvB rfl ((hf 26 (by decide)).trans t26)) ⟨s, ⟨_, rfl, rfl⟩, hS, fun _ _ => rfl⟩
              | 1, _ => exact stepV rfl rfl (execAsgB rfl (hv 0 (by omega) _ rfl _ rfl)) ⟨s, ⟨_, rfl, rfl⟩, hS, fun _ _ => rfl⟩
              | k_ + 2, h_ => exact absurd h_ (by simp)
            rintro _ a X6 h1 h2 h3 h4 hS
            clear BB
            clear FO
            replace hS : Below V.heap.size V X6 ∧ (X6.ownsRow V.heap.size 3 1 (.slice (some ⟨g6, 0, none⟩) D D) (D) (intsL (D) (fun j => if j < i then (szF N D j : Int) else 0))) := hS
            obtain ⟨BB, FO⟩ := hS
            replace t0 := (h3 0 (by decide)).trans t0
            replace t1 := (h3 1 (by decide)).trans t1
            replace t6 := (h3 6 (by decide)).trans t6
            replace t25 := (h3 25 (by decide)).trans t25
            replace t26 := (h3 26 (by decide)).trans t26
            have t7 : a.eval (.tmp 7) = .int .i64 ((i : Nat) : Int) := h4 1 _ rfl _ rfl
            replace A := (⟨h1, h2.trans A.2⟩ : a.tmps.size = 48 ∧ a.defers = [])
            clear h1 h2 h3 h4
            refine wp_seq ?_
            refine wp_region_sq (σ := Unit) 48 [(0, 29), (1, 30), (2, 31), (3, 32), (4, 33), (5, 34)] (fun j_ s X => match j_ with | 0 => Below V.heap.size V X ∧ (X.ownsRow V.heap.size 3 1 (.slice (some ⟨g6, 0, none⟩) D D) (D) (intsL (D) (fun j => if j < i then (szF N D j : Int) else 0))) | 1 => Below V.heap.size V X ∧ (X.ownsRow V.heap.size 3 1 (.slice (some ⟨g6, 0, none⟩) D D) (D) (intsL (D) (fun j => if j < i then (szF N D j : Int) else 0))) | 2 => Below V.heap.size V X ∧ (X.ownsRow V.heap.size 3 1 (.slice (some ⟨g6, 0, none⟩) D D) (D) (intsL (D) (fun j => if j < i then (szF N D j : Int) else 0))) | 3 => Below V.heap.size V X ∧ (X.ownsRow V.heap.size 3 1 (.slice (some ⟨g6, 0, none⟩) D D) (D) (intsL (D) (fun j => if j < i then (szF N D j : Int) else 0))) | 4 => Below V.heap.size V X ∧ (X.ownsRow V.heap.size 3 1 (.slice (some ⟨g6, 0, none⟩) D D) (D) (intsL (D) (fun j => if j < i then (szF N D j : Int) else 0))) | 5 => Below V.heap.size V X ∧ (X.ownsRow V.heap.size 3 1 (.slice (some ⟨g6, 0, none⟩) D D) (D) (intsL (D) (fun j => if j < i then (szF N D j : Int) else 0))) | 6 => Below V.heap.size V X ∧ (X.ownsRow V.heap.size 3 1 (.slice (some ⟨g6, 0, none⟩) D D) (D) (intsL (D) (fun j => if j < i then (szF N D j : Int) else 0))) | _ => Below V.heap.size V X ∧ (X.ownsRow V.heap.size 3 1 (.slice (some ⟨g6, 0, none⟩) D D) (D) (intsL (D) (fun x => if x = i then ((N / D : Nat) : Int) else (fun j => if j < i then (szF N D j : Int) else 0) x)))) (fun s => fun i_ => match i_ with | 0 => .slice (some ⟨g6, 0, none⟩) D D | 1 => .int .i64 ((i : Nat) : Int) | 2 => .int .i64 ((N : Nat) : Int) | 3 => .int .i64 ((D : Nat) : Int) | 4 => .int .i64 ((N / D : Nat) : Int) | 5 => .pointer (some ⟨g6, 0 + i, none⟩) | 6 => undef | _ => undef) () A.1 (by kernel_rfl) (by decide) (by decide) ⟨BB, FO⟩ ?_ ?_
            · intro i_ hi_ s a X hf hv hn hS
              match i_, hi_ with
              | 0, _ => exact stepV rfl rfl (execMvB rfl ((hf 6 (by decide)).trans t6)) ⟨s, ⟨_, rfl, rfl⟩, hS, fun _ _ => rfl⟩
              | 1, _ => exact stepV rfl rfl (execMvB rfl ((hf 7 (by decide)).trans t7)) ⟨s, ⟨_, rfl, rfl⟩, hS, fun _ _ => rfl⟩
              | 2, _ => exact stepV rfl rfl (execMvB rfl ((hf 0 (by decide)).trans t0)) ⟨s, ⟨_, rfl, rfl⟩, hS, fun _ _ => rfl⟩
              | 3, _ => exact stepV rfl rfl (execMvB rfl ((hf 1 (by decide)).trans t1)) ⟨s, ⟨_, rfl, rfl⟩, hS, fun _ _ => rfl⟩
              | 4, _ => exact stepV rfl rfl (execQuoD (p := N) (q := D) rfl (hv 2 (by omega) _ rfl _ rfl) (hv 3 (by omega) _ rfl _ rfl) (by omega) (by omega)) ⟨s, ⟨_, rfl, rfl⟩, hS, fun _ _ => rfl⟩
              | 5, _ => exact stepV rfl rfl (execIdxN (k := i) rfl (hv 0 (by omega) _ rfl _ rfl) (hv 1 (by omega) _ rfl _ rfl) lti) ⟨s, ⟨_, rfl, rfl⟩, hS, fun _ _ => rfl⟩
              | 6, _ =>
                obtain ⟨hc_, hf_⟩ := own_cellI hS.2 lti
                refine stepS rfl rfl (execStI9 rfl (hv 5 (by omega) _ rfl _ rfl) (hv 4 (by omega) _ rfl _ rfl) hc_ hf_) ⟨s, ⟨_, rfl, rfl⟩, ⟨(hS.1).setCell Fg _, own_setF _ hS.2⟩, fun i hi => ?_⟩
                match i, hi with
                | 0, _ => rfl
                | 1, _ => rfl
                | 2, _ => rfl
                | 3, _ => rfl
                | 4, _ => rfl
                | 5, _ => rfl
                | n_ + 6, h_ => omega
              | k_ + 7, h_ => exact absurd h_ (by simp)
            rintro _ a X7 h1 h2 h3 h4 hS
            clear BB
            clear FO
            replace hS : Below V.heap.size V X7 ∧ (X7.ownsRow V.heap.size 3 1 (.slice (some ⟨g6, 0, none⟩) D D) (D) (intsL (D) (fun x => if x = i then ((N / D : Nat) : Int) else (fun j => if j < i then (szF N D j : Int) else 0) x))) := hS
            obtain ⟨BB, FP⟩ := hS
            replace t0 := (h3 0 (by decide)).trans t0
            replace t1 := (h3 1 (by decide)).trans t1
            replace t6 := (h3 6 (by decide)).trans t6
            replace t25 := (h3 25 (by decide)).trans t25
            replace t26 := (h3 26 (by decide)).trans t26
            replace t7 := (h3 7 (by decide)).trans t7
            replace A := (⟨h1, h2.trans A.2⟩ : a.tmps.size = 48 ∧ a.defers = [])
            clear h1 h2 h3 h4
            refine wp_seq ?_
            by_cases hlr : i < N % D
            · refine wp_region_sq (σ := Unit) 48 [(0, 35), (1, 36), (2, 37), (3, 38), (4, 39)] (fun j_ s X => match j_ with | 0 => Below V.heap.size V X ∧ (X.ownsRow V.heap.size 3 1 (.slice (some ⟨g6, 0, none⟩) D D) (D) (intsL (D) (fun x => if x = i then ((N / D : Nat) : Int) else (fun j => if j < i then (szF N D j : Int) else 0) x))) | 1 => Below V.heap.size V X ∧ (X.ownsRow V.heap.size 3 1 (.slice (some ⟨g6, 0, none⟩) D D) (D) (intsL (D) (fun x => if x = i then ((N / D : Nat) : Int) else (fun j => if j < i then (szF N D j : Int) else 0) x))) | 2 => Below V.heap.size V X ∧ (X.ownsRow V.heap.size 3 1 (.slice (some ⟨g6, 0, none⟩) D D) (D) (intsL (D) (fun x => if x = i then ((N / D : Nat) : Int) else (fun j => if j < i then (szF N D j : Int) else 0) x))) | 3 => Below V.heap.size V X ∧ (X.ownsRow V.heap.size 3 1 (.slice (some ⟨g6, 0, none⟩) D D) (D) (intsL (D) (fun x => if x = i then ((N / D : Nat) : Int) else (fun j => if j < i then (szF N D j : Int) else 0) x))) | 4 => Below V.heap.size V X ∧ (X.ownsRow V.heap.size 3 1 (.slice (some ⟨g6, 0, none⟩) D D) (D) (intsL (D) (fun x => if x = i then ((N / D : Nat) : Int) else (fun j => if j < i then (szF N D j : Int) else 0) x))) | _ => Below V.heap.size V X ∧ (X.ownsRow V.heap.size 3 1 (.slice (some ⟨g6, 0, none⟩) D D) (D) (intsL (D) (fun x => if x = i then ((N / D : Nat) : Int) else (fun j => if j < i then (szF N D j : Int) else 0) x)))) (fun s => fun i_ => match i_ with | 0 => .int .i64 ((i : Nat) : Int) | 1 => .int .i64 ((N : Nat) : Int) | 2 => .int .i64 ((D : Nat) : Int) | 3 => .int .i64 ((N % D : Nat) : Int) | 4 => .bool true | _ => undef) () A.1 (by kernel_rfl) (by decide) (by decide) ⟨BB, FP⟩ ?_ ?_
              · intro i_ hi_ s a X hf hv hn hS
                match i_, hi_ with
                | 0, _ => exact stepV rfl rfl (execMvB rfl ((hf 7 (by decide)).trans t7)) ⟨s, ⟨_, rfl, rfl⟩, hS, fun _ _ => rfl⟩
                | 1, _ => exact stepV rfl rfl (execMvB rfl ((hf 0 (by decide)).trans t0)) ⟨s, ⟨_, rfl, rfl⟩, hS, fun _ _ => rfl⟩
                | 2, _ => exact stepV rfl rfl (execMvB rfl ((hf 1 (by decide)).trans t1)) ⟨s, ⟨_, rfl, rfl⟩, hS, fun _ _ => rfl⟩
                | 3, _ => exact stepV rfl rfl (Aes.execRemI (p := N) (q := D) rfl (hv 1 (by omega) _ rfl _ rfl) (hv 2 (by omega) _ rfl _ rfl) (by omega)) ⟨s, ⟨_, rfl, rfl⟩, hS, fun _ _ => rfl⟩
                | 4, _ => exact stepV rfl rfl (execDec (execLtW (p := i) (q := N % D) rfl (hv 0 (by omega) _ rfl _ rfl) (hv 3 (by omega) _ rfl _ rfl)) (decide_eq_true (by omega))) ⟨s, ⟨_, rfl, rfl⟩, hS, fun _ _ => rfl⟩
                | k_ + 5, h_ => exact absurd h_ (by simp)
              rintro _ a X8 h1 h2 h3 h4 hS
              clear BB
              clear FP
              replace hS : Below V.heap.size V X8 ∧ (X8.ownsRow V.heap.size 3 1 (.slice (some ⟨g6, 0, none⟩) D D) (D) (intsL (D) (fun x => if x = i then ((N / D : Nat) : Int) else (fun j => if j < i then (szF N D j : Int) else 0) x))) := hS
              obtain ⟨BB, FP⟩ := hS
              replace t0 := (h3 0 (by decide)).trans t0
              replace t1 := (h3 1 (by decide)).trans t1
              replace t6 := (h3 6 (by decide)).trans t6
              replace t25 := (h3 25 (by decide)).trans t25
              replace t26 := (h3 26 (by decide)).trans t26
              replace t7 := (h3 7 (by decide)).trans t7
              have t39 : a.eval (.tmp 39) = .bool true := h4 4 _ rfl _ rfl
              replace A := (⟨h1, h2.trans A.2⟩ : a.tmps.size = 48 ∧ a.defers = [])
              clear h1 h2 h3 h4
              refine wp_cond_true t39 ?_
              clear t39
              refine wp_region_sq (σ := Unit) 48 [(0, 40), (1, 41), (2, 42), (3, 43), (4, 44), (5, 45)] (fun j_ s X => match j_ with | 0 => Below V.heap.size V X ∧ (X.ownsRow V.heap.size 3 1 (.slice (some ⟨g6, 0, none⟩) D D) (D) (intsL (D) (fun x => if x = i then ((N / D : Nat) : Int) else (fun j => if j < i then (szF N D j : Int) else 0) x))) | 1 => Below V.heap.size V X ∧ (X.ownsRow V.heap.size 3 1 (.slice (some ⟨g6, 0, none⟩) D D) (D) (intsL (D) (fun x => if x = i then ((N / D : Nat) : Int) else (fun j => if j < i then (szF N D j : Int) else 0) x))) | 2 => Below V.heap.size V X ∧ (X.ownsRow V.heap.size 3 1 (.slice (some ⟨g6, 0, none⟩) D D) (D) (intsL (D) (fun x => if x = i then ((N / D : Nat) : Int) else (fun j => if j < i then (szF N D j : Int) else 0) x))) | 3 => Below V.heap.size V X ∧ (X.ownsRow V.heap.size 3 1 (.slice (some ⟨g6, 0, none⟩) D D) (D) (intsL (D) (fun x => if x = i then ((N / D : Nat) : Int) else (fun j => if j < i then (szF N D j : Int) else 0) x))) | 4 => Below V.heap.size V X ∧ (X.ownsRow V.heap.size 3 1 (.slice (some ⟨g6, 0, none⟩) D D) (D) (intsL (D) (fun x => if x = i then ((N / D : Nat) : Int) else (fun j => if j < i then (szF N D j : Int) else 0) x))) | 5 => Below V.heap.size V X ∧ (X.ownsRow V.heap.size 3 1 (.slice (some ⟨g6, 0, none⟩) D D) (D) (intsL (D) (fun x => if x = i then ((N / D : Nat) : Int) else (fun j => if j < i then (szF N D j : Int) else 0) x))) | 6 => Below V.heap.size V X ∧ (X.ownsRow V.heap.size 3 1 (.slice (some ⟨g6, 0, none⟩) D D) (D) (intsL (D) (fun x => if x = i then ((N / D : Nat) : Int) else (fun j => if j < i then (szF N D j : Int) else 0) x))) | _ => Below V.heap.size V X ∧ (X.ownsRow V.heap.size 3 1 (.slice (some ⟨g6, 0, none⟩) D D) (D) (intsL (D) (fun j => if j < (i + 1) then (szF N D j : Int) else 0)))) (fun s => fun i_ => match i_ with | 0 => .slice (some ⟨g6, 0, none⟩) D D | 1 => .int .i64 ((i : Nat) : Int) | 2 => .pointer (some ⟨g6, 0 + i, none⟩) | 3 => .int .i64 ((N / D : Nat) : Int) | 4 => .int .i64 ((N / D + 1 : Nat) : Int) | 5 => .pointer (some ⟨g6, 0 + i, none⟩) | 6 => undef | _ => undef) () A.1 (by kernel_rfl) (by decide) (by decide) ⟨BB, FP⟩ ?_ ?_
              · intro i_ hi_ s a X hf hv hn hS
                match i_, hi_ with
                | 0, _ => exact stepV rfl rfl (execMvB rfl ((hf 6 (by decide)).trans t6)) ⟨s, ⟨_, rfl, rfl⟩, hS, fun _ _ => rfl⟩
                | 1, _ => exact stepV rfl rfl (execMvB rfl ((hf 7 (by decide)).trans t7)) ⟨s, ⟨_, rfl, rfl⟩, hS, fun _ _ => rfl⟩
                | 2, _ => exact stepV rfl rfl (execIdxN (k := i) rfl (hv 0 (by omega) _ rfl _ rfl) (hv 1 (by omega) _ rfl _ rfl) lti) ⟨s, ⟨_, rfl, rfl⟩, hS, fun _ _ => rfl⟩
                | 3, _ => exact stepV rfl rfl (execLd3 rfl (hv 2 (by omega) _ rfl _ rfl) ((own_cellI hS.2 lti).1.trans (by rw [if_pos rfl]))) ⟨s, ⟨_, rfl, rfl⟩, hS, fun _ _ => rfl⟩
                | 4, _ => exact stepV rfl rfl (execAd8 (p := N / D) (q := 1) rfl (hv 3 (by omega) _ rfl _ rfl) rfl (by omega)) ⟨s, ⟨_, rfl, rfl⟩, hS, fun _ _ => rfl⟩
                | 5, _ => exact stepV rfl rfl (execIdxN (k := i) rfl (hv 0 (by omega) _ rfl _ rfl) (hv 1 (by omega) _ rfl _ rfl) lti) ⟨s, ⟨_, rfl, rfl⟩, hS, fun _ _ => rfl⟩
                | 6, _ =>
                  obtain ⟨hc_, hf_⟩ := own_cellI hS.2 lti
                  refine stepS rfl rfl (execStI9 rfl (hv 5 (by omega) _ rfl _ rfl) (hv 4 (by omega) _ rfl _ rfl) hc_ hf_) ⟨s, ⟨_, rfl, rfl⟩, ⟨(hS.1).setCell Fg _, sz_set2 hS.2 hlr⟩, fun i hi => ?_⟩
                  match i, hi with
                  | 0, _ => rfl
                  | 1, _ => rfl
                  | 2, _ => rfl
                  | 3, _ => rfl
                  | 4, _ => rfl
                  | 5, _ => rfl
                  | n_ + 6, h_ => omega
                | k_ + 7, h_ => exact absurd h_ (by simp)
              rintro _ a X9 h1 h2 h3 h4 hS
              clear BB
              clear FP
              replace hS : Below V.heap.size V X9 ∧ (X9.ownsRow V.heap.size 3 1 (.slice (some ⟨g6, 0, none⟩) D D) (D) (intsL (D) (fun j => if j < (i + 1) then (szF N D j : Int) else 0))) := hS
              obtain ⟨BB, FO2⟩ := hS
              replace t0 := (h3 0 (by decide)).trans t0
              replace t1 := (h3 1 (by decide)).trans t1
              replace t6 := (h3 6 (by decide)).trans t6
              replace t25 := (h3 25 (by decide)).trans t25
              replace t26 := (h3 26 (by decide)).trans t26
              replace A := (⟨h1, h2.trans A.2⟩ : a.tmps.size = 48 ∧ a.defers = [])
              clear h1 h2 h3 h4
              clear t7
              refine wp_region_sq (σ := Unit) 48 [(0, 46), (1, 26)] (fun j_ s X => match j_ with | 0 => Below V.heap.size V X ∧ (X.ownsRow V.heap.size 3 1 (.slice (some ⟨g6, 0, none⟩) D D) (D) (intsL (D) (fun j => if j < (i + 1) then (szF N D j : Int) else 0))) | 1 => Below V.heap.size V X ∧ (X.ownsRow V.heap.size 3 1 (.slice (some ⟨g6, 0, none⟩) D D) (D) (intsL (D) (fun j => if j < (i + 1) then (szF N D j : Int) else 0))) | _ => Below V.heap.size V X ∧ (X.ownsRow V.heap.size 3 1 (.slice (some ⟨g6, 0, none⟩) D D) (D) (intsL (D) (fun j => if j < (i + 1) then (szF N D j : Int) else 0)))) (fun s => fun i_ => match i_ with | 0 => .int .i64 ((i + 1 : Nat) : Int) | 1 => .int .i64 ((i + 1 : Nat) : Int) | _ => undef) () A.1 (by kernel_rfl) (by decide) (by decide) ⟨BB, FO2⟩ ?_ ?_
              · intro i_ hi_ s a X hf hv hn hS
                match i_, hi_ with
                | 0, _ => exact stepV rfl rfl (execAd8 (p := i) (q := 1) rfl ((hn 1 (by omega) _ rfl _ rfl).trans t26) rfl (by omega)) ⟨s, ⟨_, rfl, rfl⟩, hS, fun _ _ => rfl⟩
                | 1, _ => exact stepV rfl rfl (execMvB rfl (hv 0 (by omega) _ rfl _ rfl)) ⟨s, ⟨_, rfl, rfl⟩, hS, fun _ _ => rfl⟩
                | k_ + 2, h_ => exact absurd h_ (by simp)
              rintro _ a X10 h1 h2 h3 h4 hS
              clear BB
              clear FO2
              replace hS : Below V.heap.size V X10 ∧ (X10.ownsRow V.heap.size 3 1 (.slice (some ⟨g6, 0, none⟩) D D) (D) (intsL (D) (fun j => if j < (i + 1) then (szF N D j : Int) else 0))) := hS
              obtain ⟨BB, FO2⟩ := hS
              replace t0 := (h3 0 (by decide)).trans t0
              replace t1 := (h3 1 (by decide)).trans t1
              replace t6 := (h3 6 (by decide)).trans t6
              replace t25 := (h3 25 (by decide)).trans t25
              replace t26 : a.eval (.tmp 26) = .int .i64 ((i + 1 : Nat) : Int) := h4 1 _ rfl _ rfl
              replace A := (⟨h1, h2.trans A.2⟩ : a.tmps.size = 48 ∧ a.defers = [])
              clear h1 h2 h3 h4
              exact ⟨⟨i + 1, lti, A, t0, t1, t6, t25, t26, BB, FO2⟩, by show D - (intOf (a.eval (.tmp 26))).toNat < D - (intOf (Act.eval _ (.tmp 26))).toNat; rw [t26, esi]; show D - (i + 1) < D - i; omega⟩
            · refine wp_region_sq (σ := Unit) 48 [(0, 35), (1, 36), (2, 37), (3, 38), (4, 39)] (fun j_ s X => match j_ with | 0 => Below V.heap.size V X ∧ (X.ownsRow V.heap.size 3 1 (.slice (some ⟨g6, 0, none⟩) D D) (D) (intsL (D) (fun x => if x = i then ((N / D : Nat) : Int) else (fun j => if j < i then (szF N D j : Int) else 0) x))) | 1 => Below V.heap.size V X ∧ (X.ownsRow V.heap.size 3 1 (.slice (some ⟨g6, 0, none⟩) D D) (D) (intsL (D) (fun x => if x = i then ((N / D : Nat) : Int) else (fun j => if j < i then (szF N D j : Int) else 0) x))) | 2 => Below V.heap.size V X ∧ (X.ownsRow V.heap.size 3 1 (.slice (some ⟨g6, 0, none⟩) D D) (D) (intsL (D) (fun x => if x = i then ((N / D : Nat) : Int) else (fun j => if j < i then (szF N D j : Int) else 0) x))) | 3 => Below V.heap.size V X ∧ (X.ownsRow V.heap.size 3 1 (.slice (some ⟨g6, 0, none⟩) D D) (D) (intsL (D) (fun x => if x = i then ((N / D : Nat) : Int) else (fun j => if j < i then (szF N D j : Int) else 0) x))) | 4 => Below V.heap.size V X ∧ (X.ownsRow V.heap.size 3 1 (.slice (some ⟨g6, 0, none⟩) D D) (D) (intsL (D) (fun x => if x = i then ((N / D : Nat) : Int) else (fun j => if j < i then (szF N D j : Int) else 0) x))) | _ => Below V.heap.size V X ∧ (X.ownsRow V.heap.size 3 1 (.slice (some ⟨g6, 0, none⟩) D D) (D) (intsL (D) (fun x => if x = i then ((N / D : Nat) : Int) else (fun j => if j < i then (szF N D j : Int) else 0) x)))) (fun s => fun i_ => match i_ with | 0 => .int .i64 ((i : Nat) : Int) | 1 => .int .i64 ((N : Nat) : Int) | 2 => .int .i64 ((D : Nat) : Int) | 3 => .int .i64 ((N % D : Nat) : Int) | 4 => .bool false | _ => undef) () A.1 (by kernel_rfl) (by decide) (by decide) ⟨BB, FP⟩ ?_ ?_
              · intro i_ hi_ s a X hf hv hn hS
                match i_, hi_ with
                | 0, _ => exact stepV rfl rfl (execMvB rfl ((hf 7 (by decide)).trans t7)) ⟨s, ⟨_, rfl, rfl⟩, hS, fun _ _ => rfl⟩
                | 1, _ => exact stepV rfl rfl (execMvB rfl ((hf 0 (by decide)).trans t0)) ⟨s, ⟨_, rfl, rfl⟩, hS, fun _ _ => rfl⟩
                | 2, _ => exact stepV rfl rfl (execMvB rfl ((hf 1 (by decide)).trans t1)) ⟨s, ⟨_, rfl, rfl⟩, hS, fun _ _ => rfl⟩
                | 3, _ => exact stepV rfl rfl (Aes.execRemI (p := N) (q := D) rfl (hv 1 (by omega) _ rfl _ rfl) (hv 2 (by omega) _ rfl _ rfl) (by omega)) ⟨s, ⟨_, rfl, rfl⟩, hS, fun _ _ => rfl⟩
                | 4, _ => exact stepV rfl rfl (execDec (execLtW (p := i) (q := N % D) rfl (hv 0 (by omega) _ rfl _ rfl) (hv 3 (by omega) _ rfl _ rfl)) (decide_eq_false (by omega))) ⟨s, ⟨_, rfl, rfl⟩, hS, fun _ _ => rfl⟩
                | k_ + 5, h_ => exact absurd h_ (by simp)
              rintro _ a X8 h1 h2 h3 h4 hS
              clear BB
              clear FP
              replace hS : Below V.heap.size V X8 ∧ (X8.ownsRow V.heap.size 3 1 (.slice (some ⟨g6, 0, none⟩) D D) (D) (intsL (D) (fun x => if x = i then ((N / D : Nat) : Int) else (fun j => if j < i then (szF N D j : Int) else 0) x))) := hS
              obtain ⟨BB, FP⟩ := hS
              replace t0 := (h3 0 (by decide)).trans t0
              replace t1 := (h3 1 (by decide)).trans t1
              replace t6 := (h3 6 (by decide)).trans t6
              replace t25 := (h3 25 (by decide)).trans t25
              replace t26 := (h3 26 (by decide)).trans t26
              replace t7 := (h3 7 (by decide)).trans t7
              have t39 : a.eval (.tmp 39) = .bool false := h4 4 _ rfl _ rfl
              replace A := (⟨h1, h2.trans A.2⟩ : a.tmps.size = 48 ∧ a.defers = [])
              clear h1 h2 h3 h4
              refine wp_cond_false t39 ?_
              refine wp_skip ?_
              clear t39
              clear t7
              have FO2 := sz_set1 FP hlr
              clear FP
              refine wp_region_sq (σ := Unit) 48 [(0, 46), (1, 26)] (fun j_ s X => match j_ with | 0 => Below V.heap.size V X ∧ (X.ownsRow V.heap.size 3 1 (.slice (some ⟨g6, 0, none⟩) D D) (D) (intsL (D) (fun j => if j < (i + 1) then (szF N D j : Int) else 0))) | 1 => Below V.heap.size V X ∧ (X.ownsRow V.heap.size 3 1 (.slice (some ⟨g6, 0, none⟩) D D) (D) (intsL (D) (fun j => if j < (i + 1) then (szF N D j : Int) else 0))) | _ => Below V.heap.size V X ∧ (X.ownsRow V.heap.size 3 1 (.slice (some ⟨g6, 0, none⟩) D D) (D) (intsL (D) (fun j => if j < (i + 1) then (szF N D j : Int) else 0)))) (fun s => fun i_ => match i_ with | 0 => .int .i64 ((i + 1 : Nat) : Int) | 1 => .int .i64 ((i + 1 : Nat) : Int) | _ => undef) () A.1 (by kernel_rfl) (by decide) (by decide) ⟨BB, FO2⟩ ?_ ?_
              · intro i_ hi_ s a X hf hv hn hS
                match i_, hi_ with
                | 0, _ => exact stepV rfl rfl (execAd8 (p := i) (q := 1) rfl ((hn 1 (by omega) _ rfl _ rfl).trans t26) rfl (by omega)) ⟨s, ⟨_, rfl, rfl⟩, hS, fun _ _ => rfl⟩
                | 1, _ => exact stepV rfl rfl (execMvB rfl (hv 0 (by omega) _ rfl _ rfl)) ⟨s, ⟨_, rfl, rfl⟩, hS, fun _ _ => rfl⟩
                | k_ + 2, h_ => exact absurd h_ (by simp)
              rintro _ a X10 h1 h2 h3 h4 hS
              clear BB
              clear FO2
              replace hS : Below V.heap.size V X10 ∧ (X10.ownsRow V.heap.size 3 1 (.slice (some ⟨g6, 0, none⟩) D D) (D) (intsL (D) (fun j => if j < (i + 1) then (szF N D j : Int) else 0))) := hS
              obtain ⟨BB, FO2⟩ := hS
              replace t0 := (h3 0 (by decide)).trans t0
              replace t1 := (h3 1 (by decide)).trans t1
              replace t6 := (h3 6 (by decide)).trans t6
              replace t25 := (h3 25 (by decide)).trans t25
              replace t26 : a.eval (.tmp 26) = .int .i64 ((i + 1 : Nat) : Int) := h4 1 _ rfl _ rfl
              replace A := (⟨h1, h2.trans A.2⟩ : a.tmps.size = 48 ∧ a.defers = [])
              clear h1 h2 h3 h4
              exact ⟨⟨i + 1, lti, A, t0, t1, t6, t25, t26, BB, FO2⟩, by show D - (intOf (a.eval (.tmp 26))).toNat < D - (intOf (Act.eval _ (.tmp 26))).toNat; rw [t26, esi]; show D - (i + 1) < D - i; omega⟩
          · rw [decide_eq_false lti] at t27
            refine wp_cond_false t27 ?_
            refine wp_exit ?_
            first | refine exit_in ?_ | refine exit_then (exit_in ?_) | refine exit_then (exit_then (exit_in ?_))
            clear t27 esi
            obtain rfl : i = D := by omega
            rw [intsL_congr (g := fun j => (szF N i j : Int)) (fun j hj => if_pos hj)] at FO
            clear t0 t1 t25 t26
            refine wp_seq ?_
            refine wp_region_sq (σ := Unit) 48 [(0, 47), (1, 4), (2, 5)] (fun j_ s X => match j_ with | 0 => Below V.heap.size V X ∧ (X.ownsRow V.heap.size 3 1 (.slice (some ⟨g6, 0, none⟩) i i) (i) (intsL (i) (fun j => (szF N i j : Int)))) | 1 => Below V.heap.size V X ∧ (X.ownsRow V.heap.size 3 1 (.slice (some ⟨g6, 0, none⟩) i i) (i) (intsL (i) (fun j => (szF N i j : Int)))) | 2 => Below V.heap.size V X ∧ (X.ownsRow V.heap.size 3 1 (.slice (some ⟨g6, 0, none⟩) i i) (i) (intsL (i) (fun j => (szF N i j : Int)))) | _ => Below V.heap.size V X ∧ (X.ownsRow V.heap.size 3 1 (.slice (some ⟨g6, 0, none⟩) i i) (i) (intsL (i) (fun j => (szF N i j : Int))))) (fun s => fun i_ => match i_ with | 0 => .slice (some ⟨g6, 0, none⟩) i i | 1 => .slice (some ⟨g6, 0, none⟩) i i | 2 => .int .i64 ((0 : Nat) : Int) | _ => undef) () A.1 (by kernel_rfl) (by decide) (by decide) ⟨BB, FO⟩ ?_ ?_
            · intro i_ hi_ s a X hf hv hn hS
              match i_, hi_ with
              | 0, _ => exact stepV rfl rfl (execMvB rfl ((hf 6 (by decide)).trans t6)) ⟨s, ⟨_, rfl, rfl⟩, hS, fun _ _ => rfl⟩
              | 1, _ => exact stepV rfl rfl (execAsgB rfl (hv 0 (by omega) _ rfl _ rfl)) ⟨s, ⟨_, rfl, rfl⟩, hS, fun _ _ => rfl⟩
              | 2, _ => exact stepV rfl rfl (execAsgB rfl rfl) ⟨s, ⟨_, rfl, rfl⟩, hS, fun _ _ => rfl⟩
              | k_ + 3, h_ => exact absurd h_ (by simp)
            rintro _ a X11 h1 h2 h3 h4 hS
            clear BB
            clear FO
            replace hS : Below V.heap.size V X11 ∧ (X11.ownsRow V.heap.size 3 1 (.slice (some ⟨g6, 0, none⟩) i i) (i) (intsL (i) (fun j => (szF N i j : Int)))) := hS
            obtain ⟨BB, FO⟩ := hS
            have t4 : a.eval (.tmp 4) = .slice (some ⟨g6, 0, none⟩) i i := h4 1 _ rfl _ rfl
            have t5 : a.eval (.tmp 5) = .int .i64 ((0 : Nat) : Int) := h4 2 _ rfl _ rfl
            replace A := (⟨h1, h2.trans A.2⟩ : a.tmps.size = 48 ∧ a.defers = [])
            clear h1 h2 h3 h4
            clear t6
            have hE : szE ((N : Nat) : Int) ((i : Nat) : Int) = 0 := if_pos (by omega)
            rw [hE, zl_ok, Int.toNat_natCast, Int.toNat_natCast]
            refine wp_ret ?_
            refine bodyPost_ret (results_tmp2 rfl _ _ _) A.2 ⟨_, ?_, FO, BB⟩
            show Ending.returned (.tuple #[a.eval (.tmp 4), a.eval (.tmp 5)]) = _
            rw [t4, t5]
set_option maxRecDepth 100000 in
set_option maxHeartbeats 4000000 in
/-- The program's Pattern. -/
theorem ppattern (sf df : Nat → Int) (J m : Nat) (v u0 : Value) (V : World) (hv : SliceI V v J sf) (hJ17 : J ≤ 17592186044416) (hv2 : SliceI V u0 m df) (hm17 : m ≤ 17592186044416) :
    Calls Try.prog 19 #[v, u0] V fun e w' => ∃ r1 r2, e = .returned (.tuple #[r1, r2, .int .i64 ((paE sf J df m : Nat) : Int)]) ∧ FmI V.heap.size 2 (x2 r1 r2) (fun _ => zl (paE sf J df m) m) (f2 (pcF sf J df) (poF sf J df m)) w' ∧ Below V.heap.size V w' := by
  obtain ⟨ia, ic, rfl, -, -, hsh⟩ := id hv.shape
  obtain ⟨ja, jc, rfl, -, -, hsj⟩ := id hv2.shape
  have FI := hv
  have FJ := hv2
  go_enter Try.func19, Try.ntmps19
  refine wp_seq ?_
  refine wp_region_sqK 61 [(0, 4), (1, 5), (2, 6)] (fun i_ => match i_ with | 0 => .slice none 0 0 | 1 => .slice none 0 0 | 2 => .int .i64 ((0 : Nat) : Int) | _ => undef) rfl (by kernel_rfl) (by decide) (by decide) ?_ ?_
  · intro i_ hi_ a hf hv hn
    match i_, hi_ with
    | 0, _ => exact stepV rfl rfl (execAsgB rfl rfl) ⟨⟨_, rfl, rfl⟩, rfl⟩
    | 1, _ => exact stepV rfl rfl (execAsgB rfl rfl) ⟨⟨_, rfl, rfl⟩, rfl⟩
    | 2, _ => exact stepV rfl rfl (execAsgB rfl rfl) ⟨⟨_, rfl, rfl⟩, rfl⟩
    | k_ + 3, h_ => exact absurd h_ (by simp)
  intro a h1 h2 h3 h4
  have t0 : a.eval (.tmp 0) = .slice ia J ic := (h3 0 (by decide)).trans rfl
  have t1 : a.eval (.tmp 1) = .slice ja m jc := (h3 1 (by decide)).trans rfl
  have A : a.tmps.size = 61 ∧ a.defers = [] := ⟨h1, h2⟩
  have BW : Below V.heap.size V V := Below.refl _ _
  clear h1 h2 h3 h4
  have BB := BW
  refine wp_seq ?_
  refine wp_seq ?_
  cases hs : szQ sf J with
  | false =>
    refine wp_region_sq (σ := Unit) 61 [(0, 12), (1, 13), (2, 14), (3, 15), (4, 16), (5, 17), (6, 18), (7, 19), (8, 20), (9, 21), (10, 22), (11, 23), (12, 24), (13, 25), (14, 26)] (fun j_ s X => match j_ with | 0 => Below V.heap.size V X | 1 => Below V.heap.size V X | 2 => Below V.heap.size V X | 3 => Below V.heap.size V X | 4 => Below V.heap.size V X | 5 => Below V.heap.size V X | 6 => Below V.heap.size V X | 7 => Below V.heap.size V X | 8 => Below V.heap.size V X | 9 => Below V.heap.size V X | 10 => Below V.heap.size V X | 11 => Below V.heap.size V X | 12 => Below V.heap.size V X | 13 => Below V.heap.size V X | 14 => Below V.heap.size V X | _ => Below V.heap.size V X) (fun s => fun i_ => match i_ with | 0 => .slice ia J ic | 1 => .bool false | 2 => .bool true | 3 => .bool true | 4 => undef | 5 => undef | 6 => undef | 7 => undef | 8 => undef | 9 => .bool true | 10 => .bool true | 11 => undef | 12 => undef | 13 => undef | 14 => .bool true | _ => undef) () A.1 (by kernel_rfl) (by decide) (by decide) (BB) ?_ ?_
    · intro i_ hi_ s a X hf hv hn hS
      match i_, hi_ with
      | 0, _ => exact stepV rfl rfl (execMvB rfl ((hf 0 (by decide)).trans t0)) ⟨s, ⟨_, rfl, rfl⟩, hS, fun _ _ => rfl⟩
      | 1, _ => exact stepC rfl rfl (execCall1 Try.func30 (by kernel_rfl) (by kernel_rfl) rfl (hv 0 (by omega) _ rfl _ rfl)) (hs ▸ pareSizes sf J _ X (FI.on hS) hJ17) fun e w' hh => ⟨_, hh.1, s, ⟨_, rfl, rfl⟩, (hS).trans ((hh.2).mono (hS).size), fun _ _ => rfl⟩
      | 2, _ => exact stepV rfl rfl (execNot8 rfl (hv 1 (by omega) _ rfl _ rfl)) ⟨s, ⟨_, rfl, rfl⟩, hS, fun _ _ => rfl⟩
      | 3, _ => exact stepV rfl rfl (execMvB rfl (hv 2 (by omega) _ rfl _ rfl)) ⟨s, ⟨_, rfl, rfl⟩, hS, fun _ _ => rfl⟩
      | 4, _ => exact stepU rfl (unwantedOf rfl (yieldedAt rfl rfl (show a.eval (.tmp 15) = .bool (!false) from (hv 3 (by omega) _ rfl _ rfl)))) ⟨s, ⟨_, rfl, rfl⟩, hS, fun _ _ => rfl⟩
      | 5, _ => exact stepU rfl (unwantedOf rfl (yieldedAt rfl rfl (show a.eval (.tmp 15) = .bool (!false) from (hv 3 (by omega) _ rfl _ rfl)))) ⟨s, ⟨_, rfl, rfl⟩, hS, fun _ _ => rfl⟩
      | 6, _ => exact stepU rfl (unwantedOf rfl (yieldedAt rfl rfl (show a.eval (.tmp 15) = .bool (!false) from (hv 3 (by omega) _ rfl _ rfl)))) ⟨s, ⟨_, rfl, rfl⟩, hS, fun _ _ => rfl⟩
      | 7, _ => exact stepU rfl (unwantedOf rfl (yieldedAt rfl rfl (show a.eval (.tmp 15) = .bool (!false) from (hv 3 (by omega) _ rfl _ rfl)))) ⟨s, ⟨_, rfl, rfl⟩, hS, fun _ _ => rfl⟩
      | 8, _ => exact stepU rfl (unwantedOf rfl (yieldedAt rfl rfl (show a.eval (.tmp 15) = .bool (!false) from (hv 3 (by omega) _ rfl _ rfl)))) ⟨s, ⟨_, rfl, rfl⟩, hS, fun _ _ => rfl⟩
      | 9, _ => exact stepV rfl rfl (execPickT rfl (hv 3 (by omega) _ rfl _ rfl) rfl) ⟨s, ⟨_, rfl, rfl⟩, hS, fun _ _ => rfl⟩
      | 10, _ => exact stepV rfl rfl (execMvB rfl (hv 9 (by omega) _ rfl _ rfl)) ⟨s, ⟨_, rfl, rfl⟩, hS, fun _ _ => rfl⟩
      | 11, _ => exact stepU rfl (unwantedOf rfl (yieldedAt rfl rfl (show a.eval (.tmp 22) = .bool (!false) from (hv 10 (by omega) _ rfl _ rfl)))) ⟨s, ⟨_, rfl, rfl⟩, hS, fun _ _ => rfl⟩
      | 12, _ => exact stepU rfl (unwantedOf rfl (yieldedAt rfl rfl (show a.eval (.tmp 22) = .bool (!false) from (hv 10 (by omega) _ rfl _ rfl)))) ⟨s, ⟨_, rfl, rfl⟩, hS, fun _ _ => rfl⟩
      | 13, _ => exact stepU rfl (unwantedOf rfl (yieldedAt rfl rfl (show a.eval (.tmp 22) = .bool (!false) from (hv 10 (by omega) _ rfl _ rfl)))) ⟨s, ⟨_, rfl, rfl⟩, hS, fun _ _ => rfl⟩
      | 14, _ => exact stepV rfl rfl (execPickT rfl (hv 10 (by omega) _ rfl _ rfl) rfl) ⟨s, ⟨_, rfl, rfl⟩, hS, fun _ _ => rfl⟩
      | k_ + 15, h_ => exact absurd h_ (by simp)
    rintro _ a X1 h1 h2 h3 h4 hS
    clear BB
    replace hS : Below V.heap.size V X1 := hS
    have BB := hS
    clear hS
    replace t0 := (h3 0 (by decide)).trans t0
    replace t1 := (h3 1 (by decide)).trans t1
    have t26 : a.eval (.tmp 26) = .bool true := h4 14 _ rfl _ rfl
    replace A := (⟨h1, h2.trans A.2⟩ : a.tmps.size = 61 ∧ a.defers = [])
    clear h1 h2 h3 h4
    refine wp_cond_true t26 ?_
    refine wp_seq ?_
    refine wp_region_sq (σ := Unit) 61 [(0, 4), (1, 5), (2, 6)] (fun j_ s X => match j_ with | 0 => Below V.heap.size V X | 1 => Below V.heap.size V X | 2 => Below V.heap.size V X | _ => Below V.heap.size V X) (fun s => fun i_ => match i_ with | 0 => .slice none 0 0 | 1 => .slice none 0 0 | 2 => .int .i64 ((2 : Nat) : Int) | _ => undef) () A.1 (by kernel_rfl) (by decide) (by decide) (BB) ?_ ?_
    · intro i_ hi_ s a X hf hv hn hS
      match i_, hi_ with
      | 0, _ => exact stepV rfl rfl (execAsgB rfl rfl) ⟨s, ⟨_, rfl, rfl⟩, hS, fun _ _ => rfl⟩
      | 1, _ => exact stepV rfl rfl (execAsgB rfl rfl) ⟨s, ⟨_, rfl, rfl⟩, hS, fun _ _ => rfl⟩
      | 2, _ => exact stepV rfl rfl (execAsgB rfl rfl) ⟨s, ⟨_, rfl, rfl⟩, hS, fun _ _ => rfl⟩
      | k_ + 3, h_ => exact absurd h_ (by simp)
    rintro _ a X2 h1 h2 h3 h4 hS
    clear BB
    replace hS : Below V.heap.size V X2 := hS
    have BB := hS
    clear hS
    have t4 : a.eval (.tmp 4) = .slice none 0 0 := h4 0 _ rfl _ rfl
    have t5 : a.eval (.tmp 5) = .slice none 0 0 := h4 1 _ rfl _ rfl
    have t6 : a.eval (.tmp 6) = .int .i64 ((2 : Nat) : Int) := h4 2 _ rfl _ rfl
    replace A := (⟨h1, h2.trans A.2⟩ : a.tmps.size = 61 ∧ a.defers = [])
    clear h1 h2 h3 h4
    clear t0 t1
    have hE : paE sf J df m = 2 := paE_no fun q => by have := (paQ_iff.1 q).1; rw [hs] at this; cases this
    rw [hE, zl_no (by decide)]
    refine wp_ret ?_
    repeat (first | refine ret_in ?_ | refine ret_then ?_)
    refine bodyPost_ret (results_tmp3 rfl _ _ _) A.2 ⟨_, _, ?_, fm2nil _ _ _, BB⟩
    show Ending.returned (.tuple #[a.eval (.tmp 4), a.eval (.tmp 5), a.eval (.tmp 6)]) = _
    rw [t4, t5, t6]
  | true =>
    have hok : okS sf J = true := (szQ_iff.1 hs).2
    have hJ64_ := (szQ_iff.1 hs).1
    by_cases hm : m = sumN (gN sf) J
    · cases hfal : faQ df m with
      | false =>
        refine wp_region_sq (σ := Unit) 61 [(0, 12), (1, 13), (2, 14), (3, 15), (4, 16), (5, 17), (6, 18), (7, 19), (8, 20), (9, 21), (10, 22), (11, 23), (12, 24), (13, 25), (14, 26)] (fun j_ s X => match j_ with | 0 => Below V.heap.size V X | 1 => Below V.heap.size V X | 2 => Below V.heap.size V X | 3 => Below V.heap.size V X | 4 => Below V.heap.size V X | 5 => Below V.heap.size V X | 6 => Below V.heap.size V X | 7 => Below V.heap.size V X | 8 => Below V.heap.size V X | 9 => Below V.heap.size V X | 10 => Below V.heap.size V X | 11 => Below V.heap.size V X | 12 => Below V.heap.size V X | 13 => Below V.heap.size V X | 14 => Below V.heap.size V X | _ => Below V.heap.size V X) (fun s => fun i_ => match i_ with | 0 => .slice ia J ic | 1 => .bool true | 2 => .bool false | 3 => .bool false | 4 => .slice ja m jc | 5 => .int .i64 ((m : Nat) : Int) | 6 => .slice ia J ic | 7 => .int .i64 ((sumN (gN sf) J : Nat) : Int) | 8 => .bool false | 9 => .bool false | 10 => .bool false | 11 => .slice ja m jc | 12 => .bool false | 13 => .bool true | 14 => .bool true | _ => undef) () A.1 (by kernel_rfl) (by decide) (by decide) (BB) ?_ ?_
        · intro i_ hi_ s a X hf hv hn hS
          match i_, hi_ with
          | 0, _ => exact stepV rfl rfl (execMvB rfl ((hf 0 (by decide)).trans t0)) ⟨s, ⟨_, rfl, rfl⟩, hS, fun _ _ => rfl⟩
          | 1, _ => exact stepC rfl rfl (execCall1 Try.func30 (by kernel_rfl) (by kernel_rfl) rfl (hv 0 (by omega) _ rfl _ rfl)) (hs ▸ pareSizes sf J _ X (FI.on hS) hJ17) fun e w' hh => ⟨_, hh.1, s, ⟨_, rfl, rfl⟩, (hS).trans ((hh.2).mono (hS).size), fun _ _ => rfl⟩
          | 2, _ => exact stepV rfl rfl (execNot8 rfl (hv 1 (by omega) _ rfl _ rfl)) ⟨s, ⟨_, rfl, rfl⟩, hS, fun _ _ => rfl⟩
          | 3, _ => exact stepV rfl rfl (execMvB rfl (hv 2 (by omega) _ rfl _ rfl)) ⟨s, ⟨_, rfl, rfl⟩, hS, fun _ _ => rfl⟩
          | 4, _ => exact stepV rfl (wantedOf rfl (yieldedAt rfl rfl (show a.eval (.tmp 15) = .bool false from (hv 3 (by omega) _ rfl _ rfl)))) (execMvB rfl ((hf 1 (by decide)).trans t1)) ⟨s, ⟨_, rfl, rfl⟩, hS, fun _ _ => rfl⟩
          | 5, _ => exact stepV rfl (wantedOf rfl (yieldedAt rfl rfl (show a.eval (.tmp 15) = .bool false from (hv 3 (by omega) _ rfl _ rfl)))) (execLenI (len := m) rfl (hv 4 (by omega) _ rfl _ rfl) ((FJ.on hS)).shp) ⟨s, ⟨_, rfl, rfl⟩, hS, fun _ _ => rfl⟩
          | 6, _ => exact stepV rfl (wantedOf rfl (yieldedAt rfl rfl (show a.eval (.tmp 15) = .bool false from (hv 3 (by omega) _ rfl _ rfl)))) (execMvB rfl ((hf 0 (by decide)).trans t0)) ⟨s, ⟨_, rfl, rfl⟩, hS, fun _ _ => rfl⟩
          | 7, _ => exact stepC rfl (wantedOf rfl (yieldedAt rfl rfl (show a.eval (.tmp 15) = .bool false from (hv 3 (by omega) _ rfl _ rfl)))) (execCall1 Try.func31 (by kernel_rfl) (by kernel_rfl) rfl (hv 6 (by omega) _ rfl _ rfl)) (psum sf J _ X (FI.on hS) (by omega) (fun j hj => (okS_iff.1 hok j hj).1) (by have := okS_sum hok; omega)) fun e w' hh => ⟨_, hh.1, s, ⟨_, rfl, rfl⟩, (hS).trans ((hh.2).mono (hS).size), fun _ _ => rfl⟩
          | 8, _ => exact stepV rfl (wantedOf rfl (yieldedAt rfl rfl (show a.eval (.tmp 15) = .bool false from (hv 3 (by omega) _ rfl _ rfl)))) (execDec (execNeN (p := m) (q := sumN (gN sf) J) rfl (hv 5 (by omega) _ rfl _ rfl) (hv 7 (by omega) _ rfl _ rfl)) (decide_eq_false (by omega))) ⟨s, ⟨_, rfl, rfl⟩, hS, fun _ _ => rfl⟩
          | 9, _ => exact stepV rfl rfl (execPickF rfl (hv 3 (by omega) _ rfl _ rfl) (hv 8 (by omega) _ rfl _ rfl)) ⟨s, ⟨_, rfl, rfl⟩, hS, fun _ _ => rfl⟩
          | 10, _ => exact stepV rfl rfl (execMvB rfl (hv 9 (by omega) _ rfl _ rfl)) ⟨s, ⟨_, rfl, rfl⟩, hS, fun _ _ => rfl⟩
          | 11, _ => exact stepV rfl (wantedOf rfl (yieldedAt rfl rfl (show a.eval (.tmp 22) = .bool false from (hv 10 (by omega) _ rfl _ rfl)))) (execMvB rfl ((hf 1 (by decide)).trans t1)) ⟨s, ⟨_, rfl, rfl⟩, hS, fun _ _ => rfl⟩
          | 12, _ => exact stepC rfl (wantedOf rfl (yieldedAt rfl rfl (show a.eval (.tmp 22) = .bool false from (hv 10 (by omega) _ rfl _ rfl)))) (execCall1 Try.func32 (by kernel_rfl) (by kernel_rfl) rfl (hv 11 (by omega) _ rfl _ rfl)) (hfal ▸ pareFalling df m _ X (FJ.on hS) hm17) fun e w' hh => ⟨_, hh.1, s, ⟨_, rfl, rfl⟩, (hS).trans ((hh.2).mono (hS).size), fun _ _ => rfl⟩
          | 13, _ => exact stepV rfl (wantedOf rfl (yieldedAt rfl rfl (show a.eval (.tmp 22) = .bool false from (hv 10 (by omega) _ rfl _ rfl)))) (execNot8 rfl (hv 12 (by omega) _ rfl _ rfl)) ⟨s, ⟨_, rfl, rfl⟩, hS, fun _ _ => rfl⟩
          | 14, _ => exact stepV rfl rfl (execPickF rfl (hv 10 (by omega) _ rfl _ rfl) (hv 13 (by omega) _ rfl _ rfl)) ⟨s, ⟨_, rfl, rfl⟩, hS, fun _ _ => rfl⟩
          | k_ + 15, h_ => exact absurd h_ (by simp)
        rintro _ a X1 h1 h2 h3 h4 hS
        clear BB
        replace hS : Below V.heap.size V X1 := hS
        have BB := hS
        clear hS
        replace t0 := (h3 0 (by decide)).trans t0
        replace t1 := (h3 1 (by decide)).trans t1
        have t26 : a.eval (.tmp 26) = .bool true := h4 14 _ rfl _ rfl
        replace A := (⟨h1, h2.trans A.2⟩ : a.tmps.size = 61 ∧ a.defers = [])
        clear h1 h2 h3 h4
        refine wp_cond_true t26 ?_
        refine wp_seq ?_
        refine wp_region_sq (σ := Unit) 61 [(0, 4), (1, 5), (2, 6)] (fun j_ s X => match j_ with | 0 => Below V.heap.size V X | 1 => Below V.heap.size V X | 2 => Below V.heap.size V X | _ => Below V.heap.size V X) (fun s => fun i_ => match i_ with | 0 => .slice none 0 0 | 1 => .slice none 0 0 | 2 => .int .i64 ((2 : Nat) : Int) | _ => undef) () A.1 (by kernel_rfl) (by decide) (by decide) (BB) ?_ ?_
        · intro i_ hi_ s a X hf hv hn hS
          match i_, hi_ with
          | 0, _ => exact stepV rfl rfl (execAsgB rfl rfl) ⟨s, ⟨_, rfl, rfl⟩, hS, fun _ _ => rfl⟩
          | 1, _ => exact stepV rfl rfl (execAsgB rfl rfl) ⟨s, ⟨_, rfl, rfl⟩, hS, fun _ _ => rfl⟩
          | 2, _ => exact stepV rfl rfl (execAsgB rfl rfl) ⟨s, ⟨_, rfl, rfl⟩, hS, fun _ _ => rfl⟩
          | k_ + 3, h_ => exact absurd h_ (by simp)
        rintro _ a X2 h1 h2 h3 h4 hS
        clear BB
        replace hS : Below V.heap.size V X2 := hS
        have BB := hS
        clear hS
        have t4 : a.eval (.tmp 4) = .slice none 0 0 := h4 0 _ rfl _ rfl
        have t5 : a.eval (.tmp 5) = .slice none 0 0 := h4 1 _ rfl _ rfl
        have t6 : a.eval (.tmp 6) = .int .i64 ((2 : Nat) : Int) := h4 2 _ rfl _ rfl
        replace A := (⟨h1, h2.trans A.2⟩ : a.tmps.size = 61 ∧ a.defers = [])
        clear h1 h2 h3 h4
        clear t0 t1
        have hE : paE sf J df m = 2 := paE_no fun q => by have := (paQ_iff.1 q).2.2; rw [hfal] at this; cases this
        rw [hE, zl_no (by decide)]
        refine wp_ret ?_
        repeat (first | refine ret_in ?_ | refine ret_then ?_)
        refine bodyPost_ret (results_tmp3 rfl _ _ _) A.2 ⟨_, _, ?_, fm2nil _ _ _, BB⟩
        show Ending.returned (.tuple #[a.eval (.tmp 4), a.eval (.tmp 5), a.eval (.tmp 6)]) = _
        rw [t4, t5, t6]
      | true =>
        refine wp_region_sq (σ := Unit) 61 [(0, 12), (1, 13), (2, 14), (3, 15), (4, 16), (5, 17), (6, 18), (7, 19), (8, 20), (9, 21), (10, 22), (11, 23), (12, 24), (13, 25), (14, 26)] (fun j_ s X => match j_ with | 0 => Below V.heap.size V X | 1 => Below V.heap.size V X | 2 => Below V.heap.size V X | 3 => Below V.heap.size V X | 4 => Below V.heap.size V X | 5 => Below V.heap.size V X | 6 => Below V.heap.size V X | 7 => Below V.heap.size V X | 8 => Below V.heap.size V X | 9 => Below V.heap.size V X | 10 => Below V.heap.size V X | 11 => Below V.heap.size V X | 12 => Below V.heap.size V X | 13 => Below V.heap.size V X | 14 => Below V.heap.size V X | _ => Below V.heap.size V X) (fun s => fun i_ => match i_ with | 0 => .slice ia J ic | 1 => .bool true | 2 => .bool false | 3 => .bool false | 4 => .slice ja m jc | 5 => .int .i64 ((m : Nat) : Int) | 6 => .slice ia J ic | 7 => .int .i64 ((sumN (gN sf) J : Nat) : Int) | 8 => .bool false | 9 => .bool false | 10 => .bool false | 11 => .slice ja m jc | 12 => .bool true | 13 => .bool false | 14 => .bool false | _ => undef) () A.1 (by kernel_rfl) (by decide) (by decide) (BB) ?_ ?_
        · intro i_ hi_ s a X hf hv hn hS
          match i_, hi_ with
          | 0, _ => exact stepV rfl rfl (execMvB rfl ((hf 0 (by decide)).trans t0)) ⟨s, ⟨_, rfl, rfl⟩, hS, fun _ _ => rfl⟩
          | 1, _ => exact stepC rfl rfl (execCall1 Try.func30 (by kernel_rfl) (by kernel_rfl) rfl (hv 0 (by omega) _ rfl _ rfl)) (hs ▸ pareSizes sf J _ X (FI.on hS) hJ17) fun e w' hh => ⟨_, hh.1, s, ⟨_, rfl, rfl⟩, (hS).trans ((hh.2).mono (hS).size), fun _ _ => rfl⟩
          | 2, _ => exact stepV rfl rfl (execNot8 rfl (hv 1 (by omega) _ rfl _ rfl)) ⟨s, ⟨_, rfl, rfl⟩, hS, fun _ _ => rfl⟩
          | 3, _ => exact stepV rfl rfl (execMvB rfl (hv 2 (by omega) _ rfl _ rfl)) ⟨s, ⟨_, rfl, rfl⟩, hS, fun _ _ => rfl⟩
          | 4, _ => exact stepV rfl (wantedOf rfl (yieldedAt rfl rfl (show a.eval (.tmp 15) = .bool false from (hv 3 (by omega) _ rfl _ rfl)))) (execMvB rfl ((hf 1 (by decide)).trans t1)) ⟨s, ⟨_, rfl, rfl⟩, hS, fun _ _ => rfl⟩
          | 5, _ => exact stepV rfl (wantedOf rfl (yieldedAt rfl rfl (show a.eval (.tmp 15) = .bool false from (hv 3 (by omega) _ rfl _ rfl)))) (execLenI (len := m) rfl (hv 4 (by omega) _ rfl _ rfl) ((FJ.on hS)).shp) ⟨s, ⟨_, rfl, rfl⟩, hS, fun _ _ => rfl⟩
          | 6, _ => exact stepV rfl (wantedOf rfl (yieldedAt rfl rfl (show a.eval (.tmp 15) = .bool false from (hv 3 (by omega) _ rfl _ rfl)))) (execMvB rfl ((hf 0 (by decide)).trans t0)) ⟨s, ⟨_, rfl, rfl⟩, hS, fun _ _ => rfl⟩
          | 7, _ => exact stepC rfl (wantedOf rfl (yieldedAt rfl rfl (show a.eval (.tmp 15) = .bool false from (hv 3 (by omega) _ rfl _ rfl)))) (execCall1 Try.func31 (by kernel_rfl) (by kernel_rfl) rfl (hv 6 (by omega) _ rfl _ rfl)) (psum sf J _ X (FI.on hS) (by omega) (fun j hj => (okS_iff.1 hok j hj).1) (by have := okS_sum hok; omega)) fun e w' hh => ⟨_, hh.1, s, ⟨_, rfl, rfl⟩, (hS).trans ((hh.2).mono (hS).size), fun _ _ => rfl⟩
          | 8, _ => exact stepV rfl (wantedOf rfl (yieldedAt rfl rfl (show a.eval (.tmp 15) = .bool false from (hv 3 (by omega) _ rfl _ rfl)))) (execDec (execNeN (p := m) (q := sumN (gN sf) J) rfl (hv 5 (by omega) _ rfl _ rfl) (hv 7 (by omega) _ rfl _ rfl)) (decide_eq_false (by omega))) ⟨s, ⟨_, rfl, rfl⟩, hS, fun _ _ => rfl⟩
          | 9, _ => exact stepV rfl rfl (execPickF rfl (hv 3 (by omega) _ rfl _ rfl) (hv 8 (by omega) _ rfl _ rfl)) ⟨s, ⟨_, rfl, rfl⟩, hS, fun _ _ => rfl⟩
          | 10, _ => exact stepV rfl rfl (execMvB rfl (hv 9 (by omega) _ rfl _ rfl)) ⟨s, ⟨_, rfl, rfl⟩, hS, fun _ _ => rfl⟩
          | 11, _ => exact stepV rfl (wantedOf rfl (yieldedAt rfl rfl (show a.eval (.tmp 22) = .bool false from (hv 10 (by omega) _ rfl _ rfl)))) (execMvB rfl ((hf 1 (by decide)).trans t1)) ⟨s, ⟨_, rfl, rfl⟩, hS, fun _ _ => rfl⟩
          | 12, _ => exact stepC rfl (wantedOf rfl (yieldedAt rfl rfl (show a.eval (.tmp 22) = .bool false from (hv 10 (by omega) _ rfl _ rfl)))) (execCall1 Try.func32 (by kernel_rfl) (by kernel_rfl) rfl (hv 11 (by omega) _ rfl _ rfl)) (hfal ▸ pareFalling df m _ X (FJ.on hS) hm17) fun e w' hh => ⟨_, hh.1, s, ⟨_, rfl, rfl⟩, (hS).trans ((hh.2).mono (hS).size), fun _ _ => rfl⟩
          | 13, _ => exact stepV rfl (wantedOf rfl (yieldedAt rfl rfl (show a.eval (.tmp 22) = .bool false from (hv 10 (by omega) _ rfl _ rfl)))) (execNot8 rfl (hv 12 (by omega) _ rfl _ rfl)) ⟨s, ⟨_, rfl, rfl⟩, hS, fun _ _ => rfl⟩
          | 14, _ => exact stepV rfl rfl (execPickF rfl (hv 10 (by omega) _ rfl _ rfl) (hv 13 (by omega) _ rfl _ rfl)) ⟨s, ⟨_, rfl, rfl⟩, hS, fun _ _ => rfl⟩
          | k_ + 15, h_ => exact absurd h_ (by simp)
        rintro _ a X1 h1 h2 h3 h4 hS
        clear BB
        replace hS : Below V.heap.size V X1 := hS
        have BB := hS
        clear hS
        replace t0 := (h3 0 (by decide)).trans t0
        replace t1 := (h3 1 (by decide)).trans t1
        have t26 : a.eval (.tmp 26) = .bool false := h4 14 _ rfl _ rfl
        replace A := (⟨h1, h2.trans A.2⟩ : a.tmps.size = 61 ∧ a.defers = [])
        clear h1 h2 h3 h4
        refine wp_cond_false t26 ?_
        refine wp_skip ?_
        clear t26
        have hpa : paQ sf J df m = true := paQ_iff.2 ⟨hs, hm, hfal⟩
        have hE : paE sf J df m = 0 := paE_ok hpa
        rw [hE, zl_ok]
        obtain ⟨hn, hD⟩ := pa_draws hpa
        have hpt := chD_pat hn hD
        have hsum := okS_sum hok
        have hJ64 : J ≤ 64 := (szQ_iff.1 hs).1.2
        have Fd : ∀ b, undef.ownBlock = some b → undef.ownBlock ≠ some b := fun b e => by cases e
        have Fb29 : ∀ b, undef.ownBlock = some b → b < X1.heap.size := fun b e => by cases e
        have Fb32 : ∀ b, undef.ownBlock = some b → b < X1.heap.size := fun b e => by cases e
        refine wp_seq ?_
        refine wp_region_stB (σ := Value × Value) 61 [(0, 27), (1, 28), (2, 29), (3, 30), (4, 31), (5, 32), (6, 4), (7, 5)] (fun l_ s X => Below V.heap.size V X ∧ ((∀ b, s.1.ownBlock = some b → s.2.ownBlock ≠ some b)) ∧ ((∀ b, s.1.ownBlock = some b → b < X.heap.size)) ∧ ((∀ b, s.2.ownBlock = some b → b < X.heap.size)) ∧ (l_ 2 = true → (X.ownsRow V.heap.size 3 1 s.1 (m) (intsL (m) (fun _ => 0)))) ∧ (l_ 5 = true → (X.ownsRow V.heap.size 3 1 s.2 (m) (intsL (m) (fun _ => 0))))) (fun s => fun i_ => match i_ with | 0 => .slice ja m jc | 1 => .int .i64 ((m : Nat) : Int) | 2 => s.1 | 3 => .slice ja m jc | 4 => .int .i64 ((m : Nat) : Int) | 5 => s.2 | 6 => s.1 | 7 => s.2 | _ => undef) (undef, undef) (by kernel_rfl) (by kernel_rfl) A.1 (by kernel_rfl) (by decide) (by decide) ⟨(BB.drew), ((Fd)), ((lt_on Fb29 (Below.refl _ _).drew)), ((lt_on Fb32 (Below.refl _ _).drew)), (fun q0_ => by cases q0_), (fun q0_ => by cases q0_)⟩ ?_ ?_
        · intro i_ hi_ l_ s a X hl_ hf hdep hl2 hcl hno hT
          have up : ∀ j x, x ≠ j → updB l_ j x = l_ x := fun j x hj => by unfold updB; simp [hj]
          match i_, hi_ with
          | 0, _ => exact stepV rfl rfl (execMvB rfl ((hf 1 (by decide)).trans t1)) ⟨s, ⟨_, rfl, rfl⟩, ⟨hT.1, (hT.2.1), (hT.2.2.1), (hT.2.2.2.1), (fun q0_ => absurd (hl_.symm.trans (hcl 1 _ rfl (hcl 2 _ rfl ((up 0 2 (by decide)).symm.trans q0_) 1 rfl) 0 rfl)) (by decide)), (fun q0_ => (hT.2.2.2.2.2 (by rw [up 0 5 (by decide)] at q0_; exact q0_)))⟩, fun _ _ _ => rfl⟩
          | 1, _ => exact stepV rfl rfl (execLenI (len := m) rfl (hdep _ rfl 0 rfl _ rfl _ rfl) ((FJ.on hT.1)).shp) ⟨s, ⟨_, rfl, rfl⟩, ⟨hT.1, (hT.2.1), (hT.2.2.1), (hT.2.2.2.1), (fun q0_ => absurd (hl_.symm.trans (hcl 2 _ rfl ((up 1 2 (by decide)).symm.trans q0_) 1 rfl)) (by decide)), (fun q0_ => (hT.2.2.2.2.2 (by rw [up 1 5 (by decide)] at q0_; exact q0_)))⟩, fun _ _ _ => rfl⟩
          | 2, _ =>
            refine stepV rfl rfl (execMkN rfl (hdep _ rfl 1 rfl _ rfl _ rfl) (hdep _ rfl 1 rfl _ rfl _ rfl) hm17) ⟨((.slice (some ⟨X.heap.size, 0, none⟩) m m), s.2), ⟨_, rfl, rfl⟩, ⟨(hT.1).trans ((belNew X _).mono (hT.1).size), (fun b e q => by have e1 : X.heap.size = b := Option.some.inj e; have := hT.2.2.2.1 b q; omega), (fun b e => by have e1 : X.heap.size = b := Option.some.inj e; have e2 : (X.alloc (.cells (madeCells #[.int .i64 0] m) 3)).heap.size = X.heap.size + 1 := (by simp); omega), ((lt_on hT.2.2.2.1 (belNew X _))), (fun _q0_ => ownD_base (own_mkZ X m (fun _ => 0) hm17 (fun _ _ => rfl)) (hT.1).size), (fun q0_ => (ownD_below (hT.2.2.2.2.2 (by rw [up 2 5 (by decide)] at q0_; exact q0_)) (belNew X _)))⟩, fun i hi hli => ?_⟩
            match i, hi with
            | 0, _ => rfl
            | 1, _ => rfl
            | 2, _ => exact absurd (hl_.symm.trans hli) (by decide)
            | 3, _ => rfl
            | 4, _ => rfl
            | 5, _ => rfl
            | 6, _ => exact absurd (hl_.symm.trans (hcl 6 _ rfl hli 2 rfl)) (by decide)
            | 7, _ => rfl
            | k_ + 8, h_ => exact absurd h_ (by simp)
          | 3, _ => exact stepV rfl rfl (execMvB rfl ((hf 1 (by decide)).trans t1)) ⟨s, ⟨_, rfl, rfl⟩, ⟨hT.1, (hT.2.1), (hT.2.2.1), (hT.2.2.2.1), (fun q0_ => (hT.2.2.2.2.1 (by rw [up 3 2 (by decide)] at q0_; exact q0_))), (fun q0_ => absurd (hl_.symm.trans (hcl 4 _ rfl (hcl 5 _ rfl ((up 3 5 (by decide)).symm.trans q0_) 4 rfl) 3 rfl)) (by decide))⟩, fun _ _ _ => rfl⟩
          | 4, _ => exact stepV rfl rfl (execLenI (len := m) rfl (hdep _ rfl 3 rfl _ rfl _ rfl) ((FJ.on hT.1)).shp) ⟨s, ⟨_, rfl, rfl⟩, ⟨hT.1, (hT.2.1), (hT.2.2.1), (hT.2.2.2.1), (fun q0_ => (hT.2.2.2.2.1 (by rw [up 4 2 (by decide)] at q0_; exact q0_))), (fun q0_ => absurd (hl_.symm.trans (hcl 5 _ rfl ((up 4 5 (by decide)).symm.trans q0_) 4 rfl)) (by decide))⟩, fun _ _ _ => rfl⟩
          | 5, _ =>
            refine stepV rfl rfl (execMkN rfl (hdep _ rfl 4 rfl _ rfl _ rfl) (hdep _ rfl 4 rfl _ rfl _ rfl) hm17) ⟨(s.1, (.slice (some ⟨X.heap.size, 0, none⟩) m m)), ⟨_, rfl, rfl⟩, ⟨(hT.1).trans ((belNew X _).mono (hT.1).size), (fun b e q => by have e1 : X.heap.size = b := Option.some.inj q; have := hT.2.2.1 b e; omega), ((lt_on hT.2.2.1 (belNew X _))), (fun b e => by have e1 : X.heap.size = b := Option.some.inj e; have e2 : (X.alloc (.cells (madeCells #[.int .i64 0] m) 3)).heap.size = X.heap.size + 1 := (by simp); omega), (fun q0_ => (ownD_below (hT.2.2.2.2.1 (by rw [up 5 2 (by decide)] at q0_; exact q0_)) (belNew X _))), (fun _q0_ => ownD_base (own_mkZ X m (fun _ => 0) hm17 (fun _ _ => rfl)) (hT.1).size)⟩, fun i hi hli => ?_⟩
            match i, hi with
            | 0, _ => rfl
            | 1, _ => rfl
            | 2, _ => rfl
            | 3, _ => rfl
            | 4, _ => rfl
            | 5, _ => exact absurd (hl_.symm.trans hli) (by decide)
            | 6, _ => rfl
            | 7, _ => exact absurd (hl_.symm.trans (hcl 7 _ rfl hli 5 rfl)) (by decide)
            | k_ + 8, h_ => exact absurd h_ (by simp)
          | 6, _ => exact stepV rfl rfl (execAsgB rfl (hdep _ rfl 2 rfl _ rfl _ rfl)) ⟨s, ⟨_, rfl, rfl⟩, ⟨hT.1, (hT.2.1), (hT.2.2.1), (hT.2.2.2.1), (fun q0_ => (hT.2.2.2.2.1 (by rw [up 6 2 (by decide)] at q0_; exact q0_))), (fun q0_ => (hT.2.2.2.2.2 (by rw [up 6 5 (by decide)] at q0_; exact q0_)))⟩, fun _ _ _ => rfl⟩
          | 7, _ => exact stepV rfl rfl (execAsgB rfl (hdep _ rfl 5 rfl _ rfl _ rfl)) ⟨s, ⟨_, rfl, rfl⟩, ⟨hT.1, (hT.2.1), (hT.2.2.1), (hT.2.2.2.1), (fun q0_ => (hT.2.2.2.2.1 (by rw [up 7 2 (by decide)] at q0_; exact q0_))), (fun q0_ => (hT.2.2.2.2.2 (by rw [up 7 5 (by decide)] at q0_; exact q0_)))⟩, fun _ _ _ => rfl⟩
          | k_ + 8, h_ => exact absurd h_ (by simp)
        rintro l_ ⟨v29, v32⟩ a X3 h1 h2 h3 h4 hall hT
        clear BB
        clear Fd
        clear Fb29
        clear Fb32
        obtain ⟨BB, Fd, Fb29, Fb32, Fv29, Fv32⟩ := hT
        replace Fd : (∀ b, v29.ownBlock = some b → v32.ownBlock ≠ some b) := Fd
        replace Fb29 : (∀ b, v29.ownBlock = some b → b < X3.heap.size) := Fb29
        replace Fb32 : (∀ b, v32.ownBlock = some b → b < X3.heap.size) := Fb32
        replace Fv29 : (X3.ownsRow V.heap.size 3 1 v29 (m) (intsL (m) (fun _ => 0))) := Fv29 (hall 2 (by decide))
        replace Fv32 : (X3.ownsRow V.heap.size 3 1 v32 (m) (intsL (m) (fun _ => 0))) := Fv32 (hall 5 (by decide))
        clear hall
        replace t0 := (h3 0 (by decide)).trans t0
        replace t1 := (h3 1 (by decide)).trans t1
        have t4 : a.eval (.tmp 4) = v29 := h4 (6, 4) (by decide)
        have t5 : a.eval (.tmp 5) = v32 := h4 (7, 5) (by decide)
        replace A := (⟨h1, h2.trans A.2⟩ : a.tmps.size = 61 ∧ a.defers = [])
        clear h1 h2 h3 h4
        refine wp_seq ?_
        refine wp_region_sq (σ := Value × Value × Nat) 61 [(0, 33), (1, 34), (2, 7)] (fun j_ s X => match j_ with | 0 => Below V.heap.size V X ∧ (∀ b, v29.ownBlock = some b → v32.ownBlock ≠ some b) ∧ (∀ b, v29.ownBlock = some b → b < X.heap.size) ∧ (∀ b, v32.ownBlock = some b → b < X.heap.size) ∧ (X.ownsRow V.heap.size 3 1 v29 (m) (intsL (m) (fun _ => 0))) ∧ (X.ownsRow V.heap.size 3 1 v32 (m) (intsL (m) (fun _ => 0))) | 1 => Below V.heap.size V X ∧ (∀ b, v29.ownBlock = some b → v32.ownBlock ≠ some b) ∧ (∀ b, v29.ownBlock = some b → b < X.heap.size) ∧ (∀ b, v32.ownBlock = some b → b < X.heap.size) ∧ (X.ownsRow V.heap.size 3 1 v29 (m) (intsL (m) (fun _ => 0))) ∧ (X.ownsRow V.heap.size 3 1 v32 (m) (intsL (m) (fun _ => 0))) | 2 => Below V.heap.size V X ∧ (FmI V.heap.size 4 (x4 v29 v32 s.1 s.2.1) (n4 m J) (ffP sf J df 0) X) ∧ (∃ g_ n_ c_, s.1 = .slice g_ n_ c_) ∧ (∃ g_ n_ c_, s.2.1 = .slice g_ n_ c_) | 3 => Below V.heap.size V X ∧ (FmI V.heap.size 4 (x4 v29 v32 s.1 s.2.1) (n4 m J) (ffP sf J df 0) X) ∧ (∃ g_ n_ c_, s.1 = .slice g_ n_ c_) ∧ (∃ g_ n_ c_, s.2.1 = .slice g_ n_ c_) ∧ (X.heap[s.2.2]? = some (.cells (rsC (.slice none 0 0) (.slice none 0 0)) 69)) ∧ (V.heap.size ≤ s.2.2) | _ => Below V.heap.size V X ∧ (FmI V.heap.size 4 (x4 v29 v32 s.1 s.2.1) (n4 m J) (ffP sf J df 0) X) ∧ (∃ g_ n_ c_, s.1 = .slice g_ n_ c_) ∧ (∃ g_ n_ c_, s.2.1 = .slice g_ n_ c_) ∧ (V.heap.size ≤ s.2.2) ∧ (X.heap[s.2.2]? = some (.cells (rsC (s.1) (s.2.1)) 69))) (fun s => fun i_ => match i_ with | 0 => .slice ia J ic | 1 => .agg (rsC (s.1) (s.2.1)) | 2 => .pointer (some ⟨s.2.2, 0, none⟩) | 3 => undef | _ => undef) (undef, undef, 0) A.1 (by kernel_rfl) (by decide) (by decide) ⟨BB, Fd, Fb29, Fb32, Fv29, Fv32⟩ ?_ ?_
        · intro i_ hi_ s a X hf hv hn hS
          match i_, hi_ with
          | 0, _ => exact stepV rfl rfl (execMvB rfl ((hf 0 (by decide)).trans t0)) ⟨s, ⟨_, rfl, rfl⟩, hS, fun _ _ => rfl⟩
          | 1, _ =>
            refine stepC rfl rfl (execCall1 Try.func33 (by kernel_rfl) (by kernel_rfl) rfl (hv 0 (by omega) _ rfl _ rfl)) (pbegin sf J _ X (FI.on hS.1) hJ64 hok) fun e w' hh => ?_
            obtain ⟨l_, x_, he, hk, hb⟩ := hh
            refine ⟨_, he, (l_, x_, s.2.2), ⟨_, rfl, rfl⟩, ⟨(hS.1).trans ((hb).mono (hS.1).size), FmI.cgF (fm4 (ownD_below hS.2.2.2.2.1 hb) (ownD_below hS.2.2.2.2.2 hb) hS.2.1 hS.2.2.1 hS.2.2.2.1 hk (hS.1).size) (ffP_zero sf J df m), shp3 (hk.rows 0 (by omega)), shp3 (hk.rows 1 (by omega))⟩, fun i hi => ?_⟩
            match i, hi with
            | 0, _ => rfl
            | n_ + 1, h_ => omega
          | 2, _ =>
            refine stepV rfl rfl (execAllRs rfl) ⟨(s.1, s.2.1, X.heap.size), ⟨_, rfl, rfl⟩, ⟨(hS.1).trans (((belNew X _)).mono (hS.1).size), (hS.2.1.on (belNew X _)), hS.2.2.1, hS.2.2.2, heapNew X _, (hS.1).size⟩, fun i hi => ?_⟩
            match i, hi with
            | 0, _ => rfl
            | 1, _ => rfl
            | n_ + 2, h_ => omega
          | 3, _ =>
            refine stepS rfl rfl (execStRs rfl (hv 2 (by omega) _ rfl _ rfl) (hv 1 (by omega) _ rfl _ rfl) hS.2.2.2.2.1 hS.2.2.1 hS.2.2.2.1) ⟨s, ⟨_, rfl, rfl⟩, ⟨below4 hS.1 hS.2.2.2.2.2 _, (hS.2.1.setT hS.2.2.2.2.1 (by decide)), hS.2.2.1, hS.2.2.2.1, hS.2.2.2.2.2, setRow_heap _ _ _ _ _ _ hS.2.2.2.2.1⟩, fun i hi => ?_⟩
            match i, hi with
            | 0, _ => rfl
            | 1, _ => rfl
            | 2, _ => rfl
            | n_ + 3, h_ => omega
          | k_ + 4, h_ => exact absurd h_ (by simp)
        rintro ⟨lv, xv, g7⟩ a X4 h1 h2 h3 h4 hS
        clear BB
        clear Fd
        clear Fb29
        clear Fb32
        clear Fv29
        clear Fv32
        replace hS : Below V.heap.size V X4 ∧ (FmI V.heap.size 4 (x4 v29 v32 lv xv) (n4 m J) (ffP sf J df 0) X4) ∧ (∃ g_ n_ c_, lv = .slice g_ n_ c_) ∧ (∃ g_ n_ c_, xv = .slice g_ n_ c_) ∧ (V.heap.size ≤ g7) ∧ (X4.heap[g7]? = some (.cells (rsC (lv) (xv)) 69)) := hS
        obtain ⟨BB, FM, Fhl, Fhx, F7g, F7B⟩ := hS
        replace t1 := (h3 1 (by decide)).trans t1
        replace t4 := (h3 4 (by decide)).trans t4
        replace t5 := (h3 5 (by decide)).trans t5
        have t7 : a.eval (.tmp 7) = .pointer (some ⟨g7, 0, none⟩) := h4 2 _ rfl _ rfl
        replace A := (⟨h1, h2.trans A.2⟩ : a.tmps.size = 61 ∧ a.defers = [])
        clear h1 h2 h3 h4
        clear t0
        refine wp_seq ?_
        refine wp_seq ?_
        refine wp_region_sq (σ := Unit) 61 [(0, 35), (1, 36), (2, 37)] (fun j_ s X => match j_ with | 0 => Below V.heap.size V X ∧ (FmI V.heap.size 4 (x4 v29 v32 lv xv) (n4 m J) (ffP sf J df 0) X) ∧ (X.heap[g7]? = some (.cells (rsC (lv) (xv)) 69)) | 1 => Below V.heap.size V X ∧ (FmI V.heap.size 4 (x4 v29 v32 lv xv) (n4 m J) (ffP sf J df 0) X) ∧ (X.heap[g7]? = some (.cells (rsC (lv) (xv)) 69)) | 2 => Below V.heap.size V X ∧ (FmI V.heap.size 4 (x4 v29 v32 lv xv) (n4 m J) (ffP sf J df 0) X) ∧ (X.heap[g7]? = some (.cells (rsC (lv) (xv)) 69)) | _ => Below V.heap.size V X ∧ (FmI V.heap.size 4 (x4 v29 v32 lv xv) (n4 m J) (ffP sf J df 0) X) ∧ (X.heap[g7]? = some (.cells (rsC (lv) (xv)) 69))) (fun s => fun i_ => match i_ with | 0 => .slice ja m jc | 1 => .int .i64 ((m : Nat) : Int) | 2 => .int .i64 ((0 : Nat) : Int) | _ => undef) () A.1 (by kernel_rfl) (by decide) (by decide) ⟨BB, FM, F7B⟩ ?_ ?_
        · intro i_ hi_ s a X hf hv hn hS
          match i_, hi_ with
          | 0, _ => exact stepV rfl rfl (execMvB rfl ((hf 1 (by decide)).trans t1)) ⟨s, ⟨_, rfl, rfl⟩, hS, fun _ _ => rfl⟩
          | 1, _ => exact stepV rfl rfl (execLenI (len := m) rfl (hv 0 (by omega) _ rfl _ rfl) ((FJ.on hS.1)).shp) ⟨s, ⟨_, rfl, rfl⟩, hS, fun _ _ => rfl⟩
          | 2, _ => exact stepV rfl rfl (execMvB rfl rfl) ⟨s, ⟨_, rfl, rfl⟩, hS, fun _ _ => rfl⟩
          | k_ + 3, h_ => exact absurd h_ (by simp)
        rintro _ a X5 h1 h2 h3 h4 hS
        clear BB
        clear FM
        clear F7B
        replace hS : Below V.heap.size V X5 ∧ (FmI V.heap.size 4 (x4 v29 v32 lv xv) (n4 m J) (ffP sf J df 0) X5) ∧ (X5.heap[g7]? = some (.cells (rsC (lv) (xv)) 69)) := hS
        obtain ⟨BB, FM, F7B⟩ := hS
        replace t4 := (h3 4 (by decide)).trans t4
        replace t5 := (h3 5 (by decide)).trans t5
        replace t7 := (h3 7 (by decide)).trans t7
        have t35 : a.eval (.tmp 35) = .slice ja m jc := h4 0 _ rfl _ rfl
        have t36 : a.eval (.tmp 36) = .int .i64 ((m : Nat) : Int) := h4 1 _ rfl _ rfl
        have t37 : a.eval (.tmp 37) = .int .i64 ((0 : Nat) : Int) := h4 2 _ rfl _ rfl
        replace A := (⟨h1, h2.trans A.2⟩ : a.tmps.size = 61 ∧ a.defers = [])
        clear h1 h2 h3 h4
        clear t1
        refine wp_block ?_
        refine wp_loop (fun a W => ∃ (i : Nat), i ≤ m ∧ (a.tmps.size = 61 ∧ a.defers = []) ∧ a.eval (.tmp 4) = v29 ∧ a.eval (.tmp 5) = v32 ∧ a.eval (.tmp 7) = .pointer (some ⟨g7, 0, none⟩) ∧ a.eval (.tmp 35) = .slice ja m jc ∧ a.eval (.tmp 36) = .int .i64 ((m : Nat) : Int) ∧ a.eval (.tmp 37) = .int .i64 ((i : Nat) : Int) ∧ Below V.heap.size V W ∧ (W.heap[g7]? = some (.cells (rsC (lv) (xv)) 69)) ∧ (FmI V.heap.size 4 (x4 v29 v32 lv xv) (n4 m J) (ffP sf J df i) W)) (fun a _ => m - (intOf (a.eval (.tmp 37))).toNat) ⟨0, Nat.zero_le _, A, t4, t5, t7, t35, t36, t37, BB, F7B, FM⟩ ?_
        clear A t4 t5 t7 t35 t36 t37 BB F7B FM a
        rintro a XL6 ⟨i, hi, A, t4, t5, t7, t35, t36, t37, BB, F7B, FM⟩
        have esi := t37
        refine wp_seq ?_
        refine wp_region_sq (σ := Unit) 61 [(0, 38)] (fun j_ s X => match j_ with | 0 => Below V.heap.size V X ∧ (X.heap[g7]? = some (.cells (rsC (lv) (xv)) 69)) ∧ (FmI V.heap.size 4 (x4 v29 v32 lv xv) (n4 m J) (ffP sf J df i) X) | _ => Below V.heap.size V X ∧ (X.heap[g7]? = some (.cells (rsC (lv) (xv)) 69)) ∧ (FmI V.heap.size 4 (x4 v29 v32 lv xv) (n4 m J) (ffP sf J df i) X)) (fun s => fun i_ => match i_ with | 0 => .bool (decide (i < m)) | _ => undef) () A.1 (by kernel_rfl) (by decide) (by decide) ⟨BB, F7B, FM⟩ ?_ ?_
        · intro i_ hi_ s a X hf hv hn hS
          match i_, hi_ with
          | 0, _ => exact stepV rfl rfl (execLtW (p := i) (q := m) rfl ((hf 37 (by decide)).trans t37) ((hf 36 (by decide)).trans t36)) ⟨s, ⟨_, rfl, rfl⟩, hS, fun _ _ => rfl⟩
          | k_ + 1, h_ => exact absurd h_ (by simp)
        rintro _ a X6 h1 h2 h3 h4 hS
        clear BB
        clear F7B
        clear FM
        replace hS : Below V.heap.size V X6 ∧ (X6.heap[g7]? = some (.cells (rsC (lv) (xv)) 69)) ∧ (FmI V.heap.size 4 (x4 v29 v32 lv xv) (n4 m J) (ffP sf J df i) X6) := hS
        obtain ⟨BB, F7B, FM⟩ := hS
        replace t4 := (h3 4 (by decide)).trans t4
        replace t5 := (h3 5 (by decide)).trans t5
        replace t7 := (h3 7 (by decide)).trans t7
        replace t35 := (h3 35 (by decide)).trans t35
        replace t36 := (h3 36 (by decide)).trans t36
        replace t37 := (h3 37 (by decide)).trans t37
        have t38 : a.eval (.tmp 38) = .bool (decide (i < m)) := h4 0 _ rfl _ rfl
        replace A := (⟨h1, h2.trans A.2⟩ : a.tmps.size = 61 ∧ a.defers = [])
        clear h1 h2 h3 h4
        refine wp_seq ?_
        by_cases lti : i < m
        · rw [decide_eq_true lti] at t38
          refine wp_cond_true t38 ?_
          refine wp_skip ?_
          clear t38
          refine wp_seq ?_
          refine wp_block ?_
          obtain ⟨jb, jo, rfl, hjb, hcelj⟩ := hsj (by omega)
          have cJ : ∀ k, k < m → ∀ X, Below V.heap.size V X → X.cell? ⟨jb, jo + k, none⟩ = some (.int .i64 (df k)) := fun k hk X hX => by rw [cell_below hX hjb]; exact hcelj k hk
          obtain ⟨w, ew⟩ : ∃ w : Nat, df i = w := ⟨(df i).toNat, by have := faQ_iff.1 hfal i lti; omega⟩
          have cW : ∀ X, Below V.heap.size V X → X.cell? ⟨jb, jo + i, none⟩ = some (.int .i64 ((w : Nat) : Int)) := fun X hX => by rw [cJ i lti X hX, ew]
          have hw : gN df i = w := by show (df i).toNat = w; omega
          obtain ⟨c, ec⟩ : ∃ c, chD (gN sf) J (gN df) i = c := ⟨_, rfl⟩
          obtain ⟨o_, eo⟩ : ∃ o_, ofD (gN sf) J (gN df) i = o_ := ⟨_, rfl⟩
          have hcJ : c < J := by rw [← ec]; exact hpt.lt i lti
          have hp0 : poC (gN sf) (chD (gN sf) J (gN df)) i = sumN (gN sf) c + cntC (chD (gN sf) J (gN df)) c i := by rw [← ec]; rfl
          have hpm : sumN (gN sf) c + cntC (chD (gN sf) J (gN df)) c i < m := by rw [← hp0]; exact poC_lt hn hpt lti
          have hq0 := ofD_lt hn hD lti
          rw [ec, eo] at hq0
          have hsl : sumN (lefC (gN sf) (chD (gN sf) J (gN df)) i) J = m - i := by rw [← lfD_is]; exact lfD_sum hn (by omega) (fun k hk => hD k (by omega))
          have hDi := hD i lti
          rw [hw] at hDi
          obtain ⟨p_, ep⟩ : ∃ p_, sumN (gN sf) c + cntC (chD (gN sf) J (gN df)) c i = p_ := ⟨_, rfl⟩
          obtain ⟨q_, eq⟩ : ∃ q_, lefC (gN sf) (chD (gN sf) J (gN df)) i c = q_ := ⟨_, rfl⟩
          have hqs : q_ ≤ 256 := by
            have h1 : q_ ≤ gN sf c := by rw [← eq]; exact Nat.sub_le _ _
            have h2 := sumN_at (r := gN sf) hcJ
            omega
          rw [ep] at hpm
          rw [eq] at hq0
          have cT : ∀ X, FmI V.heap.size 4 (x4 v29 v32 lv xv) (n4 m J) (ffP sf J df i) X → Calls Try.prog 34 #[.agg (rsC lv xv), .int .i64 ((w : Nat) : Int)] X fun e w' => e = .returned (.tuple #[.int .i64 ((c : Nat) : Int), .int .i64 ((o_ : Nat) : Int)]) ∧ Below X.heap.size X w' := fun X hX => by
            have h_ := ptold (lefC (gN sf) (chD (gN sf) J (gN df)) i) J w lv xv X (own_ints (hX.rows 2 (by omega)) (fun j hj => lef_fits sf J df i j hok hj)) (by omega) (by omega) hJ64
            have e1 : pj (lefC (gN sf) (chD (gN sf) J (gN df)) i) w J = c := by rw [← ec, ← lfD_is, ← hw]; rfl
            have e2 : w - sumN (lefC (gN sf) (chD (gN sf) J (gN df)) i) c = o_ := by rw [← eo, ← ec, ← lfD_is, ← hw]; rfl
            rw [e1, e2] at h_
            exact h_
          obtain ⟨g29, c29, e29, hB29, _⟩ := ownL_some9 (FM.rows 0 (by omega)) (show 0 < m by omega)
          obtain ⟨g32, c32, e32, hB32, _⟩ := ownL_some9 (FM.rows 1 (by omega)) (show 0 < m by omega)
          have n29 : g7 ≠ g29 := fun q => FM.notT (t := 0) (by omega) F7B (by decide) (by rw [e29, q]; rfl)
          have n32 : g7 ≠ g32 := fun q => FM.notT (t := 1) (by omega) F7B (by decide) (by rw [e32, q]; rfl)
          refine wp_seq ?_
          refine wp_region_sq (σ := Unit) 61 [(0, 39), (1, 40), (2, 41), (3, 8), (4, 9)] (fun j_ s X => match j_ with | 0 => Below V.heap.size V X ∧ (X.heap[g7]? = some (.cells (rsC (lv) (xv)) 69)) ∧ (FmI V.heap.size 4 (x4 v29 v32 lv xv) (n4 m J) (ffP sf J df i) X) | 1 => Below V.heap.size V X ∧ (X.heap[g7]? = some (.cells (rsC (lv) (xv)) 69)) ∧ (FmI V.heap.size 4 (x4 v29 v32 lv xv) (n4 m J) (ffP sf J df i) X) | 2 => Below V.heap.size V X ∧ (X.heap[g7]? = some (.cells (rsC (lv) (xv)) 69)) ∧ (FmI V.heap.size 4 (x4 v29 v32 lv xv) (n4 m J) (ffP sf J df i) X) | 3 => Below V.heap.size V X ∧ (X.heap[g7]? = some (.cells (rsC (lv) (xv)) 69)) ∧ (FmI V.heap.size 4 (x4 v29 v32 lv xv) (n4 m J) (ffP sf J df i) X) | 4 => Below V.heap.size V X ∧ (X.heap[g7]? = some (.cells (rsC (lv) (xv)) 69)) ∧ (FmI V.heap.size 4 (x4 v29 v32 lv xv) (n4 m J) (ffP sf J df i) X) | _ => Below V.heap.size V X ∧ (X.heap[g7]? = some (.cells (rsC (lv) (xv)) 69)) ∧ (FmI V.heap.size 4 (x4 v29 v32 lv xv) (n4 m J) (ffP sf J df i) X)) (fun s => fun i_ => match i_ with | 0 => .int .i64 ((i : Nat) : Int) | 1 => .pointer (some ⟨jb, jo + i, none⟩) | 2 => .int .i64 ((w : Nat) : Int) | 3 => .int .i64 ((i : Nat) : Int) | 4 => .int .i64 ((w : Nat) : Int) | _ => undef) () A.1 (by kernel_rfl) (by decide) (by decide) ⟨BB, F7B, FM⟩ ?_ ?_
          · intro i_ hi_ s a X hf hv hn hS
            match i_, hi_ with
            | 0, _ => exact stepV rfl rfl (execMvB rfl ((hf 37 (by decide)).trans t37)) ⟨s, ⟨_, rfl, rfl⟩, hS, fun _ _ => rfl⟩
            | 1, _ => exact stepV rfl rfl (execIdxN (k := i) rfl ((hf 35 (by decide)).trans t35) ((hf 37 (by decide)).trans t37) lti) ⟨s, ⟨_, rfl, rfl⟩, hS, fun _ _ => rfl⟩
            | 2, _ => exact stepV rfl rfl (execLd3 rfl (hv 1 (by omega) _ rfl _ rfl) (cW X hS.1)) ⟨s, ⟨_, rfl, rfl⟩, hS, fun _ _ => rfl⟩
            | 3, _ => exact stepV rfl rfl (execAsgB rfl (hv 0 (by omega) _ rfl _ rfl)) ⟨s, ⟨_, rfl, rfl⟩, hS, fun _ _ => rfl⟩
            | 4, _ => exact stepV rfl rfl (execAsgB rfl (hv 2 (by omega) _ rfl _ rfl)) ⟨s, ⟨_, rfl, rfl⟩, hS, fun _ _ => rfl⟩
            | k_ + 5, h_ => exact absurd h_ (by simp)
          rintro _ a X7 h1 h2 h3 h4 hS
          clear BB
          clear F7B
          clear FM
          replace hS : Below V.heap.size V X7 ∧ (X7.heap[g7]? = some (.cells (rsC (lv) (xv)) 69)) ∧ (FmI V.heap.size 4 (x4 v29 v32 lv xv) (n4 m J) (ffP sf J df i) X7) := hS
          obtain ⟨BB, F7B, FM⟩ := hS
          replace t4 := (h3 4 (by decide)).trans t4
          replace t5 := (h3 5 (by decide)).trans t5
          replace t7 := (h3 7 (by decide)).trans t7
          replace t35 := (h3 35 (by decide)).trans t35
          replace t36 := (h3 36 (by decide)).trans t36
          replace t37 := (h3 37 (by decide)).trans t37
          have t8 : a.eval (.tmp 8) = .int .i64 ((i : Nat) : Int) := h4 3 _ rfl _ rfl
          have t9 : a.eval (.tmp 9) = .int .i64 ((w : Nat) : Int) := h4 4 _ rfl _ rfl
          replace A := (⟨h1, h2.trans A.2⟩ : a.tmps.size = 61 ∧ a.defers = [])
          clear h1 h2 h3 h4
          refine wp_seq ?_
          refine wp_region_sq (σ := Unit) 61 [(0, 43), (1, 44), (2, 45), (3, 42), (4, 46), (5, 47), (6, 10), (7, 11)] (fun j_ s X => match j_ with | 0 => Below V.heap.size V X ∧ (X.heap[g7]? = some (.cells (rsC (lv) (xv)) 69)) ∧ (FmI V.heap.size 4 (x4 v29 v32 lv xv) (n4 m J) (ffP sf J df i) X) | 1 => Below V.heap.size V X ∧ (X.heap[g7]? = some (.cells (rsC (lv) (xv)) 69)) ∧ (FmI V.heap.size 4 (x4 v29 v32 lv xv) (n4 m J) (ffP sf J df i) X) | 2 => Below V.heap.size V X ∧ (X.heap[g7]? = some (.cells (rsC (lv) (xv)) 69)) ∧ (FmI V.heap.size 4 (x4 v29 v32 lv xv) (n4 m J) (ffP sf J df i) X) | 3 => Below V.heap.size V X ∧ (X.heap[g7]? = some (.cells (rsC (lv) (xv)) 69)) ∧ (FmI V.heap.size 4 (x4 v29 v32 lv xv) (n4 m J) (ffP sf J df i) X) | 4 => Below V.heap.size V X ∧ (X.heap[g7]? = some (.cells (rsC (lv) (xv)) 69)) ∧ (FmI V.heap.size 4 (x4 v29 v32 lv xv) (n4 m J) (ffP sf J df i) X) | 5 => Below V.heap.size V X ∧ (X.heap[g7]? = some (.cells (rsC (lv) (xv)) 69)) ∧ (FmI V.heap.size 4 (x4 v29 v32 lv xv) (n4 m J) (ffP sf J df i) X) | 6 => Below V.heap.size V X ∧ (X.heap[g7]? = some (.cells (rsC (lv) (xv)) 69)) ∧ (FmI V.heap.size 4 (x4 v29 v32 lv xv) (n4 m J) (ffP sf J df i) X) | 7 => Below V.heap.size V X ∧ (X.heap[g7]? = some (.cells (rsC (lv) (xv)) 69)) ∧ (FmI V.heap.size 4 (x4 v29 v32 lv xv) (n4 m J) (ffP sf J df i) X) | _ => Below V.heap.size V X ∧ (X.heap[g7]? = some (.cells (rsC (lv) (xv)) 69)) ∧ (FmI V.heap.size 4 (x4 v29 v32 lv xv) (n4 m J) (ffP sf J df i) X)) (fun s => fun i_ => match i_ with | 0 => .agg (rsC (lv) (xv)) | 1 => .int .i64 ((w : Nat) : Int) | 2 => .tuple #[.int .i64 ((c : Nat) : Int), .int .i64 ((o_ : Nat) : Int)] | 3 => .tuple #[.int .i64 ((c : Nat) : Int), .int .i64 ((o_ : Nat) : Int)] | 4 => .int .i64 ((c : Nat) : Int) | 5 => .int .i64 ((o_ : Nat) : Int) | 6 => .int .i64 ((c : Nat) : Int) | 7 => .int .i64 ((o_ : Nat) : Int) | _ => undef) () A.1 (by kernel_rfl) (by decide) (by decide) ⟨BB, F7B, FM⟩ ?_ ?_
          · intro i_ hi_ s a X hf hv hn hS
            match i_, hi_ with
            | 0, _ => exact stepV rfl rfl (execLdRs rfl ((hf 7 (by decide)).trans t7) hS.2.1) ⟨s, ⟨_, rfl, rfl⟩, hS, fun _ _ => rfl⟩
            | 1, _ => exact stepV rfl rfl (execMvB rfl ((hf 9 (by decide)).trans t9)) ⟨s, ⟨_, rfl, rfl⟩, hS, fun _ _ => rfl⟩
            | 2, _ => exact stepC rfl rfl (execCall2 Try.func34 (by kernel_rfl) (by kernel_rfl) rfl (hv 0 (by omega) _ rfl _ rfl) (hv 1 (by omega) _ rfl _ rfl)) (cT X hS.2.2) fun e w' hh => ⟨_, hh.1, s, ⟨_, rfl, rfl⟩, ⟨(hS.1).trans ((hh.2).mono (hS.1).size), (on9 hS.2.1 hh.2), (hS.2.2.on hh.2)⟩, fun _ _ => rfl⟩
            | 3, _ => exact stepV rfl rfl (execMvB rfl (hv 2 (by omega) _ rfl _ rfl)) ⟨s, ⟨_, rfl, rfl⟩, hS, fun _ _ => rfl⟩
            | 4, _ => exact stepV rfl rfl (execExtT rfl (hv 3 (by omega) _ rfl _ rfl) rfl) ⟨s, ⟨_, rfl, rfl⟩, hS, fun _ _ => rfl⟩
            | 5, _ => exact stepV rfl rfl (execExtT rfl (hv 3 (by omega) _ rfl _ rfl) rfl) ⟨s, ⟨_, rfl, rfl⟩, hS, fun _ _ => rfl⟩
            | 6, _ => exact stepV rfl rfl (execAsgB rfl (hv 4 (by omega) _ rfl _ rfl)) ⟨s, ⟨_, rfl, rfl⟩, hS, fun _ _ => rfl⟩
            | 7, _ => exact stepV rfl rfl (execAsgB rfl (hv 5 (by omega) _ rfl _ rfl)) ⟨s, ⟨_, rfl, rfl⟩, hS, fun _ _ => rfl⟩
            | k_ + 8, h_ => exact absurd h_ (by simp)
          rintro _ a X8 h1 h2 h3 h4 hS
          clear BB
          clear F7B
          clear FM
          replace hS : Below V.heap.size V X8 ∧ (X8.heap[g7]? = some (.cells (rsC (lv) (xv)) 69)) ∧ (FmI V.heap.size 4 (x4 v29 v32 lv xv) (n4 m J) (ffP sf J df i) X8) := hS
          obtain ⟨BB, F7B, FM⟩ := hS
          replace t4 := (h3 4 (by decide)).trans t4
          replace t5 := (h3 5 (by decide)).trans t5
          replace t7 := (h3 7 (by decide)).trans t7
          replace t35 := (h3 35 (by decide)).trans t35
          replace t36 := (h3 36 (by decide)).trans t36
          replace t37 := (h3 37 (by decide)).trans t37
          replace t8 := (h3 8 (by decide)).trans t8
          have t10 : a.eval (.tmp 10) = .int .i64 ((c : Nat) : Int) := h4 6 _ rfl _ rfl
          have t11 : a.eval (.tmp 11) = .int .i64 ((o_ : Nat) : Int) := h4 7 _ rfl _ rfl
          replace A := (⟨h1, h2.trans A.2⟩ : a.tmps.size = 61 ∧ a.defers = [])
          clear h1 h2 h3 h4
          clear t9
          refine wp_seq ?_
          refine wp_region_sq (σ := Unit) 61 [(0, 48), (1, 49), (2, 50), (3, 51)] (fun j_ s X => match j_ with | 0 => Below V.heap.size V X ∧ (X.heap[g7]? = some (.cells (rsC (lv) (xv)) 69)) ∧ (FmI V.heap.size 4 (x4 v29 v32 lv xv) (n4 m J) (ffP sf J df i) X) | 1 => Below V.heap.size V X ∧ (X.heap[g7]? = some (.cells (rsC (lv) (xv)) 69)) ∧ (FmI V.heap.size 4 (x4 v29 v32 lv xv) (n4 m J) (ffP sf J df i) X) | 2 => Below V.heap.size V X ∧ (X.heap[g7]? = some (.cells (rsC (lv) (xv)) 69)) ∧ (FmI V.heap.size 4 (x4 v29 v32 lv xv) (n4 m J) (ffP sf J df i) X) | 3 => Below V.heap.size V X ∧ (X.heap[g7]? = some (.cells (rsC (lv) (xv)) 69)) ∧ (FmI V.heap.size 4 (x4 v29 v32 lv xv) (n4 m J) (ffP sf J df i) X) | 4 => Below V.heap.size V X ∧ (X.heap[g7]? = some (.cells (rsC (lv) (xv)) 69)) ∧ (FmI V.heap.size 4 (x4 v29 v32 lv xv) (n4 m J) (ffP sf J df i) X) | _ => Below V.heap.size V X ∧ (X.heap[g7]? = some (.cells (rsC (lv) (xv)) 69)) ∧ (FmI V.heap.size 4 (x4 v29 v32 lv xv) (n4 m J) (updF (ffP sf J df i) 0 i ((c : Nat) : Int)) X)) (fun s => fun i_ => match i_ with | 0 => v29 | 1 => .int .i64 ((i : Nat) : Int) | 2 => .int .i64 ((c : Nat) : Int) | 3 => .pointer (some ⟨g29, 0 + i, none⟩) | 4 => undef | _ => undef) () A.1 (by kernel_rfl) (by decide) (by decide) ⟨BB, F7B, FM⟩ ?_ ?_
          · intro i_ hi_ s a X hf hv hn hS
            match i_, hi_ with
            | 0, _ => exact stepV rfl rfl (execMvB rfl ((hf 4 (by decide)).trans t4)) ⟨s, ⟨_, rfl, rfl⟩, hS, fun _ _ => rfl⟩
            | 1, _ => exact stepV rfl rfl (execMvB rfl ((hf 8 (by decide)).trans t8)) ⟨s, ⟨_, rfl, rfl⟩, hS, fun _ _ => rfl⟩
            | 2, _ => exact stepV rfl rfl (execMvB rfl ((hf 10 (by decide)).trans t10)) ⟨s, ⟨_, rfl, rfl⟩, hS, fun _ _ => rfl⟩
            | 3, _ => exact stepV rfl rfl (execIdxN (k := i) rfl ((hv 0 (by omega) _ rfl _ rfl).trans e29) (hv 1 (by omega) _ rfl _ rfl) lti) ⟨s, ⟨_, rfl, rfl⟩, hS, fun _ _ => rfl⟩
            | 4, _ =>
              obtain ⟨hc_, hf_⟩ := hS.2.2.cell (t := 0) (by omega) e29 lti
              refine stepS rfl rfl (execStI9 rfl (hv 3 (by omega) _ rfl _ rfl) (hv 2 (by omega) _ rfl _ rfl) hc_ hf_) ⟨s, ⟨_, rfl, rfl⟩, ⟨(hS.1).setCell hB29 _, ((Below.heap_setCell _ _ _ _ n29).trans hS.2.1), hS.2.2.set (t := 0) (by omega) e29 _⟩, fun i hi => ?_⟩
              match i, hi with
              | 0, _ => rfl
              | 1, _ => rfl
              | 2, _ => rfl
              | 3, _ => rfl
              | n_ + 4, h_ => omega
            | k_ + 5, h_ => exact absurd h_ (by simp)
          rintro _ a X9 h1 h2 h3 h4 hS
          clear BB
          clear F7B
          clear FM
          replace hS : Below V.heap.size V X9 ∧ (X9.heap[g7]? = some (.cells (rsC (lv) (xv)) 69)) ∧ (FmI V.heap.size 4 (x4 v29 v32 lv xv) (n4 m J) (updF (ffP sf J df i) 0 i ((c : Nat) : Int)) X9) := hS
          obtain ⟨BB, F7B, FM1⟩ := hS
          replace t4 := (h3 4 (by decide)).trans t4
          replace t5 := (h3 5 (by decide)).trans t5
          replace t7 := (h3 7 (by decide)).trans t7
          replace t35 := (h3 35 (by decide)).trans t35
          replace t36 := (h3 36 (by decide)).trans t36
          replace t37 := (h3 37 (by decide)).trans t37
          replace t10 := (h3 10 (by decide)).trans t10
          replace t11 := (h3 11 (by decide)).trans t11
          replace A := (⟨h1, h2.trans A.2⟩ : a.tmps.size = 61 ∧ a.defers = [])
          clear h1 h2 h3 h4
          clear t8
          refine wp_region_sq (σ := Unit) 61 [(0, 52), (1, 53), (2, 54), (3, 55), (4, 56), (5, 57)] (fun j_ s X => match j_ with | 0 => Below V.heap.size V X ∧ (X.heap[g7]? = some (.cells (rsC (lv) (xv)) 69)) ∧ (FmI V.heap.size 4 (x4 v29 v32 lv xv) (n4 m J) (updF (ffP sf J df i) 0 i ((c : Nat) : Int)) X) | 1 => Below V.heap.size V X ∧ (X.heap[g7]? = some (.cells (rsC (lv) (xv)) 69)) ∧ (FmI V.heap.size 4 (x4 v29 v32 lv xv) (n4 m J) (updF (ffP sf J df i) 0 i ((c : Nat) : Int)) X) | 2 => Below V.heap.size V X ∧ (X.heap[g7]? = some (.cells (rsC (lv) (xv)) 69)) ∧ (FmI V.heap.size 4 (x4 v29 v32 lv xv) (n4 m J) (updF (ffP sf J df i) 0 i ((c : Nat) : Int)) X) | 3 => Below V.heap.size V X ∧ (X.heap[g7]? = some (.cells (rsC (lv) (xv)) 69)) ∧ (FmI V.heap.size 4 (x4 v29 v32 lv xv) (n4 m J) (updF (ffP sf J df i) 0 i ((c : Nat) : Int)) X) | 4 => Below V.heap.size V X ∧ (X.heap[g7]? = some (.cells (rsC (lv) (xv)) 69)) ∧ (FmI V.heap.size 4 (x4 v29 v32 lv xv) (n4 m J) (updF (updF (updF (ffP sf J df i) 0 i ((c : Nat) : Int)) 3 c ((p_ + 1 : Nat) : Int)) 2 c ((q_ - 1 : Nat) : Int)) X) | 5 => Below V.heap.size V X ∧ (X.heap[g7]? = some (.cells (rsC (lv) (xv)) 69)) ∧ (FmI V.heap.size 4 (x4 v29 v32 lv xv) (n4 m J) (updF (updF (updF (ffP sf J df i) 0 i ((c : Nat) : Int)) 3 c ((p_ + 1 : Nat) : Int)) 2 c ((q_ - 1 : Nat) : Int)) X) | 6 => Below V.heap.size V X ∧ (X.heap[g7]? = some (.cells (rsC (lv) (xv)) 69)) ∧ (FmI V.heap.size 4 (x4 v29 v32 lv xv) (n4 m J) (updF (updF (updF (ffP sf J df i) 0 i ((c : Nat) : Int)) 3 c ((p_ + 1 : Nat) : Int)) 2 c ((q_ - 1 : Nat) : Int)) X) | _ => Below V.heap.size V X ∧ (X.heap[g7]? = some (.cells (rsC (lv) (xv)) 69)) ∧ (FmI V.heap.size 4 (x4 v29 v32 lv xv) (n4 m J) (updF (updF (updF (updF (ffP sf J df i) 0 i ((c : Nat) : Int)) 3 c ((p_ + 1 : Nat) : Int)) 2 c ((q_ - 1 : Nat) : Int)) 1 p_ ((o_ : Nat) : Int)) X)) (fun s => fun i_ => match i_ with | 0 => v32 | 1 => .agg (rsC (lv) (xv)) | 2 => .int .i64 ((c : Nat) : Int) | 3 => .int .i64 ((p_ : Nat) : Int) | 4 => .int .i64 ((o_ : Nat) : Int) | 5 => .pointer (some ⟨g32, 0 + p_, none⟩) | 6 => undef | _ => undef) () A.1 (by kernel_rfl) (by decide) (by decide) ⟨BB, F7B, FM1⟩ ?_ ?_
          · intro i_ hi_ s a X hf hv hn hS
            match i_, hi_ with
            | 0, _ => exact stepV rfl rfl (execMvB rfl ((hf 5 (by decide)).trans t5)) ⟨s, ⟨_, rfl, rfl⟩, hS, fun _ _ => rfl⟩
            | 1, _ => exact stepV rfl rfl (execLdRs rfl ((hf 7 (by decide)).trans t7) hS.2.1) ⟨s, ⟨_, rfl, rfl⟩, hS, fun _ _ => rfl⟩
            | 2, _ => exact stepV rfl rfl (execMvB rfl ((hf 10 (by decide)).trans t10)) ⟨s, ⟨_, rfl, rfl⟩, hS, fun _ _ => rfl⟩
            | 3, _ =>
              refine stepC rfl rfl (execCall2 Try.func35 (by kernel_rfl) (by kernel_rfl) rfl (hv 1 (by omega) _ rfl _ rfl) (hv 2 (by omega) _ rfl _ rfl)) (pvisit V X 4 2 3 c p_ q_ (x4 v29 v32 lv xv) (n4 m J) (updF (ffP sf J df i) 0 i ((c : Nat) : Int)) hS.1 hS.2.2 (by omega) (by omega) (by omega) hcJ hcJ (by rw [updF_o (by omega), ← ep]; rfl) (by rw [updF_o (by omega), ← eq]; rfl) (by omega) (by omega) (by omega)) fun e w' hh => ?_
              obtain ⟨he, hk, hsv, hb⟩ := hh
              refine ⟨_, he, s, ⟨_, rfl, rfl⟩, ⟨hb, (hp_saved hS.2.1 hsv (fun z => z.elim (hS.2.2.notT (t := 2) (by omega) hS.2.1 (by decide)) (hS.2.2.notT (t := 3) (by omega) hS.2.1 (by decide)))), hk⟩, fun i hi => ?_⟩
              match i, hi with
              | 0, _ => rfl
              | 1, _ => rfl
              | 2, _ => rfl
              | n_ + 3, h_ => omega
            | 4, _ => exact stepV rfl rfl (execMvB rfl ((hf 11 (by decide)).trans t11)) ⟨s, ⟨_, rfl, rfl⟩, hS, fun _ _ => rfl⟩
            | 5, _ => exact stepV rfl rfl (execIdxN (k := p_) rfl ((hv 0 (by omega) _ rfl _ rfl).trans e32) (hv 3 (by omega) _ rfl _ rfl) hpm) ⟨s, ⟨_, rfl, rfl⟩, hS, fun _ _ => rfl⟩
            | 6, _ =>
              obtain ⟨hc_, hf_⟩ := hS.2.2.cell (t := 1) (by omega) e32 hpm
              refine stepS rfl rfl (execStI9 rfl (hv 5 (by omega) _ rfl _ rfl) (hv 4 (by omega) _ rfl _ rfl) hc_ hf_) ⟨s, ⟨_, rfl, rfl⟩, ⟨(hS.1).setCell hB32 _, ((Below.heap_setCell _ _ _ _ n32).trans hS.2.1), hS.2.2.set (t := 1) (by omega) e32 _⟩, fun i hi => ?_⟩
              match i, hi with
              | 0, _ => rfl
              | 1, _ => rfl
              | 2, _ => rfl
              | 3, _ => rfl
              | 4, _ => rfl
              | 5, _ => rfl
              | n_ + 6, h_ => omega
            | k_ + 7, h_ => exact absurd h_ (by simp)
          rintro _ a X10 h1 h2 h3 h4 hS
          clear BB
          clear F7B
          clear FM1
          replace hS : Below V.heap.size V X10 ∧ (X10.heap[g7]? = some (.cells (rsC (lv) (xv)) 69)) ∧ (FmI V.heap.size 4 (x4 v29 v32 lv xv) (n4 m J) (updF (updF (updF (updF (ffP sf J df i) 0 i ((c : Nat) : Int)) 3 c ((p_ + 1 : Nat) : Int)) 2 c ((q_ - 1 : Nat) : Int)) 1 p_ ((o_ : Nat) : Int)) X10) := hS
          obtain ⟨BB, F7B, FM3⟩ := hS
          replace t4 := (h3 4 (by decide)).trans t4
          replace t5 := (h3 5 (by decide)).trans t5
          replace t7 := (h3 7 (by decide)).trans t7
          replace t35 := (h3 35 (by decide)).trans t35
          replace t36 := (h3 36 (by decide)).trans t36
          replace t37 := (h3 37 (by decide)).trans t37
          replace A := (⟨h1, h2.trans A.2⟩ : a.tmps.size = 61 ∧ a.defers = [])
          clear h1 h2 h3 h4
          clear t10 t11
          have FM4 := FmI.cgF FM3 (ffP_next sf J df m ec eo ep eq hp0)
          clear FM3
          refine wp_region_sq (σ := Unit) 61 [(0, 58), (1, 37)] (fun j_ s X => match j_ with | 0 => Below V.heap.size V X ∧ (X.heap[g7]? = some (.cells (rsC (lv) (xv)) 69)) ∧ (FmI V.heap.size 4 (x4 v29 v32 lv xv) (n4 m J) (ffP sf J df (i + 1)) X) | 1 => Below V.heap.size V X ∧ (X.heap[g7]? = some (.cells (rsC (lv) (xv)) 69)) ∧ (FmI V.heap.size 4 (x4 v29 v32 lv xv) (n4 m J) (ffP sf J df (i + 1)) X) | _ => Below V.heap.size V X ∧ (X.heap[g7]? = some (.cells (rsC (lv) (xv)) 69)) ∧ (FmI V.heap.size 4 (x4 v29 v32 lv xv) (n4 m J) (ffP sf J df (i + 1)) X)) (fun s => fun i_ => match i_ with | 0 => .int .i64 ((i + 1 : Nat) : Int) | 1 => .int .i64 ((i + 1 : Nat) : Int) | _ => undef) () A.1 (by kernel_rfl) (by decide) (by decide) ⟨BB, F7B, FM4⟩ ?_ ?_
          · intro i_ hi_ s a X hf hv hn hS
            match i_, hi_ with
            | 0, _ => exact stepV rfl rfl (execAd8 (p := i) (q := 1) rfl ((hn 1 (by omega) _ rfl _ rfl).trans t37) rfl (by omega)) ⟨s, ⟨_, rfl, rfl⟩, hS, fun _ _ => rfl⟩
            | 1, _ => exact stepV rfl rfl (execMvB rfl (hv 0 (by omega) _ rfl _ rfl)) ⟨s, ⟨_, rfl, rfl⟩, hS, fun _ _ => rfl⟩
            | k_ + 2, h_ => exact absurd h_ (by simp)
          rintro _ a X11 h1 h2 h3 h4 hS
          clear BB
          clear F7B
          clear FM4
          replace hS : Below V.heap.size V X11 ∧ (X11.heap[g7]? = some (.cells (rsC (lv) (xv)) 69)) ∧ (FmI V.heap.size 4 (x4 v29 v32 lv xv) (n4 m J) (ffP sf J df (i + 1)) X11) := hS
          obtain ⟨BB, F7B, FM4⟩ := hS
          replace t4 := (h3 4 (by decide)).trans t4
          replace t5 := (h3 5 (by decide)).trans t5
          replace t7 := (h3 7 (by decide)).trans t7
          replace t35 := (h3 35 (by decide)).trans t35
          replace t36 := (h3 36 (by decide)).trans t36
          replace t37 : a.eval (.tmp 37) = .int .i64 ((i + 1 : Nat) : Int) := h4 1 _ rfl _ rfl
          replace A := (⟨h1, h2.trans A.2⟩ : a.tmps.size = 61 ∧ a.defers = [])
          clear h1 h2 h3 h4
          exact ⟨⟨i + 1, lti, A, t4, t5, t7, t35, t36, t37, BB, F7B, FM4⟩, by show m - (intOf (a.eval (.tmp 37))).toNat < m - (intOf (Act.eval _ (.tmp 37))).toNat; rw [t37, esi]; show m - (i + 1) < m - i; omega⟩
        · rw [decide_eq_false lti] at t38
          refine wp_cond_false t38 ?_
          refine wp_exit ?_
          first | refine exit_in ?_ | refine exit_then (exit_in ?_) | refine exit_then (exit_then (exit_in ?_))
          clear t38 esi
          obtain rfl : i = m := by omega
          clear t7 t35 t36 t37 F7B
          refine wp_seq ?_
          refine wp_region_sq (σ := Unit) 61 [(0, 59), (1, 60), (2, 4), (3, 5), (4, 6)] (fun j_ s X => match j_ with | 0 => Below V.heap.size V X ∧ (FmI V.heap.size 4 (x4 v29 v32 lv xv) (n4 i J) (ffP sf J df i) X) | 1 => Below V.heap.size V X ∧ (FmI V.heap.size 4 (x4 v29 v32 lv xv) (n4 i J) (ffP sf J df i) X) | 2 => Below V.heap.size V X ∧ (FmI V.heap.size 4 (x4 v29 v32 lv xv) (n4 i J) (ffP sf J df i) X) | 3 => Below V.heap.size V X ∧ (FmI V.heap.size 4 (x4 v29 v32 lv xv) (n4 i J) (ffP sf J df i) X) | 4 => Below V.heap.size V X ∧ (FmI V.heap.size 4 (x4 v29 v32 lv xv) (n4 i J) (ffP sf J df i) X) | _ => Below V.heap.size V X ∧ (FmI V.heap.size 4 (x4 v29 v32 lv xv) (n4 i J) (ffP sf J df i) X)) (fun s => fun i_ => match i_ with | 0 => v29 | 1 => v32 | 2 => v29 | 3 => v32 | 4 => .int .i64 ((0 : Nat) : Int) | _ => undef) () A.1 (by kernel_rfl) (by decide) (by decide) ⟨BB, FM⟩ ?_ ?_
          · intro i_ hi_ s a X hf hv hn hS
            match i_, hi_ with
            | 0, _ => exact stepV rfl rfl (execMvB rfl ((hn 2 (by omega) _ rfl _ rfl).trans t4)) ⟨s, ⟨_, rfl, rfl⟩, hS, fun _ _ => rfl⟩
            | 1, _ => exact stepV rfl rfl (execMvB rfl ((hn 3 (by omega) _ rfl _ rfl).trans t5)) ⟨s, ⟨_, rfl, rfl⟩, hS, fun _ _ => rfl⟩
            | 2, _ => exact stepV rfl rfl (execAsgB rfl (hv 0 (by omega) _ rfl _ rfl)) ⟨s, ⟨_, rfl, rfl⟩, hS, fun _ _ => rfl⟩
            | 3, _ => exact stepV rfl rfl (execAsgB rfl (hv 1 (by omega) _ rfl _ rfl)) ⟨s, ⟨_, rfl, rfl⟩, hS, fun _ _ => rfl⟩
            | 4, _ => exact stepV rfl rfl (execAsgB rfl rfl) ⟨s, ⟨_, rfl, rfl⟩, hS, fun _ _ => rfl⟩
            | k_ + 5, h_ => exact absurd h_ (by simp)
          rintro _ a X12 h1 h2 h3 h4 hS
          clear BB
          clear FM
          replace hS : Below V.heap.size V X12 ∧ (FmI V.heap.size 4 (x4 v29 v32 lv xv) (n4 i J) (ffP sf J df i) X12) := hS
          obtain ⟨BB, FM⟩ := hS
          replace t4 : a.eval (.tmp 4) = v29 := h4 2 _ rfl _ rfl
          replace t5 : a.eval (.tmp 5) = v32 := h4 3 _ rfl _ rfl
          have t6 : a.eval (.tmp 6) = .int .i64 ((0 : Nat) : Int) := h4 4 _ rfl _ rfl
          replace A := (⟨h1, h2.trans A.2⟩ : a.tmps.size = 61 ∧ a.defers = [])
          clear h1 h2 h3 h4
          refine wp_ret ?_
          refine bodyPost_ret (results_tmp3 rfl _ _ _) A.2 ⟨v29, v32, ?_, FM.first2 (ffP_end sf J df hn hpt), BB⟩
          show Ending.returned (.tuple #[a.eval (.tmp 4), a.eval (.tmp 5), a.eval (.tmp 6)]) = _
          rw [t4, t5, t6]
    · refine wp_region_sq (σ := Unit) 61 [(0, 12), (1, 13), (2, 14), (3, 15), (4, 16), (5, 17), (6, 18), (7, 19), (8, 20), (9, 21), (10, 22), (11, 23), (12, 24), (13, 25), (14, 26)] (fun j_ s X => match j_ with | 0 => Below V.heap.size V X | 1 => Below V.heap.size V X | 2 => Below V.heap.size V X | 3 => Below V.heap.size V X | 4 => Below V.heap.size V X | 5 => Below V.heap.size V X | 6 => Below V.heap.size V X | 7 => Below V.heap.size V X | 8 => Below V.heap.size V X | 9 => Below V.heap.size V X | 10 => Below V.heap.size V X | 11 => Below V.heap.size V X | 12 => Below V.heap.size V X | 13 => Below V.heap.size V X | 14 => Below V.heap.size V X | _ => Below V.heap.size V X) (fun s => fun i_ => match i_ with | 0 => .slice ia J ic | 1 => .bool true | 2 => .bool false | 3 => .bool false | 4 => .slice ja m jc | 5 => .int .i64 ((m : Nat) : Int) | 6 => .slice ia J ic | 7 => .int .i64 ((sumN (gN sf) J : Nat) : Int) | 8 => .bool true | 9 => .bool true | 10 => .bool true | 11 => undef | 12 => undef | 13 => undef | 14 => .bool true | _ => undef) () A.1 (by kernel_rfl) (by decide) (by decide) (BB) ?_ ?_
      · intro i_ hi_ s a X hf hv hn hS
        match i_, hi_ with
        | 0, _ => exact stepV rfl rfl (execMvB rfl ((hf 0 (by decide)).trans t0)) ⟨s, ⟨_, rfl, rfl⟩, hS, fun _ _ => rfl⟩
        | 1, _ => exact stepC rfl rfl (execCall1 Try.func30 (by kernel_rfl) (by kernel_rfl) rfl (hv 0 (by omega) _ rfl _ rfl)) (hs ▸ pareSizes sf J _ X (FI.on hS) hJ17) fun e w' hh => ⟨_, hh.1, s, ⟨_, rfl, rfl⟩, (hS).trans ((hh.2).mono (hS).size), fun _ _ => rfl⟩
        | 2, _ => exact stepV rfl rfl (execNot8 rfl (hv 1 (by omega) _ rfl _ rfl)) ⟨s, ⟨_, rfl, rfl⟩, hS, fun _ _ => rfl⟩
        | 3, _ => exact stepV rfl rfl (execMvB rfl (hv 2 (by omega) _ rfl _ rfl)) ⟨s, ⟨_, rfl, rfl⟩, hS, fun _ _ => rfl⟩
        | 4, _ => exact stepV rfl (wantedOf rfl (yieldedAt rfl rfl (show a.eval (.tmp 15) = .bool false from (hv 3 (by omega) _ rfl _ rfl)))) (execMvB rfl ((hf 1 (by decide)).trans t1)) ⟨s, ⟨_, rfl, rfl⟩, hS, fun _ _ => rfl⟩
        | 5, _ => exact stepV rfl (wantedOf rfl (yieldedAt rfl rfl (show a.eval (.tmp 15) = .bool false from (hv 3 (by omega) _ rfl _ rfl)))) (execLenI (len := m) rfl (hv 4 (by omega) _ rfl _ rfl) ((FJ.on hS)).shp) ⟨s, ⟨_, rfl, rfl⟩, hS, fun _ _ => rfl⟩
        | 6, _ => exact stepV rfl (wantedOf rfl (yieldedAt rfl rfl (show a.eval (.tmp 15) = .bool false from (hv 3 (by omega) _ rfl _ rfl)))) (execMvB rfl ((hf 0 (by decide)).trans t0)) ⟨s, ⟨_, rfl, rfl⟩, hS, fun _ _ => rfl⟩
        | 7, _ => exact stepC rfl (wantedOf rfl (yieldedAt rfl rfl (show a.eval (.tmp 15) = .bool false from (hv 3 (by omega) _ rfl _ rfl)))) (execCall1 Try.func31 (by kernel_rfl) (by kernel_rfl) rfl (hv 6 (by omega) _ rfl _ rfl)) (psum sf J _ X (FI.on hS) (by omega) (fun j hj => (okS_iff.1 hok j hj).1) (by have := okS_sum hok; omega)) fun e w' hh => ⟨_, hh.1, s, ⟨_, rfl, rfl⟩, (hS).trans ((hh.2).mono (hS).size), fun _ _ => rfl⟩
        | 8, _ => exact stepV rfl (wantedOf rfl (yieldedAt rfl rfl (show a.eval (.tmp 15) = .bool false from (hv 3 (by omega) _ rfl _ rfl)))) (execDec (execNeN (p := m) (q := sumN (gN sf) J) rfl (hv 5 (by omega) _ rfl _ rfl) (hv 7 (by omega) _ rfl _ rfl)) (decide_eq_true (by omega))) ⟨s, ⟨_, rfl, rfl⟩, hS, fun _ _ => rfl⟩
        | 9, _ => exact stepV rfl rfl (execPickF rfl (hv 3 (by omega) _ rfl _ rfl) (hv 8 (by omega) _ rfl _ rfl)) ⟨s, ⟨_, rfl, rfl⟩, hS, fun _ _ => rfl⟩
        | 10, _ => exact stepV rfl rfl (execMvB rfl (hv 9 (by omega) _ rfl _ rfl)) ⟨s, ⟨_, rfl, rfl⟩, hS, fun _ _ => rfl⟩
        | 11, _ => exact stepU rfl (unwantedOf rfl (yieldedAt rfl rfl (show a.eval (.tmp 22) = .bool (!false) from (hv 10 (by omega) _ rfl _ rfl)))) ⟨s, ⟨_, rfl, rfl⟩, hS, fun _ _ => rfl⟩
        | 12, _ => exact stepU rfl (unwantedOf rfl (yieldedAt rfl rfl (show a.eval (.tmp 22) = .bool (!false) from (hv 10 (by omega) _ rfl _ rfl)))) ⟨s, ⟨_, rfl, rfl⟩, hS, fun _ _ => rfl⟩
        | 13, _ => exact stepU rfl (unwantedOf rfl (yieldedAt rfl rfl (show a.eval (.tmp 22) = .bool (!false) from (hv 10 (by omega) _ rfl _ rfl)))) ⟨s, ⟨_, rfl, rfl⟩, hS, fun _ _ => rfl⟩
        | 14, _ => exact stepV rfl rfl (execPickT rfl (hv 10 (by omega) _ rfl _ rfl) rfl) ⟨s, ⟨_, rfl, rfl⟩, hS, fun _ _ => rfl⟩
        | k_ + 15, h_ => exact absurd h_ (by simp)
      rintro _ a X1 h1 h2 h3 h4 hS
      clear BB
      replace hS : Below V.heap.size V X1 := hS
      have BB := hS
      clear hS
      replace t0 := (h3 0 (by decide)).trans t0
      replace t1 := (h3 1 (by decide)).trans t1
      have t26 : a.eval (.tmp 26) = .bool true := h4 14 _ rfl _ rfl
      replace A := (⟨h1, h2.trans A.2⟩ : a.tmps.size = 61 ∧ a.defers = [])
      clear h1 h2 h3 h4
      refine wp_cond_true t26 ?_
      refine wp_seq ?_
      refine wp_region_sq (σ := Unit) 61 [(0, 4), (1, 5), (2, 6)] (fun j_ s X => match j_ with | 0 => Below V.heap.size V X | 1 => Below V.heap.size V X | 2 => Below V.heap.size V X | _ => Below V.heap.size V X) (fun s => fun i_ => match i_ with | 0 => .slice none 0 0 | 1 => .slice none 0 0 | 2 => .int .i64 ((2 : Nat) : Int) | _ => undef) () A.1 (by kernel_rfl) (by decide) (by decide) (BB) ?_ ?_
      · intro i_ hi_ s a X hf hv hn hS
        match i_, hi_ with
        | 0, _ => exact stepV rfl rfl (execAsgB rfl rfl) ⟨s, ⟨_, rfl, rfl⟩, hS, fun _ _ => rfl⟩
        | 1, _ => exact stepV rfl rfl (execAsgB rfl rfl) ⟨s, ⟨_, rfl, rfl⟩, hS, fun _ _ => rfl⟩
        | 2, _ => exact stepV rfl rfl (execAsgB rfl rfl) ⟨s, ⟨_, rfl, rfl⟩, hS, fun _ _ => rfl⟩
        | k_ + 3, h_ => exact absurd h_ (by simp)
      rintro _ a X2 h1 h2 h3 h4 hS
      clear BB
      replace hS : Below V.heap.size V X2 := hS
      have BB := hS
      clear hS
      have t4 : a.eval (.tmp 4) = .slice none 0 0 := h4 0 _ rfl _ rfl
      have t5 : a.eval (.tmp 5) = .slice none 0 0 := h4 1 _ rfl _ rfl
      have t6 : a.eval (.tmp 6) = .int .i64 ((2 : Nat) : Int) := h4 2 _ rfl _ rfl
      replace A := (⟨h1, h2.trans A.2⟩ : a.tmps.size = 61 ∧ a.defers = [])
      clear h1 h2 h3 h4
      clear t0 t1
      have hE : paE sf J df m = 2 := paE_no fun q => hm (paQ_iff.1 q).2.1
      rw [hE, zl_no (by decide)]
      refine wp_ret ?_
      repeat (first | refine ret_in ?_ | refine ret_then ?_)
      refine bodyPost_ret (results_tmp3 rfl _ _ _) A.2 ⟨_, _, ?_, fm2nil _ _ _, BB⟩
      show Ending.returned (.tuple #[a.eval (.tmp 4), a.eval (.tmp 5), a.eval (.tmp 6)]) = _
      rw [t4, t5, t6]
end Go.Proofs.Ytdecmmcphcomhaa.Brd
