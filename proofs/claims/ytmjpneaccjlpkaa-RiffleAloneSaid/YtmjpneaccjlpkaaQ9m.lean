import Derived.Test.YtmjpneaccjlpkaaF9a
import Derived.Test.YtmjpneaccjlpkaaQ9l
namespace Go.Proofs.Ytmjpneaccjlpkaa.Brd
open Go.RowKit Gf8 Aes By8 Cel Cf Tap Drw Prm
/- Package braid as it landed: Sizes, Bounds, Pattern. Written by tools/mkQ9m.py. -/
theorem results_tmp3 {fn : Func} {t u v : Tmp} (h : fn.results = #[.tmp t, .tmp u, .tmp v]) (tmps : Array Value) (P : Program) (w : World) : (results fn tmps).run P w = .ok (.tuple #[tmps.getD t undef, tmps.getD u undef, tmps.getD v undef]) w := by
 simp [results, h]
theorem sz_set1 {W : World} {B N D i : Nat} {v : Value} (h : W.ownsRow B 3 1 v D (intsL D (fun x => if x = i then ((N / D : Nat) : Int) else (fun j => if j < i then (szF N D j : Int) else 0) x))) (hlr : ¬ i < N % D) : W.ownsRow B 3 1 v D (intsL D (fun j => if j < (i + 1) then (szF N D j : Int) else 0)) := by
 rw [← intsL_congr (fun j hj => ?_)]
 ·exact h
 ·show (if j = i then ((N / D : Nat) : Int) else if j < i then (szF N D j : Int) else 0) = if j < i + 1 then (szF N D j : Int) else 0
  by_cases e : j = i
  ·subst e
   rw [if_pos rfl, if_pos (by omega)]
   unfold szF
   rw [if_neg hlr]
   rfl
  ·rw [if_neg e]
   by_cases e2 : j < i
   ·rw [if_pos e2, if_pos (by omega)]
   ·rw [if_neg e2, if_neg (by omega)]
theorem sz_set2 {W : World} {B N D i g c : Nat} (h : W.ownsRow B 3 1 (.slice (some ⟨g, 0, none⟩) D c) D (intsL D (fun x => if x = i then ((N / D : Nat) : Int) else (fun j => if j < i then (szF N D j : Int) else 0) x))) (hlr : i < N % D) : (W.setCell ⟨g, 0 + i, none⟩ (.int .i64 ((N / D + 1 : Nat) : Int))).ownsRow B 3 1 (.slice (some ⟨g, 0, none⟩) D c) D (intsL D (fun j => if j < (i + 1) then (szF N D j : Int) else 0)) := by
 have h1 := own_setF (k := i) ((N / D + 1 : Nat) : Int) h
 rw [← intsL_congr (fun j hj => ?_)]
 ·exact h1
 ·show (if j = i then ((N / D + 1 : Nat) : Int) else if j = i then ((N / D : Nat) : Int) else if j < i then (szF N D j : Int) else 0) = if j < i + 1 then (szF N D j : Int) else 0
  by_cases e : j = i
  ·subst e
   rw [if_pos rfl, if_pos (by omega)]
   unfold szF
   rw [if_pos hlr]
  ·rw [if_neg e, if_neg e]
   by_cases e2 : j < i
   ·rw [if_pos e2, if_pos (by omega)]
   ·rw [if_neg e2, if_neg (by omega)]
def x4 (a b l x : Value) (t : Nat) : Value := if t = 0 then a else if t = 1 then b else if t = 2 then l else x
def n4 (m J t : Nat) : Nat := if t < 2 then m else J
def f2 (f g : Nat → Int) (t : Nat) : Nat → Int := if t = 0 then f else g
def ffP (sf : Nat → Int) (J : Nat) (df : Nat → Int) (i t : Nat) : Nat → Int :=
 if t = 0 then fun k => if k < i then pcF sf J df k else 0 else if t = 1 then fun y => (ofv (gN sf) (chD (gN sf) J (gN df)) (ofD (gN sf) J (gN df)) i y : Int)
 else if t = 2 then fun j => (lefC (gN sf) (chD (gN sf) J (gN df)) i j : Int) else fun j => ((sumN (gN sf) j + cntC (chD (gN sf) J (gN df)) j i : Nat) : Int)
theorem lt_on {v : Value} {W W' : World} (h : ∀ b, v.ownBlock = some b → b < W.heap.size) (hb : Below W.heap.size W W') : ∀ b, v.ownBlock = some b → b < W'.heap.size := fun b e => Nat.lt_of_lt_of_le (h b e) hb.size
theorem hp_saved {G : Nat → Prop} {W W' : World} {k : Nat} {c : Obj} (h : W.heap[k]? = some c) (sv : Saved G W W') (hk : ¬ G k) : W'.heap[k]? = some c := (sv.block k (Array.getElem?_eq_some_iff.1 h).1 hk).trans h
theorem fm2nil (B : Nat) (ff : Nat → Nat → Int) (W : World) : FmI B 2 (x2 (.slice none 0 0) (.slice none 0 0)) (fun _ => 0) ff W := by
 have e : x2 (.slice none 0 0) (.slice none 0 0) = fun _ => Value.slice none 0 0 := by
  funext t
  unfold x2
  split <;> rfl
 rw [e]
 exact FmI.nils _ _ _ _
theorem fm4 {B C m J : Nat} {a b l x : Value} {f0 f1 : Nat → Int} {gg : Nat → Nat → Int} {W : World} (h0 : W.ownsRow B 3 1 a m (intsL m f0)) (h1 : W.ownsRow B 3 1 b m (intsL m f1)) (hd : ∀ k, a.ownBlock = some k → b.ownBlock ≠ some k) (ha : ∀ k, a.ownBlock = some k → k < C) (hb : ∀ k, b.ownBlock = some k → k < C)
  (h2 : FmI C 2 (x2 l x) (fun _ => J) gg W) (hBC : B ≤ C) : FmI B 4 (x4 a b l x) (n4 m J) (fun t => if t = 0 then f0 else if t = 1 then f1 else if t = 2 then gg 0 else gg 1) W := by
 have r0 := h2.rows 0 (by omega)
 have r1 := h2.rows 1 (by omega)
 have d01 := h2.dis 0 1 (by omega) (by omega) (by omega)
 have hl : ∀ k, l.ownBlock = some k → C ≤ k := fun k e => (r0.lt k e).1
 have hx : ∀ k, x.ownBlock = some k → C ≤ k := fun k e => (r1.lt k e).1
 refine ⟨fun t ht => ?_, fun s t hs ht hst k e => ?_⟩
 ·match t, ht with
  | 0, _ => exact h0
  | 1, _ => exact h1
  | 2, _ => exact ownD_base r0 hBC
  | 3, _ => exact ownD_base r1 hBC
  | t + 4, h => omega
 ·match s, hs, t, ht, hst, e with
  | 0, _, 0, _, h, _ => exact absurd rfl h
  | 0, _, 1, _, _, e => exact hd k e
  | 0, _, 2, _, _, e => exact fun z => by have := ha k e; have := hl k z; omega
  | 0, _, 3, _, _, e => exact fun z => by have := ha k e; have := hx k z; omega
  | 1, _, 0, _, _, e => exact fun z => hd k z e
  | 1, _, 1, _, h, _ => exact absurd rfl h
  | 1, _, 2, _, _, e => exact fun z => by have := hb k e; have := hl k z; omega
  | 1, _, 3, _, _, e => exact fun z => by have := hb k e; have := hx k z; omega
  | 2, _, 0, _, _, e => exact fun z => by have := ha k z; have := hl k e; omega
  | 2, _, 1, _, _, e => exact fun z => by have := hb k z; have := hl k e; omega
  | 2, _, 2, _, h, _ => exact absurd rfl h
  | 2, _, 3, _, _, e => exact d01 k e
  | 3, _, 0, _, _, e => exact fun z => by have := ha k z; have := hx k e; omega
  | 3, _, 1, _, _, e => exact fun z => by have := hb k z; have := hx k e; omega
  | 3, _, 2, _, _, e => exact fun z => d01 k z e
  | 3, _, 3, _, h, _ => exact absurd rfl h
  | s + 4, h, _, _, _, _ => omega
  | _, _, t + 4, h, _, _ => omega
section
variable {B k : Nat} {x : Nat → Value} {nn : Nat → Nat} {ff : Nat → Nat → Int} {W : World}
theorem _root_.Go.Proofs.Ytmjpneaccjlpkaa.Prm.FmI.setT {g : Nat} {cur c : Array Value} {u : TypeId} (h : FmI B k x nn ff W) (hg : W.heap[g]? = some (.cells cur u)) (hu : u ≠ 3) : FmI B k x nn ff (W.setRow g c) := ⟨fun t ht => own_setT (h.rows t ht) hg hu, h.dis⟩
theorem _root_.Go.Proofs.Ytmjpneaccjlpkaa.Prm.FmI.notT {g t : Nat} {c : Array Value} {u : TypeId} {fr : Nat × Nat} (h : FmI B k x nn ff W) (ht : t < k) (hg : W.heap[g]? = some (.cells c u fr)) (hu : u ≠ 3) : ¬ (x t).ownBlock = some g := fun e => by
 rcases (h.rows t ht).2 with ⟨e1, _⟩ | ⟨g', cap, cur, e1, _, hg', _⟩
 ·rw [e1] at e
  cases e
 ·rw [e1] at e
  have e2 : g' = g := Option.some.inj e
  subst e2
  rw [hg] at hg'
  injection hg' with q
  injection q with _ q2 _
  exact hu q2
theorem _root_.Go.Proofs.Ytmjpneaccjlpkaa.Prm.FmI.first2 {m J : Nat} {a b l y : Value} {gg : Nat → Nat → Int} (h : FmI B 4 (x4 a b l y) (n4 m J) ff W) (e : ∀ t, t < 2 → ∀ j, j < m → ff t j = gg t j) : FmI B 2 (x2 a b) (fun _ => m) gg W := by
 refine ⟨fun t ht => ?_, fun s t hs ht hst => ?_⟩
 ·rw [← intsL_congr (e t ht)]
  match t, ht with
  | 0, _ => exact h.rows 0 (by omega)
  | 1, _ => exact h.rows 1 (by omega)
  | t + 2, h => omega
 ·match s, hs, t, ht, hst with
  | 0, _, 0, _, h => exact absurd rfl h
  | 0, _, 1, _, _ => exact h.dis 0 1 (by omega) (by omega) (by omega)
  | 1, _, 0, _, _ => exact h.dis 1 0 (by omega) (by omega) (by omega)
  | 1, _, 1, _, h => exact absurd rfl h
  | s + 2, h, _, _, _ => omega
  | _, _, t + 2, h, _ => omega
end
theorem ffP_zero (sf : Nat → Int) (J : Nat) (df : Nat → Int) (m : Nat) : ∀ t, t < 4 → ∀ j, j < n4 m J t → (fun t => if t = 0 then (fun _ => 0) else if t = 1 then (fun _ => 0) else if t = 2 then ffB sf 0 else ffB sf 1 : Nat → Nat → Int) t j = ffP sf J df 0 t j := fun t ht j _ => by
 match t, ht with
 | 0, _ => rfl
 | 1, _ => rfl
 | 2, _ => rfl
 | 3, _ => rfl
 | t + 4, h => omega
theorem ffP_next (sf : Nat → Int) (J : Nat) (df : Nat → Int) (m : Nat) {i c o p q : Nat} (ec : chD (gN sf) J (gN df) i = c) (eo : ofD (gN sf) J (gN df) i = o) (ep : sumN (gN sf) c + cntC (chD (gN sf) J (gN df)) c i = p) (eq : lefC (gN sf) (chD (gN sf) J (gN df)) i c = q)
  (hp0 : poC (gN sf) (chD (gN sf) J (gN df)) i = sumN (gN sf) c + cntC (chD (gN sf) J (gN df)) c i) :
  ∀ t, t < 4 → ∀ j, j < n4 m J t → updF (updF (updF (updF (ffP sf J df i) 0 i ((c : Nat) : Int)) 3 c ((p + 1 : Nat) : Int)) 2 c ((q - 1 : Nat) : Int)) 1 p ((o : Nat) : Int) t j = ffP sf J df (i + 1) t j := fun t ht j _ => by
 match t, ht with
 | 0, _ =>
  rw [updF_o (by omega), updF_o (by omega), updF_o (by omega), updF_at]
  show (if j = i then ((c : Nat) : Int) else if j < i then pcF sf J df j else 0) = if j < i + 1 then pcF sf J df j else 0
  by_cases e : j = i
  ·subst e
   rw [if_pos rfl, if_pos (by omega), ← ec]
   rfl
  ·rw [if_neg e]
   by_cases e2 : j < i
   ·rw [if_pos e2, if_pos (by omega)]
   ·rw [if_neg e2, if_neg (by omega)]
 | 1, _ =>
  rw [updF_at, updF_o (by omega), updF_o (by omega), updF_o (by omega)]
  show (if j = p then ((o : Nat) : Int) else ((ofv _ _ _ i j : Nat) : Int)) = ((if j = poC (gN sf) (chD (gN sf) J (gN df)) i then ofD (gN sf) J (gN df) i else ofv _ _ _ i j : Nat) : Int)
  rw [hp0, ep, eo]
  by_cases e : j = p
  ·rw [if_pos e, if_pos e]
  ·rw [if_neg e, if_neg e]
 | 2, _ =>
  rw [updF_o (by omega), updF_at, updF_o (by omega), updF_o (by omega)]
  show (if j = c then ((q - 1 : Nat) : Int) else ((lefC _ _ i j : Nat) : Int)) = ((lefC (gN sf) (chD (gN sf) J (gN df)) (i + 1) j : Nat) : Int)
  rw [lefC_succ, ec]
  by_cases e : j = c
  ·subst e
   rw [if_pos rfl, dec1_at, eq]
  ·rw [if_neg e, dec1_o e]
 | 3, _ =>
  rw [updF_o (by omega), updF_o (by omega), updF_at, updF_o (by omega)]
  show (if j = c then ((p + 1 : Nat) : Int) else ((sumN (gN sf) j + cntC _ j i : Nat) : Int)) = ((sumN (gN sf) j + (cntC (chD (gN sf) J (gN df)) j i + if chD (gN sf) J (gN df) i = j then 1 else 0) : Nat) : Int)
  rw [ec]
  by_cases e : j = c
  ·subst e
   rw [if_pos rfl, if_pos rfl, ← ep, Nat.add_assoc]
  ·rw [if_neg e, if_neg (fun z => e z.symm), Nat.add_zero]
 | t + 4, h => omega
theorem ffP_end (sf : Nat → Int) (J : Nat) (df : Nat → Int) {m : Nat} (hn : sumN (gN sf) J = m) (hp : IsPat (gN sf) J m (chD (gN sf) J (gN df))) : ∀ t, t < 2 → ∀ j, j < m → ffP sf J df m t j = f2 (pcF sf J df) (poF sf J df m) t j := fun t ht j hj => by
 match t, ht with
 | 0, _ => exact if_pos hj
 | 1, _ =>
  show ((ofv _ _ _ m j : Nat) : Int) = ((ovF _ _ _ _ m j : Nat) : Int)
  rw [ofv_end hn hp hj]
 | t + 2, h => omega
theorem lef_fits (sf : Nat → Int) (J : Nat) (df : Nat → Int) (i j : Nat) (hok : okS sf J = true) (hj : j < J) : -9223372036854775808 ≤ ((lefC (gN sf) (chD (gN sf) J (gN df)) i j : Nat) : Int) ∧ ((lefC (gN sf) (chD (gN sf) J (gN df)) i j : Nat) : Int) < 9223372036854775808 := by
 have h1 : lefC (gN sf) (chD (gN sf) J (gN df)) i j ≤ gN sf j := Nat.sub_le _ _
 have h2 := sumN_at (r := gN sf) hj
 have h3 := okS_sum hok
 omega
set_option maxRecDepth 100000 in
set_option maxHeartbeats 4000000 in
theorem pbounds12 (k : Int) (V : World) :
  Calls Try.prog 42 #[.int .i64 k] V fun e w' => ∃ r, e = .returned r ∧ w'.ownsRow V.heap.size 3 1 r (bdN k) (intsL (bdN k) (fun j => k - (j : Int))) ∧ Below V.heap.size V w' := by
 go_enter Try.func42, Try.ntmps42
 refine wp_seq ?_
 refine wp_region_sqK 26 [(0, 2)] (fun i_ => match i_ with | 0 => .slice none 0 0 | _ => undef) rfl (by kernel_rfl) (by decide) (by decide) ?_ ?_
 ·intro i_ hi_ a hf hv hn
  match i_, hi_ with
  | 0, _ => exact stepV rfl rfl (execAsgB rfl rfl) ⟨⟨_, rfl, rfl⟩, rfl⟩
  | k_ + 1, h_ => exact absurd h_ (by simp)
 intro a h1 h2 h3 h4
 have t0 : a.eval (.tmp 0) = .int .i64 k := (h3 0 (by decide)).trans rfl
 have A : a.tmps.size = 26 ∧ a.defers = [] := ⟨h1, h2⟩
 have BW : Below V.heap.size V V := Below.refl _ _
 clear h1 h2 h3 h4
 have BB := BW
 refine wp_seq (wp_seq ?_)
 by_cases ha : k < 1
 ·refine wp_se 26 [1] [] (fun _ s X => Below V.heap.size V X) (fun s => fun i_ => match i_ with | 1 => .bool true | _ => undef) () A (BB) (And.intro ?_ trivial) ?_
  ·exact fun s a X e hS => stepV rfl rfl (execLtCt (p := k) (q := 1) rfl ((e (.tmp 5)).trans t0) (by omega)) ⟨s, ⟨_, rfl, rfl⟩, hS, ar⟩
  rintro _ a X1 A e (BB : Below V.heap.size V X1)
  have t10 : a.eval (.tmp 10) = .bool true := e _
  replace t0 := kt e t0
  clear e
  refine wp_cond_true t10 ?_
  refine wp_seq ?_
  refine wp_se 26 [] [] (fun _ s X => Below V.heap.size V X) (fun s => fun _ => undef) () A (BB) trivial ?_
  rintro _ a X2 A e (BB : Below V.heap.size V X2)
  have t2 : a.eval (.tmp 2) = .slice none 0 0 := e _
  clear e t0
  have hE : bdN k = 0 := by unfold bdN; split <;> omega
  rw [hE]
  refine wp_ret ?_
  repeat (first | with_reducible refine ret_in ?_ | with_reducible refine ret_then ?_)
  refine bodyPost_ret (results_tmp rfl _ _ _) A.2 ⟨_, ?_, World.ownsRow_nil _ _ _ _, BB⟩
  show Ending.returned (a.eval (.tmp 2)) = _
  rw [t2]
 ·by_cases hb : 256 < k
  ·refine wp_se 26 [1, 4] [] (fun _ s X => Below V.heap.size V X) (fun s => fun i_ => match i_ with | 1 => .bool false | 4 => .bool true | _ => undef) () A (BB) (And.intro ?_ (And.intro ?_ trivial)) ?_
   ·exact fun s a X e hS => stepV rfl rfl (execLtCf (p := k) (q := 1) rfl ((e (.tmp 5)).trans t0) (by omega)) ⟨s, ⟨_, rfl, rfl⟩, hS, ar⟩
   ·exact fun s a X e hS => stepV rfl (wy rfl rfl rfl (e (.tmp 7))) (execGtCt (p := k) (q := 256) rfl ((e (.tmp 8)).trans t0) (by omega)) ⟨s, ⟨_, rfl, rfl⟩, hS, ar⟩
   rintro _ a X1 A e (BB : Below V.heap.size V X1)
   have t10 : a.eval (.tmp 10) = .bool true := e _
   replace t0 := kt e t0
   clear e
   refine wp_cond_true t10 ?_
   refine wp_seq ?_
   refine wp_se 26 [] [] (fun _ s X => Below V.heap.size V X) (fun s => fun _ => undef) () A (BB) trivial ?_
   rintro _ a X2 A e (BB : Below V.heap.size V X2)
   have t2 : a.eval (.tmp 2) = .slice none 0 0 := e _
   clear e t0
   have hE : bdN k = 0 := by unfold bdN; split <;> omega
   rw [hE]
   refine wp_ret ?_
   repeat (first | with_reducible refine ret_in ?_ | with_reducible refine ret_then ?_)
   refine bodyPost_ret (results_tmp rfl _ _ _) A.2 ⟨_, ?_, World.ownsRow_nil _ _ _ _, BB⟩
   show Ending.returned (a.eval (.tmp 2)) = _
   rw [t2]
  ·refine wp_se 26 [1, 4] [] (fun _ s X => Below V.heap.size V X) (fun s => fun i_ => match i_ with | 1 => .bool false | 4 => .bool false | _ => undef) () A (BB) (And.intro ?_ (And.intro ?_ trivial)) ?_
   ·exact fun s a X e hS => stepV rfl rfl (execLtCf (p := k) (q := 1) rfl ((e (.tmp 5)).trans t0) (by omega)) ⟨s, ⟨_, rfl, rfl⟩, hS, ar⟩
   ·exact fun s a X e hS => stepV rfl (wy rfl rfl rfl (e (.tmp 7))) (execGtCf (p := k) (q := 256) rfl ((e (.tmp 8)).trans t0) (by omega)) ⟨s, ⟨_, rfl, rfl⟩, hS, ar⟩
   rintro _ a X1 A e (BB : Below V.heap.size V X1)
   have t10 : a.eval (.tmp 10) = .bool false := e _
   replace t0 := kt e t0
   clear e
   refine wp_cond_false t10 (wp_skip ?_)
   clear t10
   have hE : bdN k = k.toNat := if_pos (by omega)
   rw [hE]
   obtain ⟨M, hM⟩ : ∃ M : Nat, k = M := ⟨k.toNat, by omega⟩
   have hM2 : k.toNat = M := by omega
   rw [hM2]
   rw [hM] at t0
   refine wp_seq ?_
   refine wp_se (σ := Nat) 26 [1] [1] (fun k_ s X => match k_ with | 0 => Below V.heap.size V X | _ => Below V.heap.size V X ∧ (X.ownsRow V.heap.size 3 1 (.slice (some ⟨s, 0, none⟩) M M) (M) (intsL (M) (fun j => if j < 0 then k - (j : Int) else 0))) ∧ (V.heap.size ≤ s)) (fun s => fun i_ => match i_ with | 1 => .slice (some ⟨s, 0, none⟩) M M | _ => undef) 0 A (BB) (And.intro ?_ trivial) ?_
   ·intro s a X e hS
    refine stepV rfl rfl (execMkN rfl ((e (.tmp 11)).trans t0) ((e (.tmp 11)).trans t0) (by omega)) ⟨X.heap.size, ⟨_, rfl, rfl⟩, ⟨(hS).trans (((belNew X _)).mono (hS).size), ownD_base (own_mkZ X M _ (by omega) (fun j_ _ => if_neg (Nat.not_lt_zero _))) (hS).size, (hS).size⟩, (And.intro (fun h => absurd h (by decide)) trivial)⟩
   rintro g3 a X3 A e (hS : Below V.heap.size V X3 ∧ (X3.ownsRow V.heap.size 3 1 (.slice (some ⟨g3, 0, none⟩) M M) (M) (intsL (M) (fun j => if j < 0 then k - (j : Int) else 0))) ∧ (V.heap.size ≤ g3))
   obtain ⟨BB, FO, Fg⟩ := hS
   have t3 : a.eval (.tmp 3) = .slice (some ⟨g3, 0, none⟩) M M := e _
   replace t0 := kt e t0
   clear e
   refine wp_seq (wp_seq ?_)
   refine wp_se 26 [1] [] (fun _ s X => Below V.heap.size V X ∧ (X.ownsRow V.heap.size 3 1 (.slice (some ⟨g3, 0, none⟩) M M) (M) (intsL (M) (fun j => if j < 0 then k - (j : Int) else 0)))) (fun s => fun i_ => match i_ with | 1 => .int .i64 ((M : Nat) : Int) | _ => undef) () A ⟨BB, FO⟩ (And.intro ?_ trivial) ?_
   ·exact fun s a X e hS => stepV rfl rfl (execLenI (len := M) rfl ((e (.tmp 13)).trans t3) ⟨_, _, rfl⟩) ⟨s, ⟨_, rfl, rfl⟩, hS, ar⟩
   rintro _ a X4 A e (hS : Below V.heap.size V X4 ∧ (X4.ownsRow V.heap.size 3 1 (.slice (some ⟨g3, 0, none⟩) M M) (M) (intsL (M) (fun j => if j < 0 then k - (j : Int) else 0))))
   obtain ⟨BB, FO⟩ := hS
   have t14 : a.eval (.tmp 14) = .int .i64 ((M : Nat) : Int) := e _
   have t15 : a.eval (.tmp 15) = .int .i64 ((0 : Nat) : Int) := e _
   replace t0 := kt e t0
   replace t3 := kt e t3
   clear e
   refine wp_block ?_
   refine wp_loop (fun a W => ∃ (i : Nat), i ≤ M ∧ (a.tmps.size = 26 ∧ a.defers = []) ∧ a.eval (.tmp 0) = .int .i64 ((M : Nat) : Int) ∧ a.eval (.tmp 3) = .slice (some ⟨g3, 0, none⟩) M M ∧ a.eval (.tmp 14) = .int .i64 ((M : Nat) : Int) ∧ a.eval (.tmp 15) = .int .i64 ((i : Nat) : Int) ∧ Below V.heap.size V W ∧ (W.ownsRow V.heap.size 3 1 (.slice (some ⟨g3, 0, none⟩) M M) (M) (intsL (M) (fun j => if j < i then k - (j : Int) else 0)))) (fun a _ => M - (intOf (a.eval (.tmp 15))).toNat) ⟨0, Nat.zero_le _, A, t0, t3, t14, t15, BB, FO⟩ ?_
   rintro a XL5 ⟨i, hi, A, t0, t3, t14, t15, BB, FO⟩
   have esi := t15
   refine wp_seq ?_
   refine wp_se 26 [0] [] (fun _ s X => Below V.heap.size V X ∧ (X.ownsRow V.heap.size 3 1 (.slice (some ⟨g3, 0, none⟩) M M) (M) (intsL (M) (fun j => if j < i then k - (j : Int) else 0)))) (fun s => fun i_ => match i_ with | 0 => .bool (decide (i < M)) | _ => undef) () A ⟨BB, FO⟩ (And.intro ?_ trivial) ?_
   ·exact fun s a X e hS => stepV rfl rfl (execLtW (p := i) (q := M) rfl ((e (.tmp 15)).trans t15) ((e (.tmp 14)).trans t14)) ⟨s, ⟨_, rfl, rfl⟩, hS, ar⟩
   rintro _ a X5 A e (hS : Below V.heap.size V X5 ∧ (X5.ownsRow V.heap.size 3 1 (.slice (some ⟨g3, 0, none⟩) M M) (M) (intsL (M) (fun j => if j < i then k - (j : Int) else 0))))
   obtain ⟨BB, FO⟩ := hS
   have t16 : a.eval (.tmp 16) = .bool (decide (i < M)) := e _
   replace t0 := kt e t0
   replace t3 := kt e t3
   replace t14 := kt e t14
   replace t15 := kt e t15
   clear e
   refine wp_seq ?_
   by_cases lti : i < M
   ·rw [decide_eq_true lti] at t16
    refine wp_cond_true t16 (wp_skip ?_)
    clear t16
    refine wp_seq (wp_block ?_)
    refine wp_seq ?_
    refine wp_se 26 [] [] (fun _ s X => Below V.heap.size V X ∧ (X.ownsRow V.heap.size 3 1 (.slice (some ⟨g3, 0, none⟩) M M) (M) (intsL (M) (fun j => if j < i then k - (j : Int) else 0)))) (fun s => fun _ => undef) () A ⟨BB, FO⟩ trivial ?_
    rintro _ a X6 A e (hS : Below V.heap.size V X6 ∧ (X6.ownsRow V.heap.size 3 1 (.slice (some ⟨g3, 0, none⟩) M M) (M) (intsL (M) (fun j => if j < i then k - (j : Int) else 0))))
    obtain ⟨BB, FO⟩ := hS
    have t4 : a.eval (.tmp 4) = .int .i64 ((i : Nat) : Int) := (e _).trans t15
    replace t0 := kt e t0
    replace t3 := kt e t3
    replace t14 := kt e t14
    replace t15 := kt e t15
    clear e
    refine wp_se 26 [4, 5, 6] [6] (fun k_ s X => match k_ with | 0 => Below V.heap.size V X ∧ (X.ownsRow V.heap.size 3 1 (.slice (some ⟨g3, 0, none⟩) M M) (M) (intsL (M) (fun j => if j < i then k - (j : Int) else 0))) | _ => Below V.heap.size V X ∧ (X.ownsRow V.heap.size 3 1 (.slice (some ⟨g3, 0, none⟩) M M) (M) (intsL (M) (fun j => if j < (i + 1) then k - (j : Int) else 0)))) (fun s => fun i_ => match i_ with | 4 => .int .i64 (k - (i : Int)) | 5 => .pointer (some ⟨g3, 0 + i, none⟩) | _ => undef) () A ⟨BB, FO⟩ (And.intro ?_ (And.intro ?_ (And.intro ?_ trivial))) ?_
    ·exact fun s a X e hS => stepV rfl rfl (execSubIg (z := k - (i : Int)) rfl ((e (.tmp 20)).trans t0) ((e (.tmp 21)).trans t4) (by omega) (by omega) (by omega)) ⟨s, ⟨_, rfl, rfl⟩, hS, ar⟩
    ·exact fun s a X e hS => stepV rfl rfl (execIdxN (k := i) rfl ((e (.tmp 18)).trans t3) ((e (.tmp 19)).trans t4) lti) ⟨s, ⟨_, rfl, rfl⟩, hS, ar⟩
    ·intro s a X e hS
     obtain ⟨hc_, hf_⟩ := own_cellI hS.2 lti
     refine stepS rfl rfl (execStI9 rfl (e (.tmp 23)) (e (.tmp 22)) hc_ hf_) ⟨s, ⟨_, rfl, rfl⟩, ⟨(hS.1).setCell Fg _, own_fill hS.2 rfl⟩, ar⟩
    rintro _ a X7 A e (hS : Below V.heap.size V X7 ∧ (X7.ownsRow V.heap.size 3 1 (.slice (some ⟨g3, 0, none⟩) M M) (M) (intsL (M) (fun j => if j < (i + 1) then k - (j : Int) else 0))))
    obtain ⟨BB, FO2⟩ := hS
    replace t0 := kt e t0
    replace t3 := kt e t3
    replace t14 := kt e t14
    replace t15 := kt e t15
    clear e t4
    refine wp_se 26 [0] [] (fun _ s X => Below V.heap.size V X ∧ (X.ownsRow V.heap.size 3 1 (.slice (some ⟨g3, 0, none⟩) M M) (M) (intsL (M) (fun j => if j < (i + 1) then k - (j : Int) else 0)))) (fun s => fun i_ => match i_ with | 0 => .int .i64 ((i + 1 : Nat) : Int) | _ => undef) () A ⟨BB, FO2⟩ (And.intro ?_ trivial) ?_
    ·exact fun s a X e hS => stepV rfl rfl (execAd8 (p := i) (q := 1) rfl ((e (.tmp 15)).trans t15) rfl (by omega)) ⟨s, ⟨_, rfl, rfl⟩, hS, ar⟩
    rintro _ a X8 A e (hS : Below V.heap.size V X8 ∧ (X8.ownsRow V.heap.size 3 1 (.slice (some ⟨g3, 0, none⟩) M M) (M) (intsL (M) (fun j => if j < (i + 1) then k - (j : Int) else 0))))
    obtain ⟨BB, FO2⟩ := hS
    replace t15 : a.eval (.tmp 15) = .int .i64 ((i + 1 : Nat) : Int) := e _
    replace t0 := kt e t0
    replace t3 := kt e t3
    replace t14 := kt e t14
    clear e
    exact ⟨⟨i + 1, lti, A, t0, t3, t14, t15, BB, FO2⟩, by show M - (intOf (a.eval (.tmp 15))).toNat < M - (intOf (Act.eval _ (.tmp 15))).toNat; rw [t15, esi]; show M - (i + 1) < M - i; omega⟩
   ·rw [decide_eq_false lti] at t16
    refine wp_cond_false t16 ?_
    refine wp_exit ?_
    first | with_reducible refine exit_in ?_ | with_reducible refine exit_then (exit_in ?_) | with_reducible refine exit_then (exit_then (exit_in ?_)) | refine exit_in ?_ | refine exit_then (exit_in ?_) | refine exit_then (exit_then (exit_in ?_))
    clear t16 esi
    obtain rfl : i = M := by omega
    rw [intsL_congr (g := fun j => k - (j : Int)) (fun j hj => if_pos hj)] at FO
    clear t0 t14 t15
    refine wp_seq ?_
    refine wp_se 26 [] [] (fun _ s X => Below V.heap.size V X ∧ (X.ownsRow V.heap.size 3 1 (.slice (some ⟨g3, 0, none⟩) i i) (i) (intsL (i) (fun j => k - (j : Int))))) (fun s => fun _ => undef) () A ⟨BB, FO⟩ trivial ?_
    rintro _ a X9 A e (hS : Below V.heap.size V X9 ∧ (X9.ownsRow V.heap.size 3 1 (.slice (some ⟨g3, 0, none⟩) i i) (i) (intsL (i) (fun j => k - (j : Int)))))
    obtain ⟨BB, FO⟩ := hS
    have t2 : a.eval (.tmp 2) = .slice (some ⟨g3, 0, none⟩) i i := (e _).trans t3
    clear e t3
    refine wp_ret ?_
    refine bodyPost_ret (results_tmp rfl _ _ _) A.2 ⟨_, ?_, FO, BB⟩
    show Ending.returned (a.eval (.tmp 2)) = _
    rw [t2]
set_option maxRecDepth 100000 in
set_option maxHeartbeats 4000000 in
theorem psizes (k c : Int) (V : World) :
  Calls Try.prog 19 #[.int .i64 k, .int .i64 c] V fun e w' => ∃ r, e = .returned (.tuple #[r, .int .i64 ((szE k c : Nat) : Int)]) ∧ w'.ownsRow V.heap.size 3 1 r (zl (szE k c) c.toNat) (intsL (zl (szE k c) c.toNat) (fun j => (szF k.toNat c.toNat j : Int))) ∧ Below V.heap.size V w' := by
 go_enter Try.func19, Try.ntmps19
 refine wp_seq ?_
 refine wp_region_sqK 48 [(0, 4), (1, 5)] (fun i_ => match i_ with | 0 => .slice none 0 0 | 1 => .int .i64 ((0 : Nat) : Int) | _ => undef) rfl (by kernel_rfl) (by decide) (by decide) ?_ ?_
 ·intro i_ hi_ a hf hv hn
  match i_, hi_ with
  | 0, _ => exact stepV rfl rfl (execAsgB rfl rfl) ⟨⟨_, rfl, rfl⟩, rfl⟩
  | 1, _ => exact stepV rfl rfl (execAsgB rfl rfl) ⟨⟨_, rfl, rfl⟩, rfl⟩
  | k_ + 2, h_ => exact absurd h_ (by simp)
 intro a h1 h2 h3 h4
 have t0 : a.eval (.tmp 0) = .int .i64 k := (h3 0 (by decide)).trans rfl
 have t1 : a.eval (.tmp 1) = .int .i64 c := (h3 1 (by decide)).trans rfl
 have A : a.tmps.size = 48 ∧ a.defers = [] := ⟨h1, h2⟩
 have BW : Below V.heap.size V V := Below.refl _ _
 clear h1 h2 h3 h4
 have BB := BW
 refine wp_seq (wp_seq ?_)
 by_cases ha : k < 0
 ·refine wp_se 48 [1] [] (fun _ s X => Below V.heap.size V X) (fun s => fun i_ => match i_ with | 1 => .bool true | _ => undef) () A (BB) (And.intro ?_ trivial) ?_
  ·exact fun s a X e hS => stepV rfl rfl (execLtCt (p := k) (q := 0) rfl ((e (.tmp 8)).trans t0) (by omega)) ⟨s, ⟨_, rfl, rfl⟩, hS, ar⟩
  rintro _ a X1 A e (BB : Below V.heap.size V X1)
  have t21 : a.eval (.tmp 21) = .bool true := e _
  replace t0 := kt e t0
  replace t1 := kt e t1
  clear e
  refine wp_cond_true t21 ?_
  refine wp_seq ?_
  refine wp_se 48 [] [] (fun _ s X => Below V.heap.size V X) (fun s => fun _ => undef) () A (BB) trivial ?_
  rintro _ a X2 A e (BB : Below V.heap.size V X2)
  have t4 : a.eval (.tmp 4) = .slice none 0 0 := e _
  have t5 : a.eval (.tmp 5) = .int .i64 ((2 : Nat) : Int) := e _
  clear e t0 t1
  have hE : szE k c = 2 := if_neg (fun q => by omega)
  rw [hE, zl_no (by decide)]
  refine wp_ret ?_
  repeat (first | with_reducible refine ret_in ?_ | with_reducible refine ret_then ?_)
  refine bodyPost_ret (results_tmp2 rfl _ _ _) A.2 ⟨_, ?_, World.ownsRow_nil _ _ _ _, BB⟩
  show Ending.returned (.tuple #[a.eval (.tmp 4), a.eval (.tmp 5)]) = _
  rw [t4, t5]
 ·by_cases hb : 256 < k
  ·refine wp_se 48 [1, 4] [] (fun _ s X => Below V.heap.size V X) (fun s => fun i_ => match i_ with | 1 => .bool false | 4 => .bool true | _ => undef) () A (BB) (And.intro ?_ (And.intro ?_ trivial)) ?_
   ·exact fun s a X e hS => stepV rfl rfl (execLtCf (p := k) (q := 0) rfl ((e (.tmp 8)).trans t0) (by omega)) ⟨s, ⟨_, rfl, rfl⟩, hS, ar⟩
   ·exact fun s a X e hS => stepV rfl (wy rfl rfl rfl (e (.tmp 10))) (execGtCt (p := k) (q := 256) rfl ((e (.tmp 11)).trans t0) (by omega)) ⟨s, ⟨_, rfl, rfl⟩, hS, ar⟩
   rintro _ a X1 A e (BB : Below V.heap.size V X1)
   have t21 : a.eval (.tmp 21) = .bool true := e _
   replace t0 := kt e t0
   replace t1 := kt e t1
   clear e
   refine wp_cond_true t21 ?_
   refine wp_seq ?_
   refine wp_se 48 [] [] (fun _ s X => Below V.heap.size V X) (fun s => fun _ => undef) () A (BB) trivial ?_
   rintro _ a X2 A e (BB : Below V.heap.size V X2)
   have t4 : a.eval (.tmp 4) = .slice none 0 0 := e _
   have t5 : a.eval (.tmp 5) = .int .i64 ((2 : Nat) : Int) := e _
   clear e t0 t1
   have hE : szE k c = 2 := if_neg (fun q => by omega)
   rw [hE, zl_no (by decide)]
   refine wp_ret ?_
   repeat (first | with_reducible refine ret_in ?_ | with_reducible refine ret_then ?_)
   refine bodyPost_ret (results_tmp2 rfl _ _ _) A.2 ⟨_, ?_, World.ownsRow_nil _ _ _ _, BB⟩
   show Ending.returned (.tuple #[a.eval (.tmp 4), a.eval (.tmp 5)]) = _
   rw [t4, t5]
  ·by_cases hc : c < 1
   ·refine wp_se 48 [1, 4, 8] [] (fun _ s X => Below V.heap.size V X) (fun s => fun i_ => match i_ with | 1 => .bool false | 4 => .bool false | 8 => .bool true | _ => undef) () A (BB) (And.intro ?_ (And.intro ?_ (And.intro ?_ trivial))) ?_
    ·exact fun s a X e hS => stepV rfl rfl (execLtCf (p := k) (q := 0) rfl ((e (.tmp 8)).trans t0) (by omega)) ⟨s, ⟨_, rfl, rfl⟩, hS, ar⟩
    ·exact fun s a X e hS => stepV rfl (wy rfl rfl rfl (e (.tmp 10))) (execGtCf (p := k) (q := 256) rfl ((e (.tmp 11)).trans t0) (by omega)) ⟨s, ⟨_, rfl, rfl⟩, hS, ar⟩
    ·exact fun s a X e hS => stepV rfl (wy rfl rfl rfl (e (.tmp 14))) (execLtCt (p := c) (q := 1) rfl ((e (.tmp 15)).trans t1) (by omega)) ⟨s, ⟨_, rfl, rfl⟩, hS, ar⟩
    rintro _ a X1 A e (BB : Below V.heap.size V X1)
    have t21 : a.eval (.tmp 21) = .bool true := e _
    replace t0 := kt e t0
    replace t1 := kt e t1
    clear e
    refine wp_cond_true t21 ?_
    refine wp_seq ?_
    refine wp_se 48 [] [] (fun _ s X => Below V.heap.size V X) (fun s => fun _ => undef) () A (BB) trivial ?_
    rintro _ a X2 A e (BB : Below V.heap.size V X2)
    have t4 : a.eval (.tmp 4) = .slice none 0 0 := e _
    have t5 : a.eval (.tmp 5) = .int .i64 ((2 : Nat) : Int) := e _
    clear e t0 t1
    have hE : szE k c = 2 := if_neg (fun q => by omega)
    rw [hE, zl_no (by decide)]
    refine wp_ret ?_
    repeat (first | with_reducible refine ret_in ?_ | with_reducible refine ret_then ?_)
    refine bodyPost_ret (results_tmp2 rfl _ _ _) A.2 ⟨_, ?_, World.ownsRow_nil _ _ _ _, BB⟩
    show Ending.returned (.tuple #[a.eval (.tmp 4), a.eval (.tmp 5)]) = _
    rw [t4, t5]
   ·by_cases hd : 64 < c
    ·refine wp_se 48 [1, 4, 8, 12] [] (fun _ s X => Below V.heap.size V X) (fun s => fun i_ => match i_ with | 1 => .bool false | 4 => .bool false | 8 => .bool false | 12 => .bool true | _ => undef) () A (BB) (And.intro ?_ (And.intro ?_ (And.intro ?_ (And.intro ?_ trivial)))) ?_
     ·exact fun s a X e hS => stepV rfl rfl (execLtCf (p := k) (q := 0) rfl ((e (.tmp 8)).trans t0) (by omega)) ⟨s, ⟨_, rfl, rfl⟩, hS, ar⟩
     ·exact fun s a X e hS => stepV rfl (wy rfl rfl rfl (e (.tmp 10))) (execGtCf (p := k) (q := 256) rfl ((e (.tmp 11)).trans t0) (by omega)) ⟨s, ⟨_, rfl, rfl⟩, hS, ar⟩
     ·exact fun s a X e hS => stepV rfl (wy rfl rfl rfl (e (.tmp 14))) (execLtCf (p := c) (q := 1) rfl ((e (.tmp 15)).trans t1) (by omega)) ⟨s, ⟨_, rfl, rfl⟩, hS, ar⟩
     ·exact fun s a X e hS => stepV rfl (wy rfl rfl rfl (e (.tmp 18))) (execGtCt (p := c) (q := 64) rfl ((e (.tmp 19)).trans t1) (by omega)) ⟨s, ⟨_, rfl, rfl⟩, hS, ar⟩
     rintro _ a X1 A e (BB : Below V.heap.size V X1)
     have t21 : a.eval (.tmp 21) = .bool true := e _
     replace t0 := kt e t0
     replace t1 := kt e t1
     clear e
     refine wp_cond_true t21 ?_
     refine wp_seq ?_
     refine wp_se 48 [] [] (fun _ s X => Below V.heap.size V X) (fun s => fun _ => undef) () A (BB) trivial ?_
     rintro _ a X2 A e (BB : Below V.heap.size V X2)
     have t4 : a.eval (.tmp 4) = .slice none 0 0 := e _
     have t5 : a.eval (.tmp 5) = .int .i64 ((2 : Nat) : Int) := e _
     clear e t0 t1
     have hE : szE k c = 2 := if_neg (fun q => by omega)
     rw [hE, zl_no (by decide)]
     refine wp_ret ?_
     repeat (first | with_reducible refine ret_in ?_ | with_reducible refine ret_then ?_)
     refine bodyPost_ret (results_tmp2 rfl _ _ _) A.2 ⟨_, ?_, World.ownsRow_nil _ _ _ _, BB⟩
     show Ending.returned (.tuple #[a.eval (.tmp 4), a.eval (.tmp 5)]) = _
     rw [t4, t5]
    ·refine wp_se 48 [1, 4, 8, 12] [] (fun _ s X => Below V.heap.size V X) (fun s => fun i_ => match i_ with | 1 => .bool false | 4 => .bool false | 8 => .bool false | 12 => .bool false | _ => undef) () A (BB) (And.intro ?_ (And.intro ?_ (And.intro ?_ (And.intro ?_ trivial)))) ?_
     ·exact fun s a X e hS => stepV rfl rfl (execLtCf (p := k) (q := 0) rfl ((e (.tmp 8)).trans t0) (by omega)) ⟨s, ⟨_, rfl, rfl⟩, hS, ar⟩
     ·exact fun s a X e hS => stepV rfl (wy rfl rfl rfl (e (.tmp 10))) (execGtCf (p := k) (q := 256) rfl ((e (.tmp 11)).trans t0) (by omega)) ⟨s, ⟨_, rfl, rfl⟩, hS, ar⟩
     ·exact fun s a X e hS => stepV rfl (wy rfl rfl rfl (e (.tmp 14))) (execLtCf (p := c) (q := 1) rfl ((e (.tmp 15)).trans t1) (by omega)) ⟨s, ⟨_, rfl, rfl⟩, hS, ar⟩
     ·exact fun s a X e hS => stepV rfl (wy rfl rfl rfl (e (.tmp 18))) (execGtCf (p := c) (q := 64) rfl ((e (.tmp 19)).trans t1) (by omega)) ⟨s, ⟨_, rfl, rfl⟩, hS, ar⟩
     rintro _ a X1 A e (BB : Below V.heap.size V X1)
     have t21 : a.eval (.tmp 21) = .bool false := e _
     replace t0 := kt e t0
     replace t1 := kt e t1
     clear e
     refine wp_cond_false t21 (wp_skip ?_)
     clear t21
     obtain ⟨N, rfl⟩ : ∃ N : Nat, k = N := ⟨k.toNat, by omega⟩
     obtain ⟨D, rfl⟩ : ∃ D : Nat, c = D := ⟨c.toNat, by omega⟩
     refine wp_seq ?_
     refine wp_se (σ := Nat) 48 [1] [1] (fun k_ s X => match k_ with | 0 => Below V.heap.size V X | _ => Below V.heap.size V X ∧ (X.ownsRow V.heap.size 3 1 (.slice (some ⟨s, 0, none⟩) D D) (D) (intsL (D) (fun j => if j < 0 then (szF N D j : Int) else 0))) ∧ (V.heap.size ≤ s)) (fun s => fun i_ => match i_ with | 1 => .slice (some ⟨s, 0, none⟩) D D | _ => undef) 0 A (BB) (And.intro ?_ trivial) ?_
     ·intro s a X e hS
      refine stepV rfl rfl (execMkN rfl ((e (.tmp 22)).trans t1) ((e (.tmp 22)).trans t1) (by omega)) ⟨X.heap.size, ⟨_, rfl, rfl⟩, ⟨(hS).trans (((belNew X _)).mono (hS).size), ownD_base (own_mkZ X D _ (by omega) (fun j_ _ => if_neg (Nat.not_lt_zero _))) (hS).size, (hS).size⟩, (And.intro (fun h => absurd h (by decide)) trivial)⟩
     rintro g6 a X3 A e (hS : Below V.heap.size V X3 ∧ (X3.ownsRow V.heap.size 3 1 (.slice (some ⟨g6, 0, none⟩) D D) (D) (intsL (D) (fun j => if j < 0 then (szF N D j : Int) else 0))) ∧ (V.heap.size ≤ g6))
     obtain ⟨BB, FO, Fg⟩ := hS
     have t6 : a.eval (.tmp 6) = .slice (some ⟨g6, 0, none⟩) D D := e _
     replace t0 := kt e t0
     replace t1 := kt e t1
     clear e
     refine wp_seq (wp_seq ?_)
     refine wp_se 48 [1] [] (fun _ s X => Below V.heap.size V X ∧ (X.ownsRow V.heap.size 3 1 (.slice (some ⟨g6, 0, none⟩) D D) (D) (intsL (D) (fun j => if j < 0 then (szF N D j : Int) else 0)))) (fun s => fun i_ => match i_ with | 1 => .int .i64 ((D : Nat) : Int) | _ => undef) () A ⟨BB, FO⟩ (And.intro ?_ trivial) ?_
     ·exact fun s a X e hS => stepV rfl rfl (execLenI (len := D) rfl ((e (.tmp 24)).trans t6) ⟨_, _, rfl⟩) ⟨s, ⟨_, rfl, rfl⟩, hS, ar⟩
     rintro _ a X4 A e (hS : Below V.heap.size V X4 ∧ (X4.ownsRow V.heap.size 3 1 (.slice (some ⟨g6, 0, none⟩) D D) (D) (intsL (D) (fun j => if j < 0 then (szF N D j : Int) else 0))))
     obtain ⟨BB, FO⟩ := hS
     have t25 : a.eval (.tmp 25) = .int .i64 ((D : Nat) : Int) := e _
     have t26 : a.eval (.tmp 26) = .int .i64 ((0 : Nat) : Int) := e _
     replace t0 := kt e t0
     replace t1 := kt e t1
     replace t6 := kt e t6
     clear e
     refine wp_block ?_
     refine wp_loop (fun a W => ∃ (i : Nat), i ≤ D ∧ (a.tmps.size = 48 ∧ a.defers = []) ∧ a.eval (.tmp 0) = .int .i64 ((N : Nat) : Int) ∧ a.eval (.tmp 1) = .int .i64 ((D : Nat) : Int) ∧ a.eval (.tmp 6) = .slice (some ⟨g6, 0, none⟩) D D ∧ a.eval (.tmp 25) = .int .i64 ((D : Nat) : Int) ∧ a.eval (.tmp 26) = .int .i64 ((i : Nat) : Int) ∧ Below V.heap.size V W ∧ (W.ownsRow V.heap.size 3 1 (.slice (some ⟨g6, 0, none⟩) D D) (D) (intsL (D) (fun j => if j < i then (szF N D j : Int) else 0)))) (fun a _ => D - (intOf (a.eval (.tmp 26))).toNat) ⟨0, Nat.zero_le _, A, t0, t1, t6, t25, t26, BB, FO⟩ ?_
     rintro a XL5 ⟨i, hi, A, t0, t1, t6, t25, t26, BB, FO⟩
     have esi := t26
     refine wp_seq ?_
     refine wp_se 48 [0] [] (fun _ s X => Below V.heap.size V X ∧ (X.ownsRow V.heap.size 3 1 (.slice (some ⟨g6, 0, none⟩) D D) (D) (intsL (D) (fun j => if j < i then (szF N D j : Int) else 0)))) (fun s => fun i_ => match i_ with | 0 => .bool (decide (i < D)) | _ => undef) () A ⟨BB, FO⟩ (And.intro ?_ trivial) ?_
     ·exact fun s a X e hS => stepV rfl rfl (execLtW (p := i) (q := D) rfl ((e (.tmp 26)).trans t26) ((e (.tmp 25)).trans t25)) ⟨s, ⟨_, rfl, rfl⟩, hS, ar⟩
     rintro _ a X5 A e (hS : Below V.heap.size V X5 ∧ (X5.ownsRow V.heap.size 3 1 (.slice (some ⟨g6, 0, none⟩) D D) (D) (intsL (D) (fun j => if j < i then (szF N D j : Int) else 0))))
     obtain ⟨BB, FO⟩ := hS
     have t27 : a.eval (.tmp 27) = .bool (decide (i < D)) := e _
     replace t0 := kt e t0
     replace t1 := kt e t1
     replace t6 := kt e t6
     replace t25 := kt e t25
     replace t26 := kt e t26
     clear e
     refine wp_seq ?_
     by_cases lti : i < D
     ·rw [decide_eq_true lti] at t27
      refine wp_cond_true t27 (wp_skip ?_)
      clear t27
      refine wp_seq (wp_block ?_)
      have hq1 : N / D ≤ N := Nat.div_le_self _ _
      refine wp_seq ?_
      refine wp_se 48 [] [] (fun _ s X => Below V.heap.size V X ∧ (X.ownsRow V.heap.size 3 1 (.slice (some ⟨g6, 0, none⟩) D D) (D) (intsL (D) (fun j => if j < i then (szF N D j : Int) else 0)))) (fun s => fun _ => undef) () A ⟨BB, FO⟩ trivial ?_
      rintro _ a X6 A e (hS : Below V.heap.size V X6 ∧ (X6.ownsRow V.heap.size 3 1 (.slice (some ⟨g6, 0, none⟩) D D) (D) (intsL (D) (fun j => if j < i then (szF N D j : Int) else 0))))
      obtain ⟨BB, FO⟩ := hS
      have t7 : a.eval (.tmp 7) = .int .i64 ((i : Nat) : Int) := (e _).trans t26
      replace t0 := kt e t0
      replace t1 := kt e t1
      replace t6 := kt e t6
      replace t25 := kt e t25
      replace t26 := kt e t26
      clear e
      refine wp_seq ?_
      refine wp_se 48 [4, 5, 6] [6] (fun k_ s X => match k_ with | 0 => Below V.heap.size V X ∧ (X.ownsRow V.heap.size 3 1 (.slice (some ⟨g6, 0, none⟩) D D) (D) (intsL (D) (fun j => if j < i then (szF N D j : Int) else 0))) | _ => Below V.heap.size V X ∧ (X.ownsRow V.heap.size 3 1 (.slice (some ⟨g6, 0, none⟩) D D) (D) (intsL (D) (fun x => if x = i then ((N / D : Nat) : Int) else (fun j => if j < i then (szF N D j : Int) else 0) x)))) (fun s => fun i_ => match i_ with | 4 => .int .i64 ((N / D : Nat) : Int) | 5 => .pointer (some ⟨g6, 0 + i, none⟩) | _ => undef) () A ⟨BB, FO⟩ (And.intro ?_ (And.intro ?_ (And.intro ?_ trivial))) ?_
      ·exact fun s a X e hS => stepV rfl rfl (execQuoD (p := N) (q := D) rfl ((e (.tmp 31)).trans t0) ((e (.tmp 32)).trans t1) (by omega) (by omega)) ⟨s, ⟨_, rfl, rfl⟩, hS, ar⟩
      ·exact fun s a X e hS => stepV rfl rfl (execIdxN (k := i) rfl ((e (.tmp 29)).trans t6) ((e (.tmp 30)).trans t7) lti) ⟨s, ⟨_, rfl, rfl⟩, hS, ar⟩
      ·intro s a X e hS
       obtain ⟨hc_, hf_⟩ := own_cellI hS.2 lti
       refine stepS rfl rfl (execStI9 rfl (e (.tmp 34)) (e (.tmp 33)) hc_ hf_) ⟨s, ⟨_, rfl, rfl⟩, ⟨(hS.1).setCell Fg _, own_setF _ hS.2⟩, ar⟩
      rintro _ a X7 A e (hS : Below V.heap.size V X7 ∧ (X7.ownsRow V.heap.size 3 1 (.slice (some ⟨g6, 0, none⟩) D D) (D) (intsL (D) (fun x => if x = i then ((N / D : Nat) : Int) else (fun j => if j < i then (szF N D j : Int) else 0) x))))
      obtain ⟨BB, FP⟩ := hS
      replace t0 := kt e t0
      replace t1 := kt e t1
      replace t6 := kt e t6
      replace t25 := kt e t25
      replace t26 := kt e t26
      replace t7 := kt e t7
      clear e
      refine wp_seq ?_
      by_cases hlr : i < N % D
      ·refine wp_se 48 [3, 4] [] (fun _ s X => Below V.heap.size V X ∧ (X.ownsRow V.heap.size 3 1 (.slice (some ⟨g6, 0, none⟩) D D) (D) (intsL (D) (fun x => if x = i then ((N / D : Nat) : Int) else (fun j => if j < i then (szF N D j : Int) else 0) x)))) (fun s => fun i_ => match i_ with | 3 => .int .i64 ((N % D : Nat) : Int) | 4 => .bool true | _ => undef) () A ⟨BB, FP⟩ (And.intro ?_ (And.intro ?_ trivial)) ?_
       ·exact fun s a X e hS => stepV rfl rfl (Aes.execRemI (p := N) (q := D) rfl ((e (.tmp 36)).trans t0) ((e (.tmp 37)).trans t1) (by omega)) ⟨s, ⟨_, rfl, rfl⟩, hS, ar⟩
       ·exact fun s a X e hS => stepV rfl rfl (execDec (execLtW (p := i) (q := N % D) rfl ((e (.tmp 35)).trans t7) (e (.tmp 38))) (decide_eq_true (by omega))) ⟨s, ⟨_, rfl, rfl⟩, hS, ar⟩
       rintro _ a X8 A e (hS : Below V.heap.size V X8 ∧ (X8.ownsRow V.heap.size 3 1 (.slice (some ⟨g6, 0, none⟩) D D) (D) (intsL (D) (fun x => if x = i then ((N / D : Nat) : Int) else (fun j => if j < i then (szF N D j : Int) else 0) x))))
       obtain ⟨BB, FP⟩ := hS
       have t39 : a.eval (.tmp 39) = .bool true := e _
       replace t0 := kt e t0
       replace t1 := kt e t1
       replace t6 := kt e t6
       replace t25 := kt e t25
       replace t26 := kt e t26
       replace t7 := kt e t7
       clear e
       refine wp_cond_true t39 ?_
       clear t39
       refine wp_se 48 [2, 3, 4, 5, 6] [6] (fun k_ s X => match k_ with | 0 => Below V.heap.size V X ∧ (X.ownsRow V.heap.size 3 1 (.slice (some ⟨g6, 0, none⟩) D D) (D) (intsL (D) (fun x => if x = i then ((N / D : Nat) : Int) else (fun j => if j < i then (szF N D j : Int) else 0) x))) | _ => Below V.heap.size V X ∧ (X.ownsRow V.heap.size 3 1 (.slice (some ⟨g6, 0, none⟩) D D) (D) (intsL (D) (fun j => if j < (i + 1) then (szF N D j : Int) else 0)))) (fun s => fun i_ => match i_ with | 2 => .pointer (some ⟨g6, 0 + i, none⟩) | 3 => .int .i64 ((N / D : Nat) : Int) | 4 => .int .i64 ((N / D + 1 : Nat) : Int) | 5 => .pointer (some ⟨g6, 0 + i, none⟩) | _ => undef) () A ⟨BB, FP⟩ (And.intro ?_ (And.intro ?_ (And.intro ?_ (And.intro ?_ (And.intro ?_ trivial))))) ?_
       ·exact fun s a X e hS => stepV rfl rfl (execIdxN (k := i) rfl ((e (.tmp 40)).trans t6) ((e (.tmp 41)).trans t7) lti) ⟨s, ⟨_, rfl, rfl⟩, hS, ar⟩
       ·exact fun s a X e hS => stepV rfl rfl (execLd3 rfl (e (.tmp 42)) ((own_cellI hS.2 lti).1.trans (by rw [if_pos rfl]))) ⟨s, ⟨_, rfl, rfl⟩, hS, ar⟩
       ·exact fun s a X e hS => stepV rfl rfl (execAd8 (p := N / D) (q := 1) rfl (e (.tmp 43)) rfl (by omega)) ⟨s, ⟨_, rfl, rfl⟩, hS, ar⟩
       ·exact fun s a X e hS => stepV rfl rfl (execIdxN (k := i) rfl ((e (.tmp 40)).trans t6) ((e (.tmp 41)).trans t7) lti) ⟨s, ⟨_, rfl, rfl⟩, hS, ar⟩
       ·intro s a X e hS
        obtain ⟨hc_, hf_⟩ := own_cellI hS.2 lti
        refine stepS rfl rfl (execStI9 rfl (e (.tmp 45)) (e (.tmp 44)) hc_ hf_) ⟨s, ⟨_, rfl, rfl⟩, ⟨(hS.1).setCell Fg _, sz_set2 hS.2 hlr⟩, ar⟩
       rintro _ a X9 A e (hS : Below V.heap.size V X9 ∧ (X9.ownsRow V.heap.size 3 1 (.slice (some ⟨g6, 0, none⟩) D D) (D) (intsL (D) (fun j => if j < (i + 1) then (szF N D j : Int) else 0))))
       obtain ⟨BB, FO2⟩ := hS
       replace t0 := kt e t0
       replace t1 := kt e t1
       replace t6 := kt e t6
       replace t25 := kt e t25
       replace t26 := kt e t26
       clear e t7
       refine wp_se 48 [0] [] (fun _ s X => Below V.heap.size V X ∧ (X.ownsRow V.heap.size 3 1 (.slice (some ⟨g6, 0, none⟩) D D) (D) (intsL (D) (fun j => if j < (i + 1) then (szF N D j : Int) else 0)))) (fun s => fun i_ => match i_ with | 0 => .int .i64 ((i + 1 : Nat) : Int) | _ => undef) () A ⟨BB, FO2⟩ (And.intro ?_ trivial) ?_
       ·exact fun s a X e hS => stepV rfl rfl (execAd8 (p := i) (q := 1) rfl ((e (.tmp 26)).trans t26) rfl (by omega)) ⟨s, ⟨_, rfl, rfl⟩, hS, ar⟩
       rintro _ a X10 A e (hS : Below V.heap.size V X10 ∧ (X10.ownsRow V.heap.size 3 1 (.slice (some ⟨g6, 0, none⟩) D D) (D) (intsL (D) (fun j => if j < (i + 1) then (szF N D j : Int) else 0))))
       obtain ⟨BB, FO2⟩ := hS
       replace t26 : a.eval (.tmp 26) = .int .i64 ((i + 1 : Nat) : Int) := e _
       replace t0 := kt e t0
       replace t1 := kt e t1
       replace t6 := kt e t6
       replace t25 := kt e t25
       clear e
       exact ⟨⟨i + 1, lti, A, t0, t1, t6, t25, t26, BB, FO2⟩, by show D - (intOf (a.eval (.tmp 26))).toNat < D - (intOf (Act.eval _ (.tmp 26))).toNat; rw [t26, esi]; show D - (i + 1) < D - i; omega⟩
      ·refine wp_se 48 [3, 4] [] (fun _ s X => Below V.heap.size V X ∧ (X.ownsRow V.heap.size 3 1 (.slice (some ⟨g6, 0, none⟩) D D) (D) (intsL (D) (fun x => if x = i then ((N / D : Nat) : Int) else (fun j => if j < i then (szF N D j : Int) else 0) x)))) (fun s => fun i_ => match i_ with | 3 => .int .i64 ((N % D : Nat) : Int) | 4 => .bool false | _ => undef) () A ⟨BB, FP⟩ (And.intro ?_ (And.intro ?_ trivial)) ?_
       ·exact fun s a X e hS => stepV rfl rfl (Aes.execRemI (p := N) (q := D) rfl ((e (.tmp 36)).trans t0) ((e (.tmp 37)).trans t1) (by omega)) ⟨s, ⟨_, rfl, rfl⟩, hS, ar⟩
       ·exact fun s a X e hS => stepV rfl rfl (execDec (execLtW (p := i) (q := N % D) rfl ((e (.tmp 35)).trans t7) (e (.tmp 38))) (decide_eq_false (by omega))) ⟨s, ⟨_, rfl, rfl⟩, hS, ar⟩
       rintro _ a X8 A e (hS : Below V.heap.size V X8 ∧ (X8.ownsRow V.heap.size 3 1 (.slice (some ⟨g6, 0, none⟩) D D) (D) (intsL (D) (fun x => if x = i then ((N / D : Nat) : Int) else (fun j => if j < i then (szF N D j : Int) else 0) x))))
       obtain ⟨BB, FP⟩ := hS
       have t39 : a.eval (.tmp 39) = .bool false := e _
       replace t0 := kt e t0
       replace t1 := kt e t1
       replace t6 := kt e t6
       replace t25 := kt e t25
       replace t26 := kt e t26
       replace t7 := kt e t7
       clear e
       refine wp_cond_false t39 (wp_skip ?_)
       clear t39
       clear t7
       have FO2 := sz_set1 FP hlr
       clear FP
       refine wp_se 48 [0] [] (fun _ s X => Below V.heap.size V X ∧ (X.ownsRow V.heap.size 3 1 (.slice (some ⟨g6, 0, none⟩) D D) (D) (intsL (D) (fun j => if j < (i + 1) then (szF N D j : Int) else 0)))) (fun s => fun i_ => match i_ with | 0 => .int .i64 ((i + 1 : Nat) : Int) | _ => undef) () A ⟨BB, FO2⟩ (And.intro ?_ trivial) ?_
       ·exact fun s a X e hS => stepV rfl rfl (execAd8 (p := i) (q := 1) rfl ((e (.tmp 26)).trans t26) rfl (by omega)) ⟨s, ⟨_, rfl, rfl⟩, hS, ar⟩
       rintro _ a X10 A e (hS : Below V.heap.size V X10 ∧ (X10.ownsRow V.heap.size 3 1 (.slice (some ⟨g6, 0, none⟩) D D) (D) (intsL (D) (fun j => if j < (i + 1) then (szF N D j : Int) else 0))))
       obtain ⟨BB, FO2⟩ := hS
       replace t26 : a.eval (.tmp 26) = .int .i64 ((i + 1 : Nat) : Int) := e _
       replace t0 := kt e t0
       replace t1 := kt e t1
       replace t6 := kt e t6
       replace t25 := kt e t25
       clear e
       exact ⟨⟨i + 1, lti, A, t0, t1, t6, t25, t26, BB, FO2⟩, by show D - (intOf (a.eval (.tmp 26))).toNat < D - (intOf (Act.eval _ (.tmp 26))).toNat; rw [t26, esi]; show D - (i + 1) < D - i; omega⟩
     ·rw [decide_eq_false lti] at t27
      refine wp_cond_false t27 ?_
      refine wp_exit ?_
      first | with_reducible refine exit_in ?_ | with_reducible refine exit_then (exit_in ?_) | with_reducible refine exit_then (exit_then (exit_in ?_)) | refine exit_in ?_ | refine exit_then (exit_in ?_) | refine exit_then (exit_then (exit_in ?_))
      clear t27 esi
      obtain rfl : i = D := by omega
      rw [intsL_congr (g := fun j => (szF N i j : Int)) (fun j hj => if_pos hj)] at FO
      clear t0 t1 t25 t26
      refine wp_seq ?_
      refine wp_se 48 [] [] (fun _ s X => Below V.heap.size V X ∧ (X.ownsRow V.heap.size 3 1 (.slice (some ⟨g6, 0, none⟩) i i) (i) (intsL (i) (fun j => (szF N i j : Int))))) (fun s => fun _ => undef) () A ⟨BB, FO⟩ trivial ?_
      rintro _ a X11 A e (hS : Below V.heap.size V X11 ∧ (X11.ownsRow V.heap.size 3 1 (.slice (some ⟨g6, 0, none⟩) i i) (i) (intsL (i) (fun j => (szF N i j : Int)))))
      obtain ⟨BB, FO⟩ := hS
      have t4 : a.eval (.tmp 4) = .slice (some ⟨g6, 0, none⟩) i i := (e _).trans t6
      have t5 : a.eval (.tmp 5) = .int .i64 ((0 : Nat) : Int) := e _
      clear e t6
      have hE : szE ((N : Nat) : Int) ((i : Nat) : Int) = 0 := if_pos (by omega)
      rw [hE, zl_ok, Int.toNat_natCast, Int.toNat_natCast]
      refine wp_ret ?_
      refine bodyPost_ret (results_tmp2 rfl _ _ _) A.2 ⟨_, ?_, FO, BB⟩
      show Ending.returned (.tuple #[a.eval (.tmp 4), a.eval (.tmp 5)]) = _
      rw [t4, t5]
set_option maxRecDepth 100000 in
set_option maxHeartbeats 4000000 in
theorem ppattern (sf df : Nat → Int) (J m : Nat) (v u0 : Value) (V : World) (hv : SliceI V v J sf) (hJ17 : J ≤ 17592186044416) (hv2 : SliceI V u0 m df) (hm17 : m ≤ 17592186044416) :
  Calls Try.prog 43 #[v, u0] V fun e w' => ∃ r1 r2, e = .returned (.tuple #[r1, r2, .int .i64 ((paE sf J df m : Nat) : Int)]) ∧ FmI V.heap.size 2 (x2 r1 r2) (fun _ => zl (paE sf J df m) m) (f2 (pcF sf J df) (poF sf J df m)) w' ∧ Below V.heap.size V w' := by
 obtain ⟨ia, ic, rfl, -, -, hsh⟩ := id hv.shape
 obtain ⟨ja, jc, rfl, -, -, hsj⟩ := id hv2.shape
 have FI := hv
 have FJ := hv2
 go_enter Try.func43, Try.ntmps43
 refine wp_seq ?_
 refine wp_region_sqK 61 [(0, 4), (1, 5), (2, 6)] (fun i_ => match i_ with | 0 => .slice none 0 0 | 1 => .slice none 0 0 | 2 => .int .i64 ((0 : Nat) : Int) | _ => undef) rfl (by kernel_rfl) (by decide) (by decide) ?_ ?_
 ·intro i_ hi_ a hf hv hn
  match i_, hi_ with
  | 0, _ => exact stepV rfl rfl (execAsgB rfl rfl) ⟨⟨_, rfl, rfl⟩, rfl⟩
  | 1, _ => exact stepV rfl rfl (execAsgB rfl rfl) ⟨⟨_, rfl, rfl⟩, rfl⟩
  | 2, _ => exact stepV rfl rfl (execAsgB rfl rfl) ⟨⟨_, rfl, rfl⟩, rfl⟩
  | k_ + 3, h_ => exact absurd h_ (by simp)
 intro a h1 h2 h3 h4
 have t0 : a.eval (.tmp 0) = .slice ia J ic := (h3 0 (by decide)).trans rfl
 have t1 : a.eval (.tmp 1) = .slice ja m jc := (h3 1 (by decide)).trans rfl
 have A : a.tmps.size = 61 ∧ a.defers = [] := ⟨h1, h2⟩
 have BW : Below V.heap.size V V := Below.refl _ _
 clear h1 h2 h3 h4
 have BB := BW
 refine wp_seq (wp_seq ?_)
 cases hs : szQ sf J with
 | false =>
  refine wp_se 61 [1, 2] [] (fun _ s X => Below V.heap.size V X) (fun s => fun i_ => match i_ with | 1 => .bool false | 2 => .bool true | _ => undef) () A (BB) (And.intro ?_ (And.intro ?_ trivial)) ?_
  ·exact fun s a X e hS => stepC rfl rfl (execCall1 Try.func69 (by kernel_rfl) (by kernel_rfl) rfl ((e (.tmp 12)).trans t0)) (hs ▸ pareSizes sf J _ X (FI.on hS) hJ17) fun e w' hh => ⟨_, hh.1, s, ⟨_, rfl, rfl⟩, (hS).trans ((hh.2).mono (hS).size), ar⟩
  ·exact fun s a X e hS => stepV rfl rfl (execNot8 rfl (e (.tmp 13))) ⟨s, ⟨_, rfl, rfl⟩, hS, ar⟩
  rintro _ a X1 A e (BB : Below V.heap.size V X1)
  have t26 : a.eval (.tmp 26) = .bool true := e _
  replace t0 := kt e t0
  replace t1 := kt e t1
  clear e
  refine wp_cond_true t26 ?_
  refine wp_seq ?_
  refine wp_se 61 [] [] (fun _ s X => Below V.heap.size V X) (fun s => fun _ => undef) () A (BB) trivial ?_
  rintro _ a X2 A e (BB : Below V.heap.size V X2)
  have t4 : a.eval (.tmp 4) = .slice none 0 0 := e _
  have t5 : a.eval (.tmp 5) = .slice none 0 0 := e _
  have t6 : a.eval (.tmp 6) = .int .i64 ((2 : Nat) : Int) := e _
  clear e t0 t1
  have hE : paE sf J df m = 2 := paE_no fun q => by have := (paQ_iff.1 q).1; rw [hs] at this; cases this
  rw [hE, zl_no (by decide)]
  refine wp_ret ?_
  repeat (first | with_reducible refine ret_in ?_ | with_reducible refine ret_then ?_)
  refine bodyPost_ret (results_tmp3 rfl _ _ _) A.2 ⟨_, _, ?_, fm2nil _ _ _, BB⟩
  show Ending.returned (.tuple #[a.eval (.tmp 4), a.eval (.tmp 5), a.eval (.tmp 6)]) = _
  rw [t4, t5, t6]
 | true =>
  have hok : okS sf J = true := (szQ_iff.1 hs).2
  have hJ64_ := (szQ_iff.1 hs).1
  by_cases hm : m = sumN (gN sf) J
  ·cases hfal : faQ df m with
   | false =>
    refine wp_se 61 [1, 2, 5, 7, 8, 12, 13] [] (fun _ s X => Below V.heap.size V X) (fun s => fun i_ => match i_ with | 1 => .bool true | 2 => .bool false | 5 => .int .i64 ((m : Nat) : Int) | 7 => .int .i64 ((sumN (gN sf) J : Nat) : Int) | 8 => .bool false | 12 => .bool false | 13 => .bool true | _ => undef) () A (BB) (And.intro ?_ (And.intro ?_ (And.intro ?_ (And.intro ?_ (And.intro ?_ (And.intro ?_ (And.intro ?_ trivial))))))) ?_
    ·exact fun s a X e hS => stepC rfl rfl (execCall1 Try.func69 (by kernel_rfl) (by kernel_rfl) rfl ((e (.tmp 12)).trans t0)) (hs ▸ pareSizes sf J _ X (FI.on hS) hJ17) fun e w' hh => ⟨_, hh.1, s, ⟨_, rfl, rfl⟩, (hS).trans ((hh.2).mono (hS).size), ar⟩
    ·exact fun s a X e hS => stepV rfl rfl (execNot8 rfl (e (.tmp 13))) ⟨s, ⟨_, rfl, rfl⟩, hS, ar⟩
    ·exact fun s a X e hS => stepV rfl (wy rfl rfl rfl (e (.tmp 15))) (execLenI (len := m) rfl ((e (.tmp 16)).trans t1) ((FJ.on hS)).shp) ⟨s, ⟨_, rfl, rfl⟩, hS, ar⟩
    ·exact fun s a X e hS => stepC rfl (wy rfl rfl rfl (e (.tmp 15))) (execCall1 Try.func70 (by kernel_rfl) (by kernel_rfl) rfl ((e (.tmp 18)).trans t0)) (psum sf J _ X (FI.on hS) (by omega) (fun j hj => (okS_iff.1 hok j hj).1) (by have := okS_sum hok; omega)) fun e w' hh => ⟨_, hh.1, s, ⟨_, rfl, rfl⟩, (hS).trans ((hh.2).mono (hS).size), ar⟩
    ·exact fun s a X e hS => stepV rfl (wy rfl rfl rfl (e (.tmp 15))) (execDec (execNeN (p := m) (q := sumN (gN sf) J) rfl (e (.tmp 17)) (e (.tmp 19))) (decide_eq_false (by omega))) ⟨s, ⟨_, rfl, rfl⟩, hS, ar⟩
    ·exact fun s a X e hS => stepC rfl (wy rfl rfl rfl (e (.tmp 22))) (execCall1 Try.func71 (by kernel_rfl) (by kernel_rfl) rfl ((e (.tmp 23)).trans t1)) (hfal ▸ pareFalling df m _ X (FJ.on hS) hm17) fun e w' hh => ⟨_, hh.1, s, ⟨_, rfl, rfl⟩, (hS).trans ((hh.2).mono (hS).size), ar⟩
    ·exact fun s a X e hS => stepV rfl (wy rfl rfl rfl (e (.tmp 22))) (execNot8 rfl (e (.tmp 24))) ⟨s, ⟨_, rfl, rfl⟩, hS, ar⟩
    rintro _ a X1 A e (BB : Below V.heap.size V X1)
    have t26 : a.eval (.tmp 26) = .bool true := e _
    replace t0 := kt e t0
    replace t1 := kt e t1
    clear e
    refine wp_cond_true t26 ?_
    refine wp_seq ?_
    refine wp_se 61 [] [] (fun _ s X => Below V.heap.size V X) (fun s => fun _ => undef) () A (BB) trivial ?_
    rintro _ a X2 A e (BB : Below V.heap.size V X2)
    have t4 : a.eval (.tmp 4) = .slice none 0 0 := e _
    have t5 : a.eval (.tmp 5) = .slice none 0 0 := e _
    have t6 : a.eval (.tmp 6) = .int .i64 ((2 : Nat) : Int) := e _
    clear e t0 t1
    have hE : paE sf J df m = 2 := paE_no fun q => by have := (paQ_iff.1 q).2.2; rw [hfal] at this; cases this
    rw [hE, zl_no (by decide)]
    refine wp_ret ?_
    repeat (first | with_reducible refine ret_in ?_ | with_reducible refine ret_then ?_)
    refine bodyPost_ret (results_tmp3 rfl _ _ _) A.2 ⟨_, _, ?_, fm2nil _ _ _, BB⟩
    show Ending.returned (.tuple #[a.eval (.tmp 4), a.eval (.tmp 5), a.eval (.tmp 6)]) = _
    rw [t4, t5, t6]
   | true =>
    refine wp_se 61 [1, 2, 5, 7, 8, 12, 13] [] (fun _ s X => Below V.heap.size V X) (fun s => fun i_ => match i_ with | 1 => .bool true | 2 => .bool false | 5 => .int .i64 ((m : Nat) : Int) | 7 => .int .i64 ((sumN (gN sf) J : Nat) : Int) | 8 => .bool false | 12 => .bool true | 13 => .bool false | _ => undef) () A (BB) (And.intro ?_ (And.intro ?_ (And.intro ?_ (And.intro ?_ (And.intro ?_ (And.intro ?_ (And.intro ?_ trivial))))))) ?_
    ·exact fun s a X e hS => stepC rfl rfl (execCall1 Try.func69 (by kernel_rfl) (by kernel_rfl) rfl ((e (.tmp 12)).trans t0)) (hs ▸ pareSizes sf J _ X (FI.on hS) hJ17) fun e w' hh => ⟨_, hh.1, s, ⟨_, rfl, rfl⟩, (hS).trans ((hh.2).mono (hS).size), ar⟩
    ·exact fun s a X e hS => stepV rfl rfl (execNot8 rfl (e (.tmp 13))) ⟨s, ⟨_, rfl, rfl⟩, hS, ar⟩
    ·exact fun s a X e hS => stepV rfl (wy rfl rfl rfl (e (.tmp 15))) (execLenI (len := m) rfl ((e (.tmp 16)).trans t1) ((FJ.on hS)).shp) ⟨s, ⟨_, rfl, rfl⟩, hS, ar⟩
    ·exact fun s a X e hS => stepC rfl (wy rfl rfl rfl (e (.tmp 15))) (execCall1 Try.func70 (by kernel_rfl) (by kernel_rfl) rfl ((e (.tmp 18)).trans t0)) (psum sf J _ X (FI.on hS) (by omega) (fun j hj => (okS_iff.1 hok j hj).1) (by have := okS_sum hok; omega)) fun e w' hh => ⟨_, hh.1, s, ⟨_, rfl, rfl⟩, (hS).trans ((hh.2).mono (hS).size), ar⟩
    ·exact fun s a X e hS => stepV rfl (wy rfl rfl rfl (e (.tmp 15))) (execDec (execNeN (p := m) (q := sumN (gN sf) J) rfl (e (.tmp 17)) (e (.tmp 19))) (decide_eq_false (by omega))) ⟨s, ⟨_, rfl, rfl⟩, hS, ar⟩
    ·exact fun s a X e hS => stepC rfl (wy rfl rfl rfl (e (.tmp 22))) (execCall1 Try.func71 (by kernel_rfl) (by kernel_rfl) rfl ((e (.tmp 23)).trans t1)) (hfal ▸ pareFalling df m _ X (FJ.on hS) hm17) fun e w' hh => ⟨_, hh.1, s, ⟨_, rfl, rfl⟩, (hS).trans ((hh.2).mono (hS).size), ar⟩
    ·exact fun s a X e hS => stepV rfl (wy rfl rfl rfl (e (.tmp 22))) (execNot8 rfl (e (.tmp 24))) ⟨s, ⟨_, rfl, rfl⟩, hS, ar⟩
    rintro _ a X1 A e (BB : Below V.heap.size V X1)
    have t26 : a.eval (.tmp 26) = .bool false := e _
    replace t0 := kt e t0
    replace t1 := kt e t1
    clear e
    refine wp_cond_false t26 (wp_skip ?_)
    clear t26
    have hpa : paQ sf J df m = true := paQ_iff.2 ⟨hs, hm, hfal⟩
    have hE : paE sf J df m = 0 := paE_ok hpa
    rw [hE, zl_ok]
    obtain ⟨hn, hD⟩ := pa_draws hpa
    have hpt := chD_pat hn hD
    have hsum := okS_sum hok
    have hJ64 : J ≤ 64 := (szQ_iff.1 hs).1.2
    have Fd : ∀ b, undef.ownBlock = some b → undef.ownBlock ≠ some b := fun b e => by cases e
    have Fb29 : ∀ b, undef.ownBlock = some b → b < X1.heap.size := fun b e => by cases e
    have Fb32 : ∀ b, undef.ownBlock = some b → b < X1.heap.size := fun b e => by cases e
    refine wp_seq ?_
    refine wp_region_stB (σ := Value × Value) 61 [(0, 27), (1, 28), (2, 29), (3, 30), (4, 31), (5, 32), (6, 4), (7, 5)] (fun l_ s X => Below V.heap.size V X ∧ ((∀ b, s.1.ownBlock = some b → s.2.ownBlock ≠ some b)) ∧ ((∀ b, s.1.ownBlock = some b → b < X.heap.size)) ∧ ((∀ b, s.2.ownBlock = some b → b < X.heap.size)) ∧ (l_ 2 = true → (X.ownsRow V.heap.size 3 1 s.1 (m) (intsL (m) (fun _ => 0)))) ∧ (l_ 5 = true → (X.ownsRow V.heap.size 3 1 s.2 (m) (intsL (m) (fun _ => 0))))) (fun s => fun i_ => match i_ with | 0 => .slice ja m jc | 1 => .int .i64 ((m : Nat) : Int) | 2 => s.1 | 3 => .slice ja m jc | 4 => .int .i64 ((m : Nat) : Int) | 5 => s.2 | 6 => s.1 | 7 => s.2 | _ => undef) (undef, undef) (by kernel_rfl) (by kernel_rfl) A.1 (by kernel_rfl) (by decide) (by decide) ⟨(BB.drew), ((Fd)), ((lt_on Fb29 (Below.refl _ _).drew)), ((lt_on Fb32 (Below.refl _ _).drew)), (fun q0_ => by cases q0_), (fun q0_ => by cases q0_)⟩ ?_ ?_
    ·intro i_ hi_ l_ s a X hl_ hf hdep hl2 hcl hno hT
     have up : ∀ j x, x ≠ j → updB l_ j x = l_ x := fun j x hj => by unfold updB; simp [hj]
     match i_, hi_ with
     | 0, _ => exact stepV rfl rfl (execMvB rfl ((hf 1 (by decide)).trans t1)) ⟨s, ⟨_, rfl, rfl⟩, ⟨hT.1, (hT.2.1), (hT.2.2.1), (hT.2.2.2.1), (fun q0_ => absurd (hl_.symm.trans (hcl 1 _ rfl (hcl 2 _ rfl ((up 0 2 (by decide)).symm.trans q0_) 1 rfl) 0 rfl)) (by decide)), (fun q0_ => (hT.2.2.2.2.2 (by rw [up 0 5 (by decide)] at q0_; exact q0_)))⟩, fun _ _ _ => rfl⟩
     | 1, _ => exact stepV rfl rfl (execLenI (len := m) rfl (hdep _ rfl 0 rfl _ rfl _ rfl) ((FJ.on hT.1)).shp) ⟨s, ⟨_, rfl, rfl⟩, ⟨hT.1, (hT.2.1), (hT.2.2.1), (hT.2.2.2.1), (fun q0_ => absurd (hl_.symm.trans (hcl 2 _ rfl ((up 1 2 (by decide)).symm.trans q0_) 1 rfl)) (by decide)), (fun q0_ => (hT.2.2.2.2.2 (by rw [up 1 5 (by decide)] at q0_; exact q0_)))⟩, fun _ _ _ => rfl⟩
     | 2, _ =>
      refine stepV rfl rfl (execMkN rfl (hdep _ rfl 1 rfl _ rfl _ rfl) (hdep _ rfl 1 rfl _ rfl _ rfl) hm17) ⟨((.slice (some ⟨X.heap.size, 0, none⟩) m m), s.2), ⟨_, rfl, rfl⟩, ⟨(hT.1).trans ((belNew X _).mono (hT.1).size), (fun b e q => by have e1 : X.heap.size = b := Option.some.inj e; have := hT.2.2.2.1 b q; omega), (fun b e => by have e1 : X.heap.size = b := Option.some.inj e; have e2 : (X.alloc (.cells (madeCells #[.int .i64 0] m) 3)).heap.size = X.heap.size + 1 := (by simp); omega), ((lt_on hT.2.2.2.1 (belNew X _))), (fun _q0_ => ownD_base (own_mkZ X m (fun _ => 0) hm17 (fun _ _ => rfl)) (hT.1).size), (fun q0_ => (ownD_below (hT.2.2.2.2.2 (by rw [up 2 5 (by decide)] at q0_; exact q0_)) (belNew X _)))⟩, fun i hi hli => ?_⟩
      match i, hi with
      | 0, _ => rfl
      | 1, _ => rfl
      | 2, _ => exact absurd (hl_.symm.trans hli) (by decide)
      | 3, _ => rfl
      | 4, _ => rfl
      | 5, _ => rfl
      | 6, _ => exact absurd (hl_.symm.trans (hcl 6 _ rfl hli 2 rfl)) (by decide)
      | 7, _ => rfl
      | k_ + 8, h_ => exact absurd h_ (by simp)
     | 3, _ => exact stepV rfl rfl (execMvB rfl ((hf 1 (by decide)).trans t1)) ⟨s, ⟨_, rfl, rfl⟩, ⟨hT.1, (hT.2.1), (hT.2.2.1), (hT.2.2.2.1), (fun q0_ => (hT.2.2.2.2.1 (by rw [up 3 2 (by decide)] at q0_; exact q0_))), (fun q0_ => absurd (hl_.symm.trans (hcl 4 _ rfl (hcl 5 _ rfl ((up 3 5 (by decide)).symm.trans q0_) 4 rfl) 3 rfl)) (by decide))⟩, fun _ _ _ => rfl⟩
     | 4, _ => exact stepV rfl rfl (execLenI (len := m) rfl (hdep _ rfl 3 rfl _ rfl _ rfl) ((FJ.on hT.1)).shp) ⟨s, ⟨_, rfl, rfl⟩, ⟨hT.1, (hT.2.1), (hT.2.2.1), (hT.2.2.2.1), (fun q0_ => (hT.2.2.2.2.1 (by rw [up 4 2 (by decide)] at q0_; exact q0_))), (fun q0_ => absurd (hl_.symm.trans (hcl 5 _ rfl ((up 4 5 (by decide)).symm.trans q0_) 4 rfl)) (by decide))⟩, fun _ _ _ => rfl⟩
     | 5, _ =>
      refine stepV rfl rfl (execMkN rfl (hdep _ rfl 4 rfl _ rfl _ rfl) (hdep _ rfl 4 rfl _ rfl _ rfl) hm17) ⟨(s.1, (.slice (some ⟨X.heap.size, 0, none⟩) m m)), ⟨_, rfl, rfl⟩, ⟨(hT.1).trans ((belNew X _).mono (hT.1).size), (fun b e q => by have e1 : X.heap.size = b := Option.some.inj q; have := hT.2.2.1 b e; omega), ((lt_on hT.2.2.1 (belNew X _))), (fun b e => by have e1 : X.heap.size = b := Option.some.inj e; have e2 : (X.alloc (.cells (madeCells #[.int .i64 0] m) 3)).heap.size = X.heap.size + 1 := (by simp); omega), (fun q0_ => (ownD_below (hT.2.2.2.2.1 (by rw [up 5 2 (by decide)] at q0_; exact q0_)) (belNew X _))), (fun _q0_ => ownD_base (own_mkZ X m (fun _ => 0) hm17 (fun _ _ => rfl)) (hT.1).size)⟩, fun i hi hli => ?_⟩
      match i, hi with
      | 0, _ => rfl
      | 1, _ => rfl
      | 2, _ => rfl
      | 3, _ => rfl
      | 4, _ => rfl
      | 5, _ => exact absurd (hl_.symm.trans hli) (by decide)
      | 6, _ => rfl
      | 7, _ => exact absurd (hl_.symm.trans (hcl 7 _ rfl hli 5 rfl)) (by decide)
      | k_ + 8, h_ => exact absurd h_ (by simp)
     | 6, _ => exact stepV rfl rfl (execAsgB rfl (hdep _ rfl 2 rfl _ rfl _ rfl)) ⟨s, ⟨_, rfl, rfl⟩, ⟨hT.1, (hT.2.1), (hT.2.2.1), (hT.2.2.2.1), (fun q0_ => (hT.2.2.2.2.1 (by rw [up 6 2 (by decide)] at q0_; exact q0_))), (fun q0_ => (hT.2.2.2.2.2 (by rw [up 6 5 (by decide)] at q0_; exact q0_)))⟩, fun _ _ _ => rfl⟩
     | 7, _ => exact stepV rfl rfl (execAsgB rfl (hdep _ rfl 5 rfl _ rfl _ rfl)) ⟨s, ⟨_, rfl, rfl⟩, ⟨hT.1, (hT.2.1), (hT.2.2.1), (hT.2.2.2.1), (fun q0_ => (hT.2.2.2.2.1 (by rw [up 7 2 (by decide)] at q0_; exact q0_))), (fun q0_ => (hT.2.2.2.2.2 (by rw [up 7 5 (by decide)] at q0_; exact q0_)))⟩, fun _ _ _ => rfl⟩
     | k_ + 8, h_ => exact absurd h_ (by simp)
    rintro l_ ⟨v29, v32⟩ a X3 h1 h2 h3 h4 hall hT
    clear BB
    clear Fd
    clear Fb29
    clear Fb32
    obtain ⟨BB, Fd, Fb29, Fb32, Fv29, Fv32⟩ := hT
    replace Fd : (∀ b, v29.ownBlock = some b → v32.ownBlock ≠ some b) := Fd
    replace Fb29 : (∀ b, v29.ownBlock = some b → b < X3.heap.size) := Fb29
    replace Fb32 : (∀ b, v32.ownBlock = some b → b < X3.heap.size) := Fb32
    replace Fv29 : (X3.ownsRow V.heap.size 3 1 v29 (m) (intsL (m) (fun _ => 0))) := Fv29 (hall 2 (by decide))
    replace Fv32 : (X3.ownsRow V.heap.size 3 1 v32 (m) (intsL (m) (fun _ => 0))) := Fv32 (hall 5 (by decide))
    clear hall
    replace t0 := (h3 0 (by decide)).trans t0
    replace t1 := (h3 1 (by decide)).trans t1
    have t4 : a.eval (.tmp 4) = v29 := h4 (6, 4) (by decide)
    have t5 : a.eval (.tmp 5) = v32 := h4 (7, 5) (by decide)
    replace A := (⟨h1, h2.trans A.2⟩ : a.tmps.size = 61 ∧ a.defers = [])
    clear h1 h2 h3 h4
    refine wp_seq ?_
    refine wp_se (σ := Value × Value × Nat) 61 [1, 2, 3] [1, 2, 3] (fun k_ s X => match k_ with | 0 => Below V.heap.size V X ∧ (∀ b, v29.ownBlock = some b → v32.ownBlock ≠ some b) ∧ (∀ b, v29.ownBlock = some b → b < X.heap.size) ∧ (∀ b, v32.ownBlock = some b → b < X.heap.size) ∧ (X.ownsRow V.heap.size 3 1 v29 (m) (intsL (m) (fun _ => 0))) ∧ (X.ownsRow V.heap.size 3 1 v32 (m) (intsL (m) (fun _ => 0))) | 1 => Below V.heap.size V X ∧ (FmI V.heap.size 4 (x4 v29 v32 s.1 s.2.1) (n4 m J) (ffP sf J df 0) X) ∧ (∃ g_ n_ c_, s.1 = .slice g_ n_ c_) ∧ (∃ g_ n_ c_, s.2.1 = .slice g_ n_ c_) | 2 => Below V.heap.size V X ∧ (FmI V.heap.size 4 (x4 v29 v32 s.1 s.2.1) (n4 m J) (ffP sf J df 0) X) ∧ (∃ g_ n_ c_, s.1 = .slice g_ n_ c_) ∧ (∃ g_ n_ c_, s.2.1 = .slice g_ n_ c_) ∧ (X.heap[s.2.2]? = some (.cells (rsC (.slice none 0 0) (.slice none 0 0)) 114)) ∧ (V.heap.size ≤ s.2.2) | _ => Below V.heap.size V X ∧ (FmI V.heap.size 4 (x4 v29 v32 s.1 s.2.1) (n4 m J) (ffP sf J df 0) X) ∧ (∃ g_ n_ c_, s.1 = .slice g_ n_ c_) ∧ (∃ g_ n_ c_, s.2.1 = .slice g_ n_ c_) ∧ (V.heap.size ≤ s.2.2) ∧ (X.heap[s.2.2]? = some (.cells (rsC (s.1) (s.2.1)) 114))) (fun s => fun i_ => match i_ with | 1 => .agg (rsC (s.1) (s.2.1)) | 2 => .pointer (some ⟨s.2.2, 0, none⟩) | _ => undef) (undef, undef, 0) A ⟨BB, Fd, Fb29, Fb32, Fv29, Fv32⟩ (And.intro ?_ (And.intro ?_ (And.intro ?_ trivial))) ?_
    ·intro s a X e hS
     refine stepC rfl rfl (execCall1 Try.func72 (by kernel_rfl) (by kernel_rfl) rfl ((e (.tmp 33)).trans t0)) (pbegin sf J _ X (FI.on hS.1) hJ64 hok) fun e w' hh => ?_
     obtain ⟨l_, x_, he, hk, hb⟩ := hh
     refine ⟨_, he, (l_, x_, s.2.2), ⟨_, rfl, rfl⟩, ⟨(hS.1).trans ((hb).mono (hS.1).size), FmI.cgF (fm4 (ownD_below hS.2.2.2.2.1 hb) (ownD_below hS.2.2.2.2.2 hb) hS.2.1 hS.2.2.1 hS.2.2.2.1 hk (hS.1).size) (ffP_zero sf J df m), shp3 (hk.rows 0 (by omega)), shp3 (hk.rows 1 (by omega))⟩, (And.intro (fun h => absurd h (by decide)) (And.intro (fun h => absurd h (by decide)) (And.intro (fun h => absurd h (by decide)) trivial)))⟩
    ·intro s a X e hS
     refine stepV rfl rfl (execAllRs rfl) ⟨(s.1, s.2.1, X.heap.size), ⟨_, rfl, rfl⟩, ⟨(hS.1).trans (((belNew X _)).mono (hS.1).size), (hS.2.1.on (belNew X _)), hS.2.2.1, hS.2.2.2, heapNew X _, (hS.1).size⟩, (And.intro (fun _ => rfl) (And.intro (fun h => absurd h (by decide)) (And.intro (fun h => absurd h (by decide)) trivial)))⟩
    ·intro s a X e hS
     refine stepS rfl rfl (execStRs rfl (e (.tmp 7)) (e (.tmp 34)) hS.2.2.2.2.1 hS.2.2.1 hS.2.2.2.1) ⟨s, ⟨_, rfl, rfl⟩, ⟨below4 hS.1 hS.2.2.2.2.2 _, (hS.2.1.setT hS.2.2.2.2.1 (by decide)), hS.2.2.1, hS.2.2.2.1, hS.2.2.2.2.2, setRow_heap _ _ _ _ _ _ hS.2.2.2.2.1⟩, ar⟩
    rintro ⟨lv, xv, g7⟩ a X4 A e (hS : Below V.heap.size V X4 ∧ (FmI V.heap.size 4 (x4 v29 v32 lv xv) (n4 m J) (ffP sf J df 0) X4) ∧ (∃ g_ n_ c_, lv = .slice g_ n_ c_) ∧ (∃ g_ n_ c_, xv = .slice g_ n_ c_) ∧ (V.heap.size ≤ g7) ∧ (X4.heap[g7]? = some (.cells (rsC (lv) (xv)) 114)))
    obtain ⟨BB, FM, Fhl, Fhx, F7g, F7B⟩ := hS
    have t7 : a.eval (.tmp 7) = .pointer (some ⟨g7, 0, none⟩) := e _
    replace t1 := kt e t1
    replace t4 := kt e t4
    replace t5 := kt e t5
    clear e t0
    refine wp_seq (wp_seq ?_)
    refine wp_se 61 [1] [] (fun _ s X => Below V.heap.size V X ∧ (FmI V.heap.size 4 (x4 v29 v32 lv xv) (n4 m J) (ffP sf J df 0) X) ∧ (X.heap[g7]? = some (.cells (rsC (lv) (xv)) 114))) (fun s => fun i_ => match i_ with | 1 => .int .i64 ((m : Nat) : Int) | _ => undef) () A ⟨BB, FM, F7B⟩ (And.intro ?_ trivial) ?_
    ·exact fun s a X e hS => stepV rfl rfl (execLenI (len := m) rfl ((e (.tmp 35)).trans t1) ((FJ.on hS.1)).shp) ⟨s, ⟨_, rfl, rfl⟩, hS, ar⟩
    rintro _ a X5 A e (hS : Below V.heap.size V X5 ∧ (FmI V.heap.size 4 (x4 v29 v32 lv xv) (n4 m J) (ffP sf J df 0) X5) ∧ (X5.heap[g7]? = some (.cells (rsC (lv) (xv)) 114)))
    obtain ⟨BB, FM, F7B⟩ := hS
    have t35 : a.eval (.tmp 35) = .slice ja m jc := (e _).trans t1
    have t36 : a.eval (.tmp 36) = .int .i64 ((m : Nat) : Int) := e _
    have t37 : a.eval (.tmp 37) = .int .i64 ((0 : Nat) : Int) := e _
    replace t4 := kt e t4
    replace t5 := kt e t5
    replace t7 := kt e t7
    clear e t1
    refine wp_block ?_
    refine wp_loop (fun a W => ∃ (i : Nat), i ≤ m ∧ (a.tmps.size = 61 ∧ a.defers = []) ∧ a.eval (.tmp 4) = v29 ∧ a.eval (.tmp 5) = v32 ∧ a.eval (.tmp 7) = .pointer (some ⟨g7, 0, none⟩) ∧ a.eval (.tmp 35) = .slice ja m jc ∧ a.eval (.tmp 36) = .int .i64 ((m : Nat) : Int) ∧ a.eval (.tmp 37) = .int .i64 ((i : Nat) : Int) ∧ Below V.heap.size V W ∧ (W.heap[g7]? = some (.cells (rsC (lv) (xv)) 114)) ∧ (FmI V.heap.size 4 (x4 v29 v32 lv xv) (n4 m J) (ffP sf J df i) W)) (fun a _ => m - (intOf (a.eval (.tmp 37))).toNat) ⟨0, Nat.zero_le _, A, t4, t5, t7, t35, t36, t37, BB, F7B, FM⟩ ?_
    rintro a XL6 ⟨i, hi, A, t4, t5, t7, t35, t36, t37, BB, F7B, FM⟩
    have esi := t37
    refine wp_seq ?_
    refine wp_se 61 [0] [] (fun _ s X => Below V.heap.size V X ∧ (X.heap[g7]? = some (.cells (rsC (lv) (xv)) 114)) ∧ (FmI V.heap.size 4 (x4 v29 v32 lv xv) (n4 m J) (ffP sf J df i) X)) (fun s => fun i_ => match i_ with | 0 => .bool (decide (i < m)) | _ => undef) () A ⟨BB, F7B, FM⟩ (And.intro ?_ trivial) ?_
    ·exact fun s a X e hS => stepV rfl rfl (execLtW (p := i) (q := m) rfl ((e (.tmp 37)).trans t37) ((e (.tmp 36)).trans t36)) ⟨s, ⟨_, rfl, rfl⟩, hS, ar⟩
    rintro _ a X6 A e (hS : Below V.heap.size V X6 ∧ (X6.heap[g7]? = some (.cells (rsC (lv) (xv)) 114)) ∧ (FmI V.heap.size 4 (x4 v29 v32 lv xv) (n4 m J) (ffP sf J df i) X6))
    obtain ⟨BB, F7B, FM⟩ := hS
    have t38 : a.eval (.tmp 38) = .bool (decide (i < m)) := e _
    replace t4 := kt e t4
    replace t5 := kt e t5
    replace t7 := kt e t7
    replace t35 := kt e t35
    replace t36 := kt e t36
    replace t37 := kt e t37
    clear e
    refine wp_seq ?_
    by_cases lti : i < m
    ·rw [decide_eq_true lti] at t38
     refine wp_cond_true t38 (wp_skip ?_)
     clear t38
     refine wp_seq (wp_block ?_)
     obtain ⟨jb, jo, rfl, hjb, hcelj⟩ := hsj (by omega)
     have cJ : ∀ k, k < m → ∀ X, Below V.heap.size V X → X.cell? ⟨jb, jo + k, none⟩ = some (.int .i64 (df k)) := fun k hk X hX => by rw [cell_below hX hjb]; exact hcelj k hk
     obtain ⟨w, ew⟩ : ∃ w : Nat, df i = w := ⟨(df i).toNat, by have := faQ_iff.1 hfal i lti; omega⟩
     have cW : ∀ X, Below V.heap.size V X → X.cell? ⟨jb, jo + i, none⟩ = some (.int .i64 ((w : Nat) : Int)) := fun X hX => by rw [cJ i lti X hX, ew]
     have hw : gN df i = w := by show (df i).toNat = w; omega
     obtain ⟨c, ec⟩ : ∃ c, chD (gN sf) J (gN df) i = c := ⟨_, rfl⟩
     obtain ⟨o_, eo⟩ : ∃ o_, ofD (gN sf) J (gN df) i = o_ := ⟨_, rfl⟩
     have hcJ : c < J := by rw [← ec]; exact hpt.lt i lti
     have hp0 : poC (gN sf) (chD (gN sf) J (gN df)) i = sumN (gN sf) c + cntC (chD (gN sf) J (gN df)) c i := by rw [← ec]; rfl
     have hpm : sumN (gN sf) c + cntC (chD (gN sf) J (gN df)) c i < m := by rw [← hp0]; exact poC_lt hn hpt lti
     have hq0 := ofD_lt hn hD lti
     rw [ec, eo] at hq0
     have hsl : sumN (lefC (gN sf) (chD (gN sf) J (gN df)) i) J = m - i := by rw [← lfD_is]; exact lfD_sum hn (by omega) (fun k hk => hD k (by omega))
     have hDi := hD i lti
     rw [hw] at hDi
     obtain ⟨p_, ep⟩ : ∃ p_, sumN (gN sf) c + cntC (chD (gN sf) J (gN df)) c i = p_ := ⟨_, rfl⟩
     obtain ⟨q_, eq⟩ : ∃ q_, lefC (gN sf) (chD (gN sf) J (gN df)) i c = q_ := ⟨_, rfl⟩
     have hqs : q_ ≤ 256 := by
      have h1 : q_ ≤ gN sf c := by rw [← eq]; exact Nat.sub_le _ _
      have h2 := sumN_at (r := gN sf) hcJ
      omega
     rw [ep] at hpm
     rw [eq] at hq0
     have cT : ∀ X, FmI V.heap.size 4 (x4 v29 v32 lv xv) (n4 m J) (ffP sf J df i) X → Calls Try.prog 73 #[.agg (rsC lv xv), .int .i64 ((w : Nat) : Int)] X fun e w' => e = .returned (.tuple #[.int .i64 ((c : Nat) : Int), .int .i64 ((o_ : Nat) : Int)]) ∧ Below X.heap.size X w' := fun X hX => by
      have h_ := ptold (lefC (gN sf) (chD (gN sf) J (gN df)) i) J w lv xv X (own_ints (hX.rows 2 (by omega)) (fun j hj => lef_fits sf J df i j hok hj)) (by omega) (by omega) hJ64
      have e1 : pj (lefC (gN sf) (chD (gN sf) J (gN df)) i) w J = c := by rw [← ec, ← lfD_is, ← hw]; rfl
      have e2 : w - sumN (lefC (gN sf) (chD (gN sf) J (gN df)) i) c = o_ := by rw [← eo, ← ec, ← lfD_is, ← hw]; rfl
      rw [e1, e2] at h_
      exact h_
     obtain ⟨g29, c29, e29, hB29, _⟩ := ownL_some9 (FM.rows 0 (by omega)) (show 0 < m by omega)
     obtain ⟨g32, c32, e32, hB32, _⟩ := ownL_some9 (FM.rows 1 (by omega)) (show 0 < m by omega)
     have n29 : g7 ≠ g29 := fun q => FM.notT (t := 0) (by omega) F7B (by decide) (by rw [e29, q]; rfl)
     have n32 : g7 ≠ g32 := fun q => FM.notT (t := 1) (by omega) F7B (by decide) (by rw [e32, q]; rfl)
     refine wp_seq ?_
     refine wp_se 61 [1, 2] [] (fun _ s X => Below V.heap.size V X ∧ (X.heap[g7]? = some (.cells (rsC (lv) (xv)) 114)) ∧ (FmI V.heap.size 4 (x4 v29 v32 lv xv) (n4 m J) (ffP sf J df i) X)) (fun s => fun i_ => match i_ with | 1 => .pointer (some ⟨jb, jo + i, none⟩) | 2 => .int .i64 ((w : Nat) : Int) | _ => undef) () A ⟨BB, F7B, FM⟩ (And.intro ?_ (And.intro ?_ trivial)) ?_
     ·exact fun s a X e hS => stepV rfl rfl (execIdxN (k := i) rfl ((e (.tmp 35)).trans t35) ((e (.tmp 37)).trans t37) lti) ⟨s, ⟨_, rfl, rfl⟩, hS, ar⟩
     ·exact fun s a X e hS => stepV rfl rfl (execLd3 rfl (e (.tmp 40)) (cW X hS.1)) ⟨s, ⟨_, rfl, rfl⟩, hS, ar⟩
     rintro _ a X7 A e (hS : Below V.heap.size V X7 ∧ (X7.heap[g7]? = some (.cells (rsC (lv) (xv)) 114)) ∧ (FmI V.heap.size 4 (x4 v29 v32 lv xv) (n4 m J) (ffP sf J df i) X7))
     obtain ⟨BB, F7B, FM⟩ := hS
     have t8 : a.eval (.tmp 8) = .int .i64 ((i : Nat) : Int) := (e _).trans t37
     have t9 : a.eval (.tmp 9) = .int .i64 ((w : Nat) : Int) := e _
     replace t4 := kt e t4
     replace t5 := kt e t5
     replace t7 := kt e t7
     replace t35 := kt e t35
     replace t36 := kt e t36
     replace t37 := kt e t37
     clear e
     refine wp_seq ?_
     refine wp_se 61 [0, 2] [] (fun _ s X => Below V.heap.size V X ∧ (X.heap[g7]? = some (.cells (rsC (lv) (xv)) 114)) ∧ (FmI V.heap.size 4 (x4 v29 v32 lv xv) (n4 m J) (ffP sf J df i) X)) (fun s => fun i_ => match i_ with | 0 => .agg (rsC (lv) (xv)) | 2 => .tuple #[.int .i64 ((c : Nat) : Int), .int .i64 ((o_ : Nat) : Int)] | _ => undef) () A ⟨BB, F7B, FM⟩ (And.intro ?_ (And.intro ?_ trivial)) ?_
     ·exact fun s a X e hS => stepV rfl rfl (execLdRs rfl ((e (.tmp 7)).trans t7) hS.2.1) ⟨s, ⟨_, rfl, rfl⟩, hS, ar⟩
     ·exact fun s a X e hS => stepC rfl rfl (execCall2 Try.func73 (by kernel_rfl) (by kernel_rfl) rfl (e (.tmp 43)) ((e (.tmp 44)).trans t9)) (cT X hS.2.2) fun e w' hh => ⟨_, hh.1, s, ⟨_, rfl, rfl⟩, ⟨(hS.1).trans ((hh.2).mono (hS.1).size), (on9 hS.2.1 hh.2), (hS.2.2.on hh.2)⟩, ar⟩
     rintro _ a X8 A e (hS : Below V.heap.size V X8 ∧ (X8.heap[g7]? = some (.cells (rsC (lv) (xv)) 114)) ∧ (FmI V.heap.size 4 (x4 v29 v32 lv xv) (n4 m J) (ffP sf J df i) X8))
     obtain ⟨BB, F7B, FM⟩ := hS
     have t10 : a.eval (.tmp 10) = .int .i64 ((c : Nat) : Int) := e _
     have t11 : a.eval (.tmp 11) = .int .i64 ((o_ : Nat) : Int) := e _
     replace t4 := kt e t4
     replace t5 := kt e t5
     replace t7 := kt e t7
     replace t35 := kt e t35
     replace t36 := kt e t36
     replace t37 := kt e t37
     replace t8 := kt e t8
     clear e t9
     refine wp_seq ?_
     refine wp_se 61 [3, 4] [4] (fun k_ s X => match k_ with | 0 => Below V.heap.size V X ∧ (X.heap[g7]? = some (.cells (rsC (lv) (xv)) 114)) ∧ (FmI V.heap.size 4 (x4 v29 v32 lv xv) (n4 m J) (ffP sf J df i) X) | _ => Below V.heap.size V X ∧ (X.heap[g7]? = some (.cells (rsC (lv) (xv)) 114)) ∧ (FmI V.heap.size 4 (x4 v29 v32 lv xv) (n4 m J) (updF (ffP sf J df i) 0 i ((c : Nat) : Int)) X)) (fun s => fun i_ => match i_ with | 3 => .pointer (some ⟨g29, 0 + i, none⟩) | _ => undef) () A ⟨BB, F7B, FM⟩ (And.intro ?_ (And.intro ?_ trivial)) ?_
     ·exact fun s a X e hS => stepV rfl rfl (execIdxN (k := i) rfl (((e (.tmp 48)).trans t4).trans e29) ((e (.tmp 49)).trans t8) lti) ⟨s, ⟨_, rfl, rfl⟩, hS, ar⟩
     ·intro s a X e hS
      obtain ⟨hc_, hf_⟩ := hS.2.2.cell (t := 0) (by omega) e29 lti
      refine stepS rfl rfl (execStI9 rfl (e (.tmp 51)) ((e (.tmp 50)).trans t10) hc_ hf_) ⟨s, ⟨_, rfl, rfl⟩, ⟨(hS.1).setCell hB29 _, ((Below.heap_setCell _ _ _ _ n29).trans hS.2.1), hS.2.2.set (t := 0) (by omega) e29 _⟩, ar⟩
     rintro _ a X9 A e (hS : Below V.heap.size V X9 ∧ (X9.heap[g7]? = some (.cells (rsC (lv) (xv)) 114)) ∧ (FmI V.heap.size 4 (x4 v29 v32 lv xv) (n4 m J) (updF (ffP sf J df i) 0 i ((c : Nat) : Int)) X9))
     obtain ⟨BB, F7B, FM1⟩ := hS
     replace t4 := kt e t4
     replace t5 := kt e t5
     replace t7 := kt e t7
     replace t35 := kt e t35
     replace t36 := kt e t36
     replace t37 := kt e t37
     replace t10 := kt e t10
     replace t11 := kt e t11
     clear e t8
     refine wp_se 61 [1, 3, 5, 6] [3, 6] (fun k_ s X => match k_ with | 0 => Below V.heap.size V X ∧ (X.heap[g7]? = some (.cells (rsC (lv) (xv)) 114)) ∧ (FmI V.heap.size 4 (x4 v29 v32 lv xv) (n4 m J) (updF (ffP sf J df i) 0 i ((c : Nat) : Int)) X) | 1 => Below V.heap.size V X ∧ (X.heap[g7]? = some (.cells (rsC (lv) (xv)) 114)) ∧ (FmI V.heap.size 4 (x4 v29 v32 lv xv) (n4 m J) (updF (updF (updF (ffP sf J df i) 0 i ((c : Nat) : Int)) 3 c ((p_ + 1 : Nat) : Int)) 2 c ((q_ - 1 : Nat) : Int)) X) | _ => Below V.heap.size V X ∧ (X.heap[g7]? = some (.cells (rsC (lv) (xv)) 114)) ∧ (FmI V.heap.size 4 (x4 v29 v32 lv xv) (n4 m J) (updF (updF (updF (updF (ffP sf J df i) 0 i ((c : Nat) : Int)) 3 c ((p_ + 1 : Nat) : Int)) 2 c ((q_ - 1 : Nat) : Int)) 1 p_ ((o_ : Nat) : Int)) X)) (fun s => fun i_ => match i_ with | 1 => .agg (rsC (lv) (xv)) | 3 => .int .i64 ((p_ : Nat) : Int) | 5 => .pointer (some ⟨g32, 0 + p_, none⟩) | _ => undef) () A ⟨BB, F7B, FM1⟩ (And.intro ?_ (And.intro ?_ (And.intro ?_ (And.intro ?_ trivial)))) ?_
     ·exact fun s a X e hS => stepV rfl rfl (execLdRs rfl ((e (.tmp 7)).trans t7) hS.2.1) ⟨s, ⟨_, rfl, rfl⟩, hS, ar⟩
     ·intro s a X e hS
      refine stepC rfl rfl (execCall2 Try.func74 (by kernel_rfl) (by kernel_rfl) rfl (e (.tmp 53)) ((e (.tmp 54)).trans t10)) (pvisit V X 4 2 3 c p_ q_ (x4 v29 v32 lv xv) (n4 m J) (updF (ffP sf J df i) 0 i ((c : Nat) : Int)) hS.1 hS.2.2 (by omega) (by omega) (by omega) hcJ hcJ (by rw [updF_o (by omega), ← ep]; rfl) (by rw [updF_o (by omega), ← eq]; rfl) (by omega) (by omega) (by omega)) fun e w' hh => ?_
      obtain ⟨he, hk, hsv, hb⟩ := hh
      refine ⟨_, he, s, ⟨_, rfl, rfl⟩, ⟨hb, (hp_saved hS.2.1 hsv (fun z => z.elim (hS.2.2.notT (t := 2) (by omega) hS.2.1 (by decide)) (hS.2.2.notT (t := 3) (by omega) hS.2.1 (by decide)))), hk⟩, ar⟩
     ·exact fun s a X e hS => stepV rfl rfl (execIdxN (k := p_) rfl (((e (.tmp 52)).trans t5).trans e32) (e (.tmp 55)) hpm) ⟨s, ⟨_, rfl, rfl⟩, hS, ar⟩
     ·intro s a X e hS
      obtain ⟨hc_, hf_⟩ := hS.2.2.cell (t := 1) (by omega) e32 hpm
      refine stepS rfl rfl (execStI9 rfl (e (.tmp 57)) ((e (.tmp 56)).trans t11) hc_ hf_) ⟨s, ⟨_, rfl, rfl⟩, ⟨(hS.1).setCell hB32 _, ((Below.heap_setCell _ _ _ _ n32).trans hS.2.1), hS.2.2.set (t := 1) (by omega) e32 _⟩, ar⟩
     rintro _ a X10 A e (hS : Below V.heap.size V X10 ∧ (X10.heap[g7]? = some (.cells (rsC (lv) (xv)) 114)) ∧ (FmI V.heap.size 4 (x4 v29 v32 lv xv) (n4 m J) (updF (updF (updF (updF (ffP sf J df i) 0 i ((c : Nat) : Int)) 3 c ((p_ + 1 : Nat) : Int)) 2 c ((q_ - 1 : Nat) : Int)) 1 p_ ((o_ : Nat) : Int)) X10))
     obtain ⟨BB, F7B, FM3⟩ := hS
     replace t4 := kt e t4
     replace t5 := kt e t5
     replace t7 := kt e t7
     replace t35 := kt e t35
     replace t36 := kt e t36
     replace t37 := kt e t37
     clear e t10 t11
     have FM4 := FmI.cgF FM3 (ffP_next sf J df m ec eo ep eq hp0)
     clear FM3
     refine wp_se 61 [0] [] (fun _ s X => Below V.heap.size V X ∧ (X.heap[g7]? = some (.cells (rsC (lv) (xv)) 114)) ∧ (FmI V.heap.size 4 (x4 v29 v32 lv xv) (n4 m J) (ffP sf J df (i + 1)) X)) (fun s => fun i_ => match i_ with | 0 => .int .i64 ((i + 1 : Nat) : Int) | _ => undef) () A ⟨BB, F7B, FM4⟩ (And.intro ?_ trivial) ?_
     ·exact fun s a X e hS => stepV rfl rfl (execAd8 (p := i) (q := 1) rfl ((e (.tmp 37)).trans t37) rfl (by omega)) ⟨s, ⟨_, rfl, rfl⟩, hS, ar⟩
     rintro _ a X11 A e (hS : Below V.heap.size V X11 ∧ (X11.heap[g7]? = some (.cells (rsC (lv) (xv)) 114)) ∧ (FmI V.heap.size 4 (x4 v29 v32 lv xv) (n4 m J) (ffP sf J df (i + 1)) X11))
     obtain ⟨BB, F7B, FM4⟩ := hS
     replace t37 : a.eval (.tmp 37) = .int .i64 ((i + 1 : Nat) : Int) := e _
     replace t4 := kt e t4
     replace t5 := kt e t5
     replace t7 := kt e t7
     replace t35 := kt e t35
     replace t36 := kt e t36
     clear e
     exact ⟨⟨i + 1, lti, A, t4, t5, t7, t35, t36, t37, BB, F7B, FM4⟩, by show m - (intOf (a.eval (.tmp 37))).toNat < m - (intOf (Act.eval _ (.tmp 37))).toNat; rw [t37, esi]; show m - (i + 1) < m - i; omega⟩
    ·rw [decide_eq_false lti] at t38
     refine wp_cond_false t38 ?_
     refine wp_exit ?_
     first | with_reducible refine exit_in ?_ | with_reducible refine exit_then (exit_in ?_) | with_reducible refine exit_then (exit_then (exit_in ?_)) | refine exit_in ?_ | refine exit_then (exit_in ?_) | refine exit_then (exit_then (exit_in ?_))
     clear t38 esi
     obtain rfl : i = m := by omega
     clear t7 t35 t36 t37 F7B
     refine wp_seq ?_
     refine wp_se 61 [] [] (fun _ s X => Below V.heap.size V X ∧ (FmI V.heap.size 4 (x4 v29 v32 lv xv) (n4 i J) (ffP sf J df i) X)) (fun s => fun _ => undef) () A ⟨BB, FM⟩ trivial ?_
     rintro _ a X12 A e (hS : Below V.heap.size V X12 ∧ (FmI V.heap.size 4 (x4 v29 v32 lv xv) (n4 i J) (ffP sf J df i) X12))
     obtain ⟨BB, FM⟩ := hS
     replace t4 : a.eval (.tmp 4) = v29 := (e _).trans t4
     replace t5 : a.eval (.tmp 5) = v32 := (e _).trans t5
     have t6 : a.eval (.tmp 6) = .int .i64 ((0 : Nat) : Int) := e _
     clear e
     refine wp_ret ?_
     refine bodyPost_ret (results_tmp3 rfl _ _ _) A.2 ⟨v29, v32, ?_, FM.first2 (ffP_end sf J df hn hpt), BB⟩
     show Ending.returned (.tuple #[a.eval (.tmp 4), a.eval (.tmp 5), a.eval (.tmp 6)]) = _
     rw [t4, t5, t6]
  ·refine wp_se 61 [1, 2, 5, 7, 8] [] (fun _ s X => Below V.heap.size V X) (fun s => fun i_ => match i_ with | 1 => .bool true | 2 => .bool false | 5 => .int .i64 ((m : Nat) : Int) | 7 => .int .i64 ((sumN (gN sf) J : Nat) : Int) | 8 => .bool true | _ => undef) () A (BB) (And.intro ?_ (And.intro ?_ (And.intro ?_ (And.intro ?_ (And.intro ?_ trivial))))) ?_
   ·exact fun s a X e hS => stepC rfl rfl (execCall1 Try.func69 (by kernel_rfl) (by kernel_rfl) rfl ((e (.tmp 12)).trans t0)) (hs ▸ pareSizes sf J _ X (FI.on hS) hJ17) fun e w' hh => ⟨_, hh.1, s, ⟨_, rfl, rfl⟩, (hS).trans ((hh.2).mono (hS).size), ar⟩
   ·exact fun s a X e hS => stepV rfl rfl (execNot8 rfl (e (.tmp 13))) ⟨s, ⟨_, rfl, rfl⟩, hS, ar⟩
   ·exact fun s a X e hS => stepV rfl (wy rfl rfl rfl (e (.tmp 15))) (execLenI (len := m) rfl ((e (.tmp 16)).trans t1) ((FJ.on hS)).shp) ⟨s, ⟨_, rfl, rfl⟩, hS, ar⟩
   ·exact fun s a X e hS => stepC rfl (wy rfl rfl rfl (e (.tmp 15))) (execCall1 Try.func70 (by kernel_rfl) (by kernel_rfl) rfl ((e (.tmp 18)).trans t0)) (psum sf J _ X (FI.on hS) (by omega) (fun j hj => (okS_iff.1 hok j hj).1) (by have := okS_sum hok; omega)) fun e w' hh => ⟨_, hh.1, s, ⟨_, rfl, rfl⟩, (hS).trans ((hh.2).mono (hS).size), ar⟩
   ·exact fun s a X e hS => stepV rfl (wy rfl rfl rfl (e (.tmp 15))) (execDec (execNeN (p := m) (q := sumN (gN sf) J) rfl (e (.tmp 17)) (e (.tmp 19))) (decide_eq_true (by omega))) ⟨s, ⟨_, rfl, rfl⟩, hS, ar⟩
   rintro _ a X1 A e (BB : Below V.heap.size V X1)
   have t26 : a.eval (.tmp 26) = .bool true := e _
   replace t0 := kt e t0
   replace t1 := kt e t1
   clear e
   refine wp_cond_true t26 ?_
   refine wp_seq ?_
   refine wp_se 61 [] [] (fun _ s X => Below V.heap.size V X) (fun s => fun _ => undef) () A (BB) trivial ?_
   rintro _ a X2 A e (BB : Below V.heap.size V X2)
   have t4 : a.eval (.tmp 4) = .slice none 0 0 := e _
   have t5 : a.eval (.tmp 5) = .slice none 0 0 := e _
   have t6 : a.eval (.tmp 6) = .int .i64 ((2 : Nat) : Int) := e _
   clear e t0 t1
   have hE : paE sf J df m = 2 := paE_no fun q => hm (paQ_iff.1 q).2.1
   rw [hE, zl_no (by decide)]
   refine wp_ret ?_
   repeat (first | with_reducible refine ret_in ?_ | with_reducible refine ret_then ?_)
   refine bodyPost_ret (results_tmp3 rfl _ _ _) A.2 ⟨_, _, ?_, fm2nil _ _ _, BB⟩
   show Ending.returned (.tuple #[a.eval (.tmp 4), a.eval (.tmp 5), a.eval (.tmp 6)]) = _
   rw [t4, t5, t6]
end Go.Proofs.Ytmjpneaccjlpkaa.Brd
