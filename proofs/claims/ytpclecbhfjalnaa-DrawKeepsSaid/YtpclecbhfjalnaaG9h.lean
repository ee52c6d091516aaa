import Derived.Test.YtpclecbhfjalnaaG9g
namespace Go.Proofs.Ytpclecbhfjalnaa.Drw
open Go.RowKit Gf8 Aes By8 Cel Cf Tap
/- The reference's Turn. Written by tools/mkG9h.py. -/

def trN (p : Nat → Nat) (l : Nat) (bs : Nat → Int) (n : Nat) (ws : Nat → Int) (m : Nat) : Nat := if trE p l bs n ws m = 0 then l else 0
theorem anyW_yes {bs ws : Nat → Int} : ∀ {n i}, i < n → (ws i < 0 ∨ bs i ≤ ws i) → anyW bs ws n = true
  | 0, i, h, _ => by omega
  | n + 1, i, h, hb => by
    simp only [anyW, Bool.or_eq_true, decide_eq_true_eq]
    by_cases q : i = n
    · subst q; exact Or.inr hb
    · exact Or.inl (anyW_yes (by omega) hb)
theorem results_tmp2 {fn : Func} {t u : Tmp} (h : fn.results = #[.tmp t, .tmp u]) (tmps : Array Value) (P : Program) (w : World) : (results fn tmps).run P w = .ok (.tuple #[tmps.getD t undef, tmps.getD u undef]) w := by
  simp [results, h]
section
variable {o : Oper} {a : Act} {w : World}
theorem execMkB9 {x : Operand} {n : Nat} (ho : o.op = .makeSlice 22 (.const (.int .i64 0)) x) (hx : a.eval x = .int .i64 (n : Int)) (hn : n ≤ 281474976710656) : (execOp a.eval o).run Try.prog w = .ok (.value (.slice (some ⟨w.heap.size, 0, none⟩) 0 n)) (w.alloc (.cells (madeCells #[.int .u8 0] n) 5)) := by
  obtain ⟨i, h1, h2, h3, h4⟩ := info5
  have h := run_make (P := Try.prog) w 22 5 i (.int .u8 0) Try.underlying22 h1 h2 .i64 .i64 0 (n : Int) (by omega) (by omega) (by rw [h4]; omega) (by omega)
  rw [h3, Int.toNat_natCast, Nat.mul_one] at h
  have ec : a.eval (.const (.int .i64 0)) = .int .i64 0 := rfl
  unfold execOp
  simp only [ho, hx, ec, Sem.run_bind, h, Result.andThen_ok, Sem.run_pure]
  rfl
theorem execU8S {x : Operand} {n : Nat} (ho : o.op = .convert 3 5 x) (hx : a.eval x = .int .i64 (n : Int)) (h : n < 256) : (execOp a.eval o).run Try.prog w = .ok (.value (.int .u8 (n : Int))) w := by
  have e := execU8 (w := w) (n := n) ho hx
  rw [Nat.mod_eq_of_lt h] at e
  exact e
theorem execStB9d {x y : Operand} {b k : Nat} {z : Int} {old : Value} (ho : o.op = .store 5 x y) (hx : a.eval x = .pointer (some ⟨b, k, none⟩)) (hy : a.eval y = .int .u8 z) (hc : w.cell? ⟨b, k, none⟩ = some old) (hf : w.frozen? ⟨b, k, none⟩ = false) : (execOp a.eval o).run Try.prog w = .ok .skip (w.setCell ⟨b, k, none⟩ (.int .u8 z)) := by
  unfold execOp
  simp only [ho, hx, hy]
  simp [go_sem, hc, hf]
end
theorem own_mkB (W : World) (n : Nat) (p : Nat → Nat) (hn : n ≤ 281474976710656) : (W.alloc (.cells (madeCells #[.int .u8 0] n) 5)).ownsRow W.heap.size 5 1 (.slice (some ⟨W.heap.size, 0, none⟩) 0 n) 0 (bytesL 0 p) :=
  ⟨rfl, Or.inr ⟨W.heap.size, n, _, rfl, Nat.le_refl _, heapNew W _, Nat.zero_le _, by unfold maxLen; omega, by simp [madeCells], rfl⟩⟩
theorem ownL_some9 {W : World} {B m : Nat} {v : Value} {xs : List Value} {t : TypeId} {s : Nat} (h : W.ownsRow B t s v m xs) (hm : 0 < m) : ∃ g c, v = .slice (some ⟨g, 0, none⟩) m c ∧ B ≤ g ∧ g < W.heap.size := by
  rcases h.2 with ⟨_, e⟩ | ⟨g, cap, cur, e, hB, hg, _⟩
  · omega
  · exact ⟨g, cap, e, hB, (Array.getElem?_eq_some_iff.1 hg).1⟩
theorem own_cell9 {W : World} {B n g cap j : Nat} {p : Nat → Nat} (h : W.ownsRow B 5 1 (.slice (some ⟨g, 0, none⟩) n cap) n (bytesL n p)) (hj : j < n) : W.cell? ⟨g, 0 + j, none⟩ = some (.int .u8 (p j : Nat)) ∧ W.frozen? ⟨g, 0 + j, none⟩ = false := by
  rw [Nat.zero_add]
  refine ⟨own_at8 h hj, ?_⟩
  rcases h.2 with ⟨e, _⟩ | ⟨g', cap', cur, e, _, hg, _⟩
  · cases e
  · injection e with e1 _ _
    injection e1 with e1
    injection e1 with e1 _ _
    subst e1
    exact frozen4 hg
theorem trS {W : World} {B l g cap i S D w0 : Nat} {p : Nat → Nat} {bs ws : Nat → Int} (h : W.ownsRow B 5 1 (.slice (some ⟨g, 0, none⟩) l cap) l (bytesL l (trF p l bs ws i))) (hb : bs i ≠ 1) (hS : plA p l bs (i + 1) = S + 1) (hD : dV p l (plA p l bs i) (bs i) = D) (hw : ws i = (w0 : Int)) : (W.setCell ⟨g, 0 + S, none⟩ (.int .u8 ((p S - D + w0 : Nat) : Int))).ownsRow B 5 1 (.slice (some ⟨g, 0, none⟩) l cap) l (bytesL l (trF p l bs ws (i + 1))) := by
  have h2 := own_set8 (m := S) (p S - D + w0) h
  rw [Nat.zero_add]
  have e : trF p l bs ws (i + 1) = fun j => if j = S then p S - D + w0 else trF p l bs ws i j := by
    funext j
    show (if bs i ≠ 1 ∧ j = plA p l bs (i + 1) - 1 then p j - dA p l bs i + (ws i).toNat else trF p l bs ws i j) = _
    rw [hS, hw, Int.toNat_natCast]
    by_cases q : j = S
    · subst q
      rw [if_pos ⟨hb, rfl⟩, if_pos rfl]
      show p j - dV p l (plA p l bs i) (bs i) + w0 = _
      rw [hD]
    · rw [if_neg (fun x => q x.2), if_neg q]
  rw [e]
  exact h2
set_option maxRecDepth 100000 in
set_option maxHeartbeats 8000000 in
/-- The reference's Turn. -/
theorem rturn_any (p : Nat → Nat) (l : Nat) (bs ws : Nat → Int) (n m : Nat) (pv bv wv : Value) (V : World) (hp : SliceN V pv l p) (hl : l ≤ 140737488351232) (hz : ∀ l c, pv = .slice none l c → c = 0) (hb : SliceI V bv n bs) (hn17 : n ≤ 17592186044416) (hwv : SliceI V wv m ws) (hm17 : m ≤ 17592186044416) :
    Calls Try.prog 19 #[pv, bv, wv] V fun e w' => ∃ r, e = .returned (.tuple #[r, .int .i64 ((trE p l bs n ws m : Nat) : Int)]) ∧ w'.ownsRow V.heap.size 5 1 r (trN p l bs n ws m) (bytesL (trN p l bs n ws m) (trF p l bs ws n)) ∧ Below V.heap.size V w' := by
  obtain ⟨pa, pc, rfl, -, -, hsp⟩ := id hp.shape
  obtain ⟨ia, ic, rfl, -, -, hsh⟩ := id hb.shape
  obtain ⟨ja, jc, rfl, -, -, hsj⟩ := id hwv.shape
  have FI := hb
  have FJ := hwv
  go_enter Try.func19, Try.ntmps19
  refine wp_seq ?_
  refine wp_region_sqK 95 [(0, 6), (1, 7)] (fun i_ => match i_ with | 0 => .slice none 0 0 | 1 => .int .i64 ((0 : Nat) : Int) | _ => undef) rfl (by kernel_rfl) (by decide) (by decide) ?_ ?_
  · intro i_ hi_ a hf hv hn
    match i_, hi_ with
    | 0, _ => exact stepV rfl rfl (execAsgB rfl rfl) ⟨⟨_, rfl, rfl⟩, rfl⟩
    | 1, _ => exact stepV rfl rfl (execAsgB rfl rfl) ⟨⟨_, rfl, rfl⟩, rfl⟩
    | k_ + 2, h_ => exact absurd h_ (by simp)
  intro a h1 h2 h3 h4
  have t0 : a.eval (.tmp 0) = .slice pa l pc := (h3 0 (by decide)).trans rfl
  have t1 : a.eval (.tmp 1) = .slice ia n ic := (h3 1 (by decide)).trans rfl
  have t2 : a.eval (.tmp 2) = .slice ja m jc := (h3 2 (by decide)).trans rfl
  have A : a.tmps.size = 95 ∧ a.defers = [] := ⟨h1, h2⟩
  have BW : Below V.heap.size V V := Below.refl _ _
  clear h1 h2 h3 h4
  have BB := BW
  refine wp_seq ?_
  refine wp_seq ?_
  by_cases hw : anyB bs n = true
  · have hwr : ∀ X, Below V.heap.size V X → Calls Try.prog 24 #[.slice ia n ic] X fun e w' => e = .returned (.bool true) ∧ Below X.heap.size X w' := fun X hX => by rw [← hw]; exact wrong_any bs n _ X (FI.on hX) hn17
    refine wp_region_sq (σ := Unit) 95 [(0, 15), (1, 16), (2, 17), (3, 18), (4, 19), (5, 20), (6, 21), (7, 22), (8, 23)] (fun j_ s X => match j_ with | 0 => Below V.heap.size V X | 1 => Below V.heap.size V X | 2 => Below V.heap.size V X | 3 => Below V.heap.size V X | 4 => Below V.heap.size V X | 5 => Below V.heap.size V X | 6 => Below V.heap.size V X | 7 => Below V.heap.size V X | 8 => Below V.heap.size V X | _ => Below V.heap.size V X) (fun s => fun i_ => match i_ with | 0 => .slice ia n ic | 1 => .bool true | 2 => .bool true | 3 => undef | 4 => undef | 5 => undef | 6 => undef | 7 => undef | 8 => .bool true | _ => undef) () A.1 (by kernel_rfl) (by decide) (by decide) (BB) ?_ ?_
    · intro i_ hi_ s a X hf hv hn hS
      match i_, hi_ with
      | 0, _ => exact stepV rfl rfl (execMvB rfl ((hf 1 (by decide)).trans t1)) ⟨s, ⟨_, rfl, rfl⟩, hS, fun _ _ => rfl⟩
      | 1, _ => exact stepC rfl rfl (execCall1 Try.func24 (by kernel_rfl) (by kernel_rfl) rfl (hv 0 (by omega) _ rfl _ rfl)) (hwr X hS) fun e w' hh => ⟨_, hh.1, s, ⟨_, rfl, rfl⟩, (hS).trans ((hh.2).mono (hS).size), fun _ _ => rfl⟩
      | 2, _ => exact stepV rfl rfl (execMvB rfl (hv 1 (by omega) _ rfl _ rfl)) ⟨s, ⟨_, rfl, rfl⟩, hS, fun _ _ => rfl⟩
      | 3, _ => exact stepU rfl (unwantedOf rfl (yieldedAt rfl rfl (show a.eval (.tmp 17) = .bool (!false) from (hv 2 (by omega) _ rfl _ rfl)))) ⟨s, ⟨_, rfl, rfl⟩, hS, fun _ _ => rfl⟩
      | 4, _ => exact stepU rfl (unwantedOf rfl (yieldedAt rfl rfl (show a.eval (.tmp 17) = .bool (!false) from (hv 2 (by omega) _ rfl _ rfl)))) ⟨s, ⟨_, rfl, rfl⟩, hS, fun _ _ => rfl⟩
      | 5, _ => exact stepU rfl (unwantedOf rfl (yieldedAt rfl rfl (show a.eval (.tmp 17) = .bool (!false) from (hv 2 (by omega) _ rfl _ rfl)))) ⟨s, ⟨_, rfl, rfl⟩, hS, fun _ _ => rfl⟩
      | 6, _ => exact stepU rfl (unwantedOf rfl (yieldedAt rfl rfl (show a.eval (.tmp 17) = .bool (!false) from (hv 2 (by omega) _ rfl _ rfl)))) ⟨s, ⟨_, rfl, rfl⟩, hS, fun _ _ => rfl⟩
      | 7, _ => exact stepU rfl (unwantedOf rfl (yieldedAt rfl rfl (show a.eval (.tmp 17) = .bool (!false) from (hv 2 (by omega) _ rfl _ rfl)))) ⟨s, ⟨_, rfl, rfl⟩, hS, fun _ _ => rfl⟩
      | 8, _ => exact stepV rfl rfl (execPickT rfl (hv 2 (by omega) _ rfl _ rfl) rfl) ⟨s, ⟨_, rfl, rfl⟩, hS, fun _ _ => rfl⟩
      | k_ + 9, h_ => exact absurd h_ (by simp)
    rintro _ a X1 h1 h2 h3 h4 hS
    clear BB
    replace hS : Below V.heap.size V X1 := hS
    have BB := hS
    clear hS
    replace t0 := (h3 0 (by decide)).trans t0
    replace t1 := (h3 1 (by decide)).trans t1
    replace t2 := (h3 2 (by decide)).trans t2
    have t23 : a.eval (.tmp 23) = .bool true := h4 8 _ rfl _ rfl
    replace A := (⟨h1, h2.trans A.2⟩ : a.tmps.size = 95 ∧ a.defers = [])
    clear h1 h2 h3 h4
    refine wp_cond_true t23 ?_
    refine wp_seq ?_
    refine wp_region_sq (σ := Unit) 95 [(0, 6), (1, 7)] (fun j_ s X => match j_ with | 0 => Below V.heap.size V X | 1 => Below V.heap.size V X | _ => Below V.heap.size V X) (fun s => fun i_ => match i_ with | 0 => .slice none 0 0 | 1 => .int .i64 ((2 : Nat) : Int) | _ => undef) () A.1 (by kernel_rfl) (by decide) (by decide) (BB) ?_ ?_
    · intro i_ hi_ s a X hf hv hn hS
      match i_, hi_ with
      | 0, _ => exact stepV rfl rfl (execAsgB rfl rfl) ⟨s, ⟨_, rfl, rfl⟩, hS, fun _ _ => rfl⟩
      | 1, _ => exact stepV rfl rfl (execAsgB rfl rfl) ⟨s, ⟨_, rfl, rfl⟩, hS, fun _ _ => rfl⟩
      | k_ + 2, h_ => exact absurd h_ (by simp)
    rintro _ a X2 h1 h2 h3 h4 hS
    clear BB
    replace hS : Below V.heap.size V X2 := hS
    have BB := hS
    clear hS
    have t6 : a.eval (.tmp 6) = .slice none 0 0 := h4 0 _ rfl _ rfl
    have t7 : a.eval (.tmp 7) = .int .i64 ((2 : Nat) : Int) := h4 1 _ rfl _ rfl
    replace A := (⟨h1, h2.trans A.2⟩ : a.tmps.size = 95 ∧ a.defers = [])
    clear h1 h2 h3 h4
    clear t0 t1 t2
    have hE : trE p l bs n ws m = 2 := by unfold trE; rw [if_pos (Or.inl hw)]
    have hN : trN p l bs n ws m = 0 := by unfold trN; rw [if_neg (by rw [hE]; decide)]
    rw [hE, hN]
    refine wp_ret ?_
    repeat (first | refine ret_in ?_ | refine ret_then ?_)
    refine bodyPost_ret (results_tmp2 rfl _ _ _) A.2 ⟨_, ?_, World.ownsRow_nil _ _ _ _, BB⟩
    show Ending.returned (.tuple #[a.eval (.tmp 6), a.eval (.tmp 7)]) = _
    rw [t6, t7]
  · have hwf := Bool.eq_false_iff.2 hw
    have hwr : ∀ X, Below V.heap.size V X → Calls Try.prog 24 #[.slice ia n ic] X fun e w' => e = .returned (.bool false) ∧ Below X.heap.size X w' := fun X hX => by rw [← hwf]; exact wrong_any bs n _ X (FI.on hX) hn17
    have hno := anyB_no hwf
    refine wp_region_sq (σ := Unit) 95 [(0, 15), (1, 16), (2, 17), (3, 18), (4, 19), (5, 20), (6, 21), (7, 22), (8, 23)] (fun j_ s X => match j_ with | 0 => Below V.heap.size V X | 1 => Below V.heap.size V X | 2 => Below V.heap.size V X | 3 => Below V.heap.size V X | 4 => Below V.heap.size V X | 5 => Below V.heap.size V X | 6 => Below V.heap.size V X | 7 => Below V.heap.size V X | 8 => Below V.heap.size V X | _ => Below V.heap.size V X) (fun s => fun i_ => match i_ with | 0 => .slice ia n ic | 1 => .bool false | 2 => .bool false | 3 => .slice ja m jc | 4 => .int .i64 ((m : Nat) : Int) | 5 => .slice ia n ic | 6 => .int .i64 ((n : Nat) : Int) | 7 => .bool (decide (m ≠ n)) | 8 => .bool (decide (m ≠ n)) | _ => undef) () A.1 (by kernel_rfl) (by decide) (by decide) (BB) ?_ ?_
    · intro i_ hi_ s a X hf hv hn hS
      match i_, hi_ with
      | 0, _ => exact stepV rfl rfl (execMvB rfl ((hf 1 (by decide)).trans t1)) ⟨s, ⟨_, rfl, rfl⟩, hS, fun _ _ => rfl⟩
      | 1, _ => exact stepC rfl rfl (execCall1 Try.func24 (by kernel_rfl) (by kernel_rfl) rfl (hv 0 (by omega) _ rfl _ rfl)) (hwr X hS) fun e w' hh => ⟨_, hh.1, s, ⟨_, rfl, rfl⟩, (hS).trans ((hh.2).mono (hS).size), fun _ _ => rfl⟩
      | 2, _ => exact stepV rfl rfl (execMvB rfl (hv 1 (by omega) _ rfl _ rfl)) ⟨s, ⟨_, rfl, rfl⟩, hS, fun _ _ => rfl⟩
      | 3, _ => exact stepV rfl (wantedOf rfl (yieldedAt rfl rfl (show a.eval (.tmp 17) = .bool false from (hv 2 (by omega) _ rfl _ rfl)))) (execMvB rfl ((hf 2 (by decide)).trans t2)) ⟨s, ⟨_, rfl, rfl⟩, hS, fun _ _ => rfl⟩
      | 4, _ => exact stepV rfl (wantedOf rfl (yieldedAt rfl rfl (show a.eval (.tmp 17) = .bool false from (hv 2 (by omega) _ rfl _ rfl)))) (execLenI (len := m) rfl (hv 3 (by omega) _ rfl _ rfl) ((FJ.on hS)).shp) ⟨s, ⟨_, rfl, rfl⟩, hS, fun _ _ => rfl⟩
      | 5, _ => exact stepV rfl (wantedOf rfl (yieldedAt rfl rfl (show a.eval (.tmp 17) = .bool false from (hv 2 (by omega) _ rfl _ rfl)))) (execMvB rfl ((hf 1 (by decide)).trans t1)) ⟨s, ⟨_, rfl, rfl⟩, hS, fun _ _ => rfl⟩
      | 6, _ => exact stepV rfl (wantedOf rfl (yieldedAt rfl rfl (show a.eval (.tmp 17) = .bool false from (hv 2 (by omega) _ rfl _ rfl)))) (execLenI (len := n) rfl (hv 5 (by omega) _ rfl _ rfl) ((FI.on hS)).shp) ⟨s, ⟨_, rfl, rfl⟩, hS, fun _ _ => rfl⟩
      | 7, _ => exact stepV rfl (wantedOf rfl (yieldedAt rfl rfl (show a.eval (.tmp 17) = .bool false from (hv 2 (by omega) _ rfl _ rfl)))) (execNeN (p := m) (q := n) rfl (hv 4 (by omega) _ rfl _ rfl) (hv 6 (by omega) _ rfl _ rfl)) ⟨s, ⟨_, rfl, rfl⟩, hS, fun _ _ => rfl⟩
      | 8, _ => exact stepV rfl rfl (execPickF rfl (hv 2 (by omega) _ rfl _ rfl) (hv 7 (by omega) _ rfl _ rfl)) ⟨s, ⟨_, rfl, rfl⟩, hS, fun _ _ => rfl⟩
      | k_ + 9, h_ => exact absurd h_ (by simp)
    rintro _ a X1 h1 h2 h3 h4 hS
    clear BB
    replace hS : Below V.heap.size V X1 := hS
    have BB := hS
    clear hS
    replace t0 := (h3 0 (by decide)).trans t0
    replace t1 := (h3 1 (by decide)).trans t1
    replace t2 := (h3 2 (by decide)).trans t2
    have t23 : a.eval (.tmp 23) = .bool (decide (m ≠ n)) := h4 8 _ rfl _ rfl
    replace A := (⟨h1, h2.trans A.2⟩ : a.tmps.size = 95 ∧ a.defers = [])
    clear h1 h2 h3 h4
    by_cases hmn : m = n
    · rw [decide_eq_false (fun q => q hmn)] at t23
      refine wp_cond_false t23 ?_
      refine wp_skip ?_
      clear t23
      subst hmn
      refine wp_seq ?_
      refine wp_seq ?_
      refine wp_region_sq (σ := Unit) 95 [(0, 8)] (fun j_ s X => match j_ with | 0 => Below V.heap.size V X | _ => Below V.heap.size V X) (fun s => fun i_ => match i_ with | 0 => .int .i64 ((0 : Nat) : Int) | _ => undef) () A.1 (by kernel_rfl) (by decide) (by decide) (BB) ?_ ?_
      · intro i_ hi_ s a X hf hv hn hS
        match i_, hi_ with
        | 0, _ => exact stepV rfl rfl (execAsgB rfl rfl) ⟨s, ⟨_, rfl, rfl⟩, hS, fun _ _ => rfl⟩
        | k_ + 1, h_ => exact absurd h_ (by simp)
      rintro _ a X3 h1 h2 h3 h4 hS
      clear BB
      replace hS : Below V.heap.size V X3 := hS
      have BB := hS
      clear hS
      replace t0 := (h3 0 (by decide)).trans t0
      replace t1 := (h3 1 (by decide)).trans t1
      replace t2 := (h3 2 (by decide)).trans t2
      have t8 : a.eval (.tmp 8) = .int .i64 ((0 : Nat) : Int) := h4 0 _ rfl _ rfl
      replace A := (⟨h1, h2.trans A.2⟩ : a.tmps.size = 95 ∧ a.defers = [])
      clear h1 h2 h3 h4
      refine wp_block ?_
      refine wp_loop (fun a W => ∃ i : Nat, i ≤ m ∧ anyW bs ws i = false ∧ (a.tmps.size = 95 ∧ a.defers = []) ∧ a.eval (.tmp 0) = .slice pa l pc ∧ a.eval (.tmp 1) = .slice ia m ic ∧ a.eval (.tmp 2) = .slice ja m jc ∧ a.eval (.tmp 8) = .int .i64 ((i : Nat) : Int) ∧ Below V.heap.size V W) (fun a _ => m - (intOf (a.eval (.tmp 8))).toNat) ⟨0, Nat.zero_le _, rfl, A, t0, t1, t2, t8, BB⟩ ?_
      clear A t0 t1 t2 t8 BB a
      rintro a XL ⟨i, hi, hnw, A, t0, t1, t2, t8, BB⟩
      have e8 := t8
      refine wp_seq ?_
      refine wp_seq ?_
      refine wp_region_sq (σ := Unit) 95 [(0, 24), (1, 25), (2, 26), (3, 27)] (fun j_ s X => match j_ with | 0 => Below V.heap.size V X | 1 => Below V.heap.size V X | 2 => Below V.heap.size V X | 3 => Below V.heap.size V X | _ => Below V.heap.size V X) (fun s => fun i_ => match i_ with | 0 => .int .i64 ((i : Nat) : Int) | 1 => .slice ja m jc | 2 => .int .i64 ((m : Nat) : Int) | 3 => .bool (decide (i < m)) | _ => undef) () A.1 (by kernel_rfl) (by decide) (by decide) (BB) ?_ ?_
      · intro i_ hi_ s a X hf hv hn hS
        match i_, hi_ with
        | 0, _ => exact stepV rfl rfl (execMvB rfl ((hf 8 (by decide)).trans t8)) ⟨s, ⟨_, rfl, rfl⟩, hS, fun _ _ => rfl⟩
        | 1, _ => exact stepV rfl rfl (execMvB rfl ((hf 2 (by decide)).trans t2)) ⟨s, ⟨_, rfl, rfl⟩, hS, fun _ _ => rfl⟩
        | 2, _ => exact stepV rfl rfl (execLenI (len := m) rfl (hv 1 (by omega) _ rfl _ rfl) ((FJ.on hS)).shp) ⟨s, ⟨_, rfl, rfl⟩, hS, fun _ _ => rfl⟩
        | 3, _ => exact stepV rfl rfl (execLtW (p := i) (q := m) rfl (hv 0 (by omega) _ rfl _ rfl) (hv 2 (by omega) _ rfl _ rfl)) ⟨s, ⟨_, rfl, rfl⟩, hS, fun _ _ => rfl⟩
        | k_ + 4, h_ => exact absurd h_ (by simp)
      rintro _ a X4 h1 h2 h3 h4 hS
      clear BB
      replace hS : Below V.heap.size V X4 := hS
      have BB := hS
      clear hS
      replace t0 := (h3 0 (by decide)).trans t0
      replace t1 := (h3 1 (by decide)).trans t1
      replace t2 := (h3 2 (by decide)).trans t2
      replace t8 := (h3 8 (by decide)).trans t8
      have t27 : a.eval (.tmp 27) = .bool (decide (i < m)) := h4 3 _ rfl _ rfl
      replace A := (⟨h1, h2.trans A.2⟩ : a.tmps.size = 95 ∧ a.defers = [])
      clear h1 h2 h3 h4
      by_cases hlt : i < m
      · rw [decide_eq_true hlt] at t27
        refine wp_cond_true t27 ?_
        refine wp_skip ?_
        clear t27
        obtain ⟨ib, io, rfl, hib, hcell⟩ := hsh (by omega)
        obtain ⟨jb, jo, rfl, hjb, hcelj⟩ := hsj (by omega)
        have cI : ∀ X, Below V.heap.size V X → X.cell? ⟨ib, io + i, none⟩ = some (.int .i64 (bs i)) := fun X hX => by rw [cell_below hX hib]; exact hcell i hlt
        have cJ : ∀ X, Below V.heap.size V X → X.cell? ⟨jb, jo + i, none⟩ = some (.int .i64 (ws i)) := fun X hX => by rw [cell_below hX hjb]; exact hcelj i hlt
        refine wp_seq ?_
        refine wp_block ?_
        by_cases h1 : ws i < 0
        · refine wp_seq ?_
          refine wp_region_detA 95 [(0, 30), (1, 31), (2, 32), (3, 33), (4, 34), (5, 35), (6, 36), (7, 37), (8, 38), (9, 39), (10, 40), (11, 41), (12, 42), (13, 43), (14, 44), (15, 45)] (fun i_ => match i_ with | 0 => .slice (some ⟨jb, jo, none⟩) m jc | 1 => .int .i64 ((i : Nat) : Int) | 2 => .pointer (some ⟨jb, jo + i, none⟩) | 3 => .int .i64 (ws i) | 4 => .bool true | 5 => .bool true | 6 => undef | 7 => undef | 8 => undef | 9 => undef | 10 => undef | 11 => undef | 12 => undef | 13 => undef | 14 => undef | 15 => .bool true | _ => undef) (fun _ X => Below V.heap.size V X) (by kernel_rfl) (by kernel_rfl) A.1 (by kernel_rfl) (by decide) (by decide) BB.drew ?_ ?_
          · intro i_ hi_ l_ a X hl_ hf hdep hl2 hcl hno hT
            match i_, hi_ with
            | 0, _ => exact stepV rfl rfl (execMvB rfl ((hf 2 (by decide)).trans t2)) ⟨⟨_, rfl, rfl⟩, hT⟩
            | 1, _ => exact stepV rfl rfl (execMvB rfl ((hf 8 (by decide)).trans t8)) ⟨⟨_, rfl, rfl⟩, hT⟩
            | 2, _ => exact stepV rfl rfl (execIdxN (k := i) rfl (hdep _ rfl 0 rfl _ rfl _ rfl) (hdep _ rfl 1 rfl _ rfl _ rfl) hlt) ⟨⟨_, rfl, rfl⟩, hT⟩
            | 3, _ => exact stepV rfl rfl (execLd3 rfl (hdep _ rfl 2 rfl _ rfl _ rfl) (cJ X hT)) ⟨⟨_, rfl, rfl⟩, hT⟩
            | 4, _ => exact stepV rfl rfl (execLtCt (p := (ws i)) (q := 0) rfl (hdep _ rfl 3 rfl _ rfl _ rfl) (by exact h1)) ⟨⟨_, rfl, rfl⟩, hT⟩
            | 5, _ => exact stepV rfl rfl (execMvB rfl (hdep _ rfl 4 rfl _ rfl _ rfl)) ⟨⟨_, rfl, rfl⟩, hT⟩
            | 6, _ => exact stepU rfl (unwantedOf rfl (yieldedAt rfl rfl (show a.eval (.tmp 35) = .bool (!false) from (hdep _ rfl 5 rfl _ rfl _ rfl)))) ⟨⟨_, rfl, rfl⟩, hT⟩
            | 7, _ => exact stepU rfl (unwantedOf rfl (yieldedAt rfl rfl (show a.eval (.tmp 35) = .bool (!false) from (hdep _ rfl 5 rfl _ rfl _ rfl)))) ⟨⟨_, rfl, rfl⟩, hT⟩
            | 8, _ => exact stepU rfl (unwantedOf rfl (yieldedAt rfl rfl (show a.eval (.tmp 35) = .bool (!false) from (hdep _ rfl 5 rfl _ rfl _ rfl)))) ⟨⟨_, rfl, rfl⟩, hT⟩
            | 9, _ => exact stepU rfl (unwantedOf rfl (yieldedAt rfl rfl (show a.eval (.tmp 35) = .bool (!false) from (hdep _ rfl 5 rfl _ rfl _ rfl)))) ⟨⟨_, rfl, rfl⟩, hT⟩
            | 10, _ => exact stepU rfl (unwantedOf rfl (yieldedAt rfl rfl (show a.eval (.tmp 35) = .bool (!false) from (hdep _ rfl 5 rfl _ rfl _ rfl)))) ⟨⟨_, rfl, rfl⟩, hT⟩
            | 11, _ => exact stepU rfl (unwantedOf rfl (yieldedAt rfl rfl (show a.eval (.tmp 35) = .bool (!false) from (hdep _ rfl 5 rfl _ rfl _ rfl)))) ⟨⟨_, rfl, rfl⟩, hT⟩
            | 12, _ => exact stepU rfl (unwantedOf rfl (yieldedAt rfl rfl (show a.eval (.tmp 35) = .bool (!false) from (hdep _ rfl 5 rfl _ rfl _ rfl)))) ⟨⟨_, rfl, rfl⟩, hT⟩
            | 13, _ => exact stepU rfl (unwantedOf rfl (yieldedAt rfl rfl (show a.eval (.tmp 35) = .bool (!false) from (hdep _ rfl 5 rfl _ rfl _ rfl)))) ⟨⟨_, rfl, rfl⟩, hT⟩
            | 14, _ => exact stepU rfl (unwantedOf rfl (yieldedAt rfl rfl (show a.eval (.tmp 35) = .bool (!false) from (hdep _ rfl 5 rfl _ rfl _ rfl)))) ⟨⟨_, rfl, rfl⟩, hT⟩
            | 15, _ => exact stepV rfl rfl (execPickT rfl (hdep _ rfl 5 rfl _ rfl _ rfl) rfl) ⟨⟨_, rfl, rfl⟩, hT⟩
            | k_ + 16, h_ => exact absurd h_ (by simp)
          intro l_ a X6 h1 h2 h3 h4 hall hT
          clear hall
          clear BB
          have BB := hT
          clear hT
          replace t0 := (h3 0 (by decide)).trans t0
          replace t1 := (h3 1 (by decide)).trans t1
          replace t2 := (h3 2 (by decide)).trans t2
          replace t8 := (h3 8 (by decide)).trans t8
          have t45 : a.eval (.tmp 45) = .bool true := h4 (15, 45) (by decide)
          replace A := (⟨h1, h2.trans A.2⟩ : a.tmps.size = 95 ∧ a.defers = [])
          clear h1 h2 h3 h4
          refine wp_cond_true t45 ?_
          refine wp_seq ?_
          refine wp_region_sq (σ := Unit) 95 [(0, 6), (1, 7)] (fun j_ s X => match j_ with | 0 => Below V.heap.size V X | 1 => Below V.heap.size V X | _ => Below V.heap.size V X) (fun s => fun i_ => match i_ with | 0 => .slice none 0 0 | 1 => .int .i64 ((2 : Nat) : Int) | _ => undef) () A.1 (by kernel_rfl) (by decide) (by decide) (BB) ?_ ?_
          · intro i_ hi_ s a X hf hv hn hS
            match i_, hi_ with
            | 0, _ => exact stepV rfl rfl (execAsgB rfl rfl) ⟨s, ⟨_, rfl, rfl⟩, hS, fun _ _ => rfl⟩
            | 1, _ => exact stepV rfl rfl (execAsgB rfl rfl) ⟨s, ⟨_, rfl, rfl⟩, hS, fun _ _ => rfl⟩
            | k_ + 2, h_ => exact absurd h_ (by simp)
          rintro _ a X7 h1 h2 h3 h4 hS
          clear BB
          replace hS : Below V.heap.size V X7 := hS
          have BB := hS
          clear hS
          have t6 : a.eval (.tmp 6) = .slice none 0 0 := h4 0 _ rfl _ rfl
          have t7 : a.eval (.tmp 7) = .int .i64 ((2 : Nat) : Int) := h4 1 _ rfl _ rfl
          replace A := (⟨h1, h2.trans A.2⟩ : a.tmps.size = 95 ∧ a.defers = [])
          clear h1 h2 h3 h4
          clear t0 t1 t2 t8 t45
          have hyw : anyW bs ws m = true := anyW_yes hlt (Or.inl h1)
          have hE : trE p l bs m ws m = 2 := by unfold trE; rw [if_pos (Or.inr (Or.inr hyw))]
          have hN : trN p l bs m ws m = 0 := by unfold trN; rw [if_neg (by rw [hE]; decide)]
          rw [hE, hN]
          refine wp_ret ?_
          repeat (first | refine ret_in ?_ | refine ret_then ?_)
          refine bodyPost_ret (results_tmp2 rfl _ _ _) A.2 ⟨_, ?_, World.ownsRow_nil _ _ _ _, BB⟩
          show Ending.returned (.tuple #[a.eval (.tmp 6), a.eval (.tmp 7)]) = _
          rw [t6, t7]
        · by_cases h2 : bs i ≤ ws i
          · refine wp_seq ?_
            refine wp_region_detA 95 [(0, 30), (1, 31), (2, 32), (3, 33), (4, 34), (5, 35), (6, 36), (7, 37), (8, 38), (9, 39), (10, 40), (11, 41), (12, 42), (13, 43), (14, 44), (15, 45)] (fun i_ => match i_ with | 0 => .slice (some ⟨jb, jo, none⟩) m jc | 1 => .int .i64 ((i : Nat) : Int) | 2 => .pointer (some ⟨jb, jo + i, none⟩) | 3 => .int .i64 (ws i) | 4 => .bool false | 5 => .bool false | 6 => .slice (some ⟨jb, jo, none⟩) m jc | 7 => .int .i64 ((i : Nat) : Int) | 8 => .pointer (some ⟨jb, jo + i, none⟩) | 9 => .int .i64 (ws i) | 10 => .slice (some ⟨ib, io, none⟩) m ic | 11 => .int .i64 ((i : Nat) : Int) | 12 => .pointer (some ⟨ib, io + i, none⟩) | 13 => .int .i64 (bs i) | 14 => .bool true | 15 => .bool true | _ => undef) (fun _ X => Below V.heap.size V X) (by kernel_rfl) (by kernel_rfl) A.1 (by kernel_rfl) (by decide) (by decide) BB.drew ?_ ?_
            · intro i_ hi_ l_ a X hl_ hf hdep hl2 hcl hno hT
              match i_, hi_ with
              | 0, _ => exact stepV rfl rfl (execMvB rfl ((hf 2 (by decide)).trans t2)) ⟨⟨_, rfl, rfl⟩, hT⟩
              | 1, _ => exact stepV rfl rfl (execMvB rfl ((hf 8 (by decide)).trans t8)) ⟨⟨_, rfl, rfl⟩, hT⟩
              | 2, _ => exact stepV rfl rfl (execIdxN (k := i) rfl (hdep _ rfl 0 rfl _ rfl _ rfl) (hdep _ rfl 1 rfl _ rfl _ rfl) hlt) ⟨⟨_, rfl, rfl⟩, hT⟩
              | 3, _ => exact stepV rfl rfl (execLd3 rfl (hdep _ rfl 2 rfl _ rfl _ rfl) (cJ X hT)) ⟨⟨_, rfl, rfl⟩, hT⟩
              | 4, _ => exact stepV rfl rfl (execLtCf (p := (ws i)) (q := 0) rfl (hdep _ rfl 3 rfl _ rfl _ rfl) (by exact h1)) ⟨⟨_, rfl, rfl⟩, hT⟩
              | 5, _ => exact stepV rfl rfl (execMvB rfl (hdep _ rfl 4 rfl _ rfl _ rfl)) ⟨⟨_, rfl, rfl⟩, hT⟩
              | 6, _ => exact stepV rfl (wantedOf rfl (yieldedAt rfl rfl (show a.eval (.tmp 35) = .bool false from (hdep _ rfl 5 rfl _ rfl _ rfl)))) (execMvB rfl ((hf 2 (by decide)).trans t2)) ⟨⟨_, rfl, rfl⟩, hT⟩
              | 7, _ => exact stepV rfl (wantedOf rfl (yieldedAt rfl rfl (show a.eval (.tmp 35) = .bool false from (hdep _ rfl 5 rfl _ rfl _ rfl)))) (execMvB rfl ((hf 8 (by decide)).trans t8)) ⟨⟨_, rfl, rfl⟩, hT⟩
              | 8, _ => exact stepV rfl (wantedOf rfl (yieldedAt rfl rfl (show a.eval (.tmp 35) = .bool false from (hdep _ rfl 5 rfl _ rfl _ rfl)))) (execIdxN (k := i) rfl (hdep _ rfl 6 rfl _ rfl _ rfl) (hdep _ rfl 7 rfl _ rfl _ rfl) hlt) ⟨⟨_, rfl, rfl⟩, hT⟩
              | 9, _ => exact stepV rfl (wantedOf rfl (yieldedAt rfl rfl (show a.eval (.tmp 35) = .bool false from (hdep _ rfl 5 rfl _ rfl _ rfl)))) (execLd3 rfl (hdep _ rfl 8 rfl _ rfl _ rfl) (cJ X hT)) ⟨⟨_, rfl, rfl⟩, hT⟩
              | 10, _ => exact stepV rfl (wantedOf rfl (yieldedAt rfl rfl (show a.eval (.tmp 35) = .bool false from (hdep _ rfl 5 rfl _ rfl _ rfl)))) (execMvB rfl ((hf 1 (by decide)).trans t1)) ⟨⟨_, rfl, rfl⟩, hT⟩
              | 11, _ => exact stepV rfl (wantedOf rfl (yieldedAt rfl rfl (show a.eval (.tmp 35) = .bool false from (hdep _ rfl 5 rfl _ rfl _ rfl)))) (execMvB rfl ((hf 8 (by decide)).trans t8)) ⟨⟨_, rfl, rfl⟩, hT⟩
              | 12, _ => exact stepV rfl (wantedOf rfl (yieldedAt rfl rfl (show a.eval (.tmp 35) = .bool false from (hdep _ rfl 5 rfl _ rfl _ rfl)))) (execIdxN (k := i) rfl (hdep _ rfl 10 rfl _ rfl _ rfl) (hdep _ rfl 11 rfl _ rfl _ rfl) hlt) ⟨⟨_, rfl, rfl⟩, hT⟩
              | 13, _ => exact stepV rfl (wantedOf rfl (yieldedAt rfl rfl (show a.eval (.tmp 35) = .bool false from (hdep _ rfl 5 rfl _ rfl _ rfl)))) (execLd3 rfl (hdep _ rfl 12 rfl _ rfl _ rfl) (cI X hT)) ⟨⟨_, rfl, rfl⟩, hT⟩
              | 14, _ => exact stepV rfl (wantedOf rfl (yieldedAt rfl rfl (show a.eval (.tmp 35) = .bool false from (hdep _ rfl 5 rfl _ rfl _ rfl)))) (execGeIt rfl (hdep _ rfl 9 rfl _ rfl _ rfl) (hdep _ rfl 13 rfl _ rfl _ rfl) h2) ⟨⟨_, rfl, rfl⟩, hT⟩
              | 15, _ => exact stepV rfl rfl (execPickF rfl (hdep _ rfl 5 rfl _ rfl _ rfl) (hdep _ rfl 14 rfl _ rfl _ rfl)) ⟨⟨_, rfl, rfl⟩, hT⟩
              | k_ + 16, h_ => exact absurd h_ (by simp)
            intro l_ a X6 h1 h2 h3 h4 hall hT
            clear hall
            clear BB
            have BB := hT
            clear hT
            replace t0 := (h3 0 (by decide)).trans t0
            replace t1 := (h3 1 (by decide)).trans t1
            replace t2 := (h3 2 (by decide)).trans t2
            replace t8 := (h3 8 (by decide)).trans t8
            have t45 : a.eval (.tmp 45) = .bool true := h4 (15, 45) (by decide)
            replace A := (⟨h1, h2.trans A.2⟩ : a.tmps.size = 95 ∧ a.defers = [])
            clear h1 h2 h3 h4
            refine wp_cond_true t45 ?_
            refine wp_seq ?_
            refine wp_region_sq (σ := Unit) 95 [(0, 6), (1, 7)] (fun j_ s X => match j_ with | 0 => Below V.heap.size V X | 1 => Below V.heap.size V X | _ => Below V.heap.size V X) (fun s => fun i_ => match i_ with | 0 => .slice none 0 0 | 1 => .int .i64 ((2 : Nat) : Int) | _ => undef) () A.1 (by kernel_rfl) (by decide) (by decide) (BB) ?_ ?_
            · intro i_ hi_ s a X hf hv hn hS
              match i_, hi_ with
              | 0, _ => exact stepV rfl rfl (execAsgB rfl rfl) ⟨s, ⟨_, rfl, rfl⟩, hS, fun _ _ => rfl⟩
              | 1, _ => exact stepV rfl rfl (execAsgB rfl rfl) ⟨s, ⟨_, rfl, rfl⟩, hS, fun _ _ => rfl⟩
              | k_ + 2, h_ => exact absurd h_ (by simp)
            rintro _ a X7 h1 h2 h3 h4 hS
            clear BB
            replace hS : Below V.heap.size V X7 := hS
            have BB := hS
            clear hS
            have t6 : a.eval (.tmp 6) = .slice none 0 0 := h4 0 _ rfl _ rfl
            have t7 : a.eval (.tmp 7) = .int .i64 ((2 : Nat) : Int) := h4 1 _ rfl _ rfl
            replace A := (⟨h1, h2.trans A.2⟩ : a.tmps.size = 95 ∧ a.defers = [])
            clear h1 h2 h3 h4
            clear t0 t1 t2 t8 t45
            have hyw : anyW bs ws m = true := anyW_yes hlt (Or.inr h2)
            have hE : trE p l bs m ws m = 2 := by unfold trE; rw [if_pos (Or.inr (Or.inr hyw))]
            have hN : trN p l bs m ws m = 0 := by unfold trN; rw [if_neg (by rw [hE]; decide)]
            rw [hE, hN]
            refine wp_ret ?_
            repeat (first | refine ret_in ?_ | refine ret_then ?_)
            refine bodyPost_ret (results_tmp2 rfl _ _ _) A.2 ⟨_, ?_, World.ownsRow_nil _ _ _ _, BB⟩
            show Ending.returned (.tuple #[a.eval (.tmp 6), a.eval (.tmp 7)]) = _
            rw [t6, t7]
          · refine wp_seq ?_
            refine wp_region_detA 95 [(0, 30), (1, 31), (2, 32), (3, 33), (4, 34), (5, 35), (6, 36), (7, 37), (8, 38), (9, 39), (10, 40), (11, 41), (12, 42), (13, 43), (14, 44), (15, 45)] (fun i_ => match i_ with | 0 => .slice (some ⟨jb, jo, none⟩) m jc | 1 => .int .i64 ((i : Nat) : Int) | 2 => .pointer (some ⟨jb, jo + i, none⟩) | 3 => .int .i64 (ws i) | 4 => .bool false | 5 => .bool false | 6 => .slice (some ⟨jb, jo, none⟩) m jc | 7 => .int .i64 ((i : Nat) : Int) | 8 => .pointer (some ⟨jb, jo + i, none⟩) | 9 => .int .i64 (ws i) | 10 => .slice (some ⟨ib, io, none⟩) m ic | 11 => .int .i64 ((i : Nat) : Int) | 12 => .pointer (some ⟨ib, io + i, none⟩) | 13 => .int .i64 (bs i) | 14 => .bool false | 15 => .bool false | _ => undef) (fun _ X => Below V.heap.size V X) (by kernel_rfl) (by kernel_rfl) A.1 (by kernel_rfl) (by decide) (by decide) BB.drew ?_ ?_
            · intro i_ hi_ l_ a X hl_ hf hdep hl2 hcl hno hT
              match i_, hi_ with
              | 0, _ => exact stepV rfl rfl (execMvB rfl ((hf 2 (by decide)).trans t2)) ⟨⟨_, rfl, rfl⟩, hT⟩
              | 1, _ => exact stepV rfl rfl (execMvB rfl ((hf 8 (by decide)).trans t8)) ⟨⟨_, rfl, rfl⟩, hT⟩
              | 2, _ => exact stepV rfl rfl (execIdxN (k := i) rfl (hdep _ rfl 0 rfl _ rfl _ rfl) (hdep _ rfl 1 rfl _ rfl _ rfl) hlt) ⟨⟨_, rfl, rfl⟩, hT⟩
              | 3, _ => exact stepV rfl rfl (execLd3 rfl (hdep _ rfl 2 rfl _ rfl _ rfl) (cJ X hT)) ⟨⟨_, rfl, rfl⟩, hT⟩
              | 4, _ => exact stepV rfl rfl (execLtCf (p := (ws i)) (q := 0) rfl (hdep _ rfl 3 rfl _ rfl _ rfl) (by exact h1)) ⟨⟨_, rfl, rfl⟩, hT⟩
              | 5, _ => exact stepV rfl rfl (execMvB rfl (hdep _ rfl 4 rfl _ rfl _ rfl)) ⟨⟨_, rfl, rfl⟩, hT⟩
              | 6, _ => exact stepV rfl (wantedOf rfl (yieldedAt rfl rfl (show a.eval (.tmp 35) = .bool false from (hdep _ rfl 5 rfl _ rfl _ rfl)))) (execMvB rfl ((hf 2 (by decide)).trans t2)) ⟨⟨_, rfl, rfl⟩, hT⟩
              | 7, _ => exact stepV rfl (wantedOf rfl (yieldedAt rfl rfl (show a.eval (.tmp 35) = .bool false from (hdep _ rfl 5 rfl _ rfl _ rfl)))) (execMvB rfl ((hf 8 (by decide)).trans t8)) ⟨⟨_, rfl, rfl⟩, hT⟩
              | 8, _ => exact stepV rfl (wantedOf rfl (yieldedAt rfl rfl (show a.eval (.tmp 35) = .bool false from (hdep _ rfl 5 rfl _ rfl _ rfl)))) (execIdxN (k := i) rfl (hdep _ rfl 6 rfl _ rfl _ rfl) (hdep _ rfl 7 rfl _ rfl _ rfl) hlt) ⟨⟨_, rfl, rfl⟩, hT⟩
              | 9, _ => exact stepV rfl (wantedOf rfl (yieldedAt rfl rfl (show a.eval (.tmp 35) = .bool false from (hdep _ rfl 5 rfl _ rfl _ rfl)))) (execLd3 rfl (hdep _ rfl 8 rfl _ rfl _ rfl) (cJ X hT)) ⟨⟨_, rfl, rfl⟩, hT⟩
              | 10, _ => exact stepV rfl (wantedOf rfl (yieldedAt rfl rfl (show a.eval (.tmp 35) = .bool false from (hdep _ rfl 5 rfl _ rfl _ rfl)))) (execMvB rfl ((hf 1 (by decide)).trans t1)) ⟨⟨_, rfl, rfl⟩, hT⟩
              | 11, _ => exact stepV rfl (wantedOf rfl (yieldedAt rfl rfl (show a.eval (.tmp 35) = .bool false from (hdep _ rfl 5 rfl _ rfl _ rfl)))) (execMvB rfl ((hf 8 (by decide)).trans t8)) ⟨⟨_, rfl, rfl⟩, hT⟩
              | 12, _ => exact stepV rfl (wantedOf rfl (yieldedAt rfl rfl (show a.eval (.tmp 35) = .bool false from (hdep _ rfl 5 rfl _ rfl _ rfl)))) (execIdxN (k := i) rfl (hdep _ rfl 10 rfl _ rfl _ rfl) (hdep _ rfl 11 rfl _ rfl _ rfl) hlt) ⟨⟨_, rfl, rfl⟩, hT⟩
              | 13, _ => exact stepV rfl (wantedOf rfl (yieldedAt rfl rfl (show a.eval (.tmp 35) = .bool false from (hdep _ rfl 5 rfl _ rfl _ rfl)))) (execLd3 rfl (hdep _ rfl 12 rfl _ rfl _ rfl) (cI X hT)) ⟨⟨_, rfl, rfl⟩, hT⟩
              | 14, _ => exact stepV rfl (wantedOf rfl (yieldedAt rfl rfl (show a.eval (.tmp 35) = .bool false from (hdep _ rfl 5 rfl _ rfl _ rfl)))) (execGeIf rfl (hdep _ rfl 9 rfl _ rfl _ rfl) (hdep _ rfl 13 rfl _ rfl _ rfl) h2) ⟨⟨_, rfl, rfl⟩, hT⟩
              | 15, _ => exact stepV rfl rfl (execPickF rfl (hdep _ rfl 5 rfl _ rfl _ rfl) (hdep _ rfl 14 rfl _ rfl _ rfl)) ⟨⟨_, rfl, rfl⟩, hT⟩
              | k_ + 16, h_ => exact absurd h_ (by simp)
            intro l_ a X6 h1 h2 h3 h4 hall hT
            clear hall
            clear BB
            have BB := hT
            clear hT
            replace t0 := (h3 0 (by decide)).trans t0
            replace t1 := (h3 1 (by decide)).trans t1
            replace t2 := (h3 2 (by decide)).trans t2
            replace t8 := (h3 8 (by decide)).trans t8
            have t45 : a.eval (.tmp 45) = .bool false := h4 (15, 45) (by decide)
            replace A := (⟨h1, h2.trans A.2⟩ : a.tmps.size = 95 ∧ a.defers = [])
            clear h1 h2 h3 h4
            refine wp_cond_false t45 ?_
            refine wp_skip ?_
            clear t45
            refine wp_region_sq (σ := Unit) 95 [(0, 28), (1, 29), (2, 8)] (fun j_ s X => match j_ with | 0 => Below V.heap.size V X | 1 => Below V.heap.size V X | 2 => Below V.heap.size V X | _ => Below V.heap.size V X) (fun s => fun i_ => match i_ with | 0 => .int .i64 ((i : Nat) : Int) | 1 => .int .i64 ((i + 1 : Nat) : Int) | 2 => .int .i64 ((i + 1 : Nat) : Int) | _ => undef) () A.1 (by kernel_rfl) (by decide) (by decide) (BB) ?_ ?_
            · intro i_ hi_ s a X hf hv hn hS
              match i_, hi_ with
              | 0, _ => exact stepV rfl rfl (execMvB rfl ((hn 2 (by omega) _ rfl _ rfl).trans t8)) ⟨s, ⟨_, rfl, rfl⟩, hS, fun _ _ => rfl⟩
              | 1, _ => exact stepV rfl rfl (execAd8 (p := i) (q := 1) rfl (hv 0 (by omega) _ rfl _ rfl) rfl (by omega)) ⟨s, ⟨_, rfl, rfl⟩, hS, fun _ _ => rfl⟩
              | 2, _ => exact stepV rfl rfl (execAsgB rfl (hv 1 (by omega) _ rfl _ rfl)) ⟨s, ⟨_, rfl, rfl⟩, hS, fun _ _ => rfl⟩
              | k_ + 3, h_ => exact absurd h_ (by simp)
            rintro _ a X5 h1 h2 h3 h4 hS
            clear BB
            replace hS : Below V.heap.size V X5 := hS
            have BB := hS
            clear hS
            replace t0 := (h3 0 (by decide)).trans t0
            replace t1 := (h3 1 (by decide)).trans t1
            replace t2 := (h3 2 (by decide)).trans t2
            replace t8 : a.eval (.tmp 8) = .int .i64 ((i + 1 : Nat) : Int) := h4 2 _ rfl _ rfl
            replace A := (⟨h1, h2.trans A.2⟩ : a.tmps.size = 95 ∧ a.defers = [])
            clear h1 h2 h3 h4
            exact ⟨⟨i + 1, hlt, by simp only [anyW, hnw, Bool.false_or, decide_eq_false_iff_not]; omega, A, t0, t1, t2, t8, BB⟩, by show m - (intOf (a.eval (.tmp 8))).toNat < m - (intOf (Act.eval _ (.tmp 8))).toNat; rw [t8, e8]; show m - (i + 1) < m - i; omega⟩
      · rw [decide_eq_false hlt] at t27
        refine wp_cond_false t27 ?_
        refine wp_exit ?_
        first | refine exit_in ?_ | refine exit_then (exit_in ?_) | refine exit_then (exit_then (exit_in ?_))
        clear t27 t8 e8
        have him : i = m := by omega
        have hnm := hnw
        rw [him] at hnm
        clear him hlt hi hnw i
        have hwo := anyW_no.1 hnm
        refine wp_seq ?_
        refine wp_region_sq (σ := Nat) 95 [(0, 46), (1, 47), (2, 48), (3, 9)] (fun j_ s X => match j_ with | 0 => Below V.heap.size V X | 1 => Below V.heap.size V X | 2 => Below V.heap.size V X | 3 => Below V.heap.size V X ∧ (X.ownsRow V.heap.size 5 1 (.slice (some ⟨s, 0, none⟩) 0 l) 0 (bytesL 0 p)) | _ => Below V.heap.size V X ∧ (X.ownsRow V.heap.size 5 1 (.slice (some ⟨s, 0, none⟩) 0 l) 0 (bytesL 0 p))) (fun s => fun i_ => match i_ with | 0 => .slice pa l pc | 1 => .int .i64 ((l : Nat) : Int) | 2 => .slice (some ⟨s, 0, none⟩) 0 l | 3 => .slice (some ⟨s, 0, none⟩) 0 l | _ => undef) 0 A.1 (by kernel_rfl) (by decide) (by decide) (BB) ?_ ?_
        · intro i_ hi_ s a X hf hv hn hS
          match i_, hi_ with
          | 0, _ => exact stepV rfl rfl (execMvB rfl ((hf 0 (by decide)).trans t0)) ⟨s, ⟨_, rfl, rfl⟩, hS, fun _ _ => rfl⟩
          | 1, _ => exact stepV rfl rfl (execLenV (len := l) rfl (hv 0 (by omega) _ rfl _ rfl) ⟨_, _, rfl⟩) ⟨s, ⟨_, rfl, rfl⟩, hS, fun _ _ => rfl⟩
          | 2, _ =>
            refine stepV rfl rfl (execMkB9 rfl (hv 1 (by omega) _ rfl _ rfl) (by omega)) ⟨X.heap.size, ⟨_, rfl, rfl⟩, ⟨(hS).trans (((belNew X _)).mono (hS).size), own_base (own_mkB X l p (by omega)) (hS).size⟩, fun i hi => ?_⟩
            match i, hi with
            | 0, _ => rfl
            | 1, _ => rfl
            | n_ + 2, h_ => omega
          | 3, _ => exact stepV rfl rfl (execAsgB rfl (hv 2 (by omega) _ rfl _ rfl)) ⟨s, ⟨_, rfl, rfl⟩, hS, fun _ _ => rfl⟩
          | k_ + 4, h_ => exact absurd h_ (by simp)
        rintro g9 a X8 h1 h2 h3 h4 hS
        clear BB
        replace hS : Below V.heap.size V X8 ∧ (X8.ownsRow V.heap.size 5 1 (.slice (some ⟨g9, 0, none⟩) 0 l) 0 (bytesL 0 p)) := hS
        obtain ⟨BB, FQ0⟩ := hS
        replace t0 := (h3 0 (by decide)).trans t0
        replace t1 := (h3 1 (by decide)).trans t1
        replace t2 := (h3 2 (by decide)).trans t2
        have t9 : a.eval (.tmp 9) = .slice (some ⟨g9, 0, none⟩) 0 l := h4 3 _ rfl _ rfl
        replace A := (⟨h1, h2.trans A.2⟩ : a.tmps.size = 95 ∧ a.defers = [])
        clear h1 h2 h3 h4
        refine wp_seq ?_
        refine wp_region_sq (σ := Value) 95 [(0, 49), (1, 50), (2, 51), (3, 9)] (fun j_ s X => match j_ with | 0 => Below V.heap.size V X ∧ (X.ownsRow V.heap.size 5 1 (.slice (some ⟨g9, 0, none⟩) 0 l) 0 (bytesL 0 p)) | 1 => Below V.heap.size V X ∧ (X.ownsRow V.heap.size 5 1 (.slice (some ⟨g9, 0, none⟩) 0 l) 0 (bytesL 0 p)) | 2 => Below V.heap.size V X ∧ (X.ownsRow V.heap.size 5 1 (.slice (some ⟨g9, 0, none⟩) 0 l) 0 (bytesL 0 p)) | 3 => Below V.heap.size V X ∧ (X.ownsRow V.heap.size 5 1 s l (bytesL l p)) | _ => Below V.heap.size V X ∧ (X.ownsRow V.heap.size 5 1 s l (bytesL l p))) (fun s => fun i_ => match i_ with | 0 => .slice (some ⟨g9, 0, none⟩) 0 l | 1 => .slice pa l pc | 2 => s | 3 => s | _ => undef) undef A.1 (by kernel_rfl) (by decide) (by decide) ⟨BB, FQ0⟩ ?_ ?_
        · intro i_ hi_ s a X hf hv hn hS
          match i_, hi_ with
          | 0, _ => exact stepV rfl rfl (execMvB rfl ((hn 3 (by omega) _ rfl _ rfl).trans t9)) ⟨s, ⟨_, rfl, rfl⟩, hS, fun _ _ => rfl⟩
          | 1, _ => exact stepV rfl rfl (execMvB rfl ((hf 0 (by decide)).trans t0)) ⟨s, ⟨_, rfl, rfl⟩, hS, fun _ _ => rfl⟩
          | 2, _ =>
            refine stepAppN (n := 0) (p := p) rfl rfl rfl (hv 0 (by omega) _ rfl _ rfl) (hv 1 (by omega) _ rfl _ rfl) hS.2 (sliceN_cg (hp.on hS.1) fun j _ => by rw [Nat.zero_add]) hz (by omega) (hS.1).size fun v' W' own' gr => ⟨v', ⟨_, rfl, rfl⟩, ⟨(hS.1).grown gr (hS.1).size (fun k hk => (hS.2.lt k hk).1), by rw [Nat.zero_add] at own'; exact own'⟩, fun i hi => ?_⟩
            match i, hi with
            | 0, _ => rfl
            | 1, _ => rfl
            | n_ + 2, h_ => omega
          | 3, _ => exact stepV rfl rfl (execAsgB rfl (hv 2 (by omega) _ rfl _ rfl)) ⟨s, ⟨_, rfl, rfl⟩, hS, fun _ _ => rfl⟩
          | k_ + 4, h_ => exact absurd h_ (by simp)
        rintro u9 a X9 h1 h2 h3 h4 hS
        clear BB
        clear FQ0
        replace hS : Below V.heap.size V X9 ∧ (X9.ownsRow V.heap.size 5 1 u9 l (bytesL l p)) := hS
        obtain ⟨BB, FQ⟩ := hS
        replace t0 := (h3 0 (by decide)).trans t0
        replace t1 := (h3 1 (by decide)).trans t1
        replace t2 := (h3 2 (by decide)).trans t2
        replace t9 : a.eval (.tmp 9) = u9 := h4 3 _ rfl _ rfl
        replace A := (⟨h1, h2.trans A.2⟩ : a.tmps.size = 95 ∧ a.defers = [])
        clear h1 h2 h3 h4
        refine wp_seq ?_
        refine wp_region_sq (σ := Unit) 95 [(0, 10)] (fun j_ s X => match j_ with | 0 => Below V.heap.size V X ∧ (X.ownsRow V.heap.size 5 1 u9 l (bytesL l p)) | _ => Below V.heap.size V X ∧ (X.ownsRow V.heap.size 5 1 u9 l (bytesL l p))) (fun s => fun i_ => match i_ with | 0 => .int .i64 ((0 : Nat) : Int) | _ => undef) () A.1 (by kernel_rfl) (by decide) (by decide) ⟨BB, FQ⟩ ?_ ?_
        · intro i_ hi_ s a X hf hv hn hS
          match i_, hi_ with
          | 0, _ => exact stepV rfl rfl (execAsgB rfl rfl) ⟨s, ⟨_, rfl, rfl⟩, hS, fun _ _ => rfl⟩
          | k_ + 1, h_ => exact absurd h_ (by simp)
        rintro _ a X10 h1 h2 h3 h4 hS
        clear BB
        clear FQ
        replace hS : Below V.heap.size V X10 ∧ (X10.ownsRow V.heap.size 5 1 u9 l (bytesL l p)) := hS
        obtain ⟨BB, FQ⟩ := hS
        replace t0 := (h3 0 (by decide)).trans t0
        replace t1 := (h3 1 (by decide)).trans t1
        replace t2 := (h3 2 (by decide)).trans t2
        replace t9 := (h3 9 (by decide)).trans t9
        have t10 : a.eval (.tmp 10) = .int .i64 ((0 : Nat) : Int) := h4 0 _ rfl _ rfl
        replace A := (⟨h1, h2.trans A.2⟩ : a.tmps.size = 95 ∧ a.defers = [])
        clear h1 h2 h3 h4
        refine wp_seq ?_
        refine wp_seq ?_
        refine wp_region_sq (σ := Unit) 95 [(0, 11)] (fun j_ s X => match j_ with | 0 => Below V.heap.size V X ∧ (X.ownsRow V.heap.size 5 1 u9 l (bytesL l p)) | _ => Below V.heap.size V X ∧ (X.ownsRow V.heap.size 5 1 u9 l (bytesL l p))) (fun s => fun i_ => match i_ with | 0 => .int .i64 ((0 : Nat) : Int) | _ => undef) () A.1 (by kernel_rfl) (by decide) (by decide) ⟨BB, FQ⟩ ?_ ?_
        · intro i_ hi_ s a X hf hv hn hS
          match i_, hi_ with
          | 0, _ => exact stepV rfl rfl (execAsgB rfl rfl) ⟨s, ⟨_, rfl, rfl⟩, hS, fun _ _ => rfl⟩
          | k_ + 1, h_ => exact absurd h_ (by simp)
        rintro _ a X11 h1 h2 h3 h4 hS
        clear BB
        clear FQ
        replace hS : Below V.heap.size V X11 ∧ (X11.ownsRow V.heap.size 5 1 u9 l (bytesL l p)) := hS
        obtain ⟨BB, FQ⟩ := hS
        replace t0 := (h3 0 (by decide)).trans t0
        replace t1 := (h3 1 (by decide)).trans t1
        replace t2 := (h3 2 (by decide)).trans t2
        replace t9 := (h3 9 (by decide)).trans t9
        replace t10 := (h3 10 (by decide)).trans t10
        have t11 : a.eval (.tmp 11) = .int .i64 ((0 : Nat) : Int) := h4 0 _ rfl _ rfl
        replace A := (⟨h1, h2.trans A.2⟩ : a.tmps.size = 95 ∧ a.defers = [])
        clear h1 h2 h3 h4
        refine wp_block ?_
        refine wp_loop (fun a W => ∃ (i : Nat) (u : Value), i ≤ m ∧ okA p l bs i ∧ (a.tmps.size = 95 ∧ a.defers = []) ∧ a.eval (.tmp 0) = .slice pa l pc ∧ a.eval (.tmp 1) = .slice ia m ic ∧ a.eval (.tmp 2) = .slice ja m jc ∧ a.eval (.tmp 9) = u ∧ a.eval (.tmp 10) = .int .i64 ((plA p l bs i : Nat) : Int) ∧ a.eval (.tmp 11) = .int .i64 ((i : Nat) : Int) ∧ Below V.heap.size V W ∧ W.ownsRow V.heap.size 5 1 u l (bytesL l (trF p l bs ws i))) (fun a _ => m - (intOf (a.eval (.tmp 11))).toNat) ⟨0, _, Nat.zero_le _, (fun i hi => absurd hi (Nat.not_lt_zero _)), A, t0, t1, t2, t9, t10, t11, BB, FQ⟩ ?_
        clear A t0 t1 t2 t9 t10 t11 BB FQ a
        rintro a XM ⟨i, u, hi, hok, A, t0, t1, t2, t9, t10, t11, BB, FQ⟩
        have e11 := t11
        refine wp_seq ?_
        refine wp_seq ?_
        refine wp_region_sq (σ := Unit) 95 [(0, 52), (1, 53), (2, 54), (3, 55)] (fun j_ s X => match j_ with | 0 => Below V.heap.size V X ∧ (X.ownsRow V.heap.size 5 1 u l (bytesL l (trF p l bs ws (i)))) | 1 => Below V.heap.size V X ∧ (X.ownsRow V.heap.size 5 1 u l (bytesL l (trF p l bs ws (i)))) | 2 => Below V.heap.size V X ∧ (X.ownsRow V.heap.size 5 1 u l (bytesL l (trF p l bs ws (i)))) | 3 => Below V.heap.size V X ∧ (X.ownsRow V.heap.size 5 1 u l (bytesL l (trF p l bs ws (i)))) | _ => Below V.heap.size V X ∧ (X.ownsRow V.heap.size 5 1 u l (bytesL l (trF p l bs ws (i))))) (fun s => fun i_ => match i_ with | 0 => .int .i64 ((i : Nat) : Int) | 1 => .slice ia m ic | 2 => .int .i64 ((m : Nat) : Int) | 3 => .bool (decide (i < m)) | _ => undef) () A.1 (by kernel_rfl) (by decide) (by decide) ⟨BB, FQ⟩ ?_ ?_
        · intro i_ hi_ s a X hf hv hn hS
          match i_, hi_ with
          | 0, _ => exact stepV rfl rfl (execMvB rfl ((hf 11 (by decide)).trans t11)) ⟨s, ⟨_, rfl, rfl⟩, hS, fun _ _ => rfl⟩
          | 1, _ => exact stepV rfl rfl (execMvB rfl ((hf 1 (by decide)).trans t1)) ⟨s, ⟨_, rfl, rfl⟩, hS, fun _ _ => rfl⟩
          | 2, _ => exact stepV rfl rfl (execLenI (len := m) rfl (hv 1 (by omega) _ rfl _ rfl) ((FI.on hS.1)).shp) ⟨s, ⟨_, rfl, rfl⟩, hS, fun _ _ => rfl⟩
          | 3, _ => exact stepV rfl rfl (execLtW (p := i) (q := m) rfl (hv 0 (by omega) _ rfl _ rfl) (hv 2 (by omega) _ rfl _ rfl)) ⟨s, ⟨_, rfl, rfl⟩, hS, fun _ _ => rfl⟩
          | k_ + 4, h_ => exact absurd h_ (by simp)
        rintro _ a X12 h1 h2 h3 h4 hS
        clear BB
        clear FQ
        replace hS : Below V.heap.size V X12 ∧ (X12.ownsRow V.heap.size 5 1 u l (bytesL l (trF p l bs ws (i)))) := hS
        obtain ⟨BB, FQ⟩ := hS
        replace t0 := (h3 0 (by decide)).trans t0
        replace t1 := (h3 1 (by decide)).trans t1
        replace t2 := (h3 2 (by decide)).trans t2
        replace t9 := (h3 9 (by decide)).trans t9
        replace t10 := (h3 10 (by decide)).trans t10
        replace t11 := (h3 11 (by decide)).trans t11
        have t55 : a.eval (.tmp 55) = .bool (decide (i < m)) := h4 3 _ rfl _ rfl
        replace A := (⟨h1, h2.trans A.2⟩ : a.tmps.size = 95 ∧ a.defers = [])
        clear h1 h2 h3 h4
        by_cases hlt : i < m
        · rw [decide_eq_true hlt] at t55
          refine wp_cond_true t55 ?_
          refine wp_skip ?_
          clear t55
          obtain ⟨ib, io, rfl, hib, hcell⟩ := hsh (by omega)
          obtain ⟨jb, jo, rfl, hjb, hcelj⟩ := hsj (by omega)
          have cI : ∀ X, Below V.heap.size V X → X.cell? ⟨ib, io + i, none⟩ = some (.int .i64 (bs i)) := fun X hX => by rw [cell_below hX hib]; exact hcell i hlt
          have cJ : ∀ X, Below V.heap.size V X → X.cell? ⟨jb, jo + i, none⟩ = some (.int .i64 (ws i)) := fun X hX => by rw [cell_below hX hjb]; exact hcelj i hlt
          refine wp_seq ?_
          refine wp_block ?_
          refine wp_seq ?_
          refine wp_region_sq (σ := Unit) 95 [(0, 59), (1, 60), (2, 61), (3, 62), (4, 63), (5, 64), (6, 65), (7, 58), (8, 66), (9, 67), (10, 68), (11, 12), (12, 13), (13, 14)] (fun j_ s X => match j_ with | 0 => Below V.heap.size V X ∧ (X.ownsRow V.heap.size 5 1 u l (bytesL l (trF p l bs ws (i)))) | 1 => Below V.heap.size V X ∧ (X.ownsRow V.heap.size 5 1 u l (bytesL l (trF p l bs ws (i)))) | 2 => Below V.heap.size V X ∧ (X.ownsRow V.heap.size 5 1 u l (bytesL l (trF p l bs ws (i)))) | 3 => Below V.heap.size V X ∧ (X.ownsRow V.heap.size 5 1 u l (bytesL l (trF p l bs ws (i)))) | 4 => Below V.heap.size V X ∧ (X.ownsRow V.heap.size 5 1 u l (bytesL l (trF p l bs ws (i)))) | 5 => Below V.heap.size V X ∧ (X.ownsRow V.heap.size 5 1 u l (bytesL l (trF p l bs ws (i)))) | 6 => Below V.heap.size V X ∧ (X.ownsRow V.heap.size 5 1 u l (bytesL l (trF p l bs ws (i)))) | 7 => Below V.heap.size V X ∧ (X.ownsRow V.heap.size 5 1 u l (bytesL l (trF p l bs ws (i)))) | 8 => Below V.heap.size V X ∧ (X.ownsRow V.heap.size 5 1 u l (bytesL l (trF p l bs ws (i)))) | 9 => Below V.heap.size V X ∧ (X.ownsRow V.heap.size 5 1 u l (bytesL l (trF p l bs ws (i)))) | 10 => Below V.heap.size V X ∧ (X.ownsRow V.heap.size 5 1 u l (bytesL l (trF p l bs ws (i)))) | 11 => Below V.heap.size V X ∧ (X.ownsRow V.heap.size 5 1 u l (bytesL l (trF p l bs ws (i)))) | 12 => Below V.heap.size V X ∧ (X.ownsRow V.heap.size 5 1 u l (bytesL l (trF p l bs ws (i)))) | 13 => Below V.heap.size V X ∧ (X.ownsRow V.heap.size 5 1 u l (bytesL l (trF p l bs ws (i)))) | _ => Below V.heap.size V X ∧ (X.ownsRow V.heap.size 5 1 u l (bytesL l (trF p l bs ws (i))))) (fun s => fun i_ => match i_ with | 0 => .slice pa l pc | 1 => .int .i64 ((plA p l bs i : Nat) : Int) | 2 => .slice (some ⟨ib, io, none⟩) m ic | 3 => .int .i64 ((i : Nat) : Int) | 4 => .pointer (some ⟨ib, io + i, none⟩) | 5 => .int .i64 (bs i) | 6 => .tuple #[.int .i64 ((dV p l (plA p l bs i) (bs i) : Nat) : Int), .int .i64 ((dN p l (plA p l bs i) (bs i) : Nat) : Int), .int .i64 ((dE p l (plA p l bs i) (bs i) : Nat) : Int)] | 7 => .tuple #[.int .i64 ((dV p l (plA p l bs i) (bs i) : Nat) : Int), .int .i64 ((dN p l (plA p l bs i) (bs i) : Nat) : Int), .int .i64 ((dE p l (plA p l bs i) (bs i) : Nat) : Int)] | 8 => .int .i64 ((dV p l (plA p l bs i) (bs i) : Nat) : Int) | 9 => .int .i64 ((dN p l (plA p l bs i) (bs i) : Nat) : Int) | 10 => .int .i64 ((dE p l (plA p l bs i) (bs i) : Nat) : Int) | 11 => .int .i64 ((dV p l (plA p l bs i) (bs i) : Nat) : Int) | 12 => .int .i64 ((dN p l (plA p l bs i) (bs i) : Nat) : Int) | 13 => .int .i64 ((dE p l (plA p l bs i) (bs i) : Nat) : Int) | _ => undef) () A.1 (by kernel_rfl) (by decide) (by decide) ⟨BB, FQ⟩ ?_ ?_
          · intro i_ hi_ s a X hf hv hn hS
            match i_, hi_ with
            | 0, _ => exact stepV rfl rfl (execMvB rfl ((hf 0 (by decide)).trans t0)) ⟨s, ⟨_, rfl, rfl⟩, hS, fun _ _ => rfl⟩
            | 1, _ => exact stepV rfl rfl (execMvB rfl ((hf 10 (by decide)).trans t10)) ⟨s, ⟨_, rfl, rfl⟩, hS, fun _ _ => rfl⟩
            | 2, _ => exact stepV rfl rfl (execMvB rfl ((hf 1 (by decide)).trans t1)) ⟨s, ⟨_, rfl, rfl⟩, hS, fun _ _ => rfl⟩
            | 3, _ => exact stepV rfl rfl (execMvB rfl ((hf 11 (by decide)).trans t11)) ⟨s, ⟨_, rfl, rfl⟩, hS, fun _ _ => rfl⟩
            | 4, _ => exact stepV rfl rfl (execIdxN (k := i) rfl (hv 2 (by omega) _ rfl _ rfl) (hv 3 (by omega) _ rfl _ rfl) hlt) ⟨s, ⟨_, rfl, rfl⟩, hS, fun _ _ => rfl⟩
            | 5, _ => exact stepV rfl rfl (execLd3 rfl (hv 4 (by omega) _ rfl _ rfl) (cI X hS.1)) ⟨s, ⟨_, rfl, rfl⟩, hS, fun _ _ => rfl⟩
            | 6, _ => exact stepC rfl rfl (execCall3 Try.func12 (by kernel_rfl) (by kernel_rfl) rfl (hv 0 (by omega) _ rfl _ rfl) (hv 1 (by omega) _ rfl _ rfl) (hv 5 (by omega) _ rfl _ rfl)) (rbelow_any p l (plA p l bs i) (bs i) _ X (hp.on hS.1) hl (plA_le p l bs i)) fun e w' hh => ⟨_, hh.1, s, ⟨_, rfl, rfl⟩, ⟨(hS.1).trans ((hh.2).mono (hS.1).size), (ownsRow_below hS.2 hh.2)⟩, fun _ _ => rfl⟩
            | 7, _ => exact stepV rfl rfl (execMvB rfl (hv 6 (by omega) _ rfl _ rfl)) ⟨s, ⟨_, rfl, rfl⟩, hS, fun _ _ => rfl⟩
            | 8, _ => exact stepV rfl rfl (execExtT rfl (hv 7 (by omega) _ rfl _ rfl) rfl) ⟨s, ⟨_, rfl, rfl⟩, hS, fun _ _ => rfl⟩
            | 9, _ => exact stepV rfl rfl (execExtT rfl (hv 7 (by omega) _ rfl _ rfl) rfl) ⟨s, ⟨_, rfl, rfl⟩, hS, fun _ _ => rfl⟩
            | 10, _ => exact stepV rfl rfl (execExtT rfl (hv 7 (by omega) _ rfl _ rfl) rfl) ⟨s, ⟨_, rfl, rfl⟩, hS, fun _ _ => rfl⟩
            | 11, _ => exact stepV rfl rfl (execAsgB rfl (hv 8 (by omega) _ rfl _ rfl)) ⟨s, ⟨_, rfl, rfl⟩, hS, fun _ _ => rfl⟩
            | 12, _ => exact stepV rfl rfl (execAsgB rfl (hv 9 (by omega) _ rfl _ rfl)) ⟨s, ⟨_, rfl, rfl⟩, hS, fun _ _ => rfl⟩
            | 13, _ => exact stepV rfl rfl (execAsgB rfl (hv 10 (by omega) _ rfl _ rfl)) ⟨s, ⟨_, rfl, rfl⟩, hS, fun _ _ => rfl⟩
            | k_ + 14, h_ => exact absurd h_ (by simp)
          rintro _ a X14 h1 h2 h3 h4 hS
          clear BB
          clear FQ
          replace hS : Below V.heap.size V X14 ∧ (X14.ownsRow V.heap.size 5 1 u l (bytesL l (trF p l bs ws (i)))) := hS
          obtain ⟨BB, FQ⟩ := hS
          replace t0 := (h3 0 (by decide)).trans t0
          replace t1 := (h3 1 (by decide)).trans t1
          replace t2 := (h3 2 (by decide)).trans t2
          replace t9 := (h3 9 (by decide)).trans t9
          replace t10 := (h3 10 (by decide)).trans t10
          replace t11 := (h3 11 (by decide)).trans t11
          have t12 : a.eval (.tmp 12) = .int .i64 ((dV p l (plA p l bs i) (bs i) : Nat) : Int) := h4 11 _ rfl _ rfl
          have t13 : a.eval (.tmp 13) = .int .i64 ((dN p l (plA p l bs i) (bs i) : Nat) : Int) := h4 12 _ rfl _ rfl
          have t14 : a.eval (.tmp 14) = .int .i64 ((dE p l (plA p l bs i) (bs i) : Nat) : Int) := h4 13 _ rfl _ rfl
          replace A := (⟨h1, h2.trans A.2⟩ : a.tmps.size = 95 ∧ a.defers = [])
          clear h1 h2 h3 h4
          refine wp_seq ?_
          refine wp_seq ?_
          refine wp_region_sq (σ := Unit) 95 [(0, 69), (1, 70)] (fun j_ s X => match j_ with | 0 => Below V.heap.size V X ∧ (X.ownsRow V.heap.size 5 1 u l (bytesL l (trF p l bs ws (i)))) | 1 => Below V.heap.size V X ∧ (X.ownsRow V.heap.size 5 1 u l (bytesL l (trF p l bs ws (i)))) | _ => Below V.heap.size V X ∧ (X.ownsRow V.heap.size 5 1 u l (bytesL l (trF p l bs ws (i))))) (fun s => fun i_ => match i_ with | 0 => .int .i64 ((dE p l (plA p l bs i) (bs i) : Nat) : Int) | 1 => .bool (decide (dE p l (plA p l bs i) (bs i) ≠ 0)) | _ => undef) () A.1 (by kernel_rfl) (by decide) (by decide) ⟨BB, FQ⟩ ?_ ?_
          · intro i_ hi_ s a X hf hv hn hS
            match i_, hi_ with
            | 0, _ => exact stepV rfl rfl (execMvB rfl ((hf 14 (by decide)).trans t14)) ⟨s, ⟨_, rfl, rfl⟩, hS, fun _ _ => rfl⟩
            | 1, _ => exact stepV rfl rfl (execNeN (p := dE p l (plA p l bs i) (bs i)) (q := 0) rfl (hv 0 (by omega) _ rfl _ rfl) rfl) ⟨s, ⟨_, rfl, rfl⟩, hS, fun _ _ => rfl⟩
            | k_ + 2, h_ => exact absurd h_ (by simp)
          rintro _ a X15 h1 h2 h3 h4 hS
          clear BB
          clear FQ
          replace hS : Below V.heap.size V X15 ∧ (X15.ownsRow V.heap.size 5 1 u l (bytesL l (trF p l bs ws (i)))) := hS
          obtain ⟨BB, FQ⟩ := hS
          replace t0 := (h3 0 (by decide)).trans t0
          replace t1 := (h3 1 (by decide)).trans t1
          replace t2 := (h3 2 (by decide)).trans t2
          replace t9 := (h3 9 (by decide)).trans t9
          replace t10 := (h3 10 (by decide)).trans t10
          replace t11 := (h3 11 (by decide)).trans t11
          replace t12 := (h3 12 (by decide)).trans t12
          replace t13 := (h3 13 (by decide)).trans t13
          replace t14 := (h3 14 (by decide)).trans t14
          have t70 : a.eval (.tmp 70) = .bool (decide (dE p l (plA p l bs i) (bs i) ≠ 0)) := h4 1 _ rfl _ rfl
          replace A := (⟨h1, h2.trans A.2⟩ : a.tmps.size = 95 ∧ a.defers = [])
          clear h1 h2 h3 h4
          by_cases hE0 : dE p l (plA p l bs i) (bs i) = 0
          · rw [decide_eq_false (by omega)] at t70
            refine wp_cond_false t70 ?_
            refine wp_skip ?_
            clear t70 t14
            have hok2 := okA_succ hok hE0
            refine wp_seq ?_
            refine wp_seq ?_
            refine wp_region_sq (σ := Unit) 95 [(0, 72), (1, 73), (2, 74)] (fun j_ s X => match j_ with | 0 => Below V.heap.size V X ∧ (X.ownsRow V.heap.size 5 1 u l (bytesL l (trF p l bs ws (i)))) | 1 => Below V.heap.size V X ∧ (X.ownsRow V.heap.size 5 1 u l (bytesL l (trF p l bs ws (i)))) | 2 => Below V.heap.size V X ∧ (X.ownsRow V.heap.size 5 1 u l (bytesL l (trF p l bs ws (i)))) | _ => Below V.heap.size V X ∧ (X.ownsRow V.heap.size 5 1 u l (bytesL l (trF p l bs ws (i))))) (fun s => fun i_ => match i_ with | 0 => .int .i64 ((dN p l (plA p l bs i) (bs i) : Nat) : Int) | 1 => .int .i64 ((plA p l bs i : Nat) : Int) | 2 => .bool (decide (plA p l bs i < dN p l (plA p l bs i) (bs i))) | _ => undef) () A.1 (by kernel_rfl) (by decide) (by decide) ⟨BB, FQ⟩ ?_ ?_
            · intro i_ hi_ s a X hf hv hn hS
              match i_, hi_ with
              | 0, _ => exact stepV rfl rfl (execMvB rfl ((hf 13 (by decide)).trans t13)) ⟨s, ⟨_, rfl, rfl⟩, hS, fun _ _ => rfl⟩
              | 1, _ => exact stepV rfl rfl (execMvB rfl ((hf 10 (by decide)).trans t10)) ⟨s, ⟨_, rfl, rfl⟩, hS, fun _ _ => rfl⟩
              | 2, _ => exact stepV rfl rfl (execGtN (p := dN p l (plA p l bs i) (bs i)) (q := plA p l bs i) rfl (hv 0 (by omega) _ rfl _ rfl) (hv 1 (by omega) _ rfl _ rfl)) ⟨s, ⟨_, rfl, rfl⟩, hS, fun _ _ => rfl⟩
              | k_ + 3, h_ => exact absurd h_ (by simp)
            rintro _ a X17 h1 h2 h3 h4 hS
            clear BB
            clear FQ
            replace hS : Below V.heap.size V X17 ∧ (X17.ownsRow V.heap.size 5 1 u l (bytesL l (trF p l bs ws (i)))) := hS
            obtain ⟨BB, FQ⟩ := hS
            replace t0 := (h3 0 (by decide)).trans t0
            replace t1 := (h3 1 (by decide)).trans t1
            replace t2 := (h3 2 (by decide)).trans t2
            replace t9 := (h3 9 (by decide)).trans t9
            replace t10 := (h3 10 (by decide)).trans t10
            replace t11 := (h3 11 (by decide)).trans t11
            replace t12 := (h3 12 (by decide)).trans t12
            replace t13 := (h3 13 (by decide)).trans t13
            have t74 : a.eval (.tmp 74) = .bool (decide (plA p l bs i < dN p l (plA p l bs i) (bs i))) := h4 2 _ rfl _ rfl
            replace A := (⟨h1, h2.trans A.2⟩ : a.tmps.size = 95 ∧ a.defers = [])
            clear h1 h2 h3 h4
            by_cases hb1 : bs i = 1
            · have hN1 : plA p l bs (i + 1) = plA p l bs i := (plA_step hok2 (Nat.lt_succ_self i)).1 hb1
              rw [decide_eq_false (fun q => by have q2 : plA p l bs i < plA p l bs (i + 1) := q; omega)] at t74
              refine wp_cond_false t74 ?_
              refine wp_skip ?_
              clear t74
              have FQ2 : X17.ownsRow V.heap.size 5 1 u l (bytesL l (trF p l bs ws (i + 1))) := by rw [bytesL_congr (f := trF p l bs ws (i + 1)) (g := trF p l bs ws i) (fun j _ => if_neg (fun q => q.1 hb1))]; exact FQ
              clear FQ
              refine wp_region_sq (σ := Unit) 95 [(0, 93), (1, 10)] (fun j_ s X => match j_ with | 0 => Below V.heap.size V X ∧ (X.ownsRow V.heap.size 5 1 u l (bytesL l (trF p l bs ws (i + 1)))) | 1 => Below V.heap.size V X ∧ (X.ownsRow V.heap.size 5 1 u l (bytesL l (trF p l bs ws (i + 1)))) | _ => Below V.heap.size V X ∧ (X.ownsRow V.heap.size 5 1 u l (bytesL l (trF p l bs ws (i + 1))))) (fun s => fun i_ => match i_ with | 0 => .int .i64 ((dN p l (plA p l bs i) (bs i) : Nat) : Int) | 1 => .int .i64 ((dN p l (plA p l bs i) (bs i) : Nat) : Int) | _ => undef) () A.1 (by kernel_rfl) (by decide) (by decide) ⟨BB, FQ2⟩ ?_ ?_
              · intro i_ hi_ s a X hf hv hn hS
                match i_, hi_ with
                | 0, _ => exact stepV rfl rfl (execMvB rfl ((hf 13 (by decide)).trans t13)) ⟨s, ⟨_, rfl, rfl⟩, hS, fun _ _ => rfl⟩
                | 1, _ => exact stepV rfl rfl (execAsgB rfl (hv 0 (by omega) _ rfl _ rfl)) ⟨s, ⟨_, rfl, rfl⟩, hS, fun _ _ => rfl⟩
                | k_ + 2, h_ => exact absurd h_ (by simp)
              rintro _ a X19 h1 h2 h3 h4 hS
              clear BB
              clear FQ2
              replace hS : Below V.heap.size V X19 ∧ (X19.ownsRow V.heap.size 5 1 u l (bytesL l (trF p l bs ws (i + 1)))) := hS
              obtain ⟨BB, FQ2⟩ := hS
              replace t0 := (h3 0 (by decide)).trans t0
              replace t1 := (h3 1 (by decide)).trans t1
              replace t2 := (h3 2 (by decide)).trans t2
              replace t9 := (h3 9 (by decide)).trans t9
              replace t10 : a.eval (.tmp 10) = .int .i64 ((dN p l (plA p l bs i) (bs i) : Nat) : Int) := h4 1 _ rfl _ rfl
              replace t11 := (h3 11 (by decide)).trans t11
              replace A := (⟨h1, h2.trans A.2⟩ : a.tmps.size = 95 ∧ a.defers = [])
              clear h1 h2 h3 h4
              clear t12 t13
              refine wp_region_sq (σ := Unit) 95 [(0, 56), (1, 57), (2, 11)] (fun j_ s X => match j_ with | 0 => Below V.heap.size V X ∧ (X.ownsRow V.heap.size 5 1 u l (bytesL l (trF p l bs ws (i + 1)))) | 1 => Below V.heap.size V X ∧ (X.ownsRow V.heap.size 5 1 u l (bytesL l (trF p l bs ws (i + 1)))) | 2 => Below V.heap.size V X ∧ (X.ownsRow V.heap.size 5 1 u l (bytesL l (trF p l bs ws (i + 1)))) | _ => Below V.heap.size V X ∧ (X.ownsRow V.heap.size 5 1 u l (bytesL l (trF p l bs ws (i + 1))))) (fun s => fun i_ => match i_ with | 0 => .int .i64 ((i : Nat) : Int) | 1 => .int .i64 ((i + 1 : Nat) : Int) | 2 => .int .i64 ((i + 1 : Nat) : Int) | _ => undef) () A.1 (by kernel_rfl) (by decide) (by decide) ⟨BB, FQ2⟩ ?_ ?_
              · intro i_ hi_ s a X hf hv hn hS
                match i_, hi_ with
                | 0, _ => exact stepV rfl rfl (execMvB rfl ((hn 2 (by omega) _ rfl _ rfl).trans t11)) ⟨s, ⟨_, rfl, rfl⟩, hS, fun _ _ => rfl⟩
                | 1, _ => exact stepV rfl rfl (execAd8 (p := i) (q := 1) rfl (hv 0 (by omega) _ rfl _ rfl) rfl (by omega)) ⟨s, ⟨_, rfl, rfl⟩, hS, fun _ _ => rfl⟩
                | 2, _ => exact stepV rfl rfl (execAsgB rfl (hv 1 (by omega) _ rfl _ rfl)) ⟨s, ⟨_, rfl, rfl⟩, hS, fun _ _ => rfl⟩
                | k_ + 3, h_ => exact absurd h_ (by simp)
              rintro _ a X13 h1 h2 h3 h4 hS
              clear BB
              clear FQ2
              replace hS : Below V.heap.size V X13 ∧ (X13.ownsRow V.heap.size 5 1 u l (bytesL l (trF p l bs ws (i + 1)))) := hS
              obtain ⟨BB, FQ2⟩ := hS
              replace t0 := (h3 0 (by decide)).trans t0
              replace t1 := (h3 1 (by decide)).trans t1
              replace t2 := (h3 2 (by decide)).trans t2
              replace t9 := (h3 9 (by decide)).trans t9
              replace t10 := (h3 10 (by decide)).trans t10
              replace t11 : a.eval (.tmp 11) = .int .i64 ((i + 1 : Nat) : Int) := h4 2 _ rfl _ rfl
              replace A := (⟨h1, h2.trans A.2⟩ : a.tmps.size = 95 ∧ a.defers = [])
              clear h1 h2 h3 h4
              exact ⟨⟨i + 1, _, hlt, hok2, A, t0, t1, t2, t9, t10, t11, BB, FQ2⟩, by show m - (intOf (a.eval (.tmp 11))).toNat < m - (intOf (Act.eval _ (.tmp 11))).toNat; rw [t11, e11]; show m - (i + 1) < m - i; omega⟩
            · obtain ⟨hS1, hSl, hSg⟩ := (plA_step hok2 (Nat.lt_succ_self i)).2 hb1
              have hDA := dA_is hok2 (Nat.lt_succ_self i) hb1
              have hTP := (tp_is hok2 (Nat.lt_succ_self i) hb1).1
              obtain ⟨S, eS⟩ : ∃ S, dS p l (plA p l bs i) (bs i) = S := ⟨_, rfl⟩
              rw [eS] at hS1 hSl hSg hTP
              have hNS : dN p l (plA p l bs i) (bs i) = S + 1 := hS1
              obtain ⟨D, eD⟩ : ∃ D, dV p l (plA p l bs i) (bs i) = D := ⟨_, rfl⟩
              have hDS : D = p S % (bs i).toNat := by rw [← eD, ← hTP]; exact hDA
              have hDle : D ≤ p S := by rw [hDS]; exact Nat.mod_le _ _
              rw [hNS] at t13 t74
              rw [eD] at t12
              obtain ⟨w0, ew⟩ : ∃ w0 : Nat, ws i = w0 := ⟨(ws i).toNat, by have := hwo i hlt; omega⟩
              have hpS := hp.bytes S hSl
              have hbp := ok_pos hok2 (Nat.lt_succ_self i)
              have hwl : w0 < (bs i).toNat := by have := hwo i hlt; omega
              have hhit : p S / (bs i).toNat < 256 / (bs i).toNat := by
                have h9 := scan_hit p (bs i).toNat (l - plA p l bs i) (plA p l bs i) (by
                  have : scan p (bs i).toNat (l - plA p l bs i) (plA p l bs i) = S := eS
                  rw [this]
                  omega)
                have h10 : scan p (bs i).toNat (l - plA p l bs i) (plA p l bs i) = S := eS
                rw [h10] at h9
                exact h9
              have hz256 : p S - D + w0 < 256 := by rw [hDS]; exact turned_lt _ _ _ hwl hhit (by omega)
              have cJ2 : ∀ X, Below V.heap.size V X → X.cell? ⟨jb, jo + i, none⟩ = some (.int .i64 ((w0 : Nat) : Int)) := fun X hX => by rw [cJ X hX, ew]
              rw [decide_eq_true (show plA p l bs i < S + 1 by omega)] at t74
              refine wp_cond_true t74 ?_
              clear t74
              obtain ⟨pb, po, rfl, hpb, hcp⟩ := hsp (by omega)
              have cP : ∀ X, Below V.heap.size V X → X.cell? ⟨pb, po + S, none⟩ = some (.int .u8 ((p S : Nat) : Int)) := fun X hX => by rw [cell_below hX hpb]; exact hcp S hSl
              obtain ⟨qg, qc, rfl, hqV, _⟩ := ownL_some9 FQ (by omega)
              refine wp_region_stB (σ := Unit) 95 [(0, 75), (1, 76), (2, 77), (3, 78), (4, 79), (5, 80), (6, 81), (7, 82), (8, 83), (9, 84), (10, 85), (11, 86), (12, 87), (13, 88), (14, 89), (15, 90), (16, 91), (17, 92)] (fun l_ s X => Below V.heap.size V X ∧ (l_ 18 = false → (X.ownsRow V.heap.size 5 1 (.slice (some ⟨qg, 0, none⟩) l qc) l (bytesL l (trF p l bs ws (i))))) ∧ (l_ 18 = true → (X.ownsRow V.heap.size 5 1 (.slice (some ⟨qg, 0, none⟩) l qc) l (bytesL l (trF p l bs ws (i + 1)))))) (fun s => fun i_ => match i_ with | 0 => .slice (some ⟨qg, 0, none⟩) l qc | 1 => .int .i64 ((S + 1 : Nat) : Int) | 2 => .int .i64 ((S : Nat) : Int) | 3 => .slice (some ⟨pb, po, none⟩) l pc | 4 => .int .i64 ((S + 1 : Nat) : Int) | 5 => .int .i64 ((S : Nat) : Int) | 6 => .pointer (some ⟨pb, po + S, none⟩) | 7 => .int .u8 ((p S : Nat) : Int) | 8 => .int .i64 ((p S : Nat) : Int) | 9 => .int .i64 ((D : Nat) : Int) | 10 => .int .i64 ((p S - D : Nat) : Int) | 11 => .slice (some ⟨jb, jo, none⟩) m jc | 12 => .int .i64 ((i : Nat) : Int) | 13 => .pointer (some ⟨jb, jo + i, none⟩) | 14 => .int .i64 ((w0 : Nat) : Int) | 15 => .int .i64 ((p S - D + w0 : Nat) : Int) | 16 => .int .u8 ((p S - D + w0 : Nat) : Int) | 17 => .pointer (some ⟨qg, 0 + S, none⟩) | 18 => undef | _ => undef) () (by kernel_rfl) (by kernel_rfl) A.1 (by kernel_rfl) (by decide) (by decide) ⟨(BB.drew), (fun _ => (ownsRow_below FQ (Below.refl _ _).drew)), (fun q0_ => by cases q0_)⟩ ?_ ?_
              · intro i_ hi_ l_ s a X hl_ hf hdep hl2 hcl hno hT
                have up : ∀ j x, x ≠ j → updB l_ j x = l_ x := fun j x hj => by unfold updB; simp [hj]
                match i_, hi_ with
                | 0, _ => exact stepV rfl rfl (execMvB rfl ((hf 9 (by decide)).trans t9)) ⟨s, ⟨_, rfl, rfl⟩, ⟨hT.1, (fun q0_ => (hT.2.1 (by rw [up 0 18 (by decide)] at q0_; exact q0_))), (fun q0_ => absurd (hl_.symm.trans (hcl 18 _ rfl ((up 0 18 (by decide)).symm.trans q0_) 0 rfl)) (by decide))⟩, fun _ _ _ => rfl⟩
                | 1, _ => exact stepV rfl rfl (execMvB rfl ((hf 13 (by decide)).trans t13)) ⟨s, ⟨_, rfl, rfl⟩, ⟨hT.1, (fun q0_ => (hT.2.1 (by rw [up 1 18 (by decide)] at q0_; exact q0_))), (fun q0_ => absurd (hl_.symm.trans (hcl 18 _ rfl ((up 1 18 (by decide)).symm.trans q0_) 1 rfl)) (by decide))⟩, fun _ _ _ => rfl⟩
                | 2, _ => exact stepV rfl rfl (By8.execSubI (p := S + 1) (q := 1) rfl (hdep _ rfl 1 rfl _ rfl _ rfl) rfl (by omega) (by omega)) ⟨s, ⟨_, rfl, rfl⟩, ⟨hT.1, (fun q0_ => (hT.2.1 (by rw [up 2 18 (by decide)] at q0_; exact q0_))), (fun q0_ => absurd (hl_.symm.trans (hcl 18 _ rfl ((up 2 18 (by decide)).symm.trans q0_) 2 rfl)) (by decide))⟩, fun _ _ _ => rfl⟩
                | 3, _ => exact stepV rfl rfl (execMvB rfl ((hf 0 (by decide)).trans t0)) ⟨s, ⟨_, rfl, rfl⟩, ⟨hT.1, (fun q0_ => (hT.2.1 (by rw [up 3 18 (by decide)] at q0_; exact q0_))), (fun q0_ => absurd (hl_.symm.trans (hcl 18 _ rfl ((up 3 18 (by decide)).symm.trans q0_) 3 rfl)) (by decide))⟩, fun _ _ _ => rfl⟩
                | 4, _ => exact stepV rfl rfl (execMvB rfl ((hf 13 (by decide)).trans t13)) ⟨s, ⟨_, rfl, rfl⟩, ⟨hT.1, (fun q0_ => (hT.2.1 (by rw [up 4 18 (by decide)] at q0_; exact q0_))), (fun q0_ => absurd (hl_.symm.trans (hcl 18 _ rfl ((up 4 18 (by decide)).symm.trans q0_) 4 rfl)) (by decide))⟩, fun _ _ _ => rfl⟩
                | 5, _ => exact stepV rfl rfl (By8.execSubI (p := S + 1) (q := 1) rfl (hdep _ rfl 4 rfl _ rfl _ rfl) rfl (by omega) (by omega)) ⟨s, ⟨_, rfl, rfl⟩, ⟨hT.1, (fun q0_ => (hT.2.1 (by rw [up 5 18 (by decide)] at q0_; exact q0_))), (fun q0_ => absurd (hl_.symm.trans (hcl 18 _ rfl ((up 5 18 (by decide)).symm.trans q0_) 5 rfl)) (by decide))⟩, fun _ _ _ => rfl⟩
                | 6, _ => exact stepV rfl rfl (execIdxB9 (k := S) rfl (hdep _ rfl 3 rfl _ rfl _ rfl) (hdep _ rfl 5 rfl _ rfl _ rfl) hSl) ⟨s, ⟨_, rfl, rfl⟩, ⟨hT.1, (fun q0_ => (hT.2.1 (by rw [up 6 18 (by decide)] at q0_; exact q0_))), (fun q0_ => absurd (hl_.symm.trans (hcl 18 _ rfl ((up 6 18 (by decide)).symm.trans q0_) 6 rfl)) (by decide))⟩, fun _ _ _ => rfl⟩
                | 7, _ => exact stepV rfl rfl (execLdB rfl (hdep _ rfl 6 rfl _ rfl _ rfl) (cP X hT.1)) ⟨s, ⟨_, rfl, rfl⟩, ⟨hT.1, (fun q0_ => (hT.2.1 (by rw [up 7 18 (by decide)] at q0_; exact q0_))), (fun q0_ => absurd (hl_.symm.trans (hcl 18 _ rfl ((up 7 18 (by decide)).symm.trans q0_) 7 rfl)) (by decide))⟩, fun _ _ _ => rfl⟩
                | 8, _ => exact stepV rfl rfl (execCv53 rfl (hdep _ rfl 7 rfl _ rfl _ rfl) hpS) ⟨s, ⟨_, rfl, rfl⟩, ⟨hT.1, (fun q0_ => (hT.2.1 (by rw [up 8 18 (by decide)] at q0_; exact q0_))), (fun q0_ => absurd (hl_.symm.trans (hcl 18 _ rfl ((up 8 18 (by decide)).symm.trans q0_) 8 rfl)) (by decide))⟩, fun _ _ _ => rfl⟩
                | 9, _ => exact stepV rfl rfl (execMvB rfl ((hf 12 (by decide)).trans t12)) ⟨s, ⟨_, rfl, rfl⟩, ⟨hT.1, (fun q0_ => (hT.2.1 (by rw [up 9 18 (by decide)] at q0_; exact q0_))), (fun q0_ => absurd (hl_.symm.trans (hcl 18 _ rfl ((up 9 18 (by decide)).symm.trans q0_) 9 rfl)) (by decide))⟩, fun _ _ _ => rfl⟩
                | 10, _ => exact stepV rfl rfl (By8.execSubI (p := p S) (q := D) rfl (hdep _ rfl 8 rfl _ rfl _ rfl) (hdep _ rfl 9 rfl _ rfl _ rfl) hDle (by omega)) ⟨s, ⟨_, rfl, rfl⟩, ⟨hT.1, (fun q0_ => (hT.2.1 (by rw [up 10 18 (by decide)] at q0_; exact q0_))), (fun q0_ => absurd (hl_.symm.trans (hcl 18 _ rfl ((up 10 18 (by decide)).symm.trans q0_) 10 rfl)) (by decide))⟩, fun _ _ _ => rfl⟩
                | 11, _ => exact stepV rfl rfl (execMvB rfl ((hf 2 (by decide)).trans t2)) ⟨s, ⟨_, rfl, rfl⟩, ⟨hT.1, (fun q0_ => (hT.2.1 (by rw [up 11 18 (by decide)] at q0_; exact q0_))), (fun q0_ => absurd (hl_.symm.trans (hcl 18 _ rfl ((up 11 18 (by decide)).symm.trans q0_) 11 rfl)) (by decide))⟩, fun _ _ _ => rfl⟩
                | 12, _ => exact stepV rfl rfl (execMvB rfl ((hf 11 (by decide)).trans t11)) ⟨s, ⟨_, rfl, rfl⟩, ⟨hT.1, (fun q0_ => (hT.2.1 (by rw [up 12 18 (by decide)] at q0_; exact q0_))), (fun q0_ => absurd (hl_.symm.trans (hcl 18 _ rfl ((up 12 18 (by decide)).symm.trans q0_) 12 rfl)) (by decide))⟩, fun _ _ _ => rfl⟩
                | 13, _ => exact stepV rfl rfl (execIdxN (k := i) rfl (hdep _ rfl 11 rfl _ rfl _ rfl) (hdep _ rfl 12 rfl _ rfl _ rfl) hlt) ⟨s, ⟨_, rfl, rfl⟩, ⟨hT.1, (fun q0_ => (hT.2.1 (by rw [up 13 18 (by decide)] at q0_; exact q0_))), (fun q0_ => absurd (hl_.symm.trans (hcl 18 _ rfl ((up 13 18 (by decide)).symm.trans q0_) 13 rfl)) (by decide))⟩, fun _ _ _ => rfl⟩
                | 14, _ => exact stepV rfl rfl (execLd3 rfl (hdep _ rfl 13 rfl _ rfl _ rfl) (cJ2 X hT.1)) ⟨s, ⟨_, rfl, rfl⟩, ⟨hT.1, (fun q0_ => (hT.2.1 (by rw [up 14 18 (by decide)] at q0_; exact q0_))), (fun q0_ => absurd (hl_.symm.trans (hcl 18 _ rfl ((up 14 18 (by decide)).symm.trans q0_) 14 rfl)) (by decide))⟩, fun _ _ _ => rfl⟩
                | 15, _ => exact stepV rfl rfl (execAd8 (p := p S - D) (q := w0) rfl (hdep _ rfl 10 rfl _ rfl _ rfl) (hdep _ rfl 14 rfl _ rfl _ rfl) (by omega)) ⟨s, ⟨_, rfl, rfl⟩, ⟨hT.1, (fun q0_ => (hT.2.1 (by rw [up 15 18 (by decide)] at q0_; exact q0_))), (fun q0_ => absurd (hl_.symm.trans (hcl 18 _ rfl ((up 15 18 (by decide)).symm.trans q0_) 15 rfl)) (by decide))⟩, fun _ _ _ => rfl⟩
                | 16, _ => exact stepV rfl rfl (execU8S rfl (hdep _ rfl 15 rfl _ rfl _ rfl) hz256) ⟨s, ⟨_, rfl, rfl⟩, ⟨hT.1, (fun q0_ => (hT.2.1 (by rw [up 16 18 (by decide)] at q0_; exact q0_))), (fun q0_ => absurd (hl_.symm.trans (hcl 18 _ rfl ((up 16 18 (by decide)).symm.trans q0_) 16 rfl)) (by decide))⟩, fun _ _ _ => rfl⟩
                | 17, _ => exact stepV rfl rfl (execIdxB9 (k := S) rfl (hdep _ rfl 0 rfl _ rfl _ rfl) (hdep _ rfl 2 rfl _ rfl _ rfl) hSl) ⟨s, ⟨_, rfl, rfl⟩, ⟨hT.1, (fun q0_ => (hT.2.1 (by rw [up 17 18 (by decide)] at q0_; exact q0_))), (fun q0_ => absurd (hl_.symm.trans (hcl 18 _ rfl ((up 17 18 (by decide)).symm.trans q0_) 17 rfl)) (by decide))⟩, fun _ _ _ => rfl⟩
                | 18, _ =>
                  obtain ⟨hc_, hf_⟩ := own_cell9 (hT.2.1 hl_) hSl
                  refine stepS rfl rfl (execStB9d rfl (hdep _ rfl 17 rfl _ rfl _ rfl) (hdep _ rfl 16 rfl _ rfl _ rfl) hc_ hf_) ⟨s, ⟨_, rfl, rfl⟩, ⟨(hT.1).setCell hqV _, (fun q0_ => absurd q0_ (by unfold updB; simp)), (fun _q0_ => trS (hT.2.1 hl_) hb1 hS1 eD ew)⟩, fun i hi hli => ?_⟩
                  match i, hi with
                  | 0, _ => rfl
                  | 1, _ => rfl
                  | 2, _ => rfl
                  | 3, _ => rfl
                  | 4, _ => rfl
                  | 5, _ => rfl
                  | 6, _ => rfl
                  | 7, _ => rfl
                  | 8, _ => rfl
                  | 9, _ => rfl
                  | 10, _ => rfl
                  | 11, _ => rfl
                  | 12, _ => rfl
                  | 13, _ => rfl
                  | 14, _ => rfl
                  | 15, _ => rfl
                  | 16, _ => rfl
                  | 17, _ => rfl
                  | 18, _ => exact absurd (hl_.symm.trans hli) (by decide)
                  | k_ + 19, h_ => exact absurd h_ (by simp)
                | k_ + 19, h_ => exact absurd h_ (by simp)
              rintro l_ _ a X18 h1 h2 h3 h4 hall hT
              clear BB
              clear FQ
              obtain ⟨BB, FQ, FQ2⟩ := hT
              clear FQ
              replace FQ2 : (X18.ownsRow V.heap.size 5 1 (.slice (some ⟨qg, 0, none⟩) l qc) l (bytesL l (trF p l bs ws (i + 1)))) := FQ2 (hall 18 (by decide))
              clear hall
              replace t0 := (h3 0 (by decide)).trans t0
              replace t1 := (h3 1 (by decide)).trans t1
              replace t2 := (h3 2 (by decide)).trans t2
              replace t9 := (h3 9 (by decide)).trans t9
              replace t10 := (h3 10 (by decide)).trans t10
              replace t11 := (h3 11 (by decide)).trans t11
              replace t13 := (h3 13 (by decide)).trans t13
              replace A := (⟨h1, h2.trans A.2⟩ : a.tmps.size = 95 ∧ a.defers = [])
              clear h1 h2 h3 h4
              clear t12
              refine wp_region_sq (σ := Unit) 95 [(0, 93), (1, 10)] (fun j_ s X => match j_ with | 0 => Below V.heap.size V X ∧ (X.ownsRow V.heap.size 5 1 (.slice (some ⟨qg, 0, none⟩) l qc) l (bytesL l (trF p l bs ws (i + 1)))) | 1 => Below V.heap.size V X ∧ (X.ownsRow V.heap.size 5 1 (.slice (some ⟨qg, 0, none⟩) l qc) l (bytesL l (trF p l bs ws (i + 1)))) | _ => Below V.heap.size V X ∧ (X.ownsRow V.heap.size 5 1 (.slice (some ⟨qg, 0, none⟩) l qc) l (bytesL l (trF p l bs ws (i + 1))))) (fun s => fun i_ => match i_ with | 0 => .int .i64 ((S + 1 : Nat) : Int) | 1 => .int .i64 ((S + 1 : Nat) : Int) | _ => undef) () A.1 (by kernel_rfl) (by decide) (by decide) ⟨BB, FQ2⟩ ?_ ?_
              · intro i_ hi_ s a X hf hv hn hS
                match i_, hi_ with
                | 0, _ => exact stepV rfl rfl (execMvB rfl ((hf 13 (by decide)).trans t13)) ⟨s, ⟨_, rfl, rfl⟩, hS, fun _ _ => rfl⟩
                | 1, _ => exact stepV rfl rfl (execAsgB rfl (hv 0 (by omega) _ rfl _ rfl)) ⟨s, ⟨_, rfl, rfl⟩, hS, fun _ _ => rfl⟩
                | k_ + 2, h_ => exact absurd h_ (by simp)
              rintro _ a X19 h1 h2 h3 h4 hS
              clear BB
              clear FQ2
              replace hS : Below V.heap.size V X19 ∧ (X19.ownsRow V.heap.size 5 1 (.slice (some ⟨qg, 0, none⟩) l qc) l (bytesL l (trF p l bs ws (i + 1)))) := hS
              obtain ⟨BB, FQ2⟩ := hS
              replace t0 := (h3 0 (by decide)).trans t0
              replace t1 := (h3 1 (by decide)).trans t1
              replace t2 := (h3 2 (by decide)).trans t2
              replace t9 := (h3 9 (by decide)).trans t9
              replace t10 : a.eval (.tmp 10) = .int .i64 ((S + 1 : Nat) : Int) := h4 1 _ rfl _ rfl
              replace t11 := (h3 11 (by decide)).trans t11
              replace A := (⟨h1, h2.trans A.2⟩ : a.tmps.size = 95 ∧ a.defers = [])
              clear h1 h2 h3 h4
              clear t13
              refine wp_region_sq (σ := Unit) 95 [(0, 56), (1, 57), (2, 11)] (fun j_ s X => match j_ with | 0 => Below V.heap.size V X ∧ (X.ownsRow V.heap.size 5 1 (.slice (some ⟨qg, 0, none⟩) l qc) l (bytesL l (trF p l bs ws (i + 1)))) | 1 => Below V.heap.size V X ∧ (X.ownsRow V.heap.size 5 1 (.slice (some ⟨qg, 0, none⟩) l qc) l (bytesL l (trF p l bs ws (i + 1)))) | 2 => Below V.heap.size V X ∧ (X.ownsRow V.heap.size 5 1 (.slice (some ⟨qg, 0, none⟩) l qc) l (bytesL l (trF p l bs ws (i + 1)))) | _ => Below V.heap.size V X ∧ (X.ownsRow V.heap.size 5 1 (.slice (some ⟨qg, 0, none⟩) l qc) l (bytesL l (trF p l bs ws (i + 1))))) (fun s => fun i_ => match i_ with | 0 => .int .i64 ((i : Nat) : Int) | 1 => .int .i64 ((i + 1 : Nat) : Int) | 2 => .int .i64 ((i + 1 : Nat) : Int) | _ => undef) () A.1 (by kernel_rfl) (by decide) (by decide) ⟨BB, FQ2⟩ ?_ ?_
              · intro i_ hi_ s a X hf hv hn hS
                match i_, hi_ with
                | 0, _ => exact stepV rfl rfl (execMvB rfl ((hn 2 (by omega) _ rfl _ rfl).trans t11)) ⟨s, ⟨_, rfl, rfl⟩, hS, fun _ _ => rfl⟩
                | 1, _ => exact stepV rfl rfl (execAd8 (p := i) (q := 1) rfl (hv 0 (by omega) _ rfl _ rfl) rfl (by omega)) ⟨s, ⟨_, rfl, rfl⟩, hS, fun _ _ => rfl⟩
                | 2, _ => exact stepV rfl rfl (execAsgB rfl (hv 1 (by omega) _ rfl _ rfl)) ⟨s, ⟨_, rfl, rfl⟩, hS, fun _ _ => rfl⟩
                | k_ + 3, h_ => exact absurd h_ (by simp)
              rintro _ a X13 h1 h2 h3 h4 hS
              clear BB
              clear FQ2
              replace hS : Below V.heap.size V X13 ∧ (X13.ownsRow V.heap.size 5 1 (.slice (some ⟨qg, 0, none⟩) l qc) l (bytesL l (trF p l bs ws (i + 1)))) := hS
              obtain ⟨BB, FQ2⟩ := hS
              replace t0 := (h3 0 (by decide)).trans t0
              replace t1 := (h3 1 (by decide)).trans t1
              replace t2 := (h3 2 (by decide)).trans t2
              replace t9 := (h3 9 (by decide)).trans t9
              replace t10 := (h3 10 (by decide)).trans t10
              replace t11 : a.eval (.tmp 11) = .int .i64 ((i + 1 : Nat) : Int) := h4 2 _ rfl _ rfl
              replace A := (⟨h1, h2.trans A.2⟩ : a.tmps.size = 95 ∧ a.defers = [])
              clear h1 h2 h3 h4
              rw [← hS1] at t10
              exact ⟨⟨i + 1, _, hlt, hok2, A, t0, t1, t2, t9, t10, t11, BB, FQ2⟩, by show m - (intOf (a.eval (.tmp 11))).toNat < m - (intOf (Act.eval _ (.tmp 11))).toNat; rw [t11, e11]; show m - (i + 1) < m - i; omega⟩
          · rw [decide_eq_true hE0] at t70
            refine wp_cond_true t70 ?_
            refine wp_seq ?_
            refine wp_region_sq (σ := Unit) 95 [(0, 71), (1, 6), (2, 7)] (fun j_ s X => match j_ with | 0 => Below V.heap.size V X ∧ (X.ownsRow V.heap.size 5 1 u l (bytesL l (trF p l bs ws (i)))) | 1 => Below V.heap.size V X ∧ (X.ownsRow V.heap.size 5 1 u l (bytesL l (trF p l bs ws (i)))) | 2 => Below V.heap.size V X ∧ (X.ownsRow V.heap.size 5 1 u l (bytesL l (trF p l bs ws (i)))) | _ => Below V.heap.size V X ∧ (X.ownsRow V.heap.size 5 1 u l (bytesL l (trF p l bs ws (i))))) (fun s => fun i_ => match i_ with | 0 => .int .i64 ((dE p l (plA p l bs i) (bs i) : Nat) : Int) | 1 => .slice none 0 0 | 2 => .int .i64 ((dE p l (plA p l bs i) (bs i) : Nat) : Int) | _ => undef) () A.1 (by kernel_rfl) (by decide) (by decide) ⟨BB, FQ⟩ ?_ ?_
            · intro i_ hi_ s a X hf hv hn hS
              match i_, hi_ with
              | 0, _ => exact stepV rfl rfl (execMvB rfl ((hf 14 (by decide)).trans t14)) ⟨s, ⟨_, rfl, rfl⟩, hS, fun _ _ => rfl⟩
              | 1, _ => exact stepV rfl rfl (execAsgB rfl rfl) ⟨s, ⟨_, rfl, rfl⟩, hS, fun _ _ => rfl⟩
              | 2, _ => exact stepV rfl rfl (execAsgB rfl (hv 0 (by omega) _ rfl _ rfl)) ⟨s, ⟨_, rfl, rfl⟩, hS, fun _ _ => rfl⟩
              | k_ + 3, h_ => exact absurd h_ (by simp)
            rintro _ a X16 h1 h2 h3 h4 hS
            clear BB
            clear FQ
            replace hS : Below V.heap.size V X16 ∧ (X16.ownsRow V.heap.size 5 1 u l (bytesL l (trF p l bs ws (i)))) := hS
            obtain ⟨BB, FQ⟩ := hS
            have t6 : a.eval (.tmp 6) = .slice none 0 0 := h4 1 _ rfl _ rfl
            have t7 : a.eval (.tmp 7) = .int .i64 ((dE p l (plA p l bs i) (bs i) : Nat) : Int) := h4 2 _ rfl _ rfl
            replace A := (⟨h1, h2.trans A.2⟩ : a.tmps.size = 95 ∧ a.defers = [])
            clear h1 h2 h3 h4
            clear t0 t1 t2 t9 t10 t11 t12 t13 t14
            have hE3 : dE p l (plA p l bs i) (bs i) = 3 := (dE_good (hno i hlt)).resolve_left hE0
            rw [hE3] at t7
            have hE : trE p l bs m ws m = 3 := by unfold trE; rw [if_neg (fun q => by rcases q with q | q | q <;> simp_all), if_neg (fun q => hE0 (okB_iff.1 q i hlt))]
            have hN : trN p l bs m ws m = 0 := by unfold trN; rw [if_neg (by rw [hE]; decide)]
            rw [hE, hN]
            refine wp_ret ?_
            repeat (first | refine ret_in ?_ | refine ret_then ?_)
            refine bodyPost_ret (results_tmp2 rfl _ _ _) A.2 ⟨_, ?_, World.ownsRow_nil _ _ _ _, BB⟩
            show Ending.returned (.tuple #[a.eval (.tmp 6), a.eval (.tmp 7)]) = _
            rw [t6, t7]
        · rw [decide_eq_false hlt] at t55
          refine wp_cond_false t55 ?_
          refine wp_exit ?_
          first | refine exit_in ?_ | refine exit_then (exit_in ?_) | refine exit_then (exit_then (exit_in ?_))
          clear t55
          have hin : i = m := by omega
          rw [hin] at hok FQ
          refine wp_seq ?_
          refine wp_region_sq (σ := Unit) 95 [(0, 94), (1, 6), (2, 7)] (fun j_ s X => match j_ with | 0 => Below V.heap.size V X ∧ (X.ownsRow V.heap.size 5 1 u l (bytesL l (trF p l bs ws (m)))) | 1 => Below V.heap.size V X ∧ (X.ownsRow V.heap.size 5 1 u l (bytesL l (trF p l bs ws (m)))) | 2 => Below V.heap.size V X ∧ (X.ownsRow V.heap.size 5 1 u l (bytesL l (trF p l bs ws (m)))) | _ => Below V.heap.size V X ∧ (X.ownsRow V.heap.size 5 1 u l (bytesL l (trF p l bs ws (m))))) (fun s => fun i_ => match i_ with | 0 => u | 1 => u | 2 => .int .i64 ((0 : Nat) : Int) | _ => undef) () A.1 (by kernel_rfl) (by decide) (by decide) ⟨BB, FQ⟩ ?_ ?_
          · intro i_ hi_ s a X hf hv hn hS
            match i_, hi_ with
            | 0, _ => exact stepV rfl rfl (execMvB rfl ((hf 9 (by decide)).trans t9)) ⟨s, ⟨_, rfl, rfl⟩, hS, fun _ _ => rfl⟩
            | 1, _ => exact stepV rfl rfl (execAsgB rfl (hv 0 (by omega) _ rfl _ rfl)) ⟨s, ⟨_, rfl, rfl⟩, hS, fun _ _ => rfl⟩
            | 2, _ => exact stepV rfl rfl (execAsgB rfl rfl) ⟨s, ⟨_, rfl, rfl⟩, hS, fun _ _ => rfl⟩
            | k_ + 3, h_ => exact absurd h_ (by simp)
          rintro _ a X20 h1 h2 h3 h4 hS
          clear BB
          clear FQ
          replace hS : Below V.heap.size V X20 ∧ (X20.ownsRow V.heap.size 5 1 u l (bytesL l (trF p l bs ws (m)))) := hS
          obtain ⟨BB, FQ⟩ := hS
          have t6 : a.eval (.tmp 6) = u := h4 1 _ rfl _ rfl
          have t7 : a.eval (.tmp 7) = .int .i64 ((0 : Nat) : Int) := h4 2 _ rfl _ rfl
          replace A := (⟨h1, h2.trans A.2⟩ : a.tmps.size = 95 ∧ a.defers = [])
          clear h1 h2 h3 h4
          clear t0 t1 t2 t9 t10 t11
          have hE : trE p l bs m ws m = 0 := by unfold trE; rw [if_neg (fun q => by rcases q with q | q | q <;> simp_all), if_pos (okB_iff.2 hok)]
          have hN : trN p l bs m ws m = l := by unfold trN; rw [if_pos hE]
          rw [hE, hN]
          refine wp_ret ?_
          refine bodyPost_ret (results_tmp2 rfl _ _ _) A.2 ⟨u, ?_, FQ, BB⟩
          show Ending.returned (.tuple #[a.eval (.tmp 6), a.eval (.tmp 7)]) = _
          rw [t6, t7]
    · rw [decide_eq_true hmn] at t23
      refine wp_cond_true t23 ?_
      refine wp_seq ?_
      refine wp_region_sq (σ := Unit) 95 [(0, 6), (1, 7)] (fun j_ s X => match j_ with | 0 => Below V.heap.size V X | 1 => Below V.heap.size V X | _ => Below V.heap.size V X) (fun s => fun i_ => match i_ with | 0 => .slice none 0 0 | 1 => .int .i64 ((2 : Nat) : Int) | _ => undef) () A.1 (by kernel_rfl) (by decide) (by decide) (BB) ?_ ?_
      · intro i_ hi_ s a X hf hv hn hS
        match i_, hi_ with
        | 0, _ => exact stepV rfl rfl (execAsgB rfl rfl) ⟨s, ⟨_, rfl, rfl⟩, hS, fun _ _ => rfl⟩
        | 1, _ => exact stepV rfl rfl (execAsgB rfl rfl) ⟨s, ⟨_, rfl, rfl⟩, hS, fun _ _ => rfl⟩
        | k_ + 2, h_ => exact absurd h_ (by simp)
      rintro _ a X2 h1 h2 h3 h4 hS
      clear BB
      replace hS : Below V.heap.size V X2 := hS
      have BB := hS
      clear hS
      have t6 : a.eval (.tmp 6) = .slice none 0 0 := h4 0 _ rfl _ rfl
      have t7 : a.eval (.tmp 7) = .int .i64 ((2 : Nat) : Int) := h4 1 _ rfl _ rfl
      replace A := (⟨h1, h2.trans A.2⟩ : a.tmps.size = 95 ∧ a.defers = [])
      clear h1 h2 h3 h4
      clear t0 t1 t2
      have hE : trE p l bs n ws m = 2 := by unfold trE; rw [if_pos (Or.inr (Or.inl hmn))]
      have hN : trN p l bs n ws m = 0 := by unfold trN; rw [if_neg (by rw [hE]; decide)]
      rw [hE, hN]
      refine wp_ret ?_
      repeat (first | refine ret_in ?_ | refine ret_then ?_)
      refine bodyPost_ret (results_tmp2 rfl _ _ _) A.2 ⟨_, ?_, World.ownsRow_nil _ _ _ _, BB⟩
      show Ending.returned (.tuple #[a.eval (.tmp 6), a.eval (.tmp 7)]) = _
      rw [t6, t7]
end Go.Proofs.Ytpclecbhfjalnaa.Drw
