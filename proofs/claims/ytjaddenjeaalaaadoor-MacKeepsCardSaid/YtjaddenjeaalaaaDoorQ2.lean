import Derived.Test.YtjaddenjeaalaaaDoorQ1
import Derived.Test.YtjaddenjeaalaaaDoorP5
namespace Go.Proofs.YtjaddenjeaalaaaDoor
open Go.RowKit

/-- The bytes with marked room behind them. -/
def room (p : Nat → Int) (l : Nat) : Nat → Int := cat p l (fun _ => 165)
theorem room_succ (p : Nat → Int) (l k : Nat) : firstL (room p l) (l + k) ++ [165] = firstL (room p l) (l + (k + 1)) := by
  have h := firstL_succ (room p l) (l + k)
  have e : room p l (l + k) = 165 := by simp [room, cat]; omega
  rw [e] at h
  exact h
theorem room_zero (p : Nat → Int) (l : Nat) : firstL p l = firstL (room p l) (l + 0) := firstL_congr fun i hi => by simp [room, cat, hi]
theorem room_bd {p : Nat → Int} {l : Nat} (h : ∀ j, j < l → 0 ≤ p j ∧ p j < 256) (j : Nat) : 0 ≤ room p l j ∧ room p l j < 256 := by
  unfold room cat
  split
  · exact h j (by assumption)
  · show (0 : Int) ≤ 165 ∧ (165 : Int) < 256
    omega

set_option maxRecDepth 20000 in
set_option maxHeartbeats 1000000 in
theorem roomy_any (v : Value) (l : Nat) (p : Nat → Int) (w : World) (hl : l + 200 ≤ 140737488355328) (h1 : SliceB w v l p) (hn1 : ∀ cap, v = .slice none l cap → cap = 0) :
    Calls Tryd.prog 21 #[v] w fun e w' => ∃ v', e = .returned v' ∧ w'.ownsRow w.heap.size 5 1 v' (l + 80) (vals (firstL (room p l) (l + 80))) ∧ Below w.heap.size w w' := by
  obtain ⟨ai, ci, rfl, hx⟩ := h1.shape
  clear hx
  have HL : Hid (_) := hl
  have H1 : Hid (_) := h1
  have N1 : Hid (ai = none → ci = 0) := fun e => hn1 ci (by rw [e])
  clear hl h1 hn1
  go_enter Tryd.func21, Tryd.ntmps21
  have E0 : Hid ((w.alloc (.cells #[] 5)).ownsRow w.heap.size 5 1 (.slice (some ⟨w.heap.size, 0, none⟩) 0 0) 0 (vals [])) := own_empty w
  have F0 : Hid (Below w.heap.size w (w.alloc (.cells #[] 5))) := (Below.refl _ _).alloc (Nat.le_refl _) _
  go_wp2_with (first
    | (refine isApp (.tmp 5) (.tmp 6) rfl ?_; go_must (refine wpList_appS (B := w.heap.size) (l := []) (r := firstL p l) (w0 := w) rfl (.tmp 5) (.tmp 6) rfl rfl rfl E0.out (firstL_len _ _) (src_of (H1.out.below F0.out) N1.out) (by have := HL.out; omega) F0.out F0.out.size ?_; intro v1 w1 own1 bel1 sz1; simp only [List.nil_append, Nat.zero_add] at own1; rw [room_zero] at own1; simp only [Act.put, List.setIfInBounds_toArray, List.set_cons_succ, List.set_cons_zero]; have E1 : Hid (w1.ownsRow w.heap.size 5 1 v1 (l + 0) (vals (firstL (room p l) (l + 0)))) := own1; have F1 : Hid (Below w.heap.size w w1) := bel1; clear own1 bel1 sz1)))
  go_loopw [3, 4] (fun v i W => ∃ k : Nat, k ≤ 80 ∧ i = .int .i64 k ∧ W.ownsRow w.heap.size 5 1 v (l + k) (vals (firstL (room p l) (l + k))) ∧ Below w.heap.size w W) (fun _ i _ => 80 - (intOf i).toNat)
  case atStart => exact ⟨0, by omega, rfl, E1.out, F1.out⟩
  case round =>
    obtain ⟨k, hk, rfl, own, bel⟩ := hrel
    have O : Hid (wr.ownsRow w.heap.size 5 1 _ (l + k) (vals (firstL (room p l) (l + k)))) := own
    have G : Hid (Below w.heap.size w wr) := bel
    clear own bel E0 E1 F0 F1
    by_cases hlt : k < 80
    · have i1 : (k : Int) < 80 := by omega
      go_wp2_with (first
        | (refine isApp (.tmp 12) (.tmp 13) rfl ?_; go_must (refine wpList_app (l := firstL (room p l) (l + k)) (r := [165]) (w0 := w) rfl (.tmp 12) (.tmp 13) rfl rfl rfl (O.out.alloc _) rfl (src_one wr 165) (by have := HL.out; omega) (G.out.alloc G.out.size _) (by have := G.out.size; simp; omega) ?_; intro v6 w6 own6 bel6 sz6; rw [room_succ] at own6; simp only [Act.put, List.setIfInBounds_toArray, List.set_cons_succ, List.set_cons_zero]; have O6 : Hid (w6.ownsRow w.heap.size 5 1 v6 (l + (k + 1)) (vals (firstL (room p l) (l + (k + 1))))) := own6; have G6 : Hid (Below w.heap.size w w6) := bel6; clear own6 bel6 sz6)))
      go_roundw
      case rel => exact ⟨k + 1, by omega, by go_num, O6.out, G6.out⟩
      case measure => simp [intOf]; omega
    · have e8 : k = 80 := by omega
      subst e8
      go_wp2
      go_ret
      exact ⟨_, rfl, O.out, G.out⟩

/-- A row whose first n bytes are f. -/
def RowP (W : World) (g n : Nat) (f : Nat → Int) : Prop := ∃ cur, W.heap[g]? = some (.cells cur 5) ∧ ∀ j, j < n → cur[j]? = some (.int .u8 (f j))
theorem RowP.lt {W : World} {g n : Nat} {f : Nat → Int} (h : RowP W g n f) : g < W.heap.size := by
  obtain ⟨cur, h1, _⟩ := h
  exact (Array.getElem?_eq_some_iff.1 h1).1
theorem RowP.of_block {W W' : World} {g n : Nat} {f : Nat → Int} (h : RowP W g n f) (hb : W'.heap[g]? = W.heap[g]?) : RowP W' g n f := by
  obtain ⟨cur, h1, h2⟩ := h
  exact ⟨cur, by rw [hb]; exact h1, h2⟩
theorem RowP.below {W W' : World} {g n : Nat} {f : Nat → Int} (h : RowP W g n f) (hb : Below W.heap.size W W') : RowP W' g n f := h.of_block (hb.block _ h.lt)
theorem RowP.sliceB {W : World} {g n l cap : Nat} {f : Nat → Int} (h : RowP W g n f) (hl : l ≤ n) (hc : l ≤ cap) (hm : cap ≤ maxLen) (hb : ∀ j, j < l → 0 ≤ f j ∧ f j < 256) : SliceB W (.slice (some ⟨g, 0, none⟩) l cap) l f := by
  have hlt := h.lt
  obtain ⟨cur, h1, h2⟩ := h
  refine ⟨⟨_, _, rfl, hc, by unfold maxLen at hm; omega, fun _ => ⟨g, 0, rfl, hlt, fun j hj => ?_⟩⟩, hb⟩
  rw [cell_of_row _ _ _ _ _ _ h1, Nat.zero_add]
  exact h2 j (by omega)
theorem own_rowP {W : World} {B n : Nat} {v : Value} {f : Nat → Int} (h : W.ownsRow B 5 1 v n (vals (firstL f n))) (hn : 0 < n) : ∃ g cap, v = .slice (some ⟨g, 0, none⟩) n cap ∧ B ≤ g ∧ n ≤ cap ∧ cap ≤ maxLen ∧ RowP W g n f := by
  rcases h.2 with ⟨_, rfl⟩ | ⟨g, cap, cur, rfl, hb, hg, h1, h2, _, h4⟩
  · omega
  · refine ⟨g, cap, rfl, hb, h1, h2, cur, hg, fun j hj => ?_⟩
    have e : (cur.toList.take (n * 1))[j]? = some (.int .u8 (f j)) := by rw [h4]; exact firstL_get hj
    rw [List.getElem?_take, if_pos (by omega)] at e
    simpa using e

/-- What each operation of kept's first region yields. -/
def keS (vl vp x : Value) (l : Nat) (s : ByteArray) (j : Nat) (v : Value) : Prop :=
  match j with
  | 0 => v = vl | 1 => v = vp | 2 => v = .int .i64 (l : Int) | 3 => v = x | 4 => v = .string s | 5 => v = vp | 6 => v = .string s | _ => v = .bool false
theorem slice_room (g n cap l : Nat) (h : l ≤ cap) (W : World) : (Instr.sliceAt 22 (.slice (some ⟨g, 0, none⟩) n cap) none (some (.int .i64 (l : Int))) none).run Tryd.prog W = .ok (.slice (some ⟨g, 0, none⟩) l cap) W := slice_p g l n cap h W

set_option maxRecDepth 20000 in
set_option maxHeartbeats 1000000 in
theorem kept_any (g l cap : Nat) (p f : Nat → Int) (vp : Value) (w : World) (hl : l + 200 ≤ 140737488355328) (hc : l + 80 ≤ cap) (hm : cap ≤ maxLen) (hr : RowP w g (l + 80) f) (h1 : SliceB w vp l p) (hf0 : ∀ j, j < l → f j = p j) (hf1 : ∀ j, l ≤ j → j < l + 80 → f j = 165) :
    Calls Tryd.prog 22 #[.slice (some ⟨g, 0, none⟩) (l + 80) cap, vp] w fun e w' => e = .returned (.bool true) ∧ Below w.heap.size w w' := by
  obtain ⟨ap, cp, rfl, hx⟩ := h1.shape
  clear hx
  have HL : Hid (_) := hl
  have HC : Hid (l + 80 ≤ cap) := hc
  have HM : Hid (cap ≤ maxLen) := hm
  have HR : Hid (RowP w g (l + 80) f) := hr
  have H1 : Hid (_) := h1
  have F0 : Hid (∀ j, j < l → f j = p j) := hf0
  have F1 : Hid (∀ j, l ≤ j → j < l + 80 → f j = 165) := hf1
  clear hl hc hm hr h1 hf0 hf1
  have eS : strP f l = strP p l := by unfold strP; rw [firstL_congr F0.out]
  go_enter Tryd.func22, Tryd.ntmps22
  go_wp2_with fail
  refine wp_region_slotsA 8 33 [6, 7, 8, 9, 10, 11, 12, 13] (fun j v _ => keS (.slice (some ⟨g, 0, none⟩) (l + 80) cap) (.slice ap l cp) (.slice (some ⟨g, 0, none⟩) l cap) l (strP p l) j v) (by kernel_rfl) (by kernel_rfl) (by kernel_rfl) (by decide) rfl rfl (by decide) (by decide) (fun _ _ _ _ h _ => h) ?_ ?_
  · intro j hj a W hB hf hdep
    have sx : SliceB W (.slice (some ⟨g, 0, none⟩) l cap) l f := (HR.out.below hB).sliceB (by omega) (by have := HC.out; omega) HM.out fun j hj => by rw [F0.out j hj]; exact H1.out.bytes j hj
    match j, hj with
    | 0, _ => exact stepV rfl rfl (execMove rfl) ⟨_, rfl, hf 0 (by decide), Below.refl _ _⟩
    | 1, _ => exact stepV rfl rfl (execMove rfl) ⟨_, rfl, hf 1 (by decide), Below.refl _ _⟩
    | 2, _ =>
      have h0 : a.eval (.tmp 7) = .slice ap l cp := hdep _ rfl 1 rfl
      exact stepV rfl rfl (execLen rfl h0) ⟨_, rfl, rfl, Below.refl _ _⟩
    | 3, _ =>
      have h0 : a.eval (.tmp 6) = .slice (some ⟨g, 0, none⟩) (l + 80) cap := hdep _ rfl 0 rfl
      have h1 : a.eval (.tmp 8) = .int .i64 (l : Int) := hdep _ rfl 2 rfl
      exact stepV rfl rfl (execSliceH rfl h0 h1 (slice_room g (l + 80) cap l (by have := HC.out; omega) W)) ⟨_, rfl, rfl, Below.refl _ _⟩
    | 4, _ =>
      have h0 : a.eval (.tmp 9) = .slice (some ⟨g, 0, none⟩) l cap := hdep _ rfl 3 rfl
      exact stepV rfl rfl (execConv rfl h0 sx) ⟨_, rfl, congrArg Value.string eS, Below.refl _ _⟩
    | 5, _ => exact stepV rfl rfl (execMove rfl) ⟨_, rfl, hf 1 (by decide), Below.refl _ _⟩
    | 6, _ =>
      have h0 : a.eval (.tmp 11) = .slice ap l cp := hdep _ rfl 5 rfl
      exact stepV rfl rfl (execConv rfl h0 (H1.out.below hB)) ⟨_, rfl, rfl, Below.refl _ _⟩
    | 7, _ =>
      have h0 : a.eval (.tmp 10) = .string (strP p l) := hdep _ rfl 4 rfl
      have h1 : a.eval (.tmp 12) = .string (strP p l) := hdep _ rfl 6 rfl
      exact stepV rfl rfl (exec_neq_str rfl h0 h1) ⟨_, rfl, rfl, Below.refl _ _⟩
  · intro x W hB hS
    have e0 : x 0 = .slice (some ⟨g, 0, none⟩) (l + 80) cap := hS 0 (by omega)
    have e1 : x 1 = .slice ap l cp := hS 1 (by omega)
    have e2 : x 2 = .int .i64 (l : Int) := hS 2 (by omega)
    have e3 : x 3 = .slice (some ⟨g, 0, none⟩) l cap := hS 3 (by omega)
    have e4 : x 4 = .string (strP p l) := hS 4 (by omega)
    have e5 : x 5 = .slice ap l cp := hS 5 (by omega)
    have e6 : x 6 = .string (strP p l) := hS 6 (by omega)
    have e7 : x 7 = .bool false := hS 7 (by omega)
    have GB : Hid (Below w.heap.size w W) := hB
    simp only [putL, List.drop_succ_cons, List.drop_nil, e0, e1, e2, e3, e4, e5, e6, e7, Act.put, List.setIfInBounds_toArray, List.set_cons_succ, List.set_cons_zero]
    clear hS hB e0 e1 e2 e3 e4 e5 e6 e7 eS
    go_wp2
    go_loopw [5] (fun i W' => ∃ k : Nat, k ≤ 80 ∧ i = .int .i64 ((l + k : Nat) : Int) ∧ W' = W) (fun i _ => l + 80 - (intOf i).toNat)
    case atStart => exact ⟨0, by omega, rfl, rfl⟩
    case round =>
      obtain ⟨k, hk, rfl, rfl⟩ := hrel
      have wl : wrap64 ((l : Int) + 80) = (l : Int) + 80 := by have := HL.out; simp [wrap64]; omega
      by_cases hlt : k < 80
      · have i1 : ((l + k : Nat) : Int) < (l + 80 : Nat) := by omega
        obtain ⟨cur, r1, r2⟩ := HR.out.below GB.out
        have ck : wr.cell? ⟨g, l + k, none⟩ = some (.int .u8 165) := by
          rw [cell_of_row _ _ _ _ _ _ r1, r2 (l + k) (by omega), F1.out (l + k) (by omega) (by omega)]
        have wk : wrap64 ((l : Int) + (k : Int) + 1) = ((l + (k + 1) : Nat) : Int) := by have := HL.out; simp [wrap64]; omega
        have WK : Hid (_) := wk
        clear r1 r2 wk wl
        go_wp2
        go_roundw
        case rel => exact ⟨k + 1, by omega, by rw [WK.out], by first | rfl | trivial⟩
        case measure =>
          rw [WK.out]
          simp only [intOf, Int.toNat_natCast]
          omega
      · have hk8 : k = 80 := by omega
        subst hk8
        go_wp2
        go_ret
        refine ⟨?_, GB.out⟩
        first | rfl | simp [wl]
end Go.Proofs.YtjaddenjeaalaaaDoor
