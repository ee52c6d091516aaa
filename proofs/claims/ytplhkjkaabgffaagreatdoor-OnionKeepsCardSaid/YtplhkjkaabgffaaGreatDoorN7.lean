import Derived.Test.YtplhkjkaabgffaaGreatDoorK5
namespace Go.Proofs.YtplhkjkaabgffaaGreatDoor
open Go.RowKit

/-- The chain of tags: T(i) behind i turns. -/
def tk (a b : HS) (pi : Nat → Int) (li : Nat) : Nat → Nat → Int
  | 0 => fun _ => 0
  | i + 1 => tagD (addN (addN (addN a (tk a b pi li i) (if i = 0 then 0 else 32)) pi li) (fun _ => ((i + 1 : Nat) : Int)) 1) b
/-- The expansion's bytes. -/
def eb (a b : HS) (pi : Nat → Int) (li : Nat) : Nat → Int := fun j => tk a b pi li (j / 32 + 1) (j % 32)
theorem tk_bd (a b : HS) (pi : Nat → Int) (li c : Nat) (j : Nat) : 0 ≤ tk a b pi li c j ∧ tk a b pi li c j < 256 := by
  cases c with
  | zero => exact ⟨by simp [tk], by simp [tk]⟩
  | succ c => exact sumD_bd _ j
theorem eb_bd (a b : HS) (pi : Nat → Int) (li : Nat) (j : Nat) : 0 ≤ eb a b pi li j ∧ eb a b pi li j < 256 := tk_bd a b pi li _ _
theorem eb_turn (a b : HS) (pi : Nat → Int) (li c h : Nat) (hh : h ≤ 32) : firstL (eb a b pi li) (32 * c) ++ firstL (tk a b pi li (c + 1)) h = firstL (eb a b pi li) (32 * c + h) := by
  rw [firstL_cat]
  refine firstL_congr fun i hi => ?_
  unfold cat
  split
  · rfl
  · unfold eb
    rw [show i / 32 = c by omega, show i % 32 = i - 32 * c by omega]
theorem eb_turn' (a b : HS) (pi : Nat → Int) (li c len h : Nat) (hl : len = 32 * c) (hh : h ≤ 32) : firstL (eb a b pi li) len ++ firstL (tk a b pi li (c + 1)) h = firstL (eb a b pi li) (len + h) := by
  rw [hl]; exact eb_turn a b pi li c h hh
def ls3 (x y z : Nat) : Nat → Nat
  | 0 => x
  | 1 => y
  | _ => z
def ps3 (p q r : Nat → Int) : Nat → Nat → Int
  | 0 => p
  | 1 => q
  | _ => r
def vs3 (p q r : Value) : Nat → Value
  | 0 => p
  | 1 => q
  | _ => r
theorem own_form {W : World} {B n : Nat} {v : Value} {xs : List Value} (h : W.ownsRow B 5 1 v n xs) : ∃ ao cap, v = .slice ao n cap := by
  rcases h.2 with ⟨e, e2⟩ | ⟨g, cap, cur, e, _⟩
  · exact ⟨none, 0, by rw [e, e2]⟩
  · exact ⟨_, _, e⟩
/-- A row of another type is no row of these. -/
theorem own_apart {W : World} {B n g : Nat} {v : Value} {xs : List Value} {cs : Array Value} {t : TypeId} (h : W.ownsRow B 5 1 v n xs) (hg : W.heap[g]? = some (.cells cs t)) (ht : t ≠ 5) : some g ≠ v.ownBlock := by
  rcases h.2 with ⟨rfl, _⟩ | ⟨g', cap, cur, rfl, _, hg', _⟩
  · simp [Value.ownBlock]
  · simp only [Value.ownBlock]
    intro e
    injection e with e
    subst e
    rw [hg] at hg'
    simp only [Option.some.injEq, Obj.cells.injEq] at hg'
    exact ht hg'.2.1
theorem sliceH (b h : Nat) (hh : h ≤ 32) (W : World) : (Instr.sliceAt 44 (.pointer (some ⟨b, 0, none⟩)) none (some (.int .i64 (h : Int))) none).run Tryz.prog W = .ok (.slice (some ⟨b, 0, none⟩) h 32) W := by
  simp [Instr.sliceAt, Instr.sureAddr, run_underlying Tryz.underlying44, Instr.sliceBounds, go_sem]
  intro h2
  omega
theorem sliceB_part {w : World} {g h : Nat} {f : Nat → Int} {t : TypeId} {fr : Nat × Nat} (hr : w.heap[g]? = some (.cells (tab8 32 f) t fr)) (hh : h ≤ 32) (hb : ∀ j, 0 ≤ f j ∧ f j < 256) : SliceB w (.slice (some ⟨g, 0, none⟩) h 32) h f := by
  refine ⟨⟨_, _, rfl, hh, by omega, fun _ => ⟨g, 0, rfl, (Array.getElem?_eq_some_iff.1 hr).1, fun j hj => ?_⟩⟩, fun j _ => hb j⟩
  rw [cell_of_row _ _ _ _ _ _ hr, Nat.zero_add]
  exact tab8_get 32 f j (by omega)

set_option maxRecDepth 20000 in
set_option maxHeartbeats 2000000 in
theorem expanded_any (a b : HS) (vi : Value) (li : Nat) (pi : Nat → Int) (n : Nat) (w : World) (hG : Glob w) (ha : a.ok) (hb : b.ok) (han : a.n = 64) (hbn : b.n = 64) (hli : li + 300 < 1152921504606846976) (hn : n ≤ 8160) (hi : SliceB w vi li pi) :
    Calls Tryz.prog 59 #[.agg (kc a b), vi, .int .i64 (n : Int)] w fun e w' => ∃ v', e = .returned v' ∧ w'.ownsRow w.heap.size 5 1 v' n (vals (firstL (eb a b pi li) n)) ∧ Below w.heap.size w w' := by
  obtain ⟨i5, hi1, hi2, hi3, hi4⟩ := info5
  obtain ⟨ai, ci, rfl, hx⟩ := hi.shape
  clear hx
  have HG : Hid (_) := hG
  have HA : Hid (_) := ha
  have HBo : Hid (_) := hb
  have HAn : Hid (_) := han
  have HBn : Hid (_) := hbn
  have HLI : Hid (_) := hli
  have HI : Hid (_) := hi
  have HNn : Hid (n ≤ 8160) := hn
  have I1 : Hid (_) := hi1
  have I2 : Hid (_) := hi2
  have I3 : Hid (_) := hi3
  have I4 : Hid (_) := hi4
  clear hG ha hb han hbn hli hi hn hi1 hi2 hi3 hi4
  go_enter Tryz.func59, Tryz.ntmps59
  have V0 : Hid ((w.alloc (.cells (kc a b) 88)).heap[w.heap.size]? = some (.cells (kc a b) 88)) := heap_alloc_new _ _
  have VB : Hid (Below w.heap.size w (w.alloc (.cells (kc a b) 88))) := (Below.refl _ _).alloc (Nat.le_refl _) _
  go_wp2_with (first
    | (refine isMake (.const (.int .i64 0)) (.tmp 11) rfl ?_; go_must (refine wpList_make_own (w.alloc (.cells (kc a b) 88)) rfl (.const (.int .i64 0)) (.tmp 11) 22 rfl (w.heap.size + 1) 5 i5 (.int .u8 0) 1 Tryz.underlying22 I1.out I2.out I3.out .i64 .i64 _ n rfl rfl (by first | rfl | omega | simp) (by rw [I4.out]; have := HNn.out; omega) (by have := HNn.out; unfold maxLen; omega) (by simp) ?_; intro w1 own1 grown1; simp only [Act.put, List.setIfInBounds_toArray, List.set_cons_succ, List.set_cons_zero]; have O1 : Hid (w1.ownsRow (w.heap.size + 1) 5 1 (.slice (some ⟨w.heap.size + 1, 0, none⟩) 0 n) 0 (vals [])) := (by have e : (w.alloc (.cells (kc a b) 88)).heap.size = w.heap.size + 1 := (by simp); rw [e] at own1; exact own1); have G1 : Hid (Below (w.heap.size + 1) (w.alloc (.cells (kc a b) 88)) w1) := (Below.refl _ _).grown grown1 (by simp) (fun k hk => by cases hk); have e1 : (w.alloc (.cells (kc a b) 88)).heap.size = w.heap.size + 1 := (by simp); rw [e1]; clear own1 grown1)))
  clear e1 I1 I2 I3 I4
  go_loopw [7, 8, 9] (fun v7 v8 v9 W => ∃ (c len : Nat) (a8 : Option Addr) (l8 c8 : Nat), v9 = .int .i64 ((c + 1 : Nat) : Int) ∧ ((len = 32 * c ∧ len ≤ n) ∨ (len = n ∧ n ≤ 32 * c)) ∧ v8 = .slice a8 l8 c8 ∧ l8 = (if c = 0 then 0 else 32) ∧ SliceB W (.slice a8 l8 c8) l8 (tk a b pi li c) ∧ W.ownsRow (w.heap.size + 1) 5 1 v7 len (vals (firstL (eb a b pi li) len)) ∧ Below (w.heap.size + 1) (w.alloc (.cells (kc a b) 88)) W) (fun v7 _ _ _ => n - lenOf v7)
  case atStart =>
    exact ⟨0, 0, none, 0, 0, rfl, Or.inl ⟨rfl, Nat.zero_le _⟩, rfl, rfl, ⟨⟨_, _, rfl, Nat.le_refl _, by omega, fun h => by omega⟩, fun j hj => by omega⟩, O1.out, G1.out⟩
  case round =>
    obtain ⟨c, len, a8, l8, c8, rfl, hlen, rfl, hl8, s8, own, bel⟩ := hrel
    obtain ⟨ao, cap, rfl⟩ := own_form own
    have O : Hid (wr.ownsRow (w.heap.size + 1) 5 1 (.slice ao len cap) len (vals (firstL (eb a b pi li) len))) := own
    have G : Hid (Below (w.heap.size + 1) (w.alloc (.cells (kc a b) 88)) wr) := bel
    have S8 : Hid (SliceB wr (.slice a8 l8 c8) l8 (tk a b pi li c)) := s8
    have HL8 : Hid (l8 = (if c = 0 then 0 else 32)) := hl8
    have HLN : Hid ((len = 32 * c ∧ len ≤ n) ∨ (len = n ∧ n ≤ 32 * c)) := hlen
    clear own bel s8 hl8 hlen O1 G1
    have BC : Hid (∀ W, Below (w.heap.size + 1) (w.alloc (.cells (kc a b) 88)) W → Below w.heap.size w W) := fun W h => VB.out.trans (h.mono (by omega))
    by_cases hlt : len < n
    · have i1 : (len : Int) < n := by omega
      have HC : Hid (len = 32 * c ∧ c < 255) := by
        have h1 := HLN.out
        have h2 := HNn.out
        show len = 32 * c ∧ c < 255
        omega
      have cvw : IntKind.u8.wrap ((c : Int) + 1) = (c : Int) + 1 := by have := HC.out.2; simp [IntKind.wrap, IntKind.bits, IntKind.signed]; omega
      have K0 : Hid (wr.heap[w.heap.size]? = some (.cells (kc a b) 88)) := by rw [G.out.block _ (by omega)]; exact V0.out
      go_wp2_with (first
        | (refine isLoad 88 (.tmp 3) rfl ?_; go_must (refine wpList_load_row rfl 88 (.tmp 3) rfl w.heap.size rfl 88 _ (0, 0) _ K0.out Tryz.underlying88 rfl (size52' _ _) ?_; simp only [Act.put, List.setIfInBounds_toArray, List.set_cons_succ, List.set_cons_zero])))
      have hz := heap2 wr (.cells #[.int .u8 ((c : Int) + 1)] 5) (.cells #[.slice a8 l8 c8, .slice ai li ci, .slice (some ⟨wr.heap.size, 0, none⟩) 1 1] 22)
      obtain ⟨X, hX⟩ : ∃ X, X = (wr.alloc (.cells #[.int .u8 ((c : Int) + 1)] 5)).alloc (.cells #[.slice a8 l8 c8, .slice ai li ci, .slice (some ⟨wr.heap.size, 0, none⟩) 1 1] 22) := ⟨_, rfl⟩
      rw [← hX] at hz
      have XB : Below wr.heap.size wr X := by rw [hX]; exact ((Below.refl _ _).alloc (Nat.le_refl _) _).alloc (by simp) _
      have XG : Below (w.heap.size + 1) (w.alloc (.cells (kc a b) 88)) X := G.out.trans (XB.mono (by have := G.out.size; simpa using this))
      have sC : SliceB X (.slice (some ⟨wr.heap.size, 0, none⟩) 1 1) 1 (fun _ => ((c + 1 : Nat) : Int)) := by
        refine ⟨⟨_, _, rfl, Nat.le_refl _, by omega, fun _ => ⟨_, _, rfl, (Array.getElem?_eq_some_iff.1 hz.1).1, fun j hj => ?_⟩⟩, fun j hj => ⟨by omega, by have := HC.out.2; omega⟩⟩
        obtain rfl : j = 0 := by omega
        rw [cell_of_row _ _ _ _ _ _ hz.1]
        simp
      have hp : Pieces X (.slice (some ⟨wr.heap.size + 1, 0, none⟩) 3 3) 3 (ls3 l8 li 1) (ps3 (tk a b pi li c) pi (fun _ => ((c + 1 : Nat) : Int))) :=
        ⟨wr.heap.size + 1, 0, 3, vs3 (.slice a8 l8 c8) (.slice ai li ci) (.slice (some ⟨wr.heap.size, 0, none⟩) 1 1), rfl, (Array.getElem?_eq_some_iff.1 hz.2).1, by omega, fun i hi => by
          have h3 : i = 0 ∨ i = 1 ∨ i = 2 := by omega
          rcases h3 with rfl | rfl | rfl
          · exact ⟨by rw [cell_of_row _ _ _ _ _ _ hz.2]; rfl, S8.out.below XB⟩
          · exact ⟨by rw [cell_of_row _ _ _ _ _ _ hz.2]; rfl, HI.out.below (BC.out _ XG)⟩
          · exact ⟨by rw [cell_of_row _ _ _ _ _ _ hz.2]; rfl, sC⟩⟩
      have eT : tagD (addAll a (ls3 l8 li 1) (ps3 (tk a b pi li c) pi (fun _ => ((c + 1 : Nat) : Int))) 3) b = tk a b pi li (c + 1) := by
        simp only [addAll, ls3, ps3, tk]
        rw [HL8.out]
      obtain ⟨D, hD⟩ : ∃ D, D = tk a b pi li (c + 1) := ⟨_, rfl⟩
      have hs := tag_any a b _ 3 _ _ X (HG.out.below (BC.out _ XG) HG.out.sz) HA.out HBo.out HBn.out (by rw [HAn.out]; simp only [totL, ls3]; have h1 := HLI.out; have h2 := HL8.out; split at h2 <;> omega) hp
      rw [eT, ← hD] at hs
      rw [← hX]
      refine hs.mono ?_
      rintro e w2 ⟨rfl, hb2⟩
      have O2 : Hid (w2.ownsRow (w.heap.size + 1) 5 1 (.slice ao len cap) len (vals (firstL (eb a b pi li) len))) := own_below (own_below O.out XB) hb2
      have G2 : Hid (Below (w.heap.size + 1) (w.alloc (.cells (kc a b) 88)) w2) := XG.trans (hb2.mono (by have := XG.size; simpa using this))
      have HD : Hid (_) := hD
      have DB : Hid (∀ j, 0 ≤ D j ∧ D j < 256) := by rw [hD]; exact tk_bd _ _ _ _ _
      clear hs eT hD hp sC hz XB XG hX hb2 O G S8 K0 cvw
      have z28 := zero28
      have s32 := slice32
      have wn : wrap64 ((n : Int) - (len : Int)) = (n : Int) - len := by have := HNn.out; simp [wrap64]; omega
      have wcn : wrap64 ((c : Int) + 1 + 1) = ((c + 1 + 1 : Nat) : Int) := by have := HC.out.2; simp [wrap64]; omega
      have WC : Hid (_) := wcn
      clear wcn
      by_cases hmin : n - len < 32
      · have m1 : (n : Int) - (len : Int) < 32 := by omega
        have HH : Hid (n - len ≤ 32) := by show n - len ≤ 32; omega
        have HHN : Hid (len + (n - len) = n ∧ 0 < n - len ∧ n - len < 32) := by show len + (n - len) = n ∧ 0 < n - len ∧ n - len < 32; omega
        have sh : ∀ (b : Nat) (W : World), (Instr.sliceAt 44 (.pointer (some ⟨b, 0, none⟩)) none (some (.int .i64 ((n : Int) - (len : Int)))) none).run Tryz.prog W = .ok (.slice (some ⟨b, 0, none⟩) (n - len) 32) W := fun b W => by
          have h := sliceH b (n - len) HH.out W
          rw [Int.natCast_sub (by omega)] at h
          exact h
        clear hmin
        go_wp2_with (first
          | (refine isStore 44 (.tmp 10) (.tmp 26) rfl ?_; go_must (refine wpList_store_row rfl 44 (.tmp 10) (.tmp 26) rfl w2.heap.size _ rfl rfl 44 _ (heap_alloc_new _ _) (size28' _) (by simp only [tab8_size]) (tab8_one _ _) ?_; rw [World.setRow_alloc_new]; simp only [Act.put]; obtain ⟨A, hA⟩ : ∃ G, G = w2.heap.size := ⟨_, rfl⟩; obtain ⟨V, hV⟩ : ∃ V, V = w2.alloc (.cells (tab8 32 D) 44) := ⟨_, rfl⟩; have VA : Hid (V.heap[A]? = some (.cells (tab8 32 D) 44)) := (by rw [hV, hA]; exact heap_alloc_new _ _); have O3 : Hid (V.ownsRow (w.heap.size + 1) 5 1 (.slice ao len cap) len (vals (firstL (eb a b pi li) len))) := (by rw [hV]; exact O2.out.alloc _); have G3 : Hid (Below (w.heap.size + 1) (w.alloc (.cells (kc a b) 88)) V) := (by rw [hV]; exact G2.out.alloc (by have := G2.out.size; simpa using this) _); rw [← hV, ← hA]; clear hV hA))
          | (refine isApp (.tmp 27) (.tmp 33) rfl ?_; go_must (refine wpList_appG (v := .slice ao len cap) (B := w.heap.size + 1) (l := firstL (eb a b pi li) len) (r := firstL D (n - len)) rfl (.tmp 27) (.tmp 33) rfl rfl rfl O3.out (firstL_len _ _) (src_of (sliceB_part VA.out HH.out DB.out) (fun e => by cases e)) (by have := HNn.out; have := HH.out; omega) (by have := G3.out.size; simpa using this) ?_; intro v5 w5 own5 gr5; rw [HD.out, eb_turn' _ _ _ _ _ _ _ HC.out.1 HH.out] at own5; simp only [Act.put, List.setIfInBounds_toArray, List.set_cons_succ, List.set_cons_zero]; have O5 : Hid (w5.ownsRow (w.heap.size + 1) 5 1 v5 (len + (n - len)) (vals (firstL (eb a b pi li) (len + (n - len))))) := own5; have G5 : Hid (Below (w.heap.size + 1) (w.alloc (.cells (kc a b) 88)) w5) := G3.out.grown gr5 (by have := G3.out.size; simpa using this) (fun k hk => (O3.out.lt k hk).1); have VA5 : Hid (w5.heap[A]? = some (.cells (tab8 32 D) 44)) := (by rw [gr5.block _ (Array.getElem?_eq_some_iff.1 VA.out).1 (own_apart O3.out VA.out (by decide))]; exact VA.out); clear own5 gr5)))
        obtain ⟨a5, cp5, hv5⟩ := own_form O5.out
        go_roundw
        case rel =>
          refine ⟨c + 1, len + (n - len), _, 32, 32, by rw [WC.out], ?_, rfl, by simp, ?_, O5.out, G5.out⟩
          · have h1 := HC.out; have h2 := HHN.out; omega
          · rw [← HD.out]; exact sliceB_row VA5.out (by omega) fun j _ => DB.out j
        case measure =>
          rw [hv5]
          simp only [lenOf]
          have h1 := HC.out; have h2 := HHN.out; omega
      · have m1 : ¬ (n : Int) - (len : Int) < 32 := by omega
        have HH : Hid (32 ≤ 32) := Nat.le_refl 32
        have HHN : Hid (len + 32 ≤ n) := by show len + 32 ≤ n; omega
        clear hmin
        go_wp2_with (first
          | (refine isStore 44 (.tmp 10) (.tmp 26) rfl ?_; go_must (refine wpList_store_row rfl 44 (.tmp 10) (.tmp 26) rfl w2.heap.size _ rfl rfl 44 _ (heap_alloc_new _ _) (size28' _) (by simp only [tab8_size]) (tab8_one _ _) ?_; rw [World.setRow_alloc_new]; simp only [Act.put]; obtain ⟨A, hA⟩ : ∃ G, G = w2.heap.size := ⟨_, rfl⟩; obtain ⟨V, hV⟩ : ∃ V, V = w2.alloc (.cells (tab8 32 D) 44) := ⟨_, rfl⟩; have VA : Hid (V.heap[A]? = some (.cells (tab8 32 D) 44)) := (by rw [hV, hA]; exact heap_alloc_new _ _); have O3 : Hid (V.ownsRow (w.heap.size + 1) 5 1 (.slice ao len cap) len (vals (firstL (eb a b pi li) len))) := (by rw [hV]; exact O2.out.alloc _); have G3 : Hid (Below (w.heap.size + 1) (w.alloc (.cells (kc a b) 88)) V) := (by rw [hV]; exact G2.out.alloc (by have := G2.out.size; simpa using this) _); rw [← hV, ← hA]; clear hV hA))
          | (refine isApp (.tmp 27) (.tmp 33) rfl ?_; go_must (refine wpList_appG (v := .slice ao len cap) (B := w.heap.size + 1) (l := firstL (eb a b pi li) len) (r := firstL D (32)) rfl (.tmp 27) (.tmp 33) rfl rfl rfl O3.out (firstL_len _ _) (src_of (sliceB_part VA.out HH.out DB.out) (fun e => by cases e)) (by have := HNn.out; have := HH.out; omega) (by have := G3.out.size; simpa using this) ?_; intro v5 w5 own5 gr5; rw [HD.out, eb_turn' _ _ _ _ _ _ _ HC.out.1 HH.out] at own5; simp only [Act.put, List.setIfInBounds_toArray, List.set_cons_succ, List.set_cons_zero]; have O5 : Hid (w5.ownsRow (w.heap.size + 1) 5 1 v5 (len + (32)) (vals (firstL (eb a b pi li) (len + (32))))) := own5; have G5 : Hid (Below (w.heap.size + 1) (w.alloc (.cells (kc a b) 88)) w5) := G3.out.grown gr5 (by have := G3.out.size; simpa using this) (fun k hk => (O3.out.lt k hk).1); have VA5 : Hid (w5.heap[A]? = some (.cells (tab8 32 D) 44)) := (by rw [gr5.block _ (Array.getElem?_eq_some_iff.1 VA.out).1 (own_apart O3.out VA.out (by decide))]; exact VA.out); clear own5 gr5)))
        obtain ⟨a5, cp5, hv5⟩ := own_form O5.out
        go_roundw
        case rel =>
          refine ⟨c + 1, len + (32), _, 32, 32, by rw [WC.out], ?_, rfl, by simp, ?_, O5.out, G5.out⟩
          · have h1 := HC.out; have h2 := HHN.out; omega
          · rw [← HD.out]; exact sliceB_row VA5.out (by omega) fun j _ => DB.out j
        case measure =>
          rw [hv5]
          simp only [lenOf]
          have h1 := HC.out; have h2 := HHN.out; omega
    · have eln : len = n := by have := HLN.out; omega
      subst eln
      go_wp2
      go_ret
      exact ⟨_, rfl, O.out.mono (by omega), BC.out _ G.out⟩
end Go.Proofs.YtplhkjkaabgffaaGreatDoor

namespace Go.Proofs.YtplhkjkaabgffaaGreatDoor
open Go.RowKit

/-- Expand's error, and how many bytes it gives. -/
def expE (n : Int) : Int := if n < 0 then 2 else if n > 8160 then 1 else 0
def expN (n : Int) : Nat := if n < 0 then 0 else if n > 8160 then 0 else n.toNat
/-- The expansion by a key. -/
def ebK (pk : Nat → Int) (lk : Nat) (pi : Nat → Int) (li : Nat) : Nat → Int := eb (inS pk lk) (outS pk lk) pi li
theorem expN_le (n : Int) : expN n ≤ 8160 := by unfold expN; split <;> (try split) <;> omega

set_option maxHeartbeats 800000 in
theorem mexpand_any (vk vi : Value) (lk li : Nat) (pk pi : Nat → Int) (n : Int) (w : World) (hG : Glob w) (hk : lk < 1152921504606846976) (hli : li + 300 < 1152921504606846976) (h1 : SliceB w vk lk pk) (h2 : SliceB w vi li pi) :
    Calls Tryz.prog 45 #[vk, vi, .int .i64 n] w fun e w' => ∃ v', e = .returned (.tuple #[v', .int .i64 (expE n)]) ∧ w'.ownsRow w.heap.size 5 1 v' (expN n) (vals (firstL (ebK pk lk pi li) (expN n))) ∧ Below w.heap.size w w' := by
  have HG : Hid (_) := hG
  have HK : Hid (_) := hk
  have HL : Hid (_) := hli
  have H1 : Hid (_) := h1
  have H2 : Hid (_) := h2
  clear hG hk hli h1 h2
  by_cases hn : n < 0
  · go_enter Tryz.func45, Tryz.ntmps45
    go_wp2
    go_ret2
    refine ⟨.slice none 0 0, ?_, ?_, Below.refl _ _⟩
    · unfold expE; rw [if_pos hn]; rfl
    · unfold expN; rw [if_pos hn]; exact World.ownsRow_nil _ _ _ _
  · by_cases hm : n > 8160
    · go_enter Tryz.func45, Tryz.ntmps45
      go_wp2
      go_ret2
      refine ⟨.slice none 0 0, ?_, ?_, Below.refl _ _⟩
      · unfold expE; rw [if_neg (by omega), if_pos hm]; rfl
      · unfold expN; rw [if_neg (by omega), if_pos hm]; exact World.ownsRow_nil _ _ _ _
    · obtain ⟨k, rfl⟩ : ∃ k : Nat, n = (k : Int) := ⟨n.toNat, by omega⟩
      have HE : Hid (expE (k : Int) = 0 ∧ expN (k : Int) = k ∧ k ≤ 8160) := by
        show expE (k : Int) = 0 ∧ expN (k : Int) = k ∧ k ≤ 8160
        unfold expE expN
        rw [if_neg hn, if_neg hn, if_neg hm, if_neg hm]
        exact ⟨rfl, by omega, by omega⟩
      go_enter Tryz.func45, Tryz.ntmps45
      go_wp2_with fail
      refine (keyedBy_any vk lk pk w HG.out HK.out H1.out).mono ?_
      rintro e w1 ⟨rfl, hb1⟩
      have W1 : Hid (Below w.heap.size w w1) := hb1
      clear hb1
      go_wp2_with fail
      refine (expanded_any (inS pk lk) (outS pk lk) vi li pi k w1 (HG.out.below W1.out HG.out.sz) (ok_inS _ _) (ok_outS _ _) (inS_n _ _) (outS_n _ _) HL.out HE.out.2.2 (H2.out.below W1.out)).mono ?_
      rintro e w2 ⟨v', rfl, own2, hb2⟩
      have O2 : Hid (w2.ownsRow w.heap.size 5 1 v' k (vals (firstL (ebK pk lk pi li) k))) := own2.mono W1.out.size
      have W2 : Hid (Below w.heap.size w w2) := W1.out.trans (hb2.mono W1.out.size)
      clear own2 hb2 W1
      go_wp2
      go_ret2
      refine ⟨v', ?_, ?_, W2.out⟩
      · rw [HE.out.1]; rfl
      · rw [HE.out.2.1]; exact O2.out
end Go.Proofs.YtplhkjkaabgffaaGreatDoor

namespace Go.Proofs.YtplhkjkaabgffaaGreatDoor
open Go.RowKit

theorem slice3 (ao : Option Addr) (len cap n : Nat) (h1 : n ≤ cap) (W : World) : (Instr.sliceAt 22 (.slice ao len cap) none (some (.int .i64 (n : Int))) (some (.int .i64 (n : Int)))).run Tryz.prog W = .ok (.slice ao n n) W := by
  have e1 : (n : Int) ≤ cap := by omega
  have s5 := size5'
  cases ao with
  | none => simp [Instr.sliceAt, Instr.slice, run_underlying Tryz.underlying22, Instr.sliceBounds, run_sliceBound, h1, s5]
  | some ad => simp [Instr.sliceAt, Instr.slice, run_underlying Tryz.underlying22, Instr.sliceBounds, run_sliceBound, h1, s5, Addr.add]
/-- An empty list that the call laid. -/
theorem own_empty (W : World) : (W.alloc (.cells #[] 5)).ownsRow W.heap.size 5 1 (.slice (some ⟨W.heap.size, 0, none⟩) 0 0) 0 (vals []) :=
  ⟨by simp [vals], Or.inr ⟨W.heap.size, 0, #[], rfl, Nat.le_refl _, heap_alloc_new _ _, Nat.le_refl _, by unfold maxLen; omega, by simp, by simp [vals]⟩⟩
theorem tk_msg (pk : Nat → Int) (lk : Nat) (pi : Nat → Int) (li c l8 : Nat) (h : l8 = if c = 0 then 0 else 32) :
    tagV pk lk (cat (cat (tk (inS pk lk) (outS pk lk) pi li c) l8 pi) (l8 + li) (fun _ => ((c + 1 : Nat) : Int))) (l8 + li + 1) = tk (inS pk lk) (outS pk lk) pi li (c + 1) := by
  unfold tagV
  rw [addN_cat, addN_cat, h]
  simp only [tk]
theorem one_firstL (z : Int) : [z] = firstL (fun _ => z) 1 := rfl

set_option maxRecDepth 20000 in
set_option maxHeartbeats 2000000 in
theorem rexpand_any (vk vi : Value) (lk li : Nat) (pk pi : Nat → Int) (n : Int) (w : World) (hk : lk + 200 ≤ 140737488355328) (hli : li + 600 ≤ 140737488355328) (h1 : SliceB w vk lk pk) (h2 : SliceB w vi li pi)
    (hn1 : ∀ cap, vk = .slice none lk cap → cap = 0) (hn2 : ∀ cap, vi = .slice none li cap → cap = 0) :
    Calls Tryz.prog 52 #[vk, vi, .int .i64 n] w fun e w' => ∃ v', e = .returned (.tuple #[v', .int .i64 (expE n)]) ∧ SliceB w' v' (expN n) (ebK pk lk pi li) ∧ Below w.heap.size w w' := by
  obtain ⟨ai, ci, rfl, hx⟩ := h2.shape
  clear hx
  have HK : Hid (_) := hk
  have HLI : Hid (_) := hli
  have H1 : Hid (_) := h1
  have H2 : Hid (_) := h2
  have N1 : Hid (_) := hn1
  have N2 : Hid (ai = none → ci = 0) := fun e => hn2 ci (by rw [e])
  clear hk hli h1 h2 hn1 hn2
  have nilB : Hid (∀ W f, SliceB W (.slice none 0 0) 0 f) := fun W f => ⟨⟨_, _, rfl, Nat.le_refl _, by omega, fun h => by omega⟩, fun j hj => by omega⟩
  by_cases hn : n < 0
  · go_enter Tryz.func52, Tryz.ntmps52
    go_wp2
    go_ret2
    refine ⟨.slice none 0 0, ?_, ?_, Below.refl _ _⟩
    · unfold expE; rw [if_pos hn]; rfl
    · unfold expN; rw [if_pos hn]; exact nilB.out _ _
  · by_cases hm : n > 8160
    · go_enter Tryz.func52, Tryz.ntmps52
      go_wp2
      go_ret2
      refine ⟨.slice none 0 0, ?_, ?_, Below.refl _ _⟩
      · unfold expE; rw [if_neg (by omega), if_pos hm]; rfl
      · unfold expN; rw [if_neg (by omega), if_pos hm]; exact nilB.out _ _
    · obtain ⟨k, rfl⟩ : ∃ k : Nat, n = (k : Int) := ⟨n.toNat, by omega⟩
      have HE : Hid (expE (k : Int) = 0 ∧ expN (k : Int) = k ∧ k ≤ 8160) := by
        show expE (k : Int) = 0 ∧ expN (k : Int) = k ∧ k ≤ 8160
        unfold expE expN
        rw [if_neg hn, if_neg hn, if_neg hm, if_neg hm]
        exact ⟨rfl, by omega, by omega⟩
      go_enter Tryz.func52, Tryz.ntmps52
      go_wp2
      go_loopw [8, 9, 10] (fun v8 v9 v10 W => ∃ (c len : Nat) (a8 : Option Addr) (l8 c8 : Nat), v10 = .int .i64 ((c + 1 : Nat) : Int) ∧ len = 32 * c ∧ c ≤ 255 ∧ v9 = .slice a8 l8 c8 ∧ (a8 = none → c8 = 0) ∧ l8 = (if c = 0 then 0 else 32) ∧ SliceB W (.slice a8 l8 c8) l8 (tk (inS pk lk) (outS pk lk) pi li c) ∧ W.ownsRow w.heap.size 5 1 v8 len (vals (firstL (ebK pk lk pi li) len)) ∧ Below w.heap.size w W) (fun v8 _ _ _ => k - lenOf v8)
      case atStart =>
        exact ⟨0, 0, none, 0, 0, rfl, rfl, by omega, rfl, fun _ => rfl, rfl, nilB.out _ _, World.ownsRow_nil _ _ _ _, Below.refl _ _⟩
      case round =>
        obtain ⟨c, len, a8, l8, c8, rfl, hlen, hc255, rfl, hnil8, hl8, s8, own, bel⟩ := hrel
        obtain ⟨ao, cap, rfl⟩ := own_form own
        have O : Hid (wr.ownsRow w.heap.size 5 1 (.slice ao len cap) len (vals (firstL (ebK pk lk pi li) len))) := own
        have G : Hid (Below w.heap.size w wr) := bel
        have S8 : Hid (SliceB wr (.slice a8 l8 c8) l8 (tk (inS pk lk) (outS pk lk) pi li c)) := s8
        have N8 : Hid (a8 = none → c8 = 0) := hnil8
        have HL8 : Hid (l8 = (if c = 0 then 0 else 32)) := hl8
        have HLE8 : Hid (l8 ≤ 32) := by show l8 ≤ 32; rw [hl8]; split <;> omega
        have HLN : Hid (len = 32 * c ∧ c ≤ 255) := ⟨hlen, hc255⟩
        clear own bel s8 hl8 hlen hc255 hnil8
        by_cases hlt : len < k
        · have i1 : (len : Int) < k := by omega
          have HC : Hid (c < 255) := by
            have h1 := HLN.out
            have h2 := HE.out.2.2
            show c < 255
            omega
          have cvw : IntKind.u8.wrap ((c : Int) + 1) = (c : Int) + 1 := by have := HC.out; simp [IntKind.wrap, IntKind.bits, IntKind.signed]; omega
          have E0 : Hid ((wr.alloc (.cells #[] 5)).ownsRow wr.heap.size 5 1 (.slice (some ⟨wr.heap.size, 0, none⟩) 0 0) 0 (vals [])) := own_empty wr
          have F0 : Hid (Below wr.heap.size wr (wr.alloc (.cells #[] 5))) := (Below.refl _ _).alloc (Nat.le_refl _) _
          go_wp2_with (first
            | (refine isApp (.tmp 23) (.tmp 24) rfl ?_; go_must (refine wpList_appS (B := wr.heap.size) (l := []) (r := firstL (tk (inS pk lk) (outS pk lk) pi li c) l8) (w0 := wr) rfl (.tmp 23) (.tmp 24) rfl rfl rfl E0.out (firstL_len _ _) (src_of (S8.out.below F0.out) N8.out) (by have := HLE8.out; omega) F0.out F0.out.size ?_; intro v1 w1 own1 bel1 sz1; simp only [List.nil_append, Nat.zero_add] at own1; simp only [Act.put, List.setIfInBounds_toArray, List.set_cons_succ, List.set_cons_zero]; have E1 : Hid (w1.ownsRow wr.heap.size 5 1 v1 l8 (vals (firstL (tk (inS pk lk) (outS pk lk) pi li c) l8))) := own1; have F1 : Hid (Below wr.heap.size wr w1) := bel1; clear own1 bel1 sz1))
            | (refine isApp (.tmp 25) (.tmp 26) rfl ?_; go_must (refine wpList_appS (B := wr.heap.size) (l := firstL (tk (inS pk lk) (outS pk lk) pi li c) l8) (r := firstL pi li) (w0 := wr) rfl (.tmp 25) (.tmp 26) rfl rfl rfl E1.out (firstL_len _ _) (src_of (H2.out.below (G.out.trans (F1.out.mono G.out.size))) N2.out) (by have := HLE8.out; have := HLI.out; omega) F1.out F1.out.size ?_; intro v2 w2 own2 bel2 sz2; rw [firstL_cat] at own2; simp only [Act.put, List.setIfInBounds_toArray, List.set_cons_succ, List.set_cons_zero]; have E2 : Hid (w2.ownsRow wr.heap.size 5 1 v2 (l8 + li) (vals (firstL (cat (tk (inS pk lk) (outS pk lk) pi li c) l8 pi) (l8 + li)))) := own2; have F2 : Hid (Below wr.heap.size wr w2) := bel2; clear own2 bel2 sz2))
            | (refine isApp (.tmp 27) (.tmp 30) rfl ?_; go_must (refine wpList_app (B := wr.heap.size) (l := firstL (cat (tk (inS pk lk) (outS pk lk) pi li c) l8 pi) (l8 + li)) (r := [(c : Int) + 1]) (w0 := wr) rfl (.tmp 27) (.tmp 30) rfl rfl rfl (E2.out.alloc _) rfl (src_one w2 _) (by have := HLE8.out; have := HLI.out; omega) (F2.out.alloc F2.out.size _) (by have := F2.out.size; simp; omega) ?_; intro v3 w3 own3 bel3 sz3; rw [one_firstL, firstL_cat] at own3; simp only [Act.put, List.setIfInBounds_toArray, List.set_cons_succ, List.set_cons_zero]; have E3 : Hid (w3.ownsRow wr.heap.size 5 1 v3 (l8 + li + 1) (vals (firstL (cat (cat (tk (inS pk lk) (outS pk lk) pi li c) l8 pi) (l8 + li) (fun _ => ((c + 1 : Nat) : Int))) (l8 + li + 1)))) := (by rw [Int.natCast_add]; exact own3); have F3 : Hid (Below wr.heap.size wr w3) := bel3; clear own3 bel3 sz3)))
          obtain ⟨D, hD⟩ : ∃ D, D = tk (inS pk lk) (outS pk lk) pi li (c + 1) := ⟨_, rfl⟩
          have GW : Hid (Below w.heap.size w w3) := G.out.trans (F3.out.mono G.out.size)
          have bd : ∀ j, j < l8 + li + 1 → 0 ≤ cat (cat (tk (inS pk lk) (outS pk lk) pi li c) l8 pi) (l8 + li) (fun _ => ((c + 1 : Nat) : Int)) j ∧ cat (cat (tk (inS pk lk) (outS pk lk) pi li c) l8 pi) (l8 + li) (fun _ => ((c + 1 : Nat) : Int)) j < 256 :=
            cat_bd (cat_bd (fun j _ => tk_bd _ _ _ _ _ j) H2.out.bytes) (fun j _ => ⟨by omega, by have := HC.out; omega⟩)
          have hs := rtag_any vk v3 lk (l8 + li + 1) pk _ w3 HK.out (by have := HLE8.out; have := HLI.out; omega) (H1.out.below GW.out) (sliceB_own E3.out bd) N1.out (own_nil E3.out)
          rw [tk_msg pk lk pi li c l8 HL8.out, ← hD] at hs
          refine hs.mono ?_
          rintro e w4 ⟨rfl, hb4⟩
          have O4 : Hid (w4.ownsRow w.heap.size 5 1 (.slice ao len cap) len (vals (firstL (ebK pk lk pi li) len))) := own_below (own_below O.out F3.out) hb4
          have G4 : Hid (Below w.heap.size w w4) := GW.out.trans (hb4.mono GW.out.size)
          have HD : Hid (_) := hD
          have DB : Hid (∀ j, 0 ≤ D j ∧ D j < 256) := by rw [hD]; exact tk_bd _ _ _ _ _
          clear hs bd hD hb4 E0 E1 E2 E3 F0 F1 F2 F3 O G GW S8 N8 cvw
          have z28 := zero28
          have s32 := slice32
          have wcn : wrap64 ((c : Int) + 1 + 1) = ((c + 1 + 1 : Nat) : Int) := by have := HC.out; simp [wrap64]; omega
          have WC : Hid (_) := wcn
          clear wcn
          go_wp2_with (first
            | (refine isStore 44 (.tmp 11) (.tmp 32) rfl ?_; go_must (refine wpList_store_row rfl 44 (.tmp 11) (.tmp 32) rfl w4.heap.size _ rfl rfl 44 _ (heap_alloc_new _ _) (size28' _) (by simp only [tab8_size]) (tab8_one _ _) ?_; rw [World.setRow_alloc_new]; simp only [Act.put]; obtain ⟨A, hA⟩ : ∃ G, G = w4.heap.size := ⟨_, rfl⟩; obtain ⟨V, hV⟩ : ∃ V, V = w4.alloc (.cells (tab8 32 D) 44) := ⟨_, rfl⟩; have VA : Hid (V.heap[A]? = some (.cells (tab8 32 D) 44)) := (by rw [hV, hA]; exact heap_alloc_new _ _); have O5 : Hid (V.ownsRow w.heap.size 5 1 (.slice ao len cap) len (vals (firstL (ebK pk lk pi li) len))) := (by rw [hV]; exact O4.out.alloc _); have G5 : Hid (Below w.heap.size w V) := (by rw [hV]; exact G4.out.alloc G4.out.size _); rw [← hV, ← hA]; clear hV hA))
            | (refine isApp (.tmp 34) (.tmp 35) rfl ?_; go_must (refine wpList_appG (v := .slice ao len cap) (B := w.heap.size) (l := firstL (ebK pk lk pi li) len) (r := firstL D 32) rfl (.tmp 34) (.tmp 35) rfl rfl rfl O5.out (firstL_len _ _) (src_of (sliceB_row VA.out (by omega) fun j _ => DB.out j) (fun e => by cases e)) (by have := HE.out.2.2; have := HLN.out; omega) G5.out.size ?_; intro v6 w6 own6 gr6; rw [HD.out, ebK, eb_turn' _ _ _ _ _ _ _ HLN.out.1 (Nat.le_refl _)] at own6; simp only [Act.put, List.setIfInBounds_toArray, List.set_cons_succ, List.set_cons_zero]; have O6 : Hid (w6.ownsRow w.heap.size 5 1 v6 (len + 32) (vals (firstL (ebK pk lk pi li) (len + 32)))) := own6; have G6 : Hid (Below w.heap.size w w6) := G5.out.grown gr6 G5.out.size (fun k hk => (O5.out.lt k hk).1); have VA6 : Hid (w6.heap[A]? = some (.cells (tab8 32 D) 44)) := (by rw [gr6.block _ (Array.getElem?_eq_some_iff.1 VA.out).1 (own_apart O5.out VA.out (by decide))]; exact VA.out); clear own6 gr6)))
          obtain ⟨a5, cp5, hv5⟩ := own_form O6.out
          go_roundw
          case rel =>
            refine ⟨c + 1, len + 32, _, 32, 32, by rw [WC.out], ?_, ?_, rfl, (fun e => by cases e), by simp, ?_, O6.out, G6.out⟩
            · have h1 := HLN.out; omega
            · have h1 := HC.out; omega
            · rw [← HD.out]; exact sliceB_row VA6.out (by omega) fun j _ => DB.out j
          case measure =>
            rw [hv5]
            simp only [lenOf]
            omega
        · have hcap : Hid (k ≤ cap) := by
            show k ≤ cap
            obtain ⟨ao', cap', e, h1, _⟩ := (sliceB_own O.out (fun j _ => eb_bd _ _ _ _ j)).shape
            cases e
            omega
          have s3 := slice3 ao len cap k hcap.out
          go_wp2
          go_ret2
          refine ⟨.slice ao k k, ?_, ?_, G.out⟩
          · rw [HE.out.1]; rfl
          · rw [HE.out.2.1]
            have h := sliceB_own O.out (fun j _ => eb_bd _ _ _ _ j)
            obtain ⟨⟨ao', cap', e, h1, h2, h3⟩, h4⟩ := h
            cases e
            exact ⟨⟨ao, k, rfl, Nat.le_refl _, by omega, fun h0 => by
              obtain ⟨b, off, e, hb, hc⟩ := h3 (by omega)
              exact ⟨b, off, e, hb, fun j hj => hc j (by omega)⟩⟩, fun j hj => h4 j (by omega)⟩
end Go.Proofs.YtplhkjkaabgffaaGreatDoor
