import Derived.Test.YtaiiomoajjhliaaDoorK5
namespace Go.Proofs.YtaiiomoajjhliaaDoor
open Go.RowKit

/-- The chain of tags: T(i) behind i turns. -/
def tk (a b : HS) (pi : Nat → Int) (li : Nat) : Nat → Nat → Int
  | 0 => fun _ => 0
  | i + 1 => tagD (addN (addN (addN a (tk a b pi li i) (if i = 0 then 0 else 32)) pi li) (fun _ => ((i + 1 : Nat) : Int)) 1) b
/-- The expansion's bytes. -/
def eb (a b : HS) (pi : Nat → Int) (li : Nat) : Nat → Int := fun j => tk a b pi li (j / 32 + 1) (j % 32)
theorem tk_bd (a b : HS) (pi : Nat → Int) (li c : Nat) (j : Nat) : 0 ≤ tk a b pi li c j ∧ tk a b pi li c j < 256 := by
  cases c with
  | zero => exact ⟨by simp [tk], by simp [tk]⟩
  | succ c => exact sumD_bd _ j
theorem eb_bd (a b : HS) (pi : Nat → Int) (li : Nat) (j : Nat) : 0 ≤ eb a b pi li j ∧ eb a b pi li j < 256 := tk_bd a b pi li _ _
theorem eb_turn (a b : HS) (pi : Nat → Int) (li c h : Nat) (hh : h ≤ 32) : firstL (eb a b pi li) (32 * c) ++ firstL (tk a b pi li (c + 1)) h = firstL (eb a b pi li) (32 * c + h) := by
  rw [firstL_cat]
  refine firstL_congr fun i hi => ?_
  unfold cat
  split
  · rfl
  · unfold eb
    rw [show i / 32 = c by omega, show i % 32 = i - 32 * c by omega]
theorem eb_turn' (a b : HS) (pi : Nat → Int) (li c len h : Nat) (hl : len = 32 * c) (hh : h ≤ 32) : firstL (eb a b pi li) len ++ firstL (tk a b pi li (c + 1)) h = firstL (eb a b pi li) (len + h) := by
  rw [hl]; exact eb_turn a b pi li c h hh
def ls3 (x y z : Nat) : Nat → Nat
  | 0 => x
  | 1 => y
  | _ => z
def ps3 (p q r : Nat → Int) : Nat → Nat → Int
  | 0 => p
  | 1 => q
  | _ => r
def vs3 (p q r : Value) : Nat → Value
  | 0 => p
  | 1 => q
  | _ => r
theorem own_form {W : World} {B n : Nat} {v : Value} {xs : List Value} (h : W.ownsRow B 5 1 v n xs) : ∃ ao cap, v = .slice ao n cap := by
  rcases h.2 with ⟨e, e2⟩ | ⟨g, cap, cur, e, _⟩
  · exact ⟨none, 0, by rw [e, e2]⟩
  · exact ⟨_, _, e⟩
/-- A row of another type is no row of these. -/
theorem own_apart {W : World} {B n g : Nat} {v : Value} {xs : List Value} {cs : Array Value} {t : TypeId} (h : W.ownsRow B 5 1 v n xs) (hg : W.heap[g]? = some (.cells cs t)) (ht : t ≠ 5) : some g ≠ v.ownBlock := by
  rcases h.2 with ⟨rfl, _⟩ | ⟨g', cap, cur, rfl, _, hg', _⟩
  · simp [Value.ownBlock]
  · simp only [Value.ownBlock]
    intro e
    injection e with e
    subst e
    rw [hg] at hg'
    simp only [Option.some.injEq, Obj.cells.injEq] at hg'
    exact ht hg'.2.1
theorem sliceH (b h : Nat) (hh : h ≤ 32) (W : World) : (Instr.sliceAt 47 (.pointer (some ⟨b, 0, none⟩)) none (some (.int .i64 (h : Int))) none).run Tryd.prog W = .ok (.slice (some ⟨b, 0, none⟩) h 32) W := by
  simp [Instr.sliceAt, Instr.sureAddr, run_underlying Tryd.underlying47, Instr.sliceBounds, go_sem]
  intro h2
  omega
theorem sliceB_part {w : World} {g h : Nat} {f : Nat → Int} {t : TypeId} {fr : Nat × Nat} (hr : w.heap[g]? = some (.cells (tab8 32 f) t fr)) (hh : h ≤ 32) (hb : ∀ j, 0 ≤ f j ∧ f j < 256) : SliceB w (.slice (some ⟨g, 0, none⟩) h 32) h f := by
  refine ⟨⟨_, _, rfl, hh, by omega, fun _ => ⟨g, 0, rfl, (Array.getElem?_eq_some_iff.1 hr).1, fun j hj => ?_⟩⟩, fun j _ => hb j⟩
  rw [cell_of_row _ _ _ _ _ _ hr, Nat.zero_add]
  exact tab8_get 32 f j (by omega)

set_option maxRecDepth 20000 in
set_option maxHeartbeats 2000000 in
theorem expanded_any (a b : HS) (vi : Value) (li : Nat) (pi : Nat → Int) (n : Nat) (w : World) (hG : Glob w) (ha : a.ok) (hb : b.ok) (han : a.n = 64) (hbn : b.n = 64) (hli : li + 300 < 1152921504606846976) (hn : n ≤ 8160) (hi : SliceB w vi li pi) :
    Calls Tryd.prog 35 #[.agg (kc a b), vi, .int .i64 (n : Int)] w fun e w' => ∃ v', e = .returned v' ∧ w'.ownsRow w.heap.size 5 1 v' n (vals (firstL (eb a b pi li) n)) ∧ Below w.heap.size w w' := by
  obtain ⟨i5, hi1, hi2, hi3, hi4⟩ := info5
  obtain ⟨ai, ci, rfl, hx⟩ := hi.shape
  clear hx
  have HG : Hid (_) := hG
  have HA : Hid (_) := ha
  have HBo : Hid (_) := hb
  have HAn : Hid (_) := han
  have HBn : Hid (_) := hbn
  have HLI : Hid (_) := hli
  have HI : Hid (_) := hi
  have HNn : Hid (n ≤ 8160) := hn
  have I1 : Hid (_) := hi1
  have I2 : Hid (_) := hi2
  have I3 : Hid (_) := hi3
  have I4 : Hid (_) := hi4
  clear hG ha hb han hbn hli hi hn hi1 hi2 hi3 hi4
  go_enter Tryd.func35, Tryd.ntmps35
  have V0 : Hid ((w.alloc (.cells (kc a b) 61)).heap[w.heap.size]? = some (.cells (kc a b) 61)) := heap_alloc_new _ _
  have VB : Hid (Below w.heap.size w (w.alloc (.cells (kc a b) 61))) := (Below.refl _ _).alloc (Nat.le_refl _) _
  go_wp2_with (first
    | (refine isMake (.const (.int .i64 0)) (.tmp 11) rfl ?_; go_must (refine wpList_make_own (w.alloc (.cells (kc a b) 61)) rfl (.const (.int .i64 0)) (.tmp 11) 24 rfl (w.heap.size + 1) 5 i5 (.int .u8 0) 1 Tryd.underlying24 I1.out I2.out I3.out .i64 .i64 _ n rfl rfl (by first | rfl | omega | simp) (by rw [I4.out]; have := HNn.out; omega) (by have := HNn.out; unfold maxLen; omega) (by simp) ?_; intro w1 own1 grown1; simp only [Act.put, List.setIfInBounds_toArray, List.set_cons_succ, List.set_cons_zero]; have O1 : Hid (w1.ownsRow (w.heap.size + 1) 5 1 (.slice (some ⟨w.heap.size + 1, 0, none⟩) 0 n) 0 (vals [])) := (by have e : (w.alloc (.cells (kc a b) 61)).heap.size = w.heap.size + 1 := (by simp); rw [e] at own1; exact own1); have G1 : Hid (Below (w.heap.size + 1) (w.alloc (.cells (kc a b) 61)) w1) := (Below.refl _ _).grown grown1 (by simp) (fun k hk => by cases hk); have e1 : (w.alloc (.cells (kc a b) 61)).heap.size = w.heap.size + 1 := (by simp); rw [e1]; clear own1 grown1)))
  clear e1 I1 I2 I3 I4
  go_loopw [7, 8, 9] (fun v7 v8 v9 W => ∃ (c len : Nat) (a8 : Option Addr) (l8 c8 : Nat), v9 = .int .i64 ((c + 1 : Nat) : Int) ∧ ((len = 32 * c ∧ len ≤ n) ∨ (len = n ∧ n ≤ 32 * c)) ∧ v8 = .slice a8 l8 c8 ∧ l8 = (if c = 0 then 0 else 32) ∧ SliceB W (.slice a8 l8 c8) l8 (tk a b pi li c) ∧ W.ownsRow (w.heap.size + 1) 5 1 v7 len (vals (firstL (eb a b pi li) len)) ∧ Below (w.heap.size + 1) (w.alloc (.cells (kc a b) 61)) W) (fun v7 _ _ _ => n - lenOf v7)
  case atStart =>
    exact ⟨0, 0, none, 0, 0, rfl, Or.inl ⟨rfl, Nat.zero_le _⟩, rfl, rfl, ⟨⟨_, _, rfl, Nat.le_refl _, by omega, fun h => by omega⟩, fun j hj => by omega⟩, O1.out, G1.out⟩
  case round =>
    obtain ⟨c, len, a8, l8, c8, rfl, hlen, rfl, hl8, s8, own, bel⟩ := hrel
    obtain ⟨ao, cap, rfl⟩ := own_form own
    have O : Hid (wr.ownsRow (w.heap.size + 1) 5 1 (.slice ao len cap) len (vals (firstL (eb a b pi li) len))) := own
    have G : Hid (Below (w.heap.size + 1) (w.alloc (.cells (kc a b) 61)) wr) := bel
    have S8 : Hid (SliceB wr (.slice a8 l8 c8) l8 (tk a b pi li c)) := s8
    have HL8 : Hid (l8 = (if c = 0 then 0 else 32)) := hl8
    have HLN : Hid ((len = 32 * c ∧ len ≤ n) ∨ (len = n ∧ n ≤ 32 * c)) := hlen
    clear own bel s8 hl8 hlen O1 G1
    have BC : Hid (∀ W, Below (w.heap.size + 1) (w.alloc (.cells (kc a b) 61)) W → Below w.heap.size w W) := fun W h => VB.out.trans (h.mono (by omega))
    by_cases hlt : len < n
    · have i1 : (len : Int) < n := by omega
      have HC : Hid (len = 32 * c ∧ c < 255) := by
        have h1 := HLN.out
        have h2 := HNn.out
        show len = 32 * c ∧ c < 255
        omega
      have cvw : IntKind.u8.wrap ((c : Int) + 1) = (c : Int) + 1 := by have := HC.out.2; simp [IntKind.wrap, IntKind.bits, IntKind.signed]; omega
      have K0 : Hid (wr.heap[w.heap.size]? = some (.cells (kc a b) 61)) := by rw [G.out.block _ (by omega)]; exact V0.out
      go_wp2_with (first
        | (refine isLoad 61 (.tmp 3) rfl ?_; go_must (refine wpList_load_row rfl 61 (.tmp 3) rfl w.heap.size rfl 61 _ (0, 0) _ K0.out Tryd.underlying61 rfl (size52' _ _) ?_; simp only [Act.put, List.setIfInBounds_toArray, List.set_cons_succ, List.set_cons_zero])))
      have hz := heap2 wr (.cells #[.int .u8 ((c : Int) + 1)] 5) (.cells #[.slice a8 l8 c8, .slice ai li ci, .slice (some ⟨wr.heap.size, 0, none⟩) 1 1] 24)
      obtain ⟨X, hX⟩ : ∃ X, X = (wr.alloc (.cells #[.int .u8 ((c : Int) + 1)] 5)).alloc (.cells #[.slice a8 l8 c8, .slice ai li ci, .slice (some ⟨wr.heap.size, 0, none⟩) 1 1] 24) := ⟨_, rfl⟩
      rw [← hX] at hz
      have XB : Below wr.heap.size wr X := by rw [hX]; exact ((Below.refl _ _).alloc (Nat.le_refl _) _).alloc (by simp) _
      have XG : Below (w.heap.size + 1) (w.alloc (.cells (kc a b) 61)) X := G.out.trans (XB.mono (by have := G.out.size; simpa using this))
      have sC : SliceB X (.slice (some ⟨wr.heap.size, 0, none⟩) 1 1) 1 (fun _ => ((c + 1 : Nat) : Int)) := by
        refine ⟨⟨_, _, rfl, Nat.le_refl _, by omega, fun _ => ⟨_, _, rfl, (Array.getElem?_eq_some_iff.1 hz.1).1, fun j hj => ?_⟩⟩, fun j hj => ⟨by omega, by have := HC.out.2; omega⟩⟩
        obtain rfl : j = 0 := by omega
        rw [cell_of_row _ _ _ _ _ _ hz.1]
        simp
      have hp : Pieces X (.slice (some ⟨wr.heap.size + 1, 0, none⟩) 3 3) 3 (ls3 l8 li 1) (ps3 (tk a b pi li c) pi (fun _ => ((c + 1 : Nat) : Int))) :=
        ⟨wr.heap.size + 1, 0, 3, vs3 (.slice a8 l8 c8) (.slice ai li ci) (.slice (some ⟨wr.heap.size, 0, none⟩) 1 1), rfl, (Array.getElem?_eq_some_iff.1 hz.2).1, by omega, fun i hi => by
          have h3 : i = 0 ∨ i = 1 ∨ i = 2 := by omega
          rcases h3 with rfl | rfl | rfl
          · exact ⟨by rw [cell_of_row _ _ _ _ _ _ hz.2]; rfl, S8.out.below XB⟩
          · exact ⟨by rw [cell_of_row _ _ _ _ _ _ hz.2]; rfl, HI.out.below (BC.out _ XG)⟩
          · exact ⟨by rw [cell_of_row _ _ _ _ _ _ hz.2]; rfl, sC⟩⟩
      have eT : tagD (addAll a (ls3 l8 li 1) (ps3 (tk a b pi li c) pi (fun _ => ((c + 1 : Nat) : Int))) 3) b = tk a b pi li (c + 1) := by
        simp only [addAll, ls3, ps3, tk]
        rw [HL8.out]
      obtain ⟨D, hD⟩ : ∃ D, D = tk a b pi li (c + 1) := ⟨_, rfl⟩
      have hs := tag_any a b _ 3 _ _ X (HG.out.below (BC.out _ XG) HG.out.sz) HA.out HBo.out HBn.out (by rw [HAn.out]; simp only [totL, ls3]; have h1 := HLI.out; have h2 := HL8.out; split at h2 <;> omega) hp
      rw [eT, ← hD] at hs
      rw [← hX]
      refine hs.mono ?_
      rintro e w2 ⟨rfl, hb2⟩
      have O2 : Hid (w2.ownsRow (w.heap.size + 1) 5 1 (.slice ao len cap) len (vals (firstL (eb a b pi li) len))) := own_below (own_below O.out XB) hb2
      have G2 : Hid (Below (w.heap.size + 1) (w.alloc (.cells (kc a b) 61)) w2) := XG.trans (hb2.mono (by have := XG.size; simpa using this))
      have HD : Hid (_) := hD
      have DB : Hid (∀ j, 0 ≤ D j ∧ D j < 256) := by rw [hD]; exact tk_bd _ _ _ _ _
      clear hs eT hD hp sC hz XB XG hX hb2 O G S8 K0 cvw
      have z28 := zero28
      have s32 := slice32
      have wn : wrap64 ((n : Int) - (len : Int)) = (n : Int) - len := by have := HNn.out; simp [wrap64]; omega
      have wcn : wrap64 ((c : Int) + 1 + 1) = ((c + 1 + 1 : Nat) : Int) := by have := HC.out.2; simp [wrap64]; omega
      have WC : Hid (_) := wcn
      clear wcn
      by_cases hmin : n - len < 32
      · have m1 : (n : Int) - (len : Int) < 32 := by omega
        have HH : Hid (n - len ≤ 32) := by show n - len ≤ 32; omega
        have HHN : Hid (len + (n - len) = n ∧ 0 < n - len ∧ n - len < 32) := by show len + (n - len) = n ∧ 0 < n - len ∧ n - len < 32; omega
        have sh : ∀ (b : Nat) (W : World), (Instr.sliceAt 47 (.pointer (some ⟨b, 0, none⟩)) none (some (.int .i64 ((n : Int) - (len : Int)))) none).run Tryd.prog W = .ok (.slice (some ⟨b, 0, none⟩) (n - len) 32) W := fun b W => by
          have h := sliceH b (n - len) HH.out W
          rw [Int.natCast_sub (by omega)] at h
          exact h
        clear hmin
        go_wp2_with (first
          | (refine isStore 47 (.tmp 10) (.tmp 26) rfl ?_; go_must (refine wpList_store_row rfl 47 (.tmp 10) (.tmp 26) rfl w2.heap.size _ rfl rfl 47 _ (heap_alloc_new _ _) (size28' _) (by simp only [tab8_size]) (tab8_one _ _) ?_; rw [World.setRow_alloc_new]; simp only [Act.put]; obtain ⟨A, hA⟩ : ∃ G, G = w2.heap.size := ⟨_, rfl⟩; obtain ⟨V, hV⟩ : ∃ V, V = w2.alloc (.cells (tab8 32 D) 47) := ⟨_, rfl⟩; have VA : Hid (V.heap[A]? = some (.cells (tab8 32 D) 47)) := (by rw [hV, hA]; exact heap_alloc_new _ _); have O3 : Hid (V.ownsRow (w.heap.size + 1) 5 1 (.slice ao len cap) len (vals (firstL (eb a b pi li) len))) := (by rw [hV]; exact O2.out.alloc _); have G3 : Hid (Below (w.heap.size + 1) (w.alloc (.cells (kc a b) 61)) V) := (by rw [hV]; exact G2.out.alloc (by have := G2.out.size; simpa using this) _); rw [← hV, ← hA]; clear hV hA))
          | (refine isApp (.tmp 27) (.tmp 33) rfl ?_; go_must (refine wpList_appG (v := .slice ao len cap) (B := w.heap.size + 1) (l := firstL (eb a b pi li) len) (r := firstL D (n - len)) rfl (.tmp 27) (.tmp 33) rfl rfl rfl O3.out (firstL_len _ _) (src_of (sliceB_part VA.out HH.out DB.out) (fun e => by cases e)) (by have := HNn.out; have := HH.out; omega) (by have := G3.out.size; simpa using this) ?_; intro v5 w5 own5 gr5; rw [HD.out, eb_turn' _ _ _ _ _ _ _ HC.out.1 HH.out] at own5; simp only [Act.put, List.setIfInBounds_toArray, List.set_cons_succ, List.set_cons_zero]; have O5 : Hid (w5.ownsRow (w.heap.size + 1) 5 1 v5 (len + (n - len)) (vals (firstL (eb a b pi li) (len + (n - len))))) := own5; have G5 : Hid (Below (w.heap.size + 1) (w.alloc (.cells (kc a b) 61)) w5) := G3.out.grown gr5 (by have := G3.out.size; simpa using this) (fun k hk => (O3.out.lt k hk).1); have VA5 : Hid (w5.heap[A]? = some (.cells (tab8 32 D) 47)) := (by rw [gr5.block _ (Array.getElem?_eq_some_iff.1 VA.out).1 (own_apart O3.out VA.out (by decide))]; exact VA.out); clear own5 gr5)))
        obtain ⟨a5, cp5, hv5⟩ := own_form O5.out
        go_roundw
        case rel =>
          refine ⟨c + 1, len + (n - len), _, 32, 32, by rw [WC.out], ?_, rfl, by simp, ?_, O5.out, G5.out⟩
          · have h1 := HC.out; have h2 := HHN.out; omega
          · rw [← HD.out]; exact sliceB_row VA5.out (by omega) fun j _ => DB.out j
        case measure =>
          rw [hv5]
          simp only [lenOf]
          have h1 := HC.out; have h2 := HHN.out; omega
      · have m1 : ¬ (n : Int) - (len : Int) < 32 := by omega
        have HH : Hid (32 ≤ 32) := Nat.le_refl 32
        have HHN : Hid (len + 32 ≤ n) := by show len + 32 ≤ n; omega
        clear hmin
        go_wp2_with (first
          | (refine isStore 47 (.tmp 10) (.tmp 26) rfl ?_; go_must (refine wpList_store_row rfl 47 (.tmp 10) (.tmp 26) rfl w2.heap.size _ rfl rfl 47 _ (heap_alloc_new _ _) (size28' _) (by simp only [tab8_size]) (tab8_one _ _) ?_; rw [World.setRow_alloc_new]; simp only [Act.put]; obtain ⟨A, hA⟩ : ∃ G, G = w2.heap.size := ⟨_, rfl⟩; obtain ⟨V, hV⟩ : ∃ V, V = w2.alloc (.cells (tab8 32 D) 47) := ⟨_, rfl⟩; have VA : Hid (V.heap[A]? = some (.cells (tab8 32 D) 47)) := (by rw [hV, hA]; exact heap_alloc_new _ _); have O3 : Hid (V.ownsRow (w.heap.size + 1) 5 1 (.slice ao len cap) len (vals (firstL (eb a b pi li) len))) := (by rw [hV]; exact O2.out.alloc _); have G3 : Hid (Below (w.heap.size + 1) (w.alloc (.cells (kc a b) 61)) V) := (by rw [hV]; exact G2.out.alloc (by have := G2.out.size; simpa using this) _); rw [← hV, ← hA]; clear hV hA))
          | (refine isApp (.tmp 27) (.tmp 33) rfl ?_; go_must (refine wpList_appG (v := .slice ao len cap) (B := w.heap.size + 1) (l := firstL (eb a b pi li) len) (r := firstL D (32)) rfl (.tmp 27) (.tmp 33) rfl rfl rfl O3.out (firstL_len _ _) (src_of (sliceB_part VA.out HH.out DB.out) (fun e => by cases e)) (by have := HNn.out; have := HH.out; omega) (by have := G3.out.size; simpa using this) ?_; intro v5 w5 own5 gr5; rw [HD.out, eb_turn' _ _ _ _ _ _ _ HC.out.1 HH.out] at own5; simp only [Act.put, List.setIfInBounds_toArray, List.set_cons_succ, List.set_cons_zero]; have O5 : Hid (w5.ownsRow (w.heap.size + 1) 5 1 v5 (len + (32)) (vals (firstL (eb a b pi li) (len + (32))))) := own5; have G5 : Hid (Below (w.heap.size + 1) (w.alloc (.cells (kc a b) 61)) w5) := G3.out.grown gr5 (by have := G3.out.size; simpa using this) (fun k hk => (O3.out.lt k hk).1); have VA5 : Hid (w5.heap[A]? = some (.cells (tab8 32 D) 47)) := (by rw [gr5.block _ (Array.getElem?_eq_some_iff.1 VA.out).1 (own_apart O3.out VA.out (by decide))]; exact VA.out); clear own5 gr5)))
        obtain ⟨a5, cp5, hv5⟩ := own_form O5.out
        go_roundw
        case rel =>
          refine ⟨c + 1, len + (32), _, 32, 32, by rw [WC.out], ?_, rfl, by simp, ?_, O5.out, G5.out⟩
          · have h1 := HC.out; have h2 := HHN.out; omega
          · rw [← HD.out]; exact sliceB_row VA5.out (by omega) fun j _ => DB.out j
        case measure =>
          rw [hv5]
          simp only [lenOf]
          have h1 := HC.out; have h2 := HHN.out; omega
    · have eln : len = n := by have := HLN.out; omega
      subst eln
      go_wp2
      go_ret
      exact ⟨_, rfl, O.out.mono (by omega), BC.out _ G.out⟩
end Go.Proofs.YtaiiomoajjhliaaDoor

namespace Go.Proofs.YtaiiomoajjhliaaDoor
open Go.RowKit

/-- Expand's error, and how many bytes it gives. -/
def expE (n : Int) : Int := if n < 0 then 2 else if n > 8160 then 1 else 0
def expN (n : Int) : Nat := if n < 0 then 0 else if n > 8160 then 0 else n.toNat
/-- The expansion by a key. -/
def ebK (pk : Nat → Int) (lk : Nat) (pi : Nat → Int) (li : Nat) : Nat → Int := eb (inS pk lk) (outS pk lk) pi li
set_option maxHeartbeats 800000 in
theorem mexpand_any (vk vi : Value) (lk li : Nat) (pk pi : Nat → Int) (n : Int) (w : World) (hG : Glob w) (hk : lk < 1152921504606846976) (hli : li + 300 < 1152921504606846976) (h1 : SliceB w vk lk pk) (h2 : SliceB w vi li pi) :
    Calls Tryd.prog 23 #[vk, vi, .int .i64 n] w fun e w' => ∃ v', e = .returned (.tuple #[v', .int .i64 (expE n)]) ∧ w'.ownsRow w.heap.size 5 1 v' (expN n) (vals (firstL (ebK pk lk pi li) (expN n))) ∧ Below w.heap.size w w' := by
  have HG : Hid (_) := hG
  have HK : Hid (_) := hk
  have HL : Hid (_) := hli
  have H1 : Hid (_) := h1
  have H2 : Hid (_) := h2
  clear hG hk hli h1 h2
  by_cases hn : n < 0
  · go_enter Tryd.func23, Tryd.ntmps23
    go_wp2
    go_ret2
    refine ⟨.slice none 0 0, ?_, ?_, Below.refl _ _⟩
    · unfold expE; rw [if_pos hn]; rfl
    · unfold expN; rw [if_pos hn]; exact World.ownsRow_nil _ _ _ _
  · by_cases hm : n > 8160
    · go_enter Tryd.func23, Tryd.ntmps23
      go_wp2
      go_ret2
      refine ⟨.slice none 0 0, ?_, ?_, Below.refl _ _⟩
      · unfold expE; rw [if_neg (by omega), if_pos hm]; rfl
      · unfold expN; rw [if_neg (by omega), if_pos hm]; exact World.ownsRow_nil _ _ _ _
    · obtain ⟨k, rfl⟩ : ∃ k : Nat, n = (k : Int) := ⟨n.toNat, by omega⟩
      have HE : Hid (expE (k : Int) = 0 ∧ expN (k : Int) = k ∧ k ≤ 8160) := by
        show expE (k : Int) = 0 ∧ expN (k : Int) = k ∧ k ≤ 8160
        unfold expE expN
        rw [if_neg hn, if_neg hn, if_neg hm, if_neg hm]
        exact ⟨rfl, by omega, by omega⟩
      go_enter Tryd.func23, Tryd.ntmps23
      go_wp2_with fail
      refine (keyedBy_any vk lk pk w HG.out HK.out H1.out).mono ?_
      rintro e w1 ⟨rfl, hb1⟩
      have W1 : Hid (Below w.heap.size w w1) := hb1
      clear hb1
      go_wp2_with fail
      refine (expanded_any (inS pk lk) (outS pk lk) vi li pi k w1 (HG.out.below W1.out HG.out.sz) (ok_inS _ _) (ok_outS _ _) (inS_n _ _) (outS_n _ _) HL.out HE.out.2.2 (H2.out.below W1.out)).mono ?_
      rintro e w2 ⟨v', rfl, own2, hb2⟩
      have O2 : Hid (w2.ownsRow w.heap.size 5 1 v' k (vals (firstL (ebK pk lk pi li) k))) := own2.mono W1.out.size
      have W2 : Hid (Below w.heap.size w w2) := W1.out.trans (hb2.mono W1.out.size)
      clear own2 hb2 W1
      go_wp2
      go_ret2
      refine ⟨v', ?_, ?_, W2.out⟩
      · rw [HE.out.1]; rfl
      · rw [HE.out.2.1]; exact O2.out
end Go.Proofs.YtaiiomoajjhliaaDoor

namespace Go.Proofs.YtaiiomoajjhliaaDoor
open Go.RowKit

/-- A list whose row, if it has one, was laid from B on and is of bytes. -/
def FrB (B : Nat) (W : World) (v : Value) : Prop := ∀ (ad : Addr) (n c : Nat), v = .slice (some ad) n c → B ≤ ad.block ∧ ∃ cur, W.heap[ad.block]? = some (.cells cur 5)
theorem FrB.le {B C : Nat} {W : World} {v : Value} (h : FrB B W v) (hc : C ≤ B) : FrB C W v := fun ad n c e => ⟨Nat.le_trans hc (h ad n c e).1, (h ad n c e).2⟩
end Go.Proofs.YtaiiomoajjhliaaDoor

namespace Go.Proofs.YtaiiomoajjhliaaDoor
open Go.RowKit

/-- The key that Derive takes. -/
def exK (ps : Nat → Int) (ls : Nat) (pt : Nat → Int) (lt : Nat) : Nat → Int := tagV pt lt ps ls

set_option maxHeartbeats 800000 in
theorem mderive_any (vs vt vi : Value) (ls lt li : Nat) (ps pt pi : Nat → Int) (n : Int) (w : World) (hG : Glob w) (hs : ls + 64 < 1152921504606846976) (ht : lt < 1152921504606846976) (hli : li + 300 < 1152921504606846976) (h0 : SliceB w vs ls ps) (h1 : SliceB w vt lt pt) (h2 : SliceB w vi li pi) :
    Calls Tryd.prog 9 #[vs, vt, vi, .int .i64 n] w fun e w' => ∃ v', e = .returned (.tuple #[v', .int .i64 (expE n)]) ∧ w'.ownsRow w.heap.size 5 1 v' (expN n) (vals (firstL (ebK (exK ps ls pt lt) 32 pi li) (expN n))) ∧ Below w.heap.size w w' := by
  have HG : Hid (_) := hG
  have HS' : Hid (_) := hs
  have HT : Hid (_) := ht
  have HL : Hid (_) := hli
  have H0 : Hid (_) := h0
  have H1 : Hid (_) := h1
  have H2 : Hid (_) := h2
  clear hG hs ht hli h0 h1 h2
  have z28 := zero28
  have s32 := slice32
  go_enter Tryd.func9, Tryd.ntmps9
  go_wp2_with fail
  obtain ⟨D, hD⟩ : ∃ D, D = exK ps ls pt lt := ⟨_, rfl⟩
  have hr := mextract_any vt vs lt ls pt ps w HG.out HT.out HS'.out H1.out H0.out
  have eD : tagV pt lt ps ls = D := by rw [hD]; rfl
  rw [eD] at hr
  refine hr.mono ?_
  rintro e w1 ⟨rfl, hb1⟩
  have W1 : Hid (Below w.heap.size w w1) := hb1
  have HD : Hid (_) := hD
  have DB : Hid (∀ j, 0 ≤ D j ∧ D j < 256) := by rw [hD]; exact sumD_bd _
  clear hr eD hD hb1
  go_wp2_with (first
    | (refine isStore 47 (.tmp 10) (.tmp 13) rfl ?_; go_must (refine wpList_store_row rfl 47 (.tmp 10) (.tmp 13) rfl w1.heap.size _ rfl rfl 47 _ (heap_alloc_new _ _) (size28' _) (by simp only [tab8_size]) (tab8_one _ _) ?_; rw [World.setRow_alloc_new]; simp only [Act.put]; obtain ⟨A, hA⟩ : ∃ G, G = w1.heap.size := ⟨_, rfl⟩; obtain ⟨V, hV⟩ : ∃ V, V = w1.alloc (.cells (tab8 32 D) 47) := ⟨_, rfl⟩; have VA : Hid (V.heap[A]? = some (.cells (tab8 32 D) 47)) := (by rw [hV, hA]; exact heap_alloc_new _ _); have W2 : Hid (Below w.heap.size w V) := (by rw [hV]; exact W1.out.alloc W1.out.size _); rw [← hV, ← hA]; clear hV hA)))
  have hr := mexpand_any _ vi 32 li D pi n V (HG.out.below W2.out HG.out.sz) (by omega) HL.out (sliceB_row VA.out (by omega) fun j _ => DB.out j) (H2.out.below W2.out)
  rw [HD.out] at hr
  refine hr.mono ?_
  rintro e w3 ⟨v', rfl, own3, hb3⟩
  have O3 : Hid (_) := own3.mono W2.out.size
  have W3 : Hid (Below w.heap.size w w3) := W2.out.trans (hb3.mono W2.out.size)
  clear hr own3 hb3 VA W2
  go_wp2
  go_ret2
  exact ⟨v', rfl, O3.out, W3.out⟩

end Go.Proofs.YtaiiomoajjhliaaDoor
