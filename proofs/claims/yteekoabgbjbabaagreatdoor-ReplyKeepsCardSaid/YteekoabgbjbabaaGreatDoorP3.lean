import Derived.Test.YteekoabgbjbabaaGreatDoorN5
namespace Go.Proofs.YteekoabgbjbabaaGreatDoor
open Go.RowKit

/-- Expand's error, and how many bytes it gives. -/
def expE (n : Int) : Int := if n < 0 then 2 else if n > 8160 then 1 else 0
def expN (n : Int) : Nat := if n < 0 then 0 else if n > 8160 then 0 else n.toNat
/-- The expansion by a key. -/
def ebK (pk : Nat → Int) (lk : Nat) (pi : Nat → Int) (li : Nat) : Nat → Int := eb (inS pk lk) (outS pk lk) pi li
set_option maxHeartbeats 800000 in
theorem mexpand_any (vk vi : Value) (lk li : Nat) (pk pi : Nat → Int) (n : Int) (w : World) (hG : Glob w) (hk : lk < 1152921504606846976) (hli : li + 300 < 1152921504606846976) (h1 : SliceB w vk lk pk) (h2 : SliceB w vi li pi) :
    Calls Tryz.prog 29 #[vk, vi, .int .i64 n] w fun e w' => ∃ v', e = .returned (.tuple #[v', .int .i64 (expE n)]) ∧ w'.ownsRow w.heap.size 5 1 v' (expN n) (vals (firstL (ebK pk lk pi li) (expN n))) ∧ Below w.heap.size w w' := by
  have HG : Hid (_) := hG
  have HK : Hid (_) := hk
  have HL : Hid (_) := hli
  have H1 : Hid (_) := h1
  have H2 : Hid (_) := h2
  clear hG hk hli h1 h2
  by_cases hn : n < 0
  · go_enter Tryz.func29, Tryz.ntmps29
    go_wp2
    go_ret2
    refine ⟨.slice none 0 0, ?_, ?_, Below.refl _ _⟩
    · unfold expE; rw [if_pos hn]; rfl
    · unfold expN; rw [if_pos hn]; exact World.ownsRow_nil _ _ _ _
  · by_cases hm : n > 8160
    · go_enter Tryz.func29, Tryz.ntmps29
      go_wp2
      go_ret2
      refine ⟨.slice none 0 0, ?_, ?_, Below.refl _ _⟩
      · unfold expE; rw [if_neg (by omega), if_pos hm]; rfl
      · unfold expN; rw [if_neg (by omega), if_pos hm]; exact World.ownsRow_nil _ _ _ _
    · obtain ⟨k, rfl⟩ : ∃ k : Nat, n = (k : Int) := ⟨n.toNat, by omega⟩
      have HE : Hid (expE (k : Int) = 0 ∧ expN (k : Int) = k ∧ k ≤ 8160) := by
        show expE (k : Int) = 0 ∧ expN (k : Int) = k ∧ k ≤ 8160
        unfold expE expN
        rw [if_neg hn, if_neg hn, if_neg hm, if_neg hm]
        exact ⟨rfl, by omega, by omega⟩
      go_enter Tryz.func29, Tryz.ntmps29
      go_wp2_with fail
      refine (keyedBy_any vk lk pk w HG.out HK.out H1.out).mono ?_
      rintro e w1 ⟨rfl, hb1⟩
      have W1 : Hid (Below w.heap.size w w1) := hb1
      clear hb1
      go_wp2_with fail
      refine (expanded_any (inS pk lk) (outS pk lk) vi li pi k w1 (HG.out.below W1.out HG.out.sz) (ok_inS _ _) (ok_outS _ _) (inS_n _ _) (outS_n _ _) HL.out HE.out.2.2 (H2.out.below W1.out)).mono ?_
      rintro e w2 ⟨v', rfl, own2, hb2⟩
      have O2 : Hid (w2.ownsRow w.heap.size 5 1 v' k (vals (firstL (ebK pk lk pi li) k))) := own2.mono W1.out.size
      have W2 : Hid (Below w.heap.size w w2) := W1.out.trans (hb2.mono W1.out.size)
      clear own2 hb2 W1
      go_wp2
      go_ret2
      refine ⟨v', ?_, ?_, W2.out⟩
      · rw [HE.out.1]; rfl
      · rw [HE.out.2.1]; exact O2.out
end Go.Proofs.YteekoabgbjbabaaGreatDoor

namespace Go.Proofs.YteekoabgbjbabaaGreatDoor
open Go.RowKit

theorem slice3 (ao : Option Addr) (len cap n : Nat) (h1 : n ≤ cap) (W : World) : (Instr.sliceAt 24 (.slice ao len cap) none (some (.int .i64 (n : Int))) (some (.int .i64 (n : Int)))).run Tryz.prog W = .ok (.slice ao n n) W := by
  have e1 : (n : Int) ≤ cap := by omega
  have s5 := size5'
  cases ao with
  | none => simp [Instr.sliceAt, Instr.slice, run_underlying Tryz.underlying24, Instr.sliceBounds, run_sliceBound, h1, s5]
  | some ad => simp [Instr.sliceAt, Instr.slice, run_underlying Tryz.underlying24, Instr.sliceBounds, run_sliceBound, h1, s5, Addr.add]
/-- A list whose row, if it has one, was laid from B on and is of bytes. -/
def FrB (B : Nat) (W : World) (v : Value) : Prop := ∀ (ad : Addr) (n c : Nat), v = .slice (some ad) n c → B ≤ ad.block ∧ ∃ cur, W.heap[ad.block]? = some (.cells cur 5)
theorem fr_nil {B n c : Nat} {W : World} : FrB B W (.slice none n c) := fun _ _ _ e => by cases e
theorem fr_own {B len cap k c : Nat} {W : World} {ao : Option Addr} {xs : List Value} (h : W.ownsRow B 5 1 (.slice ao len cap) len xs) : FrB B W (.slice ao k c) := fun ad n c e => by
  injection e with e1
  subst e1
  rcases h.2 with ⟨q, _⟩ | ⟨g, _, cur, q, hB, hg, _⟩
  · cases q
  · injection q with q1
    injection q1 with q2
    subst q2
    exact ⟨hB, cur, hg⟩
theorem FrB.le {B C : Nat} {W : World} {v : Value} (h : FrB B W v) (hc : C ≤ B) : FrB C W v := fun ad n c e => ⟨Nat.le_trans hc (h ad n c e).1, (h ad n c e).2⟩
/-- An empty list that the call laid. -/
theorem own_empty (W : World) : (W.alloc (.cells #[] 5)).ownsRow W.heap.size 5 1 (.slice (some ⟨W.heap.size, 0, none⟩) 0 0) 0 (vals []) :=
  ⟨by simp [vals], Or.inr ⟨W.heap.size, 0, #[], rfl, Nat.le_refl _, heap_alloc_new _ _, Nat.le_refl _, by unfold maxLen; omega, by simp, by simp [vals]⟩⟩
theorem tk_msg (pk : Nat → Int) (lk : Nat) (pi : Nat → Int) (li c l8 : Nat) (h : l8 = if c = 0 then 0 else 32) :
    tagV pk lk (cat (cat (tk (inS pk lk) (outS pk lk) pi li c) l8 pi) (l8 + li) (fun _ => ((c + 1 : Nat) : Int))) (l8 + li + 1) = tk (inS pk lk) (outS pk lk) pi li (c + 1) := by
  unfold tagV
  rw [addN_cat, addN_cat, h]
  simp only [tk]
theorem one_firstL (z : Int) : [z] = firstL (fun _ => z) 1 := rfl

set_option maxRecDepth 20000 in
set_option maxHeartbeats 2000000 in
theorem rexpand_fr (vk vi : Value) (lk li : Nat) (pk pi : Nat → Int) (n : Int) (w : World) (hk : lk + 200 ≤ 140737488355328) (hli : li + 600 ≤ 140737488355328) (h1 : SliceB w vk lk pk) (h2 : SliceB w vi li pi)
    (hn1 : ∀ cap, vk = .slice none lk cap → cap = 0) (hn2 : ∀ cap, vi = .slice none li cap → cap = 0) :
    Calls Tryz.prog 48 #[vk, vi, .int .i64 n] w fun e w' => ∃ v', e = .returned (.tuple #[v', .int .i64 (expE n)]) ∧ SliceB w' v' (expN n) (ebK pk lk pi li) ∧ FrB w.heap.size w' v' ∧ Below w.heap.size w w' := by
  obtain ⟨ai, ci, rfl, hx⟩ := h2.shape
  clear hx
  have HK : Hid (_) := hk
  have HLI : Hid (_) := hli
  have H1 : Hid (_) := h1
  have H2 : Hid (_) := h2
  have N1 : Hid (_) := hn1
  have N2 : Hid (ai = none → ci = 0) := fun e => hn2 ci (by rw [e])
  clear hk hli h1 h2 hn1 hn2
  have nilB : Hid (∀ W f, SliceB W (.slice none 0 0) 0 f) := fun W f => ⟨⟨_, _, rfl, Nat.le_refl _, by omega, fun h => by omega⟩, fun j hj => by omega⟩
  by_cases hn : n < 0
  · go_enter Tryz.func48, Tryz.ntmps48
    go_wp2
    go_ret2
    refine ⟨.slice none 0 0, ?_, ?_, fr_nil, Below.refl _ _⟩
    · unfold expE; rw [if_pos hn]; rfl
    · unfold expN; rw [if_pos hn]; exact nilB.out _ _
  · by_cases hm : n > 8160
    · go_enter Tryz.func48, Tryz.ntmps48
      go_wp2
      go_ret2
      refine ⟨.slice none 0 0, ?_, ?_, fr_nil, Below.refl _ _⟩
      · unfold expE; rw [if_neg (by omega), if_pos hm]; rfl
      · unfold expN; rw [if_neg (by omega), if_pos hm]; exact nilB.out _ _
    · obtain ⟨k, rfl⟩ : ∃ k : Nat, n = (k : Int) := ⟨n.toNat, by omega⟩
      have HE : Hid (expE (k : Int) = 0 ∧ expN (k : Int) = k ∧ k ≤ 8160) := by
        show expE (k : Int) = 0 ∧ expN (k : Int) = k ∧ k ≤ 8160
        unfold expE expN
        rw [if_neg hn, if_neg hn, if_neg hm, if_neg hm]
        exact ⟨rfl, by omega, by omega⟩
      go_enter Tryz.func48, Tryz.ntmps48
      go_wp2
      go_loopw [8, 9, 10] (fun v8 v9 v10 W => ∃ (c len : Nat) (a8 : Option Addr) (l8 c8 : Nat), v10 = .int .i64 ((c + 1 : Nat) : Int) ∧ len = 32 * c ∧ c ≤ 255 ∧ v9 = .slice a8 l8 c8 ∧ (a8 = none → c8 = 0) ∧ l8 = (if c = 0 then 0 else 32) ∧ SliceB W (.slice a8 l8 c8) l8 (tk (inS pk lk) (outS pk lk) pi li c) ∧ W.ownsRow w.heap.size 5 1 v8 len (vals (firstL (ebK pk lk pi li) len)) ∧ Below w.heap.size w W) (fun v8 _ _ _ => k - lenOf v8)
      case atStart =>
        exact ⟨0, 0, none, 0, 0, rfl, rfl, by omega, rfl, fun _ => rfl, rfl, nilB.out _ _, World.ownsRow_nil _ _ _ _, Below.refl _ _⟩
      case round =>
        obtain ⟨c, len, a8, l8, c8, rfl, hlen, hc255, rfl, hnil8, hl8, s8, own, bel⟩ := hrel
        obtain ⟨ao, cap, rfl⟩ := own_form own
        have O : Hid (wr.ownsRow w.heap.size 5 1 (.slice ao len cap) len (vals (firstL (ebK pk lk pi li) len))) := own
        have G : Hid (Below w.heap.size w wr) := bel
        have S8 : Hid (SliceB wr (.slice a8 l8 c8) l8 (tk (inS pk lk) (outS pk lk) pi li c)) := s8
        have N8 : Hid (a8 = none → c8 = 0) := hnil8
        have HL8 : Hid (l8 = (if c = 0 then 0 else 32)) := hl8
        have HLE8 : Hid (l8 ≤ 32) := by show l8 ≤ 32; rw [hl8]; split <;> omega
        have HLN : Hid (len = 32 * c ∧ c ≤ 255) := ⟨hlen, hc255⟩
        clear own bel s8 hl8 hlen hc255 hnil8
        by_cases hlt : len < k
        · have i1 : (len : Int) < k := by omega
          have HC : Hid (c < 255) := by
            have h1 := HLN.out
            have h2 := HE.out.2.2
            show c < 255
            omega
          have cvw : IntKind.u8.wrap ((c : Int) + 1) = (c : Int) + 1 := by have := HC.out; simp [IntKind.wrap, IntKind.bits, IntKind.signed]; omega
          have E0 : Hid ((wr.alloc (.cells #[] 5)).ownsRow wr.heap.size 5 1 (.slice (some ⟨wr.heap.size, 0, none⟩) 0 0) 0 (vals [])) := own_empty wr
          have F0 : Hid (Below wr.heap.size wr (wr.alloc (.cells #[] 5))) := (Below.refl _ _).alloc (Nat.le_refl _) _
          go_wp2_with (first
            | (refine isApp (.tmp 23) (.tmp 24) rfl ?_; go_must (refine wpList_appS (B := wr.heap.size) (l := []) (r := firstL (tk (inS pk lk) (outS pk lk) pi li c) l8) (w0 := wr) rfl (.tmp 23) (.tmp 24) rfl rfl rfl E0.out (firstL_len _ _) (src_of (S8.out.below F0.out) N8.out) (by have := HLE8.out; omega) F0.out F0.out.size ?_; intro v1 w1 own1 bel1 sz1; simp only [List.nil_append, Nat.zero_add] at own1; simp only [Act.put, List.setIfInBounds_toArray, List.set_cons_succ, List.set_cons_zero]; have E1 : Hid (w1.ownsRow wr.heap.size 5 1 v1 l8 (vals (firstL (tk (inS pk lk) (outS pk lk) pi li c) l8))) := own1; have F1 : Hid (Below wr.heap.size wr w1) := bel1; clear own1 bel1 sz1))
            | (refine isApp (.tmp 25) (.tmp 26) rfl ?_; go_must (refine wpList_appS (B := wr.heap.size) (l := firstL (tk (inS pk lk) (outS pk lk) pi li c) l8) (r := firstL pi li) (w0 := wr) rfl (.tmp 25) (.tmp 26) rfl rfl rfl E1.out (firstL_len _ _) (src_of (H2.out.below (G.out.trans (F1.out.mono G.out.size))) N2.out) (by have := HLE8.out; have := HLI.out; omega) F1.out F1.out.size ?_; intro v2 w2 own2 bel2 sz2; rw [firstL_cat] at own2; simp only [Act.put, List.setIfInBounds_toArray, List.set_cons_succ, List.set_cons_zero]; have E2 : Hid (w2.ownsRow wr.heap.size 5 1 v2 (l8 + li) (vals (firstL (cat (tk (inS pk lk) (outS pk lk) pi li c) l8 pi) (l8 + li)))) := own2; have F2 : Hid (Below wr.heap.size wr w2) := bel2; clear own2 bel2 sz2))
            | (refine isApp (.tmp 27) (.tmp 30) rfl ?_; go_must (refine wpList_app (B := wr.heap.size) (l := firstL (cat (tk (inS pk lk) (outS pk lk) pi li c) l8 pi) (l8 + li)) (r := [(c : Int) + 1]) (w0 := wr) rfl (.tmp 27) (.tmp 30) rfl rfl rfl (E2.out.alloc _) rfl (src_one w2 _) (by have := HLE8.out; have := HLI.out; omega) (F2.out.alloc F2.out.size _) (by have := F2.out.size; simp; omega) ?_; intro v3 w3 own3 bel3 sz3; rw [one_firstL, firstL_cat] at own3; simp only [Act.put, List.setIfInBounds_toArray, List.set_cons_succ, List.set_cons_zero]; have E3 : Hid (w3.ownsRow wr.heap.size 5 1 v3 (l8 + li + 1) (vals (firstL (cat (cat (tk (inS pk lk) (outS pk lk) pi li c) l8 pi) (l8 + li) (fun _ => ((c + 1 : Nat) : Int))) (l8 + li + 1)))) := (by rw [Int.natCast_add]; exact own3); have F3 : Hid (Below wr.heap.size wr w3) := bel3; clear own3 bel3 sz3)))
          obtain ⟨D, hD⟩ : ∃ D, D = tk (inS pk lk) (outS pk lk) pi li (c + 1) := ⟨_, rfl⟩
          have GW : Hid (Below w.heap.size w w3) := G.out.trans (F3.out.mono G.out.size)
          have bd : ∀ j, j < l8 + li + 1 → 0 ≤ cat (cat (tk (inS pk lk) (outS pk lk) pi li c) l8 pi) (l8 + li) (fun _ => ((c + 1 : Nat) : Int)) j ∧ cat (cat (tk (inS pk lk) (outS pk lk) pi li c) l8 pi) (l8 + li) (fun _ => ((c + 1 : Nat) : Int)) j < 256 :=
            cat_bd (cat_bd (fun j _ => tk_bd _ _ _ _ _ j) H2.out.bytes) (fun j _ => ⟨by omega, by have := HC.out; omega⟩)
          have hs := rtag_any vk v3 lk (l8 + li + 1) pk _ w3 HK.out (by have := HLE8.out; have := HLI.out; omega) (H1.out.below GW.out) (sliceB_own E3.out bd) N1.out (own_nil E3.out)
          rw [tk_msg pk lk pi li c l8 HL8.out, ← hD] at hs
          refine hs.mono ?_
          rintro e w4 ⟨rfl, hb4⟩
          have O4 : Hid (w4.ownsRow w.heap.size 5 1 (.slice ao len cap) len (vals (firstL (ebK pk lk pi li) len))) := own_below (own_below O.out F3.out) hb4
          have G4 : Hid (Below w.heap.size w w4) := GW.out.trans (hb4.mono GW.out.size)
          have HD : Hid (_) := hD
          have DB : Hid (∀ j, 0 ≤ D j ∧ D j < 256) := by rw [hD]; exact tk_bd _ _ _ _ _
          clear hs bd hD hb4 E0 E1 E2 E3 F0 F1 F2 F3 O G GW S8 N8 cvw
          have z28 := zero28
          have s32 := slice32
          have wcn : wrap64 ((c : Int) + 1 + 1) = ((c + 1 + 1 : Nat) : Int) := by have := HC.out; simp [wrap64]; omega
          have WC : Hid (_) := wcn
          clear wcn
          go_wp2_with (first
            | (refine isStore 54 (.tmp 11) (.tmp 32) rfl ?_; go_must (refine wpList_store_row rfl 54 (.tmp 11) (.tmp 32) rfl w4.heap.size _ rfl rfl 54 _ (heap_alloc_new _ _) (size28' _) (by simp only [tab8_size]) (tab8_one _ _) ?_; rw [World.setRow_alloc_new]; simp only [Act.put]; obtain ⟨A, hA⟩ : ∃ G, G = w4.heap.size := ⟨_, rfl⟩; obtain ⟨V, hV⟩ : ∃ V, V = w4.alloc (.cells (tab8 32 D) 54) := ⟨_, rfl⟩; have VA : Hid (V.heap[A]? = some (.cells (tab8 32 D) 54)) := (by rw [hV, hA]; exact heap_alloc_new _ _); have O5 : Hid (V.ownsRow w.heap.size 5 1 (.slice ao len cap) len (vals (firstL (ebK pk lk pi li) len))) := (by rw [hV]; exact O4.out.alloc _); have G5 : Hid (Below w.heap.size w V) := (by rw [hV]; exact G4.out.alloc G4.out.size _); rw [← hV, ← hA]; clear hV hA))
            | (refine isApp (.tmp 34) (.tmp 35) rfl ?_; go_must (refine wpList_appG (v := .slice ao len cap) (B := w.heap.size) (l := firstL (ebK pk lk pi li) len) (r := firstL D 32) rfl (.tmp 34) (.tmp 35) rfl rfl rfl O5.out (firstL_len _ _) (src_of (sliceB_row VA.out (by omega) fun j _ => DB.out j) (fun e => by cases e)) (by have := HE.out.2.2; have := HLN.out; omega) G5.out.size ?_; intro v6 w6 own6 gr6; rw [HD.out, ebK, eb_turn' _ _ _ _ _ _ _ HLN.out.1 (Nat.le_refl _)] at own6; simp only [Act.put, List.setIfInBounds_toArray, List.set_cons_succ, List.set_cons_zero]; have O6 : Hid (w6.ownsRow w.heap.size 5 1 v6 (len + 32) (vals (firstL (ebK pk lk pi li) (len + 32)))) := own6; have G6 : Hid (Below w.heap.size w w6) := G5.out.grown gr6 G5.out.size (fun k hk => (O5.out.lt k hk).1); have VA6 : Hid (w6.heap[A]? = some (.cells (tab8 32 D) 54)) := (by rw [gr6.block _ (Array.getElem?_eq_some_iff.1 VA.out).1 (own_apart O5.out VA.out (by decide))]; exact VA.out); clear own6 gr6)))
          obtain ⟨a5, cp5, hv5⟩ := own_form O6.out
          go_roundw
          case rel =>
            refine ⟨c + 1, len + 32, _, 32, 32, by rw [WC.out], ?_, ?_, rfl, (fun e => by cases e), by simp, ?_, O6.out, G6.out⟩
            · have h1 := HLN.out; omega
            · have h1 := HC.out; omega
            · rw [← HD.out]; exact sliceB_row VA6.out (by omega) fun j _ => DB.out j
          case measure =>
            rw [hv5]
            simp only [lenOf]
            omega
        · have hcap : Hid (k ≤ cap) := by
            show k ≤ cap
            obtain ⟨ao', cap', e, h1, _⟩ := (sliceB_own O.out (fun j _ => eb_bd _ _ _ _ j)).shape
            cases e
            omega
          have s3 := slice3 ao len cap k hcap.out
          go_wp2
          go_ret2
          refine ⟨.slice ao k k, ?_, ?_, fr_own O.out, G.out⟩
          · rw [HE.out.1]; rfl
          · rw [HE.out.2.1]
            have h := sliceB_own O.out (fun j _ => eb_bd _ _ _ _ j)
            obtain ⟨⟨ao', cap', e, h1, h2, h3⟩, h4⟩ := h
            cases e
            exact ⟨⟨ao, k, rfl, Nat.le_refl _, by omega, fun h0 => by
              obtain ⟨b, off, e, hb, hc⟩ := h3 (by omega)
              exact ⟨b, off, e, hb, fun j hj => hc j (by omega)⟩⟩, fun j hj => h4 j (by omega)⟩
end Go.Proofs.YteekoabgbjbabaaGreatDoor

namespace Go.Proofs.YteekoabgbjbabaaGreatDoor
open Go.RowKit

/-- The key that Derive takes. -/
def exK (ps : Nat → Int) (ls : Nat) (pt : Nat → Int) (lt : Nat) : Nat → Int := tagV pt lt ps ls

set_option maxHeartbeats 800000 in
theorem mderive_any (vs vt vi : Value) (ls lt li : Nat) (ps pt pi : Nat → Int) (n : Int) (w : World) (hG : Glob w) (hs : ls + 64 < 1152921504606846976) (ht : lt < 1152921504606846976) (hli : li + 300 < 1152921504606846976) (h0 : SliceB w vs ls ps) (h1 : SliceB w vt lt pt) (h2 : SliceB w vi li pi) :
    Calls Tryz.prog 20 #[vs, vt, vi, .int .i64 n] w fun e w' => ∃ v', e = .returned (.tuple #[v', .int .i64 (expE n)]) ∧ w'.ownsRow w.heap.size 5 1 v' (expN n) (vals (firstL (ebK (exK ps ls pt lt) 32 pi li) (expN n))) ∧ Below w.heap.size w w' := by
  have HG : Hid (_) := hG
  have HS' : Hid (_) := hs
  have HT : Hid (_) := ht
  have HL : Hid (_) := hli
  have H0 : Hid (_) := h0
  have H1 : Hid (_) := h1
  have H2 : Hid (_) := h2
  clear hG hs ht hli h0 h1 h2
  have z28 := zero28
  have s32 := slice32
  go_enter Tryz.func20, Tryz.ntmps20
  go_wp2_with fail
  obtain ⟨D, hD⟩ : ∃ D, D = exK ps ls pt lt := ⟨_, rfl⟩
  have hr := mextract_any vt vs lt ls pt ps w HG.out HT.out HS'.out H1.out H0.out
  have eD : tagV pt lt ps ls = D := by rw [hD]; rfl
  rw [eD] at hr
  refine hr.mono ?_
  rintro e w1 ⟨rfl, hb1⟩
  have W1 : Hid (Below w.heap.size w w1) := hb1
  have HD : Hid (_) := hD
  have DB : Hid (∀ j, 0 ≤ D j ∧ D j < 256) := by rw [hD]; exact sumD_bd _
  clear hr eD hD hb1
  go_wp2_with (first
    | (refine isStore 54 (.tmp 10) (.tmp 13) rfl ?_; go_must (refine wpList_store_row rfl 54 (.tmp 10) (.tmp 13) rfl w1.heap.size _ rfl rfl 54 _ (heap_alloc_new _ _) (size28' _) (by simp only [tab8_size]) (tab8_one _ _) ?_; rw [World.setRow_alloc_new]; simp only [Act.put]; obtain ⟨A, hA⟩ : ∃ G, G = w1.heap.size := ⟨_, rfl⟩; obtain ⟨V, hV⟩ : ∃ V, V = w1.alloc (.cells (tab8 32 D) 54) := ⟨_, rfl⟩; have VA : Hid (V.heap[A]? = some (.cells (tab8 32 D) 54)) := (by rw [hV, hA]; exact heap_alloc_new _ _); have W2 : Hid (Below w.heap.size w V) := (by rw [hV]; exact W1.out.alloc W1.out.size _); rw [← hV, ← hA]; clear hV hA)))
  have hr := mexpand_any _ vi 32 li D pi n V (HG.out.below W2.out HG.out.sz) (by omega) HL.out (sliceB_row VA.out (by omega) fun j _ => DB.out j) (H2.out.below W2.out)
  rw [HD.out] at hr
  refine hr.mono ?_
  rintro e w3 ⟨v', rfl, own3, hb3⟩
  have O3 : Hid (_) := own3.mono W2.out.size
  have W3 : Hid (Below w.heap.size w w3) := W2.out.trans (hb3.mono W2.out.size)
  clear hr own3 hb3 VA W2
  go_wp2
  go_ret2
  exact ⟨v', rfl, O3.out, W3.out⟩

set_option maxHeartbeats 800000 in
theorem rderive_fr (vs vt vi : Value) (ls lt li : Nat) (ps pt pi : Nat → Int) (n : Int) (w : World) (hs : ls + 300 ≤ 140737488355328) (ht : lt + 200 ≤ 140737488355328) (hli : li + 600 ≤ 140737488355328) (h0 : SliceB w vs ls ps) (h1 : SliceB w vt lt pt) (h2 : SliceB w vi li pi)
    (hn0 : ∀ cap, vs = .slice none ls cap → cap = 0) (hn1 : ∀ cap, vt = .slice none lt cap → cap = 0) (hn2 : ∀ cap, vi = .slice none li cap → cap = 0) :
    Calls Tryz.prog 36 #[vs, vt, vi, .int .i64 n] w fun e w' => ∃ v', e = .returned (.tuple #[v', .int .i64 (expE n)]) ∧ SliceB w' v' (expN n) (ebK (exK ps ls pt lt) 32 pi li) ∧ FrB w.heap.size w' v' ∧ Below w.heap.size w w' := by
  have HS' : Hid (_) := hs
  have HT : Hid (_) := ht
  have HL : Hid (_) := hli
  have H0 : Hid (_) := h0
  have H1 : Hid (_) := h1
  have H2 : Hid (_) := h2
  have N0 : Hid (_) := hn0
  have N1 : Hid (_) := hn1
  have N2 : Hid (_) := hn2
  clear hs ht hli h0 h1 h2 hn0 hn1 hn2
  have z28 := zero28
  have s32 := slice32
  go_enter Tryz.func36, Tryz.ntmps36
  go_wp2_with fail
  obtain ⟨D, hD⟩ : ∃ D, D = exK ps ls pt lt := ⟨_, rfl⟩
  have hr := rextract_any vt vs lt ls pt ps w HT.out HS'.out H1.out H0.out N1.out N0.out
  have eD : tagV pt lt ps ls = D := by rw [hD]; rfl
  rw [eD] at hr
  refine hr.mono ?_
  rintro e w1 ⟨rfl, hb1⟩
  have W1 : Hid (Below w.heap.size w w1) := hb1
  have HD : Hid (_) := hD
  have DB : Hid (∀ j, 0 ≤ D j ∧ D j < 256) := by rw [hD]; exact sumD_bd _
  clear hr eD hD hb1
  go_wp2_with (first
    | (refine isStore 54 (.tmp 10) (.tmp 13) rfl ?_; go_must (refine wpList_store_row rfl 54 (.tmp 10) (.tmp 13) rfl w1.heap.size _ rfl rfl 54 _ (heap_alloc_new _ _) (size28' _) (by simp only [tab8_size]) (tab8_one _ _) ?_; rw [World.setRow_alloc_new]; simp only [Act.put]; obtain ⟨A, hA⟩ : ∃ G, G = w1.heap.size := ⟨_, rfl⟩; obtain ⟨V, hV⟩ : ∃ V, V = w1.alloc (.cells (tab8 32 D) 54) := ⟨_, rfl⟩; have VA : Hid (V.heap[A]? = some (.cells (tab8 32 D) 54)) := (by rw [hV, hA]; exact heap_alloc_new _ _); have W2 : Hid (Below w.heap.size w V) := (by rw [hV]; exact W1.out.alloc W1.out.size _); rw [← hV, ← hA]; clear hV hA)))
  have hr := rexpand_fr _ vi 32 li D pi n V (by omega) HL.out (sliceB_row VA.out (by omega) fun j _ => DB.out j) (H2.out.below W2.out) (fun cap e => by cases e) N2.out
  rw [HD.out] at hr
  refine hr.mono ?_
  rintro e w3 ⟨v', rfl, s3, f3, hb3⟩
  have Q3 : Hid (FrB w.heap.size w3 v') := f3.le W2.out.size
  have O3 : Hid (_) := s3
  have W3 : Hid (Below w.heap.size w w3) := W2.out.trans (hb3.mono W2.out.size)
  clear hr s3 f3 hb3 VA W2
  go_wp2
  go_ret2
  exact ⟨v', rfl, O3.out, Q3.out, W3.out⟩
theorem rderive_any (vs vt vi : Value) (ls lt li : Nat) (ps pt pi : Nat → Int) (n : Int) (w : World) (hs : ls + 300 ≤ 140737488355328) (ht : lt + 200 ≤ 140737488355328) (hli : li + 600 ≤ 140737488355328) (h0 : SliceB w vs ls ps) (h1 : SliceB w vt lt pt) (h2 : SliceB w vi li pi)
    (hn0 : ∀ cap, vs = .slice none ls cap → cap = 0) (hn1 : ∀ cap, vt = .slice none lt cap → cap = 0) (hn2 : ∀ cap, vi = .slice none li cap → cap = 0) :
    Calls Tryz.prog 36 #[vs, vt, vi, .int .i64 n] w fun e w' => ∃ v', e = .returned (.tuple #[v', .int .i64 (expE n)]) ∧ SliceB w' v' (expN n) (ebK (exK ps ls pt lt) 32 pi li) ∧ Below w.heap.size w w' :=
  (rderive_fr vs vt vi ls lt li ps pt pi n w hs ht hli h0 h1 h2 hn0 hn1 hn2).mono fun _ _ ⟨v, e, s, _, b⟩ => ⟨v, e, s, b⟩

end Go.Proofs.YteekoabgbjbabaaGreatDoor
