import Derived.Test.YtjaddenjeaalaaaDoorK5
import Derived.Test.YtjaddenjeaalaaaDoorM9
namespace Go.Proofs.YtjaddenjeaalaaaDoor
open Go.RowKit

theorem tagV_kB {p p' : Nat → Int} {l l' : Nat} (h : kB p l = kB p' l') (q : Nat → Int) (m : Nat) : tagV p l q m = tagV p' l' q m := by
  unfold tagV inS outS
  rw [h]
theorem kB_short {p : Nat → Int} {l : Nat} (h : l ≤ 64) : kB p l = upto p l := by unfold kB; rw [if_pos h]
theorem kB_long {p : Nat → Int} {l c : Nat} (h : l + c ≤ 64) : kB (upto p l) (l + c) = upto p l := by
  rw [kB_short h]
  funext i
  simp only [upto]
  by_cases h1 : i < l
  · simp [h1, show i < l + c by omega]
  · simp [h1]
theorem xk_upto (f : Nat → Int) (m : Int) (k : Nat) : upd (upto (xk f m) k) k (bits .xor .u8 (f k) m) = upto (xk f m) (k + 1) := upd_upto (xk f m) k
theorem rem_more (more : Int) (L : Nat) (h0 : 0 ≤ more) (hL : L ≤ 64) : more.tmod (65 - (L : Int)) = ((more.toNat % (65 - L) : Nat) : Int) := by
  rw [Int.tmod_eq_emod_of_nonneg h0, Int.natCast_emod, Int.natCast_sub (by omega), Int.toNat_of_nonneg h0]
  rfl
theorem isMakeB {P : Program} {ops : Array Oper} {rest : List Oper} {o : Oper} {a : Act} {w : World} {Q : Exit → Act → World → Prop} (l c : Operand) (_ : o.op = .makeSlice 22 l c) (h : wpList P ops Q (o :: rest) a w) : wpList P ops Q (o :: rest) a w := h
theorem wpList_mkB {ops : Array Oper} {rest : List Oper} {o : Oper} {a : Act} {w : World} {Q : Exit → Act → World → Prop} (hgd : o.guard = none) (l c : Operand) (n : Nat) (ho : o.op = .makeSlice 22 l c) (hl : a.eval l = .int .i64 (n : Int)) (hc : a.eval c = .int .i64 (n : Int)) (hn : n ≤ 281474976710656)
    (h : wpList Tryd.prog ops Q rest (a.put o.dst (.slice (some ⟨w.heap.size, 0, none⟩) n n)) (w.alloc (.cells (tab8 n (fun _ => 0)) 5))) : wpList Tryd.prog ops Q (o :: rest) a w :=
  wpList_plain hgd fun K hK => by unfold Oper.wp; rw [execMake ho hl hc hn]; exact hK _ _ h

theorem execAssign {P : Program} {o : Oper} {a : Act} {w : World} {x : Operand} (ho : o.op = .assign x) : (execOp a.eval o).run P w = .ok (.value (a.eval x)) w := by
  unfold execOp
  simp only [ho]
  rfl

/-- What each operation of MacNested's last region yields. -/
def mnS (v0 v1 v2 v3 : Value) (T : Nat → Int) (j : Nat) (v : Value) : Prop :=
  match j with
  | 0 => v = v0 | 1 => v = v1 | 2 => v = .agg (tab8 32 T) | 3 => v = .agg (tab8 32 T) | 4 => v = .bool true | 5 => v = .bool true
  | 6 => v = v2 | 7 => v = v1 | 8 => v = .agg (tab8 32 T) | 9 => v = .agg (tab8 32 T) | 10 => v = .bool true | 11 => v = .bool true | 12 => v = .bool true
  | 13 => v = v3 | 14 => v = v1 | 15 => v = .agg (tab8 32 T) | 16 => v = .agg (tab8 32 T) | 17 => v = .bool true | _ => v = .bool true

set_option maxRecDepth 20000 in
set_option maxHeartbeats 4000000 in
theorem macnested_any (vk vm : Value) (lk lm : Nat) (pk pm : Nat → Int) (more : Int) (w : World) (hG : Glob w) (hk : lk + 200 ≤ 140737488355328) (hm : lm + 300 ≤ 140737488355328) (h1 : SliceB w vk lk pk) (h2 : SliceB w vm lm pm)
    (hn1 : ∀ cap, vk = .slice none lk cap → cap = 0) (hn2 : ∀ cap, vm = .slice none lm cap → cap = 0) (hm0 : 0 ≤ more) (hm1 : more < 256) :
    Calls Tryd.prog 6 #[vk, vm, .int .u8 more] w fun e w' => e = .returned (.bool true) ∧ Below w.heap.size w w' := by
  obtain ⟨a0, cap0, rfl, hx⟩ := h1.shape
  clear hx
  obtain ⟨am, cm, rfl, hx⟩ := h2.shape
  clear hx
  have HG : Hid (_) := hG
  have HK : Hid (_) := hk
  have HM : Hid (_) := hm
  have H1 : Hid (_) := h1
  have H2 : Hid (_) := h2
  have N2 : Hid (am = none → cm = 0) := fun e => hn2 cm (by rw [e])
  have M0 : Hid (0 ≤ more) := hm0
  have M1 : Hid (more < 256) := hm1
  clear hG hk hm h1 h2 hn1 hn2 hm0 hm1
  have z28 := zero28
  go_enter Tryd.func6, Tryd.ntmps6
  go_wp2_with fail
  refine (awake_any w HG.out).mono ?_
  rintro e w1 ⟨rfl, hb1⟩
  have W1 : Hid (Below w.heap.size w w1) := hb1
  clear hb1
  go_upto_if 21 with fail
  go_cut [7] (fun s7 wx => ∃ (L : Nat) (P : Nat → Int) (aL : Option Addr) (cL : Nat), s7 = .slice aL L cL ∧ SliceB wx (.slice aL L cL) L P ∧ L ≤ 64 ∧ kB pk lk = upto P L ∧ Below w.heap.size w wx)
  case first =>
    by_cases hle : lk ≤ 64
    · have i0 : ¬ (lk : Int) > 64 := by omega
      have HLE : Hid (lk ≤ 64) := hle
      clear hle
      go_wp2
      go_meet
      case rel => exact ⟨lk, pk, a0, cap0, rfl, H1.out.below W1.out, HLE.out, kB_short HLE.out, W1.out⟩
    · have i0 : (lk : Int) > 64 := by omega
      have HLE : Hid (¬ lk ≤ 64) := hle
      clear hle
      go_wp2_with fail
      obtain ⟨D, hD⟩ : ∃ D, D = sumD (addN HS.new pk lk) := ⟨_, rfl⟩
      have hs := sum_any (.slice a0 lk cap0) lk pk w1 (HG.out.below W1.out HG.out.sz) (by have := HK.out; omega) (H1.out.below W1.out)
      rw [← hD] at hs
      refine hs.mono ?_
      rintro e w2 ⟨rfl, hb2⟩
      have W2 : Hid (Below w.heap.size w w2) := W1.out.trans (hb2.mono W1.out.size)
      have HD : Hid (_) := hD
      have DB : Hid (∀ j, 0 ≤ D j ∧ D j < 256) := by rw [hD]; exact sumD_bd _
      clear hb2 hs hD
      have s32 := slice32
      go_wp2_with (first
        | (refine isStore 25 (.tmp 8) (.tmp 23) rfl ?_; go_must (refine wpList_store_row rfl 25 (.tmp 8) (.tmp 23) rfl w2.heap.size _ rfl rfl 25 _ (heap_alloc_new _ _) (size28' _) (by simp only [tab8_size]) (tab8_one _ _) ?_; rw [World.setRow_alloc_new]; simp only [Act.put])))
      go_meet
      case rel => exact ⟨32, D, _, 32, rfl, sliceB_row (heap_alloc_new _ _) (by omega) (fun j _ => DB.out j), by omega, by unfold kB; rw [if_neg HLE.out, HD.out], W2.out.alloc W2.out.size _⟩
  case rest =>
    obtain ⟨L, P, aL, cL, rfl, sB, hL, hKB, bel⟩ := hcut
    have SK : Hid (SliceB wc (.slice aL L cL) L P) := sB
    have HL : Hid (L ≤ 64) := hL
    have HKB : Hid (kB pk lk = upto P L) := hKB
    have BW : Hid (Below w.heap.size w wc) := bel
    clear sB hL hKB bel W1
    go_wp2_with fail
    refine wp_region_slotsAD 3 89 [25, 26, 9] (fun _ v W => ∃ g, v = .slice (some ⟨g, 0, none⟩) 64 64 ∧ wc.heap.size ≤ g ∧ W.heap[g]? = some (.cells (tab8 64 (fun _ => 0)) 5)) (fun i j u v => i = 1 ∨ j = 1 → u ≠ v) (by kernel_rfl) (by kernel_rfl) (by kernel_rfl) (by decide) rfl rfl (by decide) (by decide) (fun _ v W W' ⟨g, e, hg, hh⟩ hb => ⟨g, e, hg, by rw [hb.block _ (Array.getElem?_eq_some_iff.1 hh).1]; exact hh⟩) ?_ ?_
    · intro j hj a W hB hf hdep
      have dif : ∀ (i : Nat) (u : Value), (∃ g, u = .slice (some ⟨g, 0, none⟩) 64 64 ∧ wc.heap.size ≤ g ∧ W.heap[g]? = some (.cells (tab8 64 (fun _ => 0)) 5)) → u ≠ .slice (some ⟨W.heap.size, 0, none⟩) 64 64 ∧ .slice (some ⟨W.heap.size, 0, none⟩) 64 64 ≠ u := by
        rintro i u ⟨g, rfl, _, hh⟩
        have hlt := (Array.getElem?_eq_some_iff.1 hh).1
        refine ⟨fun e => ?_, fun e => ?_⟩
        · injection e with e1; injection e1 with e2; injection e2 with e3; omega
        · injection e with e1; injection e1 with e2; injection e2 with e3; omega
      match j, hj with
      | 0, _ => exact stepV rfl rfl (execMake (n := 64) rfl rfl rfl (by omega)) ⟨_, rfl, ⟨_, rfl, hB.size, heap_alloc_new _ _⟩, (Below.refl _ _).alloc (Nat.le_refl _) _, fun i u _ _ h _ => ⟨fun _ => (dif i u h).1, fun _ => (dif i u h).2⟩⟩
      | 1, _ => exact stepV rfl rfl (execMake (n := 64) rfl rfl rfl (by omega)) ⟨_, rfl, ⟨_, rfl, hB.size, heap_alloc_new _ _⟩, (Below.refl _ _).alloc (Nat.le_refl _) _, fun i u _ _ h _ => ⟨fun _ => (dif i u h).1, fun _ => (dif i u h).2⟩⟩
      | 2, _ =>
        have h0 := hdep _ rfl 0 rfl
        exact stepV rfl rfl (execAssign rfl) ⟨_, rfl, h0, Below.refl _ _, fun i u hi hij _ hk => by
          have e : i = 0 ∨ i = 1 := by omega
          rcases e with rfl | rfl
          · exact ⟨fun h => by omega, fun h => by omega⟩
          · have h := hk _ rfl 0 rfl (by omega)
            exact ⟨fun _ => h.2 (Or.inl rfl), fun _ => h.1 (Or.inr rfl)⟩⟩
    · intro x W hB hS hD
      obtain ⟨g0, e0, _, _⟩ := hS 0 (by omega)
      obtain ⟨g2, e2, hg2, hh2⟩ := hS 1 (by omega)
      obtain ⟨g1, e1, hg1, hh1⟩ := hS 2 (by omega)
      have hne : g1 ≠ g2 := by
        have := hD 2 1 (by omega) (by omega) (by omega) (Or.inr rfl)
        rw [e1, e2] at this
        intro e
        exact this (by rw [e])
      simp only [putL, List.drop_succ_cons, List.drop_zero, e0, e1, e2, Act.put, List.setIfInBounds_toArray, List.set_cons_succ, List.set_cons_zero]
      have R1 : Hid (_) := hh1
      have R2 : Hid (_) := hh2
      have HNE : Hid (g1 ≠ g2) := hne
      have hb1 : Hid (wc.heap.size ≤ g1) := hg1
      have hb2 : Hid (wc.heap.size ≤ g2) := hg2
      have RB : Hid (Below wc.heap.size wc W) := hB
      clear hh1 hh2 hne hg1 hg2 hB hS hD e0 e1 e2
      go_wp2
      go_loopw [11] (fun i W' => ∃ k : Nat, k ≤ 64 ∧ i = .int .i64 k ∧ W'.heap[g1]? = some (.cells (tab8 64 (upto (xk (upto P L) 54) k)) 5) ∧ W'.heap[g2]? = some (.cells (tab8 64 (upto (xk (upto P L) 92) k)) 5) ∧ Below wc.heap.size wc W') (fun i _ => 64 - (intOf i).toNat)
      case atStart =>
        have e : ∀ m : Int, upto (xk (upto P L) m) 0 = fun _ => 0 := fun m => by funext i; simp [upto]
        exact ⟨0, by omega, rfl, by rw [e]; exact R1.out, by rw [e]; exact R2.out, RB.out⟩
      case round =>
        obtain ⟨k, hk, rfl, h1, h2, h3⟩ := hrel
        have D1 : Hid (_) := h1
        have D2 : Hid (_) := h2
        have D3 : Hid (_) := h3
        clear h1 h2 h3 R1 R2 RB
        by_cases hlt : k < 64
        · have i1 : (k : Int) < 64 := by omega
          have q1 : wr.cell? ⟨g1, k, none⟩ = some (.int .u8 (upto (xk (upto P L) 54) k k)) := by rw [cell_of_row _ _ _ _ _ _ D1.out]; exact tab8_get 64 _ _ hlt
          have q2 : wr.frozen? ⟨g1, k, none⟩ = false := frozen_of_row D1.out
          have q3 : ∀ u, (wr.setCell ⟨g1, k, none⟩ u).heap[g2]? = some (.cells (tab8 64 (upto (xk (upto P L) 92) k)) 5) := fun u => by rw [Below.heap_setCell _ _ _ _ (by simpa using fun e => HNE.out e.symm)]; exact D2.out
          have q4 : ∀ u, (wr.setCell ⟨g1, k, none⟩ u).cell? ⟨g2, k, none⟩ = some (.int .u8 (upto (xk (upto P L) 92) k k)) := fun u => by rw [cell_of_row _ _ _ _ _ _ (q3 u)]; exact tab8_get 64 _ _ hlt
          have q5 : ∀ u, (wr.setCell ⟨g1, k, none⟩ u).frozen? ⟨g2, k, none⟩ = false := fun u => frozen_of_row (q3 u)
          clear q3
          by_cases hin : k < L
          · have i2 : (k : Int) < L := by omega
            obtain ⟨b, off, ea, ck⟩ := SK.out.cell D3.out k hin
            subst ea
            have eP : Hid (∀ m : Int, upd (upto (xk (upto P L) m) k) k (bits .xor .u8 (P k) m) = upto (xk (upto P L) m) (k + 1)) := fun m => by
              have h := xk_upto (upto P L) m k
              have e : upto P L k = P k := by simp [upto, hin]
              rw [e] at h
              exact h
            go_wp2
            go_roundw
            case rel =>
              refine ⟨k + 1, by omega, by go_num, ?_, ?_, (D3.out.setCell (Nat.le_trans (by have := hb1.out; omega) (Nat.le_refl g1)) _).setCell (Nat.le_trans (by have := hb2.out; omega) (Nat.le_refl g2)) _⟩
              · rw [Below.heap_setCell _ _ _ _ (by simpa using HNE.out), heap_setCell_row _ D1.out, tab8_set]
                exact congrArg (fun f => some (Obj.cells (tab8 64 f) 5)) (eP.out 54)
              · rw [heap_setCell_row _ (by rw [Below.heap_setCell _ _ _ _ (by simpa using fun e => HNE.out e.symm)]; exact D2.out), tab8_set]
                exact congrArg (fun f => some (Obj.cells (tab8 64 f) 5)) (eP.out 92)
            case measure => simp [intOf]; omega
          · have i2 : ¬ (k : Int) < L := by omega
            have eP : Hid (∀ m : Int, upd (upto (xk (upto P L) m) k) k (bits .xor .u8 0 m) = upto (xk (upto P L) m) (k + 1)) := fun m => by
              have h := xk_upto (upto P L) m k
              have e : upto P L k = 0 := by simp [upto, hin]
              rw [e] at h
              exact h
            go_wp2
            go_roundw
            case rel =>
              refine ⟨k + 1, by omega, by go_num, ?_, ?_, (D3.out.setCell (Nat.le_trans (by have := hb1.out; omega) (Nat.le_refl g1)) _).setCell (Nat.le_trans (by have := hb2.out; omega) (Nat.le_refl g2)) _⟩
              · rw [Below.heap_setCell _ _ _ _ (by simpa using HNE.out), heap_setCell_row _ D1.out, tab8_set]
                exact congrArg (fun f => some (Obj.cells (tab8 64 f) 5)) (eP.out 54)
              · rw [heap_setCell_row _ (by rw [Below.heap_setCell _ _ _ _ (by simpa using fun e => HNE.out e.symm)]; exact D2.out), tab8_set]
                exact congrArg (fun f => some (Obj.cells (tab8 64 f) 5)) (eP.out 92)
            case measure => simp [intOf]; omega
        · have hk64 : k = 64 := by omega
          subst hk64
          have e64 : ∀ m : Int, tab8 64 (upto (xk (upto P L) m) 64) = tab8 64 (xk (kB pk lk) m) := fun m => tab8_congr fun i hi => by rw [HKB.out]; simp [upto, hi]
          have O1 : Hid (wr.ownsRow wc.heap.size 5 1 (.slice (some ⟨g1, 0, none⟩) 64 64) 64 (vals (firstL (xk (kB pk lk) 54) 64))) := own_row (by rw [← e64]; exact D1.out) hb1.out (by omega)
          have O2 : Hid (wr.ownsRow wc.heap.size 5 1 (.slice (some ⟨g2, 0, none⟩) 64 64) 64 (vals (firstL (xk (kB pk lk) 92) 64))) := own_row (by rw [← e64]; exact D2.out) hb2.out (by omega)
          have LG2 : Hid (g2 < wr.heap.size) := (Array.getElem?_eq_some_iff.1 D2.out).1
          clear D1 D2 e64
          go_wp2_with (first
            | (refine isApp (.tmp 49) (.tmp 50) rfl ?_; go_must (refine wpList_appG (v := .slice (some ⟨g1, 0, none⟩) 64 64) (B := wc.heap.size) (l := firstL (xk (kB pk lk) 54) 64) (r := firstL pm lm) rfl (.tmp 49) (.tmp 50) rfl rfl rfl O1.out (firstL_len _ _) (src_of (H2.out.below (BW.out.trans (D3.out.mono BW.out.size))) N2.out) (by have := HM.out; omega) D3.out.size ?_; intro v3 w3 own3 gr3; rw [firstL_cat] at own3; simp only [Act.put, List.setIfInBounds_toArray, List.set_cons_succ, List.set_cons_zero]; have O3 : Hid (w3.ownsRow wc.heap.size 5 1 v3 (64 + lm) (vals (firstL (cat (xk (kB pk lk) 54) 64 pm) (64 + lm)))) := own3; have O4 : Hid (w3.ownsRow wc.heap.size 5 1 (.slice (some ⟨g2, 0, none⟩) 64 64) 64 (vals (firstL (xk (kB pk lk) 92) 64))) := O2.out.kept gr3 (Or.inr (by simpa [Value.ownBlock] using fun e => HNE.out e.symm)); have B3 : Hid (Below wc.heap.size wc w3) := D3.out.grown gr3 D3.out.size (fun k hk => (O1.out.lt k hk).1); clear own3 gr3)))
          obtain ⟨D, hD⟩ : ∃ D, D = sumD (addN (inS pk lk) pm lm) := ⟨_, rfl⟩
          have BC : Hid (∀ W, Below wc.heap.size wc W → Below w.heap.size w W) := fun W h => BW.out.trans (h.mono BW.out.size)
          have hs := sum_any v3 (64 + lm) (cat (xk (kB pk lk) 54) 64 pm) w3 (HG.out.below (BC.out _ B3.out) HG.out.sz) (by have := HM.out; omega) (sliceB_own O3.out (cat_bd (fun _ _ => bits_bd _ _) H2.out.bytes))
          rw [addN_cat] at hs
          have eD : sumD (addN (addN HS.new (xk (kB pk lk) 54) 64) pm lm) = D := by rw [hD]; rfl
          rw [eD] at hs
          refine hs.mono ?_
          rintro e w4 ⟨rfl, hb4⟩
          have O5 : Hid (w4.ownsRow wc.heap.size 5 1 (.slice (some ⟨g2, 0, none⟩) 64 64) 64 (vals (firstL (xk (kB pk lk) 92) 64))) := own_below O4.out hb4
          have B4 : Hid (Below wc.heap.size wc w4) := B3.out.trans (hb4.mono B3.out.size)
          have HD : Hid (_) := hD
          have DB : Hid (∀ j, 0 ≤ D j ∧ D j < 256) := by rw [hD]; exact sumD_bd _
          clear hs eD hD hb4 O1 O2 O3 O4 B3 D3 LG2
          have s32 := slice32
          go_wp2_with (first
            | (refine isStore 25 (.tmp 13) (.tmp 52) rfl ?_; go_must (refine wpList_store_row rfl 25 (.tmp 13) (.tmp 52) rfl w4.heap.size _ rfl rfl 25 _ (heap_alloc_new _ _) (size28' _) (by simp only [tab8_size]) (tab8_one _ _) ?_; rw [World.setRow_alloc_new]; simp only [Act.put]; obtain ⟨G, hGd⟩ : ∃ G, G = w4.heap.size := ⟨_, rfl⟩; obtain ⟨V4, hV4⟩ : ∃ V, V = w4.alloc (.cells (tab8 32 D) 25) := ⟨_, rfl⟩; have VG : Hid (V4.heap[G]? = some (.cells (tab8 32 D) 25)) := (by rw [hV4, hGd]; exact heap_alloc_new _ _); have O6 : Hid (V4.ownsRow wc.heap.size 5 1 (.slice (some ⟨g2, 0, none⟩) 64 64) 64 (vals (firstL (xk (kB pk lk) 92) 64))) := (by rw [hV4]; exact O5.out.alloc _); have B5 : Hid (Below wc.heap.size wc V4) := (by rw [hV4]; exact B4.out.alloc B4.out.size _); rw [← hV4, ← hGd]; clear hV4 hGd))
            | (refine isApp (.tmp 53) (.tmp 54) rfl ?_; go_must (refine wpList_appG (v := .slice (some ⟨g2, 0, none⟩) 64 64) (B := wc.heap.size) (l := firstL (xk (kB pk lk) 92) 64) (r := firstL D 32) rfl (.tmp 53) (.tmp 54) rfl rfl rfl O6.out (firstL_len _ _) (src_of (sliceB_row VG.out (by omega) fun j _ => DB.out j) (fun e => by cases e)) (by omega) B5.out.size ?_; intro v7 w7 own7 gr7; rw [firstL_cat] at own7; simp only [Act.put, List.setIfInBounds_toArray, List.set_cons_succ, List.set_cons_zero]; have O7 : Hid (w7.ownsRow wc.heap.size 5 1 v7 (64 + 32) (vals (firstL (cat (xk (kB pk lk) 92) 64 D) (64 + 32)))) := own7; have B7 : Hid (Below wc.heap.size wc w7) := B5.out.grown gr7 B5.out.size (fun k hk => (O6.out.lt k hk).1); clear own7 gr7)))
          obtain ⟨T, hT⟩ : ∃ T, T = tagV pk lk pm lm := ⟨_, rfl⟩
          have hs := sum_any v7 (64 + 32) (cat (xk (kB pk lk) 92) 64 D) w7 (HG.out.below (BC.out _ B7.out) HG.out.sz) (by omega) (sliceB_own O7.out (cat_bd (fun _ _ => bits_bd _ _) (fun j _ => DB.out j)))
          rw [addN_cat] at hs
          have eT : sumD (addN (addN HS.new (xk (kB pk lk) 92) 64) D 32) = T := by rw [hT, HD.out]; rfl
          rw [eT] at hs
          refine hs.mono ?_
          rintro e w8 ⟨rfl, hb8⟩
          have B8 : Hid (Below wc.heap.size wc w8) := B7.out.trans (hb8.mono B7.out.size)
          have HT : Hid (_) := hT
          clear hs eT hT hb8 B7 O7 O6 B5 VG B4 O5
          obtain ⟨c, hc⟩ : ∃ c, c = more.toNat % (65 - L) := ⟨_, rfl⟩
          have HC : Hid (L + c ≤ 64) := by
            show L + c ≤ 64
            have h1 := HL.out
            have h2 := Nat.mod_lt more.toNat (show 0 < 65 - L by omega)
            omega
          have cv1 : IntKind.i64.wrap more = more := by have := M0.out; have := M1.out; simp [IntKind.wrap, IntKind.bits, IntKind.signed]; omega
          have wr1 : wrap64 (65 - (L : Int)) = 65 - L := by have := HL.out; simp [wrap64]; omega
          have rm : more.tmod (65 - (L : Int)) = (c : Int) := by rw [hc]; exact rem_more more L M0.out HL.out
          have nz : ¬ (65 - (L : Int)) = 0 := by have := HL.out; omega
          have wr2 : wrap64 ((L : Int) + (c : Int)) = ((L + c : Nat) : Int) := by have := HC.out; simp [wrap64]; omega
          clear hc
          go_wp2_with (first
            | (refine isStore 25 (.tmp 14) (.tmp 56) rfl ?_; go_must (refine wpList_store_row rfl 25 (.tmp 14) (.tmp 56) rfl w8.heap.size _ rfl rfl 25 _ (heap_alloc_new _ _) (size28' _) (by simp only [tab8_size]) (tab8_one _ _) ?_; rw [World.setRow_alloc_new]; simp only [Act.put]; obtain ⟨A, hA⟩ : ∃ G, G = w8.heap.size := ⟨_, rfl⟩; obtain ⟨V8, hV8⟩ : ∃ V, V = w8.alloc (.cells (tab8 32 T) 25) := ⟨_, rfl⟩; have VA : Hid (V8.heap[A]? = some (.cells (tab8 32 T) 25)) := (by rw [hV8, hA]; exact heap_alloc_new _ _); have B9 : Hid (Below wc.heap.size wc V8) := (by rw [hV8]; exact B8.out.alloc B8.out.size _); rw [← hV8, ← hA]; clear hV8 hA))
            | (refine isMakeB (.tmp 65) (.tmp 65) rfl ?_; go_must (refine wpList_mkB rfl (.tmp 65) (.tmp 65) (L + c) rfl (by show Value.int .i64 (wrap64 ((L : Int) + (c : Int))) = _; rw [wr2]) (by show Value.int .i64 (wrap64 ((L : Int) + (c : Int))) = _; rw [wr2]) (by have := HC.out; omega) ?_; simp only [Act.put, List.setIfInBounds_toArray, List.set_cons_succ, List.set_cons_zero]; obtain ⟨G3, hG3⟩ : ∃ G, G = V8.heap.size := ⟨_, rfl⟩; obtain ⟨V9, hV9⟩ : ∃ V, V = V8.alloc (.cells (tab8 (L + c) (fun _ => 0)) 5) := ⟨_, rfl⟩; have XG : Hid (V9.heap[G3]? = some (.cells (tab8 (L + c) (fun _ => 0)) 5)) := (by rw [hV9, hG3]; exact heap_alloc_new _ _); have XA : Hid (V9.heap[A]? = some (.cells (tab8 32 T) 25)) := (by rw [hV9, Below.heap_alloc _ _ _ (Array.getElem?_eq_some_iff.1 VA.out).1]; exact VA.out); have NE : Hid (A ≠ G3) := (by show A ≠ G3; have := (Array.getElem?_eq_some_iff.1 VA.out).1; omega); have B10 : Hid (Below wc.heap.size wc V9) := (by rw [hV9]; exact B9.out.alloc B9.out.size _); have G3B : Hid (wc.heap.size ≤ G3) := (by show wc.heap.size ≤ G3; rw [hG3]; exact B9.out.size); rw [← hV9, ← hG3]; clear hV9 hG3))
            | (refine isCopy (.tmp 67) (.tmp 68) rfl ?_; go_must (refine wpList_copyB rfl (.tmp 67) (.tmp 68) rfl G3 0 (L + c) L (L + c) (L + c) (fun _ => 0) 5 rfl rfl (SK.out.below B10.out) XG.out (Nat.min_eq_left (Nat.le_add_right _ _)).symm (by omega) ?_; intro w11 h1 h2 h3; rw [over_upto] at h1; simp only [Act.put, List.setIfInBounds_toArray, List.set_cons_succ, List.set_cons_zero]; have YG : Hid (w11.heap[G3]? = some (.cells (tab8 (L + c) (upto P L)) 5)) := h1; have YA : Hid (w11.heap[A]? = some (.cells (tab8 32 T) 25)) := (by rw [h2 _ NE.out]; exact XA.out); have B11 : Hid (Below wc.heap.size wc w11) := B10.out.trans (h3.mono G3B.out); clear h1 h2 h3)))
          have LA : A < w11.heap.size := (Array.getElem?_eq_some_iff.1 YA.out).1
          have LG : G3 < w11.heap.size := (Array.getElem?_eq_some_iff.1 YG.out).1
          have T2 : Hid (tagV pk lk pm lm = T) := HT.out.symm
          have T8 : Hid (tagV P L pm lm = T) := by show tagV P L pm lm = T; rw [HT.out]; exact tagV_kB (by rw [kB_short HL.out, HKB.out]) pm lm
          have T15 : Hid (tagV (upto P L) (L + c) pm lm = T) := by show tagV (upto P L) (L + c) pm lm = T; rw [HT.out]; exact tagV_kB (by rw [kB_long HC.out, HKB.out]) pm lm
          have PB : Hid (∀ j, j < L + c → 0 ≤ upto P L j ∧ upto P L j < 256) := fun j _ => by
            unfold upto
            split
            · exact SK.out.bytes j (by assumption)
            · omega
          have CB : Below w.heap.size w w11 := BC.out _ B11.out
          clear cv1 wr1 rm nz wr2 z28 s32
          refine wp_region_slotsA 19 89 [70, 71, 72, 73, 74, 75, 76, 77, 78, 79, 80, 81, 82, 83, 84, 85, 86, 87, 88] (fun j v _ => mnS (.slice a0 lk cap0) (.slice am lm cm) (.slice aL L cL) (.slice (some ⟨G3, 0, none⟩) (L + c) (L + c)) T j v) (by kernel_rfl) (by kernel_rfl) (by kernel_rfl) (by decide) rfl rfl (by decide) (by decide) (fun _ _ _ _ h _ => h) ?_ ?_
          · intro j hj a W hB hf hdep
            have gA : W.heap[A]? = some (.cells (tab8 32 T) 25) := by rw [hB.block _ LA]; exact YA.out
            have gW : Below w.heap.size w W := CB.trans (hB.mono CB.size)
            have gG : Glob W := HG.out.below gW HG.out.sz
            have s1 := H1.out.below gW
            have s2 := H2.out.below gW
            have sk : SliceB W (.slice aL L cL) L P := SK.out.below (B11.out.trans (hB.mono B11.out.size))
            have sl : SliceB W (.slice (some ⟨G3, 0, none⟩) (L + c) (L + c)) (L + c) (upto P L) := sliceB_row (by rw [hB.block _ LG]; exact YG.out) (by have := HC.out; omega) PB.out
            match j, hj with
            | 0, _ => exact stepV rfl rfl (execMove rfl) ⟨_, rfl, hf 0 (by decide), Below.refl _ _⟩
            | 1, _ => exact stepV rfl rfl (execMove rfl) ⟨_, rfl, hf 1 (by decide), Below.refl _ _⟩
            | 2, _ =>
              have h0 : a.eval (.tmp 70) = (.slice a0 lk cap0) := hdep _ rfl 0 rfl
              have h1 : a.eval (.tmp 71) = .slice am lm cm := hdep _ rfl 1 rfl
              have r := mtag_any (.slice a0 lk cap0) (.slice am lm cm) lk lm pk pm W gG (by have := HK.out; omega) (by have := HM.out; omega) s1 s2
              rw [T2.out] at r
              exact stepC rfl rfl (execCall2 Tryd.func14 (by kernel_rfl) (by kernel_rfl) rfl h0 h1) r fun e w' h => ⟨_, h.1, _, rfl, rfl, h.2⟩
            | 3, _ => exact stepV rfl rfl (execLoadRow rfl (hf 14 (by decide)) gA Tryd.underlying25 rfl (size28' _)) ⟨_, rfl, rfl, Below.refl _ _⟩
            | 4, _ =>
              have h2 : a.eval (.tmp 72) = .agg (tab8 32 T) := hdep _ rfl 2 rfl
              have h3 : a.eval (.tmp 73) = .agg (tab8 32 T) := hdep _ rfl 3 rfl
              exact stepV rfl rfl (exec_eql28 rfl h2 h3) ⟨_, rfl, by rw [eq32_self]; rfl, Below.refl _ _⟩
            | 5, _ =>
              have h4 : a.eval (.tmp 74) = .bool true := hdep _ rfl 4 rfl
              exact stepV rfl rfl (execMove rfl) ⟨_, rfl, h4, Below.refl _ _⟩
            | 6, _ =>
              have h5 : a.eval (.tmp 75) = .bool true := hdep _ rfl 5 rfl
              exact stepV rfl (wantedOf rfl (yieldedAt rfl rfl h5)) (execMove rfl) ⟨_, rfl, hf 7 (by decide), Below.refl _ _⟩
            | 7, _ =>
              have h5 : a.eval (.tmp 75) = .bool true := hdep _ rfl 5 rfl
              exact stepV rfl (wantedOf rfl (yieldedAt rfl rfl h5)) (execMove rfl) ⟨_, rfl, hf 1 (by decide), Below.refl _ _⟩
            | 8, _ =>
              have h5 : a.eval (.tmp 75) = .bool true := hdep _ rfl 5 rfl
              have h0 : a.eval (.tmp 76) = (.slice aL L cL) := hdep _ rfl 6 rfl
              have h1 : a.eval (.tmp 77) = .slice am lm cm := hdep _ rfl 7 rfl
              have r := mtag_any (.slice aL L cL) (.slice am lm cm) L lm P pm W gG (by have := HL.out; omega) (by have := HM.out; omega) sk s2
              rw [T8.out] at r
              exact stepC rfl (wantedOf rfl (yieldedAt rfl rfl h5)) (execCall2 Tryd.func14 (by kernel_rfl) (by kernel_rfl) rfl h0 h1) r fun e w' h => ⟨_, h.1, _, rfl, rfl, h.2⟩
            | 9, _ =>
              have h5 : a.eval (.tmp 75) = .bool true := hdep _ rfl 5 rfl
              exact stepV rfl (wantedOf rfl (yieldedAt rfl rfl h5)) (execLoadRow rfl (hf 14 (by decide)) gA Tryd.underlying25 rfl (size28' _)) ⟨_, rfl, rfl, Below.refl _ _⟩
            | 10, _ =>
              have h5 : a.eval (.tmp 75) = .bool true := hdep _ rfl 5 rfl
              have h2 : a.eval (.tmp 78) = .agg (tab8 32 T) := hdep _ rfl 8 rfl
              have h3 : a.eval (.tmp 79) = .agg (tab8 32 T) := hdep _ rfl 9 rfl
              exact stepV rfl (wantedOf rfl (yieldedAt rfl rfl h5)) (exec_eql28 rfl h2 h3) ⟨_, rfl, by rw [eq32_self]; rfl, Below.refl _ _⟩
            | 11, _ =>
              have h5 : a.eval (.tmp 75) = .bool true := hdep _ rfl 5 rfl
              have h10 : a.eval (.tmp 80) = .bool true := hdep _ rfl 10 rfl
              exact stepV rfl rfl (execPick rfl h5 h10) ⟨_, rfl, rfl, Below.refl _ _⟩
            | 12, _ =>
              have h11 : a.eval (.tmp 81) = .bool true := hdep _ rfl 11 rfl
              exact stepV rfl rfl (execMove rfl) ⟨_, rfl, h11, Below.refl _ _⟩
            | 13, _ =>
              have h5 : a.eval (.tmp 82) = .bool true := hdep _ rfl 12 rfl
              exact stepV rfl (wantedOf rfl (yieldedAt rfl rfl h5)) (execMove rfl) ⟨_, rfl, hf 15 (by decide), Below.refl _ _⟩
            | 14, _ =>
              have h5 : a.eval (.tmp 82) = .bool true := hdep _ rfl 12 rfl
              exact stepV rfl (wantedOf rfl (yieldedAt rfl rfl h5)) (execMove rfl) ⟨_, rfl, hf 1 (by decide), Below.refl _ _⟩
            | 15, _ =>
              have h5 : a.eval (.tmp 82) = .bool true := hdep _ rfl 12 rfl
              have h0 : a.eval (.tmp 83) = (.slice (some ⟨G3, 0, none⟩) (L + c) (L + c)) := hdep _ rfl 13 rfl
              have h1 : a.eval (.tmp 84) = .slice am lm cm := hdep _ rfl 14 rfl
              have r := mtag_any (.slice (some ⟨G3, 0, none⟩) (L + c) (L + c)) (.slice am lm cm) (L + c) lm (upto P L) pm W gG (by have := HL.out; have := HC.out; omega) (by have := HM.out; omega) sl s2
              rw [T15.out] at r
              exact stepC rfl (wantedOf rfl (yieldedAt rfl rfl h5)) (execCall2 Tryd.func14 (by kernel_rfl) (by kernel_rfl) rfl h0 h1) r fun e w' h => ⟨_, h.1, _, rfl, rfl, h.2⟩
            | 16, _ =>
              have h5 : a.eval (.tmp 82) = .bool true := hdep _ rfl 12 rfl
              exact stepV rfl (wantedOf rfl (yieldedAt rfl rfl h5)) (execLoadRow rfl (hf 14 (by decide)) gA Tryd.underlying25 rfl (size28' _)) ⟨_, rfl, rfl, Below.refl _ _⟩
            | 17, _ =>
              have h5 : a.eval (.tmp 82) = .bool true := hdep _ rfl 12 rfl
              have h2 : a.eval (.tmp 85) = .agg (tab8 32 T) := hdep _ rfl 15 rfl
              have h3 : a.eval (.tmp 86) = .agg (tab8 32 T) := hdep _ rfl 16 rfl
              exact stepV rfl (wantedOf rfl (yieldedAt rfl rfl h5)) (exec_eql28 rfl h2 h3) ⟨_, rfl, by rw [eq32_self]; rfl, Below.refl _ _⟩
            | 18, _ =>
              have h5 : a.eval (.tmp 82) = .bool true := hdep _ rfl 12 rfl
              have h17 : a.eval (.tmp 87) = .bool true := hdep _ rfl 17 rfl
              exact stepV rfl rfl (execPick rfl h5 h17) ⟨_, rfl, rfl, Below.refl _ _⟩
            | k + 19, hj => exact absurd hj (by omega)
          · intro x W hB hS
            have e18 : x 18 = .bool true := hS 18 (by omega)
            have gW : Hid (Below w.heap.size w W) := CB.trans (hB.mono CB.size)
            simp only [putL, List.drop_succ_cons, List.drop_zero, e18, Act.put, List.setIfInBounds_toArray, List.set_cons_succ, List.set_cons_zero]
            clear hS hB e18 YA YG B11 LA LG CB
            go_wp2
            go_ret
            exact ⟨rfl, gW.out⟩
end Go.Proofs.YtjaddenjeaalaaaDoor
