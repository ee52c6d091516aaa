import Derived.Test.YtplhkjkaabgffaaGreatDoorX7k
namespace Go.Proofs.YtplhkjkaabgffaaGreatDoor.Oni
open Go.RowKit Gf8 Aes By8 Cel
/- OnionKeeps. -/

theorem fam_x {B m : Nat} {x y : Nat → Value} {nn : Nat → Nat} {ff : Nat → Nat → Nat} {W : World} (h : Fam B m x nn ff W) (e : ∀ t, t < m → x t = y t) : Fam B m y nn ff W :=
  ⟨fun t ht => by rw [← e t ht]; exact h.rows t ht, fun s t hs ht hst => by rw [← e s hs, ← e t ht]; exact h.dis s t hs ht hst⟩
set_option maxRecDepth 400000 in
set_option maxHeartbeats 4000000 in
theorem keeps_any (key nonce inner : Nat → Nat) (lk n : Nat) (left : Int) (vk vi : Value) (V : World) (hG : Glob V) (hk : SliceN V vk lk key) (hn : By nonce) (hi : SliceZ V vi n inner) (hb : n ≤ 140737488351232) :
    Calls Tryz.prog 3 #[.agg (jC vk nonce left vi)] V fun e w' => e = .returned (.bool true) ∧ Below V.heap.size V w' := by
  obtain ⟨V1, hV1⟩ : ∃ V1, V.alloc (.cells (jC vk nonce left vi) 25) = V1 := ⟨_, rfl⟩
  have r1 := heapNew V (.cells (jC vk nonce left vi) 25)
  have b1 := belNew V (.cells (jC vk nonce left vi) 25)
  have s1 : V1.heap.size = V.heap.size + 1 := by rw [← hV1]; simp
  rw [hV1] at r1 b1
  have A := alive_any V1 (hG.below b1 hG.sz)
  obtain ⟨on, hon⟩ : ∃ on, wrF key nonce left.toNat n inner = on := ⟨_, rfl⟩
  obtain ⟨E, hE⟩ : ∃ E, wrE lk left n = E := ⟨_, rfl⟩
  obtain ⟨M, hM⟩ : ∃ M, wrN lk left n = M := ⟨_, rfl⟩
  have RW : Hid (∀ W, Below V.heap.size V W → Calls Tryz.prog 5 #[vk, .agg (bA 16 nonce), .int .i64 left, vi] W fun e w' => ∃ r, e = .returned (.tuple #[r, .int .i64 (E : Int)]) ∧ w'.ownsRow W.heap.size 5 1 r M (bytesL M on) ∧ Below W.heap.size W w') := fun W hW => by
    have h := rwrap_any key nonce inner lk n left vk vi W (hk.on hW) hn (hi.sl.on hW) hb
    rw [hon, hE, hM] at h
    exact h
  by_cases hE0 : E = 0
  · subst hE0
    have hparts : lk = 32 ∧ sz left ≠ 0 ∧ n ≤ sz left - 34 ∧ M = sz left := by
      have h := hE
      unfold wrE at h
      split at h
      · cases h
      · rename_i h1
        split at h
        · cases h
        · rename_i h2
          refine ⟨by omega, by omega, by omega, ?_⟩
          rw [← hM]; unfold wrN; rw [hE, if_pos rfl]
    obtain ⟨rfl, h0, hnS, rfl⟩ := hparts
    obtain ⟨g1, g2, g3, g4⟩ := sz_pos h0
    have g5 := sz_le left
    obtain ⟨L, rfl⟩ : ∃ L : Nat, left = L := ⟨left.toNat, by omega⟩
    have hL : 1 ≤ L ∧ L ≤ 8 := by omega
    rw [show (L : Int).toNat = L from by simp] at hon
    obtain ⟨M, hS⟩ : ∃ M, sz (L : Int) = M := ⟨_, rfl⟩
    rw [hS] at RW g3 g4 g5 hnS
    obtain ⟨ka, kcap, rfl, _, _, hkc⟩ := id hk.shape
    obtain ⟨kb, koff, rfl, _⟩ := hkc (by omega)
    obtain ⟨ia, icap, rfl⟩ := hi.shape
    obtain ⟨cw, hcw⟩ : ∃ cw, cellF 0 headO M on = cw := ⟨_, rfl⟩
    have onb : ∀ j, on j < 256 := by rw [← hon]; exact wrF_lt hn (by omega) hi.sl.bytes
    obtain ⟨nx, hnx⟩ : ∃ nx, nxF (L : Int) n inner = nx := ⟨_, rfl⟩
    have OK : Hid (∀ W, Below V1.heap.size V1 W → Below V.heap.size V W ∧ Glob W ∧ SliceN W (.slice (some ⟨kb, koff, none⟩) 32 kcap) 32 key ∧ SliceZ W (.slice ia n icap) n inner) := fun W hW => by
      have hVW := b1.trans (hW.mono b1.size)
      exact ⟨hVW, hG.below hVW hG.sz, hk.on hVW, hi.on hVW⟩
    have JX : Hid (∀ W, Below V1.heap.size V1 W → W.heap[V.heap.size]? = some (.cells (jC (.slice (some ⟨kb, koff, none⟩) 32 kcap) nonce (L : Int) (.slice ia n icap)) 25)) := fun W hW => by
      rw [hW.block _ (by omega)]
      exact r1
    have PW : Hid (∀ W v u kk, Below V1.heap.size V1 W → SliceN W v 32 kk → SliceN W u n inner → Calls Tryz.prog 6 #[v, .agg (bA 16 nonce), .int .i64 (L : Int), u] W fun e w' => ∃ r, e = .returned (.tuple #[r, .int .i64 0]) ∧ w'.ownsRow W.heap.size 5 1 r M (bytesL M (wrF kk nonce L n inner)) ∧ Below W.heap.size W w') := fun W v u kk hW hv hu => by
      have h := wrap_any kk nonce inner 32 n (L : Int) v u W (OK.out W hW).2.1 hv hn hu hb
      rw [hE, hM, hS, show (L : Int).toNat = L from by simp] at h
      exact h
    have RWK : Hid (∀ W v u kk, Below V1.heap.size V1 W → SliceN W v 32 kk → SliceN W u n inner → Calls Tryz.prog 5 #[v, .agg (bA 16 nonce), .int .i64 (L : Int), u] W fun e w' => ∃ r, e = .returned (.tuple #[r, .int .i64 0]) ∧ w'.ownsRow W.heap.size 5 1 r M (bytesL M (wrF kk nonce L n inner)) ∧ Below W.heap.size W w') := fun W v u kk _ hv hu => by
      have h := rwrap_any kk nonce inner 32 n (L : Int) v u W hv hn hu hb
      rw [hE, hM, hS, show (L : Int).toNat = L from by simp] at h
      exact h
    have HW : Hid ((∀ kk j, wrF kk nonce L n inner j < 256) ∧ (∀ j, j < 32 → key j < 256) ∧ (∀ j, j < n → inner j < 256)) := ⟨fun kk j => wrF_lt hn (by omega) hi.sl.bytes j, hk.bytes, hi.sl.bytes⟩
    obtain ⟨D, hD⟩ : ∃ D, dk key nonce = D := ⟨_, rfl⟩
    obtain ⟨T, hT⟩ : ∃ T, hfF (rpK D) on 32 = T := ⟨_, rfl⟩
    have ec : cwF key nonce L n inner = cw := by rw [← hcw, ← hon, ← hS]; rfl
    have hnS' : n ≤ sz (L : Int) - 34 := by rw [hS]; exact hnS
    have nxb : ∀ j, nx j < 256 := by rw [← hnx]; exact nxF_lt (fun q => by omega) hi.sl.bytes
    have e0 : peE 32 (L : Int) 320 key cw = 0 := by rw [← ec]; exact cw_e hL hnS'
    have e1 : peC (L : Int) key cw = nx := by
      funext j
      rw [← ec, ← hnx]
      exact cw_c hL hnS' j
    have e2 : peR 0 key cw = T := by
      show hfF (rpK (dk key cw)) cw 32 = T
      rw [← ec, cw_dk hL, hD, ← hT]
      refine hfF_congr (fun _ _ => rfl) fun j hj => ?_
      rw [cw_in j (by rw [szL hL]; omega), hon]
    have CW : Hid ((∀ j, j < 320 → cQ M on j = cw j) ∧ (∀ j, nx j < 256)) := ⟨fun j hj => by
      unfold cQ
      by_cases h : j < M
      · rw [if_pos h, ← ec, cw_in j (by rw [hS]; exact h), hon]
      · rw [if_neg h, if_neg (by omega), if_neg (by omega), ← ec, cw_out j (by rw [hS]; omega)], nxb⟩
    have PE : Hid (∀ W v u, Below V1.heap.size V1 W → SliceN W v 32 key → SliceZ W u 320 cw → Calls Tryz.prog 7 #[v, .int .i64 (L : Int), u] W fun e w' => ∃ cv, e = .returned (.tuple #[.agg (pC cv T), .int .i64 0]) ∧ w'.ownsRow W.heap.size 5 1 cv 320 (bytesL 320 nx) ∧ Below W.heap.size W w') := fun W v u hW hv hu => by
      have h := peel_any key cw 32 320 (L : Int) v u W (OK.out W hW).2.1 hv hu (by omega)
      rw [e0, e1, e2, show peN 0 = 320 from rfl] at h
      exact h
    have RP : Hid (∀ W v u, Below V1.heap.size V1 W → SliceN W v 32 key → SliceZ W u 320 cw → Calls Tryz.prog 8 #[v, .int .i64 (L : Int), u] W fun e w' => ∃ cv, e = .returned (.tuple #[.agg (pC cv T), .int .i64 0]) ∧ w'.ownsRow W.heap.size 5 1 cv 320 (bytesL 320 nx) ∧ Below W.heap.size W w') := fun W v u hW hv hu => by
      have h := rpeel_any key cw 32 320 (L : Int) v u W hv hu (by omega)
      rw [e0, e1, e2, show peN 0 = 320 from rfl] at h
      exact h
    have HN : Hid (82 ≤ M ∧ M ≤ 320 ∧ n ≤ M - 34 ∧ (∀ j, on j < 256) ∧ wrF key nonce L n inner = on ∧ (∀ j, j < 34 → kQ key j < 256) ∧ (∀ j, j < n + 2 → iQ n inner j < 256)) := ⟨g4, g5, hnS, onb, hon, kQ_lt hk.bytes, iQ_lt hi.sl.bytes⟩
    have JC : Hid (∀ W, Below V1.heap.size V1 W → (W.alloc (.cells #[] 5)).cell? ⟨V.heap.size, 0, none⟩ = some (.slice (some ⟨kb, koff, none⟩) 32 kcap) ∧ (W.alloc (.cells #[] 5)).cell? ⟨V.heap.size, 18, none⟩ = some (.slice ia n icap)) := fun W hW => by
      have h := jC_at (JX.out (W.alloc (.cells #[] 5)) (hW.trans ((belNew W _).mono hW.size)))
      exact ⟨h.1, h.2.2.2⟩
    have OA : Hid (∀ W, Below V1.heap.size V1 W → SliceN (W.alloc (.cells #[] 5)) (.slice (some ⟨kb, koff, none⟩) 32 kcap) 32 (fun j => kQ key (0 + j)) ∧ SliceN (W.alloc (.cells #[] 5)) (.slice ia n icap) n (fun j => iQ n inner (0 + j)) ∧ ∀ l c, Value.slice ia n icap = .slice none l c → c = 0) := fun W hW => by
      have h := OK.out (W.alloc (.cells #[] 5)) (hW.trans ((belNew W _).mono hW.size))
      exact ⟨sliceN_cg h.2.2.1 fun j hj => by rw [Nat.zero_add]; unfold kQ; rw [if_pos hj], sliceN_cg h.2.2.2.sl fun j hj => by rw [Nat.zero_add]; unfold iQ; rw [if_pos hj], h.2.2.2.nil⟩
    have l3 : (n : Int) ≤ 320 := by omega
    have zp := zeroP
    clear hG hk hn hi hb r1 b1 s1 hkc hE hM hS h0 g1 g2 g3 g4 g5 hnS hL onb hon hcw hnS' nxb e0 e1 e2 ec hD hT hnx
    go_enter Tryz.func3, Tryz.ntmps3
    go_wp2_with (first
      | (go_at_call 4; refine A.mono ?_; rintro e w1 ⟨rfl, hb1⟩; obtain ⟨c0, c1, c2, c3⟩ := jC_at (JX.out w1 hb1); have C1 : Hid (_) := c1; have B1 : Hid (Below V1.heap.size V1 w1) := hb1; clear hb1 c1)
      | (refine atLoad 23 (.tmp 38) rfl ?_; go_must (refine wpList_ex rfl (execLdList (k := 16) (q := nonce) rfl rfl C1.out Tryz.underlying23 rfl (by kernel_rfl)) ?_))
      | (go_at_call 5; refine (RW.out w1 (OK.out w1 B1.out).1).mono ?_; rintro e w2 ⟨r2, rfl, own2, hb2⟩; obtain ⟨wg, wc, rfl, _, wcap, _⟩ := own_cells own2 (by have := HN.out; omega); have F2 : Hid (Fam V1.heap.size 1 (updX (fun _ => undef) 0 (.slice (some ⟨wg, 0, none⟩) M wc)) (kN M n) (kF key inner on nx M n) w2 ∧ Below V1.heap.size V1 w2) := ⟨(Fam.none _ _ _ _ w1).add hb2 B1.out.size own2, B1.out.trans (hb2.mono B1.out.size)⟩; clear own2 hb2 wcap)
      | (refine atLoad 22 (.tmp 50) rfl ?_; go_must (refine wpList_ex rfl (execLdS rfl rfl (JC.out w2 F2.out.2).1) ?_))
      | (refine atAppB (.tmp 49) (.tmp 51) rfl ?_; go_must (refine By8.wpList_appS (B := w2.heap.size) (n := 0) (m := 32) (p := kQ key) rfl (.tmp 49) (.tmp 51) rfl rfl rfl (own_none w2 (kQ key)) (OA.out w2 F2.out.2).1 (fun l c e => by cases e) (by omega) (belNew w2 _).size ?_; intro u3 W3 own3 gr3; have b3 : Below w2.heap.size w2 W3 := below_grown (belNew w2 _) (belNew w2 _).size (own_none w2 (kQ key)) gr3; rw [Nat.zero_add] at own3; have O3 : Hid (W3.ownsRow w2.heap.size 5 1 u3 32 (bytesL 32 (kQ key)) ∧ Below w2.heap.size w2 W3) := ⟨own3, b3⟩; clear own3 gr3 b3))
      | (refine atAppB (.tmp 52) (.tmp 53) rfl ?_; go_must (refine By8.wpList_appS (B := w2.heap.size) (n := 32) (m := 2) (p := kQ key) rfl (.tmp 52) (.tmp 53) rfl rfl rfl (ownsRow_below O3.out.1 (belNew W3 _)) (two_slice W3 161 162 (fun j => kQ key (32 + j)) (by unfold kQ; rw [if_neg (by omega)]) (by unfold kQ; rw [if_neg (by omega)]) (by omega) (by omega)) (fun l c e => by cases e) (by omega) (Nat.le_trans O3.out.2.size (belNew W3 _).size) ?_; intro u4 W4 own4 gr4; have b4 : Below w2.heap.size w2 W4 := below_grown (O3.out.2.trans ((belNew W3 _).mono O3.out.2.size)) (Nat.le_trans O3.out.2.size (belNew W3 _).size) (ownsRow_below O3.out.1 (belNew W3 _)) gr4; obtain ⟨kg, kc, rfl, _, kcp, _⟩ := own_cells own4 (by omega); have KC : Hid (34 ≤ kc) := kcp; have F4 : Hid (Fam V1.heap.size 2 (updX (updX (fun _ => undef) 0 (.slice (some ⟨wg, 0, none⟩) M wc)) 1 (.slice (some ⟨kg, 0, none⟩) 34 kc)) (kN M n) (kF key inner on nx M n) W4 ∧ Below V1.heap.size V1 W4) := ⟨F2.out.1.add b4 F2.out.2.size own4, F2.out.2.trans (b4.mono F2.out.2.size)⟩; clear own4 gr4 b4 kcp))
      | (refine atLoad 22 (.tmp 56) rfl ?_; go_must (refine wpList_ex rfl (execLdS rfl rfl (JC.out W4 F4.out.2).2) ?_))
      | (refine atAppB (.tmp 55) (.tmp 57) rfl ?_; go_must (refine By8.wpList_appS (B := W4.heap.size) (n := 0) (m := n) (p := iQ n inner) rfl (.tmp 55) (.tmp 57) rfl rfl rfl (own_none W4 (iQ n inner)) (OA.out W4 F4.out.2).2.1 (OA.out W4 F4.out.2).2.2 (by have := HN.out; omega) (belNew W4 _).size ?_; intro u5 W5 own5 gr5; have b5 : Below W4.heap.size W4 W5 := below_grown (belNew W4 _) (belNew W4 _).size (own_none W4 (iQ n inner)) gr5; rw [Nat.zero_add] at own5; have O5 : Hid (W5.ownsRow W4.heap.size 5 1 u5 n (bytesL n (iQ n inner)) ∧ Below W4.heap.size W4 W5) := ⟨own5, b5⟩; clear own5 gr5 b5))
      | (refine atAppB (.tmp 58) (.tmp 59) rfl ?_; go_must (refine By8.wpList_appS (B := W4.heap.size) (n := n) (m := 2) (p := iQ n inner) rfl (.tmp 58) (.tmp 59) rfl rfl rfl (ownsRow_below O5.out.1 (belNew W5 _)) (two_slice W5 163 164 (fun j => iQ n inner (n + j)) (by unfold iQ; rw [if_neg (by omega)]; omega) (by unfold iQ; rw [if_neg (by omega)]; omega) (by omega) (by omega)) (fun l c e => by cases e) (by have := HN.out; omega) (Nat.le_trans O5.out.2.size (belNew W5 _).size) ?_; intro u6 W6 own6 gr6; have b6 : Below W4.heap.size W4 W6 := below_grown (O5.out.2.trans ((belNew W5 _).mono O5.out.2.size)) (Nat.le_trans O5.out.2.size (belNew W5 _).size) (ownsRow_below O5.out.1 (belNew W5 _)) gr6; obtain ⟨ig, ic, rfl, _, icp, _⟩ := own_cells own6 (by omega); have IC : Hid (34 ≤ kc ∧ n + 2 ≤ ic) := ⟨KC.out, icp⟩; have F6 : Hid (Fam V1.heap.size 3 (updX (updX (updX (fun _ => undef) 0 (.slice (some ⟨wg, 0, none⟩) M wc)) 1 (.slice (some ⟨kg, 0, none⟩) 34 kc)) 2 (.slice (some ⟨ig, 0, none⟩) (n + 2) ic)) (kN M n) (kF key inner on nx M n) W6 ∧ Below V1.heap.size V1 W6) := ⟨F4.out.1.add b6 F4.out.2.size own6, F4.out.2.trans (b6.mono F4.out.2.size)⟩; clear own6 gr6 b6 icp)))
    have BW : Hid (Below V1.heap.size V1 W6) := F6.out.2
    have SK : Hid (∀ X, Below W6.heap.size W6 X → SliceN X (.slice (some ⟨kg, 0, none⟩) 32 kc) 32 key ∧ SliceN X (.slice (some ⟨ig, 0, none⟩) n ic) n inner) := fun X hX => by
      have k1 := own_slice (F6.out.1.rows 1 (by omega)) HN.out.2.2.2.2.2.1
      have k2 := own_slice (F6.out.1.rows 2 (by omega)) HN.out.2.2.2.2.2.2
      exact ⟨sliceN_cg ((takeN k1 (show 32 ≤ 34 by omega)).on hX) fun j hj => if_pos hj, sliceN_cg ((takeN k2 (show n ≤ n + 2 by omega)).on hX) fun j hj => if_pos hj⟩
    refine wp_region_st 406 [(0, 62), (1, 63), (2, 64), (3, 65), (4, 66), (5, 67), (6, 68), (7, 69), (8, 70), (9, 71), (10, 72), (11, 73), (12, 61), (13, 74), (14, 75), (15, 7), (16, 8)] (fun l r X => Below W6.heap.size W6 X ∧ (l 11 = true → X.ownsRow W6.heap.size 5 1 r M (bytesL M (wrF key nonce L n inner)))) (fun r => (fun j => ([.slice (some ⟨kg, 0, none⟩) 34 kc, .slice (some ⟨kg, 0, none⟩) 32 kc, .pointer (some ⟨V.heap.size, 1, none⟩), .agg (bA 16 nonce), .pointer (some ⟨V.heap.size, 17, none⟩), .int .i64 (L : Int), .slice (some ⟨ig, 0, none⟩) (n + 2) ic, .pointer (some ⟨V.heap.size, 18, none⟩), .slice ia n icap, .int .i64 (n : Int), .slice (some ⟨ig, 0, none⟩) n ic, .tuple #[r, .int .i64 0], .tuple #[r, .int .i64 0], r, .int .i64 0, r, .int .i64 0] : List Value).getD j undef)) undef (by kernel_rfl) (by kernel_rfl) rfl (by kernel_rfl) (by decide) (by decide) ?_ ?_ ?_
    · exact ⟨(Below.refl _ _).drew, fun q => by cases q⟩
    · intro j hj l r a X hl hf hdep hl2 hcl hS
      have jx := JX.out X (BW.out.trans (hS.1.mono BW.out.size))
      match j, hj with
      | 0, _ => exact stepV rfl rfl (execMvB rfl (hf 5 (by decide))) ⟨r, ⟨_, rfl, rfl⟩, ⟨hS.1, fun q => hS.2 q⟩, fun _ _ _ => rfl⟩
      | 1, _ => exact stepV rfl rfl (By8.execSlH rfl (hdep _ rfl 0 rfl _ rfl _ rfl) rfl (sl_hn kg 34 kc 32 (by have := IC.out; omega) X)) ⟨r, ⟨_, rfl, rfl⟩, ⟨hS.1, fun q => hS.2 q⟩, fun _ _ _ => rfl⟩
      | 2, _ => exact stepV rfl rfl (execJ1 rfl (hf 1 (by decide))) ⟨r, ⟨_, rfl, rfl⟩, ⟨hS.1, fun q => hS.2 q⟩, fun _ _ _ => rfl⟩
      | 3, _ => exact stepV rfl rfl (execLdList (k := 16) (q := nonce) rfl (hdep _ rfl 2 rfl _ rfl _ rfl) (jC_at jx).2.1 Tryz.underlying23 rfl (by kernel_rfl)) ⟨r, ⟨_, rfl, rfl⟩, ⟨hS.1, fun q => hS.2 q⟩, fun _ _ _ => rfl⟩
      | 4, _ => exact stepV rfl rfl (execJ2 rfl (hf 1 (by decide))) ⟨r, ⟨_, rfl, rfl⟩, ⟨hS.1, fun q => hS.2 q⟩, fun _ _ _ => rfl⟩
      | 5, _ => exact stepV rfl rfl (execLdI rfl (hdep _ rfl 4 rfl _ rfl _ rfl) (jC_at jx).2.2.1) ⟨r, ⟨_, rfl, rfl⟩, ⟨hS.1, fun q => hS.2 q⟩, fun _ _ _ => rfl⟩
      | 6, _ => exact stepV rfl rfl (execMvB rfl (hf 6 (by decide))) ⟨r, ⟨_, rfl, rfl⟩, ⟨hS.1, fun q => hS.2 q⟩, fun _ _ _ => rfl⟩
      | 7, _ => exact stepV rfl rfl (execJ3 rfl (hf 1 (by decide))) ⟨r, ⟨_, rfl, rfl⟩, ⟨hS.1, fun q => hS.2 q⟩, fun _ _ _ => rfl⟩
      | 8, _ => exact stepV rfl rfl (execLdS rfl (hdep _ rfl 7 rfl _ rfl _ rfl) (jC_at jx).2.2.2) ⟨r, ⟨_, rfl, rfl⟩, ⟨hS.1, fun q => hS.2 q⟩, fun _ _ _ => rfl⟩
      | 9, _ => exact stepV rfl rfl (execLenV (len := n) rfl (hdep _ rfl 8 rfl _ rfl _ rfl) ⟨_, _, rfl⟩) ⟨r, ⟨_, rfl, rfl⟩, ⟨hS.1, fun q => hS.2 q⟩, fun _ _ _ => rfl⟩
      | 10, _ => exact stepV rfl rfl (By8.execSlH rfl (hdep _ rfl 6 rfl _ rfl _ rfl) (hdep _ rfl 9 rfl _ rfl _ rfl) (sl_hn ig (n + 2) ic n (by have := IC.out; omega) X)) ⟨r, ⟨_, rfl, rfl⟩, ⟨hS.1, fun q => hS.2 q⟩, fun _ _ _ => rfl⟩
      | 11, _ =>
        refine stepC rfl rfl (execCall4 Tryz.func6 (by kernel_rfl) (by kernel_rfl) rfl (hdep _ rfl 1 rfl _ rfl _ rfl) (hdep _ rfl 3 rfl _ rfl _ rfl) (hdep _ rfl 5 rfl _ rfl _ rfl) (hdep _ rfl 10 rfl _ rfl _ rfl)) (PW.out X _ _ key (BW.out.trans (hS.1.mono BW.out.size)) (SK.out X hS.1).1 (SK.out X hS.1).2) fun e w' hh => ?_
        obtain ⟨r', e1, own', bw⟩ := hh
        refine ⟨_, e1, r', ⟨_, rfl, rfl⟩, ⟨hS.1.trans (bw.mono hS.1.size), fun _ => own_base own' hS.1.size⟩, fun i hi hli => ?_⟩
        match i, hi with
        | 0, _ | 1, _ | 2, _ | 3, _ | 4, _ | 5, _ | 6, _ | 7, _ | 8, _ | 9, _ | 10, _ | 14, _ | 16, _ => rfl
        | 11, _ => exact absurd (hl.symm.trans hli) (by decide)
        | 12, _ => exact absurd (hl.symm.trans (hcl 12 _ rfl hli 11 rfl)) (by decide)
        | 13, _ => exact absurd (hl.symm.trans (hcl 12 _ rfl (hcl 13 _ rfl hli 12 rfl) 11 rfl)) (by decide)
        | 15, _ => exact absurd (hl.symm.trans (hcl 12 _ rfl (hcl 13 _ rfl (hcl 15 _ rfl hli 13 rfl) 12 rfl) 11 rfl)) (by decide)
        | k + 17, h => exact absurd h (by simp)
      | 12, _ => exact stepV rfl rfl (execMvB rfl (hdep _ rfl 11 rfl _ rfl _ rfl)) ⟨r, ⟨_, rfl, rfl⟩, ⟨hS.1, fun q => hS.2 q⟩, fun _ _ _ => rfl⟩
      | 13, _ => exact stepV rfl rfl (execExt rfl (hdep _ rfl 12 rfl _ rfl _ rfl) rfl) ⟨r, ⟨_, rfl, rfl⟩, ⟨hS.1, fun q => hS.2 q⟩, fun _ _ _ => rfl⟩
      | 14, _ => exact stepV rfl rfl (execExt rfl (hdep _ rfl 12 rfl _ rfl _ rfl) rfl) ⟨r, ⟨_, rfl, rfl⟩, ⟨hS.1, fun q => hS.2 q⟩, fun _ _ _ => rfl⟩
      | 15, _ => exact stepV rfl rfl (execAsgB rfl (hdep _ rfl 13 rfl _ rfl _ rfl)) ⟨r, ⟨_, rfl, rfl⟩, ⟨hS.1, fun q => hS.2 q⟩, fun _ _ _ => rfl⟩
      | 16, _ => exact stepV rfl rfl (execAsgB rfl (hdep _ rfl 14 rfl _ rfl _ rfl)) ⟨r, ⟨_, rfl, rfl⟩, ⟨hS.1, fun q => hS.2 q⟩, fun _ _ _ => rfl⟩
      | k + 17, h => exact absurd h (by simp)
    · intro l ra W8 hall hS
      have own8 := hS.2 (hall 11 (by decide))
      have b8 := hS.1
      rw [HN.out.2.2.2.2.1] at own8
      obtain ⟨ag, ac, rfl, _, acp, _⟩ := own_cells own8 (by have := HN.out; omega)
      have F8 : Hid (Fam V1.heap.size 4 (updX (updX (updX (updX (fun _ => undef) 0 (.slice (some ⟨wg, 0, none⟩) M wc)) 1 (.slice (some ⟨kg, 0, none⟩) 34 kc)) 2 (.slice (some ⟨ig, 0, none⟩) (n + 2) ic)) 3 (.slice (some ⟨ag, 0, none⟩) M ac)) (kN M n) (kF key inner on nx M n) W8 ∧ Below V1.heap.size V1 W8) := ⟨F6.out.1.add b8 F6.out.2.size own8, F6.out.2.trans (b8.mono F6.out.2.size)⟩
      clear hall hS own8 b8 SK BW acp
      simp only [putP, List.getD_cons_zero, List.getD_cons_succ, Act.put, List.setIfInBounds_toArray, List.set_cons_succ, List.set_cons_zero]
      go_wp2_with fail
      have BW : Hid (Below V1.heap.size V1 W8) := F8.out.2
      have SK : Hid (∀ X, Below W8.heap.size W8 X → SliceN X (.slice (some ⟨kg, 0, none⟩) 32 kc) 32 key ∧ SliceN X (.slice (some ⟨ig, 0, none⟩) n ic) n inner) := fun X hX => by
        have k1 := own_slice (F8.out.1.rows 1 (by omega)) HN.out.2.2.2.2.2.1
        have k2 := own_slice (F8.out.1.rows 2 (by omega)) HN.out.2.2.2.2.2.2
        exact ⟨sliceN_cg ((takeN k1 (show 32 ≤ 34 by omega)).on hX) fun j hj => if_pos hj, sliceN_cg ((takeN k2 (show n ≤ n + 2 by omega)).on hX) fun j hj => if_pos hj⟩
      refine wp_region_st 406 [(0, 77), (1, 78), (2, 79), (3, 80), (4, 81), (5, 82), (6, 83), (7, 84), (8, 85), (9, 86), (10, 87), (11, 88), (12, 76), (13, 89), (14, 90), (15, 9), (16, 10)] (fun l r X => Below W8.heap.size W8 X ∧ (l 11 = true → X.ownsRow W8.heap.size 5 1 r M (bytesL M (wrF key nonce L n inner)))) (fun r => (fun j => ([.slice (some ⟨kg, 0, none⟩) 34 kc, .slice (some ⟨kg, 0, none⟩) 32 kc, .pointer (some ⟨V.heap.size, 1, none⟩), .agg (bA 16 nonce), .pointer (some ⟨V.heap.size, 17, none⟩), .int .i64 (L : Int), .slice (some ⟨ig, 0, none⟩) (n + 2) ic, .pointer (some ⟨V.heap.size, 18, none⟩), .slice ia n icap, .int .i64 (n : Int), .slice (some ⟨ig, 0, none⟩) n ic, .tuple #[r, .int .i64 0], .tuple #[r, .int .i64 0], r, .int .i64 0, r, .int .i64 0] : List Value).getD j undef)) undef (by kernel_rfl) (by kernel_rfl) rfl (by kernel_rfl) (by decide) (by decide) ?_ ?_ ?_
      · exact ⟨(Below.refl _ _).drew, fun q => by cases q⟩
      · intro j hj l r a X hl hf hdep hl2 hcl hS
        have jx := JX.out X (BW.out.trans (hS.1.mono BW.out.size))
        match j, hj with
        | 0, _ => exact stepV rfl rfl (execMvB rfl (hf 5 (by decide))) ⟨r, ⟨_, rfl, rfl⟩, ⟨hS.1, fun q => hS.2 q⟩, fun _ _ _ => rfl⟩
        | 1, _ => exact stepV rfl rfl (By8.execSlH rfl (hdep _ rfl 0 rfl _ rfl _ rfl) rfl (sl_hn kg 34 kc 32 (by have := IC.out; omega) X)) ⟨r, ⟨_, rfl, rfl⟩, ⟨hS.1, fun q => hS.2 q⟩, fun _ _ _ => rfl⟩
        | 2, _ => exact stepV rfl rfl (execJ1 rfl (hf 1 (by decide))) ⟨r, ⟨_, rfl, rfl⟩, ⟨hS.1, fun q => hS.2 q⟩, fun _ _ _ => rfl⟩
        | 3, _ => exact stepV rfl rfl (execLdList (k := 16) (q := nonce) rfl (hdep _ rfl 2 rfl _ rfl _ rfl) (jC_at jx).2.1 Tryz.underlying23 rfl (by kernel_rfl)) ⟨r, ⟨_, rfl, rfl⟩, ⟨hS.1, fun q => hS.2 q⟩, fun _ _ _ => rfl⟩
        | 4, _ => exact stepV rfl rfl (execJ2 rfl (hf 1 (by decide))) ⟨r, ⟨_, rfl, rfl⟩, ⟨hS.1, fun q => hS.2 q⟩, fun _ _ _ => rfl⟩
        | 5, _ => exact stepV rfl rfl (execLdI rfl (hdep _ rfl 4 rfl _ rfl _ rfl) (jC_at jx).2.2.1) ⟨r, ⟨_, rfl, rfl⟩, ⟨hS.1, fun q => hS.2 q⟩, fun _ _ _ => rfl⟩
        | 6, _ => exact stepV rfl rfl (execMvB rfl (hf 6 (by decide))) ⟨r, ⟨_, rfl, rfl⟩, ⟨hS.1, fun q => hS.2 q⟩, fun _ _ _ => rfl⟩
        | 7, _ => exact stepV rfl rfl (execJ3 rfl (hf 1 (by decide))) ⟨r, ⟨_, rfl, rfl⟩, ⟨hS.1, fun q => hS.2 q⟩, fun _ _ _ => rfl⟩
        | 8, _ => exact stepV rfl rfl (execLdS rfl (hdep _ rfl 7 rfl _ rfl _ rfl) (jC_at jx).2.2.2) ⟨r, ⟨_, rfl, rfl⟩, ⟨hS.1, fun q => hS.2 q⟩, fun _ _ _ => rfl⟩
        | 9, _ => exact stepV rfl rfl (execLenV (len := n) rfl (hdep _ rfl 8 rfl _ rfl _ rfl) ⟨_, _, rfl⟩) ⟨r, ⟨_, rfl, rfl⟩, ⟨hS.1, fun q => hS.2 q⟩, fun _ _ _ => rfl⟩
        | 10, _ => exact stepV rfl rfl (By8.execSlH rfl (hdep _ rfl 6 rfl _ rfl _ rfl) (hdep _ rfl 9 rfl _ rfl _ rfl) (sl_hn ig (n + 2) ic n (by have := IC.out; omega) X)) ⟨r, ⟨_, rfl, rfl⟩, ⟨hS.1, fun q => hS.2 q⟩, fun _ _ _ => rfl⟩
        | 11, _ =>
          refine stepC rfl rfl (execCall4 Tryz.func6 (by kernel_rfl) (by kernel_rfl) rfl (hdep _ rfl 1 rfl _ rfl _ rfl) (hdep _ rfl 3 rfl _ rfl _ rfl) (hdep _ rfl 5 rfl _ rfl _ rfl) (hdep _ rfl 10 rfl _ rfl _ rfl)) (PW.out X _ _ key (BW.out.trans (hS.1.mono BW.out.size)) (SK.out X hS.1).1 (SK.out X hS.1).2) fun e w' hh => ?_
          obtain ⟨r', e1, own', bw⟩ := hh
          refine ⟨_, e1, r', ⟨_, rfl, rfl⟩, ⟨hS.1.trans (bw.mono hS.1.size), fun _ => own_base own' hS.1.size⟩, fun i hi hli => ?_⟩
          match i, hi with
          | 0, _ | 1, _ | 2, _ | 3, _ | 4, _ | 5, _ | 6, _ | 7, _ | 8, _ | 9, _ | 10, _ | 14, _ | 16, _ => rfl
          | 11, _ => exact absurd (hl.symm.trans hli) (by decide)
          | 12, _ => exact absurd (hl.symm.trans (hcl 12 _ rfl hli 11 rfl)) (by decide)
          | 13, _ => exact absurd (hl.symm.trans (hcl 12 _ rfl (hcl 13 _ rfl hli 12 rfl) 11 rfl)) (by decide)
          | 15, _ => exact absurd (hl.symm.trans (hcl 12 _ rfl (hcl 13 _ rfl (hcl 15 _ rfl hli 13 rfl) 12 rfl) 11 rfl)) (by decide)
          | k + 17, h => exact absurd h (by simp)
        | 12, _ => exact stepV rfl rfl (execMvB rfl (hdep _ rfl 11 rfl _ rfl _ rfl)) ⟨r, ⟨_, rfl, rfl⟩, ⟨hS.1, fun q => hS.2 q⟩, fun _ _ _ => rfl⟩
        | 13, _ => exact stepV rfl rfl (execExt rfl (hdep _ rfl 12 rfl _ rfl _ rfl) rfl) ⟨r, ⟨_, rfl, rfl⟩, ⟨hS.1, fun q => hS.2 q⟩, fun _ _ _ => rfl⟩
        | 14, _ => exact stepV rfl rfl (execExt rfl (hdep _ rfl 12 rfl _ rfl _ rfl) rfl) ⟨r, ⟨_, rfl, rfl⟩, ⟨hS.1, fun q => hS.2 q⟩, fun _ _ _ => rfl⟩
        | 15, _ => exact stepV rfl rfl (execAsgB rfl (hdep _ rfl 13 rfl _ rfl _ rfl)) ⟨r, ⟨_, rfl, rfl⟩, ⟨hS.1, fun q => hS.2 q⟩, fun _ _ _ => rfl⟩
        | 16, _ => exact stepV rfl rfl (execAsgB rfl (hdep _ rfl 14 rfl _ rfl _ rfl)) ⟨r, ⟨_, rfl, rfl⟩, ⟨hS.1, fun q => hS.2 q⟩, fun _ _ _ => rfl⟩
        | k + 17, h => exact absurd h (by simp)
      · intro l rb W9 hall hS
        have own9 := hS.2 (hall 11 (by decide))
        have b9 := hS.1
        rw [HN.out.2.2.2.2.1] at own9
        obtain ⟨bg, bc, rfl, _, bcp, _⟩ := own_cells own9 (by have := HN.out; omega)
        have F9 : Hid (Fam V1.heap.size 5 (updX (updX (updX (updX (updX (fun _ => undef) 0 (.slice (some ⟨wg, 0, none⟩) M wc)) 1 (.slice (some ⟨kg, 0, none⟩) 34 kc)) 2 (.slice (some ⟨ig, 0, none⟩) (n + 2) ic)) 3 (.slice (some ⟨ag, 0, none⟩) M ac)) 4 (.slice (some ⟨bg, 0, none⟩) M bc)) (kN M n) (kF key inner on nx M n) W9 ∧ Below V1.heap.size V1 W9) := ⟨F8.out.1.add b9 F8.out.2.size own9, F8.out.2.trans (b9.mono F8.out.2.size)⟩
        clear hall hS own9 b9 SK BW bcp
        simp only [putP, List.getD_cons_zero, List.getD_cons_succ, Act.put, List.setIfInBounds_toArray, List.set_cons_succ, List.set_cons_zero]
        have SL : Hid (∀ X, Below W9.heap.size W9 X → SliceN X (.slice (some ⟨wg, 0, none⟩) M wc) M on ∧ SliceN X (.slice (some ⟨ag, 0, none⟩) M ac) M on ∧ SliceN X (.slice (some ⟨bg, 0, none⟩) M bc) M on) := fun X hX => ⟨(own_slice (F9.out.1.rows 0 (by omega)) fun j _ => HN.out.2.2.2.1 j).on hX, (own_slice (F9.out.1.rows 3 (by omega)) fun j _ => HN.out.2.2.2.1 j).on hX, (own_slice (F9.out.1.rows 4 (by omega)) fun j _ => HN.out.2.2.2.1 j).on hX⟩
        have Mi : (M : Int) ≤ 320 := by have := HN.out; omega
        go_wp2_with (first
          | (refine wpList_ex rfl (By8.execStr (l := M) (p := on) rfl rfl (by first | exact (SL.out W9 (Below.refl _ _)).1 | exact (SL.out W9 (Below.refl _ _)).2.1 | exact (SL.out W9 (Below.refl _ _)).2.2)) ?_)
          | (refine wpList_ex rfl (By8.execNeqS rfl rfl rfl) ?_)
          | (refine atAppB (.tmp 111) (.tmp 112) rfl ?_; go_must (refine By8.wpList_appS (B := W9.heap.size) (n := 0) (m := M) (p := cZ M on) rfl (.tmp 111) (.tmp 112) rfl rfl rfl (own_none W9 (cZ M on)) (sliceN_cg (SL.out _ (belNew W9 _)).1 (fun j hj => by rw [Nat.zero_add]; unfold cZ; rw [if_pos hj])) (fun l c e => by cases e) (by have := HN.out; omega) (belNew W9 _).size ?_; intro u10 W10 own10 gr10; have b10 : Below W9.heap.size W9 W10 := below_grown (belNew W9 _) (belNew W9 _).size (own_none W9 (cZ M on)) gr10; rw [Nat.zero_add] at own10; obtain ⟨dg, dc, rfl, _⟩ := own_cells own10 (by have := HN.out; omega); have O10 : Hid (W10.ownsRow W9.heap.size 5 1 (.slice (some ⟨dg, 0, none⟩) M dc) M (bytesL M (cZ M on)) ∧ Below W9.heap.size W9 W10) := ⟨own10, b10⟩; clear own10 gr10 b10))
          | (refine wpList_ex rfl (By8.execSubI (p := 320) (q := M) rfl rfl rfl (by have := HN.out; omega) (by omega)) ?_)
          | (refine wpList_ex rfl (execAddI (p := 320 - M) (q := 2) rfl rfl rfl (by omega) (by omega)) ?_)
          | (refine wpList_appMk (B := W9.heap.size) (n := M) (m := 320 - M + 2) (p := cZ M on) rfl (.tmp 113) (.tmp 117) rfl rfl rfl O10.out.1 (fun j _ => by unfold cZ; rw [if_neg (by omega)]) (by have := HN.out; omega) (by omega) (by omega) (by have := HN.out; omega) O10.out.2.size ?_; intro u11 W11 own11 gr11; have b11 : Below W9.heap.size W9 W11 := below_grown O10.out.2 O10.out.2.size O10.out.1 gr11; rw [show M + (320 - M + 2) = 322 by have := HN.out; omega] at own11; obtain ⟨cg, cc, rfl, cB, ccp, _⟩ := own_cells own11 (by omega); obtain ⟨cu, hcu⟩ := own_type own11 (k := cg) rfl; have O11 : Hid (W11.ownsRow W9.heap.size 5 1 (.slice (some ⟨cg, 0, none⟩) 322 cc) 322 (bytesL 322 (cZ M on)) ∧ Below W9.heap.size W9 W11 ∧ W9.heap.size ≤ cg ∧ 322 ≤ cc ∧ W11.heap[cg]? = some (.cells cu 5)) := ⟨own11, b11, cB, ccp, hcu⟩; clear own11 gr11 b11 cB ccp hcu)
          | (refine wpList_ex rfl (execIdxS0 (x := .tmp 119) (k := 320) rfl rfl rfl (by omega)) ?_)
          | (refine wpList_ex rfl (execIdxS0 (x := .tmp 120) (k := 321) rfl rfl rfl (by omega)) ?_)
          | (refine atStore 5 (.tmp 121) (.const (.int .u8 165)) rfl ?_; go_must (refine wpList_exS rfl (execStB rfl rfl rfl (own_at O11.out.1 (show 320 < 322 by omega)) (frozen4 O11.out.2.2.2.2)) ?_; obtain ⟨W12, hW12⟩ : ∃ W12, W11.setCell ⟨cg, 320, none⟩ (.int .u8 165) = W12 := ⟨_, rfl⟩; have own12 := own_set (m := 320) 165 O11.out.1; have b12 := O11.out.2.1.setCell (p := ⟨cg, 320, none⟩) O11.out.2.2.1 (.int .u8 165); rw [show ((165 : Nat) : Int) = 165 from rfl, hW12] at own12; rw [hW12] at b12 ⊢; obtain ⟨cv, hcv⟩ := own_type own12 (k := cg) rfl; have O12 : Hid (W12.ownsRow W9.heap.size 5 1 (.slice (some ⟨cg, 0, none⟩) 322 cc) 322 (bytesL 322 fun j => if j = 320 then 165 else cZ M on j) ∧ Below W9.heap.size W9 W12 ∧ W12.heap[cg]? = some (.cells cv 5)) := ⟨own12, b12, hcv⟩; clear own12 b12 hcv hW12))
          | (refine atStore 5 (.tmp 122) (.const (.int .u8 166)) rfl ?_; go_must (refine wpList_exS rfl (execStB rfl rfl rfl (own_at O12.out.1 (show 321 < 322 by omega)) (frozen4 O12.out.2.2)) ?_; obtain ⟨W13, hW13⟩ : ∃ W13, W12.setCell ⟨cg, 321, none⟩ (.int .u8 166) = W13 := ⟨_, rfl⟩; have own13 := own_set (m := 321) 166 O12.out.1; have b13 := O12.out.2.1.setCell (p := ⟨cg, 321, none⟩) O11.out.2.2.1 (.int .u8 166); rw [show ((166 : Nat) : Int) = 166 from rfl, hW13] at own13; rw [hW13] at b13 ⊢; rw [cZ_Q (by have := HN.out; omega)] at own13; have F13 : Hid (Fam V1.heap.size 6 (updX (updX (updX (updX (updX (updX (fun _ => undef) 0 (.slice (some ⟨wg, 0, none⟩) M wc)) 1 (.slice (some ⟨kg, 0, none⟩) 34 kc)) 2 (.slice (some ⟨ig, 0, none⟩) (n + 2) ic)) 3 (.slice (some ⟨ag, 0, none⟩) M ac)) 4 (.slice (some ⟨bg, 0, none⟩) M bc)) 5 (.slice (some ⟨cg, 0, none⟩) 322 cc)) (kN M n) (kF key inner on nx M n) W13 ∧ Below V1.heap.size V1 W13 ∧ 322 ≤ cc) := ⟨F9.out.1.add b13 F9.out.2.size own13, F9.out.2.trans (b13.mono F9.out.2.size), O11.out.2.2.2.1⟩; clear own13 b13 hW13)))
        have BW : Hid (Below V1.heap.size V1 W13) := F13.out.2.1
        have SC : Hid (∀ X, Below W13.heap.size W13 X → SliceN X (.slice (some ⟨kg, 0, none⟩) 32 kc) 32 key ∧ SliceZ X (.slice (some ⟨cg, 0, none⟩) 320 cc) 320 cw) := fun X hX => by
          have k1 := own_slice (F13.out.1.rows 1 (by omega)) HN.out.2.2.2.2.2.1
          have k2 := own_slice (F13.out.1.rows 5 (by omega)) (fun j _ => cQ_lt HN.out.2.2.2.1 j)
          exact ⟨sliceN_cg ((takeN k1 (show 32 ≤ 34 by omega)).on hX) fun j hj => if_pos hj, ⟨sliceN_cg ((takeN k2 (show 320 ≤ 322 by omega)).on hX) fun j hj => CW.out.1 j hj, fun l c e => by cases e⟩⟩
        refine wp_region_st (σ := Value × Nat) 406 [(0, 124), (1, 125), (2, 126), (3, 127), (4, 128), (5, 129), (6, 130), (7, 123), (8, 131), (9, 132), (10, 12), (12, 13)] (fun l s X => Below W13.heap.size W13 X ∧ (l 6 = true → X.ownsRow W13.heap.size 5 1 s.1 320 (bytesL 320 nx)) ∧ (l 10 = true → W13.heap.size ≤ s.2 ∧ X.heap[s.2]? = some (.cells (if l 11 = true then pC s.1 T else pC (.slice none 0 0) fun _ => 0) 33))) (fun s => (fun j => ([.slice (some ⟨kg, 0, none⟩) 34 kc, .slice (some ⟨kg, 0, none⟩) 32 kc, .pointer (some ⟨V.heap.size, 17, none⟩), .int .i64 (L : Int), .slice (some ⟨cg, 0, none⟩) 322 cc, .slice (some ⟨cg, 0, none⟩) 320 cc, .tuple #[.agg (pC s.1 T), .int .i64 0], .tuple #[.agg (pC s.1 T), .int .i64 0], .agg (pC s.1 T), .int .i64 0, .pointer (some ⟨s.2, 0, none⟩), undef, .int .i64 0] : List Value).getD j undef)) (undef, 0) (by kernel_rfl) (by kernel_rfl) rfl (by kernel_rfl) (by decide) (by decide) ?_ ?_ ?_
        · exact ⟨(Below.refl _ _).drew, (fun q => by cases q), (fun q => by cases q)⟩
        · intro j hj l s a X hl hf hdep hl2 hcl hS
          have jx := JX.out X (BW.out.trans (hS.1.mono BW.out.size))
          match j, hj with
          | 0, _ => exact stepV rfl rfl (execMvB rfl (hf 5 (by decide))) ⟨s, ⟨_, rfl, rfl⟩, ⟨hS.1, fun q => hS.2.1 q, fun q => hS.2.2 q⟩, fun _ _ _ => rfl⟩
          | 1, _ => exact stepV rfl rfl (By8.execSlH rfl (hdep _ rfl 0 rfl _ rfl _ rfl) rfl (sl_hn kg 34 kc 32 (by have := IC.out; omega) X)) ⟨s, ⟨_, rfl, rfl⟩, ⟨hS.1, fun q => hS.2.1 q, fun q => hS.2.2 q⟩, fun _ _ _ => rfl⟩
          | 2, _ => exact stepV rfl rfl (execJ2 rfl (hf 1 (by decide))) ⟨s, ⟨_, rfl, rfl⟩, ⟨hS.1, fun q => hS.2.1 q, fun q => hS.2.2 q⟩, fun _ _ _ => rfl⟩
          | 3, _ => exact stepV rfl rfl (execLdI rfl (hdep _ rfl 2 rfl _ rfl _ rfl) (jC_at jx).2.2.1) ⟨s, ⟨_, rfl, rfl⟩, ⟨hS.1, fun q => hS.2.1 q, fun q => hS.2.2 q⟩, fun _ _ _ => rfl⟩
          | 4, _ => exact stepV rfl rfl (execMvB rfl (hf 11 (by decide))) ⟨s, ⟨_, rfl, rfl⟩, ⟨hS.1, fun q => hS.2.1 q, fun q => hS.2.2 q⟩, fun _ _ _ => rfl⟩
          | 5, _ => exact stepV rfl rfl (By8.execSlH rfl (hdep _ rfl 4 rfl _ rfl _ rfl) rfl (sl_hn cg 322 cc 320 (by have := F13.out.2.2; omega) X)) ⟨s, ⟨_, rfl, rfl⟩, ⟨hS.1, fun q => hS.2.1 q, fun q => hS.2.2 q⟩, fun _ _ _ => rfl⟩
          | 6, _ =>
            have n11 : l 11 = false := by
              cases q : l 11 with
              | false => rfl
              | true => exact absurd (hl.symm.trans (hcl 7 _ rfl (hcl 8 _ rfl (hcl 11 _ rfl q 8 rfl) 7 rfl) 6 rfl)) (by decide)
            refine stepC rfl rfl (execCall3 Tryz.func7 (by kernel_rfl) (by kernel_rfl) rfl (hdep _ rfl 1 rfl _ rfl _ rfl) (hdep _ rfl 3 rfl _ rfl _ rfl) (hdep _ rfl 5 rfl _ rfl _ rfl)) (PE.out X _ _ (BW.out.trans (hS.1.mono BW.out.size)) (SC.out X hS.1).1 (SC.out X hS.1).2) fun e w' hh => ?_
            obtain ⟨r', e1, own', bw⟩ := hh
            refine ⟨_, e1, (r', s.2), ⟨_, rfl, rfl⟩, ⟨hS.1.trans (bw.mono hS.1.size), fun _ => own_base own' hS.1.size, fun q => ?_⟩, fun i hi hli => ?_⟩
            · have q' : l 10 = true := q
              obtain ⟨q1, q2⟩ := hS.2.2 q'
              refine ⟨q1, ?_⟩
              show w'.heap[s.2]? = some (.cells (if l 11 = true then pC r' T else pC (.slice none 0 0) fun _ => 0) 33)
              rw [n11] at q2 ⊢
              rw [bw.block _ (Array.getElem?_eq_some_iff.1 q2).1]
              exact q2
            · match i, hi with
              | 0, _ | 1, _ | 2, _ | 3, _ | 4, _ | 5, _ | 9, _ | 10, _ | 11, _ | 12, _ => rfl
              | 6, _ => exact absurd (hl.symm.trans hli) (by decide)
              | 7, _ => exact absurd (hl.symm.trans (hcl 7 _ rfl hli 6 rfl)) (by decide)
              | 8, _ => exact absurd (hl.symm.trans (hcl 7 _ rfl (hcl 8 _ rfl hli 7 rfl) 6 rfl)) (by decide)
              | k + 13, h => exact absurd h (by simp)
          | 7, _ => exact stepV rfl rfl (execMvB rfl (hdep _ rfl 6 rfl _ rfl _ rfl)) ⟨s, ⟨_, rfl, rfl⟩, ⟨hS.1, fun q => hS.2.1 q, fun q => hS.2.2 q⟩, fun _ _ _ => rfl⟩
          | 8, _ => exact stepV rfl rfl (execExt rfl (hdep _ rfl 7 rfl _ rfl _ rfl) rfl) ⟨s, ⟨_, rfl, rfl⟩, ⟨hS.1, fun q => hS.2.1 q, fun q => hS.2.2 q⟩, fun _ _ _ => rfl⟩
          | 9, _ => exact stepV rfl rfl (execExt rfl (hdep _ rfl 7 rfl _ rfl _ rfl) rfl) ⟨s, ⟨_, rfl, rfl⟩, ⟨hS.1, fun q => hS.2.1 q, fun q => hS.2.2 q⟩, fun _ _ _ => rfl⟩
          | 10, _ =>
            have n11 : l 11 = false := by
              cases q : l 11 with
              | false => rfl
              | true => exact absurd (hl.symm.trans (hcl 11 _ rfl q 10 rfl)) (by decide)
            refine stepV rfl rfl (execAlP rfl) ⟨(s.1, X.heap.size), ⟨_, rfl, rfl⟩, ⟨hS.1.trans ((belNew X _).mono hS.1.size), fun q => ownsRow_below (hS.2.1 q) (belNew X _), fun _ => ⟨hS.1.size, ?_⟩⟩, fun i hi hli => ?_⟩
            · show (X.alloc _).heap[X.heap.size]? = some (.cells (if l 11 = true then pC s.1 T else pC (.slice none 0 0) fun _ => 0) 33)
              rw [n11]
              exact heapNew X _
            · match i, hi with
              | 0, _ | 1, _ | 2, _ | 3, _ | 4, _ | 5, _ | 6, _ | 7, _ | 8, _ | 9, _ | 11, _ | 12, _ => rfl
              | 10, _ => exact absurd (hl.symm.trans hli) (by decide)
              | k + 13, h => exact absurd h (by simp)
          | 11, _ =>
            have l6 : l 6 = true := hcl 7 _ rfl (hcl 8 _ rfl (hl2 _ rfl 8 rfl) 7 rfl) 6 rfl
            obtain ⟨q1, q2⟩ := hS.2.2 (hl2 _ rfl 10 rfl)
            rw [hl] at q2
            have q2 : X.heap[s.2]? = some (.cells (pC (.slice none 0 0) fun _ => 0) 33) := q2
            have own := hS.2.1 l6
            refine stepS rfl rfl (execStAll (cells := pC s.1 T) rfl (hdep _ rfl 10 rfl _ rfl _ rfl) (hdep _ rfl 8 rfl _ rfl _ rfl) q2 (by rw [pC_size, pC_size]) (sizeP _ _) (pC_one _ (own_oneCell own))) ⟨s, ⟨_, rfl, rfl⟩, ⟨below4 hS.1 q1 _, fun _ => own_setRow own q2 (by decide), fun _ => ⟨q1, ?_⟩⟩, fun _ _ _ => rfl⟩
            exact setRow_heap _ _ _ _ _ _ q2
          | 12, _ => exact stepV rfl rfl (execAsgB rfl (hdep _ rfl 9 rfl _ rfl _ rfl)) ⟨s, ⟨_, rfl, rfl⟩, ⟨hS.1, fun q => hS.2.1 q, fun q => hS.2.2 q⟩, fun _ _ _ => rfl⟩
          | k + 13, h => exact absurd h (by simp)
        · intro l s W14 hall hS
          obtain ⟨xv, xI⟩ := s
          have own14 : W14.ownsRow W13.heap.size 5 1 xv 320 (bytesL 320 nx) := hS.2.1 (hall 6 (by decide))
          have b14 := hS.1
          obtain ⟨_, rx⟩ := hS.2.2 (hall 10 (by decide))
          rw [hall 11 (by decide), if_pos rfl] at rx
          have rx : W14.heap[xI]? = some (.cells (pC xv T) 33) := rx
          obtain ⟨xg, xc, rfl, _, xcp, _⟩ := own_cells own14 (by omega)
          have F14 : Hid (Fam V1.heap.size 7 (updX (updX (updX (updX (updX (updX (updX (fun _ => undef) 0 (.slice (some ⟨wg, 0, none⟩) M wc)) 1 (.slice (some ⟨kg, 0, none⟩) 34 kc)) 2 (.slice (some ⟨ig, 0, none⟩) (n + 2) ic)) 3 (.slice (some ⟨ag, 0, none⟩) M ac)) 4 (.slice (some ⟨bg, 0, none⟩) M bc)) 5 (.slice (some ⟨cg, 0, none⟩) 322 cc)) 6 (.slice (some ⟨xg, 0, none⟩) 320 xc)) (kN M n) (kF key inner on nx M n) W14 ∧ Below V1.heap.size V1 W14 ∧ W14.heap[xI]? = some (.cells (pC (.slice (some ⟨xg, 0, none⟩) 320 xc) T) 33)) := ⟨F13.out.1.add b14 F13.out.2.1.size own14, F13.out.2.1.trans (b14.mono F13.out.2.1.size), rx⟩
          clear hall hS own14 b14 SC BW xcp rx
          simp only [putP, List.getD_cons_zero, List.getD_cons_succ, Act.put, List.setIfInBounds_toArray, List.set_cons_succ, List.set_cons_zero]
          go_wp2_with fail
          have BW : Hid (Below V1.heap.size V1 W14) := F14.out.2.1
          have SC : Hid (∀ X, Below W14.heap.size W14 X → SliceN X (.slice (some ⟨kg, 0, none⟩) 32 kc) 32 key ∧ SliceZ X (.slice (some ⟨cg, 0, none⟩) 320 cc) 320 cw) := fun X hX => by
            have k1 := own_slice (F14.out.1.rows 1 (by omega)) HN.out.2.2.2.2.2.1
            have k2 := own_slice (F14.out.1.rows 5 (by omega)) (fun j _ => cQ_lt HN.out.2.2.2.1 j)
            exact ⟨sliceN_cg ((takeN k1 (show 32 ≤ 34 by omega)).on hX) fun j hj => if_pos hj, ⟨sliceN_cg ((takeN k2 (show 320 ≤ 322 by omega)).on hX) fun j hj => CW.out.1 j hj, fun l c e => by cases e⟩⟩
          refine wp_region_st (σ := Value × Nat) 406 [(0, 134), (1, 135), (2, 136), (3, 137), (4, 138), (5, 139), (6, 140), (7, 133), (8, 141), (9, 142), (10, 14), (12, 15)] (fun l s X => Below W14.heap.size W14 X ∧ (l 6 = true → X.ownsRow W14.heap.size 5 1 s.1 320 (bytesL 320 nx)) ∧ (l 10 = true → W14.heap.size ≤ s.2 ∧ X.heap[s.2]? = some (.cells (if l 11 = true then pC s.1 T else pC (.slice none 0 0) fun _ => 0) 33))) (fun s => (fun j => ([.slice (some ⟨kg, 0, none⟩) 34 kc, .slice (some ⟨kg, 0, none⟩) 32 kc, .pointer (some ⟨V.heap.size, 17, none⟩), .int .i64 (L : Int), .slice (some ⟨cg, 0, none⟩) 322 cc, .slice (some ⟨cg, 0, none⟩) 320 cc, .tuple #[.agg (pC s.1 T), .int .i64 0], .tuple #[.agg (pC s.1 T), .int .i64 0], .agg (pC s.1 T), .int .i64 0, .pointer (some ⟨s.2, 0, none⟩), undef, .int .i64 0] : List Value).getD j undef)) (undef, 0) (by kernel_rfl) (by kernel_rfl) rfl (by kernel_rfl) (by decide) (by decide) ?_ ?_ ?_
          · exact ⟨(Below.refl _ _).drew, (fun q => by cases q), (fun q => by cases q)⟩
          · intro j hj l s a X hl hf hdep hl2 hcl hS
            have jx := JX.out X (BW.out.trans (hS.1.mono BW.out.size))
            match j, hj with
            | 0, _ => exact stepV rfl rfl (execMvB rfl (hf 5 (by decide))) ⟨s, ⟨_, rfl, rfl⟩, ⟨hS.1, fun q => hS.2.1 q, fun q => hS.2.2 q⟩, fun _ _ _ => rfl⟩
            | 1, _ => exact stepV rfl rfl (By8.execSlH rfl (hdep _ rfl 0 rfl _ rfl _ rfl) rfl (sl_hn kg 34 kc 32 (by have := IC.out; omega) X)) ⟨s, ⟨_, rfl, rfl⟩, ⟨hS.1, fun q => hS.2.1 q, fun q => hS.2.2 q⟩, fun _ _ _ => rfl⟩
            | 2, _ => exact stepV rfl rfl (execJ2 rfl (hf 1 (by decide))) ⟨s, ⟨_, rfl, rfl⟩, ⟨hS.1, fun q => hS.2.1 q, fun q => hS.2.2 q⟩, fun _ _ _ => rfl⟩
            | 3, _ => exact stepV rfl rfl (execLdI rfl (hdep _ rfl 2 rfl _ rfl _ rfl) (jC_at jx).2.2.1) ⟨s, ⟨_, rfl, rfl⟩, ⟨hS.1, fun q => hS.2.1 q, fun q => hS.2.2 q⟩, fun _ _ _ => rfl⟩
            | 4, _ => exact stepV rfl rfl (execMvB rfl (hf 11 (by decide))) ⟨s, ⟨_, rfl, rfl⟩, ⟨hS.1, fun q => hS.2.1 q, fun q => hS.2.2 q⟩, fun _ _ _ => rfl⟩
            | 5, _ => exact stepV rfl rfl (By8.execSlH rfl (hdep _ rfl 4 rfl _ rfl _ rfl) rfl (sl_hn cg 322 cc 320 (by have := F13.out.2.2; omega) X)) ⟨s, ⟨_, rfl, rfl⟩, ⟨hS.1, fun q => hS.2.1 q, fun q => hS.2.2 q⟩, fun _ _ _ => rfl⟩
            | 6, _ =>
              have n11 : l 11 = false := by
                cases q : l 11 with
                | false => rfl
                | true => exact absurd (hl.symm.trans (hcl 7 _ rfl (hcl 8 _ rfl (hcl 11 _ rfl q 8 rfl) 7 rfl) 6 rfl)) (by decide)
              refine stepC rfl rfl (execCall3 Tryz.func7 (by kernel_rfl) (by kernel_rfl) rfl (hdep _ rfl 1 rfl _ rfl _ rfl) (hdep _ rfl 3 rfl _ rfl _ rfl) (hdep _ rfl 5 rfl _ rfl _ rfl)) (PE.out X _ _ (BW.out.trans (hS.1.mono BW.out.size)) (SC.out X hS.1).1 (SC.out X hS.1).2) fun e w' hh => ?_
              obtain ⟨r', e1, own', bw⟩ := hh
              refine ⟨_, e1, (r', s.2), ⟨_, rfl, rfl⟩, ⟨hS.1.trans (bw.mono hS.1.size), fun _ => own_base own' hS.1.size, fun q => ?_⟩, fun i hi hli => ?_⟩
              · have q' : l 10 = true := q
                obtain ⟨q1, q2⟩ := hS.2.2 q'
                refine ⟨q1, ?_⟩
                show w'.heap[s.2]? = some (.cells (if l 11 = true then pC r' T else pC (.slice none 0 0) fun _ => 0) 33)
                rw [n11] at q2 ⊢
                rw [bw.block _ (Array.getElem?_eq_some_iff.1 q2).1]
                exact q2
              · match i, hi with
                | 0, _ | 1, _ | 2, _ | 3, _ | 4, _ | 5, _ | 9, _ | 10, _ | 11, _ | 12, _ => rfl
                | 6, _ => exact absurd (hl.symm.trans hli) (by decide)
                | 7, _ => exact absurd (hl.symm.trans (hcl 7 _ rfl hli 6 rfl)) (by decide)
                | 8, _ => exact absurd (hl.symm.trans (hcl 7 _ rfl (hcl 8 _ rfl hli 7 rfl) 6 rfl)) (by decide)
                | k + 13, h => exact absurd h (by simp)
            | 7, _ => exact stepV rfl rfl (execMvB rfl (hdep _ rfl 6 rfl _ rfl _ rfl)) ⟨s, ⟨_, rfl, rfl⟩, ⟨hS.1, fun q => hS.2.1 q, fun q => hS.2.2 q⟩, fun _ _ _ => rfl⟩
            | 8, _ => exact stepV rfl rfl (execExt rfl (hdep _ rfl 7 rfl _ rfl _ rfl) rfl) ⟨s, ⟨_, rfl, rfl⟩, ⟨hS.1, fun q => hS.2.1 q, fun q => hS.2.2 q⟩, fun _ _ _ => rfl⟩
            | 9, _ => exact stepV rfl rfl (execExt rfl (hdep _ rfl 7 rfl _ rfl _ rfl) rfl) ⟨s, ⟨_, rfl, rfl⟩, ⟨hS.1, fun q => hS.2.1 q, fun q => hS.2.2 q⟩, fun _ _ _ => rfl⟩
            | 10, _ =>
              have n11 : l 11 = false := by
                cases q : l 11 with
                | false => rfl
                | true => exact absurd (hl.symm.trans (hcl 11 _ rfl q 10 rfl)) (by decide)
              refine stepV rfl rfl (execAlP rfl) ⟨(s.1, X.heap.size), ⟨_, rfl, rfl⟩, ⟨hS.1.trans ((belNew X _).mono hS.1.size), fun q => ownsRow_below (hS.2.1 q) (belNew X _), fun _ => ⟨hS.1.size, ?_⟩⟩, fun i hi hli => ?_⟩
              · show (X.alloc _).heap[X.heap.size]? = some (.cells (if l 11 = true then pC s.1 T else pC (.slice none 0 0) fun _ => 0) 33)
                rw [n11]
                exact heapNew X _
              · match i, hi with
                | 0, _ | 1, _ | 2, _ | 3, _ | 4, _ | 5, _ | 6, _ | 7, _ | 8, _ | 9, _ | 11, _ | 12, _ => rfl
                | 10, _ => exact absurd (hl.symm.trans hli) (by decide)
                | k + 13, h => exact absurd h (by simp)
            | 11, _ =>
              have l6 : l 6 = true := hcl 7 _ rfl (hcl 8 _ rfl (hl2 _ rfl 8 rfl) 7 rfl) 6 rfl
              obtain ⟨q1, q2⟩ := hS.2.2 (hl2 _ rfl 10 rfl)
              rw [hl] at q2
              have q2 : X.heap[s.2]? = some (.cells (pC (.slice none 0 0) fun _ => 0) 33) := q2
              have own := hS.2.1 l6
              refine stepS rfl rfl (execStAll (cells := pC s.1 T) rfl (hdep _ rfl 10 rfl _ rfl _ rfl) (hdep _ rfl 8 rfl _ rfl _ rfl) q2 (by rw [pC_size, pC_size]) (sizeP _ _) (pC_one _ (own_oneCell own))) ⟨s, ⟨_, rfl, rfl⟩, ⟨below4 hS.1 q1 _, fun _ => own_setRow own q2 (by decide), fun _ => ⟨q1, ?_⟩⟩, fun _ _ _ => rfl⟩
              exact setRow_heap _ _ _ _ _ _ q2
            | 12, _ => exact stepV rfl rfl (execAsgB rfl (hdep _ rfl 9 rfl _ rfl _ rfl)) ⟨s, ⟨_, rfl, rfl⟩, ⟨hS.1, fun q => hS.2.1 q, fun q => hS.2.2 q⟩, fun _ _ _ => rfl⟩
            | k + 13, h => exact absurd h (by simp)
          · intro l s W15 hall hS
            obtain ⟨yv, yI⟩ := s
            have own15 : W15.ownsRow W14.heap.size 5 1 yv 320 (bytesL 320 nx) := hS.2.1 (hall 6 (by decide))
            have b15 := hS.1
            obtain ⟨_, ry⟩ := hS.2.2 (hall 10 (by decide))
            rw [hall 11 (by decide), if_pos rfl] at ry
            have ry : W15.heap[yI]? = some (.cells (pC yv T) 33) := ry
            obtain ⟨yg, yc, rfl, _, ycp, _⟩ := own_cells own15 (by omega)
            have F15 : Hid (Fam V1.heap.size 8 (updX (updX (updX (updX (updX (updX (updX (updX (fun _ => undef) 0 (.slice (some ⟨wg, 0, none⟩) M wc)) 1 (.slice (some ⟨kg, 0, none⟩) 34 kc)) 2 (.slice (some ⟨ig, 0, none⟩) (n + 2) ic)) 3 (.slice (some ⟨ag, 0, none⟩) M ac)) 4 (.slice (some ⟨bg, 0, none⟩) M bc)) 5 (.slice (some ⟨cg, 0, none⟩) 322 cc)) 6 (.slice (some ⟨xg, 0, none⟩) 320 xc)) 7 (.slice (some ⟨yg, 0, none⟩) 320 yc)) (kN M n) (kF key inner on nx M n) W15 ∧ Below V1.heap.size V1 W15 ∧ W15.heap[xI]? = some (.cells (pC (.slice (some ⟨xg, 0, none⟩) 320 xc) T) 33) ∧ W15.heap[yI]? = some (.cells (pC (.slice (some ⟨yg, 0, none⟩) 320 yc) T) 33)) := ⟨F14.out.1.add b15 F14.out.2.1.size own15, F14.out.2.1.trans (b15.mono F14.out.2.1.size), by rw [b15.block _ (Array.getElem?_eq_some_iff.1 F14.out.2.2).1]; exact F14.out.2.2, ry⟩
            clear hall hS own15 b15 SC BW ycp ry
            simp only [putP, List.getD_cons_zero, List.getD_cons_succ, Act.put, List.setIfInBounds_toArray, List.set_cons_succ, List.set_cons_zero]
            go_wp2_with fail
            have BW : Hid (Below V1.heap.size V1 W15) := F15.out.2.1
            have SC : Hid (∀ X, Below W15.heap.size W15 X → SliceN X (.slice (some ⟨kg, 0, none⟩) 32 kc) 32 key ∧ SliceZ X (.slice (some ⟨cg, 0, none⟩) 320 cc) 320 cw) := fun X hX => by
              have k1 := own_slice (F15.out.1.rows 1 (by omega)) HN.out.2.2.2.2.2.1
              have k2 := own_slice (F15.out.1.rows 5 (by omega)) (fun j _ => cQ_lt HN.out.2.2.2.1 j)
              exact ⟨sliceN_cg ((takeN k1 (show 32 ≤ 34 by omega)).on hX) fun j hj => if_pos hj, ⟨sliceN_cg ((takeN k2 (show 320 ≤ 322 by omega)).on hX) fun j hj => CW.out.1 j hj, fun l c e => by cases e⟩⟩
            refine wp_region_st (σ := Value × Nat) 406 [(0, 144), (1, 145), (2, 146), (3, 147), (4, 148), (5, 149), (6, 150), (7, 143), (8, 151), (9, 152), (10, 16), (12, 17)] (fun l s X => Below W15.heap.size W15 X ∧ (l 6 = true → X.ownsRow W15.heap.size 5 1 s.1 320 (bytesL 320 nx)) ∧ (l 10 = true → W15.heap.size ≤ s.2 ∧ X.heap[s.2]? = some (.cells (if l 11 = true then pC s.1 T else pC (.slice none 0 0) fun _ => 0) 33))) (fun s => (fun j => ([.pointer (some ⟨V.heap.size, 0, none⟩), .slice (some ⟨kb, koff, none⟩) 32 kcap, .pointer (some ⟨V.heap.size, 17, none⟩), .int .i64 (L : Int), .slice (some ⟨cg, 0, none⟩) 322 cc, .slice (some ⟨cg, 0, none⟩) 320 cc, .tuple #[.agg (pC s.1 T), .int .i64 0], .tuple #[.agg (pC s.1 T), .int .i64 0], .agg (pC s.1 T), .int .i64 0, .pointer (some ⟨s.2, 0, none⟩), undef, .int .i64 0] : List Value).getD j undef)) (undef, 0) (by kernel_rfl) (by kernel_rfl) rfl (by kernel_rfl) (by decide) (by decide) ?_ ?_ ?_
            · exact ⟨(Below.refl _ _).drew, (fun q => by cases q), (fun q => by cases q)⟩
            · intro j hj l s a X hl hf hdep hl2 hcl hS
              have jx := JX.out X (BW.out.trans (hS.1.mono BW.out.size))
              match j, hj with
              | 0, _ => exact stepV rfl rfl (execJ0 rfl (hf 1 (by decide))) ⟨s, ⟨_, rfl, rfl⟩, ⟨hS.1, fun q => hS.2.1 q, fun q => hS.2.2 q⟩, fun _ _ _ => rfl⟩
              | 1, _ => exact stepV rfl rfl (execLdS rfl (hdep _ rfl 0 rfl _ rfl _ rfl) (jC_at jx).1) ⟨s, ⟨_, rfl, rfl⟩, ⟨hS.1, fun q => hS.2.1 q, fun q => hS.2.2 q⟩, fun _ _ _ => rfl⟩
              | 2, _ => exact stepV rfl rfl (execJ2 rfl (hf 1 (by decide))) ⟨s, ⟨_, rfl, rfl⟩, ⟨hS.1, fun q => hS.2.1 q, fun q => hS.2.2 q⟩, fun _ _ _ => rfl⟩
              | 3, _ => exact stepV rfl rfl (execLdI rfl (hdep _ rfl 2 rfl _ rfl _ rfl) (jC_at jx).2.2.1) ⟨s, ⟨_, rfl, rfl⟩, ⟨hS.1, fun q => hS.2.1 q, fun q => hS.2.2 q⟩, fun _ _ _ => rfl⟩
              | 4, _ => exact stepV rfl rfl (execMvB rfl (hf 11 (by decide))) ⟨s, ⟨_, rfl, rfl⟩, ⟨hS.1, fun q => hS.2.1 q, fun q => hS.2.2 q⟩, fun _ _ _ => rfl⟩
              | 5, _ => exact stepV rfl rfl (By8.execSlH rfl (hdep _ rfl 4 rfl _ rfl _ rfl) rfl (sl_hn cg 322 cc 320 (by have := F13.out.2.2; omega) X)) ⟨s, ⟨_, rfl, rfl⟩, ⟨hS.1, fun q => hS.2.1 q, fun q => hS.2.2 q⟩, fun _ _ _ => rfl⟩
              | 6, _ =>
                have n11 : l 11 = false := by
                  cases q : l 11 with
                  | false => rfl
                  | true => exact absurd (hl.symm.trans (hcl 7 _ rfl (hcl 8 _ rfl (hcl 11 _ rfl q 8 rfl) 7 rfl) 6 rfl)) (by decide)
                refine stepC rfl rfl (execCall3 Tryz.func8 (by kernel_rfl) (by kernel_rfl) rfl (hdep _ rfl 1 rfl _ rfl _ rfl) (hdep _ rfl 3 rfl _ rfl _ rfl) (hdep _ rfl 5 rfl _ rfl _ rfl)) (RP.out X _ _ (BW.out.trans (hS.1.mono BW.out.size)) (OK.out X (BW.out.trans (hS.1.mono BW.out.size))).2.2.1 (SC.out X hS.1).2) fun e w' hh => ?_
                obtain ⟨r', e1, own', bw⟩ := hh
                refine ⟨_, e1, (r', s.2), ⟨_, rfl, rfl⟩, ⟨hS.1.trans (bw.mono hS.1.size), fun _ => own_base own' hS.1.size, fun q => ?_⟩, fun i hi hli => ?_⟩
                · have q' : l 10 = true := q
                  obtain ⟨q1, q2⟩ := hS.2.2 q'
                  refine ⟨q1, ?_⟩
                  show w'.heap[s.2]? = some (.cells (if l 11 = true then pC r' T else pC (.slice none 0 0) fun _ => 0) 33)
                  rw [n11] at q2 ⊢
                  rw [bw.block _ (Array.getElem?_eq_some_iff.1 q2).1]
                  exact q2
                · match i, hi with
                  | 0, _ | 1, _ | 2, _ | 3, _ | 4, _ | 5, _ | 9, _ | 10, _ | 11, _ | 12, _ => rfl
                  | 6, _ => exact absurd (hl.symm.trans hli) (by decide)
                  | 7, _ => exact absurd (hl.symm.trans (hcl 7 _ rfl hli 6 rfl)) (by decide)
                  | 8, _ => exact absurd (hl.symm.trans (hcl 7 _ rfl (hcl 8 _ rfl hli 7 rfl) 6 rfl)) (by decide)
                  | k + 13, h => exact absurd h (by simp)
              | 7, _ => exact stepV rfl rfl (execMvB rfl (hdep _ rfl 6 rfl _ rfl _ rfl)) ⟨s, ⟨_, rfl, rfl⟩, ⟨hS.1, fun q => hS.2.1 q, fun q => hS.2.2 q⟩, fun _ _ _ => rfl⟩
              | 8, _ => exact stepV rfl rfl (execExt rfl (hdep _ rfl 7 rfl _ rfl _ rfl) rfl) ⟨s, ⟨_, rfl, rfl⟩, ⟨hS.1, fun q => hS.2.1 q, fun q => hS.2.2 q⟩, fun _ _ _ => rfl⟩
              | 9, _ => exact stepV rfl rfl (execExt rfl (hdep _ rfl 7 rfl _ rfl _ rfl) rfl) ⟨s, ⟨_, rfl, rfl⟩, ⟨hS.1, fun q => hS.2.1 q, fun q => hS.2.2 q⟩, fun _ _ _ => rfl⟩
              | 10, _ =>
                have n11 : l 11 = false := by
                  cases q : l 11 with
                  | false => rfl
                  | true => exact absurd (hl.symm.trans (hcl 11 _ rfl q 10 rfl)) (by decide)
                refine stepV rfl rfl (execAlP rfl) ⟨(s.1, X.heap.size), ⟨_, rfl, rfl⟩, ⟨hS.1.trans ((belNew X _).mono hS.1.size), fun q => ownsRow_below (hS.2.1 q) (belNew X _), fun _ => ⟨hS.1.size, ?_⟩⟩, fun i hi hli => ?_⟩
                · show (X.alloc _).heap[X.heap.size]? = some (.cells (if l 11 = true then pC s.1 T else pC (.slice none 0 0) fun _ => 0) 33)
                  rw [n11]
                  exact heapNew X _
                · match i, hi with
                  | 0, _ | 1, _ | 2, _ | 3, _ | 4, _ | 5, _ | 6, _ | 7, _ | 8, _ | 9, _ | 11, _ | 12, _ => rfl
                  | 10, _ => exact absurd (hl.symm.trans hli) (by decide)
                  | k + 13, h => exact absurd h (by simp)
              | 11, _ =>
                have l6 : l 6 = true := hcl 7 _ rfl (hcl 8 _ rfl (hl2 _ rfl 8 rfl) 7 rfl) 6 rfl
                obtain ⟨q1, q2⟩ := hS.2.2 (hl2 _ rfl 10 rfl)
                rw [hl] at q2
                have q2 : X.heap[s.2]? = some (.cells (pC (.slice none 0 0) fun _ => 0) 33) := q2
                have own := hS.2.1 l6
                refine stepS rfl rfl (execStAll (cells := pC s.1 T) rfl (hdep _ rfl 10 rfl _ rfl _ rfl) (hdep _ rfl 8 rfl _ rfl _ rfl) q2 (by rw [pC_size, pC_size]) (sizeP _ _) (pC_one _ (own_oneCell own))) ⟨s, ⟨_, rfl, rfl⟩, ⟨below4 hS.1 q1 _, fun _ => own_setRow own q2 (by decide), fun _ => ⟨q1, ?_⟩⟩, fun _ _ _ => rfl⟩
                exact setRow_heap _ _ _ _ _ _ q2
              | 12, _ => exact stepV rfl rfl (execAsgB rfl (hdep _ rfl 9 rfl _ rfl _ rfl)) ⟨s, ⟨_, rfl, rfl⟩, ⟨hS.1, fun q => hS.2.1 q, fun q => hS.2.2 q⟩, fun _ _ _ => rfl⟩
              | k + 13, h => exact absurd h (by simp)
            · intro l s W16 hall hS
              obtain ⟨zv, zI⟩ := s
              have own16 : W16.ownsRow W15.heap.size 5 1 zv 320 (bytesL 320 nx) := hS.2.1 (hall 6 (by decide))
              have b16 := hS.1
              obtain ⟨_, rz⟩ := hS.2.2 (hall 10 (by decide))
              rw [hall 11 (by decide), if_pos rfl] at rz
              have rz : W16.heap[zI]? = some (.cells (pC zv T) 33) := rz
              obtain ⟨zg, zc, rfl, _, zcp, _⟩ := own_cells own16 (by omega)
              have F16 : Hid (Fam V1.heap.size 8 (updX (updX (updX (updX (updX (updX (updX (updX (fun _ => undef) 0 (.slice (some ⟨wg, 0, none⟩) M wc)) 1 (.slice (some ⟨kg, 0, none⟩) 34 kc)) 2 (.slice (some ⟨ig, 0, none⟩) (n + 2) ic)) 3 (.slice (some ⟨ag, 0, none⟩) M ac)) 4 (.slice (some ⟨bg, 0, none⟩) M bc)) 5 (.slice (some ⟨cg, 0, none⟩) 322 cc)) 6 (.slice (some ⟨xg, 0, none⟩) 320 xc)) 7 (.slice (some ⟨yg, 0, none⟩) 320 yc)) (kN M n) (kF key inner on nx M n) W16 ∧ Below V1.heap.size V1 W16 ∧ W16.heap[xI]? = some (.cells (pC (.slice (some ⟨xg, 0, none⟩) 320 xc) T) 33) ∧ W16.heap[yI]? = some (.cells (pC (.slice (some ⟨yg, 0, none⟩) 320 yc) T) 33) ∧ W16.heap[zI]? = some (.cells (pC (.slice (some ⟨zg, 0, none⟩) 320 zc) T) 33) ∧ SliceN W16 (.slice (some ⟨zg, 0, none⟩) 320 zc) 320 nx) := ⟨F15.out.1.on b16, F15.out.2.1.trans (b16.mono F15.out.2.1.size), (by rw [b16.block _ (Array.getElem?_eq_some_iff.1 F15.out.2.2.1).1]; exact F15.out.2.2.1), (by rw [b16.block _ (Array.getElem?_eq_some_iff.1 F15.out.2.2.2).1]; exact F15.out.2.2.2), rz, own_slice own16 fun j _ => CW.out.2 j⟩
              clear hall hS own16 b16 SC BW zcp rz
              simp only [putP, List.getD_cons_zero, List.getD_cons_succ, Act.put, List.setIfInBounds_toArray, List.set_cons_succ, List.set_cons_zero]
              go_wp2_with fail
              rename_i K1 hK1 K2 hK2
              have LXC : Hid (34 ≤ kc ∧ n + 2 ≤ ic ∧ 322 ≤ cc ∧ M ≤ 320 ∧ 82 ≤ M ∧ n ≤ 320) := (by have h1 := IC.out; have h2 := F13.out.2.2; have h3 := HN.out; exact ⟨h1.1, h1.2, h2, h3.2.1, h3.1, by omega⟩)
              have LX : Hid (∀ X, Below W16.heap.size W16 X → X.heap[V.heap.size]? = some (.cells (jC (.slice (some ⟨kb, koff, none⟩) 32 kcap) nonce (L : Int) (.slice ia n icap)) 25) ∧ X.heap[xI]? = some (.cells (pC (.slice (some ⟨xg, 0, none⟩) 320 xc) T) 33) ∧ X.heap[yI]? = some (.cells (pC (.slice (some ⟨yg, 0, none⟩) 320 yc) T) 33) ∧ X.heap[zI]? = some (.cells (pC (.slice (some ⟨zg, 0, none⟩) 320 zc) T) 33) ∧ SliceN X (.slice (some ⟨kg, 0, none⟩) 32 kc) 32 key ∧ SliceN X (.slice (some ⟨ig, 0, none⟩) n ic) n inner ∧ SliceN X (.slice (some ⟨cg, 0, none⟩) M cc) M on ∧ SliceN X (.slice (some ⟨wg, 0, none⟩) M wc) M on ∧ SliceN X (.slice (some ⟨xg, 0, none⟩) 320 xc) 320 nx ∧ SliceN X (.slice (some ⟨yg, 0, none⟩) 320 yc) 320 nx ∧ SliceN X (.slice (some ⟨zg, 0, none⟩) 320 zc) 320 nx ∧ SliceN X (.slice (some ⟨kb, koff, none⟩) 32 kcap) 32 key ∧ SliceN X (.slice ia n icap) n inner) := fun X hX => by
                have bX := F16.out.2.1.trans (hX.mono F16.out.2.1.size)
                have k1 := own_slice (F16.out.1.rows 1 (by omega)) HN.out.2.2.2.2.2.1
                have k2 := own_slice (F16.out.1.rows 2 (by omega)) HN.out.2.2.2.2.2.2
                have k5 := own_slice (F16.out.1.rows 5 (by omega)) (fun j _ => cQ_lt HN.out.2.2.2.1 j)
                exact ⟨JX.out X bX, by rw [hX.block _ (Array.getElem?_eq_some_iff.1 F16.out.2.2.1).1]; exact F16.out.2.2.1, by rw [hX.block _ (Array.getElem?_eq_some_iff.1 F16.out.2.2.2.1).1]; exact F16.out.2.2.2.1, by rw [hX.block _ (Array.getElem?_eq_some_iff.1 F16.out.2.2.2.2.1).1]; exact F16.out.2.2.2.2.1, sliceN_cg ((takeN k1 (show 32 ≤ 34 by omega)).on hX) fun j hj => if_pos hj, sliceN_cg ((takeN k2 (show n ≤ n + 2 by omega)).on hX) fun j hj => if_pos hj, sliceN_cg ((takeN k5 (show M ≤ 322 by have := HN.out; omega)).on hX) fun j hj => if_pos hj, (own_slice (F16.out.1.rows 0 (by omega)) fun j _ => HN.out.2.2.2.1 j).on hX, (own_slice (F16.out.1.rows 6 (by omega)) fun j _ => CW.out.2 j).on hX, (own_slice (F16.out.1.rows 7 (by omega)) fun j _ => CW.out.2 j).on hX, F16.out.2.2.2.2.2.on hX, (OK.out X bX).2.2.1, (OK.out X bX).2.2.2.sl⟩
              refine wp_region_detA 406 [(0, 153), (1, 154), (2, 155), (3, 156), (4, 157), (5, 158), (6, 159), (7, 160), (8, 161), (9, 162), (10, 163), (11, 164), (12, 165), (13, 166), (14, 167), (15, 168), (16, 169), (17, 170), (18, 171), (19, 172), (20, 173), (21, 174), (22, 175), (23, 176), (24, 177), (25, 178), (26, 179), (27, 180), (28, 181), (29, 182), (30, 183), (31, 184), (32, 185), (33, 186), (34, 187), (35, 188), (36, 189), (37, 190), (38, 191), (39, 192), (40, 193), (41, 194), (42, 195), (43, 196), (44, 197), (45, 198), (46, 199), (47, 200), (48, 201)] (fun j => ([.int .i64 0, .bool false, .bool false, .int .i64 0, .bool false, .bool false, .bool false, .agg (pC (.slice (some ⟨xg, 0, none⟩) 320 xc) T), .agg (pC (.slice (some ⟨zg, 0, none⟩) 320 zc) T), .bool true, .bool false, .bool false, .bool false, .agg (pC (.slice (some ⟨yg, 0, none⟩) 320 yc) T), .agg (pC (.slice (some ⟨zg, 0, none⟩) 320 zc) T), .bool true, .bool false, .bool false, .bool false, .slice (some ⟨kg, 0, none⟩) 34 kc, .slice (some ⟨kg, 0, none⟩) 32 kc, .string (strN key 32), .pointer (some ⟨V.heap.size, 0, none⟩), .slice (some ⟨kb, koff, none⟩) 32 kcap, .string (strN key 32), .bool false, .bool false, .bool false, .slice (some ⟨ig, 0, none⟩) (n + 2) ic, .pointer (some ⟨V.heap.size, 18, none⟩), .slice ia n icap, .int .i64 ((n : Nat) : Int), .slice (some ⟨ig, 0, none⟩) n ic, .string (strN inner n), .pointer (some ⟨V.heap.size, 18, none⟩), .slice ia n icap, .string (strN inner n), .bool false, .bool false, .bool false, .slice (some ⟨cg, 0, none⟩) 322 cc, .slice (some ⟨wg, 0, none⟩) M wc, .int .i64 ((M : Nat) : Int), .slice (some ⟨cg, 0, none⟩) M cc, .string (strN on M), .slice (some ⟨wg, 0, none⟩) M wc, .string (strN on M), .bool false, .bool false] : List Value).getD j undef) (fun _ X => Below W16.heap.size W16 X) (by kernel_rfl) (by kernel_rfl) rfl (by kernel_rfl) (by decide) (by decide) ?_ ?_ ?_
              · exact (Below.refl _ _).drew
              · intro j hj l a X hl hf hdep hl2 hcl _ hT
                match j, hj with
                | 0, _ => exact stepV rfl rfl (execMvB rfl (hf 13 (by decide))) ⟨⟨_, rfl, rfl⟩, hT⟩
                | 1, _ => exact stepV rfl rfl (execNE0 rfl (hdep _ rfl 0 rfl _ rfl _ rfl)) ⟨⟨_, rfl, rfl⟩, hT⟩
                | 2, _ => exact stepV rfl rfl (execMvB rfl (hdep _ rfl 1 rfl _ rfl _ rfl)) ⟨⟨_, rfl, rfl⟩, hT⟩
                | 3, _ => exact stepV rfl (wantedOf rfl (yieldedAt rfl rfl (show a.eval (.tmp 155) = .bool false from hdep _ rfl 2 rfl _ rfl _ rfl))) (execMvB rfl (hf 15 (by decide))) ⟨⟨_, rfl, rfl⟩, hT⟩
                | 4, _ => exact stepV rfl (wantedOf rfl (yieldedAt rfl rfl (show a.eval (.tmp 155) = .bool false from hdep _ rfl 2 rfl _ rfl _ rfl))) (execNE0 rfl (hdep _ rfl 3 rfl _ rfl _ rfl)) ⟨⟨_, rfl, rfl⟩, hT⟩
                | 5, _ => exact stepV rfl rfl (execPick (b := false) rfl (hdep _ rfl 2 rfl _ rfl _ rfl) (hdep _ rfl 4 rfl _ rfl _ rfl)) ⟨⟨_, rfl, rfl⟩, hT⟩
                | 6, _ => exact stepV rfl rfl (execMvB rfl (hdep _ rfl 5 rfl _ rfl _ rfl)) ⟨⟨_, rfl, rfl⟩, hT⟩
                | 7, _ => exact stepV rfl (wantedOf rfl (yieldedAt rfl rfl (show a.eval (.tmp 159) = .bool false from hdep _ rfl 6 rfl _ rfl _ rfl))) (execLdAll rfl (hf 12 (by decide)) (LX.out X hT).2.1 Tryz.underlying33 rfl (sizeP _ _)) ⟨⟨_, rfl, rfl⟩, hT⟩
                | 8, _ => exact stepV rfl (wantedOf rfl (yieldedAt rfl rfl (show a.eval (.tmp 159) = .bool false from hdep _ rfl 6 rfl _ rfl _ rfl))) (execLdAll rfl (hf 16 (by decide)) (LX.out X hT).2.2.2.1 Tryz.underlying33 rfl (sizeP _ _)) ⟨⟨_, rfl, rfl⟩, hT⟩
                | 9, _ =>
                  refine stepC rfl (wantedOf rfl (yieldedAt rfl rfl (show a.eval (.tmp 159) = .bool false from hdep _ rfl 6 rfl _ rfl _ rfl))) (execCall2 Tryz.func9 (by kernel_rfl) (by kernel_rfl) rfl (hdep _ rfl 7 rfl _ rfl _ rfl) (hdep _ rfl 8 rfl _ rfl _ rfl)) (samePeeled_true _ _ 320 nx T X (LX.out X hT).2.2.2.2.2.2.2.2.1 (LX.out X hT).2.2.2.2.2.2.2.2.2.2.1) fun e w' hh => ?_
                  obtain ⟨e1, bw⟩ := hh
                  exact ⟨_, e1, ⟨_, rfl, rfl⟩, hT.trans (bw.mono hT.size)⟩
                | 10, _ => exact stepV rfl (wantedOf rfl (yieldedAt rfl rfl (show a.eval (.tmp 159) = .bool false from hdep _ rfl 6 rfl _ rfl _ rfl))) (execNot rfl (hdep _ rfl 9 rfl _ rfl _ rfl)) ⟨⟨_, rfl, rfl⟩, hT⟩
                | 11, _ => exact stepV rfl rfl (execPick (b := false) rfl (hdep _ rfl 6 rfl _ rfl _ rfl) (hdep _ rfl 10 rfl _ rfl _ rfl)) ⟨⟨_, rfl, rfl⟩, hT⟩
                | 12, _ => exact stepV rfl rfl (execMvB rfl (hdep _ rfl 11 rfl _ rfl _ rfl)) ⟨⟨_, rfl, rfl⟩, hT⟩
                | 13, _ => exact stepV rfl (wantedOf rfl (yieldedAt rfl rfl (show a.eval (.tmp 165) = .bool false from hdep _ rfl 12 rfl _ rfl _ rfl))) (execLdAll rfl (hf 14 (by decide)) (LX.out X hT).2.2.1 Tryz.underlying33 rfl (sizeP _ _)) ⟨⟨_, rfl, rfl⟩, hT⟩
                | 14, _ => exact stepV rfl (wantedOf rfl (yieldedAt rfl rfl (show a.eval (.tmp 165) = .bool false from hdep _ rfl 12 rfl _ rfl _ rfl))) (execLdAll rfl (hf 16 (by decide)) (LX.out X hT).2.2.2.1 Tryz.underlying33 rfl (sizeP _ _)) ⟨⟨_, rfl, rfl⟩, hT⟩
                | 15, _ =>
                  refine stepC rfl (wantedOf rfl (yieldedAt rfl rfl (show a.eval (.tmp 165) = .bool false from hdep _ rfl 12 rfl _ rfl _ rfl))) (execCall2 Tryz.func9 (by kernel_rfl) (by kernel_rfl) rfl (hdep _ rfl 13 rfl _ rfl _ rfl) (hdep _ rfl 14 rfl _ rfl _ rfl)) (samePeeled_true _ _ 320 nx T X (LX.out X hT).2.2.2.2.2.2.2.2.2.1 (LX.out X hT).2.2.2.2.2.2.2.2.2.2.1) fun e w' hh => ?_
                  obtain ⟨e1, bw⟩ := hh
                  exact ⟨_, e1, ⟨_, rfl, rfl⟩, hT.trans (bw.mono hT.size)⟩
                | 16, _ => exact stepV rfl (wantedOf rfl (yieldedAt rfl rfl (show a.eval (.tmp 165) = .bool false from hdep _ rfl 12 rfl _ rfl _ rfl))) (execNot rfl (hdep _ rfl 15 rfl _ rfl _ rfl)) ⟨⟨_, rfl, rfl⟩, hT⟩
                | 17, _ => exact stepV rfl rfl (execPick (b := false) rfl (hdep _ rfl 12 rfl _ rfl _ rfl) (hdep _ rfl 16 rfl _ rfl _ rfl)) ⟨⟨_, rfl, rfl⟩, hT⟩
                | 18, _ => exact stepV rfl rfl (execMvB rfl (hdep _ rfl 17 rfl _ rfl _ rfl)) ⟨⟨_, rfl, rfl⟩, hT⟩
                | 19, _ => exact stepV rfl (wantedOf rfl (yieldedAt rfl rfl (show a.eval (.tmp 171) = .bool false from hdep _ rfl 18 rfl _ rfl _ rfl))) (execMvB rfl (hf 5 (by decide))) ⟨⟨_, rfl, rfl⟩, hT⟩
                | 20, _ => exact stepV rfl (wantedOf rfl (yieldedAt rfl rfl (show a.eval (.tmp 171) = .bool false from hdep _ rfl 18 rfl _ rfl _ rfl))) (By8.execSlH rfl (hdep _ rfl 19 rfl _ rfl _ rfl) rfl (sl_hn kg 34 kc 32 (by have := LXC.out; omega) X)) ⟨⟨_, rfl, rfl⟩, hT⟩
                | 21, _ => exact stepV rfl (wantedOf rfl (yieldedAt rfl rfl (show a.eval (.tmp 171) = .bool false from hdep _ rfl 18 rfl _ rfl _ rfl))) (By8.execStr rfl (hdep _ rfl 20 rfl _ rfl _ rfl) (LX.out X hT).2.2.2.2.1) ⟨⟨_, rfl, rfl⟩, hT⟩
                | 22, _ => exact stepV rfl (wantedOf rfl (yieldedAt rfl rfl (show a.eval (.tmp 171) = .bool false from hdep _ rfl 18 rfl _ rfl _ rfl))) (execJ0 rfl (hf 1 (by decide))) ⟨⟨_, rfl, rfl⟩, hT⟩
                | 23, _ => exact stepV rfl (wantedOf rfl (yieldedAt rfl rfl (show a.eval (.tmp 171) = .bool false from hdep _ rfl 18 rfl _ rfl _ rfl))) (execLdS rfl (hdep _ rfl 22 rfl _ rfl _ rfl) (jC_at (LX.out X hT).1).1) ⟨⟨_, rfl, rfl⟩, hT⟩
                | 24, _ => exact stepV rfl (wantedOf rfl (yieldedAt rfl rfl (show a.eval (.tmp 171) = .bool false from hdep _ rfl 18 rfl _ rfl _ rfl))) (By8.execStr rfl (hdep _ rfl 23 rfl _ rfl _ rfl) (LX.out X hT).2.2.2.2.2.2.2.2.2.2.2.1) ⟨⟨_, rfl, rfl⟩, hT⟩
                | 25, _ => exact stepV rfl (wantedOf rfl (yieldedAt rfl rfl (show a.eval (.tmp 171) = .bool false from hdep _ rfl 18 rfl _ rfl _ rfl))) (By8.execNeqS rfl (hdep _ rfl 21 rfl _ rfl _ rfl) (hdep _ rfl 24 rfl _ rfl _ rfl)) ⟨⟨_, rfl, rfl⟩, hT⟩
                | 26, _ => exact stepV rfl rfl (execPick (b := false) rfl (hdep _ rfl 18 rfl _ rfl _ rfl) (hdep _ rfl 25 rfl _ rfl _ rfl)) ⟨⟨_, rfl, rfl⟩, hT⟩
                | 27, _ => exact stepV rfl rfl (execMvB rfl (hdep _ rfl 26 rfl _ rfl _ rfl)) ⟨⟨_, rfl, rfl⟩, hT⟩
                | 28, _ => exact stepV rfl (wantedOf rfl (yieldedAt rfl rfl (show a.eval (.tmp 180) = .bool false from hdep _ rfl 27 rfl _ rfl _ rfl))) (execMvB rfl (hf 6 (by decide))) ⟨⟨_, rfl, rfl⟩, hT⟩
                | 29, _ => exact stepV rfl (wantedOf rfl (yieldedAt rfl rfl (show a.eval (.tmp 180) = .bool false from hdep _ rfl 27 rfl _ rfl _ rfl))) (execJ3 rfl (hf 1 (by decide))) ⟨⟨_, rfl, rfl⟩, hT⟩
                | 30, _ => exact stepV rfl (wantedOf rfl (yieldedAt rfl rfl (show a.eval (.tmp 180) = .bool false from hdep _ rfl 27 rfl _ rfl _ rfl))) (execLdS rfl (hdep _ rfl 29 rfl _ rfl _ rfl) (jC_at (LX.out X hT).1).2.2.2) ⟨⟨_, rfl, rfl⟩, hT⟩
                | 31, _ => exact stepV rfl (wantedOf rfl (yieldedAt rfl rfl (show a.eval (.tmp 180) = .bool false from hdep _ rfl 27 rfl _ rfl _ rfl))) (execLenV (len := n) rfl (hdep _ rfl 30 rfl _ rfl _ rfl) ⟨_, _, rfl⟩) ⟨⟨_, rfl, rfl⟩, hT⟩
                | 32, _ => exact stepV rfl (wantedOf rfl (yieldedAt rfl rfl (show a.eval (.tmp 180) = .bool false from hdep _ rfl 27 rfl _ rfl _ rfl))) (By8.execSlH rfl (hdep _ rfl 28 rfl _ rfl _ rfl) (hdep _ rfl 31 rfl _ rfl _ rfl) (sl_hn ig (n + 2) ic n (by have := LXC.out; omega) X)) ⟨⟨_, rfl, rfl⟩, hT⟩
                | 33, _ => exact stepV rfl (wantedOf rfl (yieldedAt rfl rfl (show a.eval (.tmp 180) = .bool false from hdep _ rfl 27 rfl _ rfl _ rfl))) (By8.execStr rfl (hdep _ rfl 32 rfl _ rfl _ rfl) (LX.out X hT).2.2.2.2.2.1) ⟨⟨_, rfl, rfl⟩, hT⟩
                | 34, _ => exact stepV rfl (wantedOf rfl (yieldedAt rfl rfl (show a.eval (.tmp 180) = .bool false from hdep _ rfl 27 rfl _ rfl _ rfl))) (execJ3 rfl (hf 1 (by decide))) ⟨⟨_, rfl, rfl⟩, hT⟩
                | 35, _ => exact stepV rfl (wantedOf rfl (yieldedAt rfl rfl (show a.eval (.tmp 180) = .bool false from hdep _ rfl 27 rfl _ rfl _ rfl))) (execLdS rfl (hdep _ rfl 34 rfl _ rfl _ rfl) (jC_at (LX.out X hT).1).2.2.2) ⟨⟨_, rfl, rfl⟩, hT⟩
                | 36, _ => exact stepV rfl (wantedOf rfl (yieldedAt rfl rfl (show a.eval (.tmp 180) = .bool false from hdep _ rfl 27 rfl _ rfl _ rfl))) (By8.execStr rfl (hdep _ rfl 35 rfl _ rfl _ rfl) (LX.out X hT).2.2.2.2.2.2.2.2.2.2.2.2) ⟨⟨_, rfl, rfl⟩, hT⟩
                | 37, _ => exact stepV rfl (wantedOf rfl (yieldedAt rfl rfl (show a.eval (.tmp 180) = .bool false from hdep _ rfl 27 rfl _ rfl _ rfl))) (By8.execNeqS rfl (hdep _ rfl 33 rfl _ rfl _ rfl) (hdep _ rfl 36 rfl _ rfl _ rfl)) ⟨⟨_, rfl, rfl⟩, hT⟩
                | 38, _ => exact stepV rfl rfl (execPick (b := false) rfl (hdep _ rfl 27 rfl _ rfl _ rfl) (hdep _ rfl 37 rfl _ rfl _ rfl)) ⟨⟨_, rfl, rfl⟩, hT⟩
                | 39, _ => exact stepV rfl rfl (execMvB rfl (hdep _ rfl 38 rfl _ rfl _ rfl)) ⟨⟨_, rfl, rfl⟩, hT⟩
                | 40, _ => exact stepV rfl (wantedOf rfl (yieldedAt rfl rfl (show a.eval (.tmp 192) = .bool false from hdep _ rfl 39 rfl _ rfl _ rfl))) (execMvB rfl (hf 11 (by decide))) ⟨⟨_, rfl, rfl⟩, hT⟩
                | 41, _ => exact stepV rfl (wantedOf rfl (yieldedAt rfl rfl (show a.eval (.tmp 192) = .bool false from hdep _ rfl 39 rfl _ rfl _ rfl))) (execMvB rfl (hf 3 (by decide))) ⟨⟨_, rfl, rfl⟩, hT⟩
                | 42, _ => exact stepV rfl (wantedOf rfl (yieldedAt rfl rfl (show a.eval (.tmp 192) = .bool false from hdep _ rfl 39 rfl _ rfl _ rfl))) (execLenV (len := M) rfl (hdep _ rfl 41 rfl _ rfl _ rfl) ⟨_, _, rfl⟩) ⟨⟨_, rfl, rfl⟩, hT⟩
                | 43, _ => exact stepV rfl (wantedOf rfl (yieldedAt rfl rfl (show a.eval (.tmp 192) = .bool false from hdep _ rfl 39 rfl _ rfl _ rfl))) (By8.execSlH rfl (hdep _ rfl 40 rfl _ rfl _ rfl) (hdep _ rfl 42 rfl _ rfl _ rfl) (sl_hn cg 322 cc M (by have := LXC.out; omega) X)) ⟨⟨_, rfl, rfl⟩, hT⟩
                | 44, _ => exact stepV rfl (wantedOf rfl (yieldedAt rfl rfl (show a.eval (.tmp 192) = .bool false from hdep _ rfl 39 rfl _ rfl _ rfl))) (By8.execStr rfl (hdep _ rfl 43 rfl _ rfl _ rfl) (LX.out X hT).2.2.2.2.2.2.1) ⟨⟨_, rfl, rfl⟩, hT⟩
                | 45, _ => exact stepV rfl (wantedOf rfl (yieldedAt rfl rfl (show a.eval (.tmp 192) = .bool false from hdep _ rfl 39 rfl _ rfl _ rfl))) (execMvB rfl (hf 3 (by decide))) ⟨⟨_, rfl, rfl⟩, hT⟩
                | 46, _ => exact stepV rfl (wantedOf rfl (yieldedAt rfl rfl (show a.eval (.tmp 192) = .bool false from hdep _ rfl 39 rfl _ rfl _ rfl))) (By8.execStr rfl (hdep _ rfl 45 rfl _ rfl _ rfl) (LX.out X hT).2.2.2.2.2.2.2.1) ⟨⟨_, rfl, rfl⟩, hT⟩
                | 47, _ => exact stepV rfl (wantedOf rfl (yieldedAt rfl rfl (show a.eval (.tmp 192) = .bool false from hdep _ rfl 39 rfl _ rfl _ rfl))) (By8.execNeqS rfl (hdep _ rfl 44 rfl _ rfl _ rfl) (hdep _ rfl 46 rfl _ rfl _ rfl)) ⟨⟨_, rfl, rfl⟩, hT⟩
                | 48, _ => exact stepV rfl rfl (execPick (b := false) rfl (hdep _ rfl 39 rfl _ rfl _ rfl) (hdep _ rfl 47 rfl _ rfl _ rfl)) ⟨⟨_, rfl, rfl⟩, hT⟩
                | k + 49, h => exact absurd h (by simp)
              · intro l a W17 h1 h2 h3 h4 hall hT
                have F17 : Hid (Fam V1.heap.size 8 (updX (updX (updX (updX (updX (updX (updX (updX (fun _ => undef) 0 (.slice (some ⟨wg, 0, none⟩) M wc)) 1 (.slice (some ⟨kg, 0, none⟩) 34 kc)) 2 (.slice (some ⟨ig, 0, none⟩) (n + 2) ic)) 3 (.slice (some ⟨ag, 0, none⟩) M ac)) 4 (.slice (some ⟨bg, 0, none⟩) M bc)) 5 (.slice (some ⟨cg, 0, none⟩) 322 cc)) 6 (.slice (some ⟨xg, 0, none⟩) 320 xc)) 7 (.slice (some ⟨yg, 0, none⟩) 320 yc)) (kN M n) (kF key inner on nx M n) W17 ∧ Below V1.heap.size V1 W17 ∧ W17.heap[xI]? = some (.cells (pC (.slice (some ⟨xg, 0, none⟩) 320 xc) T) 33) ∧ W17.heap[yI]? = some (.cells (pC (.slice (some ⟨yg, 0, none⟩) 320 yc) T) 33)) := ⟨F16.out.1.on hT, F16.out.2.1.trans (hT.mono F16.out.2.1.size), (LX.out W17 hT).2.1, (LX.out W17 hT).2.2.1⟩
                have t201 : a.eval (.tmp 201) = .bool false := h4 (48, 201) (by decide)
                have A : KA (⟨V.heap.size, M, n, L, kg, kc, ig, ic, wg, wc, ag, ac, bg, bc, cg, cc, xg, xc, yg, yc, xI, yI, kb, koff, kcap, icap, ia, T, key, inner, on, nx, nonce⟩ : KX) a := ⟨h1, h2, (h3 1 (by decide)).trans rfl, (h3 3 (by decide)).trans rfl, (h3 5 (by decide)).trans rfl, (h3 6 (by decide)).trans rfl, (h3 7 (by decide)).trans rfl, (h3 9 (by decide)).trans rfl, (h3 11 (by decide)).trans rfl, (h3 12 (by decide)).trans rfl, (h3 14 (by decide)).trans rfl⟩
                have KFc : KF (⟨V.heap.size, M, n, L, kg, kc, ig, ic, wg, wc, ag, ac, bg, bc, cg, cc, xg, xc, yg, yc, xI, yI, kb, koff, kcap, icap, ia, T, key, inner, on, nx, nonce⟩ : KX) V V1 := ⟨by have h1 := IC.out; have h2 := F13.out.2.2; have h3 := HN.out; exact ⟨h3.1, h3.2.1, h3.2.2.1, h1.1, h1.2, h2⟩, fun W hW => ⟨(OK.out W hW).1, (OK.out W hW).2.2.1, (OK.out W hW).2.2.2⟩, JX.out, PW.out, RWK.out, HN.out.2.2.2.1, HW.out.2.1, HW.out.2.2, HW.out.1⟩
                have KWc : KW (⟨V.heap.size, M, n, L, kg, kc, ig, ic, wg, wc, ag, ac, bg, bc, cg, cc, xg, xc, yg, yc, xI, yI, kb, koff, kcap, icap, ia, T, key, inner, on, nx, nonce⟩ : KX) V1 (kF key inner on nx M n) W17 := ⟨fam_x F17.out.1 (fun t ht => by match t, ht with | 0, _ | 1, _ | 2, _ | 3, _ | 4, _ | 5, _ | 6, _ | 7, _ => rfl), F17.out.2.1, F17.out.2.2.1, F17.out.2.2.2⟩
                clear h1 h2 h3 h4 hall hT LX
                refine hK2 _ _ ?_
                refine wp_cond_false t201 ?_
                refine wp_skip ?_
                refine hK1 _ _ ?_
                exact keeps_rest (⟨V.heap.size, M, n, L, kg, kc, ig, ic, wg, wc, ag, ac, bg, bc, cg, cc, xg, xc, yg, yc, xI, yI, kb, koff, kcap, icap, ia, T, key, inner, on, nx, nonce⟩ : KX) V V1 W17 KFc KWc a A
  · have i1 : ((E : Int) != 0) = true := by simp; omega
    obtain ⟨ka, kcap, rfl, _⟩ := id hk.shape
    obtain ⟨ia, icap, rfl⟩ := hi.shape
    have H : Hid (V1.heap[V.heap.size]? = some (.cells (jC (.slice ka lk kcap) nonce left (.slice ia n icap)) 25) ∧ Below V.heap.size V V1 ∧ V1.heap.size = V.heap.size + 1) := ⟨r1, b1, s1⟩
    clear hG hk hn hi hb r1 b1 s1 hon hE hM hE0
    go_enter Tryz.func3, Tryz.ntmps3
    go_wp2_with (first
      | (go_at_call 4; refine A.mono ?_; rintro e w1 ⟨rfl, hb1⟩; have B1 : Hid (Below V.heap.size V w1) := H.out.2.1.trans (hb1.mono H.out.2.1.size); obtain ⟨c0, c1, c2, c3⟩ := jC_at (W := w1) (by rw [hb1.block V.heap.size (by have := H.out.2.2; omega)]; exact H.out.1); have C1 : Hid (_) := c1; clear hb1 c1)
      | (refine atLoad 23 (.tmp 38) rfl ?_; go_must (refine wpList_ex rfl (execLdList (k := 16) (q := nonce) rfl rfl C1.out Tryz.underlying23 rfl (by kernel_rfl)) ?_))
      | (go_at_call 5; refine (RW.out w1 B1.out).mono ?_; rintro e w2 ⟨r2, rfl, own2, hb2⟩; have B2 : Hid (Below V.heap.size V w2) := B1.out.trans (hb2.mono B1.out.size); clear own2 hb2))
    go_ret
    exact ⟨rfl, B2.out⟩
end Go.Proofs.YtplhkjkaabgffaaGreatDoor.Oni
