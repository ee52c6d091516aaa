import Derived.Test.YtfhldpdnoaoohaaDoorX5l
namespace Go.Proofs.YtfhldpdnoaoohaaDoor.Oni
open Go.RowKit Gf8 Aes By8 Cel
/- What is wrapped is peeled; alive. -/

/-- An onion in its cell. -/
def cwF (key nonce : Nat → Nat) (L n : Nat) (inner : Nat → Nat) : Nat → Nat := cellF 0 headO (sz L) (wrF key nonce L n inner)
section
variable {key nonce inner : Nat → Nat} {L n : Nat}
theorem cw_in (j : Nat) (h : j < sz (L : Int)) : cwF key nonce L n inner j = wrF key nonce L n inner j := by
  unfold cwF cellF
  rw [if_neg (by omega), if_pos (by omega), Nat.sub_zero]
theorem cw_out (j : Nat) (h : sz (L : Int) ≤ j) : cwF key nonce L n inner j = 0 := by
  unfold cwF cellF
  rw [if_neg (by omega), if_neg (by omega)]
theorem wr_nonce (j : Nat) (h : j < 16) : wrF key nonce L n inner j = nonce j := by unfold wrF onB; rw [if_pos h]
theorem wr_tag (j : Nat) (h : j < 16) : wrF key nonce L n inner (16 + j) = tgF (dk key nonce) L nonce (bxF (dk key nonce) (pbF n inner)) (sz L - 32) j := by
  unfold wrF onB
  rw [if_neg (by omega), if_pos (by omega)]
  congr 1
  omega
theorem wr_box (j : Nat) : wrF key nonce L n inner (32 + j) = bxF (dk key nonce) (pbF n inner) j := by
  unfold wrF onB
  rw [if_neg (by omega), if_neg (by omega)]
  congr 1
  omega
theorem szL (hL : 1 ≤ L ∧ L ≤ 8) : sz (L : Int) = 48 + 34 * L := by unfold sz; rw [if_pos (by omega)]; simp
theorem cw_dk (hL : 1 ≤ L ∧ L ≤ 8) : dk key (cwF key nonce L n inner) = dk key nonce :=
  dk_congr (fun _ _ => rfl) fun i hi => by rw [cw_in i (by rw [szL hL]; omega), wr_nonce i hi]
theorem cw_cut (hL : 1 ≤ L ∧ L ≤ 8) (k : Int) (h : (sz (L : Int) : Int) ≤ k) (hk : k ≤ 320) : cutE (cwF key nonce L n inner) 320 k = 0 := by
  have _ := hL
  unfold cutE
  rw [if_neg (by simp), if_neg (by omega), if_pos]
  refine (zeroFrom_iff _ _).2 fun j h1 _ => cw_out j (by omega)
theorem cw_tag (hL : 1 ≤ L ∧ L ≤ 8) : peT key L (cwF key nonce L n inner) = true := by
  unfold peT
  rw [eqB_iff]
  intro j hj
  have s := szL hL
  show cwF key nonce L n inner (16 + j) = _
  rw [cw_in _ (by omega), wr_tag j hj, cw_dk hL, show (L : Int).toNat = L from by simp]
  refine congrFun (tgF_congr (fun i hi => ?_) fun i hi => ?_) j
  · rw [cw_in i (by omega), wr_nonce i hi]
  · show _ = cwF key nonce L n inner (32 + i)
    rw [cw_in _ (by omega), wr_box]
theorem cw_plain (hL : 1 ≤ L ∧ L ≤ 8) (j : Nat) (h : j < sz (L : Int) - 32) : peP key (cwF key nonce L n inner) j = pbF n inner j := by
  have s := szL hL
  unfold peP
  rw [cw_dk hL]
  unfold bxF maskF
  show cwF key nonce L n inner (32 + j) ^^^ _ = _
  rw [cw_in _ (by omega), wr_box]
  unfold bxF maskF
  rw [Nat.xor_assoc, Nat.xor_self, Nat.xor_zero]
theorem pb_n (hL : 1 ≤ L ∧ L ≤ 8) : inN (pbF n inner) = n := by
  have _ := hL
  unfold inN pbF cellF hd2
  simp
  omega
theorem cw_n (hL : 1 ≤ L ∧ L ≤ 8) : inN (peP key (cwF key nonce L n inner)) = n := by
  have s := szL hL
  unfold inN
  rw [cw_plain hL 0 (by omega), cw_plain hL 1 (by omega)]
  exact pb_n hL
theorem cw_ok (hL : 1 ≤ L ∧ L ≤ 8) (hn : n ≤ sz (L : Int) - 34) : inOk (sz (L : Int) - 32) (peP key (cwF key nonce L n inner)) = true := by
  have s := szL hL
  unfold inOk
  rw [cw_n hL, decide_eq_true (by omega), Bool.true_and]
  refine (zeroF_iff _ _ _).2 fun j h1 h2 => ?_
  rw [cw_plain hL j h2]
  unfold pbF cellF
  rw [if_neg (by omega), if_neg (by omega)]
theorem cw_inner (hL : 1 ≤ L ∧ L ≤ 8) (j : Nat) (hj : j < n) (hn : n ≤ sz (L : Int) - 34) : peP key (cwF key nonce L n inner) (2 + j) = inner j := by
  have s := szL hL
  rw [cw_plain hL _ (by omega)]
  unfold pbF cellF
  rw [if_neg (by omega), if_pos (by omega)]
  congr 1
  omega
theorem cw_e (hL : 1 ≤ L ∧ L ≤ 8) (hn : n ≤ sz (L : Int) - 34) : peE 32 L 320 key (cwF key nonce L n inner) = 0 := by
  have s := szL hL
  unfold peE
  rw [if_neg (by simp; omega), if_neg (by rw [cw_cut hL _ (by omega) (by omega)]; simp), if_neg (by rw [cw_tag hL]; simp), if_neg (by rw [cw_ok hL hn]; simp)]
theorem cw_c (hL : 1 ≤ L ∧ L ≤ 8) (hn : n ≤ sz (L : Int) - 34) : ∀ j, peC L key (cwF key nonce L n inner) j = nxF L n inner j := by
  intro j
  unfold peC nxF
  rw [cw_n hL]
  split
  · unfold cellF
    split
    · rfl
    · split
      · exact cw_inner hL _ (by omega) hn
      · rfl
  · unfold cellF
    split
    · rfl
    · split
      · exact cw_inner hL _ (by omega) hn
      · rfl
end
/-- The nonce of alive. -/
def oneF : Nat → Nat := fun j => if j = 0 then 1 else 0
/-- A hop's onion is none of another's. -/
theorem cw_two {inner : Nat → Nat} : peE 32 2 320 (fun _ => 0) (cwF (fun _ => 0) oneF 1 2 inner) ≠ 0 := by
  have h1 : (1 : Nat) ≤ 1 ∧ (1 : Nat) ≤ 8 := by omega
  have s1 : sz ((1 : Nat) : Int) = 82 := rfl
  have s2 : sz (2 : Int) = 116 := rfl
  unfold peE
  rw [if_neg (by rw [s2]; simp), s2, if_neg (by rw [cw_cut h1 _ (by rw [s1]; omega) (by omega)]; simp)]
  split
  · omega
  · rw [if_pos]
    · omega
    · cases h : inOk (116 - 32) (peP (fun _ => 0) (cwF (fun _ => 0) oneF 1 2 inner)) with
      | false => rfl
      | true =>
        unfold inOk at h
        rw [Bool.and_eq_true, cw_n h1] at h
        have z := (zeroF_iff _ _ _).1 h.2 50 (by omega) (by omega)
        unfold peP bxF maskF at z
        rw [cw_dk h1] at z
        have e : cwF (fun _ => 0) oneF 1 2 inner (32 + 50) = 0 := cw_out _ (by rw [s1]; omega)
        have k := ks_eval (dk_alive (key := fun _ => 0) (nonce := oneF) (fun _ _ => rfl) rfl fun i h0 _ => if_neg (by omega))
        simp only [e] at z
        rw [show 0 + 50 / 16 = 3 from rfl, show 50 % 16 = 2 from rfl, k] at z
        simp at z
end Go.Proofs.YtfhldpdnoaoohaaDoor.Oni

namespace Go.Proofs.YtfhldpdnoaoohaaDoor.Oni
open Go.RowKit Gf8 Aes By8 Cel
/- alive. -/

theorem one16 : Tryd.prog.built 25 [(0, .int .u8 1)] = some (bA 16 oneF) := by kernel_rfl
theorem execB16o {o : Oper} {a : Act} {w : World} (ho : o.op = .build 25 #[(0, .const (.int .u8 1))]) : (execOp a.eval o).run Tryd.prog w = .ok (.value (.agg (bA 16 oneF))) w := by
  have h := zero16
  unfold execOp
  simp only [ho]
  simp [go_sem, h]
  rfl
theorem oneF_by : By oneF := fun j _ => by unfold oneF; split <;> omega
theorem hi_lt : ∀ j, hi j < 256 := fun j => by unfold hi; split <;> omega
theorem wrF_lt {key nonce inner : Nat → Nat} {L n : Nat} (h1 : By nonce) (hn : n < 65536) (h2 : ∀ j, j < n → inner j < 256) (j : Nat) : wrF key nonce L n inner j < 256 :=
  onB_lt h1 (fun _ => tgF_lt _ _ _ _ _ _) (fun _ => bxF_lt (dk_lt _ _) (pbF_all hn h2) _) j
theorem cwF_lt {key nonce inner : Nat → Nat} {L n : Nat} (h1 : By nonce) (hn : n < 65536) (h2 : ∀ j, j < n → inner j < 256) (j : Nat) : cwF key nonce L n inner j < 256 :=
  cellF_lt (fun j h => by omega) (fun j _ => wrF_lt h1 hn h2 j) j
theorem peP_lt {key c : Nat → Nat} {j : Nat} (h : c (32 + j) < 256) : peP key c j < 256 := by
  unfold peP bxF maskF
  exact xor_lt h (enc_by (fun j _ => kw_lt (fun i _ => dk_lt _ _ i) j) (be_by _) _ (Nat.mod_lt _ (by omega)))
theorem nxF_lt {left : Int} {n : Nat} {p : Nat → Nat} (hn : left ≤ 1 → n < 256) (hp : ∀ j, j < n → p j < 256) : ∀ j, nxF left n p j < 256 := by
  intro j
  unfold nxF
  split
  · exact cellF_lt (fun j h => by omega) hp j
  · rename_i q
    have := hn (by omega)
    exact cellF_lt (fun j h => by unfold headP; split <;> omega) hp j
theorem okE320 : okE 320 82 = 0 ∧ okN 320 82 = 320 ∧ okE 48 2 = 0 ∧ okN 48 2 = 320 := ⟨rfl, rfl, rfl, rfl⟩
theorem pC_at {W : World} {g : Nat} {cv : Value} {r : Nat → Nat} {t : TypeId} (h : W.heap[g]? = some (.cells (pC cv r) t)) : W.cell? ⟨g, 0, none⟩ = some cv := by
  rw [cell_of_row _ _ _ _ _ _ h]
  rfl
set_option maxRecDepth 20000 in
set_option maxHeartbeats 1000000 in
theorem alive_any (V : World) (hG : Glob V) : Calls Tryd.prog 8 #[] V fun e w' => e = .returned (.bool true) ∧ Below V.heap.size V w' := by
  have h1 : (1 : Nat) ≤ 1 ∧ (1 : Nat) ≤ 8 := by omega
  have kc := fun (w : World) (C : Array Value) (n c : Nat) => Lib.run_convert_bytes_const (P := Tryd.prog) w 24 5 C n c Tryd.underlying24 Tryd.underlying5
  have HG : Hid (Glob V) := hG
  have zp := zeroP
  obtain ⟨ky, hky⟩ : ∃ ky : Nat → Nat, (fun _ => 0) = ky := ⟨_, rfl⟩
  obtain ⟨on, hon⟩ : ∃ on, wrF ky oneF 1 2 hi = on := ⟨_, rfl⟩
  obtain ⟨cw, hcw⟩ : ∃ cw, cellF 0 headO 82 on = cw := ⟨_, rfl⟩
  have ec : cwF ky oneF 1 2 hi = cw := by rw [← hcw, ← hon]; rfl
  obtain ⟨pl, hpl⟩ : ∃ pl, cellF 2 (headP 2) 2 hi = pl := ⟨_, rfl⟩
  have WR : Hid (∀ W, Glob W → ∀ vk vi, SliceN W vk 32 ky → SliceN W vi 2 hi → Calls Tryd.prog 14 #[vk, .agg (bA 16 oneF), .int .i64 1, vi] W fun e w' => ∃ r, e = .returned (.tuple #[r, .int .i64 0]) ∧ w'.ownsRow W.heap.size 5 1 r 82 (bytesL 82 on) ∧ Below W.heap.size W w') := fun W hg vk vi hk hi' => by
    have h := wrap_any ky oneF hi 32 2 1 vk vi W hg hk oneF_by hi' (by omega)
    rw [show wrE 32 1 2 = 0 from rfl, show wrN 32 1 2 = 82 from rfl, show (1 : Int).toNat = 1 from rfl, hon] at h
    exact h
  have P1 : Hid (∀ W, Glob W → ∀ vk vc, SliceN W vk 32 ky → SliceZ W vc 320 cw → Calls Tryd.prog 16 #[vk, .int .i64 1, vc] W fun e w' => ∃ cv r, e = .returned (.tuple #[.agg (pC cv r), .int .i64 0]) ∧ w'.ownsRow W.heap.size 5 1 cv 320 (bytesL 320 pl) ∧ Below W.heap.size W w') := fun W hg vk vc hk hc => by
    have h := peel_any ky cw 32 320 1 vk vc W hg hk hc (by omega)
    have e0 : peE 32 1 320 ky cw = 0 := by rw [← ec]; exact cw_e (L := 1) h1 (by decide)
    have e1 : peC 1 ky cw = pl := by
      funext j
      rw [← ec, ← hpl]
      exact cw_c (L := 1) h1 (by decide) j
    rw [e0, e1, show peN 0 = 320 from rfl] at h
    refine h.mono ?_
    rintro e w' ⟨cv, rfl, own, hb⟩
    exact ⟨cv, _, rfl, own, hb⟩
  have P2 : Hid (∀ W, Glob W → ∀ vk vc, SliceN W vk 32 ky → SliceZ W vc 320 cw → Calls Tryd.prog 16 #[vk, .int .i64 2, vc] W fun e w' => ∃ (E : Nat) (a : Option Addr) (m c : Nat) (r : Nat → Nat), e = .returned (.tuple #[.agg (pC (.slice a m c) r), .int .i64 (E : Int)]) ∧ E ≠ 0 ∧ Below W.heap.size W w') := fun W hg vk vc hk hc => by
    refine (peel_any ky cw 32 320 2 vk vc W hg hk hc (by omega)).mono ?_
    rintro e w' ⟨cv, rfl, own, hb⟩
    obtain ⟨a, c, rfl⟩ := own_shapeJ own
    exact ⟨_, a, _, c, _, rfl, by rw [← ec, ← hky]; exact cw_two, hb⟩
  have PD : Hid (∀ W v, SliceZ W v 82 on → Calls Tryd.prog 15 #[v] W fun e w' => ∃ r, e = .returned (.tuple #[r, .int .i64 0]) ∧ w'.ownsRow W.heap.size 5 1 r 320 (bytesL 320 cw) ∧ Below W.heap.size W w') := fun W v hv => by
    have h := pad_any on 82 v W hv (by omega)
    rw [okE320.1, okE320.2.1, hcw] at h
    exact h
  have PL : Hid (∀ W v, SliceZ W v 2 hi → Calls Tryd.prog 17 #[v] W fun e w' => ∃ r, e = .returned (.tuple #[r, .int .i64 0]) ∧ w'.ownsRow W.heap.size 5 1 r 320 (bytesL 320 pl) ∧ Below W.heap.size W w') := fun W v hv => by
    have h := plain_any hi 2 v W hv (by omega)
    rw [okE320.2.2.1, okE320.2.2.2, hpl] at h
    exact h
  have onl : ∀ j, on j < 256 := by rw [← hon]; exact wrF_lt oneF_by (by omega) (fun j _ => hi_lt j)
  have cwl : ∀ j, cw j < 256 := by rw [← hcw]; exact cellF_lt (fun j h => by omega) (fun j _ => onl j)
  have pll : ∀ j, pl j < 256 := by rw [← hpl]; exact cellF_lt (fun j h => by unfold headP; split <;> omega) (fun j _ => hi_lt j)
  have LL : Hid ((∀ j, on j < 256) ∧ (∀ j, cw j < 256) ∧ (∀ j, pl j < 256)) := ⟨onl, cwl, pll⟩
  have r0 := heapNew V (.cells (bA 32 fun _ => 0) 5)
  have b0 := belNew V (.cells (bA 32 fun _ => 0) 5)
  rw [hky] at r0 b0
  obtain ⟨V0, hV0⟩ : ∃ V0, V.alloc (.cells (bA 32 ky) 5) = V0 := ⟨_, rfl⟩
  rw [hV0] at r0 b0
  have K0 : Hid (SliceN V0 (.slice (some ⟨V.heap.size, 0, none⟩) 32 32) 32 ky ∧ Below V.heap.size V V0) := ⟨row_slice r0 (fun j _ => by rw [← hky]; show (0 : Nat) < 256; omega) (by omega), b0⟩
  obtain ⟨V1, hV1⟩ : ∃ V1, V0.alloc (.cells #[.int .u8 104, .int .u8 105] 5 (2, 3)) = V1 := ⟨_, rfl⟩
  have hs := hi_slice (heapNew V0 (.cells #[.int .u8 104, .int .u8 105] 5 (2, 3)))
  have b1 := belNew V0 (.cells #[.int .u8 104, .int .u8 105] 5 (2, 3))
  rw [hV1] at hs b1
  have K1 : Hid (SliceN V1 (.slice (some ⟨V.heap.size, 0, none⟩) 32 32) 32 ky ∧ Below V.heap.size V V1 ∧ SliceZ V1 (.slice (some ⟨V0.heap.size, 0, none⟩) 2 2) 2 hi) := ⟨K0.out.1.on b1, K0.out.2.trans (b1.mono K0.out.2.size), hs⟩
  have HKY : Hid ((fun _ => 0) = ky) := hky
  clear hky h1 hG hon hcw ec hpl onl cwl pll r0 b0 hs b1
  go_enter Tryd.func8, Tryd.ntmps8
  go_wp2_with (first
    | (refine wpList_ex rfl (execMk (l := 32) (n := 32) rfl rfl rfl (Nat.le_refl _) (by omega)) ?_; rw [HKY.out, hV0])
    | (refine wpList_ex rfl (execB16o rfl) ?_)
    | (go_at_call 14; refine (WR.out _ (HG.out.below K1.out.2.1 HG.out.sz) _ _ K1.out.1 K1.out.2.2.sl).mono ?_; rintro e w2 ⟨r2, rfl, own2, hb2⟩; obtain ⟨a2, c2, rfl⟩ := own_shapeJ own2; have S2 : Hid (Below V.heap.size V w2 ∧ SliceN w2 (.slice (some ⟨V.heap.size, 0, none⟩) 32 32) 32 ky ∧ SliceZ w2 (.slice a2 82 c2) 82 on) := ⟨K1.out.2.1.trans (hb2.mono K1.out.2.1.size), K1.out.1.on hb2, own_sliceZ own2 (fun j _ => LL.out.1 j)⟩; clear own2 hb2)
    | (go_at_call 15; refine (PD.out _ _ S2.out.2.2).mono ?_; rintro e w3 ⟨r3, rfl, own3, hb3⟩; obtain ⟨a3, c3, rfl⟩ := own_shapeJ own3; have S3 : Hid (Below V.heap.size V w3 ∧ SliceN w3 (.slice (some ⟨V.heap.size, 0, none⟩) 32 32) 32 ky ∧ SliceZ w3 (.slice a3 320 c3) 320 cw) := ⟨S2.out.1.trans (hb3.mono S2.out.1.size), S2.out.2.1.on hb3, own_sliceZ own3 (fun j _ => LL.out.2.1 j)⟩; clear own3 hb3)
    | (go_at_call_of 16 (Value.int .i64 1); refine (P1.out _ (HG.out.below S3.out.1 HG.out.sz) _ _ S3.out.2.1 S3.out.2.2).mono ?_; rintro e w4 ⟨r4, q4, rfl, own4, hb4⟩; obtain ⟨a4, c4, rfl⟩ := own_shapeJ own4; have S4 : Hid (Below V.heap.size V w4 ∧ SliceN w4 (.slice (some ⟨V.heap.size, 0, none⟩) 32 32) 32 ky ∧ SliceZ w4 (.slice a3 320 c3) 320 cw ∧ SliceN w4 (.slice a4 320 c4) 320 pl) := ⟨S3.out.1.trans (hb4.mono S3.out.1.size), S3.out.2.1.on hb4, S3.out.2.2.on hb4, own_slice own4 (fun j _ => LL.out.2.2 j)⟩; clear own4 hb4)
    | (refine atStore 44 (.tmp 6) (.tmp 30) rfl ?_; go_must (refine wpList_exS rfl (execStAll (cells := pC (.slice a4 320 c4) q4) rfl rfl rfl (heapNew w4 _) (by rw [pC_size, pC_size]) (sizeP _ _) (pC_one _ rfl)) ?_; obtain ⟨W5, hW5⟩ : ∃ W5, (w4.alloc (.cells (pC (.slice none 0 0) fun _ => 0) 44)).setRow w4.heap.size (pC (.slice a4 320 c4) q4) = W5 := ⟨_, rfl⟩; have r5 : W5.heap[w4.heap.size]? = some (.cells (pC (.slice a4 320 c4) q4) 44) := (by rw [← hW5]; exact setRow_heap _ _ _ _ _ _ (heapNew w4 _)); have b5 : Below w4.heap.size w4 W5 := (by rw [← hW5]; exact below4 (belNew w4 _) (Nat.le_refl _) _); have z5 := hi_slice (heapNew W5 (.cells #[.int .u8 104, .int .u8 105] 5 (2, 3))); have y5 := belNew W5 (.cells #[.int .u8 104, .int .u8 105] 5 (2, 3)); have b05 := S4.out.1.trans (b5.mono S4.out.1.size); have S5 : Hid (Below V.heap.size V (W5.alloc (.cells #[.int .u8 104, .int .u8 105] 5 (2, 3))) ∧ SliceN (W5.alloc (.cells #[.int .u8 104, .int .u8 105] 5 (2, 3))) (.slice (some ⟨V.heap.size, 0, none⟩) 32 32) 32 ky ∧ SliceZ (W5.alloc (.cells #[.int .u8 104, .int .u8 105] 5 (2, 3))) (.slice a3 320 c3) 320 cw ∧ SliceN (W5.alloc (.cells #[.int .u8 104, .int .u8 105] 5 (2, 3))) (.slice a4 320 c4) 320 pl ∧ SliceZ (W5.alloc (.cells #[.int .u8 104, .int .u8 105] 5 (2, 3))) (.slice (some ⟨W5.heap.size, 0, none⟩) 2 2) 2 hi ∧ (W5.alloc (.cells #[.int .u8 104, .int .u8 105] 5 (2, 3))).heap[w4.heap.size]? = some (.cells (pC (.slice a4 320 c4) q4) 44)) := ⟨b05.trans (y5.mono b05.size), (S4.out.2.1.on b5).on y5, (S4.out.2.2.1.on b5).on y5, (S4.out.2.2.2.on b5).on y5, z5, (by rw [y5.block _ (Array.getElem?_eq_some_iff.1 r5).1]; exact r5)⟩; rw [hW5]; clear r5 b5 z5 y5 b05 hW5))
    | (go_at_call 17; refine (PL.out _ _ S5.out.2.2.2.2.1).mono ?_; rintro e w6 ⟨r6, rfl, own6, hb6⟩; obtain ⟨a6, c6, rfl⟩ := own_shapeJ own6; have S6 : Hid (Below V.heap.size V w6 ∧ SliceN w6 (.slice (some ⟨V.heap.size, 0, none⟩) 32 32) 32 ky ∧ SliceZ w6 (.slice a3 320 c3) 320 cw ∧ SliceN w6 (.slice a4 320 c4) 320 pl ∧ SliceN w6 (.slice a6 320 c6) 320 pl ∧ w6.heap[w4.heap.size]? = some (.cells (pC (.slice a4 320 c4) q4) 44)) := ⟨S5.out.1.trans (hb6.mono S5.out.1.size), S5.out.2.1.on hb6, S5.out.2.2.1.on hb6, S5.out.2.2.2.1.on hb6, own_slice own6 (fun j _ => LL.out.2.2 j), (by rw [hb6.block _ (Array.getElem?_eq_some_iff.1 S5.out.2.2.2.2.2).1]; exact S5.out.2.2.2.2.2)⟩; clear own6 hb6)
    | (go_at_call_of 16 (Value.int .i64 2); refine (P2.out _ (HG.out.below S6.out.1 HG.out.sz) _ _ S6.out.2.1 S6.out.2.2.1).mono ?_; rintro e w7 ⟨E7, a7, m7, c7, q7, rfl, ne7, hb7⟩; have S7 : Hid (Below V.heap.size V w7 ∧ SliceN w7 (.slice a4 320 c4) 320 pl ∧ SliceN w7 (.slice a6 320 c6) 320 pl ∧ w7.heap[w4.heap.size]? = some (.cells (pC (.slice a4 320 c4) q4) 44)) := ⟨S6.out.1.trans (hb7.mono S6.out.1.size), S6.out.2.2.2.1.on hb7, S6.out.2.2.2.2.1.on hb7, (by rw [hb7.block _ (Array.getElem?_eq_some_iff.1 S6.out.2.2.2.2.2).1]; exact S6.out.2.2.2.2.2)⟩; have i7 : ((E7 : Int) != 0) = true := (by simp; omega); clear hb7 ne7)
    | (refine atStore 44 (.tmp 10) (.tmp 42) rfl ?_; go_must (refine wpList_exS rfl (execStAll (cells := pC (.slice a7 m7 c7) q7) rfl rfl rfl (heapNew w7 _) (by rw [pC_size, pC_size]) (sizeP _ _) (pC_one _ rfl)) ?_; obtain ⟨W8, hW8⟩ : ∃ W8, (w7.alloc (.cells (pC (.slice none 0 0) fun _ => 0) 44)).setRow w7.heap.size (pC (.slice a7 m7 c7) q7) = W8 := ⟨_, rfl⟩; have b8 : Below w7.heap.size w7 W8 := (by rw [← hW8]; exact below4 (belNew w7 _) (Nat.le_refl _) _); have ce := pC_at (W := W8) (g := w4.heap.size) (cv := .slice a4 320 c4) (r := q4) (t := 44) (by rw [b8.block _ (Array.getElem?_eq_some_iff.1 S7.out.2.2.2).1]; exact S7.out.2.2.2); have k1 := By8.conv_str (S7.out.2.1.on b8); have k2 := By8.conv_str (S7.out.2.2.1.on b8); have S8 : Hid (Below V.heap.size V W8) := S7.out.1.trans (b8.mono S7.out.1.size); rw [hW8]; clear b8 hW8))
    | (go_at_call 9; refine (psize_any 2 _).mono ?_; rw [show sz 2 = 116 from rfl]; rintro e w9 ⟨rfl, hw9⟩; rw [hw9]; clear hw9))
  go_ret
  exact ⟨rfl, S8.out⟩
end Go.Proofs.YtfhldpdnoaoohaaDoor.Oni
