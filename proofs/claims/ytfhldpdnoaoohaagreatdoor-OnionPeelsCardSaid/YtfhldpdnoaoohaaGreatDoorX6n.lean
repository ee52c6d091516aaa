import Derived.Test.YtfhldpdnoaoohaaGreatDoorA7
import Derived.Lib.LaidTab
import Derived.ProofKit
import Derived.Test.YtfhldpdnoaoohaaGreatDoorX6l
import Derived.Test.YtfhldpdnoaoohaaGreatDoorY2
import Derived.Test.YtfhldpdnoaoohaaGreatDoorL1
import Derived.Lib.SmallJoins
import Derived.Test.YtfhldpdnoaoohaaGreatDoorX6m
import Derived.Deep.SlicePairs
import Derived.OpenShut
import Derived.ChangeOld
import Derived.SizedLaws
import Derived.Deep.DeepHandedRow
namespace Go.Proofs.YtfhldpdnoaoohaaGreatDoor
open Go.RowKit
theorem gH : Tryz.prog.globalNamed "churn/hash.startWords" = some 0 := by kernel_rfl
theorem gK : Tryz.prog.globalNamed "churn/hash.stepWords" = some 1 := by kernel_rfl
theorem gHt : (Tryz.prog.globals[0]?).map (·.type) = some 78 := by kernel_rfl
theorem gKt : (Tryz.prog.globals[1]?).map (·.type) = some 79 := by kernel_rfl
theorem cells23 : Tryz.prog.cellsOf 78 = 8 := by kernel_rfl
theorem cells47 : Tryz.prog.cellsOf 79 = 64 := by kernel_rfl
theorem cells22 : Tryz.prog.cellsOf 77 = 1 := by kernel_rfl
/-- The two tables, as every row of this seat lists them. -/
def laidList : List (String × DataW Unit) := [("churn/hash.startWords", Rows.laid_churn_hash_startWords), ("churn/hash.stepWords", Rows.laid_churn_hash_stepWords)]
theorem laidMet_rest {P : Program} {x : String × DataW Unit} {rest : List (String × DataW Unit)} {W : World} (h : laidMet P (x :: rest) W) : laidMet P rest W := by
  obtain ⟨ps, hl, hnd, hall⟩ := h
  obtain ⟨g, t, cs, fuel, p, q, _, _, _, _, h1, h2⟩ := hl
  first
    | (subst h2
       exact ⟨q, h1, (List.nodup_append.1 hnd).2.1, fun b off hm => hall b off (List.mem_append_right _ hm)⟩)
    | (subst h1
       exact ⟨q, h2, (List.nodup_append.1 hnd).2.1, fun b off hm => hall b off (List.mem_append_right _ hm)⟩)
theorem glob_of {W : World} (h : laidMetH Tryz.prog laidList W) : Glob W := by
  have h' : laidMet Tryz.prog laidList W := h
  have t1 : Lib.TabIs Tryz.prog W "churn/hash.startWords" .u32 hList :=
    Lib.tabIs_of_head (rest := [("churn/hash.stepWords", Rows.laid_churn_hash_stepWords)]) gH gHt Tryz.underlying78 Tryz.underlying77 cells22 cells23 h'
  have t2 : Lib.TabIs Tryz.prog W "churn/hash.stepWords" .u32 kList :=
    Lib.tabIs_of_head (rest := []) gK gKt Tryz.underlying79 Tryz.underlying77 cells22 cells47 (laidMet_rest h')
  have c0 := t1.cell gH
  have c1 := t2.cell gK
  have e0 := c1 63 (by decide)
  have hb := World.block_lt_of_cell? W _ e0
  exact ⟨hb, fun i hi => c0 i hi, fun i hi => c1 i hi⟩

/-- A block of words, holding these. -/
def holdWords (zs : List Int) : Obj → Obj
  | .cells _ t frozen => .cells (zs.map fun z => Value.int .u32 z).toArray t frozen
  | o => o
/-- A WORLD FOR THE WITNESS: the settled one, the two tables holding what their initialisers lay. -/
def layW (w : World) : World := { w with heap := (w.heap.modify 0 (holdWords hList)).modify 1 (holdWords kList) }
theorem own : ownKnob Tryz.prog.godebug = none := by kernel_rfl
theorem laidOut : laidOutB Tryz.prog = true := by kernel_rfl
end Go.Proofs.YtfhldpdnoaoohaaGreatDoor

namespace Go.Proofs.YtfhldpdnoaoohaaGreatDoor.Oni
open Go.ChangeShapes Go.WideShapes Go.ChangeAt Go.RowKit Gf8 Aes By8 Cel
/- A Job as an argument. -/

section
variable {H : Type} {enc : TypeId × Value → H} {P : Program} {k e : TypeId} {n : Nat} {W : World} {base : Nat} {sp : Nat → Bool} {held : Bool}
/-- The cells of an array of bytes that reads. -/
theorem cells_bytes (hu : P.underlying k = some (.array n e)) (he : P.underlying e = some (.int .u8)) (one : P.cellsOf e = 1) (size : P.cellsOf k = n) {fuel : Nat} {cs : List Value} {x : DataW H × List MemPlace}
    (hl : cs.length = n) (hf : DataW.trod enc P W base sp held fuel k cs = some x) : ∃ f : Nat → Nat, (∀ i, i < n → f i < 256) ∧ ∀ i, i < n → cs[i]? = some (.int .u8 (f i)) := by
  cases fuel with
  | zero => simp [DataW.trod] at hf
  | succ m =>
    rw [DataW.trod_step] at hf
    unfold DataW.trodStep at hf
    simp only [hu] at hf
    rw [if_pos (by rw [size]; exact hl)] at hf
    simp only [Option.map_eq_some_iff, one] at hf
    obtain ⟨ys, hy, e1⟩ := hf
    obtain ⟨f, hfd⟩ : ∃ f : Nat → Nat, ∀ i a, cs[i]? = some (.int .u8 a) → f i = a.toNat :=
      ⟨fun i => match cs[i]? with | some (.int .u8 a) => a.toNat | _ => 0, fun i a h => by simp only [h]⟩
    have key : ∀ i, i ∈ List.range n → ∀ y, DataW.trod enc P W base sp held m e ((cs.drop (i * 1)).take 1) = some y → y = (.lit (.int .u8 (f i)), []) ∧ cs[i]? = some (.int .u8 (f i)) ∧ f i < 256 := by
      intro i _ y hy
      obtain ⟨a, ea, rfl, wa⟩ := DataW.trod_int he hy
      have h1 := one_at _ ea
      have h2 := hfd i a h1
      have h3 := wfB.1 wa
      have h4 : (f i : Int) = a := by rw [h2]; omega
      rw [h4]
      exact ⟨rfl, h1, by omega⟩
    obtain ⟨r1, r2⟩ := mapM_back (h := fun i => ((.lit (.int .u8 (f i)), []) : DataW H × List MemPlace)) _ ys hy fun i hi y h => (key i hi y h).1
    have r3 : ∀ i, i < n → cs[i]? = some (.int .u8 (f i)) ∧ f i < 256 := fun i hi => (key i (List.mem_range.2 hi) _ (r2 i (List.mem_range.2 hi))).2
    exact ⟨f, fun i hi => (r3 i hi).2, fun i hi => (r3 i hi).1⟩
end

theorem take_at {cs : List Value} {o n i : Nat} (h : i < n) : ((cs.drop o).take n)[i]? = cs[o + i]? := by
  rw [List.getElem?_take, if_pos h, List.getElem?_drop]
end Go.Proofs.YtfhldpdnoaoohaaGreatDoor.Oni

namespace Go.Proofs.YtfhldpdnoaoohaaGreatDoor.Oni
open Go.ChangeShapes Go.WideShapes Go.ChangeAt Go.RowKit Gf8 Aes By8 Cel
/- OnionPeels. -/

structure Cells (W : World) (cv : Value) (n : Nat) (xv : Nat → Value) (ln : Nat → Nat) (c : Nat → Nat → Nat) : Prop where
  shape : ∃ a cap, cv = .slice a n cap ∧ n ≤ cap ∧ cap < 9223372036854775808 ∧ (0 < n → ∃ b off, a = some ⟨b, off, none⟩ ∧ b < W.heap.size ∧ ∀ i, i < n → W.cell? ⟨b, off + i, none⟩ = some (xv i))
  cell : ∀ i, i < n → SliceN W (xv i) (ln i) (c i)
  nil : ∀ i, i < n → ∀ l cc, xv i = .slice none l cc → cc = 0
  lens : ∀ i, i < n → ln i ≤ 140737488351232
theorem Cells.on {W W' : World} {cv : Value} {n : Nat} {xv : Nat → Value} {ln : Nat → Nat} {c : Nat → Nat → Nat} (h : Cells W cv n xv ln c) (hb : Below W.heap.size W W') : Cells W' cv n xv ln c := by
  obtain ⟨a, cap, e, h1, h2, h3⟩ := h.shape
  refine ⟨⟨a, cap, e, h1, h2, fun h0 => ?_⟩, fun i hi => (h.cell i hi).on hb, h.nil, h.lens⟩
  obtain ⟨b, off, e2, hl, hc⟩ := h3 h0
  exact ⟨b, off, e2, Nat.lt_of_lt_of_le hl hb.size, fun i hi => by rw [cell_below hb hl]; exact hc i hi⟩
theorem Cells.one {W : World} {cv : Value} {n : Nat} {xv : Nat → Value} {ln : Nat → Nat} {c : Nat → Nat → Nat} (h : Cells W cv n xv ln c) : cv.oneCell' = true := by
  obtain ⟨a, cap, rfl, _⟩ := h.shape
  rfl
theorem bytesLL : Tryz.prog.bytesOf 22 = 24 := by kernel_rfl
theorem kL : Tryz.prog.cellsOf 22 = 1 := by kernel_rfl
theorem weightsAll_in {H : Type} {P : Program} {e : TypeId} : ∀ {ds : List (DataW H)} {d : DataW H}, d ∈ ds → ∀ n ∈ d.weights P e, n ∈ DataW.weightsAll P e ds
  | d0 :: ds, d, hd, n, hn => by
    simp only [DataW.weightsAll, List.mem_append]
    rcases List.mem_cons.1 hd with rfl | h
    · exact Or.inl hn
    · exact Or.inr (weightsAll_in h n hn)
  | [], _, hd, _, _ => by cases hd
set_option maxRecDepth 20000 in
/-- A [][]byte that reads is one. -/
theorem cells_read {H : Type} {enc : TypeId × Value → H} {W : World} {fuel : Nat} {v : Value} {d : DataW H} {p : List MemPlace} (h : DataW.trod enc Tryz.prog W 0 (fun _ => true) true fuel 23 [v] = some (d, p))
    (hw : ∀ n ∈ d.weights Tryz.prog 23, n ≤ reachBytes) : ∃ n xv ln c, Cells W v n xv ln c ∧ n ≤ 140737488351232 := by
  have hr : reachBytes = 140737488351232 := rfl
  rcases Deep.open_slice Tryz.underlying23 h with ⟨hcs, _⟩ | ⟨a, len, cap, m, fu, D, Pl, hcs, _, hl, hm, hmm, hx, hel⟩
  · simp at hcs
    subst hcs
    exact ⟨0, fun _ => undef, fun _ => 0, fun _ _ => 0, ⟨⟨none, 0, rfl, Nat.le_refl _, by omega, fun h => by omega⟩, fun i h => by omega, fun i h => by omega, fun i h => by omega⟩, by omega⟩
  · simp at hcs
    subst hcs
    simp only [Prod.mk.injEq] at hx
    obtain ⟨rfl, rfl⟩ := hx
    simp only [if_true] at hmm
    have hn : (len + (m - len)) * 24 ≤ reachBytes := by
      refine hw _ ?_
      simp only [DataW.weights, Tryz.underlying23, bytesLL]
      exact List.mem_cons.2 (Or.inl (by simp))
    have each : ∀ i, i < len → ∃ q : Value × Nat × (Nat → Nat), W.cell? (a.add i) = some q.1 ∧ SliceN W q.1 q.2.1 q.2.2 ∧ q.2.1 ≤ 140737488351232 ∧ ∀ l c, q.1 = .slice none l c → c = 0 := by
      intro i hi
      obtain ⟨cs', h1, h2⟩ := hel i (by omega)
      rw [kL, Nat.mul_one] at h1
      obtain ⟨_, hlen, hcell⟩ := World.cells?_some h1
      match cs', hlen with
      | [v0], _ =>
        have e0 := hcell 0 (by omega)
        rw [Deep.add_add] at e0
        simp at e0
        obtain ⟨pl, pp, s1, s2, s3⟩ := bytes_readJ h2 (fun n hn => hw n (by
          simp only [DataW.weights, Tryz.underlying23]
          exact List.mem_cons_of_mem _ (List.mem_append_left _ (weightsAll_in (d := D i) (List.mem_map.2 ⟨i, List.mem_range.2 hi, rfl⟩) n hn))))
        exact ⟨(v0, pl, pp), e0, s1, s2, s3⟩
    obtain ⟨q, hq⟩ := Deep.choose_lt each
    refine ⟨len, fun i => (q i).1, fun i => (q i).2.1, fun i => (q i).2.2, ⟨⟨some a, cap, rfl, hl, by have h9 : cap ≤ maxLen := hm; unfold maxLen at h9; omega, fun hp => ?_⟩, fun i hi => (hq i hi).2.1, fun i hi => (hq i hi).2.2.2, fun i hi => (hq i hi).2.2.1⟩, by omega⟩
    obtain ⟨b, off, spot⟩ := a
    have hc0 := (hq 0 hp).1
    have hspot : spot = none := by simpa [Addr.add] using World.cell?_spot hc0
    subst hspot
    refine ⟨b, off, rfl, World.block_lt_of_cell? W _ hc0, fun i hi => ?_⟩
    have h1 := (hq i hi).1
    rw [Go.WideShapes.add_plain] at h1
    exact h1
theorem cells_readW {H : Type} {enc : TypeId × Value → H} {W : World} {v : Value} {d : DataW H} {p : List MemPlace} (h : ∃ fuel, DataW.trod enc Tryz.prog W 0 (fun _ => true) true fuel 23 v.cells.toList = some (d, p))
    (hw : ∀ n ∈ d.weights Tryz.prog 23, n ≤ reachBytes) (hs : ∃ a l c, v = .slice a l c) : ∃ n xv ln c, Cells W v n xv ln c ∧ n ≤ 140737488351232 := by
  obtain ⟨a, l, c, rfl⟩ := hs
  obtain ⟨fuel, hf⟩ := h
  exact cells_read (d := d) (p := p) hf hw

set_option maxRecDepth 20000 in
theorem samePeeled_true (va vb : Value) (n : Nat) (p r : Nat → Nat) (V : World) (ha : SliceN V va n p) (hb : SliceN V vb n p) :
    Calls Tryz.prog 7 #[.agg (pC va r), .agg (pC vb r)] V fun e w' => e = .returned (.bool true) ∧ Below V.heap.size V w' := by
  obtain ⟨V2, hV2⟩ : ∃ V2, (V.alloc (.cells (pC va r) 27)).alloc (.cells (pC vb r) 27) = V2 := ⟨_, rfl⟩
  have hh := heap2c V (.cells (pC va r) 27) (.cells (pC vb r) 27)
  have bl := below2c V (.cells (pC va r) 27) (.cells (pC vb r) 27)
  rw [hV2] at hh bl
  have c0 := pC_at hh.1
  have c1 := pC_at hh.2
  have C0 : Hid (_) := pC_arr hh.1
  have C1 : Hid (_) := pC_arr hh.2
  have k1 := By8.conv_str (ha.on bl)
  have k2 := By8.conv_str (hb.on bl)
  have BL : Hid (Below V.heap.size V V2) := bl
  obtain ⟨a1, q1, rfl, _⟩ := ha.shape
  obtain ⟨a2, q2, rfl, _⟩ := hb.shape
  clear ha hb hh bl
  go_enter Tryz.func7, Tryz.ntmps7
  go_wp2_with (first
    | (refine atLoad 25 (.tmp 13) rfl ?_; go_must (refine wpList_ex rfl (execLdList (k := 16) (q := r) rfl rfl C0.out Tryz.underlying25 rfl (by kernel_rfl)) ?_))
    | (refine atLoad 25 (.tmp 15) rfl ?_; go_must (refine wpList_ex rfl (execLdList (k := 16) (q := r) rfl rfl C1.out Tryz.underlying25 rfl (by kernel_rfl)) ?_))
    | (refine wpList_ex rfl (exec_same16 rfl rfl rfl (fun _ _ => rfl)) ?_))
  go_ret
  exact ⟨rfl, BL.out⟩
theorem peC_lt {left : Int} {key c : Nat → Nat} {len lk : Nat} (h : peE lk left len key c = 0) (hb : ∀ j, j < len → c j < 256) : ∀ j, peC left key c j < 256 := by
  obtain ⟨_, g1, g2, hl, _, _, hok⟩ := pe_parts h
  obtain ⟨L, rfl⟩ : ∃ L : Nat, left = L := ⟨left.toNat, by omega⟩
  have s := szL (L := L) (by omega)
  unfold inOk at hok
  rw [Bool.and_eq_true] at hok
  have hn := of_decide_eq_true hok.1
  unfold peC
  exact nxF_lt (fun q => by omega) fun j hj => peP_lt (hb _ (by omega))
set_option maxRecDepth 20000 in
set_option maxHeartbeats 1000000 in
theorem peels_any (key : Nat → Nat) (lk : Nat) (left : Int) (vk cv : Value) (m : Nat) (xv : Nat → Value) (ln : Nat → Nat) (c : Nat → Nat → Nat) (V : World) (hG : Glob V) (hk : SliceN V vk lk key) (hc : Cells V cv m xv ln c) (hm : m ≤ 140737488351232) :
    Calls Tryz.prog 3 #[vk, .int .i64 left, cv] V fun e w' => e = .returned (.bool true) ∧ Below V.heap.size V w' := by
  have A := alive_any V hG
  obtain ⟨ca, ccap, rfl, hs1, hs2, hs⟩ := id hc.shape
  have HV : Hid (Glob V ∧ SliceN V vk lk key ∧ Cells V (.slice ca m ccap) m xv ln c) := ⟨hG, hk, hc⟩
  have HS : Hid (0 < m → ∃ b off, ca = some ⟨b, off, none⟩ ∧ b < V.heap.size ∧ ∀ i, i < m → V.cell? ⟨b, off + i, none⟩ = some (xv i)) := hs
  have zp := zeroP
  have lm : (m : Int) ≤ 140737488351232 := by omega
  clear hG hk hc hs hs1 hs2 hm
  go_enter Tryz.func3, Tryz.ntmps3
  go_wp2_with (go_at_call 4; refine A.mono ?_; rintro e w1 ⟨rfl, hb1⟩; have B1 : Hid (Below V.heap.size V w1) := hb1; clear hb1)
  go_loopw [7] (fun z W => ∃ i : Nat, i ≤ m ∧ z = .int .i64 (i : Int) ∧ Below V.heap.size V W) (fun z _ => m - (intOf z).toNat)
  case atStart => exact ⟨0, Nat.zero_le _, rfl, B1.out⟩
  case round =>
    obtain ⟨i, hi, rfl, bel⟩ := hrel
    by_cases hlt : i < m
    · have i1 : (i : Int) < m := by omega
      obtain ⟨b, off, rfl, hb, hcell⟩ := HS.out (by omega)
      have c1 : wr.cell? ⟨b, off + i, none⟩ = some (xv i) := by rw [cell_below bel hb]; exact hcell i hlt
      obtain ⟨E, hE⟩ : ∃ E, peE lk left (ln i) key (c i) = E := ⟨_, rfl⟩
      obtain ⟨rp, hrp⟩ : ∃ rp, peR E key (c i) = rp := ⟨_, rfl⟩
      obtain ⟨M, hM⟩ : ∃ M, peN E = M := ⟨_, rfl⟩
      obtain ⟨pc, hpc⟩ : ∃ pc, peC left key (c i) = pc := ⟨_, rfl⟩
      have PCL : Hid (∀ j, j < M → pc j < 256) := fun j hj => by
        rw [← hpc]
        have : E = 0 := by
          by_cases h : E = 0
          · exact h
          · rw [← hM, peN, if_neg h] at hj; omega
        exact peC_lt (hE.trans this) (HV.out.2.2.cell i hlt).bytes j
      have hsz : ∀ W, Below V.heap.size V W → SliceZ W (xv i) (ln i) (c i) := fun W hW => ⟨(HV.out.2.2.cell i hlt).on hW, HV.out.2.2.nil i hlt⟩
      have RP : Hid (∀ W, Below V.heap.size V W → Calls Tryz.prog 5 #[vk, .int .i64 left, xv i] W fun e w' => ∃ cv, e = .returned (.tuple #[.agg (pC cv rp), .int .i64 (E : Int)]) ∧ w'.ownsRow W.heap.size 5 1 cv M (bytesL M pc) ∧ Below W.heap.size W w') := fun W hW => by
        have h := rpeel_any key (c i) lk (ln i) left vk (xv i) W (HV.out.2.1.on hW) (hsz W hW) (HV.out.2.2.lens i hlt)
        rw [hE, hrp, hM, hpc] at h
        exact h
      have PP : Hid (∀ W, Below V.heap.size V W → Calls Tryz.prog 6 #[vk, .int .i64 left, xv i] W fun e w' => ∃ cv, e = .returned (.tuple #[.agg (pC cv rp), .int .i64 (E : Int)]) ∧ w'.ownsRow W.heap.size 5 1 cv M (bytesL M pc) ∧ Below W.heap.size W w') := fun W hW => by
        have h := peel_any key (c i) lk (ln i) left vk (xv i) W (HV.out.1.below hW HV.out.1.sz) (HV.out.2.1.on hW) (hsz W hW) (HV.out.2.2.lens i hlt)
        rw [hE, hrp, hM, hpc] at h
        exact h
      have HI : Hid (i < m ∧ Below V.heap.size V wr ∧ b < V.heap.size ∧ V.cell? ⟨b, off + i, none⟩ = some (xv i)) := ⟨hlt, bel, hb, hcell i hlt⟩
      clear hlt hi bel hb hcell hE hrp hM hpc hsz
      go_wp2_with (first
        | (go_at_call 5; refine (RP.out wr HI.out.2.1).mono ?_; rintro e w2 ⟨r2, rfl, own2, hb2⟩; obtain ⟨a2, q2, rfl⟩ := own_shapeJ own2; have S2 : Hid (SliceN w2 (.slice a2 M q2) M pc ∧ Below V.heap.size V w2) := ⟨own_slice own2 PCL.out, HI.out.2.1.trans (hb2.mono HI.out.2.1.size)⟩; clear own2 hb2)
        | (refine atStore 27 (.tmp 8) (.tmp 28) rfl ?_; go_must (refine wpList_exS rfl (execStAll (cells := pC (.slice a2 M q2) rp) rfl rfl rfl (heapNew w2 _) (by rw [pC_size, pC_size]) (sizeP _ _) (pC_one _ rfl)) ?_; obtain ⟨W3, hW3⟩ : ∃ W3, (w2.alloc (.cells (pC (.slice none 0 0) fun _ => 0) 27)).setRow w2.heap.size (pC (.slice a2 M q2) rp) = W3 := ⟨_, rfl⟩; have r3 : W3.heap[w2.heap.size]? = some (.cells (pC (.slice a2 M q2) rp) 27) := (by rw [← hW3]; exact setRow_heap _ _ _ _ _ _ (heapNew w2 _)); have b3 : Below w2.heap.size w2 W3 := (by rw [← hW3]; exact below4 (belNew w2 _) (Nat.le_refl _) _); have bV3 := S2.out.2.trans (b3.mono S2.out.2.size); have S3 : Hid (W3.heap[w2.heap.size]? = some (.cells (pC (.slice a2 M q2) rp) 27) ∧ SliceN W3 (.slice a2 M q2) M pc ∧ Below V.heap.size V W3) := ⟨r3, S2.out.1.on b3, bV3⟩; have d1 : W3.cell? ⟨b, off + i, none⟩ = some (xv i) := (by rw [cell_below bV3 HI.out.2.2.1]; exact HI.out.2.2.2); rw [hW3]; clear r3 b3 bV3 hW3))
        | (go_at_call 6; refine (PP.out W3 S3.out.2.2).mono ?_; rintro e w4 ⟨r4, rfl, own4, hb4⟩; obtain ⟨a4, q4, rfl⟩ := own_shapeJ own4; have S4 : Hid (w4.heap[w2.heap.size]? = some (.cells (pC (.slice a2 M q2) rp) 27) ∧ SliceN w4 (.slice a2 M q2) M pc ∧ SliceN w4 (.slice a4 M q4) M pc ∧ Below V.heap.size V w4) := ⟨(by rw [hb4.block _ (Array.getElem?_eq_some_iff.1 S3.out.1).1]; exact S3.out.1), S3.out.2.1.on hb4, own_slice own4 PCL.out, S3.out.2.2.trans (hb4.mono S3.out.2.2.size)⟩; clear own4 hb4)
        | (refine atStore 27 (.tmp 10) (.tmp 38) rfl ?_; go_must (refine wpList_exS rfl (execStAll (cells := pC (.slice a4 M q4) rp) rfl rfl rfl (heapNew w4 _) (by rw [pC_size, pC_size]) (sizeP _ _) (pC_one _ rfl)) ?_; obtain ⟨W5, hW5⟩ : ∃ W5, (w4.alloc (.cells (pC (.slice none 0 0) fun _ => 0) 27)).setRow w4.heap.size (pC (.slice a4 M q4) rp) = W5 := ⟨_, rfl⟩; have r5 : W5.heap[w4.heap.size]? = some (.cells (pC (.slice a4 M q4) rp) 27) := (by rw [← hW5]; exact setRow_heap _ _ _ _ _ _ (heapNew w4 _)); have b5 : Below w4.heap.size w4 W5 := (by rw [← hW5]; exact below4 (belNew w4 _) (Nat.le_refl _) _); have S5 : Hid (W5.heap[w4.heap.size]? = some (.cells (pC (.slice a4 M q4) rp) 27) ∧ W5.heap[w2.heap.size]? = some (.cells (pC (.slice a2 M q2) rp) 27) ∧ SliceN W5 (.slice a2 M q2) M pc ∧ SliceN W5 (.slice a4 M q4) M pc ∧ Below V.heap.size V W5) := ⟨r5, (by rw [b5.block _ (Array.getElem?_eq_some_iff.1 S4.out.1).1]; exact S4.out.1), S4.out.2.1.on b5, S4.out.2.2.1.on b5, S4.out.2.2.2.trans (b5.mono S4.out.2.2.2.size)⟩; rw [hW5]; clear r5 b5 hW5))
        | (refine atLoad 27 (.tmp 10) rfl ?_; go_must (refine wpList_ex rfl (execLdAll rfl rfl S5.out.1 Tryz.underlying27 rfl (sizeP _ _)) ?_))
        | (refine atLoad 27 (.tmp 8) rfl ?_; go_must (refine wpList_ex rfl (execLdAll rfl rfl S5.out.2.1 Tryz.underlying27 rfl (sizeP _ _)) ?_))
        | (go_at_call 7; refine (samePeeled_true _ _ M pc rp W5 S5.out.2.2.2.1 S5.out.2.2.1).mono ?_; rintro e w6 ⟨rfl, hb6⟩; have S6 : Hid (Below V.heap.size V w6) := S5.out.2.2.2.2.trans (hb6.mono S5.out.2.2.2.2.size); clear hb6))
      go_roundw
      case rel => exact ⟨i + 1, HI.out.1, by go_num, S6.out⟩
      case measure => have := HI.out.1; simp [intOf]; omega
    · have i1 : ¬ (i : Int) < m := by omega
      have BT : Hid (Below V.heap.size V wr) := bel
      clear bel hi hlt
      go_wp2
      go_ret
      exact ⟨rfl, BT.out⟩
end Go.Proofs.YtfhldpdnoaoohaaGreatDoor.Oni
