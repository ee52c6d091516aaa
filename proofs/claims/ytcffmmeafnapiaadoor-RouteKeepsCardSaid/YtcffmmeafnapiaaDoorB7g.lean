import Derived.Test.YtcffmmeafnapiaaDoorX5e
import Derived.Test.YtcffmmeafnapiaaDoorX6g
import Derived.Test.YtcffmmeafnapiaaDoorX6n
import Derived.Test.YtcffmmeafnapiaaDoorC6
namespace Go.Proofs.YtcffmmeafnapiaaDoor
open Go.RowKit
/- A drawn region that goes through states: the values that have come up are told by the state. -/

theorem putP_congr {x y : Nat → Value} : ∀ (ds : List (Nat × Nat)) (a : Act), (∀ p ∈ ds, x p.1 = y p.1) → putP a x ds = putP a y ds
  | [], _, _ => rfl
  | p :: ds, a, h => by
    show putP (a.put (some p.2) (x p.1)) x ds = putP (a.put (some p.2) (y p.1)) y ds
    rw [h p (by simp)]
    exact putP_congr ds _ fun q hq => h q (by simp [hq])
theorem wp_region_st {P : Program} {ops : Array Oper} {Q : Exit → Act → World → Prop} {id : Nat} {a0 : Act} {V : World} {σ : Type} (N : Nat) (ds : List (Nat × Nat)) (S : (Nat → Bool) → σ → World → Prop) (v : σ → Nat → Value) (s0 : σ)
    (hm : P.follows .mixedOrders = true) (hf : frontB .any ops = true) (hN : a0.tmps.size = N) (hD : dsOf ops = ds) (hnd : (ds.map (·.2)).Nodup) (hds : ds.all (fun p => decide (p.2 < N)) = true)
    (h0 : S (fun _ => false) s0 V.drew)
    (step : ∀ j, j < ops.size → ∀ l s a w, l j = false → (∀ e, e ∉ ds.map (·.2) → a.eval (.tmp e) = a0.eval (.tmp e)) → (∀ o, ops[j]? = some o → ∀ i, waits o i = true → ∀ q, ops[i]? = some q → ∀ d, q.dst = some d → a.eval (.tmp d) = v s i) →
      (∀ o, ops[j]? = some o → ∀ i, waits o i = true → l i = true) → (∀ i q, ops[i]? = some q → l i = true → ∀ m, waits q m = true → l m = true) → S l s w → wpOp P ops Q j (fun a' w' => ∃ s', (∃ o, ops[j]? = some o ∧ a' = a.put o.dst (v s' j)) ∧ S (updB l j) s' w' ∧ ∀ i, i < ops.size → l i = true → v s' i = v s i) a w)
    (fin : ∀ l s w, (∀ j, j < ops.size → l j = true) → S l s w → Q .normal (putP a0 (v s) ds) w) : (Code.region id ops true).wp P Q a0 V := by
  refine wp_region_detX N ds (fun l x w => ∃ s, S l s w ∧ ∀ i, i < ops.size → l i = true → x i = v s i) (fun _ => undef) hm hf hN hD hnd hds ⟨s0, h0, fun _ _ h => by cases h⟩ ?_ ?_
  · rintro j hj l x a w hl hfr hdep hl2 hcl _ ⟨s, hS, hx⟩
    refine wpOp_mono ?_ (step j hj l s a w hl hfr (fun o ho i hi q hq d hd => by rw [hdep o ho i hi q hq d hd]; exact hx i (Array.getElem?_eq_some_iff.1 hq).1 (hl2 o ho i hi)) hl2 hcl hS)
    rintro a' w' ⟨s', ho, hS', hv⟩
    refine ⟨v s' j, ho, s', hS', fun i hi h => ?_⟩
    unfold updS
    by_cases e : i = j
    · subst e; simp
    · have hli : l i = true := by
        unfold updB at h
        simpa [e] using h
      simp only [e, if_false]
      rw [hx i hi hli, hv i hi hli]
  · rintro l x w hall ⟨s, hS, hx⟩
    have e : putP a0 x ds = putP a0 (v s) ds := putP_congr ds a0 fun p hp => by
      subst hD
      obtain ⟨o, ho, _⟩ := mem_dsOf.1 (show (p.1, p.2) ∈ dsOf ops from hp)
      have hj := (Array.getElem?_eq_some_iff.1 ho).1
      exact hx _ hj (hall _ hj)
    rw [e]
    exact fin l s w hall hS
end Go.Proofs.YtcffmmeafnapiaaDoor

namespace Go.Proofs.YtcffmmeafnapiaaDoor.Rou
open Go.RowKit Gf8 Aes By8 Cel Oni
/- A chain in the heap; isChain, areKeys. -/

/-- A [][16]byte: n arrays, the i-th of the bytes q i. -/
structure Nons (W : World) (v : Value) (n : Nat) (q : Nat → Nat → Nat) : Prop where
  shape : ∃ a cap, v = .slice a n cap ∧ n ≤ cap ∧ cap < 9223372036854775808 ∧ (0 < n → ∃ b off, a = some ⟨b, off, none⟩ ∧ b < W.heap.size ∧ ∀ i, i < n → ∀ j, j < 16 → W.cell? ⟨b, off + i * 16 + j, none⟩ = some (.int .u8 (q i j)))
  by_ : ∀ i, i < n → By (q i)
theorem Nons.on {W W' : World} {v : Value} {n : Nat} {q : Nat → Nat → Nat} (h : Nons W v n q) (hb : Below W.heap.size W W') : Nons W' v n q := by
  obtain ⟨a, cap, e, h1, h2, h3⟩ := h.shape
  refine ⟨⟨a, cap, e, h1, h2, fun h0 => ?_⟩, h.by_⟩
  obtain ⟨b, off, e2, hl, hc⟩ := h3 h0
  exact ⟨b, off, e2, Nat.lt_of_lt_of_le hl hb.size, fun i hi j hj => by rw [cell_below hb hl]; exact hc i hi j hj⟩
theorem loF_lt {h : Nat} {key q : Nat → Nat → Nat} {n : Nat} {p : Nat → Nat} (hq : ∀ i, i < h → By (q i)) (hn : n ≤ 48) (hp : ∀ j, j < n → p j < 256) : ∀ m, m ≤ h → m ≤ 8 → ∀ j, j < loN n m → loF h key q n p m j < 256
  | 0, _, _, j, hj => hp j hj
  | m + 1, hm, h8, j, _ => by
    have hl := loN_le (n := n) (m := m) hn (by omega)
    exact wrF_lt (hq _ (by omega)) (by omega) (fun j hj => loF_lt hq hn hp m (by omega) (by omega) j hj) j
section
variable {o : Oper} {a : Act} {w : World}
theorem execIdxL {x i : Operand} {b off n cap k : Nat} (ho : o.op = .indexAddr 30 x i) (hx : a.eval x = .slice (some ⟨b, off, none⟩) n cap) (hi : a.eval i = .int .i64 (k : Int)) (hk : k < n) : (execOp a.eval o).run Tryd.prog w = .ok (.value (.pointer (some ⟨b, off + k, none⟩))) w := by
  have h1 : (k : Int) < n := by omega
  unfold execOp
  simp only [ho, hx, hi]
  simp [go_sem, h1, Addr.add_mid]
theorem execIdxA {x i : Operand} {b off n cap k : Nat} (ho : o.op = .indexAddr 31 x i) (hx : a.eval x = .slice (some ⟨b, off, none⟩) n cap) (hi : a.eval i = .int .i64 (k : Int)) (hk : k < n) : (execOp a.eval o).run Tryd.prog w = .ok (.value (.pointer (some ⟨b, off + k * 16, none⟩))) w := by
  have h1 : (k : Int) < n := by omega
  unfold execOp
  simp only [ho, hx, hi]
  simp [go_sem, h1, Addr.add_mid]
theorem execLdL {x : Operand} {b f : Nat} {v : Value} (ho : o.op = .load 22 x) (hx : a.eval x = .pointer (some ⟨b, f, none⟩)) (hc : w.cell? ⟨b, f, none⟩ = some v) : (execOp a.eval o).run Tryd.prog w = .ok (.value v) w := by
  unfold execOp
  simp only [ho, hx]
  simp [go_sem, hc]
theorem execExtT {x : Operand} {k : Nat} {arr : Array Value} {v : Value} (ho : o.op = .extract x k) (hx : a.eval x = .tuple arr) (hk : arr[k]? = some v) : (execOp a.eval o).run Tryd.prog w = .ok (.value v) w := by
  unfold execOp
  simp only [ho, hx]
  simp [go_sem, hk]
theorem execSubJ {x y : Operand} {p q r : Nat} (ho : o.op = .binOp .sub 3 x y 3) (hx : a.eval x = .int .i64 p) (hy : a.eval y = .int .i64 q) (h : p = q + r) (hp : p < 9223372036854775808) : (execOp a.eval o).run Tryd.prog w = .ok (.value (.int .i64 (r : Nat))) w := by
  have := execSubI (w := w) ho hx hy (by omega) hp
  rw [show p - q = r by omega] at this
  exact this
end
theorem ischain_any (v : Value) (h : Nat) (V : World) (hv : ∃ a cap, v = .slice a h cap) (hb : h ≤ 140737488351232) :
    Calls Tryd.prog 24 #[v] V fun e w' => e = .returned (.bool (decide (1 ≤ h ∧ h ≤ 8))) ∧ w' = V := by
  obtain ⟨a, cap, rfl⟩ := hv
  by_cases h1 : 1 ≤ h
  · have i1 : (h : Int) ≥ 1 := by omega
    by_cases h2 : h ≤ 8
    · have i2 : (h : Int) ≤ 8 := by omega
      rw [decide_eq_true (⟨h1, h2⟩ : 1 ≤ h ∧ h ≤ 8)]
      clear h1 h2
      go_enter Tryd.func24, Tryd.ntmps24
      go_wp2_with fail
      go_ret
      exact ⟨rfl, rfl⟩
    · have i2 : ¬ (h : Int) ≤ 8 := by omega
      rw [decide_eq_false (fun q : 1 ≤ h ∧ h ≤ 8 => h2 q.2)]
      clear h1 h2
      go_enter Tryd.func24, Tryd.ntmps24
      go_wp2_with fail
      go_ret
      exact ⟨rfl, rfl⟩
  · have i1 : ¬ (h : Int) ≥ 1 := by omega
    rw [decide_eq_false (fun q : 1 ≤ h ∧ h ≤ 8 => h1 q.1)]
    clear h1
    go_enter Tryd.func24, Tryd.ntmps24
    go_wp2_with fail
    go_ret
    exact ⟨rfl, rfl⟩
set_option maxRecDepth 20000 in
set_option maxHeartbeats 1000000 in
theorem arekeys_any (v : Value) (h : Nat) (xv : Nat → Value) (lk : Nat → Nat) (key : Nat → Nat → Nat) (V : World) (hc : Cells V v h xv lk key) (hb : h ≤ 140737488351232) :
    Calls Tryd.prog 25 #[v] V fun e w' => e = .returned (.bool (ksOk h lk)) ∧ w' = V := by
  obtain ⟨ca, ccap, rfl, _, _, hs⟩ := id hc.shape
  have HC : Hid (Cells V (.slice ca h ccap) h xv lk key) := hc
  have HS : Hid (0 < h → ∃ b off, ca = some ⟨b, off, none⟩ ∧ b < V.heap.size ∧ ∀ i, i < h → V.cell? ⟨b, off + i, none⟩ = some (xv i)) := hs
  have lm : (h : Int) ≤ 140737488351232 := by omega
  clear hc hs hb
  go_enter Tryd.func25, Tryd.ntmps25
  go_wp2_with fail
  go_loopw [7] (fun z W => ∃ i : Nat, i ≤ h ∧ z = .int .i64 (i : Int) ∧ (∀ k, k < i → lk k = 32) ∧ W = V) (fun z _ => h - (intOf z).toNat)
  case atStart => exact ⟨0, Nat.zero_le _, rfl, fun k hk => by omega, rfl⟩
  case round =>
    obtain ⟨i, hi, rfl, hk, hw⟩ := hrel
    rw [hw]
    clear hw
    by_cases hlt : i < h
    · have i1 : (i : Int) < h := by omega
      obtain ⟨b, off, rfl, hb, hcell⟩ := HS.out (by omega)
      have c1 : V.cell? ⟨b, off + i, none⟩ = some (xv i) := hcell i hlt
      obtain ⟨ya, yc, ey, _⟩ := (HC.out.cell i hlt).shape
      have HK : Hid ((∀ k, k < i → lk k = 32) ∧ i < h) := ⟨hk, hlt⟩
      by_cases h32 : lk i = 32
      · have i2 : ((lk i : Int) != 32) = false := by simp; omega
        have H32 : Hid (lk i = 32) := h32
        rw [ey] at c1
        clear hk hlt hi hb hcell ey h32
        go_wp2_with (first
          | (refine wpList_ex rfl (execIdxL (x := .tmp 5) (k := i) rfl rfl rfl HK.out.2) ?_)
          | (refine wpList_ex rfl (execLdL (x := .tmp 9) rfl rfl c1) ?_))
        go_roundw
        case rel => exact ⟨i + 1, HK.out.2, by go_num, fun k hk => by
          by_cases e : k = i
          · rw [e]; exact H32.out
          · exact HK.out.1 k (by omega), by first | trivial | rfl⟩
        case measure => have := HK.out.2; simp [intOf]; omega
      · have i2 : ((lk i : Int) != 32) = true := by simp; omega
        have ek : ksOk h lk = false := by
          cases q : ksOk h lk with
          | false => rfl
          | true => exact absurd ((ksOk_iff _ _).1 q i hlt) h32
        rw [ey] at c1
        have EK : Hid (ksOk h lk = false) := ek
        clear hk hlt hi hb hcell ey h32 ek
        go_wp2_with (first
          | (refine wpList_ex rfl (execIdxL (x := .tmp 5) (k := i) rfl rfl rfl HK.out.2) ?_)
          | (refine wpList_ex rfl (execLdL (x := .tmp 9) rfl rfl c1) ?_))
        go_ret
        exact ⟨by rw [EK.out]; rfl, rfl⟩
    · have i1 : ¬ (i : Int) < h := by omega
      have EK : Hid (ksOk h lk = true) := (ksOk_iff _ _).2 fun k q => hk k (by omega)
      clear hk hlt hi
      go_wp2_with fail
      go_ret
      exact ⟨by rw [EK.out]; rfl, rfl⟩
end Go.Proofs.YtcffmmeafnapiaaDoor.Rou

namespace Go.Proofs.YtcffmmeafnapiaaDoor.Rou
open Go.RowKit Gf8 Aes By8 Cel Oni
/- layered, Wrap. Written by tools/mkB7g.py. -/

set_option maxRecDepth 20000 in
set_option maxHeartbeats 2000000 in
theorem layered_any (kv nv pv : Value) (h n : Nat) (xv : Nat → Value) (lk : Nat → Nat) (key q : Nat → Nat → Nat) (p : Nat → Nat) (V : World) (hG : Glob V) (hc : Cells V kv h xv lk key) (hq : Nons V nv h q) (hp : SliceZ V pv n p) (h1 : 1 ≤ h) (h8 : h ≤ 8) (hk : ∀ i, i < h → lk i = 32) (hn : n ≤ 48) :
    Calls Tryd.prog 26 #[kv, nv, pv] V fun e w' => ∃ r, e = .returned (.tuple #[r, .int .i64 0]) ∧ SliceZ w' r (loN n h) (loF h key q n p h) ∧ Below V.heap.size V w' := by
  obtain ⟨ca, kc, rfl, _, _, hs⟩ := id hc.shape
  obtain ⟨na, nc, rfl, _, _, ht⟩ := id hq.shape
  obtain ⟨kb, ko, rfl, hs1, hs2⟩ := hs (by omega)
  obtain ⟨nb, no, rfl, ht1, ht2⟩ := ht (by omega)
  obtain ⟨pa, pc, rfl⟩ := id hp.shape
  have KK : Hid (kb < V.heap.size ∧ ∀ i, i < h → V.cell? ⟨kb, ko + i, none⟩ = some (xv i)) := ⟨hs1, hs2⟩
  have NN : Hid (nb < V.heap.size ∧ ∀ i, i < h → ∀ j, j < 16 → V.cell? ⟨nb, no + i * 16 + j, none⟩ = some (.int .u8 (q i j))) := ⟨ht1, ht2⟩
  have HH : Hid (1 ≤ h ∧ h ≤ 8 ∧ n ≤ 48) := ⟨h1, h8, hn⟩
  have HP : Hid (SliceZ V (.slice pa n pc) n p) := hp
  have LT : Hid (∀ m, m ≤ h → ∀ j, j < loN n m → loF h key q n p m j < 256) := fun m hm => loF_lt hq.by_ hn hp.sl.bytes m hm (by omega)
  have WR : Hid (∀ m, m < h → ∀ (W : World) (ov : Value), Below V.heap.size V W → SliceZ W ov (loN n m) (loF h key q n p m) → Calls Tryd.prog 39 #[xv (h - (m + 1)), .agg (bA 16 (q (h - (m + 1)))), .int .i64 ((m + 1 : Nat) : Int), ov] W fun e w' => ∃ r, e = .returned (.tuple #[r, .int .i64 0]) ∧ w'.ownsRow W.heap.size 5 1 r (loN n (m + 1)) (bytesL (loN n (m + 1)) (loF h key q n p (m + 1))) ∧ Below W.heap.size W w') := fun m hm W ov hW hov => by
    have hl := loN_le (n := n) (m := m) hn (by omega)
    have e := wrap_any (key (h - (m + 1))) (q (h - (m + 1))) (loF h key q n p m) 32 (loN n m) ((m + 1 : Nat) : Int) (xv (h - (m + 1))) ov W (hG.below hW hG.sz) (by have := hc.cell (h - (m + 1)) (by omega); rw [hk _ (by omega)] at this; exact this.on hW) (hq.by_ _ (by omega)) hov.sl (by omega)
    obtain ⟨e1, e2⟩ := lay_e (n := n) (m := m) hn (by omega)
    rw [e1, e2] at e
    exact e
  have i8 : (h : Int) ≤ 8 := by omega
  clear hG hc hq hp h1 h8 hk hn hs hs1 hs2 ht ht1 ht2
  go_enter Tryd.func26, Tryd.ntmps26
  go_wp2_with fail
  go_loopw [8, 9] (fun u x W => ∃ m : Nat, m ≤ h ∧ x = .int .i64 ((m + 1 : Nat) : Int) ∧ SliceZ W u (loN n m) (loF h key q n p m) ∧ Below V.heap.size V W) (fun _ x _ => h + 1 - (intOf x).toNat)
  case atStart => exact ⟨0, Nat.zero_le _, rfl, HP.out, Below.refl _ _⟩
  case round =>
    obtain ⟨m, hm, rfl, so, bel⟩ := hrel
    obtain ⟨oa, oc, rfl⟩ := id so.shape
    have SO : Hid (SliceZ wr (.slice oa (loN n m) oc) (loN n m) (loF h key q n p m)) := so
    have HB : Hid (Below V.heap.size V wr) := bel
    by_cases hlt : m < h
    · have i1 : ((m + 1 : Nat) : Int) ≤ h := by omega
      obtain ⟨i, hi⟩ : ∃ i, h - (m + 1) = i := ⟨_, rfl⟩
      have CW : Hid (∀ W, Below V.heap.size V W → SliceZ W (.slice oa (loN n m) oc) (loN n m) (loF h key q n p m) → Calls Tryd.prog 39 #[xv i, .agg (bA 16 (q i)), .int .i64 ((m + 1 : Nat) : Int), .slice oa (loN n m) oc] W fun e w' => ∃ r, e = .returned (.tuple #[r, .int .i64 0]) ∧ w'.ownsRow W.heap.size 5 1 r (loN n (m + 1)) (bytesL (loN n (m + 1)) (loF h key q n p (m + 1))) ∧ Below W.heap.size W w') := fun W hW ho => by
        have := WR.out m hlt W _ hW ho
        rw [hi] at this
        exact this
      have HK : Hid (m < h ∧ h = m + 1 + i ∧ i < h) := ⟨hlt, by omega, by omega⟩
      clear so bel hm hlt hi
      go_wp2_with (refine wpList_ex rfl (execSubJ (x := .tmp 21) (p := h) (q := m + 1) (r := i) rfl rfl rfl HK.out.2.1 (by have := HH.out; omega)) ?_)
      refine wp_region_st 43 [(0, 25), (1, 26), (2, 27), (3, 28), (4, 29), (5, 30), (6, 31), (7, 32), (8, 33), (9, 34), (10, 35), (11, 24), (12, 36), (13, 37), (14, 11), (15, 12)] (fun l r X => Below wr.heap.size wr X ∧ (l 10 = true → X.ownsRow V.heap.size 5 1 r (loN n (m + 1)) (bytesL (loN n (m + 1)) (loF h key q n p (m + 1))))) (fun r => fun i_ => match i_ with | 0 => .slice (some ⟨kb, ko, none⟩) h kc | 1 => .int .i64 (i : Int) | 2 => .pointer (some ⟨kb, ko + i, none⟩) | 3 => xv i | 4 => .slice (some ⟨nb, no, none⟩) h nc | 5 => .int .i64 (i : Int) | 6 => .pointer (some ⟨nb, no + i * 16, none⟩) | 7 => .agg (bA 16 (q i)) | 8 => .int .i64 ((m + 1 : Nat) : Int) | 9 => .slice oa (loN n m) oc | 10 => .tuple #[r, .int .i64 0] | 11 => .tuple #[r, .int .i64 0] | 12 => r | 13 => .int .i64 0 | 14 => r | 15 => .int .i64 0 | _ => undef) undef (by kernel_rfl) (by kernel_rfl) rfl (by kernel_rfl) (by decide) (by decide) ?_ ?_ ?_
      · exact ⟨(Below.refl _ _).drew, fun q => by cases q⟩
      · intro j hj l r a X hl hf hdep hl2 hcl hS
        match j, hj with
        | 0, _ => exact stepV rfl rfl (execMvB rfl (hf 0 (by decide))) ⟨r, ⟨_, rfl, rfl⟩, ⟨hS.1, fun q => hS.2 q⟩, fun _ _ _ => rfl⟩
        | 1, _ => exact stepV rfl rfl (execMvB rfl (hf 10 (by decide))) ⟨r, ⟨_, rfl, rfl⟩, ⟨hS.1, fun q => hS.2 q⟩, fun _ _ _ => rfl⟩
        | 2, _ => exact stepV rfl rfl (execIdxL rfl (hdep _ rfl 0 rfl _ rfl _ rfl) (hdep _ rfl 1 rfl _ rfl _ rfl) (by have := HK.out; omega)) ⟨r, ⟨_, rfl, rfl⟩, ⟨hS.1, fun q => hS.2 q⟩, fun _ _ _ => rfl⟩
        | 3, _ => exact stepV rfl rfl (execLdL rfl (hdep _ rfl 2 rfl _ rfl _ rfl) (by rw [cell_below (HB.out.trans (hS.1.mono HB.out.size)) KK.out.1]; exact KK.out.2 i (by have := HK.out; omega))) ⟨r, ⟨_, rfl, rfl⟩, ⟨hS.1, fun q => hS.2 q⟩, fun _ _ _ => rfl⟩
        | 4, _ => exact stepV rfl rfl (execMvB rfl (hf 1 (by decide))) ⟨r, ⟨_, rfl, rfl⟩, ⟨hS.1, fun q => hS.2 q⟩, fun _ _ _ => rfl⟩
        | 5, _ => exact stepV rfl rfl (execMvB rfl (hf 10 (by decide))) ⟨r, ⟨_, rfl, rfl⟩, ⟨hS.1, fun q => hS.2 q⟩, fun _ _ _ => rfl⟩
        | 6, _ => exact stepV rfl rfl (execIdxA rfl (hdep _ rfl 4 rfl _ rfl _ rfl) (hdep _ rfl 5 rfl _ rfl _ rfl) (by have := HK.out; omega)) ⟨r, ⟨_, rfl, rfl⟩, ⟨hS.1, fun q => hS.2 q⟩, fun _ _ _ => rfl⟩
        | 7, _ => exact stepV rfl rfl (execLdList (k := 16) (q := q i) rfl (hdep _ rfl 6 rfl _ rfl _ rfl) (fun j hj => by rw [cell_below (HB.out.trans (hS.1.mono HB.out.size)) NN.out.1]; exact NN.out.2 i (by have := HK.out; omega) j hj) Tryd.underlying40 rfl (by kernel_rfl)) ⟨r, ⟨_, rfl, rfl⟩, ⟨hS.1, fun q => hS.2 q⟩, fun _ _ _ => rfl⟩
        | 8, _ => exact stepV rfl rfl (execMvB rfl (hf 9 (by decide))) ⟨r, ⟨_, rfl, rfl⟩, ⟨hS.1, fun q => hS.2 q⟩, fun _ _ _ => rfl⟩
        | 9, _ => exact stepV rfl rfl (execMvB rfl (hf 8 (by decide))) ⟨r, ⟨_, rfl, rfl⟩, ⟨hS.1, fun q => hS.2 q⟩, fun _ _ _ => rfl⟩
        | 10, _ =>
          refine stepC rfl rfl (execCall4 Tryd.func39 (by kernel_rfl) (by kernel_rfl) rfl (hdep _ rfl 3 rfl _ rfl _ rfl) (hdep _ rfl 7 rfl _ rfl _ rfl) (hdep _ rfl 8 rfl _ rfl _ rfl) (hdep _ rfl 9 rfl _ rfl _ rfl)) (CW.out X (HB.out.trans (hS.1.mono HB.out.size)) (SO.out.on hS.1)) fun e w' hh => ?_
          obtain ⟨r', e1, own', bw⟩ := hh
          refine ⟨_, e1, r', ⟨_, rfl, rfl⟩, ⟨hS.1.trans (bw.mono hS.1.size), fun _ => own_base own' (Nat.le_trans HB.out.size hS.1.size)⟩, fun i hi hli => ?_⟩
          match i, hi with
          | 0, _ | 1, _ | 2, _ | 3, _ | 4, _ | 5, _ | 6, _ | 7, _ | 8, _ | 9, _ | 13, _ | 15, _ => rfl
          | 10, _ => exact absurd (hl.symm.trans hli) (by decide)
          | 11, _ => exact absurd (hl.symm.trans (hcl 11 _ rfl hli 10 rfl)) (by decide)
          | 12, _ => exact absurd (hl.symm.trans (hcl 11 _ rfl (hcl 12 _ rfl hli 11 rfl) 10 rfl)) (by decide)
          | 14, _ => exact absurd (hl.symm.trans (hcl 11 _ rfl (hcl 12 _ rfl (hcl 14 _ rfl hli 12 rfl) 11 rfl) 10 rfl)) (by decide)
          | k + 16, h => exact absurd h (by simp)
        | 11, _ => exact stepV rfl rfl (execMvB rfl (hdep _ rfl 10 rfl _ rfl _ rfl)) ⟨r, ⟨_, rfl, rfl⟩, ⟨hS.1, fun q => hS.2 q⟩, fun _ _ _ => rfl⟩
        | 12, _ => exact stepV rfl rfl (execExtT rfl (hdep _ rfl 11 rfl _ rfl _ rfl) rfl) ⟨r, ⟨_, rfl, rfl⟩, ⟨hS.1, fun q => hS.2 q⟩, fun _ _ _ => rfl⟩
        | 13, _ => exact stepV rfl rfl (execExtT rfl (hdep _ rfl 11 rfl _ rfl _ rfl) rfl) ⟨r, ⟨_, rfl, rfl⟩, ⟨hS.1, fun q => hS.2 q⟩, fun _ _ _ => rfl⟩
        | 14, _ => exact stepV rfl rfl (execAsgB rfl (hdep _ rfl 12 rfl _ rfl _ rfl)) ⟨r, ⟨_, rfl, rfl⟩, ⟨hS.1, fun q => hS.2 q⟩, fun _ _ _ => rfl⟩
        | 15, _ => exact stepV rfl rfl (execAsgB rfl (hdep _ rfl 13 rfl _ rfl _ rfl)) ⟨r, ⟨_, rfl, rfl⟩, ⟨hS.1, fun q => hS.2 q⟩, fun _ _ _ => rfl⟩
        | k + 16, h => exact absurd h (by simp)
      · intro l r X hall hS
        obtain ⟨hb2, ho2⟩ := hS
        have O2 : Hid (X.ownsRow V.heap.size 5 1 r (loN n (m + 1)) (bytesL (loN n (m + 1)) (loF h key q n p (m + 1))) ∧ Below V.heap.size V X) := ⟨ho2 (hall 10 (by simp)), HB.out.trans (hb2.mono HB.out.size)⟩
        clear hall hb2 ho2
        simp only [putP, Act.put, List.setIfInBounds_toArray, List.set_cons_succ, List.set_cons_zero]
        go_wp2_with fail
        go_roundw
        case rel => exact ⟨m + 1, HK.out.1, by go_num, own_sliceZ O2.out.1 (LT.out (m + 1) HK.out.1), O2.out.2⟩
        case measure => have := HK.out; simp [intOf]; omega
    · have i1 : ¬ ((m + 1 : Nat) : Int) ≤ h := by omega
      obtain rfl : m = h := by omega
      clear so bel hm hlt
      go_wp2_with fail
      refine bodyPost_ret (results_tmp2 rfl _ _ _) rfl ⟨_, rfl, SO.out, HB.out⟩
set_option maxRecDepth 20000 in
set_option maxHeartbeats 2000000 in
theorem rwrap8_any (kv nv pv : Value) (h hn n : Nat) (xv : Nat → Value) (lk : Nat → Nat) (key q : Nat → Nat → Nat) (p : Nat → Nat) (V : World) (hG : Glob V) (hc : Cells V kv h xv lk key) (hq : Nons V nv hn q) (hp : SliceZ V pv n p) (hb1 : h ≤ 140737488351232) (hb2 : hn ≤ 140737488351232) (hb3 : n ≤ 140737488351232) :
    Calls Tryd.prog 12 #[kv, nv, pv] V fun e w' => ∃ r, e = .returned (.tuple #[r, .int .i64 (rwE h hn lk n : Nat)]) ∧ w'.ownsRow V.heap.size 5 1 r (rwN h hn lk n) (bytesL (rwN h hn lk n) (rwF h key q n p)) ∧ Below V.heap.size V w' := by
  obtain ⟨ca, kc, rfl, _⟩ := id hc.shape
  obtain ⟨na, nc, rfl, _⟩ := id hq.shape
  obtain ⟨pa, pc, rfl⟩ := id hp.shape
  have IC := ischain_any (.slice ca h kc) h V ⟨_, _, rfl⟩ hb1
  have AK := arekeys_any (.slice ca h kc) h xv lk key V hc hb1
  by_cases hch : 1 ≤ h ∧ h ≤ 8
  · rw [decide_eq_true hch] at IC
    by_cases hne : hn = h
    · subst hne
      have i1 : ((hn : Int) != (hn : Int)) = false := by simp
      cases hko : ksOk hn lk with
      | false =>
        rw [hko] at AK
        have E : rwE hn hn lk n = 2 := by unfold rwE; rw [if_neg (by omega), if_neg (by rw [hko]; simp)]
        have E2 : rwN hn hn lk n = 0 := by unfold rwN; rw [E]; rfl
        rw [E, E2]
        clear E E2 hG hc hq hp hb1 hb2 hb3 hch hko
        go_enter Tryd.func12, Tryd.ntmps12
        go_wp2_with (first
          | (go_at_call 24; refine IC.mono ?_; rintro e w1 ⟨rfl, hw1⟩; rw [hw1]; clear hw1)
          | (go_at_call 25; refine AK.mono ?_; rintro e w2 ⟨rfl, hw2⟩; rw [hw2]; clear hw2))
        refine bodyPost_ret (results_tmp2 rfl _ _ _) rfl ⟨_, rfl, World.ownsRow_nil _ _ _ _, Below.refl _ _⟩
      | true =>
        rw [hko] at AK
        by_cases hlong : 48 < n
        · have E : rwE hn hn lk n = 1 := by unfold rwE; rw [if_neg (by omega), if_pos hko, if_pos hlong]
          have E2 : rwN hn hn lk n = 0 := by unfold rwN; rw [E]; rfl
          rw [E, E2]
          have i2 : (n : Int) > 48 := by omega
          clear E E2 hG hc hq hp hb1 hb2 hb3 hch hko hlong
          go_enter Tryd.func12, Tryd.ntmps12
          go_wp2_with (first
            | (go_at_call 24; refine IC.mono ?_; rintro e w1 ⟨rfl, hw1⟩; rw [hw1]; clear hw1)
            | (go_at_call 25; refine AK.mono ?_; rintro e w2 ⟨rfl, hw2⟩; rw [hw2]; clear hw2))
          refine bodyPost_ret (results_tmp2 rfl _ _ _) rfl ⟨_, rfl, World.ownsRow_nil _ _ _ _, Below.refl _ _⟩
        · have E : rwE hn hn lk n = 0 := by unfold rwE; rw [if_neg (by omega), if_pos hko, if_neg hlong]
          have E2 : rwN hn hn lk n = 320 := by unfold rwN; rw [E]; rfl
          rw [E, E2]
          have i2 : ¬ (n : Int) > 48 := by omega
          have LA := layered_any (.slice ca hn kc) (.slice na hn nc) (.slice pa n pc) hn n xv lk key q p V hG hc hq hp hch.1 hch.2 ((ksOk_iff _ _).1 hko) (by omega)
          have hl := loN_le (n := n) (m := hn) (by omega) hch.2
          have PD : Hid (∀ W v, SliceZ W v (loN n hn) (loF hn key q n p hn) → Calls Tryd.prog 27 #[v] W fun e w' => ∃ r, e = .returned (.tuple #[r, .int .i64 0]) ∧ w'.ownsRow W.heap.size 5 1 r 320 (bytesL 320 (rwF hn key q n p)) ∧ Below W.heap.size W w') := fun W v hv => by
            have := pad_any (loF hn key q n p hn) (loN n hn) v W hv (by omega)
            rw [show okE 320 (loN n hn) = 0 from if_pos hl, show okN 320 (loN n hn) = 320 from if_pos hl] at this
            exact this
          clear E E2 hG hc hq hp hb1 hb2 hb3 hch hko hlong hl
          go_enter Tryd.func12, Tryd.ntmps12
          go_wp2_with (first
            | (go_at_call 24; refine IC.mono ?_; rintro e w1 ⟨rfl, hw1⟩; rw [hw1]; clear hw1)
            | (go_at_call 25; refine AK.mono ?_; rintro e w2 ⟨rfl, hw2⟩; rw [hw2]; clear hw2)
            | (go_at_call 26; refine LA.mono ?_; rintro e w3 ⟨r3, rfl, s3, hb3⟩; have S3 : Hid (SliceZ w3 r3 (loN n hn) (loF hn key q n p hn) ∧ Below V.heap.size V w3) := ⟨s3, hb3⟩; obtain ⟨a3, c3, rfl⟩ := id s3.shape; clear s3 hb3)
            | (go_at_call 27; refine (PD.out w3 _ S3.out.1).mono ?_; rintro e w4 ⟨r4, rfl, own4, hb4⟩; have S4 : Hid (w4.ownsRow V.heap.size 5 1 r4 320 (bytesL 320 (rwF hn key q n p)) ∧ Below V.heap.size V w4) := ⟨own_base own4 S3.out.2.size, S3.out.2.trans (hb4.mono S3.out.2.size)⟩; clear own4 hb4))
          refine bodyPost_ret (results_tmp2 rfl _ _ _) rfl ⟨_, rfl, S4.out.1, S4.out.2⟩
    · have i1 : ((hn : Int) != (h : Int)) = true := by simp; omega
      have E : rwE h hn lk n = 80 := if_pos (by omega)
      have E2 : rwN h hn lk n = 0 := by unfold rwN; rw [E]; rfl
      rw [E, E2]
      clear E E2 hG hc hq hp hb1 hb2 hb3 hch AK
      go_enter Tryd.func12, Tryd.ntmps12
      go_wp2_with (go_at_call 24; refine IC.mono ?_; rintro e w1 ⟨rfl, hw1⟩; rw [hw1]; clear hw1)
      refine bodyPost_ret (results_tmp2 rfl _ _ _) rfl ⟨_, rfl, World.ownsRow_nil _ _ _ _, Below.refl _ _⟩
  · rw [decide_eq_false hch] at IC
    have E : rwE h hn lk n = 80 := if_pos (by omega)
    have E2 : rwN h hn lk n = 0 := by unfold rwN; rw [E]; rfl
    rw [E, E2]
    clear E E2 hG hc hq hp hb1 hb2 hb3 hch AK
    go_enter Tryd.func12, Tryd.ntmps12
    go_wp2_with (go_at_call 24; refine IC.mono ?_; rintro e w1 ⟨rfl, hw1⟩; rw [hw1]; clear hw1)
    refine bodyPost_ret (results_tmp2 rfl _ _ _) rfl ⟨_, rfl, World.ownsRow_nil _ _ _ _, Below.refl _ _⟩
end Go.Proofs.YtcffmmeafnapiaaDoor.Rou
