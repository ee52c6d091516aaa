import Derived.Test.YtcffmmeafnapiaaGreatDoorX5e
import Derived.Test.YtcffmmeafnapiaaGreatDoorX5n
import Derived.Test.YtcffmmeafnapiaaGreatDoorX6n
import Derived.Test.YtcffmmeafnapiaaGreatDoorC6
import Derived.Test.YtcffmmeafnapiaaGreatDoorX5l
import Derived.Test.YtcffmmeafnapiaaGreatDoorZ2
namespace Go.Proofs.YtcffmmeafnapiaaGreatDoor
open Go.RowKit
/- A drawn region that goes through states: the values that have come up are told by the state. -/

theorem putP_congr {x y : Nat → Value} : ∀ (ds : List (Nat × Nat)) (a : Act), (∀ p ∈ ds, x p.1 = y p.1) → putP a x ds = putP a y ds
  | [], _, _ => rfl
  | p :: ds, a, h => by
    show putP (a.put (some p.2) (x p.1)) x ds = putP (a.put (some p.2) (y p.1)) y ds
    rw [h p (by simp)]
    exact putP_congr ds _ fun q hq => h q (by simp [hq])
theorem wp_region_st {P : Program} {ops : Array Oper} {Q : Exit → Act → World → Prop} {id : Nat} {a0 : Act} {V : World} {σ : Type} (N : Nat) (ds : List (Nat × Nat)) (S : (Nat → Bool) → σ → World → Prop) (v : σ → Nat → Value) (s0 : σ)
    (hm : P.follows .mixedOrders = true) (hf : frontB .any ops = true) (hN : a0.tmps.size = N) (hD : dsOf ops = ds) (hnd : (ds.map (·.2)).Nodup) (hds : ds.all (fun p => decide (p.2 < N)) = true)
    (h0 : S (fun _ => false) s0 V.drew)
    (step : ∀ j, j < ops.size → ∀ l s a w, l j = false → (∀ e, e ∉ ds.map (·.2) → a.eval (.tmp e) = a0.eval (.tmp e)) → (∀ o, ops[j]? = some o → ∀ i, waits o i = true → ∀ q, ops[i]? = some q → ∀ d, q.dst = some d → a.eval (.tmp d) = v s i) →
      (∀ o, ops[j]? = some o → ∀ i, waits o i = true → l i = true) → (∀ i q, ops[i]? = some q → l i = true → ∀ m, waits q m = true → l m = true) → S l s w → wpOp P ops Q j (fun a' w' => ∃ s', (∃ o, ops[j]? = some o ∧ a' = a.put o.dst (v s' j)) ∧ S (updB l j) s' w' ∧ ∀ i, i < ops.size → l i = true → v s' i = v s i) a w)
    (fin : ∀ l s w, (∀ j, j < ops.size → l j = true) → S l s w → Q .normal (putP a0 (v s) ds) w) : (Code.region id ops true).wp P Q a0 V := by
  refine wp_region_detX N ds (fun l x w => ∃ s, S l s w ∧ ∀ i, i < ops.size → l i = true → x i = v s i) (fun _ => undef) hm hf hN hD hnd hds ⟨s0, h0, fun _ _ h => by cases h⟩ ?_ ?_
  · rintro j hj l x a w hl hfr hdep hl2 hcl _ ⟨s, hS, hx⟩
    refine wpOp_mono ?_ (step j hj l s a w hl hfr (fun o ho i hi q hq d hd => by rw [hdep o ho i hi q hq d hd]; exact hx i (Array.getElem?_eq_some_iff.1 hq).1 (hl2 o ho i hi)) hl2 hcl hS)
    rintro a' w' ⟨s', ho, hS', hv⟩
    refine ⟨v s' j, ho, s', hS', fun i hi h => ?_⟩
    unfold updS
    by_cases e : i = j
    · subst e; simp
    · have hli : l i = true := by
        unfold updB at h
        simpa [e] using h
      simp only [e, if_false]
      rw [hx i hi hli, hv i hi hli]
  · rintro l x w hall ⟨s, hS, hx⟩
    have e : putP a0 x ds = putP a0 (v s) ds := putP_congr ds a0 fun p hp => by
      subst hD
      obtain ⟨o, ho, _⟩ := mem_dsOf.1 (show (p.1, p.2) ∈ dsOf ops from hp)
      have hj := (Array.getElem?_eq_some_iff.1 ho).1
      exact hx _ hj (hall _ hj)
    rw [e]
    exact fin l s w hall hS
end Go.Proofs.YtcffmmeafnapiaaGreatDoor

namespace Go.Proofs.YtcffmmeafnapiaaGreatDoor.Rou
open Go.RowKit Gf8 Aes By8 Cel Oni
/- A chain in the heap; isChain, areKeys. -/

/-- A [][16]byte: n arrays, the i-th of the bytes q i. -/
structure Nons (W : World) (v : Value) (n : Nat) (q : Nat → Nat → Nat) : Prop where
  shape : ∃ a cap, v = .slice a n cap ∧ n ≤ cap ∧ cap < 9223372036854775808 ∧ (0 < n → ∃ b off, a = some ⟨b, off, none⟩ ∧ b < W.heap.size ∧ ∀ i, i < n → ∀ j, j < 16 → W.cell? ⟨b, off + i * 16 + j, none⟩ = some (.int .u8 (q i j)))
  by_ : ∀ i, i < n → By (q i)
theorem Nons.on {W W' : World} {v : Value} {n : Nat} {q : Nat → Nat → Nat} (h : Nons W v n q) (hb : Below W.heap.size W W') : Nons W' v n q := by
  obtain ⟨a, cap, e, h1, h2, h3⟩ := h.shape
  refine ⟨⟨a, cap, e, h1, h2, fun h0 => ?_⟩, h.by_⟩
  obtain ⟨b, off, e2, hl, hc⟩ := h3 h0
  exact ⟨b, off, e2, Nat.lt_of_lt_of_le hl hb.size, fun i hi j hj => by rw [cell_below hb hl]; exact hc i hi j hj⟩
theorem loF_lt {h : Nat} {key q : Nat → Nat → Nat} {n : Nat} {p : Nat → Nat} (hq : ∀ i, i < h → By (q i)) (hn : n ≤ 48) (hp : ∀ j, j < n → p j < 256) : ∀ m, m ≤ h → m ≤ 8 → ∀ j, j < loN n m → loF h key q n p m j < 256
  | 0, _, _, j, hj => hp j hj
  | m + 1, hm, h8, j, _ => by
    have hl := loN_le (n := n) (m := m) hn (by omega)
    exact wrF_lt (hq _ (by omega)) (by omega) (fun j hj => loF_lt hq hn hp m (by omega) (by omega) j hj) j
section
variable {o : Oper} {a : Act} {w : World}
theorem execIdxL {x i : Operand} {b off n cap k : Nat} (ho : o.op = .indexAddr 22 x i) (hx : a.eval x = .slice (some ⟨b, off, none⟩) n cap) (hi : a.eval i = .int .i64 (k : Int)) (hk : k < n) : (execOp a.eval o).run Tryz.prog w = .ok (.value (.pointer (some ⟨b, off + k, none⟩))) w := by
  have h1 : (k : Int) < n := by omega
  unfold execOp
  simp only [ho, hx, hi]
  simp [go_sem, h1, Addr.add_mid]
theorem execIdxA {x i : Operand} {b off n cap k : Nat} (ho : o.op = .indexAddr 37 x i) (hx : a.eval x = .slice (some ⟨b, off, none⟩) n cap) (hi : a.eval i = .int .i64 (k : Int)) (hk : k < n) : (execOp a.eval o).run Tryz.prog w = .ok (.value (.pointer (some ⟨b, off + k * 16, none⟩))) w := by
  have h1 : (k : Int) < n := by omega
  unfold execOp
  simp only [ho, hx, hi]
  simp [go_sem, h1, Addr.add_mid]
theorem execLdL {x : Operand} {b f : Nat} {v : Value} (ho : o.op = .load 23 x) (hx : a.eval x = .pointer (some ⟨b, f, none⟩)) (hc : w.cell? ⟨b, f, none⟩ = some v) : (execOp a.eval o).run Tryz.prog w = .ok (.value v) w := by
  unfold execOp
  simp only [ho, hx]
  simp [go_sem, hc]
theorem execExtT {x : Operand} {k : Nat} {arr : Array Value} {v : Value} (ho : o.op = .extract x k) (hx : a.eval x = .tuple arr) (hk : arr[k]? = some v) : (execOp a.eval o).run Tryz.prog w = .ok (.value v) w := by
  unfold execOp
  simp only [ho, hx]
  simp [go_sem, hk]
theorem execSubJ {x y : Operand} {p q r : Nat} (ho : o.op = .binOp .sub 3 x y 3) (hx : a.eval x = .int .i64 p) (hy : a.eval y = .int .i64 q) (h : p = q + r) (hp : p < 9223372036854775808) : (execOp a.eval o).run Tryz.prog w = .ok (.value (.int .i64 (r : Nat))) w := by
  have := execSubI (w := w) ho hx hy (by omega) hp
  rw [show p - q = r by omega] at this
  exact this
end
theorem ischain_any (v : Value) (h : Nat) (V : World) (hv : ∃ a cap, v = .slice a h cap) (hb : h ≤ 140737488351232) :
    Calls Tryz.prog 11 #[v] V fun e w' => e = .returned (.bool (decide (1 ≤ h ∧ h ≤ 8))) ∧ w' = V := by
  obtain ⟨a, cap, rfl⟩ := hv
  by_cases h1 : 1 ≤ h
  · have i1 : (h : Int) ≥ 1 := by omega
    by_cases h2 : h ≤ 8
    · have i2 : (h : Int) ≤ 8 := by omega
      rw [decide_eq_true (⟨h1, h2⟩ : 1 ≤ h ∧ h ≤ 8)]
      clear h1 h2
      go_enter Tryz.func11, Tryz.ntmps11
      go_wp2_with fail
      go_ret
      exact ⟨rfl, rfl⟩
    · have i2 : ¬ (h : Int) ≤ 8 := by omega
      rw [decide_eq_false (fun q : 1 ≤ h ∧ h ≤ 8 => h2 q.2)]
      clear h1 h2
      go_enter Tryz.func11, Tryz.ntmps11
      go_wp2_with fail
      go_ret
      exact ⟨rfl, rfl⟩
  · have i1 : ¬ (h : Int) ≥ 1 := by omega
    rw [decide_eq_false (fun q : 1 ≤ h ∧ h ≤ 8 => h1 q.1)]
    clear h1
    go_enter Tryz.func11, Tryz.ntmps11
    go_wp2_with fail
    go_ret
    exact ⟨rfl, rfl⟩
set_option maxRecDepth 20000 in
set_option maxHeartbeats 1000000 in
theorem arekeys_any (v : Value) (h : Nat) (xv : Nat → Value) (lk : Nat → Nat) (key : Nat → Nat → Nat) (V : World) (hc : Cells V v h xv lk key) (hb : h ≤ 140737488351232) :
    Calls Tryz.prog 15 #[v] V fun e w' => e = .returned (.bool (ksOk h lk)) ∧ w' = V := by
  obtain ⟨ca, ccap, rfl, _, _, hs⟩ := id hc.shape
  have HC : Hid (Cells V (.slice ca h ccap) h xv lk key) := hc
  have HS : Hid (0 < h → ∃ b off, ca = some ⟨b, off, none⟩ ∧ b < V.heap.size ∧ ∀ i, i < h → V.cell? ⟨b, off + i, none⟩ = some (xv i)) := hs
  have lm : (h : Int) ≤ 140737488351232 := by omega
  clear hc hs hb
  go_enter Tryz.func15, Tryz.ntmps15
  go_wp2_with fail
  go_loopw [7] (fun z W => ∃ i : Nat, i ≤ h ∧ z = .int .i64 (i : Int) ∧ (∀ k, k < i → lk k = 32) ∧ W = V) (fun z _ => h - (intOf z).toNat)
  case atStart => exact ⟨0, Nat.zero_le _, rfl, fun k hk => by omega, rfl⟩
  case round =>
    obtain ⟨i, hi, rfl, hk, hw⟩ := hrel
    rw [hw]
    clear hw
    by_cases hlt : i < h
    · have i1 : (i : Int) < h := by omega
      obtain ⟨b, off, rfl, hb, hcell⟩ := HS.out (by omega)
      have c1 : V.cell? ⟨b, off + i, none⟩ = some (xv i) := hcell i hlt
      obtain ⟨ya, yc, ey, _⟩ := (HC.out.cell i hlt).shape
      have HK : Hid ((∀ k, k < i → lk k = 32) ∧ i < h) := ⟨hk, hlt⟩
      by_cases h32 : lk i = 32
      · have i2 : ((lk i : Int) != 32) = false := by simp; omega
        have H32 : Hid (lk i = 32) := h32
        rw [ey] at c1
        clear hk hlt hi hb hcell ey h32
        go_wp2_with (first
          | (refine wpList_ex rfl (execIdxL (x := .tmp 5) (k := i) rfl rfl rfl HK.out.2) ?_)
          | (refine wpList_ex rfl (execLdL (x := .tmp 9) rfl rfl c1) ?_))
        go_roundw
        case rel => exact ⟨i + 1, HK.out.2, by go_num, fun k hk => by
          by_cases e : k = i
          · rw [e]; exact H32.out
          · exact HK.out.1 k (by omega), by first | trivial | rfl⟩
        case measure => have := HK.out.2; simp [intOf]; omega
      · have i2 : ((lk i : Int) != 32) = true := by simp; omega
        have ek : ksOk h lk = false := by
          cases q : ksOk h lk with
          | false => rfl
          | true => exact absurd ((ksOk_iff _ _).1 q i hlt) h32
        rw [ey] at c1
        have EK : Hid (ksOk h lk = false) := ek
        clear hk hlt hi hb hcell ey h32 ek
        go_wp2_with (first
          | (refine wpList_ex rfl (execIdxL (x := .tmp 5) (k := i) rfl rfl rfl HK.out.2) ?_)
          | (refine wpList_ex rfl (execLdL (x := .tmp 9) rfl rfl c1) ?_))
        go_ret
        exact ⟨by rw [EK.out]; rfl, rfl⟩
    · have i1 : ¬ (i : Int) < h := by omega
      have EK : Hid (ksOk h lk = true) := (ksOk_iff _ _).2 fun k q => hk k (by omega)
      clear hk hlt hi
      go_wp2_with fail
      go_ret
      exact ⟨by rw [EK.out]; rfl, rfl⟩
end Go.Proofs.YtcffmmeafnapiaaGreatDoor.Rou

namespace Go.Proofs.YtcffmmeafnapiaaGreatDoor.Rou
open Go.RowKit Gf8 Aes By8 Cel Oni
/- A []Peeled in the heap; Walk. -/

theorem infoP : ∃ i, Tryz.prog.info? 39 = some i ∧ i.zero = some (.agg (pC (.slice none 0 0) fun _ => 0)) ∧ i.size = 17 ∧ i.bytes = 40 := by
  have h : (Tryz.prog.info? 39).map (fun i => (i.zero, i.size, i.bytes)) = some (some (.agg (pC (.slice none 0 0) fun _ => 0)), 17, 40) := by kernel_rfl
  cases hq : Tryz.prog.info? 39 with
  | none => rw [hq] at h; cases h
  | some i =>
    rw [hq] at h
    simp only [Option.map_some, Option.some.injEq, Prod.mk.injEq] at h
    exact ⟨i, rfl, h.1, h.2.1, h.2.2⟩
/-- The cells of n Peeled. -/
def yL (P : Nat → List Value) : Nat → List Value
  | 0 => []
  | n + 1 => yL P n ++ P n
theorem yL_len {P : Nat → List Value} (hP : ∀ k, (P k).length = 17) : ∀ n, (yL P n).length = n * 17
  | 0 => rfl
  | n + 1 => by simp only [yL, List.length_append, yL_len hP n, hP]; omega
theorem yL_get {P : Nat → List Value} (hP : ∀ k, (P k).length = 17) : ∀ (n k j : Nat), k < n → j < 17 → (yL P n)[k * 17 + j]? = (P k)[j]?
  | 0, k, j, hk, _ => by omega
  | n + 1, k, j, hk, hj => by
    simp only [yL]
    by_cases h : k < n
    · rw [List.getElem?_append_left (by rw [yL_len hP]; omega)]
      exact yL_get hP n k j h hj
    · obtain rfl : k = n := by omega
      rw [List.getElem?_append_right (by rw [yL_len hP]; omega), yL_len hP, Nat.add_sub_cancel_left]
theorem yL_congr {P Q : Nat → List Value} : ∀ n, (∀ i, i < n → P i = Q i) → yL P n = yL Q n
  | 0, _ => rfl
  | n + 1, h => by simp only [yL]; rw [yL_congr n (fun i hi => h i (by omega)), h n (by omega)]
def updP (P : Nat → List Value) (i : Nat) (q : List Value) : Nat → List Value := fun k => if k = i then q else P k
theorem yL_set {P : Nat → List Value} (hP : ∀ k, (P k).length = 17) {n i : Nat} {q : List Value} (hq : q.length = 17) (hi : i < n) : (yL P n).take (i * 17) ++ q ++ (yL P n).drop (i * 17 + 17) = yL (updP P i q) n := by
  have hU : ∀ k, (updP P i q k).length = 17 := fun k => by unfold updP; split; exact hq; exact hP k
  have hl := yL_len hP n
  have hl2 : ((yL P n).take (i * 17)).length = i * 17 := by rw [List.length_take, hl]; omega
  apply List.ext_getElem?
  intro x
  by_cases hx : x < n * 17
  · obtain ⟨k, j, hk, hj, rfl⟩ : ∃ k j, k < n ∧ j < 17 ∧ x = k * 17 + j := ⟨x / 17, x % 17, by omega, by omega, by omega⟩
    rw [yL_get hU n k j hk hj, List.append_assoc]
    unfold updP
    by_cases h1 : k < i
    · rw [if_neg (by omega), List.getElem?_append_left (by rw [hl2]; omega), List.getElem?_take, if_pos (by omega), yL_get hP n k j hk hj]
    · rw [List.getElem?_append_right (by rw [hl2]; omega), hl2]
      by_cases h2 : k = i
      · subst h2
        rw [if_pos rfl, Nat.add_sub_cancel_left, List.getElem?_append_left (by rw [hq]; exact hj)]
      · rw [if_neg h2, List.getElem?_append_right (by rw [hq]; omega), hq, List.getElem?_drop, show i * 17 + 17 + (k * 17 + j - i * 17 - 17) = k * 17 + j by omega, yL_get hP n k j hk hj]
  · rw [List.getElem?_eq_none (by simp [hl, hq]; omega), List.getElem?_eq_none (by rw [yL_len hU]; omega)]
theorem pC_len (cv : Value) (r : Nat → Nat) : (pC cv r).toList.length = 17 := by rw [Array.length_toList, pC_size]
/-- The row of a walk under way: i hops done. -/
def wyP (cv : Nat → Value) (r : Nat → Nat → Nat) (i k : Nat) : List Value := if k < i then (pC (cv k) (r k)).toList else (pC (.slice none 0 0) fun _ => 0).toList
theorem wyP_len (cv : Nat → Value) (r : Nat → Nat → Nat) (i k : Nat) : (wyP cv r i k).length = 17 := by unfold wyP; split <;> exact pC_len _ _
def wyR (cv : Nat → Value) (r : Nat → Nat → Nat) (h i : Nat) : Array Value := (yL (wyP cv r i) h).toArray
theorem wyR_size (cv : Nat → Value) (r : Nat → Nat → Nat) (h i : Nat) : (wyR cv r h i).size = h * 17 := by unfold wyR; simp [yL_len (wyP_len cv r i)]
theorem made17 {h : Nat} (h8 : h ≤ 8) (cv : Nat → Value) (r : Nat → Nat → Nat) : madeCells (Value.agg (pC (.slice none 0 0) fun _ => 0)).cells (h * 17) = wyR cv r h 0 := by
  have : h = 0 ∨ h = 1 ∨ h = 2 ∨ h = 3 ∨ h = 4 ∨ h = 5 ∨ h = 6 ∨ h = 7 ∨ h = 8 := by omega
  have m0 : madeCells (Value.agg (pC (.slice none 0 0) fun _ => 0)).cells (0 * 17) = wyR cv r 0 0 := by kernel_rfl
  have m1 : madeCells (Value.agg (pC (.slice none 0 0) fun _ => 0)).cells (1 * 17) = wyR cv r 1 0 := by kernel_rfl
  have m2 : madeCells (Value.agg (pC (.slice none 0 0) fun _ => 0)).cells (2 * 17) = wyR cv r 2 0 := by kernel_rfl
  have m3 : madeCells (Value.agg (pC (.slice none 0 0) fun _ => 0)).cells (3 * 17) = wyR cv r 3 0 := by kernel_rfl
  have m4 : madeCells (Value.agg (pC (.slice none 0 0) fun _ => 0)).cells (4 * 17) = wyR cv r 4 0 := by kernel_rfl
  have m5 : madeCells (Value.agg (pC (.slice none 0 0) fun _ => 0)).cells (5 * 17) = wyR cv r 5 0 := by kernel_rfl
  have m6 : madeCells (Value.agg (pC (.slice none 0 0) fun _ => 0)).cells (6 * 17) = wyR cv r 6 0 := by kernel_rfl
  have m7 : madeCells (Value.agg (pC (.slice none 0 0) fun _ => 0)).cells (7 * 17) = wyR cv r 7 0 := by kernel_rfl
  have m8 : madeCells (Value.agg (pC (.slice none 0 0) fun _ => 0)).cells (8 * 17) = wyR cv r 8 0 := by kernel_rfl
  rcases this with rfl | rfl | rfl | rfl | rfl | rfl | rfl | rfl | rfl
  · exact m0
  · exact m1
  · exact m2
  · exact m3
  · exact m4
  · exact m5
  · exact m6
  · exact m7
  · exact m8
theorem wyR_step (cv : Nat → Value) (r : Nat → Nat → Nat) {h i : Nat} (hi : i < h) (v : Value) (rp : Nat → Nat) : ((wyR cv r h i).toList.take (i * 17) ++ (pC v rp).toList ++ (wyR cv r h i).toList.drop (i * 17 + (pC v rp).size)).toArray = wyR (fun k => if k = i then v else cv k) (fun k => if k = i then rp else r k) h (i + 1) := by
  unfold wyR
  congr 1
  rw [pC_size]
  rw [yL_set (wyP_len cv r i) (pC_len v rp) hi]
  refine yL_congr h fun k _ => ?_
  unfold updP wyP
  by_cases e : k = i
  · subst e; rw [if_pos rfl, if_pos (by omega)]; simp
  · rw [if_neg e]
    by_cases e2 : k < i
    · rw [if_pos e2, if_pos (by omega)]; simp only [if_neg e]
    · rw [if_neg e2, if_neg (by omega)]
section
variable {o : Oper} {a : Act} {w : World}
theorem execMkP {x : Operand} {h : Nat} (ho : o.op = .makeSlice 25 x x) (hx : a.eval x = .int .i64 (h : Int)) (h8 : h ≤ 8) (cv : Nat → Value) (r : Nat → Nat → Nat) : (execOp a.eval o).run Tryz.prog w = .ok (.value (.slice (some ⟨w.heap.size, 0, none⟩) h h)) (w.alloc (.cells (wyR cv r h 0) 39)) := by
  obtain ⟨i, h1, h2, h3, h4⟩ := infoP
  have hh := run_make (P := Tryz.prog) w 25 39 i (.agg (pC (.slice none 0 0) fun _ => 0)) Tryz.underlying25 h1 h2 .i64 .i64 (h : Int) (h : Int) (by omega) (by omega) (by rw [h4]; omega) (by omega)
  rw [h3, Int.toNat_natCast, made17 h8 cv r] at hh
  unfold execOp
  simp only [ho, hx, Sem.run_bind, hh, Result.andThen_ok, Sem.run_pure]
theorem execIdxP {x i : Operand} {g n cap k : Nat} (ho : o.op = .indexAddr 25 x i) (hx : a.eval x = .slice (some ⟨g, 0, none⟩) n cap) (hi : a.eval i = .int .i64 (k : Int)) (hk : k < n) : (execOp a.eval o).run Tryz.prog w = .ok (.value (.pointer (some ⟨g, k * 17, none⟩))) w := by
  have h1 : (k : Int) < n := by omega
  unfold execOp
  simp only [ho, hx, hi]
  simp [go_sem, h1]
theorem execFP0 {x : Operand} {b f : Nat} (ho : o.op = .fieldAddr 39 x 0) (hx : a.eval x = .pointer (some ⟨b, f, none⟩)) : (execOp a.eval o).run Tryz.prog w = .ok (.value (.pointer (some ⟨b, f, none⟩))) w := by
  unfold execOp
  simp only [ho, hx]
  simp [go_sem, Addr.add_mid]
theorem execFP1 {x : Operand} {b f : Nat} (ho : o.op = .fieldAddr 39 x 1) (hx : a.eval x = .pointer (some ⟨b, f, none⟩)) : (execOp a.eval o).run Tryz.prog w = .ok (.value (.pointer (some ⟨b, f + 1, none⟩))) w := by
  unfold execOp
  simp only [ho, hx]
  simp [go_sem, Addr.add_mid]
end
/-- What a Walk leaves: a row of n Peeled of its own, each with a cell of its own. -/
structure Way (W : World) (B : Nat) (v : Value) (n : Nat) (cv : Nat → Value) (r c : Nat → Nat → Nat) : Prop where
  row : ∃ a cap, v = .slice a n cap ∧ (0 < n → ∃ g, a = some ⟨g, 0, none⟩ ∧ B ≤ g ∧ g < W.heap.size ∧ ∀ k, k < n → W.rangeAt g (k * 17) (pC (cv k) (r k)).toList)
  own : ∀ k, k < n → W.ownsRow B 5 1 (cv k) 320 (bytesL 320 (c k))
  two : ∀ i k, i < k → k < n → (cv i).ownBlock ≠ (cv k).ownBlock
theorem Way.on {W W' : World} {B : Nat} {v : Value} {n : Nat} {cv : Nat → Value} {r c : Nat → Nat → Nat} (h : Way W B v n cv r c) (hb : Below W.heap.size W W') : Way W' B v n cv r c := by
  obtain ⟨a, cap, e, hr⟩ := h.row
  refine ⟨⟨a, cap, e, fun h0 => ?_⟩, fun k hk => ownsRow_below (h.own k hk) hb, h.two⟩
  obtain ⟨g, e2, h1, h2, h3⟩ := hr h0
  exact ⟨g, e2, h1, Nat.lt_of_lt_of_le h2 hb.size, fun k hk j u hu => by rw [cell_below hb h2]; exact h3 k hk j u hu⟩
theorem range_wy {W : World} {g h : Nat} {cv : Nat → Value} {r : Nat → Nat → Nat} {t : TypeId} (hg : W.heap[g]? = some (.cells (wyR cv r h h) t)) {k : Nat} (hk : k < h) : W.rangeAt g (k * 17) (pC (cv k) (r k)).toList := by
  intro j u hu
  have hj : j < 17 := by have := (List.getElem?_eq_some_iff.1 hu).1; rwa [pC_len] at this
  rw [cell_of_row _ _ _ _ _ _ hg]
  unfold wyR
  rw [List.getElem?_toArray, yL_get (wyP_len cv r h) h k j hk hj]
  unfold wyP
  rw [if_pos hk]
  exact hu
end Go.Proofs.YtcffmmeafnapiaaGreatDoor.Rou

namespace Go.Proofs.YtcffmmeafnapiaaGreatDoor.Rou
open Go.RowKit Gf8 Aes By8 Cel Oni
/- sameAll; append of a Peeled. Written by tools/mkB7v.py. -/

/-- A []Peeled to read. -/
def WayN (W : World) (v : Value) (n : Nat) (r c : Nat → Nat → Nat) : Prop :=
  ∃ a cap, v = .slice a n cap ∧ (0 < n → ∃ g, a = some ⟨g, 0, none⟩ ∧ g < W.heap.size ∧ ∀ k, k < n → ∃ u, W.rangeAt g (k * 17) (pC u (r k)).toList ∧ SliceN W u 320 (c k))
theorem WayN.on {W W' : World} {v : Value} {n : Nat} {r c : Nat → Nat → Nat} (h : WayN W v n r c) (hb : Below W.heap.size W W') : WayN W' v n r c := by
  obtain ⟨a, cap, e, h1⟩ := h
  refine ⟨a, cap, e, fun h0 => ?_⟩
  obtain ⟨g, e2, hg, h2⟩ := h1 h0
  refine ⟨g, e2, Nat.lt_of_lt_of_le hg hb.size, fun k hk => ?_⟩
  obtain ⟨u, h3, h4⟩ := h2 k hk
  exact ⟨u, fun j x hx => by rw [cell_below hb hg]; exact h3 j x hx, h4.on hb⟩
theorem Way.read {W : World} {B : Nat} {v : Value} {n : Nat} {cv : Nat → Value} {r c : Nat → Nat → Nat} (h : Way W B v n cv r c) (hl : ∀ k, k < n → ∀ j, j < 320 → c k j < 256) : WayN W v n r c := by
  obtain ⟨a, cap, e, h1⟩ := h.row
  refine ⟨a, cap, e, fun h0 => ?_⟩
  obtain ⟨g, e2, _, hg, h2⟩ := h1 h0
  exact ⟨g, e2, hg, fun k hk => ⟨cv k, h2 k hk, own_slice (h.own k hk) (hl k hk)⟩⟩
theorem range_0 {W : World} {g f : Nat} {u : Value} {r : Nat → Nat} (h : W.rangeAt g f (pC u r).toList) : W.cell? ⟨g, f, none⟩ = some u := h 0 u rfl
theorem range_r {W : World} {g f : Nat} {u : Value} {r : Nat → Nat} (h : W.rangeAt g f (pC u r).toList) : ∀ j, j < 16 → W.cell? ⟨g, f + 1 + j, none⟩ = some (.int .u8 (r j)) := by
  intro j hj
  rw [show f + 1 + j = f + (1 + j) by omega]
  refine h (1 + j) _ ?_
  rw [pC, Nat.add_comm]
  simp only [List.getElem?_cons_succ]
  exact bytesL_at 16 r hj
set_option maxRecDepth 20000 in
set_option maxHeartbeats 4000000 in
theorem sameAll_true (va vb : Value) (n : Nat) (r c : Nat → Nat → Nat) (V : World) (ha : WayN V va n r c) (hb : WayN V vb n r c) (hn : n ≤ 8) :
    Calls Tryz.prog 7 #[va, vb] V fun e w' => e = .returned (.bool true) ∧ Below V.heap.size V w' := by
  obtain ⟨aa, ca, rfl, ha1⟩ := ha
  obtain ⟨ab, cb, rfl, hb1⟩ := hb
  have HA : Hid (0 < n → ∃ g, aa = some ⟨g, 0, none⟩ ∧ g < V.heap.size ∧ ∀ k, k < n → ∃ u, V.rangeAt g (k * 17) (pC u (r k)).toList ∧ SliceN V u 320 (c k)) := ha1
  have HB : Hid (0 < n → ∃ g, ab = some ⟨g, 0, none⟩ ∧ g < V.heap.size ∧ ∀ k, k < n → ∃ u, V.rangeAt g (k * 17) (pC u (r k)).toList ∧ SliceN V u 320 (c k)) := hb1
  have i8 : (n : Int) ≤ 8 := by omega
  have HN : Hid (n ≤ 8) := hn
  have i0 : ((n : Int) != (n : Int)) = false := by simp
  clear ha1 hb1 hn
  go_enter Tryz.func7, Tryz.ntmps7
  go_wp2_with fail
  go_loopw [5] (fun z W => ∃ i : Nat, i ≤ n ∧ z = .int .i64 (i : Int) ∧ Below V.heap.size V W) (fun z _ => n - (intOf z).toNat)
  case atStart => exact ⟨0, Nat.zero_le _, rfl, Below.refl _ _⟩
  case round =>
    obtain ⟨i, hi, rfl, bel⟩ := hrel
    have BL : Hid (Below V.heap.size V wr) := bel
    by_cases hlt : i < n
    · have i1 : (i : Int) < n := by omega
      obtain ⟨ga, rfl, hga, hua⟩ := HA.out (by omega)
      obtain ⟨gb, rfl, hgb, hub⟩ := HB.out (by omega)
      obtain ⟨ua, ra, sa⟩ := hua i hlt
      obtain ⟨ub, rb, sb⟩ := hub i hlt
      have UA : Hid (ga < wr.heap.size ∧ wr.cell? ⟨ga, i * 17, none⟩ = some ua ∧ (∀ j, j < 16 → wr.cell? ⟨ga, i * 17 + 1 + j, none⟩ = some (.int .u8 (r i j))) ∧ SliceN wr ua 320 (c i)) := ⟨Nat.lt_of_lt_of_le hga bel.size, by rw [cell_below bel hga]; exact range_0 ra, fun j hj => by rw [cell_below bel hga]; exact range_r ra j hj, sa.on bel⟩
      have UB : Hid (gb < wr.heap.size ∧ wr.cell? ⟨gb, i * 17, none⟩ = some ub ∧ (∀ j, j < 16 → wr.cell? ⟨gb, i * 17 + 1 + j, none⟩ = some (.int .u8 (r i j))) ∧ SliceN wr ub 320 (c i)) := ⟨Nat.lt_of_lt_of_le hgb bel.size, by rw [cell_below bel hgb]; exact range_0 rb, fun j hj => by rw [cell_below bel hgb]; exact range_r rb j hj, sb.on bel⟩
      have HI : Hid (i < n) := hlt
      clear hlt hi bel hga hgb hua hub ra rb sa sb
      go_wp2_with fail
      refine wp_region_det 43 [(0, 17), (1, 18), (2, 19), (3, 20), (4, 21), (5, 22), (6, 23), (7, 24), (8, 25), (9, 26), (10, 27), (11, 28), (12, 29), (13, 30), (14, 31), (15, 32), (16, 33), (17, 34), (18, 35), (19, 36), (20, 37), (21, 38), (22, 39), (23, 40), (24, 41), (25, 42)] (fun i_ => match i_ with | 0 => .slice (some ⟨ga, 0, none⟩) n ca | 1 => .int .i64 (i : Int) | 2 => .pointer (some ⟨ga, i * 17, none⟩) | 3 => .pointer (some ⟨ga, i * 17 + 1, none⟩) | 4 => .agg (bA 16 (r i)) | 5 => .slice (some ⟨gb, 0, none⟩) n cb | 6 => .int .i64 (i : Int) | 7 => .pointer (some ⟨gb, i * 17, none⟩) | 8 => .pointer (some ⟨gb, i * 17 + 1, none⟩) | 9 => .agg (bA 16 (r i)) | 10 => .bool false | 11 => .bool false | 12 => .slice (some ⟨ga, 0, none⟩) n ca | 13 => .int .i64 (i : Int) | 14 => .pointer (some ⟨ga, i * 17, none⟩) | 15 => .pointer (some ⟨ga, i * 17, none⟩) | 16 => ua | 17 => .string (strN (c i) 320) | 18 => .slice (some ⟨gb, 0, none⟩) n cb | 19 => .int .i64 (i : Int) | 20 => .pointer (some ⟨gb, i * 17, none⟩) | 21 => .pointer (some ⟨gb, i * 17, none⟩) | 22 => ub | 23 => .string (strN (c i) 320) | 24 => .bool false | 25 => .bool false | _ => undef) (fun _ X => Below wr.heap.size wr X) (by kernel_rfl) (by kernel_rfl) rfl (by kernel_rfl) (by decide) (by decide) ?_ ?_ ?_
      · exact (Below.refl _ _).drew
      · intro j hj l a X hl hf hdep hl2 hcl _ hT
        match j, hj with
        | 0, _ => exact stepV rfl rfl (execMvB rfl (hf 0 (by decide))) ⟨⟨_, rfl, rfl⟩, hT⟩
        | 1, _ => exact stepV rfl rfl (execMvB rfl (hf 5 (by decide))) ⟨⟨_, rfl, rfl⟩, hT⟩
        | 2, _ => exact stepV rfl rfl (execIdxP rfl (hdep _ rfl 0 rfl _ rfl _ rfl) (hdep _ rfl 1 rfl _ rfl _ rfl) HI.out) ⟨⟨_, rfl, rfl⟩, hT⟩
        | 3, _ => exact stepV rfl rfl (execFP1 rfl (hdep _ rfl 2 rfl _ rfl _ rfl)) ⟨⟨_, rfl, rfl⟩, hT⟩
        | 4, _ => exact stepV rfl rfl (execLdList (k := 16) (q := r i) rfl (hdep _ rfl 3 rfl _ rfl _ rfl) (fun j hj => by rw [cell_below hT UA.out.1]; exact UA.out.2.2.1 j hj) Tryz.underlying36 rfl (by kernel_rfl)) ⟨⟨_, rfl, rfl⟩, hT⟩
        | 5, _ => exact stepV rfl rfl (execMvB rfl (hf 1 (by decide))) ⟨⟨_, rfl, rfl⟩, hT⟩
        | 6, _ => exact stepV rfl rfl (execMvB rfl (hf 5 (by decide))) ⟨⟨_, rfl, rfl⟩, hT⟩
        | 7, _ => exact stepV rfl rfl (execIdxP rfl (hdep _ rfl 5 rfl _ rfl _ rfl) (hdep _ rfl 6 rfl _ rfl _ rfl) HI.out) ⟨⟨_, rfl, rfl⟩, hT⟩
        | 8, _ => exact stepV rfl rfl (execFP1 rfl (hdep _ rfl 7 rfl _ rfl _ rfl)) ⟨⟨_, rfl, rfl⟩, hT⟩
        | 9, _ => exact stepV rfl rfl (execLdList (k := 16) (q := r i) rfl (hdep _ rfl 8 rfl _ rfl _ rfl) (fun j hj => by rw [cell_below hT UB.out.1]; exact UB.out.2.2.1 j hj) Tryz.underlying36 rfl (by kernel_rfl)) ⟨⟨_, rfl, rfl⟩, hT⟩
        | 10, _ => exact stepV rfl rfl (exec_notsame16 rfl (hdep _ rfl 4 rfl _ rfl _ rfl) (hdep _ rfl 9 rfl _ rfl _ rfl) (fun _ _ => rfl)) ⟨⟨_, rfl, rfl⟩, hT⟩
        | 11, _ => exact stepV rfl rfl (execMvB rfl (hdep _ rfl 10 rfl _ rfl _ rfl)) ⟨⟨_, rfl, rfl⟩, hT⟩
        | 12, _ => exact stepV rfl (wantedOf rfl (yieldedAt rfl rfl (show a.eval (.tmp 28) = .bool false from (hdep _ rfl 11 rfl _ rfl _ rfl)))) (execMvB rfl (hf 0 (by decide))) ⟨⟨_, rfl, rfl⟩, hT⟩
        | 13, _ => exact stepV rfl (wantedOf rfl (yieldedAt rfl rfl (show a.eval (.tmp 28) = .bool false from (hdep _ rfl 11 rfl _ rfl _ rfl)))) (execMvB rfl (hf 5 (by decide))) ⟨⟨_, rfl, rfl⟩, hT⟩
        | 14, _ => exact stepV rfl (wantedOf rfl (yieldedAt rfl rfl (show a.eval (.tmp 28) = .bool false from (hdep _ rfl 11 rfl _ rfl _ rfl)))) (execIdxP rfl (hdep _ rfl 12 rfl _ rfl _ rfl) (hdep _ rfl 13 rfl _ rfl _ rfl) HI.out) ⟨⟨_, rfl, rfl⟩, hT⟩
        | 15, _ => exact stepV rfl (wantedOf rfl (yieldedAt rfl rfl (show a.eval (.tmp 28) = .bool false from (hdep _ rfl 11 rfl _ rfl _ rfl)))) (execFP0 rfl (hdep _ rfl 14 rfl _ rfl _ rfl)) ⟨⟨_, rfl, rfl⟩, hT⟩
        | 16, _ => exact stepV rfl (wantedOf rfl (yieldedAt rfl rfl (show a.eval (.tmp 28) = .bool false from (hdep _ rfl 11 rfl _ rfl _ rfl)))) (execLdL rfl (hdep _ rfl 15 rfl _ rfl _ rfl) (by rw [cell_below hT UA.out.1]; exact UA.out.2.1)) ⟨⟨_, rfl, rfl⟩, hT⟩
        | 17, _ => exact stepV rfl (wantedOf rfl (yieldedAt rfl rfl (show a.eval (.tmp 28) = .bool false from (hdep _ rfl 11 rfl _ rfl _ rfl)))) (By8.execStr rfl (hdep _ rfl 16 rfl _ rfl _ rfl) (UA.out.2.2.2.on hT)) ⟨⟨_, rfl, rfl⟩, hT⟩
        | 18, _ => exact stepV rfl (wantedOf rfl (yieldedAt rfl rfl (show a.eval (.tmp 28) = .bool false from (hdep _ rfl 11 rfl _ rfl _ rfl)))) (execMvB rfl (hf 1 (by decide))) ⟨⟨_, rfl, rfl⟩, hT⟩
        | 19, _ => exact stepV rfl (wantedOf rfl (yieldedAt rfl rfl (show a.eval (.tmp 28) = .bool false from (hdep _ rfl 11 rfl _ rfl _ rfl)))) (execMvB rfl (hf 5 (by decide))) ⟨⟨_, rfl, rfl⟩, hT⟩
        | 20, _ => exact stepV rfl (wantedOf rfl (yieldedAt rfl rfl (show a.eval (.tmp 28) = .bool false from (hdep _ rfl 11 rfl _ rfl _ rfl)))) (execIdxP rfl (hdep _ rfl 18 rfl _ rfl _ rfl) (hdep _ rfl 19 rfl _ rfl _ rfl) HI.out) ⟨⟨_, rfl, rfl⟩, hT⟩
        | 21, _ => exact stepV rfl (wantedOf rfl (yieldedAt rfl rfl (show a.eval (.tmp 28) = .bool false from (hdep _ rfl 11 rfl _ rfl _ rfl)))) (execFP0 rfl (hdep _ rfl 20 rfl _ rfl _ rfl)) ⟨⟨_, rfl, rfl⟩, hT⟩
        | 22, _ => exact stepV rfl (wantedOf rfl (yieldedAt rfl rfl (show a.eval (.tmp 28) = .bool false from (hdep _ rfl 11 rfl _ rfl _ rfl)))) (execLdL rfl (hdep _ rfl 21 rfl _ rfl _ rfl) (by rw [cell_below hT UB.out.1]; exact UB.out.2.1)) ⟨⟨_, rfl, rfl⟩, hT⟩
        | 23, _ => exact stepV rfl (wantedOf rfl (yieldedAt rfl rfl (show a.eval (.tmp 28) = .bool false from (hdep _ rfl 11 rfl _ rfl _ rfl)))) (By8.execStr rfl (hdep _ rfl 22 rfl _ rfl _ rfl) (UB.out.2.2.2.on hT)) ⟨⟨_, rfl, rfl⟩, hT⟩
        | 24, _ => exact stepV rfl (wantedOf rfl (yieldedAt rfl rfl (show a.eval (.tmp 28) = .bool false from (hdep _ rfl 11 rfl _ rfl _ rfl)))) (By8.execNeqS rfl (hdep _ rfl 17 rfl _ rfl _ rfl) (hdep _ rfl 23 rfl _ rfl _ rfl)) ⟨⟨_, rfl, rfl⟩, hT⟩
        | 25, _ => exact stepV rfl rfl (execPick (b := false) rfl (hdep _ rfl 11 rfl _ rfl _ rfl) (hdep _ rfl 24 rfl _ rfl _ rfl)) ⟨⟨_, rfl, rfl⟩, hT⟩
        | k + 26, h => exact absurd h (by simp)
      · intro l X hall hT
        have S1 : Hid (Below V.heap.size V X) := BL.out.trans (hT.mono BL.out.size)
        clear hall hT
        simp only [putP, Act.put, List.setIfInBounds_toArray, List.set_cons_succ, List.set_cons_zero]
        go_wp2_with fail
        go_roundw
        case rel => exact ⟨i + 1, HI.out, by go_num, S1.out⟩
        case measure => have := HI.out; simp [intOf]; omega
    · have i1 : ¬ (i : Int) < n := by omega
      clear hlt hi bel
      go_wp2_with fail
      go_ret
      exact ⟨rfl, BL.out⟩
/-- A row of one's own of another type stays where another is grown. -/
theorem own5_grown {W W' : World} {B B2 n m s : Nat} {v u : Value} {xs ys : List Value} {t : TypeId} (h : W.ownsRow B 5 1 v n xs) (ho : W.ownsRow B2 t s u m ys) (ht : t ≠ 5) (hg : W.grownBy W' u.ownBlock) : W'.ownsRow B 5 1 v n xs := by
  refine ⟨h.1, ?_⟩
  rcases h.2 with h | ⟨g, cap, cur, e, hB, hgr, h1, h2, h3, h4⟩
  · exact Or.inl h
  · refine Or.inr ⟨g, cap, cur, e, hB, ?_, h1, h2, h3, h4⟩
    rw [hg.block g (Array.getElem?_eq_some_iff.1 hgr).1 ?_]
    · exact hgr
    · intro q
      rcases ho.2 with ⟨rfl, _⟩ | ⟨g2, cap2, cur2, rfl, _, hg2, _⟩
      · cases q
      · have : g = g2 := by simpa [Value.ownBlock] using q
        subst this
        rw [hgr] at hg2
        injection hg2 with hg2
        injection hg2 with _ e5
        exact ht e5.symm
theorem ownW_below {W W' : World} {B n s : Nat} {t : TypeId} {v : Value} {xs : List Value} (h : W.ownsRow B t s v n xs) (hb : Below W.heap.size W W') : W'.ownsRow B t s v n xs := by
  refine ⟨h.1, ?_⟩
  rcases h.2 with h | ⟨g, cap, cur, e, hB, hgr, h1, h2, h3, h4⟩
  · exact Or.inl h
  · exact Or.inr ⟨g, cap, cur, e, hB, by rw [hb.block _ (Array.getElem?_eq_some_iff.1 hgr).1]; exact hgr, h1, h2, h3, h4⟩
theorem ownW_base {W : World} {B C n s : Nat} {t : TypeId} {v : Value} {xs : List Value} (h : W.ownsRow C t s v n xs) (hB : B ≤ C) : W.ownsRow B t s v n xs := by
  refine ⟨h.1, ?_⟩
  rcases h.2 with h | ⟨g, cap, cur, e, hC, h2⟩
  · exact Or.inl h
  · exact Or.inr ⟨g, cap, cur, e, Nat.le_trans hB hC, h2⟩
theorem fillP (v : Value) (r : Nat → Nat) : Instr.fill (fun i => some (i * 17, 17)) ((Array.range (1 * 17)).map ((pC (.slice none 0 0) fun _ => 0)[· % (pC (.slice none 0 0) fun _ => 0).size]!)) [(0, .agg (pC v r))] = some (pC v r) := by
  kernel_rfl
section
variable {ops : Array Oper} {rest : List Oper} {o : Oper} {a : Act} {w W : World} {Q : Exit → Act → World → Prop}
theorem execBsP {x : Operand} {v : Value} {r : Nat → Nat} (ho : o.op = .buildSlice 25 1 #[(0, x)]) (hx : a.eval x = .agg (pC v r)) : (execOp a.eval o).run Tryz.prog w = .ok (.value (.slice (some ⟨w.heap.size, 0, none⟩) 1 1)) (w.alloc (.cells (pC v r) 39)) := by
  have hz : (zeroValue 39).run Tryz.prog w = .ok (.agg (pC (.slice none 0 0) fun _ => 0)) w := zeroP w
  have hs : (sizeOf 39).run Tryz.prog w = .ok 17 w := by simp [go_sem]
  have hf := fillP v r
  have e : (#[((0 : Nat), x)] : Array (Nat × Operand)).map (fun (i, y) => (i, a.eval y)) = #[(0, .agg (pC v r))] := by simp [hx]
  have hr : (Instr.buildSlice 25 1 #[(0, .agg (pC v r))]).run Tryz.prog w = .ok (.slice (some ⟨w.heap.size, 0, none⟩) 1 1) (w.alloc (.cells (pC v r) 39)) := by
    simp only [Instr.buildSlice, Sem.run_bind, run_underlying Tryz.underlying25, Result.andThen_ok, hs]
    rw [if_neg (by decide), if_neg (by decide)]
    simp only [Sem.run_bind, Sem.run_pure, Result.andThen_ok, hz, Value.cells, hf]
    simp [newRow]
  unfold execOp
  simp only [ho, e, Sem.run_bind, hr, Result.andThen_ok, Sem.run_pure]
theorem atAppW (s x : Operand) (_ : o.op = .call { callee := .builtin .append, args := #[s, x], argTypes := #[25, 25] }) (h : wpList Tryz.prog ops Q (o :: rest) a W) : wpList Tryz.prog ops Q (o :: rest) a W := h
theorem atBsP (x : Operand) (_ : o.op = .buildSlice 25 1 #[(0, x)]) (h : wpList Tryz.prog ops Q (o :: rest) a W) : wpList Tryz.prog ops Q (o :: rest) a W := h
/-- One Peeled more. -/
theorem wpList_appW {B n g : Nat} {v u : Value} {P : Nat → List Value} {rp : Nat → Nat} (hgd : o.guard = none) (s x : Operand)
    (ho : o.op = .call { callee := .builtin .append, args := #[s, x], argTypes := #[25, 25] })
    (hs : a.eval s = v) (hx : a.eval x = .slice (some ⟨g, 0, none⟩) 1 1) (hown : W.ownsRow B 39 17 v n (yL P n)) (hsrc : W.heap[g]? = some (.cells (pC u rp) 39)) (hP : P n = (pC u rp).toList) (hu : u.oneCell' = true) (hn : n ≤ 1000) (hB : B ≤ W.heap.size)
    (h : ∀ v' W', W'.ownsRow B 39 17 v' (n + 1) (yL P (n + 1)) → W.grownBy W' v.ownBlock → wpList Tryz.prog ops Q rest (a.put o.dst v') W') : wpList Tryz.prog ops Q (o :: rest) a W := by
  obtain ⟨i, h1, h2, h3, h4⟩ := infoP
  refine wpList_append_own W hgd s x 25 ho B 39 i (.agg (pC (.slice none 0 0) fun _ => 0)) 17 40 Tryz.underlying25 h1 h2 h3 h4 (by simp [Value.cells, pC_size]) (by decide) v n (yL P n) hs hown ⟨g, 0, none⟩ 1 1 (P n) hx (by rw [hP, pC_len]) ?_ ?_ (by unfold maxLen; omega) (by omega) hB ?_
  · intro j y hy
    rw [hP] at hy
    rw [Go.WideShapes.add_plain, cell_of_row _ _ _ _ _ _ hsrc, Nat.zero_add]
    simpa using hy
  · intro y hy
    rw [hP] at hy
    have := pC_one rp hu
    rw [Array.all_eq_true_iff_forall_mem] at this
    exact this y (by simpa using hy)
  · intro v' W' hown' hg _
    exact h v' W' hown' hg
end
end Go.Proofs.YtcffmmeafnapiaaGreatDoor.Rou
