import Derived.Test.YtaiiomoajjhliaaDoorX6l
import Derived.Test.YtaiiomoajjhliaaDoorX6n
import Derived.Test.YtaiiomoajjhliaaDoorX7f
import Derived.Test.YtaiiomoajjhliaaDoorC6
namespace Go.Proofs.YtaiiomoajjhliaaDoor.Rou
open Go.RowKit Gf8 Aes By8 Cel Oni
/- A chain in the heap; isChain, areKeys. -/

/-- A [][16]byte: n arrays, the i-th of the bytes q i. -/
structure Nons (W : World) (v : Value) (n : Nat) (q : Nat → Nat → Nat) : Prop where
  shape : ∃ a cap, v = .slice a n cap ∧ n ≤ cap ∧ cap < 9223372036854775808 ∧ (0 < n → ∃ b off, a = some ⟨b, off, none⟩ ∧ b < W.heap.size ∧ ∀ i, i < n → ∀ j, j < 16 → W.cell? ⟨b, off + i * 16 + j, none⟩ = some (.int .u8 (q i j)))
  by_ : ∀ i, i < n → By (q i)
theorem Nons.on {W W' : World} {v : Value} {n : Nat} {q : Nat → Nat → Nat} (h : Nons W v n q) (hb : Below W.heap.size W W') : Nons W' v n q := by
  obtain ⟨a, cap, e, h1, h2, h3⟩ := h.shape
  refine ⟨⟨a, cap, e, h1, h2, fun h0 => ?_⟩, h.by_⟩
  obtain ⟨b, off, e2, hl, hc⟩ := h3 h0
  exact ⟨b, off, e2, Nat.lt_of_lt_of_le hl hb.size, fun i hi j hj => by rw [cell_below hb hl]; exact hc i hi j hj⟩
theorem loF_lt {h : Nat} {key q : Nat → Nat → Nat} {n : Nat} {p : Nat → Nat} (hq : ∀ i, i < h → By (q i)) (hn : n ≤ 48) (hp : ∀ j, j < n → p j < 256) : ∀ m, m ≤ h → m ≤ 8 → ∀ j, j < loN n m → loF h key q n p m j < 256
  | 0, _, _, j, hj => hp j hj
  | m + 1, hm, h8, j, _ => by
    have hl := loN_le (n := n) (m := m) hn (by omega)
    exact wrF_lt (hq _ (by omega)) (by omega) (fun j hj => loF_lt hq hn hp m (by omega) (by omega) j hj) j
section
variable {o : Oper} {a : Act} {w : World}
theorem execIdxL {x i : Operand} {b off n cap k : Nat} (ho : o.op = .indexAddr 22 x i) (hx : a.eval x = .slice (some ⟨b, off, none⟩) n cap) (hi : a.eval i = .int .i64 (k : Int)) (hk : k < n) : (execOp a.eval o).run Tryd.prog w = .ok (.value (.pointer (some ⟨b, off + k, none⟩))) w := by
  have h1 : (k : Int) < n := by omega
  unfold execOp
  simp only [ho, hx, hi]
  simp [go_sem, h1, Addr.add_mid]
theorem execIdxA {x i : Operand} {b off n cap k : Nat} (ho : o.op = .indexAddr 23 x i) (hx : a.eval x = .slice (some ⟨b, off, none⟩) n cap) (hi : a.eval i = .int .i64 (k : Int)) (hk : k < n) : (execOp a.eval o).run Tryd.prog w = .ok (.value (.pointer (some ⟨b, off + k * 16, none⟩))) w := by
  have h1 : (k : Int) < n := by omega
  unfold execOp
  simp only [ho, hx, hi]
  simp [go_sem, h1, Addr.add_mid]
theorem execLdL {x : Operand} {b f : Nat} {v : Value} (ho : o.op = .load 24 x) (hx : a.eval x = .pointer (some ⟨b, f, none⟩)) (hc : w.cell? ⟨b, f, none⟩ = some v) : (execOp a.eval o).run Tryd.prog w = .ok (.value v) w := by
  unfold execOp
  simp only [ho, hx]
  simp [go_sem, hc]
theorem execExtT {x : Operand} {k : Nat} {arr : Array Value} {v : Value} (ho : o.op = .extract x k) (hx : a.eval x = .tuple arr) (hk : arr[k]? = some v) : (execOp a.eval o).run Tryd.prog w = .ok (.value v) w := by
  unfold execOp
  simp only [ho, hx]
  simp [go_sem, hk]
theorem execSubJ {x y : Operand} {p q r : Nat} (ho : o.op = .binOp .sub 3 x y 3) (hx : a.eval x = .int .i64 p) (hy : a.eval y = .int .i64 q) (h : p = q + r) (hp : p < 9223372036854775808) : (execOp a.eval o).run Tryd.prog w = .ok (.value (.int .i64 (r : Nat))) w := by
  have := execSubI (w := w) ho hx hy (by omega) hp
  rw [show p - q = r by omega] at this
  exact this
end
theorem ischain_any (v : Value) (h : Nat) (V : World) (hv : ∃ a cap, v = .slice a h cap) (hb : h ≤ 140737488351232) :
    Calls Tryd.prog 26 #[v] V fun e w' => e = .returned (.bool (decide (1 ≤ h ∧ h ≤ 8))) ∧ w' = V := by
  obtain ⟨a, cap, rfl⟩ := hv
  by_cases h1 : 1 ≤ h
  · have i1 : (h : Int) ≥ 1 := by omega
    by_cases h2 : h ≤ 8
    · have i2 : (h : Int) ≤ 8 := by omega
      rw [decide_eq_true (⟨h1, h2⟩ : 1 ≤ h ∧ h ≤ 8)]
      clear h1 h2
      go_enter Tryd.func26, Tryd.ntmps26
      go_wp2_with fail
      go_ret
      exact ⟨rfl, rfl⟩
    · have i2 : ¬ (h : Int) ≤ 8 := by omega
      rw [decide_eq_false (fun q : 1 ≤ h ∧ h ≤ 8 => h2 q.2)]
      clear h1 h2
      go_enter Tryd.func26, Tryd.ntmps26
      go_wp2_with fail
      go_ret
      exact ⟨rfl, rfl⟩
  · have i1 : ¬ (h : Int) ≥ 1 := by omega
    rw [decide_eq_false (fun q : 1 ≤ h ∧ h ≤ 8 => h1 q.1)]
    clear h1
    go_enter Tryd.func26, Tryd.ntmps26
    go_wp2_with fail
    go_ret
    exact ⟨rfl, rfl⟩
set_option maxRecDepth 20000 in
set_option maxHeartbeats 1000000 in
theorem arekeys_any (v : Value) (h : Nat) (xv : Nat → Value) (lk : Nat → Nat) (key : Nat → Nat → Nat) (V : World) (hc : Cells V v h xv lk key) (hb : h ≤ 140737488351232) :
    Calls Tryd.prog 27 #[v] V fun e w' => e = .returned (.bool (ksOk h lk)) ∧ w' = V := by
  obtain ⟨ca, ccap, rfl, _, _, hs⟩ := id hc.shape
  have HC : Hid (Cells V (.slice ca h ccap) h xv lk key) := hc
  have HS : Hid (0 < h → ∃ b off, ca = some ⟨b, off, none⟩ ∧ b < V.heap.size ∧ ∀ i, i < h → V.cell? ⟨b, off + i, none⟩ = some (xv i)) := hs
  have lm : (h : Int) ≤ 140737488351232 := by omega
  clear hc hs hb
  go_enter Tryd.func27, Tryd.ntmps27
  go_wp2_with fail
  go_loopw [7] (fun z W => ∃ i : Nat, i ≤ h ∧ z = .int .i64 (i : Int) ∧ (∀ k, k < i → lk k = 32) ∧ W = V) (fun z _ => h - (intOf z).toNat)
  case atStart => exact ⟨0, Nat.zero_le _, rfl, fun k hk => by omega, rfl⟩
  case round =>
    obtain ⟨i, hi, rfl, hk, hw⟩ := hrel
    rw [hw]
    clear hw
    by_cases hlt : i < h
    · have i1 : (i : Int) < h := by omega
      obtain ⟨b, off, rfl, hb, hcell⟩ := HS.out (by omega)
      have c1 : V.cell? ⟨b, off + i, none⟩ = some (xv i) := hcell i hlt
      obtain ⟨ya, yc, ey, _⟩ := (HC.out.cell i hlt).shape
      have HK : Hid ((∀ k, k < i → lk k = 32) ∧ i < h) := ⟨hk, hlt⟩
      by_cases h32 : lk i = 32
      · have i2 : ((lk i : Int) != 32) = false := by simp; omega
        have H32 : Hid (lk i = 32) := h32
        rw [ey] at c1
        clear hk hlt hi hb hcell ey h32
        go_wp2_with (first
          | (refine wpList_ex rfl (execIdxL (x := .tmp 5) (k := i) rfl rfl rfl HK.out.2) ?_)
          | (refine wpList_ex rfl (execLdL (x := .tmp 9) rfl rfl c1) ?_))
        go_roundw
        case rel => exact ⟨i + 1, HK.out.2, by go_num, fun k hk => by
          by_cases e : k = i
          · rw [e]; exact H32.out
          · exact HK.out.1 k (by omega), by first | trivial | rfl⟩
        case measure => have := HK.out.2; simp [intOf]; omega
      · have i2 : ((lk i : Int) != 32) = true := by simp; omega
        have ek : ksOk h lk = false := by
          cases q : ksOk h lk with
          | false => rfl
          | true => exact absurd ((ksOk_iff _ _).1 q i hlt) h32
        rw [ey] at c1
        have EK : Hid (ksOk h lk = false) := ek
        clear hk hlt hi hb hcell ey h32 ek
        go_wp2_with (first
          | (refine wpList_ex rfl (execIdxL (x := .tmp 5) (k := i) rfl rfl rfl HK.out.2) ?_)
          | (refine wpList_ex rfl (execLdL (x := .tmp 9) rfl rfl c1) ?_))
        go_ret
        exact ⟨by rw [EK.out]; rfl, rfl⟩
    · have i1 : ¬ (i : Int) < h := by omega
      have EK : Hid (ksOk h lk = true) := (ksOk_iff _ _).2 fun k q => hk k (by omega)
      clear hk hlt hi
      go_wp2_with fail
      go_ret
      exact ⟨by rw [EK.out]; rfl, rfl⟩
end Go.Proofs.YtaiiomoajjhliaaDoor.Rou
