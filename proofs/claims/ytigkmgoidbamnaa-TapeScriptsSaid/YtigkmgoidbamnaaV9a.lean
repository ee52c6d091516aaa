import Derived.Test.YtigkmgoidbamnaaX7b
import Derived.Test.YtigkmgoidbamnaaX7f
namespace Go.Proofs.Ytigkmgoidbamnaa.Tap
open Go.RowKit Gf8 Aes By8 Cel
/- Layer 9 (tape): the law's place and same, the reference's Byte, Take, copied. -/

def plcN (i : Int) (n : Nat) : Nat := (if i < 0 then -(i + 1) else i).toNat % n
theorem place_any (i : Int) (n : Nat) (V : World) (h1 : -9223372036854775808 ≤ i) (h2 : i < 9223372036854775808) (hn : 0 < n) (hm : n < 9223372036854775808) :
    Calls Try.prog 8 #[.int .i64 i, .int .i64 (n : Int)] V fun e w' => e = .returned (.int .i64 (plcN i n : Nat)) ∧ w' = V := by
  have n1 : (n : Int) < 9223372036854775808 := by omega
  have n0 : (n : Int) ≠ 0 := by omega
  have HN : Hid (0 < n) := hn
  clear hn hm
  by_cases h0 : i < 0
  · obtain ⟨k, hk⟩ : ∃ k : Nat, -(i + 1) = k := ⟨(-(i + 1)).toNat, by omega⟩
    have k1 : (k : Int) < 9223372036854775808 := by omega
    have ep : plcN i n = k % n := by unfold plcN; rw [if_pos h0, hk]; simp
    have HK : Hid (_) := hk
    have EP : Hid (_) := ep
    clear ep
    go_enter Try.func8, Try.ntmps8
    go_wp2
    go_ret
    rw [EP.out]
    exact ⟨rfl, rfl⟩
  · obtain ⟨k, rfl⟩ : ∃ k : Nat, i = k := ⟨i.toNat, by omega⟩
    have ep : plcN (k : Int) n = k % n := by unfold plcN; rw [if_neg h0]; simp
    have EP : Hid (_) := ep
    clear ep
    go_enter Try.func8, Try.ntmps8
    go_wp2
    go_ret
    rw [EP.out]
    exact ⟨rfl, rfl⟩
set_option maxRecDepth 20000 in
theorem same_true (p q : Nat → Nat) (n : Nat) (v u : Value) (V : World) (hv : SliceN V v n p) (hu : SliceN V u n q) (e : ∀ j, j < n → p j = q j) :
    Calls Try.prog 10 #[v, u] V fun r w' => r = .returned (.bool true) ∧ w' = V := by
  have hu' : SliceN V u n p := sliceN_cg hu fun j hj => (e j hj).symm
  have HV : Hid (SliceN V v n p ∧ SliceN V u n p) := ⟨hv, hu'⟩
  clear hv hu hu' e
  go_enter Try.func10, Try.ntmps10
  go_wp2_with (first
    | (refine wpList_ex rfl (execStr rfl rfl HV.out.1) ?_)
    | (refine wpList_ex rfl (execStr rfl rfl HV.out.2) ?_))
  go_ret
  refine ⟨?_, rfl⟩
  first | rfl | simp
set_option maxRecDepth 20000 in
theorem copied_any (p : Nat → Nat) (len : Nat) (v : Value) (V : World) (hv : SliceN V v len p) (hnil : ∀ l c, v = .slice none l c → c = 0) (hl : len ≤ 140737488351232) :
    Calls Try.prog 23 #[v] V fun e w' => ∃ r, e = .returned r ∧ w'.ownsRow V.heap.size 5 1 r len (bytesL len p) ∧ Below V.heap.size V w' := by
  have HV : Hid (SliceN V v len p) := hv
  have HN : Hid (∀ l c, v = .slice none l c → c = 0) := hnil
  clear hv hnil
  go_enter Try.func23, Try.ntmps23
  go_wp2_with (first
    | (refine atAppB (.tmp 4) (.tmp 5) rfl ?_; go_must (refine wpList_appS (B := V.heap.size) (n := 0) (m := len) (p := p) rfl (.tmp 4) (.tmp 5) rfl rfl rfl (World.ownsRow_nil _ _ _ _) (sliceN_cg HV.out fun j _ => by rw [Nat.zero_add]) HN.out (by omega) (Nat.le_refl _) ?_; intro u1 W1 own1 gr1; have b1 : Below V.heap.size V W1 := below_grown (Below.refl _ _) (Nat.le_refl _) (World.ownsRow_nil V V.heap.size 5 1) gr1; rw [Nat.zero_add] at own1; clear gr1)))
  go_ret
  exact ⟨_, rfl, own1, b1⟩
/-- Byte: the byte, the place, the error. -/
theorem rbyte_any (p : Nat → Nat) (l at' : Nat) (v : Value) (V : World) (hv : SliceN V v l p) (hb : l ≤ 140737488351232) (hat : at' ≤ l) :
    Calls Try.prog 12 #[v, .int .i64 (at' : Int)] V fun e w' => e = .returned (.tuple #[.int .u8 ((if at' < l then p at' else 0 : Nat) : Int), .int .i64 ((if at' < l then at' + 1 else 0 : Nat) : Int), .int .i64 ((if at' < l then 0 else 3 : Nat) : Int)]) ∧ w' = V := by
  obtain ⟨a, cap, rfl, _, _, hc⟩ := id hv.shape
  by_cases h : at' < l
  · simp only [if_pos h]
    obtain ⟨b, off, rfl, _, hcell⟩ := hc (by omega)
    have c0 := hcell at' h
    have i1 : ¬ (at' : Int) ≥ l := by omega
    have i2 : (at' : Int) < l := by omega
    have i3 : (at' : Int) < 140737488351232 := by omega
    clear hv hc hcell hb hat h
    go_enter Try.func12, Try.ntmps12
    go_wp2
    refine bodyPost_ret (results_tmp3 rfl _ _ _) rfl ⟨rfl, rfl⟩
  · simp only [if_neg h]
    have i1 : (at' : Int) ≥ l := by omega
    clear hv hc hb hat h
    go_enter Try.func12, Try.ntmps12
    go_wp2
    refine bodyPost_ret (results_tmp3 rfl _ _ _) rfl ⟨rfl, rfl⟩
/-- Take's error and its number of bytes. -/
def tkE (l at' : Nat) (n : Int) : Nat := if n < 0 then 2 else if (l : Int) - at' < n then 3 else 0
def tkN (l at' : Nat) (n : Int) : Nat := if tkE l at' n = 0 then n.toNat else 0
def tkA (l at' : Nat) (n : Int) : Nat := if tkE l at' n = 0 then at' + n.toNat else 0
theorem nil_sub {a : Option Addr} {l h cap : Nat} (hz : a = none → cap = 0) : ∀ k c, sliced a l h cap 1 = .slice none k c → c = 0 := by
  intro k c e
  unfold sliced at e
  injection e with e1 _ e3
  cases a with
  | none => rw [hz rfl] at e3; omega
  | some x =>
    by_cases q : cap = l
    · rw [q] at e1; simp at e1
    · simp [q] at e1
theorem rtake_any (p : Nat → Nat) (l at' : Nat) (n : Int) (v : Value) (V : World) (hv : SliceN V v l p) (hz : ∀ l c, v = .slice none l c → c = 0) (hb : l ≤ 140737488351232) (hat : at' ≤ l) :
    Calls Try.prog 14 #[v, .int .i64 (at' : Int), .int .i64 n] V fun e w' => ∃ r, e = .returned (.tuple #[r, .int .i64 (tkA l at' n : Nat), .int .i64 (tkE l at' n : Nat)]) ∧ w'.ownsRow V.heap.size 5 1 r (tkN l at' n) (bytesL (tkN l at' n) fun j => p (at' + j)) ∧ Below V.heap.size V w' := by
  obtain ⟨a, cap, rfl, hcap, hcap2, _⟩ := id hv.shape
  by_cases h1 : n < 0
  · have E : tkE l at' n = 2 := if_pos h1
    have E2 : tkN l at' n = 0 := by unfold tkN; rw [E]; rfl
    have E3 : tkA l at' n = 0 := by unfold tkA; rw [E]; rfl
    rw [E, E2, E3]
    clear E E2 E3 hv hz hb hat hcap hcap2
    go_enter Try.func14, Try.ntmps14
    go_wp2
    refine bodyPost_ret (results_tmp3 rfl _ _ _) rfl ⟨_, rfl, World.ownsRow_nil _ _ _ _, Below.refl _ _⟩
  · have i1 : ¬ n < 0 := h1
    have w1 : IntKind.i64.wrap ((l : Int) - at') = (l : Int) - at' := by simp [IntKind.wrap, IntKind.bits, IntKind.signed]; omega
    by_cases h2 : (l : Int) - at' < n
    · have E : tkE l at' n = 3 := by unfold tkE; rw [if_neg h1, if_pos h2]
      have E2 : tkN l at' n = 0 := by unfold tkN; rw [E]; rfl
      have E3 : tkA l at' n = 0 := by unfold tkA; rw [E]; rfl
      rw [E, E2, E3]
      have i2 : n > (l : Int) - at' := h2
      clear E E2 E3 hv hz hb hat hcap hcap2 h1
      go_enter Try.func14, Try.ntmps14
      go_wp2
      refine bodyPost_ret (results_tmp3 rfl _ _ _) rfl ⟨_, rfl, World.ownsRow_nil _ _ _ _, Below.refl _ _⟩
    · have E : tkE l at' n = 0 := by unfold tkE; rw [if_neg h1, if_neg h2]
      obtain ⟨m, rfl⟩ : ∃ m : Nat, n = m := ⟨n.toNat, by omega⟩
      have E2 : tkN l at' (m : Int) = m := by unfold tkN; rw [E, if_pos rfl]; simp
      have E3 : tkA l at' (m : Int) = at' + m := by unfold tkA; rw [E, if_pos rfl]; simp
      rw [E, E2, E3]
      have i2 : ¬ (m : Int) > (l : Int) - at' := h2
      have w2 : IntKind.i64.wrap ((at' : Int) + m) = ((at' + m : Nat) : Int) := by simp [IntKind.wrap, IntKind.bits, IntKind.signed]; omega
      have SL := By8.slice_lh a l cap at' (at' + m) (by omega) (by omega)
      have HS : Hid (SliceN V (sliced a at' (at' + m) cap 1) m (fun j => p (at' + (0 + j)))) := by
        have := hv.sub at' (at' + m) (by omega) (by omega)
        rw [Nat.add_sub_cancel_left] at this
        exact sliceN_cg this fun j _ => by rw [Nat.zero_add]
      have HZ : Hid (∀ k c, sliced a at' (at' + m) cap 1 = .slice none k c → c = 0) := nil_sub fun e => hz l cap (by rw [e])
      have HM : Hid (m ≤ 140737488351232) := by show m ≤ _; omega
      clear E E2 E3 hv hz hb hat hcap hcap2 h1 h2
      go_enter Try.func14, Try.ntmps14
      go_wp2_with (first
        | (refine wpList_ex rfl (By8.execSlLH (v := .slice a l cap) (vl := .int .i64 (at' : Int)) (vh := .int .i64 ((at' + m : Nat) : Int)) rfl rfl rfl rfl (SL _)) ?_)
        | (refine atAppB (.tmp 18) (.tmp 24) rfl ?_; go_must (refine wpList_appS (B := V.heap.size) (n := 0) (m := m) (p := fun j => p (at' + j)) rfl (.tmp 18) (.tmp 24) rfl rfl rfl (World.ownsRow_nil _ _ _ _) HS.out HZ.out (by have := HM.out; omega) (Nat.le_refl _) ?_; intro u1 W1 own1 gr1; have b1 : Below V.heap.size V W1 := below_grown (Below.refl _ _) (Nat.le_refl _) (World.ownsRow_nil V V.heap.size 5 1) gr1; rw [Nat.zero_add] at own1; clear gr1)))
      all_goals refine bodyPost_ret (results_tmp3 rfl _ _ _) rfl ⟨_, rfl, own1, b1⟩
end Go.Proofs.Ytigkmgoidbamnaa.Tap
