import Derived.Test.YtedjoakpbknflaaDoorF4
namespace Go.Proofs.YtedjoakpbknflaaDoor
open Go.RowKit

theorem sch1_congr {b b' : Nat → Int} : ∀ k, (∀ i, i < k → b i = b' i) → sch1 b k = sch1 b' k
  | 0, _ => rfl
  | k + 1, h => by simp only [sch1]; rw [sch1_congr k (fun i hi => h i (by omega)), h k (by omega)]
theorem sched_congr {b b' : Nat → Int} (h : ∀ i, i < 64 → b i = b' i) : sched b = sched b' := by
  unfold sched; rw [sch1_congr 64 h]
theorem hW_mod (i : Nat) : hW i % 4294967296 = hW i := by
  by_cases h : i < 8
  · have : ∀ j : Fin 8, hW j.val % 4294967296 = hW j.val := by decide +kernel
    exact this ⟨i, h⟩
  · have : hW i = 0 := by
      unfold hW
      rw [List.getD_eq_getElem?_getD, List.getElem?_eq_none (by simp [hList]; omega)]
      rfl
    rw [this]; rfl
theorem stW_wkG (g r : Nat → Int) : stW (wkG g r) = fun i => (stW g i + iterR kW (sched r) (stW g) 64 i) % 4294967296 := by
  funext i
  show (hW i + (g i + iterR kW (sched r) (stW g) 64 i) % 4294967296) % 4294967296 = ((hW i + g i) % 4294967296 + iterR kW (sched r) (stW g) 64 i) % 4294967296
  generalize iterR kW (sched r) (stW g) 64 i = x
  omega
theorem overlay_full (r q : Nat → Int) (i : Nat) (hi : i < 64) : overlay r 0 64 q i = q i := by
  simp [overlay, hi]
/-- Behind whole blocks. -/
theorem blocks (p P : Nat → Int) : ∀ j, (∀ i, i < 64 * j → P i = p i) → stW (addN HS.new p (64 * j)).g = rst P j ∧ (addN HS.new p (64 * j)).r = fun _ => 0
  | 0, _ => ⟨by
      funext i
      show (hW i + 0) % 4294967296 = hW i
      rw [Int.add_zero, hW_mod], rfl⟩
  | j + 1, h => by
    obtain ⟨h1, h2⟩ := blocks p P j (fun i hi => h i (by omega))
    have hn : (addN HS.new p (64 * j)).n % 64 = 0 := by rw [addN_n]; simp [HS.new]
    have hf := addN_full (addN HS.new p (64 * j)) (fun i => p (64 * j + i)) 64 (by omega) (by omega)
    rw [show 64 * (j + 1) = 64 * j + 64 by omega, addN_add, hf]
    refine ⟨?_, rfl⟩
    simp only
    rw [stW_wkG, h1, rst_succ, hn]
    have e : sched (overlay (addN HS.new p (64 * j)).r 0 64 fun i => p (64 * j + i)) = sched fun b => P (64 * j + b) := sched_congr fun i hi => by
      rw [overlay_full _ _ _ hi, h (64 * j + i) (by omega)]
    rw [e]
theorem padF_get (p : Nat → Int) (len z i : Nat) : padF p len z i = if i < len then p i else if i = len then 128 else if i < len + 1 + z then 0 else if i < len + 1 + z + 8 then lenB len (i - (len + 1 + z)) else 0 := by
  unfold padF padL firstL
  rw [List.getD_eq_getElem?_getD]
  by_cases h1 : i < len
  · rw [if_pos h1, List.append_assoc, List.append_assoc, List.getElem?_append_left (by simpa using h1)]
    simp [h1]
  · rw [if_neg h1, List.append_assoc, List.append_assoc, List.getElem?_append_right (by simp; omega)]
    simp only [List.length_map, List.length_range]
    by_cases h2 : i = len
    · rw [if_pos h2]; subst h2; simp
    · rw [if_neg h2, List.getElem?_append_right (by simp; omega)]
      simp only [List.length_singleton]
      by_cases h3 : i < len + 1 + z
      · rw [if_pos h3, List.getElem?_append_left (by simp; omega)]
        simp [show i - len - 1 < z by omega]
      · rw [if_neg h3, List.getElem?_append_right (by simp; omega)]
        simp only [List.length_replicate]
        by_cases h4 : i < len + 1 + z + 8
        · rw [if_pos h4]
          rw [show i - len - 1 - z = i - (len + 1 + z) by omega]
          simp [show i - (len + 1 + z) < 8 by omega]
        · rw [if_neg h4]
          simp [show ¬ i - len - 1 - z < 8 by omega]

/-- THE DIGEST IS THE REFERENCE's. -/
theorem rst_sum (p : Nat → Int) (len z : Nat) (hz : z < 64) (hz2 : (len + 1 + z) % 64 = 56) : digB (rst (padF p len z) ((len + 1 + z + 8) / 64)) = sumD (addN HS.new p len) := by
  obtain ⟨q, r, hlen, hr⟩ : ∃ q r, len = 64 * q + r ∧ r < 64 := ⟨len / 64, len % 64, by omega, by omega⟩
  have hP := padF_get p len z
  obtain ⟨b1, b2⟩ := blocks p (padF p len z) q (fun i hi => by rw [hP, if_pos (by omega)])
  have hn0 : (addN HS.new p (64 * q)).n % 64 = 0 := by rw [addN_n]; simp [HS.new]
  have ht : addN HS.new p len = ⟨(addN HS.new p (64 * q)).g, overlay (addN HS.new p (64 * q)).r 0 r (fun i => p (64 * q + i)), (addN HS.new p (64 * q)).n + r⟩ := by
    have h := addN_part (addN HS.new p (64 * q)) (fun i => p (64 * q + i)) r (by omega)
    rw [hn0] at h
    rw [← h, ← addN_add, ← hlen]
  have hn : (addN HS.new p (64 * q)).n + r = len := by rw [addN_n]; simp [HS.new]; omega
  rw [hn, b2] at ht
  obtain ⟨g, hg⟩ : ∃ g, g = (addN HS.new p (64 * q)).g := ⟨_, rfl⟩
  rw [← hg] at ht b1
  rw [ht]
  unfold sumD
  congr 1
  simp only
  unfold padG
  have hm : len % 64 = r := by omega
  by_cases h56 : r < 56
  · have hT : (len + 1 + z + 8) / 64 = q + 1 := by omega
    have hpg : pg g (overlay (fun _ => 0) 0 r fun i => p (64 * q + i)) len = g := by unfold pg; rw [if_pos (by omega)]
    rw [hT, rst_succ, hpg, stW_wkG, b1]
    have e : (sched fun b => padF p len z (64 * q + b)) = sched (lenR (pr (overlay (fun _ => 0) 0 r fun i => p (64 * q + i)) len) len 8) := sched_congr fun i hi => by
      rw [hP]
      unfold lenR pr padR upd overlay
      rw [if_pos (show len % 64 < 56 by omega), hm]
      by_cases c1 : i < r
      · rw [if_pos (by omega), if_neg (by omega)]
        simp only
        rw [if_neg (by omega), if_pos (by omega), Nat.sub_zero]
      · by_cases c2 : i = r
        · rw [if_neg (by omega), if_pos (by omega), if_neg (by omega)]
          simp only
          rw [if_pos c2]
        · by_cases c3 : i < 56
          · rw [if_neg (by omega), if_neg (by omega), if_pos (by omega), if_neg (by omega)]
            simp only
            rw [if_neg c2, if_neg (by omega)]
          · rw [if_neg (by omega), if_neg (by omega), if_neg (by omega), if_pos (by omega), if_pos (by omega), show 64 * q + i - (len + 1 + z) = i - 56 by omega]
    rw [e]
  · have hT : (len + 1 + z + 8) / 64 = q + 1 + 1 := by omega
    have hpg : pg g (overlay (fun _ => 0) 0 r fun i => p (64 * q + i)) len = wkG g (padR (overlay (fun _ => 0) 0 r fun i => p (64 * q + i)) len) := by unfold pg; rw [if_neg (by omega)]
    have e1 : (sched fun b => padF p len z (64 * q + b)) = sched (padR (overlay (fun _ => 0) 0 r fun i => p (64 * q + i)) len) := sched_congr fun i hi => by
      rw [hP]
      unfold padR upd overlay
      rw [hm]
      by_cases c1 : i < r
      · rw [if_pos (by omega), if_neg (by omega), if_pos (by omega), Nat.sub_zero]
      · by_cases c2 : i = r
        · rw [if_neg (by omega), if_pos (by omega), if_pos c2]
        · rw [if_neg (by omega), if_neg (by omega), if_pos (by omega), if_neg c2, if_neg (by omega)]
    have e2 : (sched fun b => padF p len z (64 * (q + 1) + b)) = sched (lenR (pr (overlay (fun _ => 0) 0 r fun i => p (64 * q + i)) len) len 8) := sched_congr fun i hi => by
      rw [hP]
      unfold lenR pr
      rw [if_neg (show ¬ len % 64 < 56 by omega)]
      by_cases c3 : i < 56
      · rw [if_neg (by omega), if_neg (by omega), if_pos (by omega), if_neg (by omega)]
      · rw [if_neg (by omega), if_neg (by omega), if_neg (by omega), if_pos (by omega), if_pos (by omega), show 64 * (q + 1) + i - (len + 1 + z) = i - 56 by omega]
    rw [hT, rst_succ, rst_succ, hpg, stW_wkG, stW_wkG, b1, e1, e2]

/-- THE REFERENCE's SUM, by the program's own functions. -/
theorem rsum_is (v : Value) (len : Nat) (p : Nat → Int) (w : World) (hbig : len + 200 ≤ 200000000000000) (hv : SliceB w v len p) (hnil : ∀ cap, v = .slice none len cap → cap = 0) :
    Calls Tryd.prog 14 #[v] w fun e w' => e = .returned (.agg (tab8 32 (sumD (addN HS.new p len)))) ∧ Below w.heap.size w w' :=
  (rsum_any v len p w hbig hv hnil).mono fun e w' ⟨z, h1, h2, he, hb⟩ => by
    rw [rst_sum p len z h1 h2] at he
    exact ⟨he, hb⟩
end Go.Proofs.YtedjoakpbknflaaDoor
