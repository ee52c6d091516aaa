import Derived.Test.YtijibdapooalcabC9y
import Derived.Test.YtijibdapooalcabRows
namespace Go.Proofs.Ytijibdapooalcab.Win
open Go.ChangeShapes Go.WideShapes Go.ChangeAt Go.RowKit Gf8 Aes By8 Cel Cf
/- A Job as an argument whose bulk is small. -/

set_option maxRecDepth 100000

theorem bulk_pos {H : Type} : ∀ d : DataW H, 1 ≤ Rows.uptoBulk d := fun d => by
  cases d with
  | lit l => cases l <;> simp [Rows.uptoBulk]
  | _ => simp [Rows.uptoBulk]
theorem bulk_len {H : Type} : ∀ ds : List (DataW H), ds.length ≤ Rows.uptoBulkAll ds
  | [] => Nat.le_refl _
  | d :: r => by
    have h1 := bulk_pos d
    have h2 := bulk_len r
    simp only [Rows.uptoBulkAll, List.length_cons]
    omega
theorem bulk_mem {H : Type} {d : DataW H} : ∀ {ds : List (DataW H)}, d ∈ ds → Rows.uptoBulk d ≤ Rows.uptoBulkAll ds
  | [], h => by cases h
  | x :: r, h => by
    simp only [Rows.uptoBulkAll]
    rcases List.mem_cons.1 h with q | q
    · rw [q]; omega
    · have := bulk_mem q; omega
theorem tags_bulkJ {H : Type} {enc : TypeId × Value → H} {W : World} {v : Value} {y : DataW H × List MemPlace} {fuel : Nat} (h : DataW.trod enc Try.prog W 0 (fun _ => true) true fuel 25 [v] = some y)
    (hd : Rows.uptoBulk y.1 ≤ 1048576) : ∃ n t, Tgs W v n t ∧ n ≤ Rows.uptoBulk y.1 := by
  rcases Deep.open_slice Try.underlying25 h with ⟨hcs, _⟩ | ⟨a, len, cap, m, fu, D, Pl, hcs, _, hl, hm, hmm, hx, hel⟩
  · obtain rfl : v = .slice none 0 0 := by simpa using hcs
    exact ⟨0, fun _ _ => 0, ⟨⟨_, _, rfl, Nat.le_refl _, by omega, fun h => absurd h (Nat.lt_irrefl _)⟩, fun j hj => absurd hj (Nat.not_lt_zero j), fun l c e => by injection e with _ _ e3; exact e3.symm⟩, Nat.zero_le _⟩
  · obtain rfl : v = .slice (some a) len cap := by simpa using hcs
    subst hx
    simp only [if_true] at hmm
    have hlb := bulk_len ((List.range len).map D)
    rw [List.length_map, List.length_range] at hlb
    have hdd : Rows.uptoBulkAll ((List.range len).map D) ≤ 1048576 := by
      simp only [Rows.uptoBulk] at hd
      omega
    have each : ∀ i, i < len → ∃ f : Nat → Nat, (∀ j, j < 16 → f j < 256) ∧ ∀ j, j < 16 → W.cell? (a.add (i * 16 + j)) = some (.int .u8 (f j)) := by
      intro i hi
      obtain ⟨cs', h1, h2⟩ := hel i (by omega)
      rw [cs16] at h1
      obtain ⟨_, hlen, hcell⟩ := World.cells?_some h1
      obtain ⟨f, hf, hc⟩ := cells16 Try.underlying36 Try.underlying5 (by kernel_rfl) (by kernel_rfl) (n := 16) hlen h2
      refine ⟨f, hf, fun j hj => ?_⟩
      have e0 := hcell j (by omega)
      rw [Deep.add_add] at e0
      rw [e0, hc j hj]
    obtain ⟨q, hq⟩ := Deep.choose_lt each
    have hmax : maxLen < 9223372036854775808 := by decide
    refine ⟨len, q, ⟨⟨_, _, rfl, by omega, by omega, fun hp => ?_⟩, fun i hi => (hq i hi).1, fun l c e => by cases e⟩, by show len ≤ Rows.uptoBulk (.slice _ _); simp only [Rows.uptoBulk]; omega⟩
    obtain ⟨b, off, spot⟩ := a
    have hc0 := (hq 0 hp).2 0 (by omega)
    have hspot : spot = none := by simpa [Addr.add] using World.cell?_spot hc0
    subst hspot
    refine ⟨b, off, rfl, World.block_lt_of_cell? W _ hc0, fun i hi j hj => ?_⟩
    have h1 := (hq i hi).2 j hj
    rw [Go.WideShapes.add_plain, ← Nat.add_assoc] at h1
    exact h1
theorem eps_bulkJ {H : Type} {enc : TypeId × Value → H} {W : World} {v : Value} {y : DataW H × List MemPlace} {fuel : Nat} (h : DataW.trod enc Try.prog W 0 (fun _ => true) true fuel 22 [v] = some y)
    (hd : Rows.uptoBulk y.1 ≤ 1048576) : ∃ n nu tw ln t, Eps W v n nu tw ln t ∧ n * 32 ≤ 140737488351232 ∧ ∀ j, j < n → ln j * 16 ≤ 140737488351232 := by
  rcases Deep.open_slice Try.underlying22 h with ⟨hcs, _⟩ | ⟨a, len, cap, m, fu, D, Pl, hcs, _, hl, hm, hmm, hx, hel⟩
  · obtain rfl : v = .slice none 0 0 := by simpa using hcs
    exact ⟨0, fun _ => 0, fun _ => undef, fun _ => 0, fun _ _ _ => 0, ⟨⟨_, _, rfl, Nat.le_refl _, by omega, fun h => absurd h (Nat.lt_irrefl _)⟩, fun j hj => absurd hj (Nat.not_lt_zero j), fun j hj => absurd hj (Nat.not_lt_zero j)⟩, by omega, fun j hj => absurd hj (Nat.not_lt_zero j)⟩
  · obtain rfl : v = .slice (some a) len cap := by simpa using hcs
    subst hx
    simp only [if_true] at hmm
    have hlb := bulk_len ((List.range len).map D)
    rw [List.length_map, List.length_range] at hlb
    have hdd : Rows.uptoBulkAll ((List.range len).map D) ≤ 1048576 := by
      simp only [Rows.uptoBulk] at hd
      omega
    have each : ∀ i, i < len → ∃ q : Int × Value × Nat × (Nat → Nat → Nat), W.cell? (a.add (i * 2 + 0)) = some (.int .i64 q.1) ∧ W.cell? (a.add (i * 2 + 1)) = some q.2.1 ∧ Tgs W q.2.1 q.2.2.1 q.2.2.2 ∧ q.2.2.1 * 16 ≤ 140737488351232 ∧ I64 q.1 := by
      intro i hi
      obtain ⟨cs', h1, h2⟩ := hel i (by omega)
      rw [csEp] at h1
      obtain ⟨_, hlen, hcell⟩ := World.cells?_some h1
      obtain ⟨y0, y1, k, hy, _, t0, t1⟩ := trod_two Try.underlying47 h2
      match cs', hlen with
      | [v0, v1], _ =>
        have e0 := hcell 0 (by omega)
        have e1 := hcell 1 (by omega)
        rw [Deep.add_add] at e0 e1
        simp [cs2, csTs] at t0 t1 e0 e1
        obtain ⟨z, ez, _, wz⟩ := DataW.trod_int Try.underlying2 t0
        have ez' : v0 = .int .i64 z := by simpa using ez
        subst ez'
        have hD : D i = .agg [y0.1, y1.1] := hy
        have hm1 := bulk_mem (d := D i) (List.mem_map.2 ⟨i, List.mem_range.2 hi, rfl⟩)
        have hm2 : Rows.uptoBulk y1.1 ≤ Rows.uptoBulk (D i) := by
          rw [hD]
          simp only [Rows.uptoBulk, Rows.uptoBulkAll]
          omega
        obtain ⟨l, f, s, b⟩ := tags_bulkJ t1 (by omega)
        exact ⟨(z, v1, l, f), by simpa using e0, by simpa using e1, s, by show l * 16 ≤ _; omega, wf_i64 wz⟩
    obtain ⟨q, hq⟩ := Deep.choose_lt each
    have hmax : maxLen < 9223372036854775808 := by decide
    refine ⟨len, fun i => (q i).1, fun i => (q i).2.1, fun i => (q i).2.2.1, fun i => (q i).2.2.2, ⟨⟨_, _, rfl, by omega, by omega, fun hp => ?_⟩, fun i hi => (hq i hi).2.2.1, fun i hi => (hq i hi).2.2.2.2⟩, by omega, fun i hi => (hq i hi).2.2.2.1⟩
    obtain ⟨b, off, spot⟩ := a
    have hc0 := (hq 0 hp).1
    have hspot : spot = none := by simpa [Addr.add] using World.cell?_spot hc0
    subst hspot
    refine ⟨b, off, rfl, World.block_lt_of_cell? W _ hc0, fun i hi => ?_⟩
    have h1 := (hq i hi).1
    have h2 := (hq i hi).2.1
    rw [Go.WideShapes.add_plain, ← Nat.add_assoc] at h1 h2
    exact ⟨h1, h2⟩
theorem win_bulkJ {H : Type} {enc : TypeId × Value → H} {W : World} {v0 v1 : Value} {y : DataW H × List MemPlace} {fuel : Nat} (h : DataW.trod enc Try.prog W 0 (fun _ => true) true fuel 24 [v0, v1] = some y)
    (hd : Rows.uptoBulk y.1 ≤ 1048576) : ∃ nw n nu tw ln t, v0 = .int .i64 nw ∧ Wd W nw v1 n nu tw ln t := by
  obtain ⟨y0, y1, k, hy, _, t0, t1⟩ := trod_two Try.underlying24 h
  simp [cs2, csEs] at t0 t1
  obtain ⟨z, ez, _, wz⟩ := DataW.trod_int Try.underlying2 t0
  have ez' : v0 = .int .i64 z := by simpa using ez
  subst ez'
  have hD : y.1 = .agg [y0.1, y1.1] := hy
  have hm2 : Rows.uptoBulk y1.1 ≤ Rows.uptoBulk y.1 := by
    rw [hD]
    simp only [Rows.uptoBulk, Rows.uptoBulkAll]
    omega
  obtain ⟨n, nu, tw, ln, t, q1, q2, q3⟩ := eps_bulkJ t1 (by omega)
  exact ⟨z, n, nu, tw, ln, t, rfl, q1, q2, q3, wf_i64 wz⟩
theorem job_bulk {H : Type} {enc : TypeId × Value → H} {W : World} {v : Value} {d : DataW H} {p : List MemPlace} (h : ∃ fuel, DataW.trod enc Try.prog W 0 (fun _ => true) true fuel 27 v.cells.toList = some (d, p))
    (hd : Rows.uptoBulk d ≤ 1048576) (hs : ∃ xs, v = .agg xs) : ∃ nw ev n nu tw ln tt sp rm ep u m tg v2 k mr, v = .agg (jbC nw ev sp rm ep u v2) ∧ Wd W nw ev n nu tw ln tt ∧ I64 sp ∧ I64 rm ∧ I64 ep ∧ Tgs W u m tg ∧ Tgs W v2 k mr ∧ m + k ≤ 1048576 := by
  obtain ⟨xs, rfl⟩ := hs
  obtain ⟨fuel, hf⟩ := h
  obtain ⟨y0, y1, y2, y3, y4, y5, k, hD, hl, t0, t1, t2, t3, t4, t5⟩ := trod_job Try.underlying27 hf
  rw [cs_job] at hl
  have hl2 : xs.toList.length = 7 := hl
  obtain ⟨l⟩ := xs
  match l, hl2 with
  | [v0, v1, v2, v3, v4, v5, v6], _ =>
    have hc : (Value.agg ⟨[v0, v1, v2, v3, v4, v5, v6]⟩).cells.toList = [v0, v1, v2, v3, v4, v5, v6] := rfl
    rw [hc] at t0 t1 t2 t3 t4 t5
    simp [cs2, cs3, csTs, csWn] at t0 t1 t2 t3 t4 t5
    have hD2 : d = .agg [y0.1, y1.1, y2.1, y3.1, y4.1, y5.1] := hD
    have hsum : Rows.uptoBulk y0.1 + Rows.uptoBulk y4.1 + Rows.uptoBulk y5.1 ≤ Rows.uptoBulk d := by
      rw [hD2]
      simp only [Rows.uptoBulk, Rows.uptoBulkAll]
      omega
    obtain ⟨nw, n, nu, tw, ln, tt, rfl, hW⟩ := win_bulkJ t0 (by omega)
    obtain ⟨a1, e1, _, w1⟩ := DataW.trod_int Try.underlying3 t1
    have e1 : v2 = .int .i64 a1 := by simpa using e1
    subst e1
    obtain ⟨a2, e2, _, w2⟩ := DataW.trod_int Try.underlying3 t2
    have e2 : v3 = .int .i64 a2 := by simpa using e2
    subst e2
    obtain ⟨a3, e3, _, w3⟩ := DataW.trod_int Try.underlying2 t3
    have e3 : v4 = .int .i64 a3 := by simpa using e3
    subst e3
    obtain ⟨m4, f4, s4, b4⟩ := tags_bulkJ t4 (by omega)
    obtain ⟨m5, f5, s5, b5⟩ := tags_bulkJ t5 (by omega)
    exact ⟨nw, v1, n, nu, tw, ln, tt, a1, a2, a3, v5, m4, f4, v6, m5, f5, rfl, hW, wf_i64 w1, wf_i64 w2, wf_i64 w3, s4, s5, by omega⟩
end Go.Proofs.Ytijibdapooalcab.Win
