import Derived.Test.YtepdejnholphcaaGreatC9t
import Derived.Test.YtepdejnholphcaaGreatY2
import Derived.Test.YtepdejnholphcaaGreatX2
import Derived.Lib.SmallJoins
import Derived.Deep.Slices
import Derived.Deep.SlicePairs
namespace Go.Proofs.YtepdejnholphcaaGreat.Win
open Go.ChangeShapes Go.WideShapes Go.ChangeAt Go.RowKit Gf8 Aes By8 Cel Cf
/- A list of tags, a window, a Look, a Job, a script as an argument. -/

set_option maxRecDepth 100000

section
variable {H : Type} {enc : TypeId × Value → H} {P : Program} {k e : TypeId} {n : Nat} {W : World} {base : Nat} {sp : Nat → Bool} {held : Bool}
/-- The cells of an array of bytes that reads. -/
theorem cells16 (hu : P.underlying k = some (.array n e)) (he : P.underlying e = some (.int .u8)) (one : P.cellsOf e = 1) (size : P.cellsOf k = n) {fuel : Nat} {cs : List Value} {x : DataW H × List MemPlace}
    (hl : cs.length = n) (hf : DataW.trod enc P W base sp held fuel k cs = some x) : ∃ f : Nat → Nat, (∀ i, i < n → f i < 256) ∧ ∀ i, i < n → cs[i]? = some (.int .u8 (f i)) := by
  cases fuel with
  | zero => simp [DataW.trod] at hf
  | succ m =>
    rw [DataW.trod_step] at hf
    unfold DataW.trodStep at hf
    simp only [hu] at hf
    rw [if_pos (by rw [size]; exact hl)] at hf
    simp only [Option.map_eq_some_iff, one] at hf
    obtain ⟨ys, hy, e1⟩ := hf
    obtain ⟨f, hfd⟩ : ∃ f : Nat → Nat, ∀ i a, cs[i]? = some (.int .u8 a) → f i = a.toNat :=
      ⟨fun i => match cs[i]? with | some (.int .u8 a) => a.toNat | _ => 0, fun i a h => by simp only [h]⟩
    have key : ∀ i, i ∈ List.range n → ∀ y, DataW.trod enc P W base sp held m e ((cs.drop (i * 1)).take 1) = some y → y = (.lit (.int .u8 (f i)), []) ∧ cs[i]? = some (.int .u8 (f i)) ∧ f i < 256 := by
      intro i _ y hy
      obtain ⟨a, ea, rfl, wa⟩ := DataW.trod_int he hy
      have h1 := one_at _ ea
      have h2 := hfd i a h1
      have h3 := wfB.1 wa
      have h4 : (f i : Int) = a := by rw [h2]; omega
      rw [h4]
      exact ⟨rfl, h1, by omega⟩
    obtain ⟨r1, r2⟩ := mapM_back (h := fun i => ((.lit (.int .u8 (f i)), []) : DataW H × List MemPlace)) _ ys hy fun i hi y h => (key i hi y h).1
    have r3 : ∀ i, i < n → cs[i]? = some (.int .u8 (f i)) ∧ f i < 256 := fun i hi => (key i (List.mem_range.2 hi) _ (r2 i (List.mem_range.2 hi))).2
    exact ⟨f, fun i hi => (r3 i hi).2, fun i hi => (r3 i hi).1⟩
end
theorem cs16 : Tryz.prog.cellsOf 66 = 16 := by kernel_rfl
theorem by16 : Tryz.prog.bytesOf 66 = 16 := by kernel_rfl
theorem csEp : Tryz.prog.cellsOf 57 = 2 := by kernel_rfl
theorem byEp : Tryz.prog.bytesOf 57 = 32 := by kernel_rfl
theorem csTs : Tryz.prog.cellsOf 55 = 1 := by kernel_rfl
theorem csEs : Tryz.prog.cellsOf 25 = 1 := by kernel_rfl
theorem cs2 : Tryz.prog.cellsOf 2 = 1 := by kernel_rfl
theorem weightsAll_in {H : Type} {P : Program} {e : TypeId} : ∀ {ds : List (DataW H)} {d : DataW H}, d ∈ ds → ∀ n ∈ d.weights P e, n ∈ DataW.weightsAll P e ds
  | d0 :: ds, d, hd, n, hn => by
    simp only [DataW.weightsAll, List.mem_append]
    rcases List.mem_cons.1 hd with rfl | h
    · exact Or.inl hn
    · exact Or.inr (weightsAll_in h n hn)
  | [], _, hd, _, _ => by cases hd
theorem trod_two {H : Type} {enc : TypeId × Value → H} {P : Program} {w : World} {base : Nat} {spare : Nat → Bool} {held : Bool} {t : TypeId} {f0 f1 : Field} {fuel : Nat} {cs : List Value} {x : DataW H × List MemPlace} (ht : P.underlying t = some (.struct #[f0, f1])) (h : DataW.trod enc P w base spare held fuel t cs = some x) :
    ∃ y0 y1 n, x.1 = .agg [y0.1, y1.1] ∧ cs.length = P.cellsOf t ∧ DataW.trod enc P w base spare held n f0.type ((cs.drop f0.offset).take (P.cellsOf f0.type)) = some y0 ∧ DataW.trod enc P w base spare held n f1.type ((cs.drop f1.offset).take (P.cellsOf f1.type)) = some y1 := by
  obtain ⟨xs, n, _, rfl, hl, hlen, hf⟩ := DataW.trod_struct ht h
  match xs, hlen with
  | [y0, y1], _ => exact ⟨y0, y1, n, by simp, hl, by simpa using hf 0 f0 rfl, by simpa using hf 1 f1 rfl⟩
/-- A list of tags that reads is one. -/
theorem tags_readJ {H : Type} {enc : TypeId × Value → H} {W : World} {v : Value} {y : DataW H × List MemPlace} {fuel : Nat} (h : DataW.trod enc Tryz.prog W 0 (fun _ => true) true fuel 55 [v] = some y)
    (hw : ∀ n ∈ y.1.weights Tryz.prog 55, n ≤ reachBytes) : ∃ n t, Tgs W v n t ∧ n * 16 ≤ 140737488351232 := by
  have hr : reachBytes = 140737488351232 := rfl
  rcases Deep.open_slice Tryz.underlying55 h with ⟨hcs, _⟩ | ⟨a, len, cap, m, fu, D, Pl, hcs, _, hl, hm, hmm, hx, hel⟩
  · obtain rfl : v = .slice none 0 0 := by simpa using hcs
    exact ⟨0, fun _ _ => 0, ⟨⟨_, _, rfl, Nat.le_refl _, by omega, fun h => absurd h (Nat.lt_irrefl _)⟩, fun j hj => absurd hj (Nat.not_lt_zero j), fun l c e => by injection e with _ _ e3; exact e3.symm⟩, by omega⟩
  · obtain rfl : v = .slice (some a) len cap := by simpa using hcs
    subst hx
    simp only [if_true] at hmm
    have hn : (len + (m - len)) * 16 ≤ reachBytes := by
      refine hw _ ?_
      simp only [DataW.weights, Tryz.underlying55, by16]
      exact List.mem_cons.2 (Or.inl (by simp))
    have each : ∀ i, i < len → ∃ f : Nat → Nat, (∀ j, j < 16 → f j < 256) ∧ ∀ j, j < 16 → W.cell? (a.add (i * 16 + j)) = some (.int .u8 (f j)) := by
      intro i hi
      obtain ⟨cs', h1, h2⟩ := hel i (by omega)
      rw [cs16] at h1
      obtain ⟨_, hlen, hcell⟩ := World.cells?_some h1
      obtain ⟨f, hf, hc⟩ := cells16 Tryz.underlying66 Tryz.underlying5 (by kernel_rfl) (by kernel_rfl) (n := 16) hlen h2
      refine ⟨f, hf, fun j hj => ?_⟩
      have e0 := hcell j (by omega)
      rw [Deep.add_add] at e0
      rw [e0, hc j hj]
    obtain ⟨q, hq⟩ := Deep.choose_lt each
    have hmax : maxLen < 9223372036854775808 := by decide
    refine ⟨len, q, ⟨⟨_, _, rfl, by omega, by omega, fun hp => ?_⟩, fun i hi => (hq i hi).1, fun l c e => by cases e⟩, by omega⟩
    obtain ⟨b, off, spot⟩ := a
    have hc0 := (hq 0 hp).2 0 (by omega)
    have hspot : spot = none := by simpa [Addr.add] using World.cell?_spot hc0
    subst hspot
    refine ⟨b, off, rfl, World.block_lt_of_cell? W _ hc0, fun i hi j hj => ?_⟩
    have h1 := (hq i hi).2 j hj
    rw [Go.WideShapes.add_plain, ← Nat.add_assoc] at h1
    exact h1
/-- A list of epochs that reads is one. -/
theorem eps_readJ {H : Type} {enc : TypeId × Value → H} {W : World} {v : Value} {y : DataW H × List MemPlace} {fuel : Nat} (h : DataW.trod enc Tryz.prog W 0 (fun _ => true) true fuel 25 [v] = some y)
    (hw : ∀ n ∈ y.1.weights Tryz.prog 25, n ≤ reachBytes) : ∃ n nu tw ln t, Eps W v n nu tw ln t ∧ n * 32 ≤ 140737488351232 ∧ ∀ j, j < n → ln j * 16 ≤ 140737488351232 := by
  have hr : reachBytes = 140737488351232 := rfl
  rcases Deep.open_slice Tryz.underlying25 h with ⟨hcs, _⟩ | ⟨a, len, cap, m, fu, D, Pl, hcs, _, hl, hm, hmm, hx, hel⟩
  · obtain rfl : v = .slice none 0 0 := by simpa using hcs
    exact ⟨0, fun _ => 0, fun _ => undef, fun _ => 0, fun _ _ _ => 0, ⟨⟨_, _, rfl, Nat.le_refl _, by omega, fun h => absurd h (Nat.lt_irrefl _)⟩, fun j hj => absurd hj (Nat.not_lt_zero j), fun j hj => absurd hj (Nat.not_lt_zero j)⟩, by omega, fun j hj => absurd hj (Nat.not_lt_zero j)⟩
  · obtain rfl : v = .slice (some a) len cap := by simpa using hcs
    subst hx
    simp only [if_true] at hmm
    have hn : (len + (m - len)) * 32 ≤ reachBytes := by
      refine hw _ ?_
      simp only [DataW.weights, Tryz.underlying25, byEp]
      exact List.mem_cons.2 (Or.inl (by simp))
    have each : ∀ i, i < len → ∃ q : Int × Value × Nat × (Nat → Nat → Nat), W.cell? (a.add (i * 2 + 0)) = some (.int .i64 q.1) ∧ W.cell? (a.add (i * 2 + 1)) = some q.2.1 ∧ Tgs W q.2.1 q.2.2.1 q.2.2.2 ∧ q.2.2.1 * 16 ≤ 140737488351232 ∧ I64 q.1 := by
      intro i hi
      obtain ⟨cs', h1, h2⟩ := hel i (by omega)
      rw [csEp] at h1
      obtain ⟨_, hlen, hcell⟩ := World.cells?_some h1
      obtain ⟨y0, y1, k, hy, _, t0, t1⟩ := trod_two Tryz.underlying57 h2
      match cs', hlen with
      | [v0, v1], _ =>
        have e0 := hcell 0 (by omega)
        have e1 := hcell 1 (by omega)
        rw [Deep.add_add] at e0 e1
        simp [cs2, csTs] at t0 t1 e0 e1
        obtain ⟨z, ez, _, wz⟩ := DataW.trod_int Tryz.underlying2 t0
        have ez' : v0 = .int .i64 z := by simpa using ez
        subst ez'
        have hD : D i = .agg [y0.1, y1.1] := hy
        obtain ⟨l, f, s, b⟩ := tags_readJ t1 (fun n hn => hw n (by
          simp only [DataW.weights, Tryz.underlying25]
          refine List.mem_cons_of_mem _ (List.mem_append_left _ (weightsAll_in (d := D i) (List.mem_map.2 ⟨i, List.mem_range.2 hi, rfl⟩) n ?_))
          rw [hD]
          simp only [DataW.weights, Tryz.underlying57]
          simp [DataW.weightsEach, hn]))
        exact ⟨(z, v1, l, f), by simpa using e0, by simpa using e1, s, b, wf_i64 wz⟩
    obtain ⟨q, hq⟩ := Deep.choose_lt each
    have hmax : maxLen < 9223372036854775808 := by decide
    refine ⟨len, fun i => (q i).1, fun i => (q i).2.1, fun i => (q i).2.2.1, fun i => (q i).2.2.2, ⟨⟨_, _, rfl, by omega, by omega, fun hp => ?_⟩, fun i hi => (hq i hi).2.2.1, fun i hi => (hq i hi).2.2.2.2⟩, by omega, fun i hi => (hq i hi).2.2.2.1⟩
    obtain ⟨b, off, spot⟩ := a
    have hc0 := (hq 0 hp).1
    have hspot : spot = none := by simpa [Addr.add] using World.cell?_spot hc0
    subst hspot
    refine ⟨b, off, rfl, World.block_lt_of_cell? W _ hc0, fun i hi => ?_⟩
    have h1 := (hq i hi).1
    have h2 := (hq i hi).2.1
    rw [Go.WideShapes.add_plain, ← Nat.add_assoc] at h1 h2
    exact ⟨h1, h2⟩
/-- A window that reads is one. -/
theorem win_readJ {H : Type} {enc : TypeId × Value → H} {W : World} {v0 v1 : Value} {y : DataW H × List MemPlace} {fuel : Nat} (h : DataW.trod enc Tryz.prog W 0 (fun _ => true) true fuel 27 [v0, v1] = some y)
    (hw : ∀ n ∈ y.1.weights Tryz.prog 27, n ≤ reachBytes) : ∃ nw n nu tw ln t, v0 = .int .i64 nw ∧ Wd W nw v1 n nu tw ln t := by
  obtain ⟨y0, y1, k, hy, _, t0, t1⟩ := trod_two Tryz.underlying27 h
  simp [cs2, csEs] at t0 t1
  obtain ⟨z, ez, _, wz⟩ := DataW.trod_int Tryz.underlying2 t0
  have ez' : v0 = .int .i64 z := by simpa using ez
  subst ez'
  have hD : y.1 = .agg [y0.1, y1.1] := hy
  obtain ⟨n, nu, tw, ln, t, q1, q2, q3⟩ := eps_readJ t1 (fun n hn => hw n (by
    rw [hD]
    simp only [DataW.weights, Tryz.underlying27]
    simp [DataW.weightsEach, hn]))
  exact ⟨z, n, nu, tw, ln, t, rfl, q1, q2, q3, wf_i64 wz⟩
theorem agg_of {W : World} {base : Nat} {v : Value} {k : TypeId} {fs : Array Field} (hk : Tryz.prog.underlying k = some (.struct fs)) (h : Value.okWide Tryz.prog W .any base k v) : ∃ xs, v = .agg xs := by
  simp only [Value.okWide, hk] at h
  obtain ⟨xs, e, _⟩ := h
  exact ⟨xs, e⟩
theorem trod_step {H : Type} {enc : TypeId × Value → H} {P : Program} {w : World} {base : Nat} {spare : Nat → Bool} {held : Bool} {t : TypeId} {f0 f1 f2 : Field} {fuel : Nat} {cs : List Value} {x : DataW H × List MemPlace} (ht : P.underlying t = some (.struct #[f0, f1, f2])) (h : DataW.trod enc P w base spare held fuel t cs = some x) :
    ∃ y0 y1 y2 n, x.1 = .agg [y0.1, y1.1, y2.1] ∧ cs.length = P.cellsOf t ∧ DataW.trod enc P w base spare held n f0.type ((cs.drop f0.offset).take (P.cellsOf f0.type)) = some y0 ∧ DataW.trod enc P w base spare held n f1.type ((cs.drop f1.offset).take (P.cellsOf f1.type)) = some y1 ∧ DataW.trod enc P w base spare held n f2.type ((cs.drop f2.offset).take (P.cellsOf f2.type)) = some y2 := by
  obtain ⟨xs, n, _, rfl, hl, hlen, hf⟩ := DataW.trod_struct ht h
  match xs, hlen with
  | [y0, y1, y2], _ => exact ⟨y0, y1, y2, n, by simp, hl, by simpa using hf 0 f0 rfl, by simpa using hf 1 f1 rfl, by simpa using hf 2 f2 rfl⟩
end Go.Proofs.YtepdejnholphcaaGreat.Win
