import Derived.Test.YtedjoakpbknflaaDoorD1
import Derived.Test.YtedjoakpbknflaaDoorG1
import Derived.Test.YtedjoakpbknflaaDoorCards
import Derived.Test.YtedjoakpbknflaaDoorTie
import Derived.OpenShut
import Derived.ChangeOld
import Derived.SizedLaws
import Derived.Deep.Matrix
import Derived.Deep.DeepHandedRow
namespace Go.Proofs.YtedjoakpbknflaaDoor
open Go.ChangeShapes Go.WideShapes Go.ChangeAt Go.RowKit

theorem wf_byte {n : Int} (h : (Lit.int .u8 n).wf = true) : 0 ≤ n ∧ n < 256 := by
  have := bounds_u8 h
  omega
theorem bytesOf5 : Tryd.prog.bytesOf 5 = 1 := by kernel_rfl
theorem bytesOf33 : Tryd.prog.bytesOf 33 = 24 := by kernel_rfl
theorem weightsAll_mem {H : Type} {P : Program} {e : TypeId} : ∀ {ds : List (DataW H)} {d : DataW H}, d ∈ ds → ∀ n ∈ d.weights P e, n ∈ DataW.weightsAll P e ds
  | d0 :: ds, d, hd, n, hn => by
    simp only [DataW.weightsAll, List.mem_append]
    rcases List.mem_cons.1 hd with rfl | h
    · exact Or.inl hn
    · exact Or.inr (weightsAll_mem h n hn)
  | [], _, hd, _, _ => by cases hd

/-- A [][]byte that reads is one as sums_any asks for it. -/
theorem lists_of {H : Type} {enc : TypeId × Value → H} {W : World} {fuel : Nat} {v : Value} {d : DataW H} {p : List MemPlace} (h : DataW.trod enc Tryd.prog W 0 (fun _ => true) true fuel 35 v.cells.toList = some (d, p))
    (hw : ∀ n ∈ d.weights Tryd.prog 35, n ≤ reachBytes) (hsl : ∃ a l c, v = .slice a l c) : ∃ n vs ls ps, ListsB W v n vs ls ps := by
  obtain ⟨a0, len0, cap0, rfl⟩ := hsl
  have hr : reachBytes = 140737488351232 := rfl
  rcases Deep.open_int_rows Tryd.underlying35 Tryd.underlying33 Tryd.underlying5 (by kernel_rfl) (by kernel_rfl) h with ⟨hcs, _⟩ | ⟨a, len, cap, A, L, C, Z, hcs, _, hl, hm, hx, hrow⟩
  · simp [Value.cells] at hcs
    obtain ⟨rfl, rfl, rfl⟩ := hcs
    exact ⟨0, fun _ => .slice none 0 0, fun _ => 0, fun _ _ => 0, ⟨⟨_, _, rfl, by omega, fun h => by omega⟩, fun i hi => by omega, fun i hi => by omega, fun i hi => by omega⟩⟩
  · simp [Value.cells] at hcs
    obtain ⟨rfl, rfl, rfl⟩ := hcs
    simp only [Prod.mk.injEq] at hx
    obtain ⟨rfl, rfl⟩ := hx
    have hn : (len0 + (cap0 - len0)) * 24 ≤ reachBytes := by
      refine hw _ ?_
      simp [DataW.weights, Tryd.underlying35, bytesOf33]
    have hc : ∀ i, i < len0 → C i ≤ reachBytes := by
      intro i hi
      obtain ⟨_, _, _, hz, _, h0, _⟩ := hrow i (by omega)
      cases hA : A i with
      | none => rw [h0 hA]; omega
      | some a' =>
        refine hw _ ?_
        simp only [DataW.weights, Tryd.underlying35]
        refine List.mem_cons_of_mem _ (List.mem_append_left _ (weightsAll_mem (d := Deep.intRow .u8 (A i) (L i) (Z i)) (List.mem_map.2 ⟨i, List.mem_range.2 hi, rfl⟩) _ ?_))
        have hL : L i ≤ C i := (hrow i (by omega)).2.1
        rw [hA]
        simp only [Deep.intRow, DataW.weights, Tryd.underlying33, bytesOf5]
        refine List.mem_cons.2 (Or.inl ?_)
        simp [lits, hz]
        omega
    refine ⟨len0, fun i => .slice (A i) (L i) (C i), L, fun i j => (Z i).getD j 0, ⟨⟨_, _, rfl, by omega, fun hp => ?_⟩, fun i hi => ?_, fun i hi cap e => ?_, fun i hi => ?_⟩⟩
    · obtain ⟨b, off, spot⟩ := a
      have hc0 := (hrow 0 (by omega)).1
      have hspot : spot = none := by simpa [Addr.add] using World.cell?_spot hc0
      subst hspot
      refine ⟨b, off, rfl, ?_, fun i hi => ?_⟩
      · exact World.block_lt_of_cell? W _ hc0
      · rw [← Go.WideShapes.add_plain]
        exact (hrow i (by omega)).1
    · obtain ⟨_, h1, _, hz, hwz, h0, hcell⟩ := hrow i (by omega)
      have hci := hc i hi
      refine ⟨⟨_, _, rfl, h1, by omega, fun hp => ?_⟩, fun j hj => ?_⟩
      · cases hA : A i with
        | none => have := h0 hA; omega
        | some a' =>
          obtain ⟨b, off, rfl, hc'⟩ := ints_at (zs := Z i) (fun c hc => (hcell a' hA).2 c (by omega)) (by omega)
          exact ⟨b, off, rfl, World.block_lt_of_cell? W _ (hc' 0 (by omega)), fun j hj => hc' j (by omega)⟩
      · exact wf_byte (hwz _ (by rw [List.getD_eq_getElem?_getD, List.getElem?_eq_getElem (by omega)]; exact List.getElem_mem _))
    · obtain ⟨_, _, _, _, _, h0, _⟩ := hrow i (by omega)
      simp only [Value.slice.injEq] at e
      rw [← e.2.2]
      exact h0 e.1
    · have hci := hc i hi
      have h1 := (hrow i (by omega)).2.1
      omega

set_option maxRecDepth 100000 in
theorem sums_contract (H : Type) (enc : TypeId × Value → H) (W : World) (base : Nat) (args : Array Value) (ds gs : List (DataW H)) (before : List MemPlace)
    (hval : ∀ (j : Nat) t v, Tryd.f4.params[j]? = some t → args[j]? = some v → Value.okWide Tryd.prog W .any base t v)
    (hW : DataW.Whole enc Tryd.prog Tryd.f4.params.toList Rows.hashSumsSpec.vars false W args.toList ds gs before)
    (hsz : (DataW.weightsEach Tryd.prog (Tryd.f4.params.toList ++ (OpenSpec.ofChange Rows.hashSumsSpec).bare.plain.varTypes Tryd.prog) (ds ++ gs)).all (· ≤ reachBytes) = true)
    (hL : laidMetH Tryd.prog laidList W) :
    Calls Tryd.prog 4 args W fun e W' => ∃ v, e = .returned v ∧ Rows.hashSumsSpec.post enc Tryd.prog Tryd.f4 false true false false W args v W' := by
  have hW' := hW
  obtain ⟨p, q, hA0, hV, rfl, hfz, hnd⟩ := hW
  have hA : DataW.TrodAll enc Tryd.prog W 0 (fun _ => true) true Tryd.f4.params.toList args.toList ds p := hA0
  rw [Tryd.params4] at hA hval hsz
  obtain ⟨v0, vs0, d0, ds0, p0, q0, hargs, rfl, rfl, h0, r0⟩ := trodAll_cons hA
  obtain ⟨rfl, rfl, rfl⟩ := trodAll_nil r0
  obtain rfl : args = #[v0] := by cases args; simp_all
  obtain ⟨rfl, rfl⟩ := trodVars_none hV
  have hs0 := okWide_slice Tryd.underlying35 (hval 0 35 v0 rfl rfl)
  have k0 := h0
  have lt0 : ∀ x ∈ p0, x.block < W.heap.size := by obtain ⟨m, hm⟩ := k0; exact DataW.trod_lt m _ _ _ hm
  have hw0 : ∀ n ∈ d0.weights Tryd.prog 35, n ≤ reachBytes := fun n hn => by
    have := List.all_eq_true.1 hsz n (DataW.weights_mem_each (j := 0) (t := 35) (d := d0) rfl rfl n hn)
    simpa using this
  have s0 : ∃ n vs ls ps, ListsB W v0 n vs ls ps := by
    obtain ⟨fuel, hf⟩ := h0
    exact lists_of hf hw0 hs0
  obtain ⟨n, vs, ls, ps, s0⟩ := s0
  refine (sums_any _ n vs ls ps W (glob_of hL) s0).mono fun e W' ⟨he, bel⟩ => ?_
  subst he
  exact ⟨_, rfl, _, _, _, [], _, [], hW', trodAll_mk1 (shut_bool Tryd.underlying4 _), (trodAll_cons_mk (Below.trod laidOut (by kernel_rfl) (of_decide_eq_true (by kernel_rfl)) k0 bel lt0) trodAll_mk0), rfl, bel.frame _, fun h => by cases h⟩
end Go.Proofs.YtedjoakpbknflaaDoor
