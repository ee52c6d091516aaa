import Derived.Test.YtghnhfigihnciaaGreatC9d
import Derived.WideKeyArr
import Derived.MapKept
namespace Go.Proofs.YtghnhfigihnciaaGreat.Win
open Go.RowKit Gf8 Aes By8 Cel Cf
open Go.ChangeMaps Go.MapKept
/- A map whose keys are tags, as a set. -/

theorem arrK : WideMaps.ArrKey Tryz.prog 74 5 16 := ⟨by kernel_rfl, by kernel_rfl, by kernel_rfl, by kernel_rfl⟩
theorem mapM_all {α β : Type} {g : α → Option β} {h : α → β} : ∀ {l : List α}, (∀ x ∈ l, g x = some (h x)) → l.mapM g = some (l.map h)
  | [], _ => rfl
  | x :: l, e => by
    rw [List.mapM_cons, e x (by simp), mapM_all (l := l) fun y hy => e y (by simp [hy])]
    rfl
theorem keyLits16 {f : Nat → Nat} (hf : ∀ i, i < 16 → f i < 256) (D : Nat) : Tryz.prog.keyLits (D + 2) 74 (bA 16 f).toList = some (((List.range 16).map fun i => [Lit.int .u8 ((f i : Nat) : Int)]).flatten) := by
  have hl : (bA 16 f).toList.length = 16 := by rw [Array.length_toList, bA_size]
  unfold Program.keyLits
  rw [arrK.hu]
  simp only [arrK.size, arrK.one, hl, if_true]
  rw [mapM_all (h := fun i => [Lit.int .u8 ((f i : Nat) : Int)])]
  · rfl
  · intro i hi
    have hi : i < 16 := List.mem_range.1 hi
    have e : ((bA 16 f).toList.drop (i * 1)).take 1 = [.int .u8 ((f i : Nat) : Int)] := by
      rw [Nat.mul_one, List.drop_eq_getElem_cons (by rw [hl]; exact hi)]
      have h2 := bA_at 16 f hi
      rw [← Array.getElem?_toList] at h2
      rw [List.getElem?_eq_getElem (by rw [hl]; exact hi)] at h2
      rw [Option.some.inj h2]
      rfl
    rw [e]
    unfold Program.keyLits
    have hu : Tryz.prog.underlying 5 = some (.int .u8) := by kernel_rfl
    rw [hu]
    have hw : (Lit.int .u8 ((f i : Nat) : Int)).wf = true := by
      have := hf i hi
      simp [Lit.wf, IntKind.min, IntKind.max, IntKind.bits, IntKind.signed]
      omega
    simp only [hw, and_self, if_true]
theorem key16 {f : Nat → Nat} (hf : ∀ i, i < 16 → f i < 256) : ∃ l, keyOf Tryz.prog 74 (.agg (bA 16 f)) = some l := by
  have hk : Tryz.prog.keyType 74 = true := by kernel_rfl
  have hs : ∃ m, Tryz.prog.types.size = m + 1 := ⟨Tryz.prog.types.size - 1, by kernel_rfl⟩
  obtain ⟨m, hm⟩ := hs
  have hv : (Value.agg (bA 16 f)).formed Tryz.prog 74 = true := by
    unfold Value.formed
    rw [arrK.hu, arrK.size]
    simp [bA_size]
  unfold keyOf
  rw [arrK.hu]
  simp only [hk, hv, Bool.and_true, if_true]
  have e := keyLits16 hf m
  rw [hm]
  show ∃ l, ((Tryz.prog.keyLits (m + 2) 74 (bA 16 f).toList).map _) = some l
  rw [e]
  exact ⟨_, rfl⟩
theorem agg_tv {f g : Nat → Nat} (hf : ∀ i, i < 16 → f i < 256) (hg : ∀ i, i < 16 → g i < 256) : (Value.agg (bA 16 f) = .agg (bA 16 g)) ↔ tv f 16 = tv g 16 := by
  constructor
  · intro h
    have h := Value.agg.inj h
    refine tv_eq fun j hj => ?_
    have h1 := bA_at 16 f hj
    rw [h, bA_at 16 g hj] at h1
    have h2 := (Value.int.inj (Option.some.inj h1)).2
    omega
  · intro h
    rw [bA_congr (n := 16) (f := f) (g := g) fun i hi => (tv_iff hf hg).1 h i hi]
abbrev tvs (S : List (Nat → Nat)) : List Nat := S.map fun f => tv f 16
/-- The map in block b holds just these tags, each once. -/
structure MS (W : World) (b : Nat) (S : List (Nat → Nat)) : Prop where
  map : ∃ es clock, W.heap[b]? = some (.map es clock) ∧ es.toList.map (·.key) = S.map (fun f => Value.agg (bA 16 f)) ∧ ∀ e ∈ es.toList, e.val = .agg #[]
  byt : ∀ f ∈ S, ∀ i, i < 16 → f i < 256
  nod : (tvs S).Nodup
/-- One tag more. -/
def insM (S : List (Nat → Nat)) (f : Nat → Nat) : List (Nat → Nat) := if tv f 16 ∈ tvs S then S else S ++ [f]
section
variable {W : World} {b : Nat} {S : List (Nat → Nat)} {f : Nat → Nat}
theorem MS.find (h : MS W b S) (hf : ∀ i, i < 16 → f i < 256) : ∃ es clock, W.heap[b]? = some (.map es clock) ∧ es.toList.map (·.key) = S.map (fun f => Value.agg (bA 16 f)) ∧ (∀ e ∈ es.toList, e.val = .agg #[]) ∧
    (((Instr.findKey 74 (.agg (bA 16 f)) es.toList).run Tryz.prog W = .ok none W ∧ tv f 16 ∉ tvs S) ∨ ∃ j e, (Instr.findKey 74 (.agg (bA 16 f)) es.toList).run Tryz.prog W = .ok (some (j, .agg #[])) W ∧ es.toList[j]? = some e ∧ e.key = .agg (bA 16 f) ∧ tv f 16 ∈ tvs S) := by
  obtain ⟨⟨es, clock, hb, hk, hv⟩, hy, -⟩ := h
  refine ⟨es, clock, hb, hk, hv, ?_⟩
  have hmem : ∀ e ∈ es.toList, ∃ g ∈ S, e.key = .agg (bA 16 g) := fun e he => by
    have : e.key ∈ S.map (fun f => Value.agg (bA 16 f)) := by rw [← hk]; exact List.mem_map_of_mem he
    obtain ⟨g, hg, e2⟩ := List.mem_map.1 this
    exact ⟨g, hg, e2.symm⟩
  obtain ⟨lx, hlx⟩ := key16 hf
  rcases arrK.law.find W hlx es.toList (fun e he => by obtain ⟨g, hg, e2⟩ := hmem e he; rw [e2]; exact key16 (hy g hg)) with ⟨r, n⟩ | ⟨j, e, r, q, p⟩
  · refine Or.inl ⟨r, fun hin => ?_⟩
    obtain ⟨g, hg, e2⟩ := List.mem_map.1 hin
    have : Value.agg (bA 16 g) ∈ es.toList.map (·.key) := by rw [hk]; exact List.mem_map_of_mem hg
    obtain ⟨e, he, e3⟩ := List.mem_map.1 this
    exact n e he (e3.trans ((agg_tv (hy g hg) hf).2 e2))
  · have he : e ∈ es.toList := List.mem_of_getElem? q
    refine Or.inr ⟨j, e, by rw [r, hv e he], q, p, ?_⟩
    obtain ⟨g, hg, e2⟩ := hmem e he
    exact List.mem_map.2 ⟨g, hg, (agg_tv (hy g hg) hf).1 (e2.symm.trans p)⟩
theorem und68 : Tryz.prog.underlying 226 = some (.map 74 66) := by kernel_rfl
theorem MS.look (h : MS W b S) (hf : ∀ i, i < 16 → f i < 256) : (Instr.lookup 226 (.map (some b)) (.agg (bA 16 f)) true).run Tryz.prog W = .ok (.tuple #[.agg #[], .bool (decide (tv f 16 ∈ tvs S))]) W := by
  obtain ⟨lx, hlx⟩ := key16 hf
  obtain ⟨es, clock, hb, hk, hv, hr⟩ := h.find hf
  have hc := arrK.law.check W es.isEmpty hlx
  rcases hr with ⟨r, n⟩ | ⟨j, e, r, q, p, m⟩
  · simp [Instr.lookup, run_underlying und68, MapKept.run_getObj_map hb, hc, r, Result.andThen, n]
  · simp [Instr.lookup, run_underlying und68, MapKept.run_getObj_map hb, hc, r, Result.andThen, m]
theorem MS.put (h : MS W b S) (hf : ∀ i, i < 16 → f i < 256) : ∃ o, (Instr.mapUpdate 226 (.map (some b)) (.agg (bA 16 f)) (.agg #[])).run Tryz.prog W = .ok () (setBlock W b o) ∧ MS (setBlock W b o) b (insM S f) := by
  obtain ⟨lx, hlx⟩ := key16 hf
  have hc := arrK.law.check W false hlx
  have hst := arrK.law.stays W hlx
  have hy := h.byt
  have hn := h.nod
  obtain ⟨es, clock, hb, hk, hv, hr⟩ := h.find hf
  rcases hr with ⟨r, n⟩ | ⟨j, e, r, q, p, m⟩
  · refine ⟨Obj.map (es.push { key := .agg (bA 16 f), val := .agg #[], born := clock }) (clock + 1), ?_, ?_⟩
    · simp [Instr.mapUpdate, run_underlying und68, MapKept.run_getObj_map hb, hc, r, Result.andThen]
      exact run_setObj_map _ hb
    · have e : insM S f = S ++ [f] := if_neg n
      rw [e]
      refine ⟨⟨_, _, heap_setBlock_same hb _, by simp [hk], ?_⟩, ?_, ?_⟩
      · intro x hx
        simp at hx
        rcases hx with hx | rfl
        · exact hv x (by simpa using hx)
        · rfl
      · intro g hg
        simp at hg
        rcases hg with hg | rfl
        · exact hy g hg
        · exact hf
      · simp only [tvs, List.map_append, List.map_cons, List.map_nil]
        refine List.nodup_append.2 ⟨hn, by simp, fun a ha c hc' e => ?_⟩
        simp at hc'
        subst hc' e
        exact n ha
  · have e3 : insM S f = S := if_pos m
    rw [e3]
    refine ⟨Obj.map (es.modify j fun e => { e with key := .agg (bA 16 f), val := .agg #[] }) clock, ?_, ?_⟩
    · have e4 : ((es[j]?).map (·.key)).getD (.agg (bA 16 f)) = .agg (bA 16 f) := by
        rw [← Array.getElem?_toList, q]; exact p
      simp [Instr.mapUpdate, run_underlying und68, MapKept.run_getObj_map hb, hc, r, Result.andThen, e4, hst]
      exact run_setObj_map _ hb
    · refine ⟨⟨_, _, heap_setBlock_same hb _, ?_, ?_⟩, hy, hn⟩
      · rw [← hk]
        apply List.ext_getElem?
        intro i
        simp
        by_cases hj : j = i
        · subst hj
          have q2 : es[j]? = some e := by rw [← Array.getElem?_toList]; exact q
          simp [q2, p]
        · simp [hj]
      · intro x hx
        obtain ⟨i, hi⟩ := List.getElem?_of_mem hx
        rw [Array.getElem?_toList, Array.getElem?_modify] at hi
        split at hi
        · obtain ⟨y, hy2, rfl⟩ := Option.map_eq_some_iff.1 hi
          rfl
        · exact hv x (List.mem_of_getElem? (by rw [Array.getElem?_toList]; exact hi))
end
end Go.Proofs.YtghnhfigihnciaaGreat.Win
