import Derived.Test.YtjoffdaknacbpaaC9d
import Derived.WideKeyArr
import Derived.MapKept
namespace Go.Proofs.Ytjoffdaknacbpaa.Win
open Go.RowKit Gf8 Aes By8 Cel Cf
open Go.ChangeMaps Go.MapKept
/- A map whose keys are tags, as a set. -/

theorem arrK : WideMaps.ArrKey Try.prog 31 5 16 := ⟨by kernel_rfl, by kernel_rfl, by kernel_rfl, by kernel_rfl⟩
theorem mapM_all {α β : Type} {g : α → Option β} {h : α → β} : ∀ {l : List α}, (∀ x ∈ l, g x = some (h x)) → l.mapM g = some (l.map h)
  | [], _ => rfl
  | x :: l, e => by
    rw [List.mapM_cons, e x (by simp), mapM_all (l := l) fun y hy => e y (by simp [hy])]
    rfl
theorem keyLits16 {f : Nat → Nat} (hf : ∀ i, i < 16 → f i < 256) (D : Nat) : Try.prog.keyLits (D + 2) 31 (bA 16 f).toList = some (((List.range 16).map fun i => [Lit.int .u8 ((f i : Nat) : Int)]).flatten) := by
  have hl : (bA 16 f).toList.length = 16 := by rw [Array.length_toList, bA_size]
  unfold Program.keyLits
  rw [arrK.hu]
  simp only [arrK.size, arrK.one, hl, if_true]
  rw [mapM_all (h := fun i => [Lit.int .u8 ((f i : Nat) : Int)])]
  · rfl
  · intro i hi
    have hi : i < 16 := List.mem_range.1 hi
    have e : ((bA 16 f).toList.drop (i * 1)).take 1 = [.int .u8 ((f i : Nat) : Int)] := by
      rw [Nat.mul_one, List.drop_eq_getElem_cons (by rw [hl]; exact hi)]
      have h2 := bA_at 16 f hi
      rw [← Array.getElem?_toList] at h2
      rw [List.getElem?_eq_getElem (by rw [hl]; exact hi)] at h2
      rw [Option.some.inj h2]
      rfl
    rw [e]
    unfold Program.keyLits
    have hu : Try.prog.underlying 5 = some (.int .u8) := by kernel_rfl
    rw [hu]
    have hw : (Lit.int .u8 ((f i : Nat) : Int)).wf = true := by
      have := hf i hi
      simp [Lit.wf, IntKind.min, IntKind.max, IntKind.bits, IntKind.signed]
      omega
    simp only [hw, and_self, if_true]
theorem key16 {f : Nat → Nat} (hf : ∀ i, i < 16 → f i < 256) : ∃ l, keyOf Try.prog 31 (.agg (bA 16 f)) = some l := by
  have hk : Try.prog.keyType 31 = true := by kernel_rfl
  have hs : ∃ m, Try.prog.types.size = m + 1 := ⟨Try.prog.types.size - 1, by kernel_rfl⟩
  obtain ⟨m, hm⟩ := hs
  have hv : (Value.agg (bA 16 f)).formed Try.prog 31 = true := by
    unfold Value.formed
    rw [arrK.hu, arrK.size]
    simp [bA_size]
  unfold keyOf
  rw [arrK.hu]
  simp only [hk, hv, Bool.and_true, if_true]
  have e := keyLits16 hf m
  rw [hm]
  show ∃ l, ((Try.prog.keyLits (m + 2) 31 (bA 16 f).toList).map _) = some l
  rw [e]
  exact ⟨_, rfl⟩
theorem agg_tv {f g : Nat → Nat} (hf : ∀ i, i < 16 → f i < 256) (hg : ∀ i, i < 16 → g i < 256) : (Value.agg (bA 16 f) = .agg (bA 16 g)) ↔ tv f 16 = tv g 16 := by
  constructor
  · intro h
    have h := Value.agg.inj h
    refine tv_eq fun j hj => ?_
    have h1 := bA_at 16 f hj
    rw [h, bA_at 16 g hj] at h1
    have h2 := (Value.int.inj (Option.some.inj h1)).2
    omega
  · intro h
    rw [bA_congr (n := 16) (f := f) (g := g) fun i hi => (tv_iff hf hg).1 h i hi]
abbrev tvs (S : List (Nat → Nat)) : List Nat := S.map fun f => tv f 16
/-- The map in block b holds just these tags, each once. -/
structure MS (W : World) (b : Nat) (S : List (Nat → Nat)) : Prop where
  map : ∃ es clock, W.heap[b]? = some (.map es clock) ∧ es.toList.map (·.key) = S.map (fun f => Value.agg (bA 16 f)) ∧ ∀ e ∈ es.toList, e.val = .agg #[]
  byt : ∀ f ∈ S, ∀ i, i < 16 → f i < 256
  nod : (tvs S).Nodup
section
variable {W : World} {b : Nat} {S : List (Nat → Nat)} {f : Nat → Nat}
theorem MS.find (h : MS W b S) (hf : ∀ i, i < 16 → f i < 256) : ∃ es clock, W.heap[b]? = some (.map es clock) ∧ es.toList.map (·.key) = S.map (fun f => Value.agg (bA 16 f)) ∧ (∀ e ∈ es.toList, e.val = .agg #[]) ∧
    (((Instr.findKey 31 (.agg (bA 16 f)) es.toList).run Try.prog W = .ok none W ∧ tv f 16 ∉ tvs S) ∨ ∃ j e, (Instr.findKey 31 (.agg (bA 16 f)) es.toList).run Try.prog W = .ok (some (j, .agg #[])) W ∧ es.toList[j]? = some e ∧ e.key = .agg (bA 16 f) ∧ tv f 16 ∈ tvs S) := by
  obtain ⟨⟨es, clock, hb, hk, hv⟩, hy, -⟩ := h
  refine ⟨es, clock, hb, hk, hv, ?_⟩
  have hmem : ∀ e ∈ es.toList, ∃ g ∈ S, e.key = .agg (bA 16 g) := fun e he => by
    have : e.key ∈ S.map (fun f => Value.agg (bA 16 f)) := by rw [← hk]; exact List.mem_map_of_mem he
    obtain ⟨g, hg, e2⟩ := List.mem_map.1 this
    exact ⟨g, hg, e2.symm⟩
  obtain ⟨lx, hlx⟩ := key16 hf
  rcases arrK.law.find W hlx es.toList (fun e he => by obtain ⟨g, hg, e2⟩ := hmem e he; rw [e2]; exact key16 (hy g hg)) with ⟨r, n⟩ | ⟨j, e, r, q, p⟩
  · refine Or.inl ⟨r, fun hin => ?_⟩
    obtain ⟨g, hg, e2⟩ := List.mem_map.1 hin
    have : Value.agg (bA 16 g) ∈ es.toList.map (·.key) := by rw [hk]; exact List.mem_map_of_mem hg
    obtain ⟨e, he, e3⟩ := List.mem_map.1 this
    exact n e he (e3.trans ((agg_tv (hy g hg) hf).2 e2))
  · have he : e ∈ es.toList := List.mem_of_getElem? q
    refine Or.inr ⟨j, e, by rw [r, hv e he], q, p, ?_⟩
    obtain ⟨g, hg, e2⟩ := hmem e he
    exact List.mem_map.2 ⟨g, hg, (agg_tv (hy g hg) hf).1 (e2.symm.trans p)⟩
end
end Go.Proofs.Ytjoffdaknacbpaa.Win
