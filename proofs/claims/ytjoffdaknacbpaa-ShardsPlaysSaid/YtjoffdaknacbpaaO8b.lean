import Derived.Test.YtjoffdaknacbpaaO8a
import Derived.Test.YtjoffdaknacbpaaJ9b
import Derived.Test.YtjoffdaknacbpaaC9d
namespace Go.Proofs.Ytjoffdaknacbpaa.Sha
open Go.RowKit Gf8 Aes By8 Cel Cf Win
open Go.ChangeMaps Go.MapKept
/- A map from tags to ints. -/

/-- The map in block b holds these tags with these numbers, each tag once. -/
structure MP (W : World) (b : Nat) (S : List Off) : Prop where
  map : ∃ es clock, W.heap[b]? = some (.map es clock) ∧ es.toList.map (fun e => (e.key, e.val)) = S.map (fun p => (Value.agg (bA 16 p.1), Value.int .i64 p.2))
  byt : ∀ p ∈ S, ∀ i, i < 16 → p.1 i < 256
  nod : (S.map fun p => tv p.1 16).Nodup
theorem fnd_none {x : Nat} : ∀ {S : List Off}, fnd S x = none ↔ x ∉ S.map fun p => tv p.1 16
  | [] => by simp [fnd]
  | p :: S => by
    unfold fnd
    by_cases h : tv p.1 16 = x
    · rw [if_pos h]; simp [h]
    · rw [if_neg h, fnd_none, List.map_cons, List.mem_cons, not_or]
      exact ⟨fun w => ⟨fun e => h e.symm, w⟩, fun w => w.2⟩
theorem fnd_at {x : Nat} {S : List Off} : ∀ {j : Nat} {p : Off}, (S.map fun p => tv p.1 16).Nodup → S[j]? = some p → tv p.1 16 = x → fnd S x = some p.2 := by
  induction S with
  | nil => intro j p _ h; simp at h
  | cons q S ih =>
    intro j p hn h e
    cases j with
    | zero =>
      rw [List.getElem?_cons_zero] at h
      cases h
      unfold fnd
      rw [if_pos e]
    | succ j =>
      rw [List.getElem?_cons_succ] at h
      rw [List.map_cons] at hn
      have hn2 := List.nodup_cons.1 hn
      unfold fnd
      rw [if_neg (fun w => hn2.1 (by rw [w, ← e]; exact List.mem_map.2 ⟨p, List.mem_of_getElem? h, rfl⟩))]
      exact ih hn2.2 h e
theorem put_none {f : Nat → Nat} {z : Int} : ∀ {S : List Off}, tv f 16 ∉ (S.map fun p => tv p.1 16) → putM S f z = S ++ [(f, z)]
  | [], _ => rfl
  | p :: S, h => by
    have h2 : tv p.1 16 ≠ tv f 16 := fun e => h (by rw [← e]; simp)
    unfold putM
    rw [if_neg h2, put_none (S := S) (fun w => h (by simp only [List.map_cons, List.mem_cons]; exact Or.inr w))]
    rfl
theorem put_at {f : Nat → Nat} {z : Int} {S : List Off} : ∀ {j : Nat} {p : Off}, (S.map fun p => tv p.1 16).Nodup → S[j]? = some p → tv p.1 16 = tv f 16 → putM S f z = S.set j (f, z) := by
  induction S with
  | nil => intro j p _ h; simp at h
  | cons q S ih =>
    intro j p hn h e
    cases j with
    | zero =>
      rw [List.getElem?_cons_zero] at h
      cases h
      unfold putM
      rw [if_pos e]
      rfl
    | succ j =>
      rw [List.getElem?_cons_succ] at h
      rw [List.map_cons] at hn
      have hn2 := List.nodup_cons.1 hn
      unfold putM
      rw [if_neg (fun w => hn2.1 (by rw [w, ← e]; exact List.mem_map.2 ⟨p, List.mem_of_getElem? h, rfl⟩)), ih hn2.2 h e]
      rfl
theorem put_mem {f : Nat → Nat} {z : Int} {q : Off} : ∀ {S : List Off}, q ∈ putM S f z → q ∈ S ∨ q = (f, z)
  | [], h => by simp [putM] at h; exact Or.inr h
  | p :: S, h => by
    unfold putM at h
    split at h
    · rcases List.mem_cons.1 h with h | h
      · exact Or.inr h
      · exact Or.inl (List.mem_cons_of_mem _ h)
    · rcases List.mem_cons.1 h with h | h
      · exact Or.inl (by rw [h]; simp)
      · rcases put_mem h with h | h
        · exact Or.inl (List.mem_cons_of_mem _ h)
        · exact Or.inr h
theorem put_keys {f : Nat → Nat} {z : Int} {x : Nat} : ∀ {S : List Off}, x ∈ (putM S f z).map (fun p => tv p.1 16) → x ∈ S.map (fun p => tv p.1 16) ∨ x = tv f 16 := fun {S} h => by
  obtain ⟨q, hq, e⟩ := List.mem_map.1 h
  rcases put_mem hq with h | h
  · exact Or.inl (List.mem_map.2 ⟨q, h, e⟩)
  · exact Or.inr (by rw [← e, h])
theorem put_nod {f : Nat → Nat} {z : Int} : ∀ {S : List Off}, (S.map fun p => tv p.1 16).Nodup → ((putM S f z).map fun p => tv p.1 16).Nodup
  | [], _ => by simp [putM]
  | p :: S, h => by
    have h2 := List.nodup_cons.1 h
    unfold putM
    split
    · rename_i e
      simp only [List.map_cons]
      refine List.nodup_cons.2 ⟨by rw [← e]; exact h2.1, h2.2⟩
    · rename_i e
      simp only [List.map_cons]
      refine List.nodup_cons.2 ⟨fun w => ?_, put_nod h2.2⟩
      rcases put_keys w with w | w
      · exact h2.1 w
      · exact e w
section
variable {W : World} {b : Nat} {S : List Off} {f : Nat → Nat}
theorem MP.keys (h : MP W b S) {es : Array MapEntry} {clock : Nat} (hb : W.heap[b]? = some (.map es clock)) : es.toList.map (fun e => (e.key, e.val)) = S.map (fun p => (Value.agg (bA 16 p.1), Value.int .i64 p.2)) := by
  obtain ⟨es', clock', hb', hk⟩ := h.map
  rw [hb'] at hb
  cases hb
  exact hk
theorem MP.find (h : MP W b S) (hf : ∀ i, i < 16 → f i < 256) : ∃ es clock, W.heap[b]? = some (.map es clock) ∧
    (((Instr.findKey 31 (.agg (bA 16 f)) es.toList).run Try.prog W = .ok none W ∧ tv f 16 ∉ S.map fun p => tv p.1 16) ∨ ∃ (j : Nat) (p : Off) (e : MapEntry), (Instr.findKey 31 (.agg (bA 16 f)) es.toList).run Try.prog W = .ok (some (j, .int .i64 p.2)) W ∧ es.toList[j]? = some e ∧ e.key = .agg (bA 16 f) ∧ S[j]? = some p ∧ tv p.1 16 = tv f 16) := by
  obtain ⟨⟨es, clock, hb, hk⟩, hy, -⟩ := h
  refine ⟨es, clock, hb, ?_⟩
  have hlen : es.toList.length = S.length := by have := congrArg List.length hk; simpa using this
  have hat : ∀ (j : Nat) (e : MapEntry), es.toList[j]? = some e → ∃ p, S[j]? = some p ∧ e.key = .agg (bA 16 p.1) ∧ e.val = .int .i64 p.2 := fun j e he => by
    have h1 : (es.toList.map (fun e => (e.key, e.val)))[j]? = some (e.key, e.val) := by rw [List.getElem?_map, he]; rfl
    rw [hk, List.getElem?_map] at h1
    obtain ⟨p, hp, e2⟩ := Option.map_eq_some_iff.1 h1
    exact ⟨p, hp, (congrArg Prod.fst e2).symm, (congrArg Prod.snd e2).symm⟩
  obtain ⟨lx, hlx⟩ := key16 hf
  rcases arrK.law.find W hlx es.toList (fun e he => by
    obtain ⟨j, hj⟩ := List.getElem?_of_mem he
    obtain ⟨p, hp, e2, -⟩ := hat j e hj
    rw [e2]; exact key16 (hy p (List.mem_of_getElem? hp))) with ⟨r, n⟩ | ⟨j, e, r, q, p⟩
  · refine Or.inl ⟨r, fun hin => ?_⟩
    obtain ⟨g, hg, e2⟩ := List.mem_map.1 hin
    obtain ⟨j, hj⟩ := List.getElem?_of_mem hg
    have hjl : j < es.toList.length := by rw [hlen]; exact (List.getElem?_eq_some_iff.1 hj).1
    have he : es.toList[j]? = some es.toList[j] := List.getElem?_eq_getElem hjl
    obtain ⟨p', hp', e3, -⟩ := hat j _ he
    rw [hj] at hp'
    cases hp'
    exact n _ (List.mem_of_getElem? he) (e3.trans ((agg_tv (hy g hg) hf).2 e2))
  · obtain ⟨p', hp', e2, e3⟩ := hat j e q
    refine Or.inr ⟨j, p', e, by rw [r, e3], q, p, hp', ?_⟩
    exact (agg_tv (hy p' (List.mem_of_getElem? hp')) hf).1 (e2.symm.trans p)
theorem und58 : Try.prog.underlying 58 = some (.map 31 3) := by kernel_rfl
theorem MP.look (h : MP W b S) (hf : ∀ i, i < 16 → f i < 256) : (Instr.lookup 58 (.map (some b)) (.agg (bA 16 f)) true).run Try.prog W = .ok (.tuple #[.int .i64 ((fnd S (tv f 16)).getD 0), .bool (fnd S (tv f 16)).isSome]) W := by
  obtain ⟨lx, hlx⟩ := key16 hf
  have hn := h.nod
  obtain ⟨es, clock, hb, hr⟩ := h.find hf
  have hc := arrK.law.check W es.isEmpty hlx
  rcases hr with ⟨r, n⟩ | ⟨j, p, e, r, q, k, hp, hx⟩
  · rw [fnd_none.2 n]
    simp [Instr.lookup, run_underlying und58, MapKept.run_getObj_map hb, hc, r, Result.andThen]
  · rw [fnd_at hn hp hx]
    simp [Instr.lookup, run_underlying und58, MapKept.run_getObj_map hb, hc, r, Result.andThen]
theorem MP.put (h : MP W b S) (hf : ∀ i, i < 16 → f i < 256) (z : Int) : ∃ o, (Instr.mapUpdate 58 (.map (some b)) (.agg (bA 16 f)) (.int .i64 z)).run Try.prog W = .ok () (setBlock W b o) ∧ MP (setBlock W b o) b (putM S f z) := by
  obtain ⟨lx, hlx⟩ := key16 hf
  have hc := arrK.law.check W false hlx
  have hst := arrK.law.stays W hlx
  have hy := h.byt
  have hn := h.nod
  have hk0 := fun {es clock} => @MP.keys W b S h es clock
  obtain ⟨es, clock, hb, hr⟩ := h.find hf
  have hk := hk0 hb
  have by2 : ∀ p ∈ putM S f z, ∀ i, i < 16 → p.1 i < 256 := fun p hp => by
    rcases put_mem hp with q | q
    · exact hy p q
    · rw [q]; exact hf
  rcases hr with ⟨r, n⟩ | ⟨j, p, e, r, q, k, hp, hx⟩
  · refine ⟨Obj.map (es.push { key := .agg (bA 16 f), val := .int .i64 z, born := clock }) (clock + 1), ?_, ?_⟩
    · simp [Instr.mapUpdate, run_underlying und58, MapKept.run_getObj_map hb, hc, r, Result.andThen]
      exact run_setObj_map _ hb
    · refine ⟨⟨_, _, heap_setBlock_same hb _, ?_⟩, by2, put_nod hn⟩
      rw [put_none n]
      simp [hk]
  · refine ⟨Obj.map (es.modify j fun e => { e with key := .agg (bA 16 f), val := .int .i64 z }) clock, ?_, ?_⟩
    · have e4 : ((es[j]?).map (·.key)).getD (.agg (bA 16 f)) = .agg (bA 16 f) := by
        rw [← Array.getElem?_toList, q]; exact k
      simp [Instr.mapUpdate, run_underlying und58, MapKept.run_getObj_map hb, hc, r, Result.andThen, e4, hst]
      exact run_setObj_map _ hb
    · refine ⟨⟨_, _, heap_setBlock_same hb _, ?_⟩, by2, put_nod hn⟩
      rw [put_at hn hp hx]
      apply List.ext_getElem?
      intro i
      have hki : (es.toList.map (fun e => (e.key, e.val)))[i]? = (S.map (fun p => (Value.agg (bA 16 p.1), Value.int .i64 p.2)))[i]? := by rw [hk]
      rw [List.getElem?_map, List.getElem?_map, Array.getElem?_toList, Array.getElem?_modify]
      rw [List.getElem?_map, List.getElem?_map, Array.getElem?_toList] at hki
      by_cases hj : j = i
      · subst hj
        have hjl : j < S.length := (List.getElem?_eq_some_iff.1 hp).1
        rw [List.getElem?_set_self hjl]
        have q2 : es[j]? = some e := by rw [← Array.getElem?_toList]; exact q
        simp [q2]
      · rw [if_neg hj, List.getElem?_set_ne hj]
        exact hki
theorem MP.lt (h : MP W b S) : b < W.heap.size := by
  obtain ⟨es, clock, hb, -⟩ := h.map
  exact (Array.getElem?_eq_some_iff.1 hb).1
theorem MP.keep {X : World} (h : MP W b S) (e : X.heap[b]? = W.heap[b]?) : MP X b S := by
  obtain ⟨es, clock, q, r⟩ := h.map
  exact ⟨⟨es, clock, by rw [e]; exact q, r⟩, h.byt, h.nod⟩
theorem MP.on {X : World} (h : MP W b S) (hb : Below W.heap.size W X) : MP X b S := h.keep (hb.block b h.lt)
theorem MP.len (h : MP W b S) {es : Array MapEntry} {clock : Nat} (hb : W.heap[b]? = some (.map es clock)) : es.size = S.length := by
  have := congrArg List.length (h.keys hb)
  simpa using this
end
theorem mp_new (W : World) : MP (W.alloc (.map #[] 0)) W.heap.size [] := ⟨⟨#[], 0, heapNew W _, rfl⟩, by simp, by simp⟩
end Go.Proofs.Ytjoffdaknacbpaa.Sha
