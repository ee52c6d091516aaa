import Derived.Test.YtnfokemikcigbaaP8a
import Derived.Test.YtnfokemikcigbaaP9e
import Derived.Maps.Keyed
import Derived.MapKept
import Derived.WalkKit
namespace Go.Proofs.Ytnfokemikcigbaa.Ord
open Go.RowKit Gf8 Aes By8 Cel Cf Win Drw Prm
open Go.ChangeMaps Go.MapKept
/- Stage 20 (order): a map with ints for keys; a buffer's items as a list. -/

abbrev Its := List (Int × Value)
/-- What waits at a number. -/
def lkp : Its → Int → Option Value
  | [], _ => none
  | p :: S, i => if p.1 = i then some p.2 else lkp S i
abbrev kys (S : Its) : List Int := S.map (·.1)
theorem lkp_none {i : Int} : ∀ {S : Its}, lkp S i = none ↔ i ∉ kys S
  | [] => by simp [lkp]
  | p :: S => by
    unfold lkp
    by_cases h : p.1 = i
    · rw [if_pos h]; simp [h]
    · rw [if_neg h, lkp_none]
      show _ ↔ i ∉ p.1 :: kys S
      rw [List.mem_cons, not_or]
      exact ⟨fun w => ⟨fun e => h e.symm, w⟩, fun w => w.2⟩
theorem lkp_at {i : Int} {S : Its} : ∀ {j : Nat} {p : Int × Value}, (kys S).Nodup → S[j]? = some p → p.1 = i → lkp S i = some p.2 := by
  induction S with
  | nil => intro j p _ h; simp at h
  | cons q S ih =>
    intro j p hn h e
    cases j with
    | zero =>
      rw [List.getElem?_cons_zero] at h
      cases h
      unfold lkp
      rw [if_pos e]
    | succ j =>
      rw [List.getElem?_cons_succ] at h
      rw [kys, List.map_cons] at hn
      have hn2 := List.nodup_cons.1 hn
      unfold lkp
      rw [if_neg (fun w => hn2.1 (by rw [w, ← e]; exact List.mem_map.2 ⟨p, List.mem_of_getElem? h, rfl⟩))]
      exact ih hn2.2 h e
/-- All but one number. -/
def wo (S : Its) (i : Int) : Its := S.filter fun p => p.1 ≠ i
theorem wo_erase {i : Int} : ∀ {S : Its} {j : Nat} {p : Int × Value}, (kys S).Nodup → S[j]? = some p → p.1 = i → S.eraseIdx j = wo S i
  | [], j, p, _, h, _ => by simp at h
  | q :: S, j, p, hn, h, e => by
    rw [kys, List.map_cons] at hn
    have hn2 := List.nodup_cons.1 hn
    cases j with
    | zero =>
      rw [List.getElem?_cons_zero] at h
      cases h
      unfold wo
      rw [List.filter_cons, if_neg (by simp [e])]
      show S = _
      symm
      refine List.filter_eq_self.2 fun r hr => ?_
      simp only [ne_eq, decide_not, Bool.not_eq_true', decide_eq_false_iff_not]
      exact fun w => hn2.1 (by rw [e, ← w]; exact List.mem_map.2 ⟨r, hr, rfl⟩)
    | succ j =>
      rw [List.getElem?_cons_succ] at h
      have ne : q.1 ≠ i := fun w => hn2.1 (by rw [w, ← e]; exact List.mem_map.2 ⟨p, List.mem_of_getElem? h, rfl⟩)
      unfold wo
      rw [List.filter_cons, if_pos (by simp [ne]), List.eraseIdx_cons_succ, wo_erase hn2.2 h e]
      rfl
theorem wo_sub {S : Its} {i : Int} : List.Sublist (wo S i) S := List.filter_sublist
theorem wo_nod {S : Its} {i : Int} (h : (kys S).Nodup) : (kys (wo S i)).Nodup := (List.Sublist.map _ wo_sub).nodup h
theorem wo_len {S : Its} {i : Int} (hn : (kys S).Nodup) (h : i ∈ kys S) : (wo S i).length + 1 = S.length := by
  obtain ⟨p, hp, e⟩ := List.mem_map.1 h
  obtain ⟨j, hj⟩ := List.getElem?_of_mem hp
  have hl := (List.getElem?_eq_some_iff.1 hj).1
  rw [← wo_erase hn hj e, List.length_eraseIdx, if_pos hl]
  omega
/-- The map in block b holds these items at these numbers, each number once. -/
structure MI (W : World) (b : Nat) (S : Its) : Prop where
  map : ∃ es clock, W.heap[b]? = some (.map es clock) ∧ es.toList.map (fun e => (e.key, e.val)) = S.map (fun p => (Value.int .i64 p.1, p.2))
  num : ∀ p ∈ S, I64 p.1
  nod : (kys S).Nodup
theorem und3 : Try.prog.underlying 3 = some (.int .i64) := by kernel_rfl
theorem keyI {i : Int} (h : I64 i) : keyOf Try.prog 3 (.int .i64 i) = some (.int .i64 i) := by
  refine Maps.keyOf_int_mk und3 ?_
  have := h.1
  have := h.2
  simp [Lit.wf, IntKind.min, IntKind.max, IntKind.bits, IntKind.signed]
  omega
theorem lawI : Maps.Keyed Try.prog 3 := Maps.int_keyed und3
section
variable {W : World} {b : Nat} {S : Its} {i : Int}
theorem MI.keys (h : MI W b S) {es : Array MapEntry} {clock : Nat} (hb : W.heap[b]? = some (.map es clock)) : es.toList.map (fun e => (e.key, e.val)) = S.map (fun p => (Value.int .i64 p.1, p.2)) := by
  obtain ⟨es', clock', hb', hk⟩ := h.map
  rw [hb'] at hb
  cases hb
  exact hk
theorem MI.find (h : MI W b S) (hi : I64 i) : ∃ es clock, W.heap[b]? = some (.map es clock) ∧
    (((Instr.findKey 3 (.int .i64 i) es.toList).run Try.prog W = .ok none W ∧ i ∉ kys S) ∨ ∃ (j : Nat) (p : Int × Value) (e : MapEntry), (Instr.findKey 3 (.int .i64 i) es.toList).run Try.prog W = .ok (some (j, p.2)) W ∧ es.toList[j]? = some e ∧ e.key = .int .i64 i ∧ S[j]? = some p ∧ p.1 = i) := by
  obtain ⟨⟨es, clock, hb, hk⟩, hy, -⟩ := h
  refine ⟨es, clock, hb, ?_⟩
  have hlen : es.toList.length = S.length := by have := congrArg List.length hk; simpa using this
  have hat : ∀ (j : Nat) (e : MapEntry), es.toList[j]? = some e → ∃ p, S[j]? = some p ∧ e.key = .int .i64 p.1 ∧ e.val = p.2 := fun j e he => by
    have h1 : (es.toList.map (fun e => (e.key, e.val)))[j]? = some (e.key, e.val) := by rw [List.getElem?_map, he]; rfl
    rw [hk, List.getElem?_map] at h1
    obtain ⟨p, hp, e2⟩ := Option.map_eq_some_iff.1 h1
    exact ⟨p, hp, (congrArg Prod.fst e2).symm, (congrArg Prod.snd e2).symm⟩
  rcases lawI.find W (keyI hi) es.toList (fun e he => by
    obtain ⟨j, hj⟩ := List.getElem?_of_mem he
    obtain ⟨p, hp, e2, -⟩ := hat j e hj
    rw [e2]; exact ⟨_, keyI (hy p (List.mem_of_getElem? hp))⟩) with ⟨r, n⟩ | ⟨j, e, r, q, p⟩
  · refine Or.inl ⟨r, fun hin => ?_⟩
    obtain ⟨g, hg, e2⟩ := List.mem_map.1 hin
    obtain ⟨j, hj⟩ := List.getElem?_of_mem hg
    have hjl : j < es.toList.length := by rw [hlen]; exact (List.getElem?_eq_some_iff.1 hj).1
    have he : es.toList[j]? = some es.toList[j] := List.getElem?_eq_getElem hjl
    obtain ⟨p', hp', e3, -⟩ := hat j _ he
    rw [hj] at hp'
    cases hp'
    exact n _ (List.mem_of_getElem? he) (e3.trans (by rw [e2]))
  · obtain ⟨p', hp', e2, e3⟩ := hat j e q
    refine Or.inr ⟨j, p', e, by rw [r, e3], q, p, hp', ?_⟩
    have := e2.symm.trans p
    injection this
theorem MI.look (h : MI W b S) (hi : I64 i) {t e : TypeId} {zv : Value} (hu : Try.prog.underlying t = some (.map 3 e)) (hz : (zeroValue e).run Try.prog W = .ok zv W) : (Instr.lookup t (.map (some b)) (.int .i64 i) true).run Try.prog W = .ok (.tuple #[(lkp S i).getD zv, .bool (lkp S i).isSome]) W := by
  have hn := h.nod
  obtain ⟨es, clock, hb, hr⟩ := h.find hi
  have hc := lawI.check W es.isEmpty (keyI hi)
  rcases hr with ⟨r, n⟩ | ⟨j, p, e, r, q, k, hp, hx⟩
  · rw [lkp_none.2 n]
    simp [Instr.lookup, run_underlying hu, MapKept.run_getObj_map hb, hc, r, Result.andThen, hz]
  · rw [lkp_at hn hp hx]
    simp [Instr.lookup, run_underlying hu, MapKept.run_getObj_map hb, hc, r, Result.andThen]
theorem look_nil (W : World) (hi : I64 i) {t e : TypeId} {zv : Value} (hu : Try.prog.underlying t = some (.map 3 e)) (hz : (zeroValue e).run Try.prog W = .ok zv W) : (Instr.lookup t (.map none) (.int .i64 i) true).run Try.prog W = .ok (.tuple #[zv, .bool false]) W := by
  have hc := lawI.check W true (keyI hi)
  rcases lawI.find W (keyI hi) [] (fun e he => by simp at he) with ⟨r, n⟩ | ⟨j, e, r, q, p⟩
  · simp [Instr.lookup, run_underlying hu, hc, r, Result.andThen, hz]
  · simp at q
theorem MI.put (h : MI W b S) (hi : I64 i) (hno : i ∉ kys S) (x : Value) {t e : TypeId} (hu : Try.prog.underlying t = some (.map 3 e)) : ∃ o, (Instr.mapUpdate t (.map (some b)) (.int .i64 i) x).run Try.prog W = .ok () (setBlock W b o) ∧ MI (setBlock W b o) b (S ++ [(i, x)]) := by
  have hc := lawI.check W false (keyI hi)
  have hy := h.num
  have hn := h.nod
  have hk0 := fun {es clock} => @MI.keys W b S h es clock
  obtain ⟨es, clock, hb, hr⟩ := h.find hi
  have hk := hk0 hb
  rcases hr with ⟨r, n⟩ | ⟨j, p, e, r, q, k, hp, hx⟩
  · refine ⟨Obj.map (es.push { key := .int .i64 i, val := x, born := clock }) (clock + 1), ?_, ?_⟩
    · simp [Instr.mapUpdate, run_underlying hu, MapKept.run_getObj_map hb, hc, r, Result.andThen]
      exact run_setObj_map _ hb
    · refine ⟨⟨_, _, heap_setBlock_same hb _, ?_⟩, fun p hp => ?_, ?_⟩
      · simp [hk]
      · rcases List.mem_append.1 hp with q | q
        · exact hy p q
        · simp at q; rw [q]; exact hi
      · rw [kys, List.map_append]
        refine List.nodup_append.2 ⟨hn, by simp, fun a ha c hc' e => ?_⟩
        simp at hc'
        subst hc' e
        exact n ha
  · exact absurd (by rw [← hx]; exact List.mem_map.2 ⟨p, List.mem_of_getElem? hp, rfl⟩) hno
theorem MI.del (h : MI W b S) (hi : I64 i) (hin : i ∈ kys S) {t e : TypeId} (hu : Try.prog.underlying t = some (.map 3 e)) (ty : TypeId) : ∃ o, (Builtin.delete_ #[t, 3] ty #[.map (some b), .int .i64 i]).run Try.prog W = .ok (.tuple #[]) (setBlock W b o) ∧ MI (setBlock W b o) b (wo S i) := by
  have hy := h.num
  have hn := h.nod
  have hk0 := fun {es clock} => @MI.keys W b S h es clock
  obtain ⟨es, clock, hb, hr⟩ := h.find hi
  have hk := hk0 hb
  have hc := lawI.check W es.isEmpty (keyI hi)
  rcases hr with ⟨r, n⟩ | ⟨j, p, e, r, q, k, hp, hx⟩
  · exact absurd hin n
  · refine ⟨Obj.map (es.eraseIdxIfInBounds j) clock, ?_, ?_⟩
    · simp [Builtin.delete_, run_underlying hu, MapKept.run_getObj_map hb, hc, r, Result.andThen]
      rw [run_setObj_map _ hb]
      rfl
    · refine ⟨⟨_, _, heap_setBlock_same hb _, ?_⟩, fun p hp => hy p (wo_sub.mem hp), wo_nod hn⟩
      rw [← wo_erase hn hp hx, map_eraseIdx, ← hk, ← map_eraseIdx]
      have hl : j < es.size := by have := (List.getElem?_eq_some_iff.1 q).1; simpa using this
      rw [Array.eraseIdxIfInBounds_eq, dif_pos hl]
      simp
theorem MI.delA (h : MI W b S) (hi : I64 i) (hin : i ∈ kys S) {t e : TypeId} (hu : Try.prog.underlying t = some (.map 3 e)) : ∃ o, (∀ ty, (Builtin.delete_ #[t, 3] ty #[.map (some b), .int .i64 i]).run Try.prog W = .ok (.tuple #[]) (setBlock W b o)) ∧ MI (setBlock W b o) b (wo S i) := by
  obtain ⟨o, h1, h2⟩ := h.del hi hin hu 0
  refine ⟨o, fun ty => ?_, h2⟩
  rw [← h1]
  rfl
theorem kys_of {x : Value} (h : lkp S i = some x) : i ∈ kys S := Classical.byContradiction fun w => by rw [lkp_none.2 w] at h; cases h
theorem MI.lt (h : MI W b S) : b < W.heap.size := by
  obtain ⟨es, clock, hb, -⟩ := h.map
  exact (Array.getElem?_eq_some_iff.1 hb).1
theorem MI.keep {X : World} (h : MI W b S) (e : X.heap[b]? = W.heap[b]?) : MI X b S := by
  obtain ⟨es, clock, q, r⟩ := h.map
  exact ⟨⟨es, clock, by rw [e]; exact q, r⟩, h.num, h.nod⟩
theorem MI.on {X : World} (h : MI W b S) (hb : Below W.heap.size W X) : MI X b S := h.keep (hb.block b h.lt)
theorem MI.ne (h : MI W b S) {g : Nat} {c : Array Value} {t : TypeId} (hg : W.heap[g]? = some (.cells c t)) : b ≠ g := fun e => by
  obtain ⟨es, clock, hb, -⟩ := h.map
  rw [e, hg] at hb
  cases hb
theorem MI.len (h : MI W b S) {es : Array MapEntry} {clock : Nat} (hb : W.heap[b]? = some (.map es clock)) : es.size = S.length := by
  have := congrArg List.length (h.keys hb)
  simpa using this
end
theorem mi_new (W : World) : MI (W.alloc (.map #[] 0)) W.heap.size [] := ⟨⟨#[], 0, heapNew W _, rfl⟩, by simp, by simp⟩
section
variable {o : Oper} {a : Act} {w : World}
theorem execLkp {x y : Operand} {t e : TypeId} {m zv : Value} {S : Its} {i : Int} (ho : o.op = .lookup t x y true) (hx : a.eval x = m) (hy : a.eval y = .int .i64 i) (hu : Try.prog.underlying t = some (.map 3 e)) (hz : (zeroValue e).run Try.prog w = .ok zv w) (hi : I64 i) (hm : m = .map none ∧ S = [] ∨ ∃ b, m = .map (some b) ∧ MI w b S) : (execOp a.eval o).run Try.prog w = .ok (.value (.tuple #[(lkp S i).getD zv, .bool (lkp S i).isSome])) w := by
  unfold execOp
  rcases hm with ⟨rfl, rfl⟩ | ⟨b, rfl, hm⟩
  · simp only [ho, hx, hy, Sem.run_bind, look_nil w hi hu hz, Result.andThen_ok, Sem.run_pure]
    rfl
  · simp only [ho, hx, hy, Sem.run_bind, hm.look hi hu hz, Result.andThen_ok, Sem.run_pure]
theorem execLenM {x : Operand} {t e : TypeId} {m : Value} {S : Its} (ho : o.op = .call { callee := .builtin .len, args := #[x], argTypes := #[t] }) (hx : a.eval x = m) (hu : Try.prog.underlying t = some (.map 3 e)) (hm : m = .map none ∧ S = [] ∨ ∃ b, m = .map (some b) ∧ MI w b S) : (execOp a.eval o).run Try.prog w = .ok (.value (.int .i64 ((S.length : Nat) : Int))) w := by
  unfold execOp
  rcases hm with ⟨rfl, rfl⟩ | ⟨b, rfl, hm⟩
  · simp only [ho, resolve, invoke, builtin, List.map_toArray, List.map_cons, List.map_nil, hx]
    simp [go_sem, Builtin.len_, run_underlying hu]
  · obtain ⟨es, clock, hb, -⟩ := hm.map
    have hl := hm.len hb
    simp only [ho, resolve, invoke, builtin, List.map_toArray, List.map_cons, List.map_nil, hx]
    simp [go_sem, Builtin.len_, run_underlying hu, MapKept.run_getObj_map hb, hl, Result.andThen]
theorem execMkM {t : TypeId} (ho : o.op = .makeMap t none) : (execOp a.eval o).run Try.prog w = .ok (.value (.map (some w.heap.size))) (w.alloc (.map #[] 0)) := by
  unfold execOp
  simp only [ho, Option.map_none, Sem.run_bind, show (Instr.makeMap t none).run Try.prog w = .ok (.map (some w.heap.size)) (w.alloc (.map #[] 0)) from rfl, Result.andThen_ok, Sem.run_pure]
end
/-- The cells of a buffer. -/
def bC (m : Value) (n : Nat) : Array Value := #[m, .int .i64 ((n : Nat) : Int)]
theorem bC_at {W : World} {g : Nat} {m : Value} {n : Nat} {t : TypeId} (h : W.heap[g]? = some (.cells (bC m n) t)) : W.cell? ⟨g, 0, none⟩ = some m ∧ W.cell? ⟨g, 1, none⟩ = some (.int .i64 ((n : Nat) : Int)) :=
  ⟨by rw [cell_of_row _ _ _ _ _ _ h]; rfl, by rw [cell_of_row _ _ _ _ _ _ h]; rfl⟩
theorem bC_set0 {W : World} {g : Nat} {m u : Value} {n : Nat} {t : TypeId} (h : W.heap[g]? = some (.cells (bC m n) t)) : (W.setCell ⟨g, 0, none⟩ u).heap[g]? = some (.cells (bC u n) t) := heap4 _ h
theorem bC_set1 {W : World} {g : Nat} {m : Value} {n k : Nat} {t : TypeId} (h : W.heap[g]? = some (.cells (bC m n) t)) : (W.setCell ⟨g, 1, none⟩ (.int .i64 ((k : Nat) : Int))).heap[g]? = some (.cells (bC m k) t) := heap4 _ h
/-- What a buffer's map is. -/
def MpO (W : World) (F : Nat → Prop) (m : Value) (S : Its) : Prop := m = .map none ∧ S = [] ∨ ∃ b, m = .map (some b) ∧ F b ∧ MI W b S
/-- A buffer in memory: its blocks F, what waits S, what comes next n. -/
structure Bq (t : TypeId) (W : World) (F : Nat → Prop) (g : Nat) (m : Value) (S : Its) (n : Nat) : Prop where
  gF : F g
  hg : W.heap[g]? = some (.cells (bC m n) t)
  mp : MpO W F m S
  lt : ∀ b, F b → b < W.heap.size
def BR (t : TypeId) (W : World) (F : Nat → Prop) (v : Value) (S : Its) (n : Nat) : Prop := ∃ g m, v = .pointer (some ⟨g, 0, none⟩) ∧ Bq t W F g m S n
section
variable {t : TypeId} {W X : World} {F : Nat → Prop} {g n : Nat} {m v : Value} {S : Its}
theorem MpO.op (h : MpO W F m S) : m = .map none ∧ S = [] ∨ ∃ b, m = .map (some b) ∧ MI W b S := h.imp id fun ⟨b, e, _, q⟩ => ⟨b, e, q⟩
theorem Bq.frame (h : Bq t W F g m S n) (e : ∀ b, F b → X.heap[b]? = W.heap[b]?) (hs : W.heap.size ≤ X.heap.size) : Bq t X F g m S n :=
  ⟨h.gF, by rw [e g h.gF]; exact h.hg, h.mp.imp id fun ⟨b, e1, q, r⟩ => ⟨b, e1, q, r.keep (e b q)⟩, fun b hb => Nat.lt_of_lt_of_le (h.lt b hb) hs⟩
theorem Bq.on (h : Bq t W F g m S n) (hb : Below W.heap.size W X) : Bq t X F g m S n := h.frame (fun b hF => hb.block b (h.lt b hF)) hb.size
theorem BR.frame (h : BR t W F v S n) (e : ∀ b, F b → X.heap[b]? = W.heap[b]?) (hs : W.heap.size ≤ X.heap.size) : BR t X F v S n := by
  obtain ⟨g, m, e1, q⟩ := h
  exact ⟨g, m, e1, q.frame e hs⟩
theorem BR.on (h : BR t W F v S n) (hb : Below W.heap.size W X) : BR t X F v S n := by
  obtain ⟨g, m, e1, q⟩ := h
  exact ⟨g, m, e1, q.on hb⟩
theorem BR.lt (h : BR t W F v S n) : ∀ b, F b → b < W.heap.size := by
  obtain ⟨g, m, e1, q⟩ := h
  exact q.lt
theorem BR.nod (h : BR t W F v S n) : (kys S).Nodup := by
  obtain ⟨g, m, e1, q⟩ := h
  rcases q.mp with ⟨_, rfl⟩ | ⟨b, _, _, h⟩
  · simp
  · exact h.nod
end
theorem sv_blk {F : Nat → Prop} {V X : World} {b : Nat} (h : Saved F V X) (hb : F b ∨ V.heap.size ≤ b) {o : Obj} : Saved F V (setBlock X b o) := by
  refine ⟨h.os, h.tape, h.output, ?_, fun k hk hk2 => ?_⟩
  · have : (setBlock X b o).heap.size = X.heap.size := by simp [setBlock]
    rw [this]; exact h.size
  · have ne : k ≠ b := fun e => by rcases hb with q | q; exact hk2 (e ▸ q); omega
    have : (setBlock X b o).heap[k]? = X.heap[k]? := by simp [setBlock, ne.symm]
    rw [this]; exact h.block k hk hk2
end Go.Proofs.Ytnfokemikcigbaa.Ord
