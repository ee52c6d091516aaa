import Derived.Test.YtejhbfbnljioeaaGreatDoorC9c
import Derived.Test.YtejhbfbnljioeaaGreatDoorI1
import Derived.WideKeyArr
import Derived.MapKept
import Derived.Lib.BytesEntry
import Derived.Sort.Grow
namespace Go.Proofs.YtejhbfbnljioeaaGreatDoor.Win
open Go.RowKit Gf8 Aes By8 Cel Cf
/- The reference's Len, Has. Written by tools/mkC9d.py. -/

/-- The epochs as a list. -/
def tgL (n : Nat) (t : Nat → Nat → Nat) : List Nat := (List.range n).map fun k => tv (t k) 16
def esL (n : Nat) (nu : Nat → Int) (ln : Nat → Nat) (t : Nat → Nat → Nat → Nat) : List Ep := (List.range n).map fun j => (nu j, tgL (ln j) (t j))
theorem mem_tgL {z n : Nat} {t : Nat → Nat → Nat} : z ∈ tgL n t ↔ ∃ k, k < n ∧ tv (t k) 16 = z := by
  unfold tgL
  rw [List.mem_map]
  exact ⟨fun ⟨k, h1, h2⟩ => ⟨k, List.mem_range.1 h1, h2⟩, fun ⟨k, h1, h2⟩ => ⟨k, List.mem_range.2 h1, h2⟩⟩
theorem mem_esL {z n : Nat} {nu : Nat → Int} {ln : Nat → Nat} {t : Nat → Nat → Nat → Nat} : z ∈ wAll (esL n nu ln t) ↔ ∃ j, j < n ∧ ∃ k, k < ln j ∧ tv (t j k) 16 = z := by
  rw [mem_all]
  unfold esL
  constructor
  · rintro ⟨x, h1, h2⟩
    obtain ⟨j, h3, rfl⟩ := List.mem_map.1 h1
    exact ⟨j, List.mem_range.1 h3, mem_tgL.1 h2⟩
  · rintro ⟨j, h1, h2⟩
    exact ⟨_, List.mem_map.2 ⟨j, List.mem_range.2 h1, rfl⟩, mem_tgL.2 h2⟩
section
variable {o : Oper} {a : Act} {w : World}
theorem range16w {b off : Nat} {f : Nat → Nat} (h : ∀ j, j < 16 → w.cell? ⟨b, off + j, none⟩ = some (.int .u8 ((f j : Nat) : Int))) : w.rangeAt b off (bytesL 16 f) := by
  intro j v hv
  have lj : j < 16 := by have := (List.getElem?_eq_some_iff.1 hv).1; rw [bytesL_len] at this; exact this
  rw [bytesL_at 16 f lj] at hv
  rw [h j lj]; exact hv
theorem len16w (f : Nat → Nat) : (Tryz.prog.info? 44).map (·.size) = some (bytesL 16 f).length := by rw [bytesL_len]; kernel_rfl
theorem execLdT {x : Operand} {b off : Nat} {f : Nat → Nat} (ho : o.op = .load 44 x) (hx : a.eval x = .pointer (some ⟨b, off, none⟩)) (h : ∀ j, j < 16 → w.cell? ⟨b, off + j, none⟩ = some (.int .u8 ((f j : Nat) : Int))) : (execOp a.eval o).run Tryz.prog w = .ok (.value (.agg (bA 16 f))) w := by
  unfold execOp
  simp only [ho, hx, Sem.run_bind, run_loadAt_mid (P := Tryz.prog) w b off 44 (bytesL 16 f) _ (range16w h) Tryz.underlying44 rfl (len16w f), Result.andThen_ok, Sem.run_pure]
  rfl
theorem eqB_tv {f g : Nat → Nat} (hf : ∀ i, i < 16 → f i < 256) (hg : ∀ i, i < 16 → g i < 256) : eqB 16 f g = decide (tv f 16 = tv g 16) := by
  by_cases h : tv f 16 = tv g 16
  · rw [decide_eq_true h]
    exact eqB_true ((tv_iff hf hg).1 h)
  · rw [decide_eq_false h]
    cases hb : eqB 16 f g with
    | false => rfl
    | true =>
      unfold eqB at hb
      rw [List.all_eq_true] at hb
      exact absurd (tv_eq fun j hj => by
        have := hb j (List.mem_range.2 hj)
        have h2 : ((f j : Nat) : Int) = ((g j : Nat) : Int) := by simpa using this
        omega) h
theorem execeql16t {x y : Operand} {f g : Nat → Nat} (ho : o.op = .binOp .eql 44 x y 44) (hx : a.eval x = .agg (bA 16 f)) (hy : a.eval y = .agg (bA 16 g)) (h : eqB 16 f g = true) : (execOp a.eval o).run Tryz.prog w = .ok (.value (.bool true)) w := by
  rw [← h]; exact exec_eql16 ho hx hy
theorem execeql16f {x y : Operand} {f g : Nat → Nat} (ho : o.op = .binOp .eql 44 x y 44) (hx : a.eval x = .agg (bA 16 f)) (hy : a.eval y = .agg (bA 16 g)) (h : eqB 16 f g = false) : (execOp a.eval o).run Tryz.prog w = .ok (.value (.bool false)) w := by
  rw [← h]; exact exec_eql16 ho hx hy
theorem execneq16t {x y : Operand} {f g : Nat → Nat} (ho : o.op = .binOp .neq 44 x y 44) (hx : a.eval x = .agg (bA 16 f)) (hy : a.eval y = .agg (bA 16 g)) (h : eqB 16 f g = true) : (execOp a.eval o).run Tryz.prog w = .ok (.value (.bool false)) w := by
  have := exec_neq16 (w := w) ho hx hy
  rw [h] at this
  exact this
end
end Go.Proofs.YtejhbfbnljioeaaGreatDoor.Win

namespace Go.Proofs.YtejhbfbnljioeaaGreatDoor.Win
open Go.RowKit Gf8 Aes By8 Cel Cf
open Go.ChangeMaps Go.MapKept
/- A map whose keys are tags, as a set. -/

theorem arrK : WideMaps.ArrKey Tryz.prog 44 5 16 := ⟨by kernel_rfl, by kernel_rfl, by kernel_rfl, by kernel_rfl⟩
theorem mapM_all {α β : Type} {g : α → Option β} {h : α → β} : ∀ {l : List α}, (∀ x ∈ l, g x = some (h x)) → l.mapM g = some (l.map h)
  | [], _ => rfl
  | x :: l, e => by
    rw [List.mapM_cons, e x (by simp), mapM_all (l := l) fun y hy => e y (by simp [hy])]
    rfl
theorem keyLits16 {f : Nat → Nat} (hf : ∀ i, i < 16 → f i < 256) (D : Nat) : Tryz.prog.keyLits (D + 2) 44 (bA 16 f).toList = some (((List.range 16).map fun i => [Lit.int .u8 ((f i : Nat) : Int)]).flatten) := by
  have hl : (bA 16 f).toList.length = 16 := by rw [Array.length_toList, bA_size]
  unfold Program.keyLits
  rw [arrK.hu]
  simp only [arrK.size, arrK.one, hl, if_true]
  rw [mapM_all (h := fun i => [Lit.int .u8 ((f i : Nat) : Int)])]
  · rfl
  · intro i hi
    have hi : i < 16 := List.mem_range.1 hi
    have e : ((bA 16 f).toList.drop (i * 1)).take 1 = [.int .u8 ((f i : Nat) : Int)] := by
      rw [Nat.mul_one, List.drop_eq_getElem_cons (by rw [hl]; exact hi)]
      have h2 := bA_at 16 f hi
      rw [← Array.getElem?_toList] at h2
      rw [List.getElem?_eq_getElem (by rw [hl]; exact hi)] at h2
      rw [Option.some.inj h2]
      rfl
    rw [e]
    unfold Program.keyLits
    have hu : Tryz.prog.underlying 5 = some (.int .u8) := by kernel_rfl
    rw [hu]
    have hw : (Lit.int .u8 ((f i : Nat) : Int)).wf = true := by
      have := hf i hi
      simp [Lit.wf, IntKind.min, IntKind.max, IntKind.bits, IntKind.signed]
      omega
    simp only [hw, and_self, if_true]
theorem key16 {f : Nat → Nat} (hf : ∀ i, i < 16 → f i < 256) : ∃ l, keyOf Tryz.prog 44 (.agg (bA 16 f)) = some l := by
  have hk : Tryz.prog.keyType 44 = true := by kernel_rfl
  have hs : ∃ m, Tryz.prog.types.size = m + 1 := ⟨Tryz.prog.types.size - 1, by kernel_rfl⟩
  obtain ⟨m, hm⟩ := hs
  have hv : (Value.agg (bA 16 f)).formed Tryz.prog 44 = true := by
    unfold Value.formed
    rw [arrK.hu, arrK.size]
    simp [bA_size]
  unfold keyOf
  rw [arrK.hu]
  simp only [hk, hv, Bool.and_true, if_true]
  have e := keyLits16 hf m
  rw [hm]
  show ∃ l, ((Tryz.prog.keyLits (m + 2) 44 (bA 16 f).toList).map _) = some l
  rw [e]
  exact ⟨_, rfl⟩
theorem agg_tv {f g : Nat → Nat} (hf : ∀ i, i < 16 → f i < 256) (hg : ∀ i, i < 16 → g i < 256) : (Value.agg (bA 16 f) = .agg (bA 16 g)) ↔ tv f 16 = tv g 16 := by
  constructor
  · intro h
    have h := Value.agg.inj h
    refine tv_eq fun j hj => ?_
    have h1 := bA_at 16 f hj
    rw [h, bA_at 16 g hj] at h1
    have h2 := (Value.int.inj (Option.some.inj h1)).2
    omega
  · intro h
    rw [bA_congr (n := 16) (f := f) (g := g) fun i hi => (tv_iff hf hg).1 h i hi]
abbrev tvs (S : List (Nat → Nat)) : List Nat := S.map fun f => tv f 16
/-- The map in block b holds just these tags, each once. -/
structure MS (W : World) (b : Nat) (S : List (Nat → Nat)) : Prop where
  map : ∃ es clock, W.heap[b]? = some (.map es clock) ∧ es.toList.map (·.key) = S.map (fun f => Value.agg (bA 16 f)) ∧ ∀ e ∈ es.toList, e.val = .agg #[]
  byt : ∀ f ∈ S, ∀ i, i < 16 → f i < 256
  nod : (tvs S).Nodup
/-- One tag more. -/
def insM (S : List (Nat → Nat)) (f : Nat → Nat) : List (Nat → Nat) := if tv f 16 ∈ tvs S then S else S ++ [f]
theorem mem_insM {S : List (Nat → Nat)} {f : Nat → Nat} {x : Nat} : x ∈ tvs (insM S f) ↔ x ∈ tvs S ∨ x = tv f 16 := by
  unfold insM
  split
  · rename_i h
    constructor
    · exact Or.inl
    · rintro (q | rfl)
      · exact q
      · exact h
  · simp [tvs]
section
variable {W : World} {b : Nat} {S : List (Nat → Nat)} {f : Nat → Nat}
theorem MS.find (h : MS W b S) (hf : ∀ i, i < 16 → f i < 256) : ∃ es clock, W.heap[b]? = some (.map es clock) ∧ es.toList.map (·.key) = S.map (fun f => Value.agg (bA 16 f)) ∧ (∀ e ∈ es.toList, e.val = .agg #[]) ∧
    (((Instr.findKey 44 (.agg (bA 16 f)) es.toList).run Tryz.prog W = .ok none W ∧ tv f 16 ∉ tvs S) ∨ ∃ j e, (Instr.findKey 44 (.agg (bA 16 f)) es.toList).run Tryz.prog W = .ok (some (j, .agg #[])) W ∧ es.toList[j]? = some e ∧ e.key = .agg (bA 16 f) ∧ tv f 16 ∈ tvs S) := by
  obtain ⟨⟨es, clock, hb, hk, hv⟩, hy, -⟩ := h
  refine ⟨es, clock, hb, hk, hv, ?_⟩
  have hmem : ∀ e ∈ es.toList, ∃ g ∈ S, e.key = .agg (bA 16 g) := fun e he => by
    have : e.key ∈ S.map (fun f => Value.agg (bA 16 f)) := by rw [← hk]; exact List.mem_map_of_mem he
    obtain ⟨g, hg, e2⟩ := List.mem_map.1 this
    exact ⟨g, hg, e2.symm⟩
  obtain ⟨lx, hlx⟩ := key16 hf
  rcases arrK.law.find W hlx es.toList (fun e he => by obtain ⟨g, hg, e2⟩ := hmem e he; rw [e2]; exact key16 (hy g hg)) with ⟨r, n⟩ | ⟨j, e, r, q, p⟩
  · refine Or.inl ⟨r, fun hin => ?_⟩
    obtain ⟨g, hg, e2⟩ := List.mem_map.1 hin
    have : Value.agg (bA 16 g) ∈ es.toList.map (·.key) := by rw [hk]; exact List.mem_map_of_mem hg
    obtain ⟨e, he, e3⟩ := List.mem_map.1 this
    exact n e he (e3.trans ((agg_tv (hy g hg) hf).2 e2))
  · have he : e ∈ es.toList := List.mem_of_getElem? q
    refine Or.inr ⟨j, e, by rw [r, hv e he], q, p, ?_⟩
    obtain ⟨g, hg, e2⟩ := hmem e he
    exact List.mem_map.2 ⟨g, hg, (agg_tv (hy g hg) hf).1 (e2.symm.trans p)⟩
theorem und68 : Tryz.prog.underlying 51 = some (.map 44 54) := by kernel_rfl
theorem MS.look (h : MS W b S) (hf : ∀ i, i < 16 → f i < 256) : (Instr.lookup 51 (.map (some b)) (.agg (bA 16 f)) true).run Tryz.prog W = .ok (.tuple #[.agg #[], .bool (decide (tv f 16 ∈ tvs S))]) W := by
  obtain ⟨lx, hlx⟩ := key16 hf
  obtain ⟨es, clock, hb, hk, hv, hr⟩ := h.find hf
  have hc := arrK.law.check W es.isEmpty hlx
  rcases hr with ⟨r, n⟩ | ⟨j, e, r, q, p, m⟩
  · simp [Instr.lookup, run_underlying und68, MapKept.run_getObj_map hb, hc, r, Result.andThen, n]
  · simp [Instr.lookup, run_underlying und68, MapKept.run_getObj_map hb, hc, r, Result.andThen, m]
theorem MS.put (h : MS W b S) (hf : ∀ i, i < 16 → f i < 256) : ∃ o, (Instr.mapUpdate 51 (.map (some b)) (.agg (bA 16 f)) (.agg #[])).run Tryz.prog W = .ok () (setBlock W b o) ∧ MS (setBlock W b o) b (insM S f) := by
  obtain ⟨lx, hlx⟩ := key16 hf
  have hc := arrK.law.check W false hlx
  have hst := arrK.law.stays W hlx
  have hy := h.byt
  have hn := h.nod
  obtain ⟨es, clock, hb, hk, hv, hr⟩ := h.find hf
  rcases hr with ⟨r, n⟩ | ⟨j, e, r, q, p, m⟩
  · refine ⟨Obj.map (es.push { key := .agg (bA 16 f), val := .agg #[], born := clock }) (clock + 1), ?_, ?_⟩
    · simp [Instr.mapUpdate, run_underlying und68, MapKept.run_getObj_map hb, hc, r, Result.andThen]
      exact run_setObj_map _ hb
    · have e : insM S f = S ++ [f] := if_neg n
      rw [e]
      refine ⟨⟨_, _, heap_setBlock_same hb _, by simp [hk], ?_⟩, ?_, ?_⟩
      · intro x hx
        simp at hx
        rcases hx with hx | rfl
        · exact hv x (by simpa using hx)
        · rfl
      · intro g hg
        simp at hg
        rcases hg with hg | rfl
        · exact hy g hg
        · exact hf
      · simp only [tvs, List.map_append, List.map_cons, List.map_nil]
        refine List.nodup_append.2 ⟨hn, by simp, fun a ha c hc' e => ?_⟩
        simp at hc'
        subst hc' e
        exact n ha
  · have e3 : insM S f = S := if_pos m
    rw [e3]
    refine ⟨Obj.map (es.modify j fun e => { e with key := .agg (bA 16 f), val := .agg #[] }) clock, ?_, ?_⟩
    · have e4 : ((es[j]?).map (·.key)).getD (.agg (bA 16 f)) = .agg (bA 16 f) := by
        rw [← Array.getElem?_toList, q]; exact p
      simp [Instr.mapUpdate, run_underlying und68, MapKept.run_getObj_map hb, hc, r, Result.andThen, e4, hst]
      exact run_setObj_map _ hb
    · refine ⟨⟨_, _, heap_setBlock_same hb _, ?_, ?_⟩, hy, hn⟩
      · rw [← hk]
        apply List.ext_getElem?
        intro i
        simp
        by_cases hj : j = i
        · subst hj
          have q2 : es[j]? = some e := by rw [← Array.getElem?_toList]; exact q
          simp [q2, p]
        · simp [hj]
      · intro x hx
        obtain ⟨i, hi⟩ := List.getElem?_of_mem hx
        rw [Array.getElem?_toList, Array.getElem?_modify] at hi
        split at hi
        · obtain ⟨y, hy2, rfl⟩ := Option.map_eq_some_iff.1 hi
          rfl
        · exact hv x (List.mem_of_getElem? (by rw [Array.getElem?_toList]; exact hi))
end
end Go.Proofs.YtejhbfbnljioeaaGreatDoor.Win

namespace Go.Proofs.YtejhbfbnljioeaaGreatDoor.Win
open Go.RowKit Gf8 Aes By8 Cel Cf
/- The reference's Has. Written by tools/mkC9e.py. -/

set_option maxRecDepth 100000 in
set_option maxHeartbeats 4000000 in
/-- The reference's Has. -/
theorem rhas16 (nw : Int) (ev : Value) (n : Nat) (nu : Nat → Int) (tw : Nat → Value) (ln : Nat → Nat) (t : Nat → Nat → Nat → Nat) (f : Nat → Nat) (V : World) (hf : ∀ i, i < 16 → f i < 256) (hE : Eps V ev n nu tw ln t) (hn : n < 9223372036854775808) :
    Calls Tryz.prog 25 #[.agg (wC nw ev), .agg (bA 16 f)] V fun e w' => e = .returned (.bool (decide (tv f 16 ∈ wAll (esL n nu ln t)))) ∧ Below V.heap.size V w' := by
  go_enter Tryz.func25, Tryz.ntmps25
  refine wo_ 36 [(0, .agg (wC nw ev)), (1, .agg (bA 16 f))] ?_
  rintro a A ⟨t0, t1, -⟩
  have BW : Below V.heap.size V V := Below.refl _ _
  refine wp_seq ?_
  obtain ⟨g2, egg2⟩ : ∃ z_ : Nat, V.heap.size = z_ := ⟨_, rfl⟩
  refine wi_ A (h2_ t0 t1) (rs_ 0 (fun a ee => ?_))
  refine stepV rfl rfl (execBoxW rfl (ee _)) ⟨.pointer (some ⟨g2, 0, none⟩), ⟨_, rfl, by subst egg2; rfl⟩, fun X0_1 hX => ?_⟩
  have bQ : Below V.heap.size V X0_1 := by subst hX egg2; exact (belNew V _)
  have Fg2 : (X0_1.heap[g2]? = some (.cells (wC nw ev) 27)) := by subst hX egg2; exact heapNew V _
  have bX := bQ
  clear bQ hX egg2 ee a
  obtain ⟨g3, egg3⟩ : ∃ z_ : Nat, X0_1.heap.size = z_ := ⟨_, rfl⟩
  refine rs_ 1 (fun a ee => ?_)
  refine stepV rfl rfl (execBox16 rfl (ee _)) ⟨.pointer (some ⟨g3, 0, none⟩), ⟨_, rfl, by subst egg3; rfl⟩, fun X0 hX => ?_⟩
  have bQ : Below X0_1.heap.size X0_1 X0 := by subst hX egg3; exact (belNew X0_1 _)
  have Fg3 : (X0.heap[g3]? = some (.cells (bA 16 f) 44)) := by subst hX egg3; exact heapNew X0_1 _
  replace Fg2 := (on9 Fg2 bQ)
  replace bX := bX.trans (bQ.mono bX.size)
  clear bQ hX egg3 ee a
  refine rg_ [(2, .pointer (some ⟨g2, 0, none⟩)), (3, .pointer (some ⟨g3, 0, none⟩))] ?_
  rintro a A ⟨t2, t3, -⟩
  replace hE := (hE.on bX)
  have ZX0 := bX.size
  replace BW := BW.trans (bX.mono BW.size)
  clear bX
  have BB : Below X0.heap.size X0 X0 := Below.refl _ _
  refine wp_seq ?_
  refine wp_seq ?_
  refine wi_ A (h2_ t2 t3) (rf_ [(5, .int .i64 ((0 : Nat) : Int))] (h2_ t2 t3) ?_)
  rintro a A ⟨t5, -⟩ ⟨t2, t3, -⟩
  refine wp_block ?_
  refine wp_loop (fun a W => ∃ (i : Nat), i ≤ n ∧ (∀ j_, j_ < i → ∀ k_, k_ < ln j_ → tv (t j_ k_) 16 ≠ tv f 16) ∧ (a.tmps.size = 36 ∧ a.defers = []) ∧ a.eval (.tmp 2) = .pointer (some ⟨g2, 0, none⟩) ∧ a.eval (.tmp 3) = .pointer (some ⟨g3, 0, none⟩) ∧ a.eval (.tmp 5) = .int .i64 ((i : Nat) : Int) ∧ Below X0.heap.size X0 W) (fun a _ => n - (intOf (a.eval (.tmp 5))).toNat) ⟨0, Nat.zero_le _, fun j_ h => absurd h (Nat.not_lt_zero j_), A, t2, t3, t5, BB⟩ ?_
  clear A t2 t3 t5 BB a
  rintro a XL2 ⟨i, hi, hi2, A, t2, t3, t5, BB⟩
  have esi := t5
  refine wp_seq ?_
  refine wp_seq ?_
  refine wi_ A (h3_ t2 t3 t5) (rv_ 1 (.pointer (some ⟨g2, 1, none⟩)) (fun a ee => execFldW1 rfl (ee _)) (rv_ 2 (ev) (fun a ee => execLdEs rfl (ee _) (wC_1 (on9 Fg2 BB))) (rv_ 3 (.int .i64 ((n : Nat) : Int)) (fun a ee => execLenEs (len := n) rfl (ee _) hE.shp) (rv_ 4 (.bool (decide (i < n))) (fun a ee => execLtW (p := i) (q := n) rfl (ee _) (ee _)) (rf_ [(11, .bool (decide (i < n)))] (h3_ t2 t3 t5) ?_)))))
  rintro a A ⟨t11, -⟩ ⟨t2, t3, t5, -⟩
  by_cases lti : i < n
  · rw [decide_eq_true lti] at t11
    refine wp_cond_true t11 ?_
    refine wp_skip ?_
    clear t11
    refine wp_seq ?_
    refine wp_block ?_
    have hT := hE.lists i lti
    have hln : ln i < 9223372036854775808 := by obtain ⟨_, c_, _, q1, q2, _⟩ := hT.shape; omega
    obtain ⟨eb, eo, ec, ee_, heb, hec⟩ := hE.at (show 0 < n by omega)
    have cE : ∀ X, Below X0.heap.size X0 X → X.cell? ⟨eb, eo + i * 2 + 1, none⟩ = some (tw i) := fun X hX => by rw [cell_below hX heb]; exact (hec i lti).2
    refine wp_seq ?_
    refine wi_ A (h3_ t2 t3 t5) (rf_ [(6, .int .i64 ((0 : Nat) : Int))] (h3_ t2 t3 t5) ?_)
    rintro a A ⟨t6, -⟩ ⟨t2, t3, t5, -⟩
    refine wp_block ?_
    refine wp_loop (fun a W => ∃ (k : Nat), k ≤ ln i ∧ (∀ k_, k_ < k → tv (t i k_) 16 ≠ tv f 16) ∧ (a.tmps.size = 36 ∧ a.defers = []) ∧ a.eval (.tmp 2) = .pointer (some ⟨g2, 0, none⟩) ∧ a.eval (.tmp 3) = .pointer (some ⟨g3, 0, none⟩) ∧ a.eval (.tmp 5) = .int .i64 ((i : Nat) : Int) ∧ a.eval (.tmp 6) = .int .i64 ((k : Nat) : Int) ∧ Below X0.heap.size X0 W) (fun a _ => ln i - (intOf (a.eval (.tmp 6))).toNat) ⟨0, Nat.zero_le _, fun k_ h => absurd h (Nat.not_lt_zero k_), A, t2, t3, t5, t6, BB⟩ ?_
    clear A t2 t3 t5 t6 BB a
    rintro a XL5 ⟨k, hk, hk2, A, t2, t3, t5, t6, BB⟩
    have esk := t6
    refine wp_seq ?_
    refine wp_seq ?_
    refine wi_ A (h4_ t2 t3 t5 t6) (rv_ 1 (.pointer (some ⟨g2, 1, none⟩)) (fun a ee => execFldW1 rfl (ee _)) (rv_ 2 (ev) (fun a ee => execLdEs rfl (ee _) (wC_1 (on9 Fg2 BB))) (rv_ 4 (.pointer (some ⟨eb, eo + i * 2, none⟩)) (fun a ee => execIdxEs (k := i) rfl ((ee _).trans ee_) (ee _) lti) (rv_ 5 (.pointer (some ⟨eb, eo + i * 2 + 1, none⟩)) (fun a ee => execFldE1 rfl (ee _)) (rv_ 6 (tw i) (fun a ee => execLdTs rfl (ee _) (cE XL5 BB)) (rv_ 7 (.int .i64 ((ln i : Nat) : Int)) (fun a ee => execLenTs (len := ln i) rfl (ee _) (hE.lists i lti).shp) (rv_ 8 (.bool (decide (k < ln i))) (fun a ee => execLtW (p := k) (q := ln i) rfl (ee _) (ee _)) (rf_ [(22, .bool (decide (k < ln i)))] (h4_ t2 t3 t5 t6) ?_))))))))
    rintro a A ⟨t22, -⟩ ⟨t2, t3, t5, t6, -⟩
    by_cases ltk : k < ln i
    · rw [decide_eq_true ltk] at t22
      refine wp_cond_true t22 ?_
      refine wp_skip ?_
      clear t22
      refine wp_seq ?_
      refine wp_block ?_
      obtain ⟨tb, to_, tc, et_, htb, htc⟩ := hT.at (show 0 < ln i by omega)
      have cT : ∀ X, Below X0.heap.size X0 X → ∀ j, j < 16 → X.cell? ⟨tb, to_ + k * 16 + j, none⟩ = some (.int .u8 ((t i k j : Nat) : Int)) := fun X hX j hj => by rw [cell_below hX htb]; exact htc k ltk j hj
      refine wp_seq ?_
      cases hq : eqB 16 (t i k) f with
      | true =>
        refine wj_ [0, 1, 2, 3, 4, 5, 6, 7, 8, 9, 10] [] [1, 5, 8, 9] [] A (h4_ t2 t3 t5 t6) (fun X7 bD => ?_)
        refine dw_ 0 (.pointer (some ⟨g2, 1, none⟩)) (fun a X ee => execFldW1 rfl (ee _)) (dv_ 1 (ev) (fun a X ee hb => execLdEs rfl (ee _) (wC_1 (on9 Fg2 (BB.trans (hb.mono BB.size))))) (dw_ 3 (.pointer (some ⟨eb, eo + i * 2, none⟩)) (fun a X ee => execIdxEs (k := i) rfl ((ee _).trans ee_) (ee _) lti) (dw_ 4 (.pointer (some ⟨eb, eo + i * 2 + 1, none⟩)) (fun a X ee => execFldE1 rfl (ee _)) (dv_ 5 (tw i) (fun a X ee hb => execLdTs rfl (ee _) (cE X (BB.trans (hb.mono BB.size)))) (dw_ 7 (.pointer (some ⟨tb, to_ + k * 16, none⟩)) (fun a X ee => execIdxTs (k := k) rfl ((ee _).trans et_) (ee _) ltk) (dv_ 8 (.agg (bA 16 (t i k))) (fun a X ee hb => execLdT rfl (ee _) (fun j_ hj_ => cT X (BB.trans (hb.mono BB.size)) j_ hj_)) (dv_ 9 (.agg (bA 16 f)) (fun a X ee hb => execLdT rfl (ee _) (fun j_ hj_ => at16 (on9 Fg3 (BB.trans (hb.mono BB.size))) hj_)) (dw_ 10 (.bool true) (fun a X ee => execeql16t rfl (ee _) (ee _) hq) (dz_ [(35, .bool true)] (h4_ t2 t3 t5 t6) ?_)))))))))
        rintro a A ⟨t35, -⟩ ⟨t2, t3, t5, t6, -⟩
        replace BB := BB.trans (bD.mono BB.size)
        clear bD
        refine wp_cond_true t35 ?_
        clear t35
        refine wp_seq ?_
        refine wi_ A (h4_ t2 t3 t5 t6) (rg_ [(4, .bool true)] ?_)
        rintro a A ⟨t4, -⟩
        have BW2 := BW.trans (BB.mono BW.size)
        refine wp_ret ?_
        repeat (first | with_reducible refine ret_in ?_ | with_reducible refine ret_then ?_)
        refine bodyPost_ret (results_tmp rfl _ _ _) A.2 ⟨?_, BW2⟩
        show Ending.returned (a.eval (.tmp 4)) = _
        rw [t4]
        rw [decide_eq_true (mem_esL.2 ⟨i, lti, k, ltk, of_decide_eq_true (by rw [← eqB_tv (hT.byt k ltk) hf]; exact hq)⟩)]
      | false =>
        refine wj_ [0, 1, 2, 3, 4, 5, 6, 7, 8, 9, 10] [] [1, 5, 8, 9] [] A (h4_ t2 t3 t5 t6) (fun X7 bD => ?_)
        refine dw_ 0 (.pointer (some ⟨g2, 1, none⟩)) (fun a X ee => execFldW1 rfl (ee _)) (dv_ 1 (ev) (fun a X ee hb => execLdEs rfl (ee _) (wC_1 (on9 Fg2 (BB.trans (hb.mono BB.size))))) (dw_ 3 (.pointer (some ⟨eb, eo + i * 2, none⟩)) (fun a X ee => execIdxEs (k := i) rfl ((ee _).trans ee_) (ee _) lti) (dw_ 4 (.pointer (some ⟨eb, eo + i * 2 + 1, none⟩)) (fun a X ee => execFldE1 rfl (ee _)) (dv_ 5 (tw i) (fun a X ee hb => execLdTs rfl (ee _) (cE X (BB.trans (hb.mono BB.size)))) (dw_ 7 (.pointer (some ⟨tb, to_ + k * 16, none⟩)) (fun a X ee => execIdxTs (k := k) rfl ((ee _).trans et_) (ee _) ltk) (dv_ 8 (.agg (bA 16 (t i k))) (fun a X ee hb => execLdT rfl (ee _) (fun j_ hj_ => cT X (BB.trans (hb.mono BB.size)) j_ hj_)) (dv_ 9 (.agg (bA 16 f)) (fun a X ee hb => execLdT rfl (ee _) (fun j_ hj_ => at16 (on9 Fg3 (BB.trans (hb.mono BB.size))) hj_)) (dw_ 10 (.bool false) (fun a X ee => execeql16f rfl (ee _) (ee _) hq) (dz_ [(35, .bool false)] (h4_ t2 t3 t5 t6) ?_)))))))))
        rintro a A ⟨t35, -⟩ ⟨t2, t3, t5, t6, -⟩
        replace BB := BB.trans (bD.mono BB.size)
        clear bD
        refine wp_cond_false t35 ?_
        refine wp_skip ?_
        clear t35
        have hne : tv (t i k) 16 ≠ tv f 16 := of_decide_eq_false (by rw [← eqB_tv (hT.byt k ltk) hf]; exact hq)
        refine wi_ A (h4_ t2 t3 t5 t6) (rv_ 1 (.int .i64 ((k + 1 : Nat) : Int)) (fun a ee => execAd8 (p := k) (q := 1) rfl (ee _) rfl (by omega)) (rf_ [(6, .int .i64 ((k + 1 : Nat) : Int))] (h3_ t2 t3 t5) ?_))
        rintro a A ⟨t6, -⟩ ⟨t2, t3, t5, -⟩
        exact ⟨⟨k + 1, ltk, fun k_ h => by rcases Nat.lt_or_eq_of_le (Nat.le_of_lt_succ h) with h_ | h_; exact hk2 k_ h_; exact h_ ▸ hne, A, t2, t3, t5, t6, BB⟩, by show ln i - (intOf (a.eval (.tmp 6))).toNat < ln i - (intOf (Act.eval _ (.tmp 6))).toNat; rw [t6, esk]; show ln i - (k + 1) < ln i - k; omega⟩
    · rw [decide_eq_false ltk] at t22
      refine wp_cond_false t22 ?_
      refine wp_exit ?_
      first | with_reducible refine exit_in ?_ | with_reducible refine exit_then (exit_in ?_) | with_reducible refine exit_then (exit_then (exit_in ?_)) | refine exit_in ?_ | refine exit_then (exit_in ?_) | refine exit_then (exit_then (exit_in ?_))
      clear t22 esk
      obtain rfl : k = ln i := by omega
      clear t6
      refine wi_ A (h3_ t2 t3 t5) (rv_ 1 (.int .i64 ((i + 1 : Nat) : Int)) (fun a ee => execAd8 (p := i) (q := 1) rfl (ee _) rfl (by omega)) (rf_ [(5, .int .i64 ((i + 1 : Nat) : Int))] (h2_ t2 t3) ?_))
      rintro a A ⟨t5, -⟩ ⟨t2, t3, -⟩
      exact ⟨⟨i + 1, lti, fun j_ h => by rcases Nat.lt_or_eq_of_le (Nat.le_of_lt_succ h) with h_ | h_; exact hi2 j_ h_; exact h_ ▸ hk2, A, t2, t3, t5, BB⟩, by show n - (intOf (a.eval (.tmp 5))).toNat < n - (intOf (Act.eval _ (.tmp 5))).toNat; rw [t5, esi]; show n - (i + 1) < n - i; omega⟩
  · rw [decide_eq_false lti] at t11
    refine wp_cond_false t11 ?_
    refine wp_exit ?_
    first | with_reducible refine exit_in ?_ | with_reducible refine exit_then (exit_in ?_) | with_reducible refine exit_then (exit_then (exit_in ?_)) | refine exit_in ?_ | refine exit_then (exit_in ?_) | refine exit_then (exit_then (exit_in ?_))
    clear t11 esi
    obtain rfl : i = n := by omega
    have BW2 := BW.trans (BB.mono BW.size)
    refine wp_seq ?_
    refine wi_ A (h3_ t2 t3 t5) (rg_ [(4, .bool false)] ?_)
    rintro a A ⟨t4, -⟩
    refine wp_ret ?_
    refine bodyPost_ret (results_tmp rfl _ _ _) A.2 ⟨?_, BW2⟩
    show Ending.returned (a.eval (.tmp 4)) = _
    rw [t4]
    rw [decide_eq_false (fun h_ => by obtain ⟨j_, q1, k_, q2, q3⟩ := mem_esL.1 h_; exact hi2 j_ q1 k_ q2 q3)]
end Go.Proofs.YtejhbfbnljioeaaGreatDoor.Win

namespace Go.Proofs.YtejhbfbnljioeaaGreatDoor.Win
open Go.RowKit Gf8 Aes By8 Cel Cf
/- Rows of tags; the reference's all. Written by tools/mkC9f.py. -/

/-- The cells of a row of tags. -/
def tgV (t : Nat → Nat → Nat) : Nat → List Value
  | 0 => []
  | n + 1 => tgV t n ++ bytesL 16 (t n)
theorem tgV_len (t : Nat → Nat → Nat) : ∀ n, (tgV t n).length = n * 16
  | 0 => rfl
  | n + 1 => by rw [tgV, List.length_append, tgV_len t n, bytesL_len]; omega
theorem tgV_at (t : Nat → Nat → Nat) : ∀ n j i, j < n → i < 16 → (tgV t n)[j * 16 + i]? = some (.int .u8 ((t j i : Nat) : Int))
  | 0, _, _, h, _ => by omega
  | n + 1, j, i, h, hi => by
    rw [tgV]
    by_cases q : j < n
    · rw [List.getElem?_append_left (by rw [tgV_len]; omega)]
      exact tgV_at t n j i q hi
    · obtain rfl : j = n := by omega
      rw [List.getElem?_append_right (by rw [tgV_len]; omega), tgV_len, Nat.add_sub_cancel_left]
      exact bytesL_at 16 _ hi
/-- One behind the other. -/
def catT (n : Nat) (t s : Nat → Nat → Nat) (k : Nat) : Nat → Nat := if k < n then t k else s (k - n)
theorem cat_byt {n m : Nat} {t s : Nat → Nat → Nat} (ht : ∀ j, j < n → ∀ i, i < 16 → t j i < 256) (hs : ∀ j, j < m → ∀ i, i < 16 → s j i < 256) : ∀ j, j < n + m → ∀ i, i < 16 → catT n t s j i < 256 := fun j hj i hi => by
  unfold catT
  by_cases q : j < n
  · rw [if_pos q]; exact ht j q i hi
  · rw [if_neg q]; exact hs _ (by omega) i hi
section
variable {W W' : World} {B n : Nat} {v : Value} {t : Nat → Nat → Nat}
theorem own_tgs (h : W.ownsRow B 44 16 v n (tgV t n)) (hb : ∀ j, j < n → ∀ i, i < 16 → t j i < 256) : Tgs W v n t := by
  rcases h.2 with ⟨rfl, rfl⟩ | ⟨g, cap, cur, rfl, _, hg, q1, q2, q3, q4⟩
  · exact ⟨⟨none, 0, rfl, Nat.le_refl _, by omega, fun h => absurd h (Nat.lt_irrefl _)⟩, hb, fun l c e => by injection e with _ _ e3; exact e3.symm⟩
  · have hm : maxLen < 9223372036854775808 := by decide
    refine ⟨⟨_, _, rfl, q1, by omega, fun _ => ⟨g, 0, rfl, (Array.getElem?_eq_some_iff.1 hg).1, fun j hj i hi => ?_⟩⟩, hb, fun l c e => by cases e⟩
    rw [cell_of_row _ _ _ _ _ _ hg, Nat.zero_add, ← Array.getElem?_toList]
    have h5 : (cur.toList.take (n * 16))[j * 16 + i]? = some (.int .u8 ((t j i : Nat) : Int)) := by rw [q4]; exact tgV_at t n j i hj hi
    rw [List.getElem?_take_of_lt (by omega)] at h5
    exact h5
end
end Go.Proofs.YtejhbfbnljioeaaGreatDoor.Win

namespace Go.Proofs.YtejhbfbnljioeaaGreatDoor.Win
open Go.RowKit Gf8 Aes By8 Cel Cf
/- Two lists in order made one; halves; what the reference's sorted needs. Written by tools/mkC9g.py. -/

section
variable {A B : Nat → Nat} {ma mb i j : Nat} {o : List Nat}
end
section
variable {W : World} {b off n c h : Nat} {t : Nat → Nat → Nat}
theorem Tgs.take {v : Value} (q : Tgs W v n t) (e : v = .slice (some ⟨b, off, none⟩) n c) (hh : h ≤ n) : Tgs W (.slice (some ⟨b, off, none⟩) h c) h t := by
  subst e
  obtain ⟨⟨a, c', e', h1, h2, h3⟩, hb, _⟩ := q
  injection e' with e1 _ e3
  subst e1 e3
  refine ⟨⟨_, _, rfl, by omega, h2, fun h0 => ?_⟩, fun j hj => hb j (by omega), fun l c e => by cases e⟩
  obtain ⟨b', o', e4, e5, e6⟩ := h3 (by omega)
  exact ⟨b', o', e4, e5, fun j hj => e6 j (by omega)⟩
theorem Tgs.drop {v : Value} (q : Tgs W v n t) (e : v = .slice (some ⟨b, off, none⟩) n c) (hh : h ≤ n) : Tgs W (.slice (some ⟨b, off + h * 16, none⟩) (n - h) (c - h)) (n - h) fun k => t (h + k) := by
  subst e
  obtain ⟨⟨a, c', e', h1, h2, h3⟩, hb, _⟩ := q
  injection e' with e1 _ e3
  subst e1 e3
  refine ⟨⟨_, _, rfl, by omega, by omega, fun h0 => ?_⟩, fun j hj => hb _ (by omega), fun l c e => by cases e⟩
  obtain ⟨b', o', e4, e5, e6⟩ := h3 (by omega)
  injection e4 with e4
  injection e4 with e7 e8 _
  subst e7 e8
  exact ⟨b, off + h * 16, rfl, e5, fun j hj i hi => by
    have := e6 (h + j) (by omega) i hi
    rw [show off + h * 16 + j * 16 + i = off + (h + j) * 16 + i by omega]
    exact this⟩
end
section
variable {o : Oper} {a : Act} {w : World}
end
end Go.Proofs.YtejhbfbnljioeaaGreatDoor.Win

namespace Go.Proofs.YtejhbfbnljioeaaGreatDoor.Win
open Go.RowKit Gf8 Aes By8 Cel Cf
/- What the reference's Check needs. Written by tools/mkC9i.py. -/

def epC (nu : Int) (v : Value) : Array Value := #[.int .i64 nu, v]
theorem epC_1 {W : World} {g : Nat} {nu : Int} {v : Value} {t : TypeId} (h : W.heap[g]? = some (.cells (epC nu v) t)) : W.cell? ⟨g, 0 + 1, none⟩ = some v := by rw [cell_of_row _ _ _ _ _ _ h]; rfl
section
variable {o : Oper} {a : Act} {w : World}
theorem exIgtr3 {x y : Operand} {p q : Int} (ho : o.op = .binOp .gtr 3 x y 3) (hx : a.eval x = .int .i64 p) (hy : a.eval y = .int .i64 q) : (execOp a.eval o).run Tryz.prog w = .ok (.value (.bool (decide (p > q)))) w := by
  unfold execOp
  simp only [ho, hx, hy]
  simp [go_sem]
theorem exIleq3 {x y : Operand} {p q : Int} (ho : o.op = .binOp .leq 3 x y 3) (hx : a.eval x = .int .i64 p) (hy : a.eval y = .int .i64 q) : (execOp a.eval o).run Tryz.prog w = .ok (.value (.bool (decide (p ≤ q)))) w := by
  unfold execOp
  simp only [ho, hx, hy]
  simp [go_sem]
theorem exIgeq3 {x y : Operand} {p q : Int} (ho : o.op = .binOp .geq 3 x y 3) (hx : a.eval x = .int .i64 p) (hy : a.eval y = .int .i64 q) : (execOp a.eval o).run Tryz.prog w = .ok (.value (.bool (decide (p ≥ q)))) w := by
  unfold execOp
  simp only [ho, hx, hy]
  simp [go_sem]
theorem exIeql3 {x y : Operand} {p q : Int} (ho : o.op = .binOp .eql 3 x y 3) (hx : a.eval x = .int .i64 p) (hy : a.eval y = .int .i64 q) : (execOp a.eval o).run Tryz.prog w = .ok (.value (.bool (decide (p = q)))) w := by
  unfold execOp
  simp only [ho, hx, hy]
  by_cases h : p = q
  · subst h; simp [go_sem]
  · simp [go_sem, h]
theorem exIneq3 {x y : Operand} {p q : Int} (ho : o.op = .binOp .neq 3 x y 3) (hx : a.eval x = .int .i64 p) (hy : a.eval y = .int .i64 q) : (execOp a.eval o).run Tryz.prog w = .ok (.value (.bool (decide (p ≠ q)))) w := by
  unfold execOp
  simp only [ho, hx, hy]
  by_cases h : p = q
  · subst h; simp [go_sem]
  · simp [go_sem, h]
theorem execLdWn {x : Operand} {g : Nat} {nw : Int} {v : Value} {t : TypeId} (ho : o.op = .load 27 x) (hx : a.eval x = .pointer (some ⟨g, 0, none⟩)) (hg : w.heap[g]? = some (.cells (wC nw v) t)) : (execOp a.eval o).run Tryz.prog w = .ok (.value (.agg (wC nw v))) w := by
  have h0 := wC_0 hg
  have h1 := wC_1 hg
  have hr := run_loadAt_mid (P := Tryz.prog) w g 0 27 [.int .i64 nw, v] _ (fun j z hz => by
    match j, hz with
    | 0, hz => rw [← hz]; exact h0
    | 1, hz => rw [← hz]; exact h1) Tryz.underlying27 rfl (by kernel_rfl)
  unfold execOp
  simp only [ho, hx, Sem.run_bind, hr, Result.andThen_ok, Sem.run_pure]
  rfl
theorem execLdEp {x : Operand} {b off : Nat} {nu : Int} {v : Value} (ho : o.op = .load 70 x) (hx : a.eval x = .pointer (some ⟨b, off, none⟩)) (h0 : w.cell? ⟨b, off + 0, none⟩ = some (.int .i64 nu)) (h1 : w.cell? ⟨b, off + 1, none⟩ = some v) : (execOp a.eval o).run Tryz.prog w = .ok (.value (.agg (epC nu v))) w := by
  have hr := run_loadAt_mid (P := Tryz.prog) w b off 70 [.int .i64 nu, v] _ (fun j z hz => by
    match j, hz with
    | 0, hz => rw [← hz]; exact h0
    | 1, hz => rw [← hz]; exact h1) Tryz.underlying70 rfl (by kernel_rfl)
  unfold execOp
  simp only [ho, hx, Sem.run_bind, hr, Result.andThen_ok, Sem.run_pure]
  rfl
end
end Go.Proofs.YtejhbfbnljioeaaGreatDoor.Win

namespace Go.Proofs.YtejhbfbnljioeaaGreatDoor.Win
open Go.RowKit Gf8 Aes By8 Cel Cf
/- Windows in memory of their own; what Open and Add need. Written by tools/mkC9m.py. -/

/-- A function changed at one place. -/
def up {α : Type} (f : Nat → α) (k : Nat) (z : α) (j : Nat) : α := if j = k then z else f j
theorem up_at {α : Type} (f : Nat → α) (k : Nat) (z : α) : up f k z k = z := if_pos rfl
theorem up_ne {α : Type} (f : Nat → α) {k j : Nat} (z : α) (h : j ≠ k) : up f k z j = f j := if_neg h
/-- The cells of a row of epochs. -/
def epV (nu : Nat → Int) (tw : Nat → Value) : Nat → List Value
  | 0 => []
  | n + 1 => epV nu tw n ++ [.int .i64 (nu n), tw n]
theorem epV_len (nu : Nat → Int) (tw : Nat → Value) : ∀ n, (epV nu tw n).length = n * 2
  | 0 => rfl
  | n + 1 => by rw [epV, List.length_append, epV_len]; show n * 2 + 2 = _; omega
theorem epV_at (nu : Nat → Int) (tw : Nat → Value) : ∀ n j, j < n → (epV nu tw n)[j * 2 + 0]? = some (.int .i64 (nu j)) ∧ (epV nu tw n)[j * 2 + 1]? = some (tw j)
  | 0, j, h => absurd h (Nat.not_lt_zero j)
  | n + 1, j, h => by
    rw [epV]
    by_cases e : j = n
    · subst e
      constructor
      · rw [List.getElem?_append_right (by rw [epV_len]; omega), epV_len, show j * 2 + 0 - j * 2 = 0 by omega]; rfl
      · rw [List.getElem?_append_right (by rw [epV_len]; omega), epV_len, show j * 2 + 1 - j * 2 = 1 by omega]; rfl
    · have := epV_at nu tw n j (by omega)
      exact ⟨by rw [List.getElem?_append_left (by rw [epV_len]; omega)]; exact this.1, by rw [List.getElem?_append_left (by rw [epV_len]; omega)]; exact this.2⟩
section
variable {W W' : World} {B n s : Nat} {t : TypeId} {v : Value} {xs : List Value}
theorem ownE_below (h : W.ownsRow B t s v n xs) (hb : Below W.heap.size W W') : W'.ownsRow B t s v n xs := by
  refine ⟨h.1, ?_⟩
  rcases h.2 with h | ⟨g, cap, cur, e, hB, hg, hr⟩
  · exact Or.inl h
  · exact Or.inr ⟨g, cap, cur, e, hB, by rw [hb.block _ (Array.getElem?_eq_some_iff.1 hg).1]; exact hg, hr⟩
theorem ownE_base {C : Nat} (h : W.ownsRow B t s v n xs) (hC : C ≤ B) : W.ownsRow C t s v n xs := by
  refine ⟨h.1, ?_⟩
  rcases h.2 with h | ⟨g, cap, cur, e, hB, hg, hr⟩
  · exact Or.inl h
  · exact Or.inr ⟨g, cap, cur, e, Nat.le_trans hC hB, hg, hr⟩
theorem ne_type {g k : Nat} {c d : Array Value} {u w : TypeId} (h1 : W.heap[g]? = some (.cells c u)) (h2 : W.heap[k]? = some (.cells d w)) (h : u ≠ w) : k ≠ g := fun q => by
  subst q
  rw [h1] at h2
  injection h2 with h2
  injection h2 with _ h2 _
  exact h h2
theorem ownE_setT {g : Nat} {c d : Array Value} {u : TypeId} (h : W.ownsRow B t s v n xs) (hg : W.heap[g]? = some (.cells c u)) (hu : u ≠ t) : (W.setRow g d).ownsRow B t s v n xs := by
  refine ⟨h.1, ?_⟩
  rcases h.2 with h | ⟨k, cap, cur, e, hB, hk, hr⟩
  · exact Or.inl h
  · exact Or.inr ⟨k, cap, cur, e, hB, by rw [setRow_other _ _ _ _ (ne_type hg hk hu)]; exact hk, hr⟩
theorem heapE_over {g : Nat} {c : Array Value} {u : TypeId} (h : W.ownsRow B t s v n xs) (hg : W.grownBy W' v.ownBlock) (hh : W.heap[g]? = some (.cells c u)) (hu : u ≠ t) : W'.heap[g]? = some (.cells c u) := by
  rw [hg.block g (Array.getElem?_eq_some_iff.1 hh).1 (fun q => ?_)]
  · exact hh
  · rcases h.2 with ⟨rfl, _⟩ | ⟨k, cap, cur, rfl, _, h1, _⟩
    · cases q
    · obtain rfl : g = k := by simpa [Value.ownBlock] using q
      exact ne_type h1 hh (fun e => hu e.symm) rfl
theorem ownE_over {B2 n2 s2 : Nat} {u : Value} {ys : List Value} {t2 : TypeId} (h : W.ownsRow B t s v n xs) (hu : W.ownsRow B2 t2 s2 u n2 ys) (gr : W.grownBy W' u.ownBlock) (ht : t ≠ t2) : W'.ownsRow B t s v n xs := by
  refine ⟨h.1, ?_⟩
  rcases h.2 with h | ⟨g, cap, cur, e, hB, hg, hr⟩
  · exact Or.inl h
  · exact Or.inr ⟨g, cap, cur, e, hB, heapE_over hu gr hg ht, hr⟩
end
/-- A list of epochs in memory of its own, each list of tags too. -/
structure NwE (B : Nat) (W : World) (v : Value) (n : Nat) (nu : Nat → Int) (tw : Nat → Value) (ln : Nat → Nat) (t : Nat → Nat → Nat → Nat) : Prop where
  row : W.ownsRow B 70 2 v n (epV nu tw n)
  lists : ∀ j, j < n → W.ownsRow B 44 16 (tw j) (ln j) (tgV (t j) (ln j))
  dis : ∀ i j, i < n → j < n → i ≠ j → ∀ b, (tw i).ownBlock = some b → (tw j).ownBlock ≠ some b
  byt : ∀ j, j < n → ∀ k, k < ln j → ∀ i, i < 16 → t j k i < 256
  nums : ∀ j, j < n → I64 (nu j)
section
variable {B n : Nat} {W W' : World} {v : Value} {nu : Nat → Int} {tw : Nat → Value} {ln : Nat → Nat} {t : Nat → Nat → Nat → Nat}
theorem NwE.zero (B : Nat) (W : World) (nu : Nat → Int) (tw : Nat → Value) (ln : Nat → Nat) (t : Nat → Nat → Nat → Nat) : NwE B W (.slice none 0 0) 0 nu tw ln t :=
  ⟨World.ownsRow_nil _ _ _ _, fun j h => absurd h (Nat.not_lt_zero j), fun i _ h => absurd h (Nat.not_lt_zero i), fun j h => absurd h (Nat.not_lt_zero j), fun j h => absurd h (Nat.not_lt_zero j)⟩
theorem NwE.on (h : NwE B W v n nu tw ln t) (hb : Below W.heap.size W W') : NwE B W' v n nu tw ln t := ⟨ownE_below h.row hb, fun j hj => ownE_below (h.lists j hj) hb, h.dis, h.byt, h.nums⟩
theorem NwE.base {C : Nat} (h : NwE B W v n nu tw ln t) (hC : C ≤ B) : NwE C W v n nu tw ln t := ⟨ownE_base h.row hC, fun j hj => ownE_base (h.lists j hj) hC, h.dis, h.byt, h.nums⟩
theorem NwE.eps (h : NwE B W v n nu tw ln t) : Eps W v n nu tw ln t := by
  refine ⟨?_, fun j hj => own_tgs (h.lists j hj) (h.byt j hj), h.nums⟩
  rcases h.row.2 with ⟨rfl, rfl⟩ | ⟨g, cap, cur, rfl, _, hg, q1, q2, q3, q4⟩
  · exact ⟨_, _, rfl, Nat.le_refl _, by omega, fun h0 => absurd h0 (Nat.lt_irrefl _)⟩
  · have hm : maxLen < 9223372036854775808 := by decide
    refine ⟨_, _, rfl, q1, by omega, fun _ => ⟨g, 0, rfl, (Array.getElem?_eq_some_iff.1 hg).1, fun j hj => ?_⟩⟩
    have h5 := epV_at nu tw n j hj
    rw [← q4, List.getElem?_take_of_lt (by omega), List.getElem?_take_of_lt (by omega)] at h5
    exact ⟨by rw [cell_of_row _ _ _ _ _ _ hg, Nat.zero_add, ← Array.getElem?_toList]; exact h5.1, by rw [cell_of_row _ _ _ _ _ _ hg, Nat.zero_add, ← Array.getElem?_toList]; exact h5.2⟩
/-- The row's block and the lists' lie below the memory's end. -/
theorem NwE.lt (h : NwE B W v n nu tw ln t) : (∀ b, v.ownBlock = some b → b < W.heap.size) ∧ ∀ j, j < n → ∀ b, (tw j).ownBlock = some b → b < W.heap.size := ⟨fun b hb => (h.row.lt b hb).2, fun j hj b hb => ((h.lists j hj).lt b hb).2⟩
/-- One epoch more. -/
theorem NwE.push {C m : Nat} {v' u : Value} {z : Int} {s : Nat → Nat → Nat} (h : NwE B W v n nu tw ln t) (hu : W.ownsRow C 44 16 u m (tgV s m)) (hlo : ∀ j, j < n → ∀ b, (tw j).ownBlock = some b → b < C) (hC : B ≤ C) (hs : ∀ k, k < m → ∀ i, i < 16 → s k i < 256) (hz : I64 z) (own' : W'.ownsRow B 70 2 v' (n + 1) (epV (up nu n z) (up tw n u) (n + 1))) (gr : W.grownBy W' v.ownBlock) : NwE B W' v' (n + 1) (up nu n z) (up tw n u) (up ln n m) (up t n s) := by
  have hu' : W'.ownsRow C 44 16 u m (tgV s m) := ownE_over hu h.row gr (by decide)
  refine ⟨own', fun j hj => ?_, fun i j hi hj hij b hb => ?_, fun j hj => ?_, fun j hj => ?_⟩
  · by_cases e : j = n
    · subst e
      rw [up_at, up_at, up_at]
      exact ownE_base hu' hC
    · rw [up_ne _ _ e, up_ne _ _ e, up_ne _ _ e]
      exact ownE_over (h.lists j (by omega)) h.row gr (by decide)
  · by_cases e : i = n
    · subst e
      rw [up_at] at hb
      rw [up_ne _ _ (Ne.symm hij)]
      intro q
      have h1 := hlo j (by omega) b q
      have h2 := (hu.lt b hb).1
      omega
    · rw [up_ne _ _ e] at hb
      by_cases e2 : j = n
      · subst e2
        rw [up_at]
        intro q
        have h1 := hlo i (by omega) b hb
        have h2 := (hu.lt b q).1
        omega
      · rw [up_ne _ _ e2]
        exact h.dis i j (by omega) (by omega) hij b hb
  · by_cases e : j = n
    · subst e
      rw [up_at, up_at]
      exact hs
    · rw [up_ne _ _ e, up_ne _ _ e]
      exact h.byt j (by omega)
  · by_cases e : j = n
    · subst e
      rw [up_at]
      exact hz
    · rw [up_ne _ _ e]
      exact h.nums j (by omega)
end
section
variable {o : Oper} {a : Act} {w : World}
end
end Go.Proofs.YtejhbfbnljioeaaGreatDoor.Win

namespace Go.Proofs.YtejhbfbnljioeaaGreatDoor.Win
open Go.RowKit Gf8 Aes By8 Cel Cf
/- What the reference's Add needs. Written by tools/mkC9o.py. -/

/-- Epochs gone through: what is put out so far, and whether the new tags are. -/
def PI (es : List Ep) (ep : Int) (f : List Nat) (i : Nat) (pb : Bool) (o : List Ep) : Prop := if pb then o ++ es.drop i = putW es ep f else f ≠ [] ∧ o ++ putE (es.drop i) ep f = putE es ep f
section
variable {es o : List Ep} {ep : Int} {f : List Nat} {i : Nat} {x : Ep}
theorem PI.ne (h : PI es ep f i false o) : f ≠ [] := h.1
theorem pi_f (h : PI es ep f i false o) : o ++ putE (es.drop i) ep f = putW es ep f := by
  have h2 := h.2
  rw [putW, if_neg h.1]
  exact h2
theorem PI.last (h : PI es ep f i false o) (hi : es.drop i = []) : PI es ep f i true (o ++ [(ep, f)]) := by
  have h2 := pi_f h
  rw [hi] at h2
  show o ++ [(ep, f)] ++ es.drop i = _
  rw [hi, List.append_nil]
  exact h2
theorem PI.ahead (h : PI es ep f i false o) (hi : es.drop i = x :: es.drop (i + 1)) (hx : ep < x.1) : PI es ep f i true (o ++ [(ep, f)]) := by
  have h2 := pi_f h
  rw [hi, putE, if_pos hx] at h2
  show o ++ [(ep, f)] ++ es.drop i = _
  rw [hi, List.append_assoc]
  exact h2
theorem PI.into (h : PI es ep f i false o) (hi : es.drop i = x :: es.drop (i + 1)) (hx : x.1 = ep) : PI es ep f (i + 1) true (o ++ [(x.1, srt (x.2 ++ f))]) := by
  have h2 := pi_f h
  rw [hi, putE, if_neg (by omega), if_pos hx] at h2
  show o ++ [_] ++ es.drop (i + 1) = _
  rw [List.append_assoc]
  exact h2
theorem PI.next (h : PI es ep f i true o) (hi : es.drop i = x :: es.drop (i + 1)) : PI es ep f (i + 1) true (o ++ [x]) := by
  have h2 : o ++ es.drop i = putW es ep f := h
  rw [hi] at h2
  show o ++ [x] ++ es.drop (i + 1) = _
  rw [List.append_assoc]
  exact h2
theorem PI.done (h : PI es ep f i true o) (hi : es.drop i = []) : o = putW es ep f := by
  have h2 : o ++ es.drop i = putW es ep f := h
  rw [hi, List.append_nil] at h2
  exact h2
end
end Go.Proofs.YtejhbfbnljioeaaGreatDoor.Win

namespace Go.Proofs.YtejhbfbnljioeaaGreatDoor.Win
open Go.RowKit Gf8 Aes By8 Cel Cf
/- The laws' tag and some; what the program's package keeps. Written by tools/mkC9q.py. -/

/-- A window that is handed in. -/
structure Wd (V : World) (nw : Int) (ev : Value) (n : Nat) (nu : Nat → Int) (tw : Nat → Value) (ln : Nat → Nat) (t : Nat → Nat → Nat → Nat) : Prop where
  eps : Eps V ev n nu tw ln t
  n32 : n * 32 ≤ 140737488351232
  ln16 : ∀ j, j < n → ln j * 16 ≤ 140737488351232
  num : I64 nw
theorem Wd.on {V W : World} {nw : Int} {ev : Value} {n : Nat} {nu : Nat → Int} {tw : Nat → Value} {ln : Nat → Nat} {t : Nat → Nat → Nat → Nat} (h : Wd V nw ev n nu tw ln t) (hb : Below V.heap.size V W) : Wd W nw ev n nu tw ln t := ⟨h.eps.on hb, h.n32, h.ln16, h.num⟩
theorem Wd.n63 {V : World} {nw : Int} {ev : Value} {n : Nat} {nu : Nat → Int} {tw : Nat → Value} {ln : Nat → Nat} {t : Nat → Nat → Nat → Nat} (h : Wd V nw ev n nu tw ln t) : n < 9223372036854775808 := by have := h.n32; omega
theorem Wd.ln43 {V : World} {nw : Int} {ev : Value} {n : Nat} {nu : Nat → Int} {tw : Nat → Value} {ln : Nat → Nat} {t : Nat → Nat → Nat → Nat} (h : Wd V nw ev n nu tw ln t) : ∀ j, j < n → ln j ≤ 8796093022208 := fun j hj => by have := h.ln16 j hj; omega
section
variable {o : Oper} {a : Act} {w : World}
theorem execNeE {x y : Operand} {p q : Nat} (ho : o.op = .binOp .neq 38 x y 38) (hx : a.eval x = .int .i64 (p : Int)) (hy : a.eval y = .int .i64 (q : Int)) : (execOp a.eval o).run Tryz.prog w = .ok (.value (.bool (decide (p ≠ q)))) w := by
  unfold execOp
  simp only [ho, hx, hy]
  by_cases h : p = q
  · subst h
    simp [go_sem]
  · have h2 : ¬ (p : Int) = q := by omega
    simp [go_sem, h, h2]
end
end Go.Proofs.YtejhbfbnljioeaaGreatDoor.Win

namespace Go.Proofs.YtejhbfbnljioeaaGreatDoor.Win
open Go.RowKit Gf8 Aes By8 Cel Cf
open Go.ChangeMaps Go.MapKept
/- The program's tagsRise, held, right, Check. Written by tools/mkJ9e.py. -/

section
variable {W X : World} {b g B : Nat} {S : List (Nat → Nat)} {o : Obj} {c : Array Value} {t : TypeId}
theorem MS.lt (h : MS W b S) : b < W.heap.size := by
  obtain ⟨es, clock, hb, -⟩ := h.map
  exact (Array.getElem?_eq_some_iff.1 hb).1
theorem MS.on (h : MS W b S) (hb : Below W.heap.size W X) : MS X b S := by
  obtain ⟨es, clock, q, r⟩ := h.map
  exact ⟨⟨es, clock, by rw [hb.block b h.lt]; exact q, r⟩, h.byt, h.nod⟩
theorem ms_new (W : World) : MS (W.alloc (.map #[] 0)) W.heap.size [] := ⟨⟨#[], 0, heapNew W _, rfl, by simp⟩, by simp, by simp [tvs]⟩
theorem belSet {V : World} (h : Below B V W) (hb : B ≤ b) : Below B V (setBlock W b o) :=
  h.trans ⟨rfl, rfl, rfl, by simp [setBlock], fun k hk => by
    show (W.heap.setIfInBounds b o)[k]? = W.heap[k]?
    rw [Array.getElem?_setIfInBounds_ne (by omega)]⟩
theorem set_ne (h : MS W b S) (hg : W.heap[g]? = some (.cells c t)) : g ≠ b := by
  obtain ⟨es, clock, q, -⟩ := h.map
  rintro rfl
  rw [hg] at q
  cases q
theorem onSet (h : MS W b S) (hg : W.heap[g]? = some (.cells c t)) : (setBlock W b o).heap[g]? = some (.cells c t) := by
  have hne := set_ne h hg
  show (W.heap.setIfInBounds b o)[g]? = _
  rw [Array.getElem?_setIfInBounds_ne (Ne.symm hne)]
  exact hg
theorem onRowM {r : Array Value} (h : MS W b S) (hg : W.heap[g]? = some (.cells c t)) : MS (W.setRow g r) b S := by
  obtain ⟨es, clock, q, r2⟩ := h.map
  exact ⟨⟨es, clock, by rw [setRow_other _ _ _ _ (Ne.symm (set_ne h hg))]; exact q, r2⟩, h.byt, h.nod⟩
end
section
variable {o : Oper} {a : Act} {w : World}
theorem execMkM (ho : o.op = .makeMap 51 none) : (execOp a.eval o).run Tryz.prog w = .ok (.value (.map (some w.heap.size))) (w.alloc (.map #[] 0)) := by
  unfold execOp
  simp only [ho]
  simp [go_sem, Instr.makeMap]
theorem execUnit (ho : o.op = .build 54 #[]) : (execOp a.eval o).run Tryz.prog w = .ok (.value (.agg #[])) w := by
  unfold execOp
  simp only [ho]
  simp [go_sem]
theorem execMU {x y z : Operand} {b : Nat} {k : Value} {w2 : World} (ho : o.op = .mapUpdate 51 x y z) (hx : a.eval x = .map (some b)) (hy : a.eval y = k) (hz : a.eval z = .agg #[]) (h : (Instr.mapUpdate 51 (.map (some b)) k (.agg #[])).run Tryz.prog w = .ok () w2) : (execOp a.eval o).run Tryz.prog w = .ok .skip w2 := by
  unfold execOp
  simp only [ho, hx, hy, hz]
  simp [h, Result.andThen]
theorem execLkM {x y : Operand} {b : Nat} {f : Nat → Nat} {S : List (Nat → Nat)} (ho : o.op = .lookup 51 x y true) (hx : a.eval x = .map (some b)) (hy : a.eval y = .agg (bA 16 f)) (h : MS w b S) (hf : ∀ i, i < 16 → f i < 256) : (execOp a.eval o).run Tryz.prog w = .ok (.value (.tuple #[.agg #[], .bool (decide (tv f 16 ∈ tvs S))])) w := by
  unfold execOp
  simp only [ho, hx, hy]
  simp only [Sem.run_bind, h.look hf, Result.andThen]
  rfl
theorem execLkMt {x y : Operand} {b : Nat} {f : Nat → Nat} {S : List (Nat → Nat)} (ho : o.op = .lookup 51 x y true) (hx : a.eval x = .map (some b)) (hy : a.eval y = .agg (bA 16 f)) (h : MS w b S) (hf : ∀ i, i < 16 → f i < 256) (hi : tv f 16 ∈ tvs S) : (execOp a.eval o).run Tryz.prog w = .ok (.value (.tuple #[.agg #[], .bool true])) w := by
  rw [execLkM ho hx hy h hf, decide_eq_true hi]
theorem execLkMf {x y : Operand} {b : Nat} {f : Nat → Nat} {S : List (Nat → Nat)} (ho : o.op = .lookup 51 x y true) (hx : a.eval x = .map (some b)) (hy : a.eval y = .agg (bA 16 f)) (h : MS w b S) (hf : ∀ i, i < 16 → f i < 256) (hi : tv f 16 ∉ tvs S) : (execOp a.eval o).run Tryz.prog w = .ok (.value (.tuple #[.agg #[], .bool false])) w := by
  rw [execLkM ho hx hy h hf, decide_eq_false hi]
end
end Go.Proofs.YtejhbfbnljioeaaGreatDoor.Win
