import Derived.Test.YtmllfmnpcidkbaaRows
import Derived.WalkKit
import Derived.WalkSpells
import Derived.Deep.WholeRow
import Derived.BigQuiet
import Derived.BigRegion
import Derived.Deep.QuietTactic
import Derived.Deep.RegionWith
namespace Go.Proofs.Ytmllfmnpcidkbaa
open Go.RowKit

/-- Nobody waits for a later one. -/
def frontB (md : Region.Mode) (ops : Array Oper) : Bool :=
  (List.range ops.size).all fun j => match ops[j]? with | some o => o.after.all fun e => !Region.binds md e || decide (e.on < j) | none => false
/-- How many of the first k have not come up. -/
def cnt (listed : Array Bool) : Nat → Nat
  | 0 => 0
  | k + 1 => cnt listed k + (if listed.getD k true = false then 1 else 0)
theorem cnt_le (listed : Array Bool) (j : Nat) : ∀ k, cnt (listed.setIfInBounds j true) k ≤ cnt listed k
  | 0 => Nat.le_refl _
  | k + 1 => by
    have ih := cnt_le listed j k
    simp only [cnt]
    by_cases e : j = k
    · subst e
      have : ¬ (listed.setIfInBounds j true).getD j true = false := by
        by_cases h : j < listed.size <;> simp [h]
      rw [if_neg this]
      omega
    · rw [getD_set_ne true e]
      omega
theorem cnt_lt (listed : Array Bool) (j : Nat) (hj : listed.getD j true = false) : ∀ k, j < k → cnt (listed.setIfInBounds j true) k + 1 ≤ cnt listed k
  | 0, h => by omega
  | k + 1, h => by
    simp only [cnt]
    by_cases e : j = k
    · subst e
      have : ¬ (listed.setIfInBounds j true).getD j true = false := by
        by_cases h : j < listed.size <;> simp [h]
      rw [if_neg this, if_pos hj]
      have := cnt_le listed j j
      omega
    · rw [getD_set_ne true e]
      have := cnt_lt listed j hj k (by omega)
      omega
theorem cnt_zero (listed : Array Bool) : ∀ k, cnt listed k = 0 → ∀ j, j < k → listed.getD j true = true
  | 0, _, j, hj => by omega
  | k + 1, h, j, hj => by
    simp only [cnt] at h
    by_cases e : j = k
    · subst e
      cases hb : listed.getD j true with
      | true => rfl
      | false => rw [if_pos hb] at h; omega
    · exact cnt_zero listed k (by omega) j (by omega)
theorem cnt_bound (listed : Array Bool) : ∀ k, cnt listed k ≤ k
  | 0 => Nat.le_refl _
  | k + 1 => by
    have := cnt_bound listed k
    simp only [cnt]
    split <;> omega

section
variable {P : Program} {md : Region.Mode} {ops : Array Oper} {Q : Exit → Act → World → Prop}

theorem frontB_spec (h : frontB md ops = true) (j : Nat) (o : Oper) (hj : ops[j]? = some o) (e : _) (he : e ∈ o.after) (hb : Region.binds md e = true) : e.on < j := by
  have hlt : j < ops.size := (Array.getElem?_eq_some_iff.1 hj).1
  have h4 := (List.all_eq_true.1 h) j (List.mem_range.2 hlt)
  rw [hj] at h4
  simp only at h4
  have h5 := (Array.all_eq_true_iff_forall_mem.1 h4) e he
  simpa [hb] using h5
theorem all_of_ready (hf : frontB md ops = true) {listed : Array Bool} (hs : listed.size = ops.size) (hnil : Region.ready md ops listed = []) : ∀ j, j < ops.size → listed.getD j true = true := by
  intro j
  induction j using Nat.strongRecOn with
  | ind j ih =>
    intro hj
    cases hb : listed.getD j true with
    | true => rfl
    | false =>
      have : j ∈ Region.ready md ops listed := mem_ready.2 ⟨hb, ops[j], by simp [hj], fun e he hbd => by
        have hlt := frontB_spec hf j _ (by simp [hj]) e he hbd
        have h1 := ih e.on hlt (by omega)
        have hl : e.on < listed.size := by omega
        simp [hl] at h1 ⊢
        exact h1⟩
      rw [hnil] at this
      cases this

/-- A REGION IN WHATEVER ORDER, BY AN INVARIANT. -/
theorem wpAny_inv (I : Array Bool → Act → World → Prop) (hf : frontB md ops = true) (hsize : ∀ listed a w, I listed a w → listed.size = ops.size)
    (hstep : ∀ listed a w, I listed a w → ∀ j o, ops[j]? = some o → listed.getD j true = false → (∀ e ∈ o.after, Region.binds md e = true → listed.getD e.on false = true) → wpOp P ops Q j (fun a' w' => I (listed.setIfInBounds j true) a' w') a w)
    (hend : ∀ listed a w, I listed a w → (∀ j, j < ops.size → listed.getD j true = true) → Q .normal a w) :
    ∀ (fuel : Nat) (listed : Array Bool) (a : Act) (w : World), cnt listed ops.size ≤ fuel → I listed a w → wpAny P md ops Q fuel listed a w := by
  intro fuel
  induction fuel with
  | zero =>
    intro listed a w hc hI
    have hall := cnt_zero listed ops.size (by omega)
    refine ⟨?_, hend _ _ _ hI hall⟩
    apply List.eq_nil_iff_forall_not_mem.2
    intro j hj
    obtain ⟨h1, o, ho, _⟩ := mem_ready.1 hj
    rw [hall j (Array.getElem?_eq_some_iff.1 ho).1] at h1
    cases h1
  | succ fuel ih =>
    intro listed a w hc hI
    refine ⟨fun hnil => hend _ _ _ hI (all_of_ready hf (hsize _ _ _ hI) hnil), fun j hj => ?_⟩
    obtain ⟨h1, o, ho, hw⟩ := mem_ready.1 hj
    refine wpOp_mono (fun a' w' hI' => ih _ a' w' ?_ hI') (hstep listed a w hI j o ho h1 hw)
    have := cnt_lt listed j h1 ops.size (Array.getElem?_eq_some_iff.1 ho).1
    omega
theorem wp_region_inv {id : Nat} {a : Act} {w : World} (I : Array Bool → Act → World → Prop) (hm : P.follows .mixedOrders = true) (hf : frontB .any ops = true) (h0 : I (Array.replicate ops.size false) a w.drew)
    (hsize : ∀ listed a w, I listed a w → listed.size = ops.size)
    (hstep : ∀ listed a w, I listed a w → ∀ j o, ops[j]? = some o → listed.getD j true = false → (∀ e ∈ o.after, Region.binds .any e = true → listed.getD e.on false = true) → wpOp P ops Q j (fun a' w' => I (listed.setIfInBounds j true) a' w') a w)
    (hend : ∀ listed a w, I listed a w → (∀ j, j < ops.size → listed.getD j true = true) → Q .normal a w) : (Code.region id ops true).wp P Q a w :=
  wp_region_any hm (wpAny_inv I hf hsize hstep hend _ _ _ _ (cnt_bound _ _) h0)
end
end Go.Proofs.Ytmllfmnpcidkbaa

namespace Go.Proofs.Ytmllfmnpcidkbaa
open Go.RowKit

/-- What has come up has come behind what it waits for. -/
def DC (md : Region.Mode) (ops : Array Oper) (listed : Array Bool) : Prop :=
  ∀ (j : Nat) (o : Oper), ops[j]? = some o → listed.getD j false = true → ∀ e ∈ o.after, Region.binds md e = true → listed.getD e.on false = true
def updS (x : Nat → Value) (j : Nat) (v : Value) : Nat → Value := fun i => if i = j then v else x i
/-- j waits for i, straight. -/
def waits (o : Oper) (i : Nat) : Bool := o.after.toList.any fun e => Region.binds .any e && e.on == i

section
variable {P : Program} {ops : Array Oper} {Q : Exit → Act → World → Prop} {j : Nat} {o : Oper} {a : Act} {w : World} {K : Act → World → Prop}
theorem stepV {v : Value} {w' : World} (ho : ops[j]? = some o) (hw : Region.wanted o (yielded ops a.tmps) = true) (hv : (execOp a.eval o).run P w = .ok (.value v) w') (hK : K (a.put o.dst v) w') : wpOp P ops Q j K a w := by
  unfold wpOp
  rw [ho]
  simp only [hw, if_true]
  left
  unfold Oper.wp
  rw [hv]
  exact hK
theorem stepC {f : FuncId} {args : Array Value} {post : Ending → World → Prop} (ho : ops[j]? = some o) (hw : Region.wanted o (yielded ops a.tmps) = true) (hv : (execOp a.eval o).run P w = .ok (.enter f args) w)
    (hc : Calls P f args w post) (hK : ∀ e w', post e w' → ∃ v, e = .returned v ∧ K (a.put o.dst v) w') : wpOp P ops Q j K a w := by
  unfold wpOp
  rw [ho]
  simp only [hw, if_true]
  left
  unfold Oper.wp
  rw [hv]
  exact hc.mono fun e w' he => by
    obtain ⟨v, rfl, hk⟩ := hK e w' he
    exact hk
theorem execMove {x : Operand} (ho : o.op = .move x) : (execOp a.eval o).run P w = .ok (.value (a.eval x)) w := by
  unfold execOp
  simp only [ho]
  rfl
theorem execCall {f : FuncId} {xs : Array Operand} {ts : Array TypeId} {fn : Func} (ho : o.op = .call { callee := .value (.func f), args := xs, argTypes := ts }) (hf : P.funcs[f]? = some fn) (hname : (fn.name == "runtime.NumGoroutine") = false) (hb : fn.body.isSome = true) : (execOp a.eval o).run P w = .ok (.enter f (xs.map a.eval)) w := by
  have h1 : fn.name ≠ "runtime.NumGoroutine" := by simpa using hname
  obtain ⟨c, hc⟩ := Option.isSome_iff_exists.1 hb
  have h2 : ∀ args, (callFunc f args).run P w = .ok (.enter f args) w := by intro args; simp [callFunc, hf, h1, hc]
  unfold execOp
  simp only [ho]
  simp [go_sem, h2]
theorem execCall1 {f : FuncId} {ts : Array TypeId} {fn : Func} {x : Operand} {vx : Value} (hf : P.funcs[f]? = some fn) (hname : (fn.name == "runtime.NumGoroutine") = false) (hb : fn.body.isSome = true) (ho : o.op = .call { callee := .value (.func f), args := #[x], argTypes := ts }) (hx : a.eval x = vx) : (execOp a.eval o).run P w = .ok (.enter f #[vx]) w := by
  have h := execCall (a := a) (w := w) ho hf hname hb
  simpa [hx] using h
theorem wantedOf {tmps : Array Value} {k : Nat} {b : Bool} (hg : o.guard = some (k, b)) (hy : yielded ops tmps k = some b) : Region.wanted o (yielded ops tmps) = true := by
  simp [Region.wanted, hg, hy]
end
end Go.Proofs.Ytmllfmnpcidkbaa

namespace Go.Proofs.Ytmllfmnpcidkbaa
open Go.RowKit

theorem put_size (a : Act) (d : Option Nat) (v : Value) : (a.put d v).tmps.size = a.tmps.size := by cases d <;> simp [Act.put]
theorem put_other (a : Act) {d e : Nat} (v : Value) (h : d ≠ e) : (a.put (some d) v).eval (.tmp e) = a.eval (.tmp e) := by
  simp only [Act.put, Act.eval, Array.getD_eq_getD_getElem?, Array.getElem?_setIfInBounds]
  rw [if_neg h]
theorem put_same (a : Act) {d : Nat} (v : Value) (h : d < a.tmps.size) : (a.put (some d) v).eval (.tmp d) = v := by
  simp [Act.put, Act.eval, h]
/-- What a guard's operation yielded. -/
theorem yieldedAt {ops : Array Oper} {a : Act} {k d : Nat} {o : Oper} {b : Bool} (ho : ops[k]? = some o) (hd : o.dst = some d) (hv : a.eval (.tmp d) = .bool b) : yielded ops a.tmps k = some b := by
  have h : a.tmps[d]? = some (.bool b) := by
    simp only [Act.eval, Array.getD_eq_getD_getElem?] at hv
    cases hq : a.tmps[d]? with
    | none => rw [hq] at hv; cases hv
    | some v => rw [hq] at hv; simp at hv; rw [hv]
  simp [yielded, ho, hd, h]
end Go.Proofs.Ytmllfmnpcidkbaa

namespace Go.Proofs.Ytmllfmnpcidkbaa
open Go.RowKit

/-- The operations that fill a slot, and the slot. -/
def dsOf (ops : Array Oper) : List (Nat × Nat) := (List.range ops.size).filterMap fun j => (ops[j]?.bind (·.dst)).map fun d => (j, d)
theorem mem_dsOf {ops : Array Oper} {j d : Nat} : (j, d) ∈ dsOf ops ↔ ∃ o, ops[j]? = some o ∧ o.dst = some d := by
  unfold dsOf
  rw [List.mem_filterMap]
  constructor
  · rintro ⟨i, _, h⟩
    cases ho : ops[i]? with
    | none => rw [ho] at h; simp at h
    | some o =>
      rw [ho] at h
      simp only [Option.bind_some, Option.map_eq_some_iff, Prod.mk.injEq] at h
      obtain ⟨d', hd, rfl, rfl⟩ := h
      exact ⟨o, ho, hd⟩
  · rintro ⟨o, ho, hd⟩
    exact ⟨j, List.mem_range.2 (Array.getElem?_eq_some_iff.1 ho).1, by rw [ho]; simp [hd]⟩
def putP (a : Act) (vals : Nat → Value) : List (Nat × Nat) → Act
  | [] => a
  | p :: ds => putP (a.put (some p.2) (vals p.1)) vals ds
def updB (l : Nat → Bool) (j : Nat) : Nat → Bool := fun i => if i = j then true else l i
theorem putP_size (vals : Nat → Value) : ∀ (ds : List (Nat × Nat)) (a : Act), (putP a vals ds).tmps.size = a.tmps.size
  | [], _ => rfl
  | p :: ds, a => by simp only [putP]; rw [putP_size vals ds, put_size]
theorem putP_defers (vals : Nat → Value) : ∀ (ds : List (Nat × Nat)) (a : Act), (putP a vals ds).defers = a.defers
  | [], _ => rfl
  | p :: ds, a => by simp only [putP]; rw [putP_defers vals ds]; rfl
theorem putP_other (vals : Nat → Value) {e : Nat} : ∀ (ds : List (Nat × Nat)) (a : Act), e ∉ ds.map (·.2) → (putP a vals ds).eval (.tmp e) = a.eval (.tmp e)
  | [], _, _ => rfl
  | p :: ds, a, h => by
    simp only [List.map_cons, List.mem_cons, not_or] at h
    simp only [putP]
    rw [putP_other vals ds _ h.2, put_other _ _ (fun q => h.1 q.symm)]
theorem putP_same (vals : Nat → Value) : ∀ (ds : List (Nat × Nat)) (a : Act), (ds.map (·.2)).Nodup → (∀ p ∈ ds, p.2 < a.tmps.size) → ∀ p, p ∈ ds → (putP a vals ds).eval (.tmp p.2) = vals p.1
  | [], _, _, _, p, hp => by simp at hp
  | q :: ds, a, hn, hs, p, hp => by
    simp only [List.map_cons, List.nodup_cons] at hn
    simp only [putP]
    rcases List.mem_cons.1 hp with rfl | hp
    · rw [putP_other vals ds _ hn.1, put_same _ _ (hs p List.mem_cons_self)]
    · exact putP_same vals ds _ hn.2 (fun r hr => by rw [put_size]; exact hs r (List.mem_cons_of_mem _ hr)) p hp
theorem act_ext {a b : Act} (hs : a.tmps.size = b.tmps.size) (hd : a.defers = b.defers) (h : ∀ e, a.eval (.tmp e) = b.eval (.tmp e)) : a = b := by
  obtain ⟨at', ad⟩ := a
  obtain ⟨bt, bd⟩ := b
  simp only at hs hd
  subst hd
  congr 1
  apply Array.ext hs
  intro i h1 h2
  have := h i
  simp only [Act.eval, Array.getD_eq_getD_getElem?, Array.getElem?_eq_getElem h1, Array.getElem?_eq_getElem h2, Option.getD_some] at this
  exact this

theorem inj2 : ∀ (L : List (Nat × Nat)), (L.map (·.2)).Nodup → ∀ x y z, (x, z) ∈ L → (y, z) ∈ L → x = y := by
  intro L
  induction L with
  | nil => intro _ x y z hx; simp at hx
  | cons p L ih =>
    intro hn x y z hx hy
    simp only [List.map_cons, List.nodup_cons] at hn
    rcases List.mem_cons.1 hx with h1 | h1 <;> rcases List.mem_cons.1 hy with h2 | h2
    · exact congrArg Prod.fst (h1.trans h2.symm)
    · subst h1; exact absurd (List.mem_map.2 ⟨(y, z), h2, rfl⟩) hn.1
    · subst h2; exact absurd (List.mem_map.2 ⟨(x, z), h1, rfl⟩) hn.1
    · exact ih hn.2 x y z h1 h2
theorem stepS {P : Program} {ops : Array Oper} {Q : Exit → Act → World → Prop} {j : Nat} {o : Oper} {a : Act} {w w' : World} {K : Act → World → Prop} (ho : ops[j]? = some o) (hw : Region.wanted o (yielded ops a.tmps) = true) (hv : (execOp a.eval o).run P w = .ok .skip w') (hK : K (a.put o.dst undef) w') : wpOp P ops Q j K a w := by
  unfold wpOp
  rw [ho]
  simp only [hw, if_true]
  left
  unfold Oper.wp
  rw [hv]
  exact hK
end Go.Proofs.Ytmllfmnpcidkbaa
