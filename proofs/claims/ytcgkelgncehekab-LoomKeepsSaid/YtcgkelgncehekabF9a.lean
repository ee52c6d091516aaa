import Derived.Test.YtcgkelgncehekabX7b
import Derived.Test.YtcgkelgncehekabX7f
import Derived.Test.YtcgkelgncehekabO0
import Derived.Deep.RegionHeld
namespace Go.Proofs.Ytcgkelgncehekab.Cf
open Go.RowKit Gf8 Aes By8 Cel
/- Closed frames: operations of bytes, ints, lists of bytes and lists of these. Gathered by tools/mkE9a.py. -/

section
variable {o : Oper} {a : Act} {w W : World}
theorem execAsgB {P : Program} {o : Oper} {a : Act} {w : World} {x : Operand} {v : Value} (ho : o.op = .assign x) (hx : a.eval x = v) : (execOp a.eval o).run P w = .ok (.value v) w := by
  unfold execOp
  simp only [ho, hx]
  rfl
theorem execExtT {x : Operand} {k : Nat} {arr : Array Value} {v : Value} (ho : o.op = .extract x k) (hx : a.eval x = .tuple arr) (hk : arr[k]? = some v) : (execOp a.eval o).run Try.prog w = .ok (.value v) w := by
  unfold execOp
  simp only [ho, hx]
  simp [go_sem, hk]
/-- The values of a list of lists. -/
def lL (x : Nat → Value) : Nat → List Value
  | 0 => []
  | n + 1 => lL x n ++ [x n]
theorem lL_len (x : Nat → Value) : ∀ n, (lL x n).length = n
  | 0 => rfl
  | n + 1 => by simp [lL, lL_len x n]
theorem lL_get (x : Nat → Value) : ∀ (n k : Nat), k < n → (lL x n)[k]? = some (x k)
  | 0, k, hk => by omega
  | n + 1, k, hk => by
    simp only [lL]
    by_cases h : k < n
    · rw [List.getElem?_append_left (by rw [lL_len]; exact h)]
      exact lL_get x n k h
    · obtain rfl : k = n := by omega
      rw [List.getElem?_append_right (by rw [lL_len]; omega), lL_len]
      simp
theorem lL_congr {x y : Nat → Value} : ∀ n, (∀ i, i < n → x i = y i) → lL x n = lL y n
  | 0, _ => rfl
  | n + 1, h => by simp only [lL]; rw [lL_congr n (fun i hi => h i (by omega)), h n (by omega)]
theorem execLtW {x y : Operand} {p q : Nat} (ho : o.op = .binOp .lss 3 x y 3) (hx : a.eval x = .int .i64 (p : Int)) (hy : a.eval y = .int .i64 (q : Int)) : (execOp a.eval o).run Try.prog w = .ok (.value (.bool (decide (p < q)))) w := by
  unfold execOp
  simp only [ho, hx, hy]
  simp [go_sem]
theorem execAd8 {x y : Operand} {p q : Nat} (ho : o.op = .binOp .add 3 x y 3) (hx : a.eval x = .int .i64 (p : Int)) (hy : a.eval y = .int .i64 (q : Int)) (h : p + q < 9223372036854775808) : (execOp a.eval o).run Try.prog w = .ok (.value (.int .i64 ((p + q : Nat) : Int))) w := by
  have e : IntKind.i64.wrap ((p : Int) + (q : Int)) = ((p + q : Nat) : Int) := by rw [← Int.natCast_add]; exact wrap_i64_nat h
  unfold execOp
  simp only [ho, hx, hy]
  simp [go_sem, e]
theorem execNot8 {x : Operand} {b : Bool} (ho : o.op = .unOp .not 4 x) (hx : a.eval x = .bool b) : (execOp a.eval o).run Try.prog w = .ok (.value (.bool (!b))) w := by
  unfold execOp
  simp only [ho, hx]
  simp [go_sem]
/-- append to a row of one's own: the operation. -/
theorem execAppO {s x : Operand} {T e : TypeId} {i : TypeInfo} {z : Value} {size bytes B n m c : Nat} {v : Value} {xs news : List Value} {ad : Addr}
    (ho : o.op = .call { callee := .builtin .append, args := #[s, x], argTypes := #[T, T] }) (ht : Try.prog.underlying T = some (.slice e)) (hi : Try.prog.info? e = some i) (hz : i.zero = some z) (hsize : i.size = size) (hby : i.bytes = bytes) (hzs : z.cells.size = size) (hsz : 0 < size)
    (hs : a.eval s = v) (hown : W.ownsRow B e size v n xs) (hx : a.eval x = .slice (some ad) m c) (hl : news.length = m * size) (hnews : ∀ j u, news[j]? = some u → W.cell? (ad.add j) = some u) (h1 : ∀ u ∈ news, u.oneCell' = true) (h63 : n + m ≤ maxLen) (hbytes : (n + m) * bytes ≤ 140737488355328) (hB : B ≤ W.heap.size) :
    ∃ v' W', (execOp a.eval o).run Try.prog W = .ok (.value v') W' ∧ W'.ownsRow B e size v' (n + m) (xs ++ news) ∧ W.grownBy W' v.ownBlock := by
  obtain ⟨v', w', hr, q1, q2, _⟩ := run_append_own (P := Try.prog) W B T o.type e i z size bytes ht hi hz hsize hby hzs hsz v n xs hown ad m c news hl hnews h1 h63 hbytes hB
  refine ⟨v', w', ?_, q1, q2⟩
  unfold execOp
  simp only [ho, resolve, invoke, builtin, Sem.run_bind, Sem.run_pure, Result.andThen_ok, List.map_toArray, List.map_cons, List.map_nil, hs, hx, hr]
end
theorem ret_then {K : Act → World → Prop} {Q : Exit → Act → World → Prop} {a : Act} {w : World} (h : Q .ret a w) : Exit.then K Q .ret a w := h
theorem ret_in {id : Nat} {Q : Exit → Act → World → Prop} {a : Act} {w : World} (h : Q .ret a w) : Exit.inBlock id Q .ret a w := h
/-- A row of one's own stays where another block is grown. -/
theorem ownW_grown {W W' : World} {B n s : Nat} {t : TypeId} {v : Value} {xs : List Value} {b : Option Nat} (h : W.ownsRow B t s v n xs) (hg : W.grownBy W' b) (hne : ∀ k, v.ownBlock = some k → b ≠ some k) : W'.ownsRow B t s v n xs := by
  refine ⟨h.1, ?_⟩
  rcases h.2 with h | ⟨g, cap, cur, e, hB, hgr, h1, h2, h3, h4⟩
  · exact Or.inl h
  · refine Or.inr ⟨g, cap, cur, e, hB, ?_, h1, h2, h3, h4⟩
    rw [hg.block g (Array.getElem?_eq_some_iff.1 hgr).1 (fun q => hne g (by rw [e]; rfl) q.symm)]
    exact hgr
/-- A drawn region through states, the frame kept closed; slots that are not yet filled are as they were. -/
theorem wp_region_stB {P : Program} {ops : Array Oper} {Q : Exit → Act → World → Prop} {id : Nat} {a0 : Act} {V : World} {σ : Type} (N : Nat) (ds : List (Nat × Nat)) (S : (Nat → Bool) → σ → World → Prop) (v : σ → Nat → Value) (s0 : σ)
    (hm : P.follows .mixedOrders = true) (hf : frontB .any ops = true) (hN : a0.tmps.size = N) (hD : dsOf ops = ds) (hnd : (ds.map (·.2)).Nodup) (hds : ds.all (fun p => decide (p.2 < N)) = true)
    (h0 : S (fun _ => false) s0 V.drew)
    (step : ∀ j, j < ops.size → ∀ l s a w, l j = false → (∀ e, e ∉ ds.map (·.2) → a.eval (.tmp e) = a0.eval (.tmp e)) → (∀ o, ops[j]? = some o → ∀ i, waits o i = true → ∀ q, ops[i]? = some q → ∀ d, q.dst = some d → a.eval (.tmp d) = v s i) →
      (∀ o, ops[j]? = some o → ∀ i, waits o i = true → l i = true) → (∀ i q, ops[i]? = some q → l i = true → ∀ m, waits q m = true → l m = true) → (∀ i q, ops[i]? = some q → ∀ d, q.dst = some d → l i = false → a.eval (.tmp d) = a0.eval (.tmp d)) → S l s w → wpOp P ops Q j (fun a' w' => ∃ s', (∃ o, ops[j]? = some o ∧ a' = a.put o.dst (v s' j)) ∧ S (updB l j) s' w' ∧ ∀ i, i < ops.size → l i = true → v s' i = v s i) a w)
    (fin : ∀ l s a w, a.tmps.size = N → a.defers = a0.defers → (∀ e, e ∉ ds.map (·.2) → a.eval (.tmp e) = a0.eval (.tmp e)) → (∀ p, p ∈ ds → a.eval (.tmp p.2) = v s p.1) → (∀ j, j < ops.size → l j = true) → S l s w → Q .normal a w) : (Code.region id ops true).wp P Q a0 V := by
  refine wp_region_detX N ds (fun l x w => ∃ s, S l s w ∧ ∀ i, i < ops.size → l i = true → x i = v s i) (fun _ => undef) hm hf hN hD hnd hds ⟨s0, h0, fun _ _ h => by cases h⟩ ?_ ?_
  · rintro j hj l x a w hl hfr hdep hl2 hcl hno ⟨s, hS, hx⟩
    refine wpOp_mono ?_ (step j hj l s a w hl hfr (fun o ho i hi q hq d hd => by rw [hdep o ho i hi q hq d hd]; exact hx i (Array.getElem?_eq_some_iff.1 hq).1 (hl2 o ho i hi)) hl2 hcl hno hS)
    rintro a' w' ⟨s', ho, hS', hv⟩
    refine ⟨v s' j, ho, s', hS', fun i hi h => ?_⟩
    unfold updS
    by_cases e : i = j
    · subst e; simp
    · have hli : l i = true := by
        unfold updB at h
        simpa [e] using h
      simp only [e, if_false]
      rw [hx i hi hli, hv i hi hli]
  · rintro l x w hall ⟨s, hS, hx⟩
    have e : putP a0 x ds = putP a0 (v s) ds := putP_congr ds a0 fun p hp => by
      subst hD
      obtain ⟨o, ho, _⟩ := mem_dsOf.1 (show (p.1, p.2) ∈ dsOf ops from hp)
      have hj := (Array.getElem?_eq_some_iff.1 ho).1
      exact hx _ hj (hall _ hj)
    rw [e]
    refine fin l s _ w (by rw [putP_size]; exact hN) (putP_defers _ _ _) (fun e he => putP_other _ _ _ he) (fun p hp => putP_same _ _ _ hnd (fun q hq => ?_) p hp) hall hS
    rw [hN]
    simpa using List.all_eq_true.1 hds q hq
section
variable {o : Oper} {a : Act} {w W : World}
/-- pick where the value that is not taken does not matter. -/
theorem execPickT {x y z : Operand} {v : Value} (ho : o.op = .pick x y z) (hx : a.eval x = .bool true) (hy : a.eval y = v) : (execOp a.eval o).run Try.prog w = .ok (.value v) w := by
  unfold execOp
  simp only [ho, hx, hy]
  simp [go_sem]
theorem execPickF {x y z : Operand} {v : Value} (ho : o.op = .pick x y z) (hx : a.eval x = .bool false) (hz : a.eval z = v) : (execOp a.eval o).run Try.prog w = .ok (.value v) w := by
  unfold execOp
  simp only [ho, hx, hz]
  simp [go_sem]
theorem execGe8 {x y : Operand} {p q : Nat} (ho : o.op = .binOp .geq 3 x y 3) (hx : a.eval x = .int .i64 (p : Int)) (hy : a.eval y = .int .i64 (q : Int)) : (execOp a.eval o).run Try.prog w = .ok (.value (.bool (decide (q ≤ p)))) w := by
  unfold execOp
  simp only [ho, hx, hy]
  simp [go_sem]
end
end Go.Proofs.Ytcgkelgncehekab.Cf

namespace Go.Proofs.Ytcgkelgncehekab.Cf
open Go.RowKit Gf8 Aes By8 Cel
/- A region in its order of which only the operations that do something are walked: moves, assignments, picks, extracts, what isn't wanted are reckoned. -/

def lk (E : Nat → Value) : List (Nat × Value) → Nat → Value
  | [], d => E d
  | p :: l, d => bif Nat.beq d p.1 then p.2 else lk E l d
def evO (f : Nat → Value) : Operand → Value
  | .tmp d => f d
  | .const v => v
  | .global g => .pointer (some ⟨g, 0, none⟩)
  | .func g => .func (.func g) #[] #[]
theorem evO_eval {a : Act} {f : Nat → Value} (h : ∀ d, a.eval (.tmp d) = f d) : ∀ x, a.eval x = evO f x
  | .tmp d => h d
  | .const _ => rfl
  | .global _ => rfl
  | .func _ => rfl
/-- Whether it is wanted, where that can be told. -/
def wnt (ops : Array Oper) (f : Nat → Value) (o : Oper) : Option Bool :=
  match o.guard with
  | none => some true
  | some (k, b) =>
    match (ops[k]?).bind (·.dst) with
    | none => none
    | some d =>
      match f d with
      | .bool c => some (c == b)
      | .tuple ⟨[]⟩ => some false
      | _ => none
/-- What an operation yields that does nothing else. -/
def eas (ops : Array Oper) (f : Nat → Value) (o : Oper) : Option Value :=
  match wnt ops f o with
  | none => none
  | some false => some undef
  | some true =>
    match o.op with
    | .move x => some (evO f x)
    | .assign x => some (evO f x)
    | .pick c x y =>
      match evO f c with
      | .bool true => some (evO f x)
      | .bool false => some (evO f y)
      | _ => none
    | .extract x k =>
      match evO f x with
      | .tuple arr => arr[k]?
      | _ => none
    | _ => none
def acc (ops : Array Oper) (E v : Nat → Value) : Nat → List (Nat × Value)
  | 0 => []
  | k + 1 =>
    match ops[k]? with
    | none => acc ops E v k
    | some o =>
      match o.dst with
      | none => acc ops E v k
      | some d => (d, (eas ops (lk E (acc ops E v k)) o).getD (v k)) :: acc ops E v k
/-- What operation k yields. -/
def vl (ops : Array Oper) (E v : Nat → Value) (k : Nat) : Value :=
  match ops[k]? with
  | none => undef
  | some o => (eas ops (lk E (acc ops E v k)) o).getD (v k)
def hrd (ops : Array Oper) (E v : Nat → Value) (k : Nat) : Bool :=
  match ops[k]? with
  | none => false
  | some o => (eas ops (lk E (acc ops E v k)) o).isNone
def ent (a : Act) (d : Nat) : Value := a.eval (.tmp d)
def okD (N : Nat) (ops : Array Oper) : Bool := decide ((dsOf ops).map (·.2)).Nodup && (dsOf ops).all (fun p => decide (p.2 < N))
theorem acc_cg {ops : Array Oper} {E u v : Nat → Value} : ∀ {k : Nat}, (∀ i, i < k → hrd ops E v i = true → u i = v i) → acc ops E u k = acc ops E v k
  | 0, _ => rfl
  | k + 1, h => by
    have ih := acc_cg (k := k) fun i hi => h i (by omega)
    have hk := h k (by omega)
    unfold hrd at hk
    unfold acc
    cases ho : ops[k]? with
    | none => exact ih
    | some o =>
      simp only [ho] at hk ⊢
      cases o.dst with
      | none => exact ih
      | some d =>
        simp only [ih]
        congr 2
        cases he : eas ops (lk E (acc ops E v k)) o with
        | none => rw [he] at hk; exact hk rfl
        | some x => rfl
theorem wnt_is {ops : Array Oper} {a : Act} {f : Nat → Value} {o : Oper} {b : Bool} (h : ∀ d, a.eval (.tmp d) = f d) (hw : wnt ops f o = some b) : Region.wanted o (yielded ops a.tmps) = b := by
  unfold wnt at hw
  cases hg : o.guard with
  | none =>
    simp only [hg] at hw
    injection hw with hw
    subst hw
    simp [Region.wanted, hg]
  | some p =>
    obtain ⟨k, c⟩ := p
    simp only [hg] at hw
    cases hq : ops[k]? with
    | none => simp [hq] at hw
    | some q =>
      cases hd : q.dst with
      | none => simp [hq, hd] at hw
      | some d =>
        simp only [hq, hd, Option.bind_some] at hw
        cases hf : f d with
        | bool x =>
          rw [hf] at hw
          injection hw with hw
          subst hw
          have hy := yieldedAt hq hd ((h d).trans hf)
          simp only [Region.wanted, hg, hy]
          cases x <;> cases c <;> rfl
        | tuple arr =>
          rw [hf] at hw
          obtain ⟨l⟩ := arr
          cases l with
          | nil =>
            injection hw with hw
            subst hw
            exact unwantedNo hg (yieldedNo hq hd ((h d).trans hf))
          | cons _ _ => cases hw
        | _ => rw [hf] at hw; cases hw
theorem eas_step {ops : Array Oper} {Q : Exit → Act → World → Prop} {K : Act → World → Prop} {j : Nat} {o : Oper} {a : Act} {w : World} {f : Nat → Value} {x : Value} (ho : ops[j]? = some o) (h : ∀ d, a.eval (.tmp d) = f d) (he : eas ops f o = some x) (hK : K (a.put o.dst x) w) : wpOp Try.prog ops Q j K a w := by
  have ev := evO_eval h
  unfold eas at he
  cases hw : wnt ops f o with
  | none => simp [hw] at he
  | some b =>
    have hw2 := wnt_is h hw
    cases b with
    | false =>
      simp only [hw] at he
      injection he with he
      subst he
      exact stepU ho hw2 hK
    | true =>
      simp only [hw] at he
      cases hop : o.op with
      | move y =>
        simp only [hop] at he
        injection he with he
        exact stepV ho hw2 (execMvB hop ((ev y).trans he)) hK
      | assign y =>
        simp only [hop] at he
        injection he with he
        exact stepV ho hw2 (execAsgB hop ((ev y).trans he)) hK
      | pick c y z =>
        simp only [hop] at he
        cases hc : evO f c with
        | bool t =>
          rw [hc] at he
          cases t with
          | true =>
            injection he with he
            exact stepV ho hw2 (execPickT hop ((ev c).trans hc) ((ev y).trans he)) hK
          | false =>
            injection he with he
            exact stepV ho hw2 (execPickF hop ((ev c).trans hc) ((ev z).trans he)) hK
        | _ => rw [hc] at he; cases he
      | extract y k =>
        simp only [hop] at he
        cases hc : evO f y with
        | tuple arr =>
          rw [hc] at he
          exact stepV ho hw2 (execExtT hop ((ev y).trans hc) he) hK
        | _ => rw [hc] at he; cases he
      | _ => simp [hop] at he
theorem wy {ops : Array Oper} {o q : Oper} {a : Act} {k d : Nat} {b : Bool} (hg : o.guard = some (k, b)) (hq : ops[k]? = some q) (hd : q.dst = some d) (hv : a.eval (.tmp d) = .bool b) : Region.wanted o (yielded ops a.tmps) = true := wantedOf hg (yieldedAt hq hd hv)
end Go.Proofs.Ytcgkelgncehekab.Cf
