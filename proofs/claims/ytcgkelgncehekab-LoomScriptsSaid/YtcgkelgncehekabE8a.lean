import Derived.WalkKit
namespace Go.Proofs.Ytcgkelgncehekab.Loo
/- Stage 19 (loom): plans and their runs, over lists and functions. Names nothing of a program. -/

/-- A function changed at one place. -/
def upf {α : Type} (f : Nat → α) (k : Nat) (z : α) (j : Nat) : α := if j = k then z else f j
theorem upf_at {α : Type} (f : Nat → α) (k : Nat) (z : α) : upf f k z k = z := if_pos rfl
theorem upf_ne {α : Type} (f : Nat → α) {k j : Nat} (z : α) (h : j ≠ k) : upf f k z j = f j := if_neg h
/-- An operation: its kind and its two numbers. -/
structure Op3 where
  k : Int
  a : Int
  b : Int
/-- A plan: d ducts, n tasks. -/
structure Pl where
  d : Nat
  n : Nat
  cap : Nat → Int
  ln : Nat → Nat
  op : Nat → Nat → Op3
def inB (x lo hi : Int) : Bool := decide (lo ≤ x ∧ x ≤ hi)
/-- Is the operation right? -/
def rgt (o : Op3) (ops d n : Nat) : Bool :=
  if o.k = 1 ∨ o.k = 3 then inB o.a 0 ((d : Int) - 1)
  else if o.k = 2 then inB o.a 0 ((d : Int) - 1) && inB o.b 0 ops
  else if o.k = 8 then inB o.a 0 ((d : Int) - 1) && inB o.b 0 ((d : Int) - 1)
  else if o.k = 4 ∨ o.k = 5 then inB o.a (-1024) 1024
  else if o.k = 6 then inB o.a 0 ops
  else if o.k = 7 then inB o.a 0 ops && inB o.b (-1024) 1024
  else if o.k = 9 then inB o.a 0 ((n : Int) - 1)
  else decide (o.k = 10)
def lnB (p : Pl) : Bool := (List.range p.n).any fun t => decide (256 < p.ln t)
def cpB (p : Pl) : Bool := (List.range p.d).any fun i => !inB (p.cap i) 0 1024
def opB (p : Pl) : Bool := (List.range p.n).any fun t => (List.range (p.ln t)).any fun j => !rgt (p.op t j) (p.ln t) p.d p.n
/-- The error of a plan. -/
def chk (p : Pl) : Nat := if 128 < p.n ∨ 64 < p.d then 1 else if lnB p = true then 1 else if cpB p = true then 190 else if opB p = true then 190 else 0
/-- A plan's run: places, registers, who has ended, what was taken, what lies in the ducts, which are closed, what came late. -/
structure Rm where
  pl : Nat → Nat
  rg : Nat → Int
  en : Nat → Bool
  tk : Nat → List Int
  hd : Nat → List Int
  cl : Nat → Bool
  lt : Nat
def r0 : Rm := ⟨fun _ => 0, fun _ => 0, fun _ => false, fun _ => [], fun _ => [], fun _ => false, 0⟩
section
variable (p : Pl) (r : Rm)
def gone (t : Nat) : Bool := r.en t || decide (p.ln t ≤ r.pl t)
/-- The operation at which a task stands. -/
def at_ (t : Nat) : Op3 := if gone p r t = true then ⟨0, 0, 0⟩ else p.op t (r.pl t)
def isG (d : Nat) (t : Nat) : Bool := decide ((at_ p r t).k = 1 ∧ (at_ p r t).a = d)
def isT (d : Nat) (t : Nat) : Bool := decide (((at_ p r t).k = 2 ∨ (at_ p r t).k = 8) ∧ (at_ p r t).a = d ∨ (at_ p r t).k = 8 ∧ (at_ p r t).b = d)
def giv (d : Nat) : Option Nat := (List.range p.n).find? (isG p r d)
def tak (d : Nat) : Option Nat := (List.range p.n).find? (isT p r d)
def mts (d : Nat) (o : Option Nat) : Bool := decide (p.cap d = 0) && !r.cl d && o.isSome
def rdy (d : Nat) : Bool := decide (0 < (r.hd d).length) || mts p r d (giv p r d)
def spt (d : Nat) : Bool := r.cl d && decide ((r.hd d).length = 0)
/-- May a task be picked? -/
def may (t : Nat) : Bool :=
  let o := at_ p r t
  if o.k = 0 then false
  else if o.k = 1 then r.cl o.a.toNat || decide (((r.hd o.a.toNat).length : Int) < p.cap o.a.toNat) || mts p r o.a.toNat (tak p r o.a.toNat)
  else if o.k = 2 then rdy p r o.a.toNat || r.cl o.a.toNat
  else if o.k = 8 then rdy p r o.a.toNat || rdy p r o.b.toNat || spt r o.a.toNat && spt r o.b.toNat
  else if o.k = 9 then gone p r o.a.toNat
  else true
def on_ (t : Nat) : Rm := { r with pl := upf r.pl t (r.pl t + 1) }
def got (t : Nat) (x : Int) : Rm := { r with rg := upf r.rg t x, tk := upf r.tk t (r.tk t ++ [x]), pl := upf r.pl t (r.pl t + 1) }
def frm (t d : Nat) : Rm := match r.hd d with
  | x :: l => got { r with hd := upf r.hd d l } t x
  | [] => got (on_ r ((giv p r d).getD 0)) t (r.rg ((giv p r d).getD 0))
def pt_ (t d : Nat) : Rm :=
  if r.cl d = true then { on_ r t with lt := r.lt + 1 }
  else if ((r.hd d).length : Int) < p.cap d then { on_ r t with hd := upf r.hd d (r.hd d ++ [r.rg t]) }
  else got (on_ r t) ((tak p r d).getD 0) (r.rg t)
/-- The pick of a task. -/
def stp (t : Nat) : Rm :=
  let o := at_ p r t
  if o.k = 1 then pt_ p r t o.a.toNat
  else if o.k = 2 then if rdy p r o.a.toNat = true then frm p r t o.a.toNat else { r with pl := upf r.pl t o.b.toNat }
  else if o.k = 8 then
    if rdy p r o.a.toNat = true then frm p r t o.a.toNat
    else if rdy p r o.b.toNat = true then frm p r t o.b.toNat
    else if 0 ≤ r.rg t ∧ r.rg t ≤ p.ln t then { r with pl := upf r.pl t (r.rg t).toNat }
    else { r with en := upf r.en t true }
  else if o.k = 6 then { r with pl := upf r.pl t o.a.toNat }
  else if o.k = 7 then if r.rg t ≠ o.b then { r with pl := upf r.pl t o.a.toNat } else on_ r t
  else if o.k = 3 then { on_ r t with cl := upf r.cl o.a.toNat true, lt := if r.cl o.a.toNat = true then r.lt + 1 else r.lt }
  else if o.k = 4 then { on_ r t with rg := upf r.rg t o.a }
  else if o.k = 5 then { on_ r t with rg := upf r.rg t (r.rg t + o.a) }
  else if o.k = 10 then { on_ r t with en := upf r.en t true }
  else on_ r t
def mayL : List Nat := (List.range p.n).filter (may p r)
def live : Bool := (List.range p.n).any fun t => decide ((at_ p r t).k ≠ 0)
def lyg : Nat := ((List.range p.d).map fun i => (r.hd i).length).sum
end
/-- Of m tasks, which one a number of the script takes. -/
def chn (s : Int) (m : Nat) : Nat := (s % (m : Int)).toNat
/-- The run: the room behind k picks, the task of pick k. -/
def rk (p : Pl) (s : Nat → Int) : Nat → Rm
  | 0 => r0
  | k + 1 => stp p (rk p s k) ((mayL p (rk p s k)).getD (chn (s k) (mayL p (rk p s k)).length) 0)
def pk (p : Pl) (s : Nat → Int) (k : Nat) : Nat := (mayL p (rk p s k)).getD (chn (s k) (mayL p (rk p s k)).length) 0
def mx (p : Pl) (s : Nat → Int) : Nat → Nat
  | 0 => 0
  | k + 1 => max (mx p s k) (lyg p (rk p s (k + 1)))
/-- N picks are made. -/
structure Run (p : Pl) (s : Nat → Int) (N : Nat) : Prop where
  le : N ≤ 65536
  go : ∀ j, j < N → mayL p (rk p s j) ≠ []
  stop : mayL p (rk p s N) = [] ∨ N = 65536
theorem Run.uniq {p : Pl} {s : Nat → Int} {N M : Nat} (h : Run p s N) (g : Run p s M) : N = M := by
  rcases Nat.lt_trichotomy N M with q | q | q
  · rcases h.stop with z | z
    · exact absurd z (g.go N q)
    · have := g.le; omega
  · exact q
  · rcases g.stop with z | z
    · exact absurd z (h.go M q)
    · have := h.le; omega
theorem run_ex (p : Pl) (s : Nat → Int) : ∃ N, Run p s N := by
  have key : ∀ k, k ≤ 65536 → (∃ N, Run p s N) ∨ ∀ j, j < k → mayL p (rk p s j) ≠ [] := by
    intro k
    induction k with
    | zero => exact fun _ => Or.inr fun j hj => absurd hj (Nat.not_lt_zero j)
    | succ k ih =>
      intro hk
      rcases ih (by omega) with h | h
      · exact Or.inl h
      · by_cases e : mayL p (rk p s k) = []
        · exact Or.inl ⟨k, by omega, h, Or.inl e⟩
        · refine Or.inr fun j hj => ?_
          by_cases q : j = k
          · rw [q]; exact e
          · exact h j (by omega)
  rcases key 65536 (Nat.le_refl _) with h | h
  · exact h
  · exact ⟨65536, Nat.le_refl _, h, Or.inr rfl⟩
section
variable {p : Pl} {s u : Nat → Int} {r : Rm} {N k m t : Nat}
theorem chn_lt {x : Int} (h : 0 < m) : chn x m < m := by
  have h1 := Int.emod_nonneg x (show (m : Int) ≠ 0 by omega)
  have h2 := Int.emod_lt_of_pos x (show (0 : Int) < m by omega)
  unfold chn
  omega
theorem chn_zero (m : Nat) : chn 0 m = 0 := by unfold chn; simp
theorem len_pos {l : List Nat} (h : l ≠ []) : 0 < l.length := List.length_pos_iff.2 h
theorem pk_mem (h : mayL p (rk p s k) ≠ []) : pk p s k ∈ mayL p (rk p s k) := by
  unfold pk
  have h1 := chn_lt (x := s k) (len_pos h)
  rw [List.getD_eq_getElem?_getD, List.getElem?_eq_getElem h1]
  exact List.getElem_mem h1
theorem pk_is (h : mayL p (rk p s k) ≠ []) : pk p s k < p.n ∧ may p (rk p s k) (pk p s k) = true := by
  have h1 := List.mem_filter.1 (pk_mem h)
  exact ⟨List.mem_range.1 h1.1, h1.2⟩
theorem rk_succ : rk p s (k + 1) = stp p (rk p s k) (pk p s k) := rfl
/-- The script alone: what it says of the picks that are made. -/
theorem rk_cg (e : ∀ j, j < k → s j = u j) : rk p s k = rk p u k := by
  induction k with
  | zero => rfl
  | succ k ih =>
    have h1 := ih fun j hj => e j (by omega)
    rw [rk_succ, rk_succ]
    unfold pk
    rw [h1, e k (by omega)]
theorem pk_cg (e : ∀ j, j ≤ k → s j = u j) : pk p s k = pk p u k := by
  unfold pk
  rw [rk_cg fun j hj => e j (by omega), e k (Nat.le_refl _)]
theorem mx_cg (e : ∀ j, j < k → s j = u j) : mx p s k = mx p u k := by
  induction k with
  | zero => rfl
  | succ k ih => rw [mx, mx, ih fun j hj => e j (by omega), rk_cg e]
theorem Run.cg (e : ∀ j, j < N → s j = u j) (h : Run p s N) : Run p u N := by
  refine ⟨h.le, fun j hj => ?_, ?_⟩
  · rw [← rk_cg fun i hi => e i (by omega)]; exact h.go j hj
  · rw [← rk_cg e]; exact h.stop
theorem mayL_nil : mayL p r = [] ↔ ∀ t, t < p.n → may p r t = false := by
  unfold mayL
  rw [List.filter_eq_nil_iff]
  exact ⟨fun h t ht => by simpa using h t (List.mem_range.2 ht), fun h t ht => by simp [h t (List.mem_range.1 ht)]⟩
end
end Go.Proofs.Ytcgkelgncehekab.Loo
