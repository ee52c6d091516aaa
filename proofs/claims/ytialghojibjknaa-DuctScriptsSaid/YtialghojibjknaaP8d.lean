import Derived.Test.YtialghojibjknaaP8c
import Derived.WalkKit
namespace Go.Proofs.Ytialghojibjknaa.Duc
open Go.RowKit Gf8 Aes By8 Cel Cf Win Drw Prm
/- Comparisons of ducts and errors; awake, place. Written by tools/mkP8d.py. -/

section
variable {o : Oper} {a : Act} {w : World}
theorem execDIeqln {x : Operand} (ho : o.op = .binOp .eql 26 x (.const (.pointer none)) 26) (hx : a.eval x = .pointer none) : (execOp a.eval o).run Try.prog w = .ok (.value (.bool true)) w := by
  unfold execOp
  simp only [ho, hx]
  simp [go_sem]
theorem execDIeqls {x : Operand} {b k : Nat} (ho : o.op = .binOp .eql 26 x (.const (.pointer none)) 26) (hx : a.eval x = .pointer (some ⟨b, k, none⟩)) : (execOp a.eval o).run Try.prog w = .ok (.value (.bool false)) w := by
  unfold execOp
  simp only [ho, hx]
  simp [go_sem]
theorem execErneq {x : Operand} {p q : Nat} (ho : o.op = .binOp .neq 27 x (.const (.int .i64 ((q : Nat) : Int))) 27) (hx : a.eval x = .int .i64 ((p : Nat) : Int)) : (execOp a.eval o).run Try.prog w = .ok (.value (.bool (decide (p ≠ q)))) w := by
  unfold execOp
  simp only [ho, hx]
  by_cases h : p = q
  · subst h
    simp [go_sem]
  · have h2 : ¬ (p : Int) = q := by omega
    simp [go_sem, h, h2]
end
section
variable {El : Value → Prop} {zv : Value} {fN fP fT fC fL fK fD fU fE : FuncId} (I : DImpl El zv fN fP fT fC fL fK fD fU fE) {V W X : World} {F : Nat → Prop} {v u : Value} {x : Nat → Value} {n k : Nat} {c : Bool}
theorem DImpl.new_o (I : DImpl El zv fN fP fT fC fL fK fD fU fE) (k : Nat) (hk : k ≤ 1024) (V : World) (x : Nat → Value) : Calls Try.prog fN #[.int .i64 ((k : Nat) : Int)] V fun e w' => ∃ b F, e = .returned (.tuple #[.pointer (some ⟨b, 0, none⟩), .int .i64 ((0 : Nat) : Int)]) ∧ I.R w' F (.pointer (some ⟨b, 0, none⟩)) x 0 k false ∧ (∀ q, F q → V.heap.size ≤ q) ∧ Below V.heap.size V w' := by
  refine (I.new ((k : Nat) : Int) V x).mono fun e w' ⟨⟨h1, _⟩, hb⟩ => ?_
  obtain ⟨b, F, he, hR, hF⟩ := h1 ⟨by omega, by omega⟩
  rw [Int.toNat_natCast] at hR
  exact ⟨b, F, he, hR, hF, hb⟩
theorem DImpl.new_b (I : DImpl El zv fN fP fT fC fL fK fD fU fE) (s : Int) (hs : ¬ (0 ≤ s ∧ s ≤ 1024)) (V : World) : Calls Try.prog fN #[.int .i64 s] V fun e w' => e = .returned (.tuple #[.pointer none, .int .i64 ((2 : Nat) : Int)]) ∧ Below V.heap.size V w' :=
  (I.new s V (fun _ => .int .i64 0)).mono fun _ _ ⟨⟨_, h2⟩, hb⟩ => ⟨h2 hs, hb⟩
/-- What is put in is the list's next thing. -/
theorem DImpl.put_x (h : I.R V F v x n k false) (hu : El u) (e : u = x n) (hq : n < k) : Calls Try.prog fP #[v, u] V fun e w' => ∃ F', e = .returned (.tuple #[.bool true, .int .i64 ((0 : Nat) : Int)]) ∧ I.R w' F' v x (n + 1) k false ∧ Saved F V w' ∧ ∀ q, F' q → F q ∨ V.heap.size ≤ q :=
  (I.put_t h hu ⟨rfl, hq⟩).mono fun e' w' ⟨F', he, hR, hs, hf⟩ => ⟨F', he, I.cg hR (fun j _ => by by_cases q : j = n; rw [q, up_at, e]; exact up_ne _ _ q), hs, hf⟩
end
theorem savedG18 {G : Nat → Prop} {B : Nat} {V W : World} (h : Saved G V W) (hG : ∀ k, G k → B ≤ k) (hB : B ≤ V.heap.size) : Below B V W :=
  ⟨h.os, h.tape, h.output, h.size, fun k hk => h.block k (by omega) (fun g => by have := hG k g; omega)⟩
theorem own_saved18 {G : Nat → Prop} {W W' : World} {B n s : Nat} {v : Value} {xs : List Value} {t : TypeId} (h : W.ownsRow B t s v n xs) (sv : Saved G W W') (hk : ∀ k, v.ownBlock = some k → ¬ G k) : W'.ownsRow B t s v n xs := by
  refine ⟨h.1, ?_⟩
  rcases h.2 with h | ⟨g, cap, cur, e, hB, hg, hr⟩
  · exact Or.inl h
  · exact Or.inr ⟨g, cap, cur, e, hB, (sv.block g (Array.getElem?_eq_some_iff.1 hg).1 (hk g (by rw [e]; rfl))).trans hg, hr⟩
theorem put_below {V X Y : World} {F : Nat → Prop} (hb : Below V.heap.size V X) (hs : Saved F X Y) (hF : ∀ q, F q → V.heap.size ≤ q) : Below V.heap.size V Y := hb.trans (savedG18 hs hF hb.size)
theorem put_ge {V X : World} {F F' : Nat → Prop} (hb : Below V.heap.size V X) (hF : ∀ q, F q → V.heap.size ≤ q) (hf : ∀ q, F' q → F q ∨ X.heap.size ≤ q) : ∀ q, F' q → V.heap.size ≤ q := fun q h => (hf q h).elim (hF q) (fun h => Nat.le_trans hb.size h)
def aw18 (j : Nat) : Value := .int .i64 ((j + 1 : Nat) : Int)
theorem awEl (m : Nat) (hm : m < 1000) : ElI (.int .i64 ((m : Nat) : Int)) := ⟨_, rfl, by unfold I64; omega⟩
theorem aw_take {I : ImplI} {V : World} {F : Nat → Prop} {v : Value} (h : I.R V F v aw18 2 2 false) : Calls Try.prog 21 #[v] V fun e w' => ∃ F', e = .returned (.tuple #[.int .i64 ((1 : Nat) : Int), .bool true, .int .i64 ((0 : Nat) : Int)]) ∧ I.R w' F' v (fun j => aw18 (j + 1)) 1 2 false ∧ Saved F V w' ∧ ∀ q, F' q → F q ∨ V.heap.size ≤ q := I.take_o h (by omega)
set_option maxRecDepth 100000 in
set_option maxHeartbeats 4000000 in
/-- awake. -/
theorem awake18 (I : ImplI) (V : World) :
    Calls Try.prog 5 #[] V fun e w' => e = .returned (.bool true) ∧ Below V.heap.size V w' := by
  go_enter Try.func5, Try.ntmps5
  refine wo_ 63 [] ?_
  rintro a A -
  have BW : Below V.heap.size V V := Below.refl _ _
  have BB : Below V.heap.size V V := Below.refl _ _
  refine wp_seq ?_
  refine wi_ A h0_ (rg_ [] ?_)
  rintro a A -
  refine wp_seq ?_
  refine wi_ A h0_ (rc_ 0 (I.new_o 2 (by omega) V aw18) fun e X1 hh => ?_)
  obtain ⟨db, fp0, he, hk, hf, hb⟩ := hh
  refine ⟨_, he, ?_⟩
  have bQ : Below V.heap.size V X1 := hb
  have FR0 : (I.R X1 fp0 (.pointer (some ⟨db, 0, none⟩)) aw18 0 2 false) := hk
  have FG0 : (∀ q, fp0 q → V.heap.size ≤ q) := fun q h => Nat.le_trans (BB).size (hf q h)
  replace BB := BB.trans (bQ.mono BB.size)
  clear bQ
  refine rg_ [(1, .pointer (some ⟨db, 0, none⟩)), (2, .int .i64 ((0 : Nat) : Int))] ?_
  rintro a A ⟨t1, t2, -⟩
  refine wp_seq ?_
  refine wp_seq ?_
  refine wi_ A (h2_ t1 t2) (rv_ 1 (.bool false) (fun a ee => execDec (execErneq (p := 0) (q := 0) rfl (ee _)) (by decide)) (rv_ 4 (.bool false) (fun a ee => execDIeqls rfl (ee _)) (rf_ [(21, .bool false)] (h1_ t1) ?_)))
  rintro a A ⟨t21, -⟩ ⟨t1, -⟩
  refine wp_cond_false t21 ?_
  refine wp_skip ?_
  clear t21
  refine wp_seq ?_
  refine wi_ A (h1_ t1) (rc_ 1 (I.put_x FR0 (awEl 1 (by omega)) rfl (by omega)) fun e X4 hh => ?_)
  obtain ⟨fp1, he, hk, hs, hf⟩ := hh
  refine ⟨_, he, ?_⟩
  obtain ⟨BB, FR1, FG1⟩ : Below V.heap.size V X4 ∧ (I.R X4 fp1 (.pointer (some ⟨db, 0, none⟩)) aw18 (0 + 1) 2 false) ∧ (∀ q, fp1 q → V.heap.size ≤ q) := ⟨put_below BB hs FG0, hk, put_ge BB FG0 hf⟩
  clear FR0 FG0
  refine rf_ [(3, .bool true)] (h1_ t1) ?_
  rintro a A ⟨t3, -⟩ ⟨t1, -⟩
  refine wp_seq ?_
  refine wi_ A (h2_ t1 t3) (rc_ 1 (I.put_x FR1 (awEl 2 (by omega)) rfl (by omega)) fun e X5 hh => ?_)
  obtain ⟨fp2, he, hk, hs, hf⟩ := hh
  refine ⟨_, he, ?_⟩
  obtain ⟨BB, FR2, FG2⟩ : Below V.heap.size V X5 ∧ (I.R X5 fp2 (.pointer (some ⟨db, 0, none⟩)) aw18 (0 + 1 + 1) 2 false) ∧ (∀ q, fp2 q → V.heap.size ≤ q) := ⟨put_below BB hs FG1, hk, put_ge BB FG1 hf⟩
  clear FR1 FG1
  refine rf_ [(5, .bool true)] (h2_ t1 t3) ?_
  rintro a A ⟨t5, -⟩ ⟨t1, t3, -⟩
  refine wp_seq ?_
  refine wi_ A (h3_ t1 t3 t5) (rc_ 1 (I.put_f FR2 (awEl 3 (by omega)) (by omega)) fun e X6 hh => ?_)
  obtain ⟨fp3, he, hk, hs, hf⟩ := hh
  refine ⟨_, he, ?_⟩
  obtain ⟨BB, FR3, FG3⟩ : Below V.heap.size V X6 ∧ (I.R X6 fp3 (.pointer (some ⟨db, 0, none⟩)) aw18 (0 + 1 + 1) 2 false) ∧ (∀ q, fp3 q → V.heap.size ≤ q) := ⟨put_below BB hs FG2, hk, put_ge BB FG2 hf⟩
  clear FR2 FG2
  refine rf_ [(7, .bool false)] (h3_ t1 t3 t5) ?_
  rintro a A ⟨t7, -⟩ ⟨t1, t3, t5, -⟩
  refine wp_seq ?_
  refine wi_ A (h4_ t1 t3 t5 t7) (rc_ 1 (aw_take FR3) fun e X7 hh => ?_)
  obtain ⟨fp4, he, hk, hs, hf⟩ := hh
  refine ⟨_, he, ?_⟩
  obtain ⟨BB, FR4, FG4⟩ : Below V.heap.size V X7 ∧ (I.R X7 fp4 (.pointer (some ⟨db, 0, none⟩)) (fun j => aw18 (j + 1)) 1 2 false) ∧ (∀ q, fp4 q → V.heap.size ≤ q) := ⟨put_below BB hs FG3, hk, put_ge BB FG3 hf⟩
  clear FR3 FG3
  refine rf_ [(9, .int .i64 ((1 : Nat) : Int)), (10, .bool true)] (h4_ t1 t3 t5 t7) ?_
  rintro a A ⟨t9, t10, -⟩ ⟨t1, t3, t5, t7, -⟩
  refine wp_seq ?_
  refine wi_ A (h6_ t1 t3 t5 t7 t9 t10) (rv_ 6 (.bool true) (fun a ee => execNot8 (b := false) rfl (ee _)) (rv_ 10 (.bool true) (fun a ee => execDec (exIeql3 (p := ((1 : Nat) : Int)) (q := 1) rfl (ee _) rfl) (decide_eq_true rfl)) (rc_ 17 (I.len FR4) (cb_ fun X8 bQ => ?_))))
  replace FR4 := (I.on FR4 bQ)
  replace BB := BB.trans (bQ.mono BB.size)
  clear bQ
  refine rv_ 18 (.bool true) (fun a ee => execDec (exIeql3 (p := ((1 : Nat) : Int)) (q := 1) rfl (ee _) rfl) (decide_eq_true rfl)) (rg_ [(0, .bool true)] ?_)
  rintro a A ⟨t0, -⟩
  refine wp_ret ?_
  refine bodyPost_ret (results_tmp rfl _ _ _) A.2 ⟨?_, BB⟩
  show Ending.returned (a.eval (.tmp 0)) = _
  rw [t0]
end Go.Proofs.Ytialghojibjknaa.Duc
