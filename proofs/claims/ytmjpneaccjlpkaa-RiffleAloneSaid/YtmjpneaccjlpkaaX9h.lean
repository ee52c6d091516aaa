import Derived.Test.YtmjpneaccjlpkaaX9g
import Derived.Test.YtmjpneaccjlpkaaS9b
namespace Go.Proofs.Ytmjpneaccjlpkaa.Rif
open Go.RowKit Gf8 Aes By8 Cel Cf Tap Drw Prm Brd
/- Stage 13's laws: same, counted, alive. Written by tools/mkX9h.py. -/
theorem cntd_byte : ∀ j, j < 18 + 24 → cntd j < 256 := fun j hj => by
 unfold cntd
 by_cases h : j < 18
 ·rw [if_pos h]; omega
 ·rw [if_neg h]; omega
theorem own_mkZB (W : World) (l n : Nat) (p : Nat → Nat) (hl : l ≤ n) (hn : n ≤ 140737488355328) (hp : ∀ j, j < l → p j = 0) : (W.alloc (.cells (bA n (fun _ => 0)) 5)).ownsRow W.heap.size 5 1 (.slice (some ⟨W.heap.size, 0, none⟩) l n) l (bytesL l p) := by
 refine ⟨by rw [bytesL_len, Nat.mul_one], Or.inr ⟨W.heap.size, n, _, rfl, Nat.le_refl _, heapNew W _, hl, by unfold maxLen; omega, by rw [bA_size, Nat.mul_one], ?_⟩⟩
 apply List.ext_getElem?
 intro j
 by_cases h : j < l
 ·rw [List.getElem?_take_of_lt (by omega), Array.getElem?_toList, bA_at n _ (by omega), bytesL_at l p h, hp j h]
 ·rw [List.getElem?_eq_none (by rw [List.length_take]; omega), List.getElem?_eq_none (by rw [bytesL_len]; omega)]
theorem own_mk18 (W : World) : (W.alloc (.cells (bA 42 (fun _ => 0)) 5)).ownsRow W.heap.size 5 1 (.slice (some ⟨W.heap.size, 0, none⟩) 18 42) (18 + 0) (bytesL (18 + 0) cntd) := own_mkZB W 18 42 cntd (by omega) (by omega) (fun j hj => if_pos hj)
theorem one_cnt (X : World) {k : Nat} (hk : k < 24) : SliceN (X.alloc (.cells #[.int .u8 ((k + 1 : Nat) : Int)] 5)) (.slice (some ⟨X.heap.size, 0, none⟩) 1 1) 1 (fun j => cntd (18 + k + j)) := by
 have e : ∀ j, j < 1 → cntd (18 + k + j) = k + 1 := fun j hj => by
  unfold cntd
  rw [if_neg (by omega)]
  omega
 refine ⟨⟨_, _, rfl, Nat.le_refl _, by omega, fun _ => ⟨X.heap.size, 0, rfl, by simp, fun j hj => ?_⟩⟩, fun j hj => by rw [e j hj]; omega⟩
 rw [cell_of_row _ _ _ _ _ _ (heapNew X _)]
 rw [e j hj, show j = 0 by omega]
 rfl
def st1 (x : UInt8) : ByteArray := ⟨#[x]⟩
def abcd (j : Nat) : ByteArray := if j = 0 then st1 97 else if j = 1 then st1 98 else if j = 2 then st1 99 else st1 100
section
variable {o : Oper} {a : Act} {w : World}
theorem execBsS4 (ho : o.op = .buildSlice 32 4 #[(0, .const (.string ⟨#[97]⟩)), (1, .const (.string ⟨#[98]⟩)), (2, .const (.string ⟨#[99]⟩)), (3, .const (.string ⟨#[100]⟩))]) : (execOp a.eval o).run Try.prog w = .ok (.value (.slice (some ⟨w.heap.size, 0, none⟩) 4 4)) (w.alloc (.cells #[.string (st1 97), .string (st1 98), .string (st1 99), .string (st1 100)] 9)) := by
 unfold execOp
 simp only [ho]
 simp [go_sem, Act.eval, st1]
theorem execEqSt1 {x : Operand} {z : UInt8} (ho : o.op = .binOp .eql 9 x (.const (.string ⟨#[z]⟩)) 9) (hx : a.eval x = .string (st1 z)) : (execOp a.eval o).run Try.prog w = .ok (.value (.bool true)) w := by
 have hc : a.eval (.const (.string ⟨#[z]⟩)) = .string (st1 z) := rfl
 unfold execOp
 simp only [ho, hx, hc]
 simp [go_sem]
end
theorem sliceS4 (X : World) : SliceS (X.alloc (.cells #[.string (st1 97), .string (st1 98), .string (st1 99), .string (st1 100)] 9)) (.slice (some ⟨X.heap.size, 0, none⟩) 4 4) 4 abcd := by
 refine ⟨⟨_, _, rfl, Nat.le_refl _, by unfold maxLen; omega, fun _ => ⟨X.heap.size, 0, rfl, by simp, fun j hj => ?_⟩⟩⟩
 rw [cell_of_row _ _ _ _ _ _ (heapNew X _)]
 match j, hj with
 | 0, _ => rfl
 | 1, _ => rfl
 | 2, _ => rfl
 | 3, _ => rfl
 | j + 4, h => omega
theorem shf_fits {L m : Nat} {ch : Int} {p : Nat → Nat} {g : Nat → Int} (hg : ∀ j, j < m → -9223372036854775808 ≤ g j ∧ g j < 9223372036854775808) : ∀ j, j < zl (riE L ((m : Nat) : Int) ch p) m → -9223372036854775808 ≤ g (orF L ((m : Nat) : Int) ch p j).toNat ∧ g (orF L ((m : Nat) : Int) ch p j).toNat < 9223372036854775808 := fun j hj => by
 by_cases h : riE L ((m : Nat) : Int) ch p = 0
 ·rw [h, zl_ok] at hj
  have h1 := (ri_ok h).or_lt hj
  exact hg _ (by omega)
 ·rw [zl_no h] at hj
  exact absurd hj (Nat.not_lt_zero _)
theorem al_1 (V : World) (v : Value) (h : SliceN V v 42 cntd) : Calls Try.prog 10 #[v, .int .i64 3, .int .i64 1] V fun e w' => ∃ r, e = .returned (.tuple #[r, .int .i64 ((0 : Nat) : Int)]) ∧ SliceI w' r 3 (orF 42 3 1 cntd) ∧ Below V.heap.size V w' :=
 Calls.mono (porder cntd 42 3 1 v V h (by omega)) fun e w' ⟨r, g1, g2, g3⟩ => by
  have hf := or_fits (L := 42) (n := 3) (ch := 1) (p := cntd)
  rw [cntd_1.1] at g1
  rw [cntd_1.1, zl_ok] at g2 hf
  exact ⟨r, g1, own_ints g2 hf, g3⟩
theorem strs_slice {W : World} {B n : Nat} {v : Value} {s : Nat → ByteArray} (h : W.ownsRow B 9 1 v n (strsL n s)) : SliceS W v n s := own_strs h
theorem al_2 (V : World) (v u : Value) (h : SliceN V v 42 cntd) (hu : SliceS V u 4 abcd) : Calls Try.prog 14 #[v, .int .i64 2, u] V fun e w' => ∃ r, e = .returned (.tuple #[r, .int .i64 ((0 : Nat) : Int)]) ∧ SliceS w' r 4 (fun i => abcd (orF 42 4 2 cntd i).toNat) ∧ Below V.heap.size V w' :=
 Calls.mono (pshuffleS cntd 42 4 2 abcd v u V h (by omega) hu) fun e w' ⟨r, g1, g2, g3⟩ => by
  have hE : riE 42 ((4 : Nat) : Int) 2 cntd = 0 := cntd_2.1
  rw [hE] at g1
  rw [hE, zl_ok] at g2
  exact ⟨r, g1, strs_slice g2, g3⟩
theorem al_3 (V : World) (v u : Value) (h : SliceN V v 42 cntd) (hu : SliceI V u 2 (fun j => if j = 0 then 1 else 0)) : Calls Try.prog 16 #[v, .int .i64 2, .int .i64 1, u] V fun e w' => ∃ r, e = .returned (.tuple #[r, .int .i64 ((0 : Nat) : Int)]) ∧ SliceN w' r 42 (tnF 42 2 1 (fun j => if j = 0 then 1 else 0) cntd) ∧ Below V.heap.size V w' :=
 Calls.mono (pturn cntd 42 2 1 (fun j => if j = 0 then 1 else 0) 2 v u V h (by omega) hu) fun e w' ⟨r, g1, g2, g3⟩ => by
  have hf : ∀ x, x < zl (tnE 42 2 1 (fun j => if j = 0 then 1 else 0) 2 cntd) 42 → tnF 42 2 1 (fun j => if j = 0 then 1 else 0) cntd x < 256 := fun x hx => tn_byte cntd_byte hx
  rw [cntd_3] at g1
  rw [cntd_3, zl_ok] at g2 hf
  exact ⟨r, g1, own_slice g2 hf, g3⟩
set_option maxRecDepth 100000 in
set_option maxHeartbeats 4000000 in
theorem same13 (f g : Nat → Int) (n m : Nat) (v u0 : Value) (V : World) (FI : SliceI V v n f) (FJ : SliceI V u0 m g) (hn17 : n ≤ 17592186044416) :
  Calls Try.prog 13 #[v, u0] V fun e w' => e = .returned (.bool (decide (n = m) && eqL f g n)) ∧ Below V.heap.size V w' := by
 go_enter Try.func13, Try.ntmps13
 refine wp_seq ?_
 refine wp_region_sqK 26 [(0, 4)] (fun i_ => match i_ with | 0 => .bool false | _ => undef) rfl (by kernel_rfl) (by decide) (by decide) ?_ ?_
 ·intro i_ hi_ a hf hv hn
  match i_, hi_ with
  | 0, _ => exact stepV rfl rfl (execAsgB rfl rfl) ⟨⟨_, rfl, rfl⟩, rfl⟩
  | k_ + 1, h_ => exact absurd h_ (by simp)
 intro a h1 h2 h3 h4
 have t0 : a.eval (.tmp 0) = v := (h3 0 (by decide)).trans rfl
 have t1 : a.eval (.tmp 1) = u0 := (h3 1 (by decide)).trans rfl
 have A : a.tmps.size = 26 ∧ a.defers = [] := ⟨h1, h2⟩
 have BW : Below V.heap.size V V := Below.refl _ _
 clear h1 h2 h3 h4
 have BB := BW
 refine wp_seq (wp_seq ?_)
 by_cases hnm : n = m
 ·refine wp_se 26 [1, 3, 4] [] (fun _ s X => Below V.heap.size V X) (fun s => fun i_ => match i_ with | 1 => .int .i64 ((n : Nat) : Int) | 3 => .int .i64 ((m : Nat) : Int) | 4 => .bool false | _ => undef) () A (BB) (And.intro ?_ (And.intro ?_ (And.intro ?_ trivial))) ?_
  ·exact fun s a X e hS => stepV rfl rfl (execLenI (len := n) rfl ((e (.tmp 6)).trans t0) ((FI.on hS)).shp) ⟨s, ⟨_, rfl, rfl⟩, hS, ar⟩
  ·exact fun s a X e hS => stepV rfl rfl (execLenI (len := m) rfl ((e (.tmp 8)).trans t1) ((FJ.on hS)).shp) ⟨s, ⟨_, rfl, rfl⟩, hS, ar⟩
  ·exact fun s a X e hS => stepV rfl rfl (execDec (execNeN (p := n) (q := m) rfl (e (.tmp 7)) (e (.tmp 9))) (decide_eq_false (by omega))) ⟨s, ⟨_, rfl, rfl⟩, hS, ar⟩
  rintro _ a X1 A e (BB : Below V.heap.size V X1)
  have t10 : a.eval (.tmp 10) = .bool false := e _
  replace t0 := kt e t0
  replace t1 := kt e t1
  clear e
  refine wp_cond_false t10 (wp_skip ?_)
  clear t10
  rw [decide_eq_true hnm, Bool.true_and]
  subst hnm
  refine wp_seq (wp_seq ?_)
  refine wp_se 26 [] [] (fun _ s X => Below V.heap.size V X) (fun s => fun _ => undef) () A (BB) trivial ?_
  rintro _ a X3 A e (BB : Below V.heap.size V X3)
  have t5 : a.eval (.tmp 5) = .int .i64 ((0 : Nat) : Int) := e _
  replace t0 := kt e t0
  replace t1 := kt e t1
  clear e
  refine wp_block ?_
  refine wp_loop (fun a W => ∃ (i : Nat), i ≤ n ∧ (eqL f g i = true) ∧ (a.tmps.size = 26 ∧ a.defers = []) ∧ a.eval (.tmp 0) = v ∧ a.eval (.tmp 1) = u0 ∧ a.eval (.tmp 5) = .int .i64 ((i : Nat) : Int) ∧ Below V.heap.size V W) (fun a _ => n - (intOf (a.eval (.tmp 5))).toNat) ⟨0, Nat.zero_le _, rfl, A, t0, t1, t5, BB⟩ ?_
  rintro a XL4 ⟨i, hi, hok, A, t0, t1, t5, BB⟩
  have esi := t5
  refine wp_seq (wp_seq ?_)
  refine wp_se 26 [2, 3] [] (fun _ s X => Below V.heap.size V X) (fun s => fun i_ => match i_ with | 2 => .int .i64 ((n : Nat) : Int) | 3 => .bool (decide (i < n)) | _ => undef) () A (BB) (And.intro ?_ (And.intro ?_ trivial)) ?_
  ·exact fun s a X e hS => stepV rfl rfl (execLenI (len := n) rfl ((e (.tmp 12)).trans t0) ((FI.on hS)).shp) ⟨s, ⟨_, rfl, rfl⟩, hS, ar⟩
  ·exact fun s a X e hS => stepV rfl rfl (execLtW (p := i) (q := n) rfl ((e (.tmp 11)).trans t5) (e (.tmp 13))) ⟨s, ⟨_, rfl, rfl⟩, hS, ar⟩
  rintro _ a X4 A e (BB : Below V.heap.size V X4)
  have t14 : a.eval (.tmp 14) = .bool (decide (i < n)) := e _
  replace t0 := kt e t0
  replace t1 := kt e t1
  replace t5 := kt e t5
  clear e
  by_cases lti : i < n
  ·rw [decide_eq_true lti] at t14
   refine wp_cond_true t14 (wp_skip ?_)
   clear t14
   refine wp_seq (wp_block ?_)
   obtain ⟨iib, iio, iic, eii, hiib, hiic⟩ := open_sl FI (by omega)
   have cii : ∀ k, k < n → ∀ X, Below V.heap.size V X → X.cell? ⟨iib, iio + k, none⟩ = some (.int .i64 ((f) k)) := fun k hk X hX => by rw [cell_below hX hiib]; exact hiic k hk
   obtain ⟨jjb, jjo, jjc, ejj, hjjb, hjjc⟩ := open_sl FJ (by omega)
   have cjj : ∀ k, k < n → ∀ X, Below V.heap.size V X → X.cell? ⟨jjb, jjo + k, none⟩ = some (.int .i64 ((g) k)) := fun k hk X hX => by rw [cell_below hX hjjb]; exact hjjc k hk
   by_cases he : f i = g i
   ·refine wp_seq ?_
    refine wp_region_detA 26 [(0, 17), (1, 18), (2, 19), (3, 20), (4, 21), (5, 22), (6, 23), (7, 24), (8, 25)] (fun i_ => match i_ with | 0 => v | 1 => .int .i64 ((i : Nat) : Int) | 2 => .pointer (some ⟨iib, iio + i, none⟩) | 3 => .int .i64 (f i) | 4 => u0 | 5 => .int .i64 ((i : Nat) : Int) | 6 => .pointer (some ⟨jjb, jjo + i, none⟩) | 7 => .int .i64 (g i) | 8 => .bool false | _ => undef) (fun _ X => Below V.heap.size V X) (by kernel_rfl) (by kernel_rfl) A.1 (by kernel_rfl) (by decide) (by decide) BB.drew ?_ ?_
    ·intro i_ hi_ l_ a X hl_ hf hdep hl2 hcl hno hT
     match i_, hi_ with
     | 0, _ => exact stepV rfl rfl (execMvB rfl ((hf 0 (by decide)).trans t0)) ⟨⟨_, rfl, rfl⟩, hT⟩
     | 1, _ => exact stepV rfl rfl (execMvB rfl ((hf 5 (by decide)).trans t5)) ⟨⟨_, rfl, rfl⟩, hT⟩
     | 2, _ => exact stepV rfl rfl (execIdxN (k := i) rfl ((hdep _ rfl 0 rfl _ rfl _ rfl).trans eii) (hdep _ rfl 1 rfl _ rfl _ rfl) lti) ⟨⟨_, rfl, rfl⟩, hT⟩
     | 3, _ => exact stepV rfl rfl (execLd3 rfl (hdep _ rfl 2 rfl _ rfl _ rfl) (cii i lti X hT)) ⟨⟨_, rfl, rfl⟩, hT⟩
     | 4, _ => exact stepV rfl rfl (execMvB rfl ((hf 1 (by decide)).trans t1)) ⟨⟨_, rfl, rfl⟩, hT⟩
     | 5, _ => exact stepV rfl rfl (execMvB rfl ((hf 5 (by decide)).trans t5)) ⟨⟨_, rfl, rfl⟩, hT⟩
     | 6, _ => exact stepV rfl rfl (execIdxN (k := i) rfl ((hdep _ rfl 4 rfl _ rfl _ rfl).trans ejj) (hdep _ rfl 5 rfl _ rfl _ rfl) lti) ⟨⟨_, rfl, rfl⟩, hT⟩
     | 7, _ => exact stepV rfl rfl (execLd3 rfl (hdep _ rfl 6 rfl _ rfl _ rfl) (cjj i lti X hT)) ⟨⟨_, rfl, rfl⟩, hT⟩
     | 8, _ => exact stepV rfl rfl (execNeIf rfl (hdep _ rfl 3 rfl _ rfl _ rfl) (hdep _ rfl 7 rfl _ rfl _ rfl) he) ⟨⟨_, rfl, rfl⟩, hT⟩
     | k_ + 9, h_ => exact absurd h_ (by simp)
    intro l_ a X6 h1 h2 h3 h4 hall hT
    clear hall
    clear BB
    have BB := hT
    clear hT
    replace t0 := (h3 0 (by decide)).trans t0
    replace t1 := (h3 1 (by decide)).trans t1
    replace t5 := (h3 5 (by decide)).trans t5
    have t25 : a.eval (.tmp 25) = .bool false := h4 (8, 25) (by decide)
    replace A := (⟨h1, h2.trans A.2⟩ : a.tmps.size = 26 ∧ a.defers = [])
    clear h1 h2 h3 h4
    refine wp_cond_false t25 (wp_skip ?_)
    clear t25
    refine wp_se 26 [1] [] (fun _ s X => Below V.heap.size V X) (fun s => fun i_ => match i_ with | 1 => .int .i64 ((i + 1 : Nat) : Int) | _ => undef) () A (BB) (And.intro ?_ trivial) ?_
    ·exact fun s a X e hS => stepV rfl rfl (execAd8 (p := i) (q := 1) rfl ((e (.tmp 15)).trans t5) rfl (by omega)) ⟨s, ⟨_, rfl, rfl⟩, hS, ar⟩
    rintro _ a X5 A e (BB : Below V.heap.size V X5)
    replace t5 : a.eval (.tmp 5) = .int .i64 ((i + 1 : Nat) : Int) := e _
    replace t0 := kt e t0
    replace t1 := kt e t1
    clear e
    exact ⟨⟨i + 1, lti, eqL_succ hok he, A, t0, t1, t5, BB⟩, by show n - (intOf (a.eval (.tmp 5))).toNat < n - (intOf (Act.eval _ (.tmp 5))).toNat; rw [t5, esi]; show n - (i + 1) < n - i; omega⟩
   ·refine wp_seq ?_
    refine wp_region_detA 26 [(0, 17), (1, 18), (2, 19), (3, 20), (4, 21), (5, 22), (6, 23), (7, 24), (8, 25)] (fun i_ => match i_ with | 0 => v | 1 => .int .i64 ((i : Nat) : Int) | 2 => .pointer (some ⟨iib, iio + i, none⟩) | 3 => .int .i64 (f i) | 4 => u0 | 5 => .int .i64 ((i : Nat) : Int) | 6 => .pointer (some ⟨jjb, jjo + i, none⟩) | 7 => .int .i64 (g i) | 8 => .bool true | _ => undef) (fun _ X => Below V.heap.size V X) (by kernel_rfl) (by kernel_rfl) A.1 (by kernel_rfl) (by decide) (by decide) BB.drew ?_ ?_
    ·intro i_ hi_ l_ a X hl_ hf hdep hl2 hcl hno hT
     match i_, hi_ with
     | 0, _ => exact stepV rfl rfl (execMvB rfl ((hf 0 (by decide)).trans t0)) ⟨⟨_, rfl, rfl⟩, hT⟩
     | 1, _ => exact stepV rfl rfl (execMvB rfl ((hf 5 (by decide)).trans t5)) ⟨⟨_, rfl, rfl⟩, hT⟩
     | 2, _ => exact stepV rfl rfl (execIdxN (k := i) rfl ((hdep _ rfl 0 rfl _ rfl _ rfl).trans eii) (hdep _ rfl 1 rfl _ rfl _ rfl) lti) ⟨⟨_, rfl, rfl⟩, hT⟩
     | 3, _ => exact stepV rfl rfl (execLd3 rfl (hdep _ rfl 2 rfl _ rfl _ rfl) (cii i lti X hT)) ⟨⟨_, rfl, rfl⟩, hT⟩
     | 4, _ => exact stepV rfl rfl (execMvB rfl ((hf 1 (by decide)).trans t1)) ⟨⟨_, rfl, rfl⟩, hT⟩
     | 5, _ => exact stepV rfl rfl (execMvB rfl ((hf 5 (by decide)).trans t5)) ⟨⟨_, rfl, rfl⟩, hT⟩
     | 6, _ => exact stepV rfl rfl (execIdxN (k := i) rfl ((hdep _ rfl 4 rfl _ rfl _ rfl).trans ejj) (hdep _ rfl 5 rfl _ rfl _ rfl) lti) ⟨⟨_, rfl, rfl⟩, hT⟩
     | 7, _ => exact stepV rfl rfl (execLd3 rfl (hdep _ rfl 6 rfl _ rfl _ rfl) (cjj i lti X hT)) ⟨⟨_, rfl, rfl⟩, hT⟩
     | 8, _ => exact stepV rfl rfl (execNeIt rfl (hdep _ rfl 3 rfl _ rfl _ rfl) (hdep _ rfl 7 rfl _ rfl _ rfl) he) ⟨⟨_, rfl, rfl⟩, hT⟩
     | k_ + 9, h_ => exact absurd h_ (by simp)
    intro l_ a X6 h1 h2 h3 h4 hall hT
    clear hall
    clear BB
    have BB := hT
    clear hT
    replace t0 := (h3 0 (by decide)).trans t0
    replace t1 := (h3 1 (by decide)).trans t1
    replace t5 := (h3 5 (by decide)).trans t5
    have t25 : a.eval (.tmp 25) = .bool true := h4 (8, 25) (by decide)
    replace A := (⟨h1, h2.trans A.2⟩ : a.tmps.size = 26 ∧ a.defers = [])
    clear h1 h2 h3 h4
    refine wp_cond_true t25 ?_
    clear t25
    refine wp_seq ?_
    refine wp_se 26 [] [] (fun _ s X => Below V.heap.size V X) (fun s => fun _ => undef) () A (BB) trivial ?_
    rintro _ a X7 A e (BB : Below V.heap.size V X7)
    have t4 : a.eval (.tmp 4) = .bool false := e _
    clear e t0 t1 t5
    rw [eqL_bad lti he]
    refine wp_ret ?_
    repeat (first | with_reducible refine ret_in ?_ | with_reducible refine ret_then ?_)
    refine bodyPost_ret (results_tmp rfl _ _ _) A.2 ⟨?_, BB⟩
    show Ending.returned (a.eval (.tmp 4)) = _
    rw [t4]
  ·rw [decide_eq_false lti] at t14
   refine wp_cond_false t14 ?_
   refine wp_exit ?_
   first | with_reducible refine exit_in ?_ | with_reducible refine exit_then (exit_in ?_) | with_reducible refine exit_then (exit_then (exit_in ?_)) | refine exit_in ?_ | refine exit_then (exit_in ?_) | refine exit_then (exit_then (exit_in ?_))
   clear t14 esi
   obtain rfl : i = n := by omega
   rw [hok]
   clear t0 t1 t5
   refine wp_seq ?_
   refine wp_se 26 [] [] (fun _ s X => Below V.heap.size V X) (fun s => fun _ => undef) () A (BB) trivial ?_
   rintro _ a X8 A e (BB : Below V.heap.size V X8)
   have t4 : a.eval (.tmp 4) = .bool true := e _
   clear e
   refine wp_ret ?_
   repeat (first | with_reducible refine ret_in ?_ | with_reducible refine ret_then ?_)
   refine bodyPost_ret (results_tmp rfl _ _ _) A.2 ⟨?_, BB⟩
   show Ending.returned (a.eval (.tmp 4)) = _
   rw [t4]
 ·refine wp_se 26 [1, 3, 4] [] (fun _ s X => Below V.heap.size V X) (fun s => fun i_ => match i_ with | 1 => .int .i64 ((n : Nat) : Int) | 3 => .int .i64 ((m : Nat) : Int) | 4 => .bool true | _ => undef) () A (BB) (And.intro ?_ (And.intro ?_ (And.intro ?_ trivial))) ?_
  ·exact fun s a X e hS => stepV rfl rfl (execLenI (len := n) rfl ((e (.tmp 6)).trans t0) ((FI.on hS)).shp) ⟨s, ⟨_, rfl, rfl⟩, hS, ar⟩
  ·exact fun s a X e hS => stepV rfl rfl (execLenI (len := m) rfl ((e (.tmp 8)).trans t1) ((FJ.on hS)).shp) ⟨s, ⟨_, rfl, rfl⟩, hS, ar⟩
  ·exact fun s a X e hS => stepV rfl rfl (execDec (execNeN (p := n) (q := m) rfl (e (.tmp 7)) (e (.tmp 9))) (decide_eq_true (by omega))) ⟨s, ⟨_, rfl, rfl⟩, hS, ar⟩
  rintro _ a X1 A e (BB : Below V.heap.size V X1)
  have t10 : a.eval (.tmp 10) = .bool true := e _
  clear e t0 t1
  refine wp_cond_true t10 ?_
  clear t10
  refine wp_seq ?_
  refine wp_se 26 [] [] (fun _ s X => Below V.heap.size V X) (fun s => fun _ => undef) () A (BB) trivial ?_
  rintro _ a X2 A e (BB : Below V.heap.size V X2)
  have t4 : a.eval (.tmp 4) = .bool false := e _
  clear e
  rw [decide_eq_false hnm, Bool.false_and]
  refine wp_ret ?_
  repeat (first | with_reducible refine ret_in ?_ | with_reducible refine ret_then ?_)
  refine bodyPost_ret (results_tmp rfl _ _ _) A.2 ⟨?_, BB⟩
  show Ending.returned (a.eval (.tmp 4)) = _
  rw [t4]
theorem sm_t (f g : Nat → Int) (n : Nat) (v u0 : Value) (V : World) (hv : SliceI V v n f) (hu : SliceI V u0 n g) (h : ∀ j, j < n → f j = g j) (hn17 : n ≤ 17592186044416) :
  Calls Try.prog 13 #[v, u0] V fun e w' => e = .returned (.bool true) ∧ Below V.heap.size V w' := by
 have k := same13 f g n n v u0 V hv hu hn17
 rw [decide_eq_true rfl, eqL_iff.2 h] at k
 exact k
set_option maxRecDepth 100000 in
set_option maxHeartbeats 4000000 in
theorem counted_any (V : World) :
  Calls Try.prog 18 #[] V fun e w' => ∃ r, e = .returned r ∧ SliceN w' r 42 cntd ∧ Below V.heap.size V w' := by
 go_enter Try.func18, Try.ntmps18
 refine wp_seq ?_
 refine wp_region_sqK 14 [(0, 0)] (fun i_ => match i_ with | 0 => .slice none 0 0 | _ => undef) rfl (by kernel_rfl) (by decide) (by decide) ?_ ?_
 ·intro i_ hi_ a hf hv hn
  match i_, hi_ with
  | 0, _ => exact stepV rfl rfl (execAsgB rfl rfl) ⟨⟨_, rfl, rfl⟩, rfl⟩
  | k_ + 1, h_ => exact absurd h_ (by simp)
 intro a h1 h2 h3 h4
 have A : a.tmps.size = 14 ∧ a.defers = [] := ⟨h1, h2⟩
 have BW : Below V.heap.size V V := Below.refl _ _
 clear h1 h2 h3 h4
 have BB := BW
 refine wp_seq ?_
 refine wp_se (σ := Nat) 14 [0] [0] (fun k_ s X => match k_ with | 0 => Below V.heap.size V X | _ => Below V.heap.size V X ∧ (X.ownsRow V.heap.size 5 1 (.slice (some ⟨s, 0, none⟩) 18 42) (18 + 0) (bytesL (18 + 0) cntd))) (fun s => fun i_ => match i_ with | 0 => .slice (some ⟨s, 0, none⟩) 18 42 | _ => undef) 0 A (BB) (And.intro ?_ trivial) ?_
 ·intro s a X e hS
  refine stepV rfl rfl (execMk (l := 18) (n := 42) rfl rfl rfl (by omega) (by omega)) ⟨X.heap.size, ⟨_, rfl, rfl⟩, ⟨(hS).trans (((belNew X _)).mono (hS).size), own_base (own_mk18 X) (hS).size⟩, (And.intro (fun h => absurd h (by decide)) trivial)⟩
 rintro g3 a X1 A e (hS : Below V.heap.size V X1 ∧ (X1.ownsRow V.heap.size 5 1 (.slice (some ⟨g3, 0, none⟩) 18 42) (18 + 0) (bytesL (18 + 0) cntd)))
 obtain ⟨BB, FO⟩ := hS
 have t1 : a.eval (.tmp 1) = .slice (some ⟨g3, 0, none⟩) 18 42 := e _
 clear e
 refine wp_seq (wp_seq ?_)
 refine wp_se 14 [] [] (fun _ s X => Below V.heap.size V X ∧ (X.ownsRow V.heap.size 5 1 (.slice (some ⟨g3, 0, none⟩) 18 42) (18 + 0) (bytesL (18 + 0) cntd))) (fun s => fun _ => undef) () A ⟨BB, FO⟩ trivial ?_
 rintro _ a X2 A e (hS : Below V.heap.size V X2 ∧ (X2.ownsRow V.heap.size 5 1 (.slice (some ⟨g3, 0, none⟩) 18 42) (18 + 0) (bytesL (18 + 0) cntd)))
 obtain ⟨BB, FO⟩ := hS
 have t2 : a.eval (.tmp 2) = .int .i64 ((1 : Nat) : Int) := e _
 replace t1 := kt e t1
 clear e
 refine wp_block ?_
 refine wp_loop (fun a W => ∃ (k : Nat) (u : Value), k ≤ 24 ∧ (a.tmps.size = 14 ∧ a.defers = []) ∧ a.eval (.tmp 1) = u ∧ a.eval (.tmp 2) = .int .i64 ((k + 1 : Nat) : Int) ∧ Below V.heap.size V W ∧ (W.ownsRow V.heap.size 5 1 u (18 + k) (bytesL (18 + k) cntd))) (fun a _ => 25 - (intOf (a.eval (.tmp 2))).toNat) ⟨0, _, Nat.zero_le _, A, t1, t2, BB, FO⟩ ?_
 rintro a XL ⟨k, u, hk, A, t1, t2, BB, FO⟩
 have es := t2
 refine wp_seq (wp_seq ?_)
 refine wp_se 14 [1] [] (fun _ s X => Below V.heap.size V X ∧ (X.ownsRow V.heap.size 5 1 u (18 + k) (bytesL (18 + k) cntd))) (fun s => fun i_ => match i_ with | 1 => .bool (decide (k + 1 ≤ 24)) | _ => undef) () A ⟨BB, FO⟩ (And.intro ?_ trivial) ?_
 ·exact fun s a X e hS => stepV rfl rfl (execLeN (p := k + 1) (q := 24) rfl ((e (.tmp 4)).trans t2) rfl) ⟨s, ⟨_, rfl, rfl⟩, hS, ar⟩
 rintro _ a X3 A e (hS : Below V.heap.size V X3 ∧ (X3.ownsRow V.heap.size 5 1 u (18 + k) (bytesL (18 + k) cntd)))
 obtain ⟨BB, FO⟩ := hS
 have t5 : a.eval (.tmp 5) = .bool (decide (k + 1 ≤ 24)) := e _
 replace t1 := kt e t1
 replace t2 := kt e t2
 clear e
 by_cases lt : k + 1 ≤ 24
 ·rw [decide_eq_true lt] at t5
  refine wp_cond_true t5 (wp_skip ?_)
  clear t5
  refine wp_seq (wp_block ?_)
  refine wp_se (σ := Nat × Value) 14 [2, 3, 4] [3, 4] (fun k_ s X => match k_ with | 0 => Below V.heap.size V X ∧ (X.ownsRow V.heap.size 5 1 u (18 + k) (bytesL (18 + k) cntd)) | 1 => Below V.heap.size V X ∧ (X.ownsRow V.heap.size 5 1 u (18 + k) (bytesL (18 + k) cntd)) ∧ SliceN X (.slice (some ⟨s.1, 0, none⟩) 1 1) (1) (fun j => cntd (18 + k + j)) | _ => Below V.heap.size V X ∧ (X.ownsRow V.heap.size 5 1 s.2 (18 + (k + 1)) (bytesL (18 + (k + 1)) cntd))) (fun s => fun i_ => match i_ with | 2 => .int .u8 ((k + 1 : Nat) : Int) | 3 => .slice (some ⟨s.1, 0, none⟩) 1 1 | 4 => s.2 | _ => undef) (0, undef) A ⟨BB, FO⟩ (And.intro ?_ (And.intro ?_ (And.intro ?_ trivial))) ?_
  ·exact fun s a X e hS => stepV rfl rfl (execU8S (n := k + 1) rfl ((e (.tmp 9)).trans t2) (by omega)) ⟨s, ⟨_, rfl, rfl⟩, hS, ar⟩
  ·intro s a X e hS
   refine stepV rfl rfl (execOne (z := ((k + 1 : Nat) : Int)) rfl (e (.tmp 10))) ⟨(X.heap.size, s.2), ⟨_, rfl, rfl⟩, ⟨(hS.1).trans (((belNew X _)).mono (hS.1).size), (ownsRow_below hS.2 (belNew X _)), one_cnt X (by omega)⟩, (And.intro (fun _ => rfl) (And.intro (fun h => absurd h (by decide)) (And.intro (fun h => absurd h (by decide)) trivial)))⟩
  ·intro s a X e hS
   refine stepAppN (n := 18 + k) (m := 1) (p := cntd) rfl rfl rfl ((e (.tmp 8)).trans t1) (e (.tmp 11)) hS.2.1 hS.2.2 (fun l c e => by cases e) (by omega) (hS.1).size fun v' W' own' gr => ⟨(s.1, v'), ⟨_, rfl, rfl⟩, ⟨(hS.1).grown gr (hS.1).size (fun k hk => (hS.2.1.lt k hk).1), own'⟩, (And.intro (fun _ => rfl) (And.intro (fun _ => rfl) (And.intro (fun h => absurd h (by decide)) trivial)))⟩
  rintro ⟨g11, v12⟩ a X5 A e (hS : Below V.heap.size V X5 ∧ (X5.ownsRow V.heap.size 5 1 v12 (18 + (k + 1)) (bytesL (18 + (k + 1)) cntd)))
  obtain ⟨BB, FO2⟩ := hS
  replace t1 : a.eval (.tmp 1) = v12 := e _
  replace t2 := kt e t2
  clear e
  refine wp_se 14 [1] [] (fun _ s X => Below V.heap.size V X ∧ (X.ownsRow V.heap.size 5 1 v12 (18 + (k + 1)) (bytesL (18 + (k + 1)) cntd))) (fun s => fun i_ => match i_ with | 1 => .int .i64 ((k + 1 + 1 : Nat) : Int) | _ => undef) () A ⟨BB, FO2⟩ (And.intro ?_ trivial) ?_
  ·exact fun s a X e hS => stepV rfl rfl (execAd8 (p := k + 1) (q := 1) rfl ((e (.tmp 6)).trans t2) rfl (by omega)) ⟨s, ⟨_, rfl, rfl⟩, hS, ar⟩
  rintro _ a X4 A e (hS : Below V.heap.size V X4 ∧ (X4.ownsRow V.heap.size 5 1 v12 (18 + (k + 1)) (bytesL (18 + (k + 1)) cntd)))
  obtain ⟨BB, FO2⟩ := hS
  replace t2 : a.eval (.tmp 2) = .int .i64 ((k + 1 + 1 : Nat) : Int) := e _
  replace t1 := kt e t1
  clear e
  exact ⟨⟨k + 1, _, by omega, A, t1, t2, BB, FO2⟩, by show 25 - (intOf (a.eval (.tmp 2))).toNat < 25 - (intOf (Act.eval _ (.tmp 2))).toNat; rw [t2, es]; show 25 - (k + 1 + 1) < 25 - (k + 1); omega⟩
 ·rw [decide_eq_false lt] at t5
  refine wp_cond_false t5 ?_
  refine wp_exit ?_
  first | with_reducible refine exit_in ?_ | with_reducible refine exit_then (exit_in ?_) | with_reducible refine exit_then (exit_then (exit_in ?_)) | refine exit_in ?_ | refine exit_then (exit_in ?_) | refine exit_then (exit_then (exit_in ?_))
  clear t5 es
  have hk24 : k = 24 := by omega
  rw [hk24] at FO
  clear t2
  refine wp_seq ?_
  refine wp_se 14 [] [] (fun _ s X => Below V.heap.size V X ∧ (X.ownsRow V.heap.size 5 1 u (18 + 24) (bytesL (18 + 24) cntd))) (fun s => fun _ => undef) () A ⟨BB, FO⟩ trivial ?_
  rintro _ a X6 A e (hS : Below V.heap.size V X6 ∧ (X6.ownsRow V.heap.size 5 1 u (18 + 24) (bytesL (18 + 24) cntd)))
  obtain ⟨BB, FO⟩ := hS
  have t0 : a.eval (.tmp 0) = u := (e _).trans t1
  clear e t1
  refine wp_ret ?_
  refine bodyPost_ret (results_tmp rfl _ _ _) A.2 ⟨_, ?_, own_slice FO cntd_byte, BB⟩
  show Ending.returned (a.eval (.tmp 0)) = _
  rw [t0]
set_option maxRecDepth 100000 in
set_option maxHeartbeats 4000000 in
theorem alive13 (V : World) :
  Calls Try.prog 9 #[] V fun e w' => e = .returned (.bool true) ∧ Below V.heap.size V w' := by
 go_enter Try.func9, Try.ntmps9
 refine wp_seq ?_
 refine wp_region_sqK 77 [(0, 0)] (fun i_ => match i_ with | 0 => .bool false | _ => undef) rfl (by kernel_rfl) (by decide) (by decide) ?_ ?_
 ·intro i_ hi_ a hf hv hn
  match i_, hi_ with
  | 0, _ => exact stepV rfl rfl (execAsgB rfl rfl) ⟨⟨_, rfl, rfl⟩, rfl⟩
  | k_ + 1, h_ => exact absurd h_ (by simp)
 intro a h1 h2 h3 h4
 have A : a.tmps.size = 77 ∧ a.defers = [] := ⟨h1, h2⟩
 have BW : Below V.heap.size V V := Below.refl _ _
 clear h1 h2 h3 h4
 refine wp_seq ?_
 refine wp_se (σ := Value × Value) 77 [0, 1] [0, 1] (fun k_ s X => match k_ with | 0 => Below V.heap.size V X | 1 => Below V.heap.size V X ∧ SliceN X s.1 (42) (cntd) | _ => Below V.heap.size V X ∧ SliceN X s.1 (42) (cntd) ∧ (SliceI X s.2 (3) (orF 42 3 1 cntd))) (fun s => fun i_ => match i_ with | 0 => s.1 | 1 => .tuple #[s.2, .int .i64 ((0 : Nat) : Int)] | _ => undef) (undef, undef) A (Below.refl _ _) (And.intro ?_ (And.intro ?_ trivial)) ?_
 ·intro s a X e hS
  refine stepC rfl rfl (execCall0 Try.func18 (by kernel_rfl) (by kernel_rfl) rfl ) (counted_any X) fun e w' hh => ?_
  obtain ⟨r_, he, hk, hb⟩ := hh
  refine ⟨_, he, (r_, s.2), ⟨_, rfl, rfl⟩, ⟨(hS).trans ((hb).mono (hS).size), hk⟩, (And.intro (fun h => absurd h (by decide)) (And.intro (fun h => absurd h (by decide)) trivial))⟩
 ·intro s a X e hS
  refine stepC rfl rfl (execCall3 Try.func10 (by kernel_rfl) (by kernel_rfl) rfl (e (.tmp 8)) rfl rfl) (al_1 X _ hS.2) fun e w' hh => ?_
  obtain ⟨r_, he, hk, hb⟩ := hh
  refine ⟨_, he, (s.1, r_), ⟨_, rfl, rfl⟩, ⟨(hS.1).trans ((hb).mono (hS.1).size), (hS.2.on hb), hk⟩, (And.intro (fun _ => rfl) (And.intro (fun h => absurd h (by decide)) trivial))⟩
 rintro ⟨c8, o9⟩ a X1 A e (hS : Below V.heap.size V X1 ∧ SliceN X1 c8 (42) (cntd) ∧ (SliceI X1 o9 (3) (orF 42 3 1 cntd)))
 obtain ⟨bX, Fc8, Fo9⟩ := hS
 have t1 : a.eval (.tmp 1) = o9 := e _
 have t2 : a.eval (.tmp 2) = .int .i64 ((0 : Nat) : Int) := e _
 have ZX1 := bX.size
 replace BW := BW.trans (bX.mono BW.size)
 clear bX
 clear e
 refine wp_seq ?_
 refine wp_se (σ := Value × Nat × Value) 77 [0, 1, 2] [0, 1, 2] (fun k_ s X => match k_ with | 0 => Below X1.heap.size X1 X | 1 => Below X1.heap.size X1 X ∧ SliceN X s.1 (42) (cntd) | 2 => Below X1.heap.size X1 X ∧ SliceN X s.1 (42) (cntd) ∧ (SliceS X (.slice (some ⟨s.2.1, 0, none⟩) 4 4) 4 abcd) | _ => Below X1.heap.size X1 X ∧ SliceN X s.1 (42) (cntd) ∧ (SliceS X (.slice (some ⟨s.2.1, 0, none⟩) 4 4) 4 abcd) ∧ (SliceS X s.2.2 4 (fun i => abcd (orF 42 4 2 cntd i).toNat))) (fun s => fun i_ => match i_ with | 0 => s.1 | 1 => .slice (some ⟨s.2.1, 0, none⟩) 4 4 | 2 => .tuple #[s.2.2, .int .i64 ((0 : Nat) : Int)] | _ => undef) (undef, 0, undef) A (Below.refl _ _) (And.intro ?_ (And.intro ?_ (And.intro ?_ trivial))) ?_
 ·intro s a X e hS
  refine stepC rfl rfl (execCall0 Try.func18 (by kernel_rfl) (by kernel_rfl) rfl ) (counted_any X) fun e w' hh => ?_
  obtain ⟨r_, he, hk, hb⟩ := hh
  refine ⟨_, he, (r_, s.2.1, s.2.2), ⟨_, rfl, rfl⟩, ⟨(hS).trans ((hb).mono (hS).size), hk⟩, (And.intro (fun h => absurd h (by decide)) (And.intro (fun h => absurd h (by decide)) (And.intro (fun h => absurd h (by decide)) trivial)))⟩
 ·intro s a X e hS
  refine stepV rfl rfl (execBsS4 rfl) ⟨(s.1, X.heap.size, s.2.2), ⟨_, rfl, rfl⟩, ⟨(hS.1).trans (((belNew X _)).mono (hS.1).size), (hS.2.on (belNew X _)), sliceS4 X⟩, (And.intro (fun _ => rfl) (And.intro (fun h => absurd h (by decide)) (And.intro (fun h => absurd h (by decide)) trivial)))⟩
 ·intro s a X e hS
  refine stepC rfl rfl (execCall3 Try.func14 (by kernel_rfl) (by kernel_rfl) rfl (e (.tmp 13)) rfl (e (.tmp 14))) (al_2 X _ _ hS.2.1 hS.2.2) fun e w' hh => ?_
  obtain ⟨r_, he, hk, hb⟩ := hh
  refine ⟨_, he, (s.1, s.2.1, r_), ⟨_, rfl, rfl⟩, ⟨(hS.1).trans ((hb).mono (hS.1).size), (hS.2.1.on hb), (hS.2.2.on hb), hk⟩, (And.intro (fun _ => rfl) (And.intro (fun _ => rfl) (And.intro (fun h => absurd h (by decide)) trivial)))⟩
 rintro ⟨c13, g14, l15⟩ a X2 A e (hS : Below X1.heap.size X1 X2 ∧ SliceN X2 c13 (42) (cntd) ∧ (SliceS X2 (.slice (some ⟨g14, 0, none⟩) 4 4) 4 abcd) ∧ (SliceS X2 l15 4 (fun i => abcd (orF 42 4 2 cntd i).toNat)))
 obtain ⟨bX, Fc13, F14, Fl15⟩ := hS
 have t3 : a.eval (.tmp 3) = l15 := e _
 have t4 : a.eval (.tmp 4) = .int .i64 ((0 : Nat) : Int) := e _
 replace t1 := kt e t1
 replace t2 := kt e t2
 replace Fc8 := (Fc8.on bX)
 replace Fo9 := (Fo9.on bX)
 have ZX2 := bX.size
 replace BW := BW.trans (bX.mono BW.size)
 clear bX
 clear e
 refine wp_seq ?_
 refine wp_se (σ := Value × Nat × Value) 77 [0, 1, 2] [0, 1, 2] (fun k_ s X => match k_ with | 0 => Below X2.heap.size X2 X | 1 => Below X2.heap.size X2 X ∧ SliceN X s.1 (42) (cntd) | 2 => Below X2.heap.size X2 X ∧ SliceN X s.1 (42) (cntd) ∧ (SliceI X (.slice (some ⟨s.2.1, 0, none⟩) 2 2) (2) (fun j => if j = 0 then 1 else 0)) | _ => Below X2.heap.size X2 X ∧ SliceN X s.1 (42) (cntd) ∧ (SliceI X (.slice (some ⟨s.2.1, 0, none⟩) 2 2) (2) (fun j => if j = 0 then 1 else 0)) ∧ SliceN X s.2.2 (42) (tnF 42 2 1 (fun j => if j = 0 then 1 else 0) cntd)) (fun s => fun i_ => match i_ with | 0 => s.1 | 1 => .slice (some ⟨s.2.1, 0, none⟩) 2 2 | 2 => .tuple #[s.2.2, .int .i64 ((0 : Nat) : Int)] | _ => undef) (undef, 0, undef) A (Below.refl _ _) (And.intro ?_ (And.intro ?_ (And.intro ?_ trivial))) ?_
 ·intro s a X e hS
  refine stepC rfl rfl (execCall0 Try.func18 (by kernel_rfl) (by kernel_rfl) rfl ) (counted_any X) fun e w' hh => ?_
  obtain ⟨r_, he, hk, hb⟩ := hh
  refine ⟨_, he, (r_, s.2.1, s.2.2), ⟨_, rfl, rfl⟩, ⟨(hS).trans ((hb).mono (hS).size), hk⟩, (And.intro (fun h => absurd h (by decide)) (And.intro (fun h => absurd h (by decide)) (And.intro (fun h => absurd h (by decide)) trivial)))⟩
 ·intro s a X e hS
  refine stepV rfl rfl (execBsI2 (y := 1) (z := 0) rfl) ⟨(s.1, X.heap.size, s.2.2), ⟨_, rfl, rfl⟩, ⟨(hS.1).trans (((belNew X _)).mono (hS.1).size), (hS.2.on (belNew X _)), sliceI2 X 1 0 (by omega) (by omega)⟩, (And.intro (fun _ => rfl) (And.intro (fun h => absurd h (by decide)) (And.intro (fun h => absurd h (by decide)) trivial)))⟩
 ·intro s a X e hS
  refine stepC rfl rfl (execCall4 Try.func16 (by kernel_rfl) (by kernel_rfl) rfl (e (.tmp 19)) rfl rfl (e (.tmp 20))) (al_3 X _ _ hS.2.1 hS.2.2) fun e w' hh => ?_
  obtain ⟨r_, he, hk, hb⟩ := hh
  refine ⟨_, he, (s.1, s.2.1, r_), ⟨_, rfl, rfl⟩, ⟨(hS.1).trans ((hb).mono (hS.1).size), (hS.2.1.on hb), (hS.2.2.on hb), hk⟩, (And.intro (fun _ => rfl) (And.intro (fun _ => rfl) (And.intro (fun h => absurd h (by decide)) trivial)))⟩
 rintro ⟨c19, g20, q21⟩ a X3 A e (hS : Below X2.heap.size X2 X3 ∧ SliceN X3 c19 (42) (cntd) ∧ (SliceI X3 (.slice (some ⟨g20, 0, none⟩) 2 2) (2) (fun j => if j = 0 then 1 else 0)) ∧ SliceN X3 q21 (42) (tnF 42 2 1 (fun j => if j = 0 then 1 else 0) cntd))
 obtain ⟨bX, Fc19, Fg20, Fq21⟩ := hS
 have t5 : a.eval (.tmp 5) = q21 := e _
 have t6 : a.eval (.tmp 6) = .int .i64 ((0 : Nat) : Int) := e _
 replace t1 := kt e t1
 replace t2 := kt e t2
 replace t3 := kt e t3
 replace t4 := kt e t4
 replace Fc8 := (Fc8.on bX)
 replace Fo9 := (Fo9.on bX)
 replace Fc13 := (Fc13.on bX)
 replace F14 := (F14.on bX)
 replace Fl15 := (Fl15.on bX)
 have ZX3 := bX.size
 replace BW := BW.trans (bX.mono BW.size)
 clear bX
 clear e
 refine wp_seq (wp_seq ?_)
 refine wp_se 77 [1, 4, 8, 12, 13, 17, 18, 22, 23] [] (fun _ s X => Below X3.heap.size X3 X) (fun s => fun i_ => match i_ with | 1 => .bool false | 4 => .bool false | 8 => .bool false | 12 => .int .i64 ((3 : Nat) : Int) | 13 => .bool false | 17 => .int .i64 ((4 : Nat) : Int) | 18 => .bool false | 22 => .int .i64 ((42 : Nat) : Int) | 23 => .bool false | _ => undef) () A (Below.refl _ _) (And.intro ?_ (And.intro ?_ (And.intro ?_ (And.intro ?_ (And.intro ?_ (And.intro ?_ (And.intro ?_ (And.intro ?_ (And.intro ?_ trivial))))))))) ?_
 ·exact fun s a X e hS => stepV rfl rfl (execDec (execNeE (p := 0) (q := 0) rfl ((e (.tmp 24)).trans t2) rfl) (decide_eq_false (by decide))) ⟨s, ⟨_, rfl, rfl⟩, hS, ar⟩
 ·exact fun s a X e hS => stepV rfl (wy rfl rfl rfl (e (.tmp 26))) (execDec (execNeE (p := 0) (q := 0) rfl ((e (.tmp 27)).trans t4) rfl) (decide_eq_false (by decide))) ⟨s, ⟨_, rfl, rfl⟩, hS, ar⟩
 ·exact fun s a X e hS => stepV rfl (wy rfl rfl rfl (e (.tmp 30))) (execDec (execNeE (p := 0) (q := 0) rfl ((e (.tmp 31)).trans t6) rfl) (decide_eq_false (by decide))) ⟨s, ⟨_, rfl, rfl⟩, hS, ar⟩
 ·exact fun s a X e hS => stepV rfl (wy rfl rfl rfl (e (.tmp 34))) (execLenI (len := 3) rfl ((e (.tmp 35)).trans t1) ((Fo9.on hS)).shp) ⟨s, ⟨_, rfl, rfl⟩, hS, ar⟩
 ·exact fun s a X e hS => stepV rfl (wy rfl rfl rfl (e (.tmp 34))) (execDec (execNeN (p := 3) (q := 3) rfl (e (.tmp 36)) rfl) (decide_eq_false (by decide))) ⟨s, ⟨_, rfl, rfl⟩, hS, ar⟩
 ·exact fun s a X e hS => stepV rfl (wy rfl rfl rfl (e (.tmp 39))) (execLenS (len := 4) rfl ((e (.tmp 40)).trans t3) Fl15.shp) ⟨s, ⟨_, rfl, rfl⟩, hS, ar⟩
 ·exact fun s a X e hS => stepV rfl (wy rfl rfl rfl (e (.tmp 39))) (execDec (execNeN (p := 4) (q := 4) rfl (e (.tmp 41)) rfl) (decide_eq_false (by decide))) ⟨s, ⟨_, rfl, rfl⟩, hS, ar⟩
 ·exact fun s a X e hS => stepV rfl (wy rfl rfl rfl (e (.tmp 44))) (execLenV (len := 42) rfl ((e (.tmp 45)).trans t5) (shp9 (Fq21.on hS))) ⟨s, ⟨_, rfl, rfl⟩, hS, ar⟩
 ·exact fun s a X e hS => stepV rfl (wy rfl rfl rfl (e (.tmp 44))) (execDec (execNeN (p := 42) (q := 42) rfl (e (.tmp 46)) rfl) (decide_eq_false (by decide))) ⟨s, ⟨_, rfl, rfl⟩, hS, ar⟩
 rintro _ a X4 A e (bX : Below X3.heap.size X3 X4)
 have t48 : a.eval (.tmp 48) = .bool false := e _
 replace t1 := kt e t1
 replace t3 := kt e t3
 replace Fc8 := (Fc8.on bX)
 replace Fo9 := (Fo9.on bX)
 replace Fc13 := (Fc13.on bX)
 replace F14 := (F14.on bX)
 replace Fl15 := (Fl15.on bX)
 replace Fc19 := (Fc19.on bX)
 replace Fg20 := (Fg20.on bX)
 replace Fq21 := (Fq21.on bX)
 have ZX4 := bX.size
 replace BW := BW.trans (bX.mono BW.size)
 clear bX
 clear e t2 t4 t5 t6
 refine wp_cond_false t48 (wp_skip ?_)
 clear t48
 obtain ⟨oob, ooo, ooc, eoo, hoob, hooc⟩ := open_sl Fo9 (by omega)
 obtain ⟨⟨la, lc, ell0, _, _, hll⟩⟩ := id Fl15
 obtain ⟨llb, llo, rfl, hllb, hllc⟩ := hll (by omega)
 have coo : ∀ k, k < 3 → ∀ X, Below X4.heap.size X4 X → X.cell? ⟨oob, ooo + k, none⟩ = some (.int .i64 (orF 42 3 1 cntd k)) := fun k hk X hX => by rw [cell_below hX hoob]; exact hooc k hk
 have cll : ∀ k, k < 4 → ∀ X, Below X4.heap.size X4 X → X.cell? ⟨llb, llo + k, none⟩ = some (.string (abcd (orF 42 4 2 cntd k).toNat)) := fun k hk X hX => by rw [cell_below hX hllb]; exact hllc k hk
 refine wp_seq ?_
 refine wp_se 77 [1, 2, 3, 6, 7, 8, 12, 13, 14, 18, 19, 20, 24, 25, 26] [] (fun _ s X => Below X4.heap.size X4 X) (fun s => fun i_ => match i_ with | 1 => .pointer (some ⟨oob, ooo + 0, none⟩) | 2 => .int .i64 ((2 : Nat) : Int) | 3 => .bool true | 6 => .pointer (some ⟨oob, ooo + 1, none⟩) | 7 => .int .i64 ((0 : Nat) : Int) | 8 => .bool true | 12 => .pointer (some ⟨oob, ooo + 2, none⟩) | 13 => .int .i64 ((1 : Nat) : Int) | 14 => .bool true | 18 => .pointer (some ⟨llb, llo + 1, none⟩) | 19 => .string (st1 99) | 20 => .bool true | 24 => .pointer (some ⟨llb, llo + 3, none⟩) | 25 => .string (st1 98) | 26 => .bool true | _ => undef) () A (Below.refl _ _) (And.intro ?_ (And.intro ?_ (And.intro ?_ (And.intro ?_ (And.intro ?_ (And.intro ?_ (And.intro ?_ (And.intro ?_ (And.intro ?_ (And.intro ?_ (And.intro ?_ (And.intro ?_ (And.intro ?_ (And.intro ?_ (And.intro ?_ trivial))))))))))))))) ?_
 ·exact fun s a X e hS => stepV rfl rfl (execIdxN (k := 0) rfl (((e (.tmp 49)).trans t1).trans eoo) rfl (by decide)) ⟨s, ⟨_, rfl, rfl⟩, hS, ar⟩
 ·exact fun s a X e hS => stepV rfl rfl (execLd3 rfl (e (.tmp 50)) ((coo 0 (by decide) X hS).trans (by rw [cntd_1.2.1]; rfl))) ⟨s, ⟨_, rfl, rfl⟩, hS, ar⟩
 ·exact fun s a X e hS => stepV rfl rfl (execDec (execEqN (p := 2) (q := 2) rfl (e (.tmp 51)) rfl) (decide_eq_true (by decide))) ⟨s, ⟨_, rfl, rfl⟩, hS, ar⟩
 ·exact fun s a X e hS => stepV rfl (wy rfl rfl rfl (e (.tmp 53))) (execIdxN (k := 1) rfl (((e (.tmp 54)).trans t1).trans eoo) rfl (by decide)) ⟨s, ⟨_, rfl, rfl⟩, hS, ar⟩
 ·exact fun s a X e hS => stepV rfl (wy rfl rfl rfl (e (.tmp 53))) (execLd3 rfl (e (.tmp 55)) ((coo 1 (by decide) X hS).trans (by rw [cntd_1.2.2.1]; rfl))) ⟨s, ⟨_, rfl, rfl⟩, hS, ar⟩
 ·exact fun s a X e hS => stepV rfl (wy rfl rfl rfl (e (.tmp 53))) (execDec (execEqN (p := 0) (q := 0) rfl (e (.tmp 56)) rfl) (decide_eq_true (by decide))) ⟨s, ⟨_, rfl, rfl⟩, hS, ar⟩
 ·exact fun s a X e hS => stepV rfl (wy rfl rfl rfl (e (.tmp 59))) (execIdxN (k := 2) rfl (((e (.tmp 60)).trans t1).trans eoo) rfl (by decide)) ⟨s, ⟨_, rfl, rfl⟩, hS, ar⟩
 ·exact fun s a X e hS => stepV rfl (wy rfl rfl rfl (e (.tmp 59))) (execLd3 rfl (e (.tmp 61)) ((coo 2 (by decide) X hS).trans (by rw [cntd_1.2.2.2]; rfl))) ⟨s, ⟨_, rfl, rfl⟩, hS, ar⟩
 ·exact fun s a X e hS => stepV rfl (wy rfl rfl rfl (e (.tmp 59))) (execDec (execEqN (p := 1) (q := 1) rfl (e (.tmp 62)) rfl) (decide_eq_true (by decide))) ⟨s, ⟨_, rfl, rfl⟩, hS, ar⟩
 ·exact fun s a X e hS => stepV rfl (wy rfl rfl rfl (e (.tmp 65))) (Prm.execIdxS (k := 1) rfl (((e (.tmp 66)).trans t3).trans ell0) rfl (by decide)) ⟨s, ⟨_, rfl, rfl⟩, hS, ar⟩
 ·exact fun s a X e hS => stepV rfl (wy rfl rfl rfl (e (.tmp 65))) (Prm.execLdS rfl (e (.tmp 67)) ((cll 1 (by decide) X hS).trans (by rw [cntd_2.2.2.1]; rfl))) ⟨s, ⟨_, rfl, rfl⟩, hS, ar⟩
 ·exact fun s a X e hS => stepV rfl (wy rfl rfl rfl (e (.tmp 65))) (execEqSt1 rfl (e (.tmp 68))) ⟨s, ⟨_, rfl, rfl⟩, hS, ar⟩
 ·exact fun s a X e hS => stepV rfl (wy rfl rfl rfl (e (.tmp 71))) (Prm.execIdxS (k := 3) rfl (((e (.tmp 72)).trans t3).trans ell0) rfl (by decide)) ⟨s, ⟨_, rfl, rfl⟩, hS, ar⟩
 ·exact fun s a X e hS => stepV rfl (wy rfl rfl rfl (e (.tmp 71))) (Prm.execLdS rfl (e (.tmp 73)) ((cll 3 (by decide) X hS).trans (by rw [cntd_2.2.2.2.2]; rfl))) ⟨s, ⟨_, rfl, rfl⟩, hS, ar⟩
 ·exact fun s a X e hS => stepV rfl (wy rfl rfl rfl (e (.tmp 71))) (execEqSt1 rfl (e (.tmp 74))) ⟨s, ⟨_, rfl, rfl⟩, hS, ar⟩
 rintro _ a X6 A e (bX : Below X4.heap.size X4 X6)
 have t0 : a.eval (.tmp 0) = .bool true := e _
 replace Fc8 := (Fc8.on bX)
 replace Fo9 := (Fo9.on bX)
 replace Fc13 := (Fc13.on bX)
 replace F14 := (F14.on bX)
 replace Fl15 := (Fl15.on bX)
 replace Fc19 := (Fc19.on bX)
 replace Fg20 := (Fg20.on bX)
 replace Fq21 := (Fq21.on bX)
 have ZX6 := bX.size
 replace BW := BW.trans (bX.mono BW.size)
 clear bX
 clear e t1 t3
 refine wp_ret ?_
 repeat (first | with_reducible refine ret_in ?_ | with_reducible refine ret_then ?_)
 refine bodyPost_ret (results_tmp rfl _ _ _) A.2 ⟨?_, BW⟩
 show Ending.returned (a.eval (.tmp 0)) = _
 rw [t0]
end Go.Proofs.Ytmjpneaccjlpkaa.Rif
