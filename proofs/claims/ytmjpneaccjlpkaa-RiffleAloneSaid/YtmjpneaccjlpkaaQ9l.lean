import Derived.Test.YtmjpneaccjlpkaaF9a
import Derived.Test.YtmjpneaccjlpkaaQ9k
namespace Go.Proofs.Ytmjpneaccjlpkaa.Brd
open Go.RowKit Gf8 Aes By8 Cel Cf Tap Drw Prm
/- Package braid as it landed: begin, told, visit. Written by tools/mkQ9l.py. -/
def rsC (l x : Value) : Array Value := #[l, x]
def x2 (l x : Value) (t : Nat) : Value := if t = 0 then l else x
def ffB (sf : Nat → Int) (t j : Nat) : Int := if t = 0 then (gN sf j : Int) else (sumN (gN sf) j : Int)
theorem size_rs (l x : Value) : (Try.prog.info? 114).map (·.size) = some (rsC l x).size := by
 show _ = some 2
 kernel_rfl
theorem rs_one {l x : Value} (hl : ∃ g n c, l = .slice g n c) (hx : ∃ g n c, x = .slice g n c) : (rsC l x).all (·.oneCell') = true := by
 obtain ⟨_, _, _, rfl⟩ := hl
 obtain ⟨_, _, _, rfl⟩ := hx
 simp [rsC, Value.oneCell']
theorem rs_at0 {W : World} {g : Nat} {l x : Value} {t : TypeId} (h : W.heap[g]? = some (.cells (rsC l x) t)) : W.cell? ⟨g, 0, none⟩ = some l := by rw [cell_of_row _ _ _ _ _ _ h]; rfl
theorem rs_at1 {W : World} {g : Nat} {l x : Value} {t : TypeId} (h : W.heap[g]? = some (.cells (rsC l x) t)) : W.cell? ⟨g, 1, none⟩ = some x := by rw [cell_of_row _ _ _ _ _ _ h]; rfl
section
variable {o : Oper} {a : Act} {w : World}
theorem execAllRs (ho : o.op = .alloc 114) : (execOp a.eval o).run Try.prog w = .ok (.value (.pointer (some ⟨w.heap.size, 0, none⟩))) (w.alloc (.cells (rsC (.slice none 0 0) (.slice none 0 0)) 114)) := by
 unfold execOp rsC
 simp only [ho]
 simp [go_sem]
theorem execBoxRs {x : Operand} {l y : Value} (ho : o.op = .box 114 x) (hx : a.eval x = .agg (rsC l y)) : (execOp a.eval o).run Try.prog w = .ok (.value (.pointer (some ⟨w.heap.size, 0, none⟩))) (w.alloc (.cells (rsC l y) 114)) := by
 unfold execOp
 simp only [ho, hx]
 simp [go_sem, rsC]
theorem execFldRs0 {x : Operand} {b : Nat} (ho : o.op = .fieldAddr 114 x 0) (hx : a.eval x = .pointer (some ⟨b, 0, none⟩)) : (execOp a.eval o).run Try.prog w = .ok (.value (.pointer (some ⟨b, 0, none⟩))) w := by
 unfold execOp
 simp only [ho, hx]
 simp [go_sem]
theorem execFldRs1 {x : Operand} {b : Nat} (ho : o.op = .fieldAddr 114 x 1) (hx : a.eval x = .pointer (some ⟨b, 0, none⟩)) : (execOp a.eval o).run Try.prog w = .ok (.value (.pointer (some ⟨b, 1, none⟩))) w := by
 unfold execOp
 simp only [ho, hx]
 simp [go_sem]
theorem execBdRs {x y : Operand} {l z : Value} (ho : o.op = .build 114 #[(0, x), (1, y)]) (hx : a.eval x = l) (hy : a.eval y = z) (hl : ∃ g n c, l = .slice g n c) (hz : ∃ g n c, z = .slice g n c) : (execOp a.eval o).run Try.prog w = .ok (.value (.agg (rsC l z))) w := by
 obtain ⟨_, _, _, rfl⟩ := hl
 obtain ⟨_, _, _, rfl⟩ := hz
 unfold execOp
 simp only [ho, List.map_toArray, List.map_cons, List.map_nil, hx, hy]
 simp [go_sem, rsC]
theorem execStRs {x y : Operand} {g : Nat} {l z : Value} {cur : Array Value} {t : TypeId} (ho : o.op = .store 114 x y) (hx : a.eval x = .pointer (some ⟨g, 0, none⟩)) (hy : a.eval y = .agg (rsC l z)) (hg : w.heap[g]? = some (.cells cur t)) (hl : ∃ g n c, l = .slice g n c) (hz : ∃ g n c, z = .slice g n c) (hs : cur.size = 2 := by rfl) :
  (execOp a.eval o).run Try.prog w = .ok .skip (w.setRow g (rsC l z)) := by
 have h := execStMid (P := Try.prog) ho hx hy hg (by rw [hs]; exact Nat.le_refl _) (size_rs _ _) (rs_one hl hz)
 have e : (cur.toList.take 0 ++ (rsC l z).toList ++ cur.toList.drop (0 + (rsC l z).size)).toArray = rsC l z := by
  rw [List.take_zero, List.nil_append, Nat.zero_add, List.drop_of_length_le (by rw [Array.length_toList, hs]; exact Nat.le_refl _), List.append_nil]
 rw [e] at h
 exact h
theorem execLdRs {x : Operand} {g : Nat} {l z : Value} {t : TypeId} {fr : Nat × Nat} (ho : o.op = .load 114 x) (hx : a.eval x = .pointer (some ⟨g, 0, none⟩)) (hg : w.heap[g]? = some (.cells (rsC l z) t fr)) :
  (execOp a.eval o).run Try.prog w = .ok (.value (.agg (rsC l z))) w := by
 have h := execLoadMid (P := Try.prog) (w := w) (cs := (rsC l z).toList) ho hx (fun j v hj => by rw [cell_of_row _ _ _ _ _ _ hg, Nat.zero_add, ← Array.getElem?_toList]; exact hj) Try.underlying114 rfl (size_rs _ _)
 exact h
end
set_option maxRecDepth 100000 in
set_option maxHeartbeats 4000000 in
theorem ptold (r : Nat → Nat) (J d : Nat) (l x : Value) (V : World) (hl : SliceI V l J (fun j => (r j : Int))) (hd : d < sumN r J) (hb : sumN r J ≤ 1000000) (hJ64 : J ≤ 64) :
  Calls Try.prog 73 #[.agg (rsC l x), .int .i64 ((d : Nat) : Int)] V fun e w' => e = .returned (.tuple #[.int .i64 ((pj r d J : Nat) : Int), .int .i64 ((d - sumN r (pj r d J) : Nat) : Int)]) ∧ Below V.heap.size V w' := by
 have hJ : 0 < J := by
  rcases Nat.eq_zero_or_pos J with q | q
  ·subst q; exact absurd hd (Nat.not_lt_zero _)
  ·exact q
 obtain ⟨la, lc, rfl, -, -, hsh⟩ := id hl.shape
 obtain ⟨lb, lo, rfl, hlb, hcell⟩ := hsh hJ
 have cR : ∀ j, j < J → ∀ X, Below V.heap.size V X → X.cell? ⟨lb, lo + j, none⟩ = some (.int .i64 ((r j : Nat) : Int)) := fun j hj X hX => by rw [cell_below hX hlb]; exact hcell j hj
 go_enter Try.func73, Try.ntmps73
 refine wp_open (fun a => (a.tmps.size = 24 ∧ a.defers = []) ∧ a.eval (.tmp 0) = .agg (rsC (.slice (some ⟨lb, lo, none⟩) J lc) x) ∧ a.eval (.tmp 1) = .int .i64 ((d : Nat) : Int)) ⟨⟨rfl, rfl⟩, rfl, rfl⟩ ?_
 rintro a ⟨A, t0, t1⟩
 have BB : Below V.heap.size V V := Below.refl _ _
 refine wp_seq ?_
 refine wp_se (σ := Nat) 24 [0] [0] (fun k_ s X => match k_ with | 0 => Below V.heap.size V X | _ => Below V.heap.size V X ∧ (X.heap[s]? = some (.cells (rsC (.slice (some ⟨lb, lo, none⟩) J lc) (x)) 114))) (fun s => fun i_ => match i_ with | 0 => .pointer (some ⟨s, 0, none⟩) | _ => undef) 0 A (BB) (And.intro ?_ trivial) ?_
 ·intro s a X e hS
  refine stepV rfl rfl (execBoxRs rfl ((e (.tmp 0)).trans t0)) ⟨X.heap.size, ⟨_, rfl, rfl⟩, ⟨(hS).trans (((belNew X _)).mono (hS).size), heapNew X _⟩, (And.intro (fun h => absurd h (by decide)) trivial)⟩
 rintro g2 a X0 A e (hS : Below V.heap.size V X0 ∧ (X0.heap[g2]? = some (.cells (rsC (.slice (some ⟨lb, lo, none⟩) J lc) (x)) 114)))
 obtain ⟨BB, F2⟩ := hS
 have t2 : a.eval (.tmp 2) = .pointer (some ⟨g2, 0, none⟩) := e _
 have t4 : a.eval (.tmp 4) = .int .i64 ((0 : Nat) : Int) := e _
 replace t1 := kt e t1
 clear e t0
 obtain ⟨hP1, hP2, hP3⟩ := pj_lt hd
 refine wp_seq (wp_block ?_)
 refine wp_loop (fun a W => ∃ j : Nat, j ≤ pj r d J ∧ (a.tmps.size = 24 ∧ a.defers = []) ∧ a.eval (.tmp 1) = .int .i64 ((d - sumN r j : Nat) : Int) ∧ a.eval (.tmp 2) = .pointer (some ⟨g2, 0, none⟩) ∧ a.eval (.tmp 4) = .int .i64 ((j : Nat) : Int) ∧ Below V.heap.size V W ∧ (W.heap[g2]? = some (.cells (rsC (.slice (some ⟨lb, lo, none⟩) J lc) (x)) 114))) (fun a _ => pj r d J - (intOf (a.eval (.tmp 4))).toNat) ⟨0, Nat.zero_le _, A, t1, t2, t4, BB, F2⟩ ?_
 rintro a XL ⟨j, hj, A, t1, t2, t4, BB, F2⟩
 have es := t4
 refine wp_seq (wp_seq ?_)
 have hjJ : j < J := by omega
 by_cases hlt : j < pj r d J
 ·have hm := sumN_at (r := r) hlt
  refine wp_se 24 [1, 2, 4, 5, 6] [] (fun _ s X => Below V.heap.size V X ∧ (X.heap[g2]? = some (.cells (rsC (.slice (some ⟨lb, lo, none⟩) J lc) (x)) 114))) (fun s => fun i_ => match i_ with | 1 => .pointer (some ⟨g2, 0, none⟩) | 2 => .slice (some ⟨lb, lo, none⟩) J lc | 4 => .pointer (some ⟨lb, lo + j, none⟩) | 5 => .int .i64 ((r j : Nat) : Int) | 6 => .bool true | _ => undef) () A ⟨BB, F2⟩ (And.intro ?_ (And.intro ?_ (And.intro ?_ (And.intro ?_ (And.intro ?_ trivial))))) ?_
  ·exact fun s a X e hS => stepV rfl rfl (execFldRs0 rfl ((e (.tmp 2)).trans t2)) ⟨s, ⟨_, rfl, rfl⟩, hS, ar⟩
  ·exact fun s a X e hS => stepV rfl rfl (execLdLI (v := .slice (some ⟨lb, lo, none⟩) J lc) rfl (e (.tmp 7)) (rs_at0 hS.2)) ⟨s, ⟨_, rfl, rfl⟩, hS, ar⟩
  ·exact fun s a X e hS => stepV rfl rfl (execIdxN (k := j) rfl (e (.tmp 8)) ((e (.tmp 9)).trans t4) hjJ) ⟨s, ⟨_, rfl, rfl⟩, hS, ar⟩
  ·exact fun s a X e hS => stepV rfl rfl (execLd3 rfl (e (.tmp 10)) (cR j hjJ X hS.1)) ⟨s, ⟨_, rfl, rfl⟩, hS, ar⟩
  ·exact fun s a X e hS => stepV rfl rfl (execDec (execGe8 (p := d - sumN r j) (q := r j) rfl ((e (.tmp 6)).trans t1) (e (.tmp 11))) (decide_eq_true (by omega))) ⟨s, ⟨_, rfl, rfl⟩, hS, ar⟩
  rintro _ a X1 A e (hS : Below V.heap.size V X1 ∧ (X1.heap[g2]? = some (.cells (rsC (.slice (some ⟨lb, lo, none⟩) J lc) (x)) 114)))
  obtain ⟨BB, F2⟩ := hS
  have t12 : a.eval (.tmp 12) = .bool true := e _
  replace t1 := kt e t1
  replace t2 := kt e t2
  replace t4 := kt e t4
  clear e
  refine wp_cond_true t12 (wp_skip ?_)
  clear t12
  refine wp_block ?_
  refine wp_seq ?_
  refine wp_se 24 [1, 2, 4, 5, 6] [] (fun _ s X => Below V.heap.size V X ∧ (X.heap[g2]? = some (.cells (rsC (.slice (some ⟨lb, lo, none⟩) J lc) (x)) 114))) (fun s => fun i_ => match i_ with | 1 => .pointer (some ⟨g2, 0, none⟩) | 2 => .slice (some ⟨lb, lo, none⟩) J lc | 4 => .pointer (some ⟨lb, lo + j, none⟩) | 5 => .int .i64 ((r j : Nat) : Int) | 6 => .int .i64 ((d - sumN r j - (r j) : Nat) : Int) | _ => undef) () A ⟨BB, F2⟩ (And.intro ?_ (And.intro ?_ (And.intro ?_ (And.intro ?_ (And.intro ?_ trivial))))) ?_
  ·exact fun s a X e hS => stepV rfl rfl (execFldRs0 rfl ((e (.tmp 2)).trans t2)) ⟨s, ⟨_, rfl, rfl⟩, hS, ar⟩
  ·exact fun s a X e hS => stepV rfl rfl (execLdLI (v := .slice (some ⟨lb, lo, none⟩) J lc) rfl (e (.tmp 14)) (rs_at0 hS.2)) ⟨s, ⟨_, rfl, rfl⟩, hS, ar⟩
  ·exact fun s a X e hS => stepV rfl rfl (execIdxN (k := j) rfl (e (.tmp 15)) ((e (.tmp 16)).trans t4) hjJ) ⟨s, ⟨_, rfl, rfl⟩, hS, ar⟩
  ·exact fun s a X e hS => stepV rfl rfl (execLd3 rfl (e (.tmp 17)) (cR j hjJ X hS.1)) ⟨s, ⟨_, rfl, rfl⟩, hS, ar⟩
  ·exact fun s a X e hS => stepV rfl rfl (By8.execSubI (p := d - sumN r j) (q := r j) rfl ((e (.tmp 13)).trans t1) (e (.tmp 18)) (by omega) (by omega)) ⟨s, ⟨_, rfl, rfl⟩, hS, ar⟩
  rintro _ a X2 A e (hS : Below V.heap.size V X2 ∧ (X2.heap[g2]? = some (.cells (rsC (.slice (some ⟨lb, lo, none⟩) J lc) (x)) 114)))
  obtain ⟨BB, F2⟩ := hS
  replace t1 : a.eval (.tmp 1) = .int .i64 ((d - sumN r j - (r j) : Nat) : Int) := e _
  replace t2 := kt e t2
  replace t4 := kt e t4
  clear e
  refine wp_se 24 [1] [] (fun _ s X => Below V.heap.size V X ∧ (X.heap[g2]? = some (.cells (rsC (.slice (some ⟨lb, lo, none⟩) J lc) (x)) 114))) (fun s => fun i_ => match i_ with | 1 => .int .i64 ((j + 1 : Nat) : Int) | _ => undef) () A ⟨BB, F2⟩ (And.intro ?_ trivial) ?_
  ·exact fun s a X e hS => stepV rfl rfl (execAd8 (p := j) (q := 1) rfl ((e (.tmp 20)).trans t4) rfl (by omega)) ⟨s, ⟨_, rfl, rfl⟩, hS, ar⟩
  rintro _ a X3 A e (hS : Below V.heap.size V X3 ∧ (X3.heap[g2]? = some (.cells (rsC (.slice (some ⟨lb, lo, none⟩) J lc) (x)) 114)))
  obtain ⟨BB, F2⟩ := hS
  replace t4 : a.eval (.tmp 4) = .int .i64 ((j + 1 : Nat) : Int) := e _
  replace t1 := kt e t1
  replace t2 := kt e t2
  clear e
  have e1 : d - sumN r j - r j = d - sumN r (j + 1) := by show _ = d - (sumN r j + r j); omega
  rw [e1] at t1
  refine ⟨⟨j + 1, by omega, A, t1, t2, t4, BB, F2⟩, ?_⟩
  show pj r d J - (intOf (a.eval (.tmp 4))).toNat < pj r d J - (intOf (Act.eval _ (.tmp 4))).toNat
  rw [t4, es]
  show pj r d J - (j + 1) < pj r d J - j
  omega
 ·have hjP : pj r d J = j := by omega
  rw [hjP] at hP2 hP3
  refine wp_se 24 [1, 2, 4, 5, 6] [] (fun _ s X => Below V.heap.size V X ∧ (X.heap[g2]? = some (.cells (rsC (.slice (some ⟨lb, lo, none⟩) J lc) (x)) 114))) (fun s => fun i_ => match i_ with | 1 => .pointer (some ⟨g2, 0, none⟩) | 2 => .slice (some ⟨lb, lo, none⟩) J lc | 4 => .pointer (some ⟨lb, lo + j, none⟩) | 5 => .int .i64 ((r j : Nat) : Int) | 6 => .bool false | _ => undef) () A ⟨BB, F2⟩ (And.intro ?_ (And.intro ?_ (And.intro ?_ (And.intro ?_ (And.intro ?_ trivial))))) ?_
  ·exact fun s a X e hS => stepV rfl rfl (execFldRs0 rfl ((e (.tmp 2)).trans t2)) ⟨s, ⟨_, rfl, rfl⟩, hS, ar⟩
  ·exact fun s a X e hS => stepV rfl rfl (execLdLI (v := .slice (some ⟨lb, lo, none⟩) J lc) rfl (e (.tmp 7)) (rs_at0 hS.2)) ⟨s, ⟨_, rfl, rfl⟩, hS, ar⟩
  ·exact fun s a X e hS => stepV rfl rfl (execIdxN (k := j) rfl (e (.tmp 8)) ((e (.tmp 9)).trans t4) hjJ) ⟨s, ⟨_, rfl, rfl⟩, hS, ar⟩
  ·exact fun s a X e hS => stepV rfl rfl (execLd3 rfl (e (.tmp 10)) (cR j hjJ X hS.1)) ⟨s, ⟨_, rfl, rfl⟩, hS, ar⟩
  ·exact fun s a X e hS => stepV rfl rfl (execDec (execGe8 (p := d - sumN r j) (q := r j) rfl ((e (.tmp 6)).trans t1) (e (.tmp 11))) (decide_eq_false (by omega))) ⟨s, ⟨_, rfl, rfl⟩, hS, ar⟩
  rintro _ a X1 A e (hS : Below V.heap.size V X1 ∧ (X1.heap[g2]? = some (.cells (rsC (.slice (some ⟨lb, lo, none⟩) J lc) (x)) 114)))
  obtain ⟨BB, F2⟩ := hS
  have t12 : a.eval (.tmp 12) = .bool false := e _
  replace t1 := kt e t1
  replace t2 := kt e t2
  replace t4 := kt e t4
  clear e
  refine wp_cond_false t12 ?_
  refine wp_exit ?_
  first | with_reducible refine exit_in ?_ | with_reducible refine exit_then (exit_in ?_) | with_reducible refine exit_then (exit_then (exit_in ?_)) | refine exit_in ?_ | refine exit_then (exit_in ?_) | refine exit_then (exit_then (exit_in ?_))
  clear t12 es t2 F2
  obtain rfl : j = pj r d J := by omega
  refine wp_seq ?_
  refine wp_se 24 [] [] (fun _ s X => Below V.heap.size V X) (fun s => fun _ => undef) () A (BB) trivial ?_
  rintro _ a X4 A e (BB : Below V.heap.size V X4)
  replace t4 : a.eval (.tmp 4) = .int .i64 ((pj r d J : Nat) : Int) := (e _).trans t4
  have t5 : a.eval (.tmp 5) = .int .i64 ((d - sumN r (pj r d J) : Nat) : Int) := (e _).trans t1
  clear e t1
  refine wp_ret ?_
  refine bodyPost_ret (results_tmp2 rfl _ _ _) A.2 ⟨?_, BB⟩
  show Ending.returned (.tuple #[a.eval (.tmp 4), a.eval (.tmp 5)]) = _
  rw [t4, t5]
set_option maxRecDepth 100000 in
set_option maxHeartbeats 4000000 in
theorem pvisit (U V : World) (k t u j p q : Nat) (x : Nat → Value) (nn : Nat → Nat) (ff : Nat → Nat → Int) (BB : Below U.heap.size U V) (FM : FmI U.heap.size k x nn ff V) (ht : t < k) (hu : u < k) (htu : t ≠ u) (hjt : j < nn t) (hju : j < nn u) (hp : ff u j = (p : Int)) (hq : ff t j = (q : Int)) (hp1 : p ≤ 1000000) (hq1 : 1 ≤ q) (hq2 : q ≤ 1000000) :
  Calls Try.prog 74 #[.agg (rsC (x t) (x u)), .int .i64 ((j : Nat) : Int)] V fun e w' => e = .returned (.int .i64 ((p : Nat) : Int)) ∧ FmI U.heap.size k x nn (updF (updF ff u j ((p + 1 : Nat) : Int)) t j ((q - 1 : Nat) : Int)) w' ∧ Saved (fun b => (x t).ownBlock = some b ∨ (x u).ownBlock = some b) V w' ∧ Below U.heap.size U w' := by
 obtain ⟨gt, ct, et, hBt, hgt⟩ := ownL_some9 (FM.rows t ht) (by omega)
 obtain ⟨gu, cu, eu, hBu, hgu⟩ := ownL_some9 (FM.rows u hu) (by omega)
 go_enter Try.func74, Try.ntmps74
 refine wp_open (fun a => (a.tmps.size = 26 ∧ a.defers = []) ∧ a.eval (.tmp 0) = .agg (rsC (x t) (x u)) ∧ a.eval (.tmp 1) = .int .i64 ((j : Nat) : Int)) ⟨⟨rfl, rfl⟩, rfl, rfl⟩ ?_
 rintro a ⟨A, t0, t1⟩
 have FS : Saved (fun b => (x t).ownBlock = some b ∨ (x u).ownBlock = some b) V V := Saved.refl _ _
 refine wp_seq ?_
 refine wp_se (σ := Nat) 26 [0] [0] (fun k_ s X => match k_ with | 0 => Below U.heap.size U X ∧ (FmI U.heap.size k x nn (ff) X) ∧ (Saved (fun b => (x t).ownBlock = some b ∨ (x u).ownBlock = some b) V X) | _ => Below U.heap.size U X ∧ (FmI U.heap.size k x nn (ff) X) ∧ (Saved (fun b => (x t).ownBlock = some b ∨ (x u).ownBlock = some b) V X) ∧ (X.heap[s]? = some (.cells (rsC (x t) (x u)) 114)) ∧ (s ≠ gt ∧ s ≠ gu)) (fun s => fun i_ => match i_ with | 0 => .pointer (some ⟨s, 0, none⟩) | _ => undef) 0 A ⟨BB, FM, FS⟩ (And.intro ?_ trivial) ?_
 ·intro s a X e hS
  refine stepV rfl rfl (execBoxRs rfl ((e (.tmp 0)).trans t0)) ⟨X.heap.size, ⟨_, rfl, rfl⟩, ⟨(hS.1).trans (((belNew X _)).mono (hS.1).size), (hS.2.1.on (belNew X _)), (hS.2.2.below (belNew X _) hS.2.2.size), heapNew X _, ⟨fun q => by have := (hS.2.1.rows t ht).lt gt (by rw [et]; rfl); omega, fun q => by have := (hS.2.1.rows u hu).lt gu (by rw [eu]; rfl); omega⟩⟩, (And.intro (fun h => absurd h (by decide)) trivial)⟩
 rintro g2 a X0 A e (hS : Below U.heap.size U X0 ∧ (FmI U.heap.size k x nn (ff) X0) ∧ (Saved (fun b => (x t).ownBlock = some b ∨ (x u).ownBlock = some b) V X0) ∧ (X0.heap[g2]? = some (.cells (rsC (x t) (x u)) 114)) ∧ (g2 ≠ gt ∧ g2 ≠ gu))
 obtain ⟨BB, FM, FS, F2, Fn⟩ := hS
 have t2 : a.eval (.tmp 2) = .pointer (some ⟨g2, 0, none⟩) := e _
 have t4 : a.eval (.tmp 4) = .int .i64 ((0 : Nat) : Int) := e _
 replace t1 := kt e t1
 clear e t0
 refine wp_seq ?_
 refine wp_se 26 [0, 1, 3, 4] [] (fun _ s X => Below U.heap.size U X ∧ (FmI U.heap.size k x nn (ff) X) ∧ (Saved (fun b => (x t).ownBlock = some b ∨ (x u).ownBlock = some b) V X) ∧ (X.heap[g2]? = some (.cells (rsC (x t) (x u)) 114))) (fun s => fun i_ => match i_ with | 0 => .pointer (some ⟨g2, 1, none⟩) | 1 => x u | 3 => .pointer (some ⟨gu, 0 + j, none⟩) | 4 => .int .i64 ((p : Nat) : Int) | _ => undef) () A ⟨BB, FM, FS, F2⟩ (And.intro ?_ (And.intro ?_ (And.intro ?_ (And.intro ?_ trivial)))) ?_
 ·exact fun s a X e hS => stepV rfl rfl (execFldRs1 rfl ((e (.tmp 2)).trans t2)) ⟨s, ⟨_, rfl, rfl⟩, hS, ar⟩
 ·exact fun s a X e hS => stepV rfl rfl (execLdLI (v := x u) rfl (e (.tmp 6)) (rs_at1 hS.2.2.2)) ⟨s, ⟨_, rfl, rfl⟩, hS, ar⟩
 ·exact fun s a X e hS => stepV rfl rfl (execIdxN (k := j) rfl ((e (.tmp 7)).trans eu) ((e (.tmp 8)).trans t1) hju) ⟨s, ⟨_, rfl, rfl⟩, hS, ar⟩
 ·exact fun s a X e hS => stepV rfl rfl (execLd3 rfl (e (.tmp 9)) ((hS.2.1.cell hu eu hju).1.trans (by rw [hp]))) ⟨s, ⟨_, rfl, rfl⟩, hS, ar⟩
 rintro _ a X1 A e (hS : Below U.heap.size U X1 ∧ (FmI U.heap.size k x nn (ff) X1) ∧ (Saved (fun b => (x t).ownBlock = some b ∨ (x u).ownBlock = some b) V X1) ∧ (X1.heap[g2]? = some (.cells (rsC (x t) (x u)) 114)))
 obtain ⟨BB, FM, FS, F2⟩ := hS
 have t5 : a.eval (.tmp 5) = .int .i64 ((p : Nat) : Int) := e _
 replace t1 := kt e t1
 replace t2 := kt e t2
 clear e t4
 refine wp_seq ?_
 refine wp_se 26 [0, 1, 3, 4, 5, 6, 7] [7] (fun k_ s X => match k_ with | 0 => Below U.heap.size U X ∧ (FmI U.heap.size k x nn (ff) X) ∧ (Saved (fun b => (x t).ownBlock = some b ∨ (x u).ownBlock = some b) V X) ∧ (X.heap[g2]? = some (.cells (rsC (x t) (x u)) 114)) | _ => Below U.heap.size U X ∧ (Saved (fun b => (x t).ownBlock = some b ∨ (x u).ownBlock = some b) V X) ∧ (X.heap[g2]? = some (.cells (rsC (x t) (x u)) 114)) ∧ (FmI U.heap.size k x nn (updF ff u j ((p + 1 : Nat) : Int)) X)) (fun s => fun i_ => match i_ with | 0 => .pointer (some ⟨g2, 1, none⟩) | 1 => x u | 3 => .pointer (some ⟨gu, 0 + j, none⟩) | 4 => .int .i64 ((p : Nat) : Int) | 5 => .int .i64 ((p + 1 : Nat) : Int) | 6 => .pointer (some ⟨gu, 0 + j, none⟩) | _ => undef) () A ⟨BB, FM, FS, F2⟩ (And.intro ?_ (And.intro ?_ (And.intro ?_ (And.intro ?_ (And.intro ?_ (And.intro ?_ (And.intro ?_ trivial))))))) ?_
 ·exact fun s a X e hS => stepV rfl rfl (execFldRs1 rfl ((e (.tmp 2)).trans t2)) ⟨s, ⟨_, rfl, rfl⟩, hS, ar⟩
 ·exact fun s a X e hS => stepV rfl rfl (execLdLI (v := x u) rfl (e (.tmp 11)) (rs_at1 hS.2.2.2)) ⟨s, ⟨_, rfl, rfl⟩, hS, ar⟩
 ·exact fun s a X e hS => stepV rfl rfl (execIdxN (k := j) rfl ((e (.tmp 12)).trans eu) ((e (.tmp 13)).trans t1) hju) ⟨s, ⟨_, rfl, rfl⟩, hS, ar⟩
 ·exact fun s a X e hS => stepV rfl rfl (execLd3 rfl (e (.tmp 14)) ((hS.2.1.cell hu eu hju).1.trans (by rw [hp]))) ⟨s, ⟨_, rfl, rfl⟩, hS, ar⟩
 ·exact fun s a X e hS => stepV rfl rfl (execAd8 (p := p) (q := 1) rfl (e (.tmp 15)) rfl (by omega)) ⟨s, ⟨_, rfl, rfl⟩, hS, ar⟩
 ·exact fun s a X e hS => stepV rfl rfl (execIdxN (k := j) rfl ((e (.tmp 12)).trans eu) ((e (.tmp 13)).trans t1) hju) ⟨s, ⟨_, rfl, rfl⟩, hS, ar⟩
 ·intro s a X e hS
  obtain ⟨hc_, hf_⟩ := hS.2.1.cell hu eu hju
  refine stepS rfl rfl (execStI9 rfl (e (.tmp 17)) (e (.tmp 16)) hc_ hf_) ⟨s, ⟨_, rfl, rfl⟩, ⟨(hS.1).setCell hBu _, (hS.2.2.1.cell _ (Or.inr (Or.inr (by rw [eu]; rfl)))), ((Below.heap_setCell _ _ _ _ Fn.2).trans hS.2.2.2), hS.2.1.set hu eu _⟩, ar⟩
 rintro _ a X2 A e (hS : Below U.heap.size U X2 ∧ (Saved (fun b => (x t).ownBlock = some b ∨ (x u).ownBlock = some b) V X2) ∧ (X2.heap[g2]? = some (.cells (rsC (x t) (x u)) 114)) ∧ (FmI U.heap.size k x nn (updF ff u j ((p + 1 : Nat) : Int)) X2))
 obtain ⟨BB, FS, F2, FM1⟩ := hS
 replace t1 := kt e t1
 replace t2 := kt e t2
 replace t5 := kt e t5
 clear e
 refine wp_seq ?_
 refine wp_se 26 [0, 1, 3, 4, 5, 6, 7] [7] (fun k_ s X => match k_ with | 0 => Below U.heap.size U X ∧ (Saved (fun b => (x t).ownBlock = some b ∨ (x u).ownBlock = some b) V X) ∧ (X.heap[g2]? = some (.cells (rsC (x t) (x u)) 114)) ∧ (FmI U.heap.size k x nn (updF ff u j ((p + 1 : Nat) : Int)) X) | _ => Below U.heap.size U X ∧ (Saved (fun b => (x t).ownBlock = some b ∨ (x u).ownBlock = some b) V X) ∧ (X.heap[g2]? = some (.cells (rsC (x t) (x u)) 114)) ∧ (FmI U.heap.size k x nn (updF (updF ff u j ((p + 1 : Nat) : Int)) t j ((q - 1 : Nat) : Int)) X)) (fun s => fun i_ => match i_ with | 0 => .pointer (some ⟨g2, 0, none⟩) | 1 => x t | 3 => .pointer (some ⟨gt, 0 + j, none⟩) | 4 => .int .i64 ((q : Nat) : Int) | 5 => .int .i64 ((q - 1 : Nat) : Int) | 6 => .pointer (some ⟨gt, 0 + j, none⟩) | _ => undef) () A ⟨BB, FS, F2, FM1⟩ (And.intro ?_ (And.intro ?_ (And.intro ?_ (And.intro ?_ (And.intro ?_ (And.intro ?_ (And.intro ?_ trivial))))))) ?_
 ·exact fun s a X e hS => stepV rfl rfl (execFldRs0 rfl ((e (.tmp 2)).trans t2)) ⟨s, ⟨_, rfl, rfl⟩, hS, ar⟩
 ·exact fun s a X e hS => stepV rfl rfl (execLdLI (v := x t) rfl (e (.tmp 18)) (rs_at0 hS.2.2.1)) ⟨s, ⟨_, rfl, rfl⟩, hS, ar⟩
 ·exact fun s a X e hS => stepV rfl rfl (execIdxN (k := j) rfl ((e (.tmp 19)).trans et) ((e (.tmp 20)).trans t1) hjt) ⟨s, ⟨_, rfl, rfl⟩, hS, ar⟩
 ·exact fun s a X e hS => stepV rfl rfl (execLd3 rfl (e (.tmp 21)) ((hS.2.2.2.cell ht et hjt).1.trans (by rw [updF_o htu, hq]))) ⟨s, ⟨_, rfl, rfl⟩, hS, ar⟩
 ·exact fun s a X e hS => stepV rfl rfl (By8.execSubI (p := q) (q := 1) rfl (e (.tmp 22)) rfl (by omega) (by omega)) ⟨s, ⟨_, rfl, rfl⟩, hS, ar⟩
 ·exact fun s a X e hS => stepV rfl rfl (execIdxN (k := j) rfl ((e (.tmp 19)).trans et) ((e (.tmp 20)).trans t1) hjt) ⟨s, ⟨_, rfl, rfl⟩, hS, ar⟩
 ·intro s a X e hS
  obtain ⟨hc_, hf_⟩ := hS.2.2.2.cell ht et hjt
  refine stepS rfl rfl (execStI9 rfl (e (.tmp 24)) (e (.tmp 23)) hc_ hf_) ⟨s, ⟨_, rfl, rfl⟩, ⟨(hS.1).setCell hBt _, (hS.2.1.cell _ (Or.inr (Or.inl (by rw [et]; rfl)))), ((Below.heap_setCell _ _ _ _ Fn.1).trans hS.2.2.1), hS.2.2.2.set ht et _⟩, ar⟩
 rintro _ a X3 A e (hS : Below U.heap.size U X3 ∧ (Saved (fun b => (x t).ownBlock = some b ∨ (x u).ownBlock = some b) V X3) ∧ (X3.heap[g2]? = some (.cells (rsC (x t) (x u)) 114)) ∧ (FmI U.heap.size k x nn (updF (updF ff u j ((p + 1 : Nat) : Int)) t j ((q - 1 : Nat) : Int)) X3))
 obtain ⟨BB, FS, F2, FM2⟩ := hS
 replace t5 := kt e t5
 clear e t1 t2
 clear F2
 refine wp_seq ?_
 refine wp_se 26 [] [] (fun _ s X => Below U.heap.size U X ∧ (Saved (fun b => (x t).ownBlock = some b ∨ (x u).ownBlock = some b) V X) ∧ (FmI U.heap.size k x nn (updF (updF ff u j ((p + 1 : Nat) : Int)) t j ((q - 1 : Nat) : Int)) X)) (fun s => fun _ => undef) () A ⟨BB, FS, FM2⟩ trivial ?_
 rintro _ a X4 A e (hS : Below U.heap.size U X4 ∧ (Saved (fun b => (x t).ownBlock = some b ∨ (x u).ownBlock = some b) V X4) ∧ (FmI U.heap.size k x nn (updF (updF ff u j ((p + 1 : Nat) : Int)) t j ((q - 1 : Nat) : Int)) X4))
 obtain ⟨BB, FS, FM2⟩ := hS
 have t4 : a.eval (.tmp 4) = .int .i64 ((p : Nat) : Int) := (e _).trans t5
 clear e t5
 refine wp_ret ?_
 refine bodyPost_ret (results_tmp rfl _ _ _) A.2 ⟨?_, FM2, FS, BB⟩
 show Ending.returned (a.eval (.tmp 4)) = _
 rw [t4]
set_option maxRecDepth 100000 in
set_option maxHeartbeats 4000000 in
theorem pbegin (sf : Nat → Int) (J : Nat) (v : Value) (V : World) (hv : SliceI V v J sf) (hJ : J ≤ 64) (hok : okS sf J = true) :
  Calls Try.prog 72 #[v] V fun e w' => ∃ l x, e = .returned (.agg (rsC l x)) ∧ FmI V.heap.size 2 (x2 l x) (fun _ => J) (ffB sf) w' ∧ Below V.heap.size V w' := by
 obtain ⟨ia, ic, rfl, hic, -, hsh⟩ := id hv.shape
 have FI := hv
 go_enter Try.func72, Try.ntmps72
 refine wp_open (fun a => (a.tmps.size = 25 ∧ a.defers = []) ∧ a.eval (.tmp 0) = .slice ia J ic) ⟨⟨rfl, rfl⟩, rfl⟩ ?_
 rintro a ⟨A, t0⟩
 have BB : Below V.heap.size V V := Below.refl _ _
 refine wp_seq ?_
 refine wp_se (σ := Nat) 25 [0] [0] (fun k_ s X => match k_ with | 0 => Below V.heap.size V X | _ => Below V.heap.size V X ∧ (X.heap[s]? = some (.cells (rsC (.slice none 0 0) (.slice none 0 0)) 114)) ∧ (V.heap.size ≤ s)) (fun s => fun i_ => match i_ with | 0 => .pointer (some ⟨s, 0, none⟩) | _ => undef) 0 A (BB) (And.intro ?_ trivial) ?_
 ·intro s a X e hS
  refine stepV rfl rfl (execAllRs rfl) ⟨X.heap.size, ⟨_, rfl, rfl⟩, ⟨(hS).trans (((belNew X _)).mono (hS).size), heapNew X _, (hS).size⟩, (And.intro (fun h => absurd h (by decide)) trivial)⟩
 rintro g2 a X0 A e (hS : Below V.heap.size V X0 ∧ (X0.heap[g2]? = some (.cells (rsC (.slice none 0 0) (.slice none 0 0)) 114)) ∧ (V.heap.size ≤ g2))
 obtain ⟨BB, F2, F2g⟩ := hS
 have t2 : a.eval (.tmp 2) = .pointer (some ⟨g2, 0, none⟩) := e _
 replace t0 := kt e t0
 clear e
 refine wp_seq ?_
 refine wp_se (σ := Nat) 25 [1, 2] [2] (fun k_ s X => match k_ with | 0 => Below V.heap.size V X ∧ (X.heap[g2]? = some (.cells (rsC (.slice none 0 0) (.slice none 0 0)) 114)) ∧ (V.heap.size ≤ g2) | _ => Below V.heap.size V X ∧ (X.heap[g2]? = some (.cells (rsC (.slice none 0 0) (.slice none 0 0)) 114)) ∧ (V.heap.size ≤ g2) ∧ (X.ownsRow V.heap.size 3 1 (.slice (some ⟨s, 0, none⟩) J J) (J) (intsL (J) (fun j => if j < 0 then (sumN (gN sf) j : Int) else 0))) ∧ (V.heap.size ≤ s) ∧ (g2 ≠ s)) (fun s => fun i_ => match i_ with | 1 => .int .i64 ((J : Nat) : Int) | 2 => .slice (some ⟨s, 0, none⟩) J J | _ => undef) 0 A ⟨BB, F2, F2g⟩ (And.intro ?_ (And.intro ?_ trivial)) ?_
 ·exact fun s a X e hS => stepV rfl rfl (execLenI (len := J) rfl ((e (.tmp 5)).trans t0) ((FI.on hS.1)).shp) ⟨s, ⟨_, rfl, rfl⟩, hS, ar⟩
 ·intro s a X e hS
  refine stepV rfl rfl (execMkN rfl (e (.tmp 6)) (e (.tmp 6)) (by omega)) ⟨X.heap.size, ⟨_, rfl, rfl⟩, ⟨(hS.1).trans (((belNew X _)).mono (hS.1).size), (on9 hS.2.1 (belNew X _)), hS.2.2, ownD_base (own_mkZ X J _ (by omega) (fun j_ _ => if_neg (Nat.not_lt_zero _))) (hS.1).size, (hS.1).size, ne9 hS.2.1⟩, (And.intro (fun _ => rfl) (And.intro (fun h => absurd h (by decide)) trivial))⟩
 rintro g3 a X1 A e (hS : Below V.heap.size V X1 ∧ (X1.heap[g2]? = some (.cells (rsC (.slice none 0 0) (.slice none 0 0)) 114)) ∧ (V.heap.size ≤ g2) ∧ (X1.ownsRow V.heap.size 3 1 (.slice (some ⟨g3, 0, none⟩) J J) (J) (intsL (J) (fun j => if j < 0 then (sumN (gN sf) j : Int) else 0))) ∧ (V.heap.size ≤ g3) ∧ (g2 ≠ g3))
 obtain ⟨BB, F2, F2g, FO, Fg3, Fne⟩ := hS
 have t3 : a.eval (.tmp 3) = .slice (some ⟨g3, 0, none⟩) J J := e _
 replace t0 := kt e t0
 replace t2 := kt e t2
 clear e
 refine wp_seq (wp_seq ?_)
 refine wp_se 25 [1] [] (fun _ s X => Below V.heap.size V X ∧ (X.heap[g2]? = some (.cells (rsC (.slice none 0 0) (.slice none 0 0)) 114)) ∧ (X.ownsRow V.heap.size 3 1 (.slice (some ⟨g3, 0, none⟩) J J) (J) (intsL (J) (fun j => if j < 0 then (sumN (gN sf) j : Int) else 0)))) (fun s => fun i_ => match i_ with | 1 => .int .i64 ((J : Nat) : Int) | _ => undef) () A ⟨BB, F2, FO⟩ (And.intro ?_ trivial) ?_
 ·exact fun s a X e hS => stepV rfl rfl (execLenI (len := J) rfl ((e (.tmp 8)).trans t3) ⟨_, _, rfl⟩) ⟨s, ⟨_, rfl, rfl⟩, hS, ar⟩
 rintro _ a X2 A e (hS : Below V.heap.size V X2 ∧ (X2.heap[g2]? = some (.cells (rsC (.slice none 0 0) (.slice none 0 0)) 114)) ∧ (X2.ownsRow V.heap.size 3 1 (.slice (some ⟨g3, 0, none⟩) J J) (J) (intsL (J) (fun j => if j < 0 then (sumN (gN sf) j : Int) else 0))))
 obtain ⟨BB, F2, FO⟩ := hS
 have t8 : a.eval (.tmp 8) = .slice (some ⟨g3, 0, none⟩) J J := (e _).trans t3
 have t9 : a.eval (.tmp 9) = .int .i64 ((J : Nat) : Int) := e _
 have t10 : a.eval (.tmp 10) = .int .i64 ((0 : Nat) : Int) := e _
 replace t0 := kt e t0
 replace t2 := kt e t2
 replace t3 := kt e t3
 clear e
 clear t8
 refine wp_block ?_
 refine wp_loop (fun a W => ∃ (i : Nat), i ≤ J ∧ (a.tmps.size = 25 ∧ a.defers = []) ∧ a.eval (.tmp 0) = .slice ia J ic ∧ a.eval (.tmp 2) = .pointer (some ⟨g2, 0, none⟩) ∧ a.eval (.tmp 3) = .slice (some ⟨g3, 0, none⟩) J J ∧ a.eval (.tmp 9) = .int .i64 ((J : Nat) : Int) ∧ a.eval (.tmp 10) = .int .i64 ((i : Nat) : Int) ∧ Below V.heap.size V W ∧ (W.heap[g2]? = some (.cells (rsC (.slice none 0 0) (.slice none 0 0)) 114)) ∧ (W.ownsRow V.heap.size 3 1 (.slice (some ⟨g3, 0, none⟩) J J) (J) (intsL (J) (fun j => if j < i then (sumN (gN sf) j : Int) else 0)))) (fun a _ => J - (intOf (a.eval (.tmp 10))).toNat) ⟨0, Nat.zero_le _, A, t0, t2, t3, t9, t10, BB, F2, FO⟩ ?_
 rintro a XL3 ⟨i, hi, A, t0, t2, t3, t9, t10, BB, F2, FO⟩
 have esi := t10
 refine wp_seq ?_
 refine wp_se 25 [0] [] (fun _ s X => Below V.heap.size V X ∧ (X.heap[g2]? = some (.cells (rsC (.slice none 0 0) (.slice none 0 0)) 114)) ∧ (X.ownsRow V.heap.size 3 1 (.slice (some ⟨g3, 0, none⟩) J J) (J) (intsL (J) (fun j => if j < i then (sumN (gN sf) j : Int) else 0)))) (fun s => fun i_ => match i_ with | 0 => .bool (decide (i < J)) | _ => undef) () A ⟨BB, F2, FO⟩ (And.intro ?_ trivial) ?_
 ·exact fun s a X e hS => stepV rfl rfl (execLtW (p := i) (q := J) rfl ((e (.tmp 10)).trans t10) ((e (.tmp 9)).trans t9)) ⟨s, ⟨_, rfl, rfl⟩, hS, ar⟩
 rintro _ a X3 A e (hS : Below V.heap.size V X3 ∧ (X3.heap[g2]? = some (.cells (rsC (.slice none 0 0) (.slice none 0 0)) 114)) ∧ (X3.ownsRow V.heap.size 3 1 (.slice (some ⟨g3, 0, none⟩) J J) (J) (intsL (J) (fun j => if j < i then (sumN (gN sf) j : Int) else 0))))
 obtain ⟨BB, F2, FO⟩ := hS
 have t11 : a.eval (.tmp 11) = .bool (decide (i < J)) := e _
 replace t0 := kt e t0
 replace t2 := kt e t2
 replace t3 := kt e t3
 replace t9 := kt e t9
 replace t10 := kt e t10
 clear e
 refine wp_seq ?_
 by_cases lti : i < J
 ·rw [decide_eq_true lti] at t11
  refine wp_cond_true t11 (wp_skip ?_)
  clear t11
  refine wp_seq (wp_block ?_)
  have cS : ∀ X, Below V.heap.size V X → Calls Try.prog 70 #[sliced ia 0 i ic 1] X fun e w' => e = .returned (.int .i64 ((sumN (gN sf) i : Nat) : Int)) ∧ Below X.heap.size X w' := fun X hX => by
   have h_ := SliceI.sub (FI.on hX) 0 i (Nat.zero_le _) (by omega)
   rw [Nat.sub_zero] at h_
   have hb_ := sumN_mono (r := gN sf) (show i ≤ J by omega)
   exact psum sf i _ X (h_.cg fun j _ => by rw [Nat.zero_add]) (by omega) (fun j hj => (okS_iff.1 hok j (by omega)).1) (by have := okS_sum hok; omega)
  refine wp_seq ?_
  refine wp_se 25 [] [] (fun _ s X => Below V.heap.size V X ∧ (X.heap[g2]? = some (.cells (rsC (.slice none 0 0) (.slice none 0 0)) 114)) ∧ (X.ownsRow V.heap.size 3 1 (.slice (some ⟨g3, 0, none⟩) J J) (J) (intsL (J) (fun j => if j < i then (sumN (gN sf) j : Int) else 0)))) (fun s => fun _ => undef) () A ⟨BB, F2, FO⟩ trivial ?_
  rintro _ a X4 A e (hS : Below V.heap.size V X4 ∧ (X4.heap[g2]? = some (.cells (rsC (.slice none 0 0) (.slice none 0 0)) 114)) ∧ (X4.ownsRow V.heap.size 3 1 (.slice (some ⟨g3, 0, none⟩) J J) (J) (intsL (J) (fun j => if j < i then (sumN (gN sf) j : Int) else 0))))
  obtain ⟨BB, F2, FO⟩ := hS
  have t4 : a.eval (.tmp 4) = .int .i64 ((i : Nat) : Int) := (e _).trans t10
  replace t0 := kt e t0
  replace t2 := kt e t2
  replace t3 := kt e t3
  replace t9 := kt e t9
  replace t10 := kt e t10
  clear e
  refine wp_se 25 [4, 5, 6, 7] [7] (fun k_ s X => match k_ with | 0 => Below V.heap.size V X ∧ (X.heap[g2]? = some (.cells (rsC (.slice none 0 0) (.slice none 0 0)) 114)) ∧ (X.ownsRow V.heap.size 3 1 (.slice (some ⟨g3, 0, none⟩) J J) (J) (intsL (J) (fun j => if j < i then (sumN (gN sf) j : Int) else 0))) | _ => Below V.heap.size V X ∧ (X.heap[g2]? = some (.cells (rsC (.slice none 0 0) (.slice none 0 0)) 114)) ∧ (X.ownsRow V.heap.size 3 1 (.slice (some ⟨g3, 0, none⟩) J J) (J) (intsL (J) (fun j => if j < (i + 1) then (sumN (gN sf) j : Int) else 0)))) (fun s => fun i_ => match i_ with | 4 => sliced ia 0 i ic 1 | 5 => .int .i64 ((sumN (gN sf) i : Nat) : Int) | 6 => .pointer (some ⟨g3, 0 + i, none⟩) | _ => undef) () A ⟨BB, F2, FO⟩ (And.intro ?_ (And.intro ?_ (And.intro ?_ (And.intro ?_ trivial)))) ?_
  ·exact fun s a X e hS => stepV rfl rfl (By8.execSlH rfl ((e (.tmp 15)).trans t0) ((e (.tmp 16)).trans t4) (sl_hA ia J ic i (by omega) X)) ⟨s, ⟨_, rfl, rfl⟩, hS, ar⟩
  ·exact fun s a X e hS => stepC rfl rfl (execCall1 Try.func70 (by kernel_rfl) (by kernel_rfl) rfl (e (.tmp 17))) (cS X hS.1) fun e w' hh => ⟨_, hh.1, s, ⟨_, rfl, rfl⟩, ⟨(hS.1).trans ((hh.2).mono (hS.1).size), (on9 hS.2.1 hh.2), (ownD_below hS.2.2 hh.2)⟩, ar⟩
  ·exact fun s a X e hS => stepV rfl rfl (execIdxN (k := i) rfl ((e (.tmp 13)).trans t3) ((e (.tmp 14)).trans t4) lti) ⟨s, ⟨_, rfl, rfl⟩, hS, ar⟩
  ·intro s a X e hS
   obtain ⟨hc_, hf_⟩ := own_cellI hS.2.2 lti
   refine stepS rfl rfl (execStI9 rfl (e (.tmp 19)) (e (.tmp 18)) hc_ hf_) ⟨s, ⟨_, rfl, rfl⟩, ⟨(hS.1).setCell Fg3 _, ((Below.heap_setCell _ _ _ _ Fne).trans hS.2.1), own_fill (F := fun j => (sumN (gN sf) j : Int)) hS.2.2 rfl⟩, ar⟩
  rintro _ a X5 A e (hS : Below V.heap.size V X5 ∧ (X5.heap[g2]? = some (.cells (rsC (.slice none 0 0) (.slice none 0 0)) 114)) ∧ (X5.ownsRow V.heap.size 3 1 (.slice (some ⟨g3, 0, none⟩) J J) (J) (intsL (J) (fun j => if j < (i + 1) then (sumN (gN sf) j : Int) else 0))))
  obtain ⟨BB, F2, FO2⟩ := hS
  replace t0 := kt e t0
  replace t2 := kt e t2
  replace t3 := kt e t3
  replace t9 := kt e t9
  replace t10 := kt e t10
  clear e t4
  refine wp_se 25 [0] [] (fun _ s X => Below V.heap.size V X ∧ (X.heap[g2]? = some (.cells (rsC (.slice none 0 0) (.slice none 0 0)) 114)) ∧ (X.ownsRow V.heap.size 3 1 (.slice (some ⟨g3, 0, none⟩) J J) (J) (intsL (J) (fun j => if j < (i + 1) then (sumN (gN sf) j : Int) else 0)))) (fun s => fun i_ => match i_ with | 0 => .int .i64 ((i + 1 : Nat) : Int) | _ => undef) () A ⟨BB, F2, FO2⟩ (And.intro ?_ trivial) ?_
  ·exact fun s a X e hS => stepV rfl rfl (execAd8 (p := i) (q := 1) rfl ((e (.tmp 10)).trans t10) rfl (by omega)) ⟨s, ⟨_, rfl, rfl⟩, hS, ar⟩
  rintro _ a X6 A e (hS : Below V.heap.size V X6 ∧ (X6.heap[g2]? = some (.cells (rsC (.slice none 0 0) (.slice none 0 0)) 114)) ∧ (X6.ownsRow V.heap.size 3 1 (.slice (some ⟨g3, 0, none⟩) J J) (J) (intsL (J) (fun j => if j < (i + 1) then (sumN (gN sf) j : Int) else 0))))
  obtain ⟨BB, F2, FO2⟩ := hS
  replace t10 : a.eval (.tmp 10) = .int .i64 ((i + 1 : Nat) : Int) := e _
  replace t0 := kt e t0
  replace t2 := kt e t2
  replace t3 := kt e t3
  replace t9 := kt e t9
  clear e
  exact ⟨⟨i + 1, lti, A, t0, t2, t3, t9, t10, BB, F2, FO2⟩, by show J - (intOf (a.eval (.tmp 10))).toNat < J - (intOf (Act.eval _ (.tmp 10))).toNat; rw [t10, esi]; show J - (i + 1) < J - i; omega⟩
 ·rw [decide_eq_false lti] at t11
  refine wp_cond_false t11 ?_
  refine wp_exit ?_
  first | with_reducible refine exit_in ?_ | with_reducible refine exit_then (exit_in ?_) | with_reducible refine exit_then (exit_then (exit_in ?_)) | refine exit_in ?_ | refine exit_then (exit_in ?_) | refine exit_then (exit_then (exit_in ?_))
  clear t11 esi
  obtain rfl : i = J := by omega
  rw [intsL_congr (g := fun j => (sumN (gN sf) j : Int)) (fun j hj => if_pos hj)] at FO
  clear t9 t10
  refine wp_seq ?_
  refine wp_se (σ := Value) 25 [1, 3, 4] [1, 4] (fun k_ s X => match k_ with | 0 => Below V.heap.size V X ∧ (X.heap[g2]? = some (.cells (rsC (.slice none 0 0) (.slice none 0 0)) 114)) ∧ (X.ownsRow V.heap.size 3 1 (.slice (some ⟨g3, 0, none⟩) i i) (i) (intsL (i) (fun j => (sumN (gN sf) j : Int)))) | 1 => Below V.heap.size V X ∧ (X.heap[g2]? = some (.cells (rsC (.slice none 0 0) (.slice none 0 0)) 114)) ∧ (X.ownsRow V.heap.size 3 1 (.slice (some ⟨g3, 0, none⟩) i i) (i) (intsL (i) (fun j => (sumN (gN sf) j : Int)))) ∧ (X.ownsRow V.heap.size 3 1 s (i) (intsL (i) (sf))) ∧ (∀ b, s.ownBlock = some b → b ≠ g3) ∧ (∃ g_ n_ c_, s = .slice g_ n_ c_) | _ => Below V.heap.size V X ∧ (X.ownsRow V.heap.size 3 1 (.slice (some ⟨g3, 0, none⟩) i i) (i) (intsL (i) (fun j => (sumN (gN sf) j : Int)))) ∧ (X.ownsRow V.heap.size 3 1 s (i) (intsL (i) (sf))) ∧ (∀ b, s.ownBlock = some b → b ≠ g3) ∧ (∃ g_ n_ c_, s = .slice g_ n_ c_) ∧ (X.heap[g2]? = some (.cells (rsC (s) (.slice (some ⟨g3, 0, none⟩) i i)) 114))) (fun s => fun i_ => match i_ with | 1 => s | 3 => .agg (rsC (s) (.slice (some ⟨g3, 0, none⟩) i i)) | _ => undef) undef A ⟨BB, F2, FO⟩ (And.intro ?_ (And.intro ?_ (And.intro ?_ trivial))) ?_
  ·intro s a X e hS
   refine stepC rfl rfl (execCall1 Try.func79 (by kernel_rfl) (by kernel_rfl) rfl ((e (.tmp 21)).trans t0)) (pclone sf i _ X (FI.on hS.1) (by omega)) fun e w' hh => ?_
   obtain ⟨r_, he, hk, hb⟩ := hh
   refine ⟨_, he, r_, ⟨_, rfl, rfl⟩, ⟨(hS.1).trans ((hb).mono (hS.1).size), (on9 hS.2.1 hb), (ownD_below hS.2.2 hb), ownD_base hk (hS.1).size, fun b e q => by have a1 := (hk.lt b e).1; have a2 := (hS.2.2.lt g3 rfl).2; omega, shp3 hk⟩, (And.intro (fun h => absurd h (by decide)) (And.intro (fun h => absurd h (by decide)) (And.intro (fun h => absurd h (by decide)) trivial)))⟩
  ·exact fun s a X e hS => stepV rfl rfl (execBdRs rfl (e (.tmp 22)) ((e (.tmp 23)).trans t3) hS.2.2.2.2.2 ⟨_, _, _, rfl⟩) ⟨s, ⟨_, rfl, rfl⟩, hS, ar⟩
  ·intro s a X e hS
   refine stepS rfl rfl (execStRs rfl ((e (.tmp 2)).trans t2) (e (.tmp 24)) hS.2.1 hS.2.2.2.2.2 ⟨_, _, _, rfl⟩) ⟨s, ⟨_, rfl, rfl⟩, ⟨below4 hS.1 F2g _, own_setT hS.2.2.1 hS.2.1 (by decide), own_setT hS.2.2.2.1 hS.2.1 (by decide), hS.2.2.2.2.1, hS.2.2.2.2.2, setRow_heap _ _ _ _ _ _ hS.2.1⟩, ar⟩
  rintro v22 a X7 A e (hS : Below V.heap.size V X7 ∧ (X7.ownsRow V.heap.size 3 1 (.slice (some ⟨g3, 0, none⟩) i i) (i) (intsL (i) (fun j => (sumN (gN sf) j : Int)))) ∧ (X7.ownsRow V.heap.size 3 1 v22 (i) (intsL (i) (sf))) ∧ (∀ b, v22.ownBlock = some b → b ≠ g3) ∧ (∃ g_ n_ c_, v22 = .slice g_ n_ c_) ∧ (X7.heap[g2]? = some (.cells (rsC (v22) (.slice (some ⟨g3, 0, none⟩) i i)) 114)))
  obtain ⟨BB, FO, FL, Fd, Fh, F3⟩ := hS
  replace t2 := kt e t2
  clear e t0 t3
  refine wp_ret ?_
  refine bodyPost_ret (results_cell9 (cs := rsC v22 (.slice (some ⟨g3, 0, none⟩) i i)) rfl _ _ g2 114 (0, 0) _ t2 F3 Try.underlying114 rfl (size_rs _ _)) A.2 ⟨v22, _, rfl, ⟨fun t ht => ?_, fun s t hs ht hst b e => ?_⟩, BB⟩
  ·by_cases q : t = 0
   ·subst q
    show World.ownsRow _ _ _ _ v22 i (intsL i fun j => ((gN sf j : Nat) : Int))
    rw [← intsL_congr (fun j hj => okS_nn hok hj)]
    exact FL
   ·rw [show t = 1 by omega]
    exact FO
  ·by_cases q : s = 0
   ·have q2 : t = 1 := by omega
    subst q q2
    exact fun z => Fd b e (Option.some.inj z).symm
   ·have q1 : s = 1 := by omega
    have q2 : t = 0 := by omega
    subst q1 q2
    exact fun z => Fd b z (Option.some.inj e).symm
end Go.Proofs.Ytmjpneaccjlpkaa.Brd
