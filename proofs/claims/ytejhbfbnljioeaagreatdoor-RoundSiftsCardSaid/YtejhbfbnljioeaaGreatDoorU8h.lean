import Derived.Test.YtejhbfbnljioeaaGreatDoorU8g
import Derived.Test.YtejhbfbnljioeaaGreatDoorX6m
import Derived.Test.YtejhbfbnljioeaaGreatDoorX5n
import Derived.Test.YtejhbfbnljioeaaGreatDoorB7d
namespace Go.Proofs.YtejhbfbnljioeaaGreatDoor.Rnd
open Go.RowKit Gf8 Aes By8 Cel Cf Win Oni Rou
open Go.ChangeMaps Go.MapKept
/- RoundSifts. Written by tools/mkU8h.py. -/

theorem slc (W : World) {v : Value} {l : Nat} {p : Nat → Nat} (h : SliceN W v l p) : (∃ g n c, v = .slice g n c) ∧ ∃ ao c, v = .slice ao l c := by
  obtain ⟨a, cap, e, _⟩ := h.shape
  exact ⟨⟨a, l, cap, e⟩, a, cap, e⟩
theorem cells_cvs {W : World} {cv : Value} {n : Nat} {xv : Nat → Value} {ln : Nat → Nat} {c : Nat → Nat → Nat} (h : Oni.Cells W cv n xv ln c) : Cvs W cv n xv := by
  obtain ⟨a, cap, e, _, _, q⟩ := h.shape
  exact ⟨a, cap, e, q⟩
/-- Both Sifts, at one and the same answer. -/
theorem both21 (mv : Value) (m : Nat) (kf : Nat → Nat) (q : Cg) (nw : Int) (ev : Value) (wn : Nat) (nu : Nat → Int) (tw : Nat → Value) (lw : Nat → Nat) (t : Nat → Nat → Nat → Nat) (ro ep le : Int) (cvv : Value) (n : Nat) (xv : Nat → Value) (ln : Nat → Nat) (c : Nat → Nat → Nat) (V : World) (hG : Glob V) (hMv : SliceN V mv m kf) (hW : Wd V nw ev wn nu tw lw t) (hC : Oni.Cells V cvv n xv ln c) (hn : n ≤ 1000000) : ∃ (E A0 A1 A2 K : Nat) (r c' : Nat → Nat → Nat), (∀ W, Below V.heap.size V W → Calls Tryz.prog 4 #[.agg (cfC mv q), .agg (wC nw ev), .agg (btC ro ep le cvv)] W fun e w' => (∃ v cw, e = .returned (.tuple #[v, .agg (rpC A0 A1 A2), .int .i64 ((E : Nat) : Int)]) ∧ PeL W.heap.size w' v K cw r (fun _ => 320) c') ∧ Below W.heap.size W w') ∧ (∀ W, Below V.heap.size V W → Calls Tryz.prog 6 #[.agg (cfC mv q), .agg (wC nw ev), .agg (btC ro ep le cvv)] W fun e w' => (∃ v cw, e = .returned (.tuple #[v, .agg (rpC A0 A1 A2), .int .i64 ((E : Nat) : Int)]) ∧ PeL W.heap.size w' v K cw r (fun _ => 320) c') ∧ Below W.heap.size W w') ∧ K ≤ n ∧ (∀ m j, j < 16 → r m j < 256) ∧ (∀ m, m < K → ∀ j, j < 320 → c' m j < 256) ∧ (cfQ m q = true → rkE m ep = 0 → n = 1 → peE 32 q.l (ln 0) (rk kf ep.toNat) (c 0) ≠ 0 → E = 0 ∧ A0 = 1 ∧ A1 = 1) := by
  obtain ⟨ky, hky⟩ : ∃ ky, rk kf ep.toNat = ky := ⟨_, rfl⟩
  have hkb : ∀ j, j < 32 → ky j < 256 := fun j hj => by rw [← hky]; exact rk_lt _ _ _
  obtain ⟨EE, hEE⟩ : ∃ EE : Nat → Nat, (fun i => peE 32 q.l (ln i) ky (c i)) = EE := ⟨_, rfl⟩
  obtain ⟨TT, hTT⟩ : ∃ TT : Nat → Nat → Nat, (fun i => peR (EE i) ky (c i)) = TT := ⟨_, rfl⟩
  obtain ⟨CC, hCC⟩ : ∃ CC : Nat → Nat → Nat, (fun i => peC q.l ky (c i)) = CC := ⟨_, rfl⟩
  have e1 : ∀ i, peE 32 q.l (ln i) ky (c i) = EE i := fun i => congrFun hEE i
  have e2 : ∀ i, peR (EE i) ky (c i) = TT i := fun i => congrFun hTT i
  have e3 : ∀ i, peC q.l ky (c i) = CC i := fun i => congrFun hCC i
  have hTb : ∀ i j, j < 16 → TT i j < 256 := fun i j _ => by
    rw [← e2 i]
    unfold peR
    split
    · exact hfF_lt _ _ _ _
    · show 0 < 256
      decide
  have hk1 : ∀ W, Below V.heap.size V W → Calls Tryz.prog 8 #[mv, .int .i64 ep] W fun e w' => ∃ r, e = .returned (.tuple #[r, .int .i64 ((rkE m ep : Nat) : Int)]) ∧ (rkE m ep = 0 → SliceN w' r 32 ky) ∧ Below W.heap.size W w' := fun W hb =>
    (pkey_any kf m ep mv W (hG.below hb hG.sz) (hMv.on hb)).mono fun e w' ⟨r, he, ho, hb2⟩ => ⟨r, he, fun z => by
      rw [show rkN m ep = 32 from if_pos z, hky] at ho
      exact own_slice ho hkb, hb2⟩
  have hk2 : ∀ W, Below V.heap.size V W → Calls Tryz.prog 12 #[mv, .int .i64 ep] W fun e w' => ∃ r, e = .returned (.tuple #[r, .int .i64 ((rkE m ep : Nat) : Int)]) ∧ (rkE m ep = 0 → SliceN w' r 32 ky) ∧ Below W.heap.size W w' := fun W hb =>
    (rkey_any kf m ep mv W (hMv.on hb)).mono fun e w' ⟨r, he, ho, hb2⟩ => ⟨r, he, fun z => by
      rw [show rkN m ep = 32 from if_pos z, hky] at ho
      exact ho, hb2⟩
  have hp1 : ∀ i, i < n → ∀ W kv, Below V.heap.size V W → SliceN W kv 32 ky → Calls Tryz.prog 9 #[kv, .int .i64 q.l, xv i] W fun e w' => ∃ cu, e = .returned (.tuple #[.agg (pC cu (TT i)), .int .i64 ((EE i : Nat) : Int)]) ∧ w'.ownsRow W.heap.size 5 1 cu (peN (EE i)) (bytesL (peN (EE i)) (CC i)) ∧ Below W.heap.size W w' := fun i hi W kv hb hk => by
    have h := peel_any ky (c i) 32 (ln i) q.l kv (xv i) W (hG.below hb hG.sz) hk ⟨(hC.cell i hi).on hb, hC.nil i hi⟩ (hC.lens i hi)
    rw [e1 i, e2 i, e3 i] at h
    exact h
  have hp2 : ∀ i, i < n → ∀ W kv, Below V.heap.size V W → SliceN W kv 32 ky → Calls Tryz.prog 24 #[kv, .int .i64 q.l, xv i] W fun e w' => ∃ cu, e = .returned (.tuple #[.agg (pC cu (TT i)), .int .i64 ((EE i : Nat) : Int)]) ∧ w'.ownsRow W.heap.size 5 1 cu (peN (EE i)) (bytesL (peN (EE i)) (CC i)) ∧ Below W.heap.size W w' := fun i hi W kv hb hk => by
    have h := rpeel_any ky (c i) 32 (ln i) q.l kv (xv i) W hk ⟨(hC.cell i hi).on hb, hC.nil i hi⟩ (hC.lens i hi)
    rw [e1 i, e2 i, e3 i] at h
    exact h
  refine ⟨(sfE m q ep), z0 (sfE m q ep) n, z0 (sfE m q ep) (cn (ft EE TT (wAll (esL wn nu lw t))) 0 n), z0 (sfE m q ep) (cn (ft EE TT (wAll (esL wn nu lw t))) 1 n), z0 (sfE m q ep) (cn (ft EE TT (wAll (esL wn nu lw t))) 2 n), (fun m => TT (fr (ft EE TT (wAll (esL wn nu lw t))) n m)), (fun m => CC (fr (ft EE TT (wAll (esL wn nu lw t))) n m)), fun W hb => ?_, fun W hb => ?_, (by unfold z0; split; exact cn_le n; exact Nat.zero_le _), fun m j hj => hTb _ j hj, fun m hm j hj => ?_, fun z1 z2 z3 z4 => ?_⟩
  · exact psift mv m q nw ev wn nu tw lw t ro ep le cvv n xv ky EE TT CC W (hW.on hb) (slc V hMv).1 (slc V hMv).2 ((cells_cvs hC).on hb) hn hTb (fun X hX => hk1 X (hb.trans (hX.mono hb.size))) (fun i hi X kv hX => hp1 i hi X kv (hb.trans (hX.mono hb.size)))
  · exact rsift mv m q nw ev wn nu tw lw t ro ep le cvv n xv ky EE TT CC W (hW.on hb) (slc V hMv).1 (slc V hMv).2 ((cells_cvs hC).on hb) hn hTb (fun X hX => hk2 X (hb.trans (hX.mono hb.size))) (fun i hi X kv hX => hp2 i hi X kv (hb.trans (hX.mono hb.size)))
  · unfold z0 at hm
    split at hm
    · obtain ⟨q1, q2⟩ := fr_is hm
      have q3 := ft_E (E := EE) (T := TT) (A := (wAll (esL wn nu lw t))) (i := fr (ft EE TT (wAll (esL wn nu lw t))) n m) (by rw [q2]; decide)
      show CC (fr (ft EE TT (wAll (esL wn nu lw t))) n m) j < 256
      rw [← e3]
      exact peC_lt ((e1 _).trans q3) (hC.cell _ q1).bytes j
    · omega
  · subst z3
    rw [hky, e1 0] at z4
    have hE : (sfE m q ep) = 0 := (if_pos z1).trans z2
    have hF : (ft EE TT (wAll (esL wn nu lw t))) 0 = 0 := ft_0 z4
    rw [hE]
    exact ⟨rfl, rfl, by show cn (ft EE TT (wAll (esL wn nu lw t))) 0 1 = 1; rw [cn_y hF]; rfl⟩
/-- The laws' Batch, its cells. -/
def jC (mv : Value) (q : Cg) (nw : Int) (ev : Value) (ro ep le : Int) (cvv : Value) : Array Value := #[mv, .int .i64 q.l, .int .i64 q.s, .int .i64 q.r, .int .i64 q.u, .int .i64 q.d, .int .i64 q.o, .int .i64 q.c, .int .i64 q.w, .int .i64 q.k, .int .i64 q.h, .int .i64 nw, ev, .int .i64 ro, .int .i64 ep, .int .i64 le, cvv]
section
variable {o : Oper} {a : Act} {w : World} {mv ev cvv : Value} {q : Cg} {nw ro ep le : Int}
theorem execBxJ {x : Operand} (h1 : ∃ g n c, mv = .slice g n c) (h2 : ∃ g n c, ev = .slice g n c) (h3 : ∃ g n c, cvv = .slice g n c) (ho : o.op = .box 34 x) (hx : a.eval x = .agg (jC mv q nw ev ro ep le cvv)) : (execOp a.eval o).run Tryz.prog w = .ok (.value (.pointer (some ⟨w.heap.size, 0, none⟩))) (w.alloc (.cells (jC mv q nw ev ro ep le cvv) 34)) := by
  obtain ⟨g, n, c, rfl⟩ := h1
  obtain ⟨g2, n2, c2, rfl⟩ := h2
  obtain ⟨g3, n3, c3, rfl⟩ := h3
  unfold execOp
  simp only [ho, hx]
  simp [go_sem, jC]
theorem execFJ0 {x : Operand} {b : Nat} (ho : o.op = .fieldAddr 34 x 0) (hx : a.eval x = .pointer (some ⟨b, 0, none⟩)) : (execOp a.eval o).run Tryz.prog w = .ok (.value (.pointer (some ⟨b, 0, none⟩))) w := by
  unfold execOp
  simp only [ho, hx]
  simp [go_sem]
theorem execFJ1 {x : Operand} {b : Nat} (ho : o.op = .fieldAddr 34 x 1) (hx : a.eval x = .pointer (some ⟨b, 0, none⟩)) : (execOp a.eval o).run Tryz.prog w = .ok (.value (.pointer (some ⟨b, 11, none⟩))) w := by
  unfold execOp
  simp only [ho, hx]
  simp [go_sem]
theorem execFJ2 {x : Operand} {b : Nat} (ho : o.op = .fieldAddr 34 x 2) (hx : a.eval x = .pointer (some ⟨b, 0, none⟩)) : (execOp a.eval o).run Tryz.prog w = .ok (.value (.pointer (some ⟨b, 13, none⟩))) w := by
  unfold execOp
  simp only [ho, hx]
  simp [go_sem]
theorem execLJC {x : Operand} {g : Nat} (ho : o.op = .load 24 x) (hx : a.eval x = .pointer (some ⟨g, 0, none⟩)) (h : w.heap[g]? = some (.cells (jC mv q nw ev ro ep le cvv) 34)) : (execOp a.eval o).run Tryz.prog w = .ok (.value (.agg (cfC mv q))) w := by
  have h := Aes.execLoadMid (P := Tryz.prog) (cs := [mv, .int .i64 q.l, .int .i64 q.s, .int .i64 q.r, .int .i64 q.u, .int .i64 q.d, .int .i64 q.o, .int .i64 q.c, .int .i64 q.w, .int .i64 q.k, .int .i64 q.h]) ho hx (fun j z hv => by
    rw [cell_of_row _ _ _ _ _ _ h]
    match j, hv with
    | 0, hv => exact hv
    | 1, hv => exact hv
    | 2, hv => exact hv
    | 3, hv => exact hv
    | 4, hv => exact hv
    | 5, hv => exact hv
    | 6, hv => exact hv
    | 7, hv => exact hv
    | 8, hv => exact hv
    | 9, hv => exact hv
    | 10, hv => exact hv
    | _ + 11, hv => simp at hv) Tryz.underlying24 rfl (by kernel_rfl)
  exact h
theorem execLJW {x : Operand} {g : Nat} (ho : o.op = .load 27 x) (hx : a.eval x = .pointer (some ⟨g, 11, none⟩)) (h : w.heap[g]? = some (.cells (jC mv q nw ev ro ep le cvv) 34)) : (execOp a.eval o).run Tryz.prog w = .ok (.value (.agg (wC nw ev))) w := by
  have h := Aes.execLoadMid (P := Tryz.prog) (cs := [.int .i64 nw, ev]) ho hx (fun j z hv => by
    rw [cell_of_row _ _ _ _ _ _ h]
    match j, hv with
    | 0, hv => exact hv
    | 1, hv => exact hv
    | _ + 2, hv => simp at hv) Tryz.underlying27 rfl (by kernel_rfl)
  exact h
theorem execLJB {x : Operand} {g : Nat} (ho : o.op = .load 32 x) (hx : a.eval x = .pointer (some ⟨g, 13, none⟩)) (h : w.heap[g]? = some (.cells (jC mv q nw ev ro ep le cvv) 34)) : (execOp a.eval o).run Tryz.prog w = .ok (.value (.agg (btC ro ep le cvv))) w := by
  have h := Aes.execLoadMid (P := Tryz.prog) (cs := [.int .i64 ro, .int .i64 ep, .int .i64 le, cvv]) ho hx (fun j z hv => by
    rw [cell_of_row _ _ _ _ _ _ h]
    match j, hv with
    | 0, hv => exact hv
    | 1, hv => exact hv
    | 2, hv => exact hv
    | 3, hv => exact hv
    | _ + 4, hv => simp at hv) Tryz.underlying32 rfl (by kernel_rfl)
  exact h
theorem execFBj {x : Operand} {b f : Nat} (ho : o.op = .fieldAddr 32 x 1) (hx : a.eval x = .pointer (some ⟨b, f, none⟩)) : (execOp a.eval o).run Tryz.prog w = .ok (.value (.pointer (some ⟨b, f + 3, none⟩))) w := by
  unfold execOp
  simp only [ho, hx]
  simp [go_sem]
theorem execBsL1 {x : Operand} {r : Value} (ho : o.op = .buildSlice 30 1 #[(0, x)]) (hx : a.eval x = r) (hr : ∃ g n c, r = .slice g n c) : (execOp a.eval o).run Tryz.prog w = .ok (.value (.slice (some ⟨w.heap.size, 0, none⟩) 1 1)) (w.alloc (.cells #[r] 22)) := by
  obtain ⟨g, n, c, rfl⟩ := hr
  unfold execOp
  simp only [ho, List.map_toArray, List.map_cons, List.map_nil, hx]
  simp [go_sem]
theorem execBdW (ho : o.op = .build 27 #[]) : (execOp a.eval o).run Tryz.prog w = .ok (.value (.agg (wC 0 (.slice none 0 0)))) w := by
  unfold execOp
  simp only [ho, List.map_toArray, List.map_nil]
  kernel_rfl
theorem execBdB {x : Operand} {g n c : Nat} (ho : o.op = .build 32 #[(1, x)]) (hx : a.eval x = .slice (some ⟨g, 0, none⟩) n c) : (execOp a.eval o).run Tryz.prog w = .ok (.value (.agg (btC 0 0 0 (.slice (some ⟨g, 0, none⟩) n c)))) w := by
  unfold execOp
  simp only [ho, List.map_toArray, List.map_cons, List.map_nil, hx]
  simp [go_sem, btC]
theorem execNeRp {x y : Operand} {b1 b2 b3 : Nat} (ho : o.op = .binOp .neq 37 x y 37) (hx : a.eval x = .agg (rpC b1 b2 b3)) (hy : a.eval y = .agg (rpC b1 b2 b3)) : (execOp a.eval o).run Tryz.prog w = .ok (.value (.bool false)) w := by
  unfold execOp
  simp only [ho, hx, hy]
  simp [go_sem, rpC]
theorem execNeSt {x y : Operand} {s : ByteArray} (ho : o.op = .binOp .neq 9 x y 9) (hx : a.eval x = .string s) (hy : a.eval y = .string s) : (execOp a.eval o).run Tryz.prog w = .ok (.value (.bool false)) w := by
  unfold execOp
  simp only [ho, hx, hy]
  simp [go_sem]
theorem execFP0 {x : Operand} {b f : Nat} (ho : o.op = .fieldAddr 46 x 0) (hx : a.eval x = .pointer (some ⟨b, f, none⟩)) : (execOp a.eval o).run Tryz.prog w = .ok (.value (.pointer (some ⟨b, f, none⟩))) w := by
  unfold execOp
  simp only [ho, hx]
  simp [go_sem]
end
theorem eqB_self (f : Nat → Nat) : eqB 16 f f = true := by unfold eqB; rw [List.all_eq_true]; intro x _; simp
/-- The first call of the law: one cell that is none. -/
theorem sift_first (g h : Nat) (V : World) (hG : Glob V) (hg : V.heap[g]? = some (.cells (bA 32 fun _ => 0) 5)) (hh : V.heap[h]? = some (.cells #[.slice none 0 0] 22)) : Calls Tryz.prog 4 #[.agg (cfC (.slice (some ⟨g, 0, none⟩) 32 32) qp), .agg (wC 0 (.slice none 0 0)), .agg (btC 0 0 0 (.slice (some ⟨h, 0, none⟩) 1 1))] V fun e w' => (∃ v A2, e = .returned (.tuple #[v, .agg (rpC 1 1 A2), .int .i64 ((0 : Nat) : Int)])) ∧ Below V.heap.size V w' := by
  have s0 : SliceN V (.slice (some ⟨g, 0, none⟩) 32 32) 32 (fun _ => 0) := ⟨⟨_, _, rfl, Nat.le_refl _, by omega, fun _ => ⟨g, 0, rfl, (Array.getElem?_eq_some_iff.1 hg).1, fun j hj => by rw [cell_of_row _ _ _ _ _ _ hg, Nat.zero_add]; exact bA_at 32 _ hj⟩⟩, fun _ _ => by decide⟩
  have hC : Oni.Cells V (.slice (some ⟨h, 0, none⟩) 1 1) 1 (fun _ => .slice none 0 0) (fun _ => 0) (fun _ _ => 0) := ⟨⟨_, _, rfl, Nat.le_refl _, by omega, fun _ => ⟨h, 0, rfl, (Array.getElem?_eq_some_iff.1 hh).1, fun i hi => by
    obtain rfl : i = 0 := by omega
    rw [cell_of_row _ _ _ _ _ _ hh]; rfl⟩⟩, fun _ _ => ⟨⟨_, _, rfl, Nat.le_refl _, by omega, fun z => absurd z (Nat.lt_irrefl _)⟩, fun j hj => absurd hj (Nat.not_lt_zero j)⟩, fun _ _ l cc e => by injection e with _ _ e3; exact e3.symm, fun _ _ => Nat.zero_le _⟩
  obtain ⟨E, A0, A1, A2, K, r, c', h1, _, _, _, _, h5⟩ := both21 _ 32 _ qp 0 _ 0 _ _ _ _ 0 0 0 _ 1 _ _ _ V hG s0 (wd0 V) hC (by omega)
  obtain ⟨rfl, rfl, rfl⟩ := h5 (by decide) (by decide) rfl (by
    unfold peE
    rw [if_neg (by decide), if_pos (by decide)]
    decide)
  exact (h1 V (Below.refl _ _)).mono fun e w' ⟨⟨v, cw, he, _⟩, hb⟩ => ⟨⟨v, A2, he⟩, hb⟩
set_option maxRecDepth 100000 in
set_option maxHeartbeats 4000000 in
/-- RoundSifts. -/
theorem sifts21 (mv : Value) (m : Nat) (kf : Nat → Nat) (q : Cg) (nw : Int) (ev : Value) (wn : Nat) (nu : Nat → Int) (tw : Nat → Value) (lw : Nat → Nat) (t : Nat → Nat → Nat → Nat) (ro ep le : Int) (cvv : Value) (n : Nat) (xv : Nat → Value) (ln : Nat → Nat) (c : Nat → Nat → Nat) (V : World) (hG : Glob V) (hMv : SliceN V mv m kf) (hW : Wd V nw ev wn nu tw lw t) (hC : Oni.Cells V cvv n xv ln c) :
    Calls Tryz.prog 3 #[.agg (jC mv q nw ev ro ep le cvv)] V fun e w' => e = .returned (.bool true) ∧ Below V.heap.size V w' := by
  have hm := (slc V hMv).1
  have hmv := (slc V hMv).2
  have hev : ∃ g n c, ev = .slice g n c := by obtain ⟨g, c, e, _⟩ := hW.eps.shape; exact ⟨g, wn, c, e⟩
  have hcv : ∃ g n c, cvv = .slice g n c := by obtain ⟨g, c, e, _⟩ := hC.shape; exact ⟨g, n, c, e⟩
  go_enter Tryz.func3, Tryz.ntmps3
  refine wo_ 106 [(0, .agg (jC mv q nw ev ro ep le cvv))] ?_
  rintro a A ⟨t0, -⟩
  have BW : Below V.heap.size V V := Below.refl _ _
  have BB := BW
  refine wp_seq ?_
  obtain ⟨g1, egg1⟩ : ∃ z_ : Nat, V.heap.size = z_ := ⟨_, rfl⟩
  refine wi_ A (h1_ t0) (rs_ 0 (fun a ee => ?_))
  refine stepV rfl rfl (execBxJ hm hev hcv rfl (ee _)) ⟨.pointer (some ⟨g1, 0, none⟩), ⟨_, rfl, by subst egg1; rfl⟩, fun X0 hX => ?_⟩
  have bQ : Below V.heap.size V X0 := by subst hX egg1; exact (belNew V _)
  have Fg1 : (X0.heap[g1]? = some (.cells (jC mv q nw ev ro ep le cvv) 34)) := by subst hX egg1; exact heapNew V _
  replace BB := BB.trans (bQ.mono BB.size)
  clear bQ hX egg1 ee a
  refine rg_ [(1, .pointer (some ⟨g1, 0, none⟩))] ?_
  rintro a A ⟨t1, -⟩
  refine wp_seq ?_
  refine wi_ A (h1_ t1) (rc_ 0 (plain21 X0) fun e X1_1 hh => ?_)
  obtain ⟨⟨gp, he, _, hg_⟩, hb⟩ := hh
  refine ⟨_, he, ?_⟩
  have bQ : Below X0.heap.size X0 X1_1 := hb
  have Fgp : (X1_1.heap[gp]? = some (.cells (bA 32 fun _ => 0) 5)) := hg_
  replace Fg1 := (on9 Fg1 bQ)
  replace BB := BB.trans (bQ.mono BB.size)
  clear bQ
  obtain ⟨g14, egg14⟩ : ∃ z_ : Nat, X1_1.heap.size = z_ := ⟨_, rfl⟩
  refine rv_ 1 (.agg (wC 0 (.slice none 0 0))) (fun a ee => execBdW rfl) (rs_ 2 (fun a ee => ?_))
  refine stepV rfl rfl (execBsL1 rfl rfl ⟨_, _, _, rfl⟩) ⟨.slice (some ⟨g14, 0, none⟩) 1 1, ⟨_, rfl, by subst egg14; rfl⟩, fun X1_2 hX => ?_⟩
  have bQ : Below X1_1.heap.size X1_1 X1_2 := by subst hX egg14; exact (belNew X1_1 _)
  have Fg14 : (X1_2.heap[g14]? = some (.cells #[.slice none 0 0] 22)) := by subst hX egg14; exact heapNew X1_1 _
  replace Fg1 := (on9 Fg1 bQ)
  replace Fgp := (on9 Fgp bQ)
  replace BB := BB.trans (bQ.mono BB.size)
  clear bQ hX egg14 ee a
  refine rv_ 3 (.agg (btC 0 0 0 (.slice (some ⟨g14, 0, none⟩) 1 1))) (fun a ee => execBdB rfl (ee _)) (rc_ 4 (sift_first gp g14 X1_2 (hG.below BB hG.sz) Fgp Fg14) fun e X1_3 hh => ?_)
  obtain ⟨⟨v0, A9, he⟩, hb⟩ := hh
  refine ⟨_, he, ?_⟩
  have bQ : Below X1_2.heap.size X1_2 X1_3 := hb
  replace Fg1 := (on9 Fg1 bQ)
  replace Fgp := (on9 Fgp bQ)
  replace Fg14 := (on9 Fg14 bQ)
  replace BB := BB.trans (bQ.mono BB.size)
  clear bQ
  obtain ⟨g4, egg4⟩ : ∃ z_ : Nat, X1_3.heap.size = z_ := ⟨_, rfl⟩
  refine rs_ 9 (fun a ee => ?_)
  refine stepV rfl rfl (execAlR rfl) ⟨.pointer (some ⟨g4, 0, none⟩), ⟨_, rfl, by subst egg4; rfl⟩, fun X1_4 hX => ?_⟩
  have bQ : Below X1_3.heap.size X1_3 X1_4 := by subst hX egg4; exact (belNew X1_3 _)
  have Fg4 : (X1_4.heap[g4]? = some (.cells (rpC 0 0 0) 37)) := by subst hX egg4; exact heapNew X1_3 _
  have Fgeg4 : (V.heap.size ≤ g4) := by subst hX egg4; exact (BB).size
  replace Fg1 := (on9 Fg1 bQ)
  replace Fgp := (on9 Fgp bQ)
  replace Fg14 := (on9 Fg14 bQ)
  replace BB := BB.trans (bQ.mono BB.size)
  clear bQ hX egg4 ee a
  refine rs_ 11 (fun a ee => ?_)
  refine stepS rfl rfl (execStRp rfl (ee _) (ee _) Fg4) ⟨_, ⟨_, rfl, rfl⟩, fun X1 hX => ?_⟩
  obtain ⟨BB, Fg1, Fgp, Fg14, FR4⟩ : Below V.heap.size V X1 ∧ (X1.heap[g1]? = some (.cells (jC mv q nw ev ro ep le cvv) 34)) ∧ (X1.heap[gp]? = some (.cells (bA 32 fun _ => 0) 5)) ∧ (X1.heap[g14]? = some (.cells #[.slice none 0 0] 22)) ∧ (X1.heap[g4]? = some (.cells (rpC 1 1 A9) 37)) := by subst hX; exact ⟨below4 BB Fgeg4 _, (by rw [setRow_other _ _ _ _ (ne_type Fg4 Fg1 (by decide))]; exact Fg1), (by rw [setRow_other _ _ _ _ (ne_type Fg4 Fgp (by decide))]; exact Fgp), (by rw [setRow_other _ _ _ _ (ne_type Fg4 Fg14 (by decide))]; exact Fg14), setRow_heap _ _ _ _ _ _ Fg4⟩
  clear Fg4 hX ee a
  refine rf_ [(4, .pointer (some ⟨g4, 0, none⟩)), (5, .int .i64 ((0 : Nat) : Int))] (h1_ t1) ?_
  rintro a A ⟨t4, t5, -⟩ ⟨t1, -⟩
  refine wp_seq ?_
  refine wp_seq ?_
  refine wi_ A (h3_ t1 t4 t5) (rv_ 1 (.bool false) (fun a ee => execDec (execNeE (p := 0) (q := 0) rfl (ee _) rfl) (decide_eq_false (by decide))) (rv_ 3 (.pointer (some ⟨g4, 0, none⟩)) (fun a ee => execFR (Or.inl rfl) rfl (ee _)) (rv_ 4 (.int .i64 ((1 : Nat) : Int)) (fun a ee => execL1 rfl (Or.inl rfl) (ee _) (row_1 FR4 rfl)) (rv_ 5 (.bool false) (fun a ee => execDec (exIneq3 (p := ((1 : Nat) : Int)) (q := 1) rfl (ee _) rfl) (decide_eq_false (by decide))) (rv_ 8 (.pointer (some ⟨g4, 1, none⟩)) (fun a ee => execFR (Or.inr (Or.inl rfl)) rfl (ee _)) (rv_ 9 (.int .i64 ((1 : Nat) : Int)) (fun a ee => execL1 rfl (Or.inl rfl) (ee _) (row_1 FR4 rfl)) (rv_ 10 (.bool false) (fun a ee => execDec (exIneq3 (p := ((1 : Nat) : Int)) (q := 1) rfl (ee _) rfl) (decide_eq_false (by decide))) (rf_ [(31, .bool false)] (h3_ t1 t4 t5) ?_))))))))
  rintro a A ⟨t31, -⟩ ⟨t1, t4, t5, -⟩
  refine wp_cond_false t31 ?_
  refine wp_skip ?_
  clear t31
  refine wp_seq ?_
  refine wp_seq ?_
  by_cases hn2 : n > 2000
  · refine wi_ A (h3_ t1 t4 t5) (rv_ 0 (.pointer (some ⟨g1, 13, none⟩)) (fun a ee => execFJ2 rfl (ee _)) (rv_ 1 (.pointer (some ⟨g1, 13 + 3, none⟩)) (fun a ee => execFBj rfl (ee _)) (rv_ 2 (cvv) (fun a ee => execLL rfl (ee _) (row_1 Fg1 rfl)) (rv_ 3 (.int .i64 ((n : Nat) : Int)) (fun a ee => execLnCl (len := n) rfl (ee _) (by obtain ⟨g_, c_, e_, _⟩ := hC.shape; exact ⟨g_, c_, e_⟩)) (rv_ 4 (.bool true) (fun a ee => execDec (exIgtr3 (p := ((n : Nat) : Int)) (q := 2000) rfl (ee _) rfl) (decide_eq_true (by omega))) (rf_ [(36, .bool true)] (h1_ t1) ?_))))))
    rintro a A ⟨t36, -⟩ ⟨t1, -⟩
    refine wp_cond_true t36 ?_
    clear t36
    refine wp_seq ?_
    refine wi_ A (h1_ t1) (rg_ [(2, .bool true)] ?_)
    rintro a A ⟨t2, -⟩
    refine wp_ret ?_
    repeat (first | with_reducible refine ret_in ?_ | with_reducible refine ret_then ?_)
    refine bodyPost_ret (results_tmp rfl _ _ _) A.2 ⟨?_, BB⟩
    show Ending.returned (a.eval (.tmp 2)) = _
    rw [t2]
  refine wi_ A (h3_ t1 t4 t5) (rv_ 0 (.pointer (some ⟨g1, 13, none⟩)) (fun a ee => execFJ2 rfl (ee _)) (rv_ 1 (.pointer (some ⟨g1, 13 + 3, none⟩)) (fun a ee => execFBj rfl (ee _)) (rv_ 2 (cvv) (fun a ee => execLL rfl (ee _) (row_1 Fg1 rfl)) (rv_ 3 (.int .i64 ((n : Nat) : Int)) (fun a ee => execLnCl (len := n) rfl (ee _) (by obtain ⟨g_, c_, e_, _⟩ := hC.shape; exact ⟨g_, c_, e_⟩)) (rv_ 4 (.bool false) (fun a ee => execDec (exIgtr3 (p := ((n : Nat) : Int)) (q := 2000) rfl (ee _) rfl) (decide_eq_false (by omega))) (rf_ [(36, .bool false)] (h2_ t1 t4) ?_))))))
  rintro a A ⟨t36, -⟩ ⟨t1, t4, -⟩
  refine wp_cond_false t36 ?_
  refine wp_skip ?_
  clear t36
  obtain ⟨E, A0, A1, A2, K, r, c', s1, s2, hKn, hr16, hc3, -⟩ := both21 mv m kf q nw ev wn nu tw lw t ro ep le cvv n xv ln c V hG hMv hW hC (by omega)
  refine wp_seq ?_
  refine wi_ A (h2_ t1 t4) (rv_ 0 (.pointer (some ⟨g1, 0, none⟩)) (fun a ee => execFJ0 rfl (ee _)) (rv_ 1 (.agg (cfC mv q)) (fun a ee => execLJC rfl (ee _) Fg1) (rv_ 2 (.pointer (some ⟨g1, 11, none⟩)) (fun a ee => execFJ1 rfl (ee _)) (rv_ 3 (.agg (wC nw ev)) (fun a ee => execLJW rfl (ee _) Fg1) (rv_ 4 (.pointer (some ⟨g1, 13, none⟩)) (fun a ee => execFJ2 rfl (ee _)) (rv_ 5 (.agg (btC ro ep le cvv)) (fun a ee => execLJB rfl (ee _) Fg1) (rc_ 6 (s2 X1 BB) fun e X6_1 hh => ?_)))))))
  obtain ⟨⟨v6, cw6, he, hl_⟩, hb⟩ := hh
  refine ⟨_, he, ?_⟩
  have bQ : Below X1.heap.size X1 X6_1 := hb
  have FL6 : (PeL V.heap.size X6_1 v6 K cw6 r (fun _ => 320) c') := hl_.base (BB).size
  replace Fg1 := (on9 Fg1 bQ)
  replace FR4 := (on9 FR4 bQ)
  replace BB := BB.trans (bQ.mono BB.size)
  clear bQ
  obtain ⟨g7, egg7⟩ : ∃ z_ : Nat, X6_1.heap.size = z_ := ⟨_, rfl⟩
  refine rs_ 11 (fun a ee => ?_)
  refine stepV rfl rfl (execAlR rfl) ⟨.pointer (some ⟨g7, 0, none⟩), ⟨_, rfl, by subst egg7; rfl⟩, fun X6_2 hX => ?_⟩
  have bQ : Below X6_1.heap.size X6_1 X6_2 := by subst hX egg7; exact (belNew X6_1 _)
  have Fg7 : (X6_2.heap[g7]? = some (.cells (rpC 0 0 0) 37)) := by subst hX egg7; exact heapNew X6_1 _
  have Fgeg7 : (V.heap.size ≤ g7) := by subst hX egg7; exact (BB).size
  have Fn74 : (g4 ≠ g7) := by subst hX egg7; exact fun e_ => by have h_ := (Array.getElem?_eq_some_iff.1 FR4).1; rw [e_] at h_; exact Nat.lt_irrefl _ h_
  replace Fg1 := (on9 Fg1 bQ)
  replace FR4 := (on9 FR4 bQ)
  replace FL6 := (FL6.on bQ)
  replace BB := BB.trans (bQ.mono BB.size)
  clear bQ hX egg7 ee a
  refine rs_ 13 (fun a ee => ?_)
  refine stepS rfl rfl (execStRp rfl (ee _) (ee _) Fg7) ⟨_, ⟨_, rfl, rfl⟩, fun X6 hX => ?_⟩
  obtain ⟨BB, Fg1, FR4, FL6, FR7⟩ : Below V.heap.size V X6 ∧ (X6.heap[g1]? = some (.cells (jC mv q nw ev ro ep le cvv) 34)) ∧ (X6.heap[g4]? = some (.cells (rpC 1 1 A9) 37)) ∧ (PeL V.heap.size X6 v6 K cw6 r (fun _ => 320) c') ∧ (X6.heap[g7]? = some (.cells (rpC A0 A1 A2) 37)) := by subst hX; exact ⟨below4 BB Fgeg7 _, (by rw [setRow_other _ _ _ _ (ne_type Fg7 Fg1 (by decide))]; exact Fg1), (by rw [setRow_other _ _ _ _ Fn74]; exact FR4), (FL6.grT (grown_row Fg7) Fg7 (by decide)), setRow_heap _ _ _ _ _ _ Fg7⟩
  clear Fg7 hX ee a
  refine rf_ [(6, v6), (7, .pointer (some ⟨g7, 0, none⟩)), (8, .int .i64 ((E : Nat) : Int))] (h2_ t1 t4) ?_
  rintro a A ⟨t6, t7, t8, -⟩ ⟨t1, t4, -⟩
  refine wp_seq ?_
  refine wi_ A (h5_ t1 t4 t6 t7 t8) (rv_ 0 (.pointer (some ⟨g1, 0, none⟩)) (fun a ee => execFJ0 rfl (ee _)) (rv_ 1 (.agg (cfC mv q)) (fun a ee => execLJC rfl (ee _) Fg1) (rv_ 2 (.pointer (some ⟨g1, 11, none⟩)) (fun a ee => execFJ1 rfl (ee _)) (rv_ 3 (.agg (wC nw ev)) (fun a ee => execLJW rfl (ee _) Fg1) (rv_ 4 (.pointer (some ⟨g1, 13, none⟩)) (fun a ee => execFJ2 rfl (ee _)) (rv_ 5 (.agg (btC ro ep le cvv)) (fun a ee => execLJB rfl (ee _) Fg1) (rc_ 6 (s1 X6 BB) fun e X7_1 hh => ?_)))))))
  obtain ⟨⟨v9, cw9, he, hl_⟩, hb⟩ := hh
  refine ⟨_, he, ?_⟩
  have bQ : Below X6.heap.size X6 X7_1 := hb
  have FL9 : (PeL V.heap.size X7_1 v9 K cw9 r (fun _ => 320) c') := hl_.base (BB).size
  replace Fg1 := (on9 Fg1 bQ)
  replace FR4 := (on9 FR4 bQ)
  replace FL6 := (FL6.on bQ)
  replace FR7 := (on9 FR7 bQ)
  replace BB := BB.trans (bQ.mono BB.size)
  clear bQ
  refine rs_ 12 (fun a ee => ?_)
  refine stepS rfl rfl (execStRp rfl (ee _) (ee _) FR4) ⟨_, ⟨_, rfl, rfl⟩, fun X7 hX => ?_⟩
  obtain ⟨BB, Fg1, FL6, FR7, FL9, FS4⟩ : Below V.heap.size V X7 ∧ (X7.heap[g1]? = some (.cells (jC mv q nw ev ro ep le cvv) 34)) ∧ (PeL V.heap.size X7 v6 K cw6 r (fun _ => 320) c') ∧ (X7.heap[g7]? = some (.cells (rpC A0 A1 A2) 37)) ∧ (PeL V.heap.size X7 v9 K cw9 r (fun _ => 320) c') ∧ (X7.heap[g4]? = some (.cells (rpC A0 A1 A2) 37)) := by subst hX; exact ⟨below4 BB Fgeg4 _, (by rw [setRow_other _ _ _ _ (ne_type FR4 Fg1 (by decide))]; exact Fg1), (FL6.grT (grown_row FR4) FR4 (by decide)), (by rw [setRow_other _ _ _ _ (Ne.symm Fn74)]; exact FR7), (FL9.grT (grown_row FR4) FR4 (by decide)), setRow_heap _ _ _ _ _ _ FR4⟩
  clear FR4 hX ee a
  refine rf_ [(5, .int .i64 ((E : Nat) : Int)), (9, v9)] (h4_ t4 t6 t7 t8) ?_
  rintro a A ⟨t5, t9, -⟩ ⟨t4, t6, t7, t8, -⟩
  refine wp_seq ?_
  refine wp_seq ?_
  refine wi_ A (h6_ t4 t5 t6 t7 t8 t9) (rv_ 2 (.bool false) (fun a ee => execDec (exIneq3 (p := ((E : Nat) : Int)) (q := ((E : Nat) : Int)) rfl (ee _) (ee _)) (decide_eq_false (fun z_ => z_ rfl))) (rv_ 4 (.agg (rpC A0 A1 A2)) (fun a ee => execLdRp rfl (ee _) FS4) (rv_ 5 (.agg (rpC A0 A1 A2)) (fun a ee => execLdRp rfl (ee _) FR7) (rv_ 6 (.bool false) (fun a ee => execNeRp rfl (ee _) (ee _)) (rv_ 10 (.int .i64 ((K : Nat) : Int)) (fun a ee => execLnPe (len := K) rfl (ee _) FL9.shp) (rv_ 12 (.int .i64 ((K : Nat) : Int)) (fun a ee => execLnPe (len := K) rfl (ee _) FL6.shp) (rv_ 13 (.bool false) (fun a ee => execDec (exIneq3 (p := ((K : Nat) : Int)) (q := ((K : Nat) : Int)) rfl (ee _) (ee _)) (decide_eq_false (fun z_ => z_ rfl))) (rf_ [(73, .bool false)] (h2_ t6 t9) ?_))))))))
  rintro a A ⟨t73, -⟩ ⟨t6, t9, -⟩
  refine wp_cond_false t73 ?_
  refine wp_skip ?_
  clear t73
  have BV := BB
  clear BB
  have BB : Below X7.heap.size X7 X7 := Below.refl _ _
  refine wp_seq ?_
  refine wp_seq ?_
  refine wi_ A (h2_ t6 t9) (rf_ [(10, .int .i64 ((0 : Nat) : Int))] (h2_ t6 t9) ?_)
  rintro a A ⟨t10, -⟩ ⟨t6, t9, -⟩
  have sl6 : ∀ X, Below X7.heap.size X7 X → ∀ i, i < K → SliceN X (cw6 i) 320 (c' i) := fun X hX i hi => own_slice (ownW_below (FL6.cel i hi) hX) (hc3 i hi)
  have sl9 : ∀ X, Below X7.heap.size X7 X → ∀ i, i < K → SliceN X (cw9 i) 320 (c' i) := fun X hX i hi => own_slice (ownW_below (FL9.cel i hi) hX) (hc3 i hi)
  refine wp_block ?_
  refine wp_loop (fun a W => ∃ (i : Nat), i ≤ K ∧ (a.tmps.size = 106 ∧ a.defers = []) ∧ a.eval (.tmp 6) = v6 ∧ a.eval (.tmp 9) = v9 ∧ a.eval (.tmp 10) = .int .i64 ((i : Nat) : Int) ∧ Below X7.heap.size X7 W) (fun a _ => K - (intOf (a.eval (.tmp 10))).toNat) ⟨0, Nat.zero_le _, A, t6, t9, t10, BB⟩ ?_
  clear A t6 t9 t10 BB a
  rintro a XL11 ⟨i, hi, A, t6, t9, t10, BB⟩
  have esi := t10
  refine wp_seq ?_
  refine wp_seq ?_
  refine wi_ A (h3_ t6 t9 t10) (rv_ 2 (.int .i64 ((K : Nat) : Int)) (fun a ee => execLnPe (len := K) rfl (ee _) FL9.shp) (rv_ 3 (.bool (decide (i < K))) (fun a ee => execLtW (p := i) (q := K) rfl (ee _) (ee _)) (rf_ [(77, .bool (decide (i < K)))] (h3_ t6 t9 t10) ?_)))
  rintro a A ⟨t77, -⟩ ⟨t6, t9, t10, -⟩
  by_cases lti : i < K
  · rw [decide_eq_true lti] at t77
    refine wp_cond_true t77 ?_
    refine wp_skip ?_
    clear t77
    refine wp_seq ?_
    refine wp_block ?_
    obtain ⟨b6, k6, e6, _, hb6, hc6⟩ := FL6.at (by omega)
    obtain ⟨b9, k9, e9, _, hb9, hc9⟩ := FL9.at (by omega)
    refine wp_seq ?_
    refine wj_ [0, 1, 2, 3, 4, 5, 6, 7, 8, 9, 10, 11, 12, 13, 14, 15, 16, 17, 18, 19, 20, 21, 22, 23, 24, 25] [] [4, 5, 10, 11, 18, 23] [] A (h3_ t6 t9 t10) (fun X13 bD => ?_)
    refine dw_ 2 (.pointer (some ⟨b9, i * 17, none⟩)) (fun a X ee => execIxPe (k := i) rfl ((ee _).trans e9) (ee _) lti) (dw_ 3 (.pointer (some ⟨b9, i * 17, none⟩)) (fun a X ee => execFP0 rfl (ee _)) (dv_ 4 (cw9 i) (fun a X ee hb => execL1 rfl (Or.inr (Or.inr rfl)) (ee _) (((cell_below (BB.trans (hb.mono BB.size)) hb9).trans (hc9 i lti 0 (by omega))).trans (pC_0 _ _))) (dv_ 5 (.string (strN (c' i) 320)) (fun a X ee hb => By8.execStr rfl (ee _) (sl9 X (BB.trans (hb.mono BB.size)) i lti)) (dw_ 8 (.pointer (some ⟨b6, i * 17, none⟩)) (fun a X ee => execIxPe (k := i) rfl ((ee _).trans e6) (ee _) lti) (dw_ 9 (.pointer (some ⟨b6, i * 17, none⟩)) (fun a X ee => execFP0 rfl (ee _)) (dv_ 10 (cw6 i) (fun a X ee hb => execL1 rfl (Or.inr (Or.inr rfl)) (ee _) (((cell_below (BB.trans (hb.mono BB.size)) hb6).trans (hc6 i lti 0 (by omega))).trans (pC_0 _ _))) (dv_ 11 (.string (strN (c' i) 320)) (fun a X ee hb => By8.execStr rfl (ee _) (sl6 X (BB.trans (hb.mono BB.size)) i lti)) (dw_ 12 (.bool false) (fun a X ee => execNeSt rfl (ee _) (ee _)) (dw_ 16 (.pointer (some ⟨b9, i * 17, none⟩)) (fun a X ee => execIxPe (k := i) rfl ((ee _).trans e9) (ee _) lti) (dw_ 17 (.pointer (some ⟨b9, i * 17 + 1, none⟩)) (fun a X ee => execFP rfl (ee _)) (dv_ 18 (.agg (bA 16 (r i))) (fun a X ee hb => execLdT rfl (ee _) (fun j_ hj_ => by rw [Nat.add_assoc, cell_below (BB.trans (hb.mono BB.size)) hb9, hc9 i lti (1 + j_) (by omega)]; exact pC_r _ _ hj_)) (dw_ 21 (.pointer (some ⟨b6, i * 17, none⟩)) (fun a X ee => execIxPe (k := i) rfl ((ee _).trans e6) (ee _) lti) (dw_ 22 (.pointer (some ⟨b6, i * 17 + 1, none⟩)) (fun a X ee => execFP rfl (ee _)) (dv_ 23 (.agg (bA 16 (r i))) (fun a X ee hb => execLdT rfl (ee _) (fun j_ hj_ => by rw [Nat.add_assoc, cell_below (BB.trans (hb.mono BB.size)) hb6, hc6 i lti (1 + j_) (by omega)]; exact pC_r _ _ hj_)) (dw_ 24 (.bool false) (fun a X ee => execneq16t rfl (ee _) (ee _) (eqB_self _)) (dz_ [(105, .bool false)] (h3_ t6 t9 t10) ?_))))))))))))))))
    rintro a A ⟨t105, -⟩ ⟨t6, t9, t10, -⟩
    replace BB := BB.trans (bD.mono BB.size)
    clear bD
    refine wp_cond_false t105 ?_
    refine wp_skip ?_
    clear t105
    refine wi_ A (h3_ t6 t9 t10) (rv_ 1 (.int .i64 ((i + 1 : Nat) : Int)) (fun a ee => execAd8 (p := i) (q := 1) rfl (ee _) rfl (by omega)) (rf_ [(10, .int .i64 ((i + 1 : Nat) : Int))] (h2_ t6 t9) ?_))
    rintro a A ⟨t10, -⟩ ⟨t6, t9, -⟩
    exact ⟨⟨i + 1, lti, A, t6, t9, t10, BB⟩, by show K - (intOf (a.eval (.tmp 10))).toNat < K - (intOf (Act.eval _ (.tmp 10))).toNat; rw [t10, esi]; show K - (i + 1) < K - i; omega⟩
  · rw [decide_eq_false lti] at t77
    refine wp_cond_false t77 ?_
    refine wp_exit ?_
    first | with_reducible refine exit_in ?_ | with_reducible refine exit_then (exit_in ?_) | with_reducible refine exit_then (exit_then (exit_in ?_)) | refine exit_in ?_ | refine exit_then (exit_in ?_) | refine exit_then (exit_then (exit_in ?_))
    clear t77 esi
    replace BB := BV.trans (BB.mono BV.size)
    refine wp_seq ?_
    refine wi_ A h0_ (rg_ [(2, .bool true)] ?_)
    rintro a A ⟨t2, -⟩
    refine wp_ret ?_
    refine bodyPost_ret (results_tmp rfl _ _ _) A.2 ⟨?_, BB⟩
    show Ending.returned (a.eval (.tmp 2)) = _
    rw [t2]
end Go.Proofs.YtejhbfbnljioeaaGreatDoor.Rnd
