import Derived.Test.YtjckkdjldnobmaaGreatDoorD2c
namespace Go.Proofs.YtjckkdjldnobmaaGreatDoor.Frm
open Go.RowKit Gf8 Aes By8 Cel
/- The reference's Judge. -/

/-- The cells that have been read: a list of k rows of one's own. -/
structure CL (B k : Nat) (x : Nat → Value) (p : Nat → Nat) (cv : Value) (W : World) : Prop where
  own : W.ownsRow B 24 1 cv k (xsL x 0 k)
  fam : Fam B k x (fun _ => 320) (fun i => cellB p i) W
theorem CL.on {B k : Nat} {x : Nat → Value} {p : Nat → Nat} {cv : Value} {W W' : World} (h : CL B k x p cv W) (hb : Below W.heap.size W W') : CL B k x p cv W' := ⟨ownL_below h.own hb, h.fam.on hb⟩
theorem ownL_row {W : World} {B n R : Nat} {v : Value} {xs : List Value} (h : W.ownsRow B 24 1 v n xs) {c : Array Value} {t : TypeId} (hr : W.heap[R]? = some (.cells c t)) (ht : t ≠ 24) (d : Array Value) : (W.setRow R d).ownsRow B 24 1 v n xs := by
  refine ⟨h.1, ?_⟩
  rcases h.2 with h | ⟨g, cap, cur, e, hB, hg, h1, h2, h3, h4⟩
  · exact Or.inl h
  · have hne : g ≠ R := fun q => by
      rw [q, hr] at hg
      have : t = 24 := by simpa using congrArg (fun x => match x with | some (Obj.cells _ t _) => t | _ => 0) hg
      exact ht this
    exact Or.inr ⟨g, cap, cur, e, hB, by rw [setRow_other _ _ _ _ (by omega)]; exact hg, h1, h2, h3, h4⟩
theorem CL.row {B k : Nat} {x : Nat → Value} {p : Nat → Nat} {cv : Value} {W : World} (h : CL B k x p cv W) {R : Nat} {c : Array Value} (hr : W.heap[R]? = some (.cells c 105)) (d : Array Value) : CL B k x p cv (W.setRow R d) :=
  ⟨ownL_row h.own hr (by decide) d, ⟨fun t ht => ownsRow_row (h.fam.rows t ht) hr (by decide) d, h.fam.dis⟩⟩
theorem CL.none (B : Nat) (x : Nat → Value) (p : Nat → Nat) (W : World) : CL B 0 x p (.slice none 0 0) W := ⟨World.ownsRow_nil _ _ _ _, Fam.none _ _ _ _ _⟩
theorem CL.one {B k : Nat} {x : Nat → Value} {p : Nat → Nat} {cv : Value} {W : World} (h : CL B k x p cv W) : cv.oneCell' = true := by
  rcases h.own.2 with ⟨rfl, _⟩ | ⟨g, cap, cur, rfl, _⟩ <;> rfl
/-- The six ends. -/
def endsA : Array Value := #[.int .i64 4, .int .i64 5, .int .i64 6, .int .i64 8, .int .i64 16, .int .i64 24]
theorem ends_at {f : Nat} (h : f < 6) : endsA[f]? = some (.int .i64 (startN (f + 1) : Nat)) := by
  match f, h with
  | 0, _ => rfl
  | 1, _ => rfl
  | 2, _ => rfl
  | 3, _ => rfl
  | 4, _ => rfl
  | 5, _ => rfl
  | n + 6, h => omega
theorem startN_le (f : Nat) : startN f ≤ 24 := by
  unfold startN
  split <;> omega
theorem wrongN_le (p : Nat → Nat) (f : Nat) : wrongN p f ≤ 63 := by
  unfold wrongN
  split <;> (try unfold e60) <;> (try unfold e61) <;> split <;> omega

section
variable {o : Oper} {a : Act} {w : World}
theorem execHdr {x y z : Operand} {p q r : Int} (ho : o.op = .build 52 #[(0, x), (1, y), (2, z)]) (hx : a.eval x = .int .i64 p) (hy : a.eval y = .int .i64 q) (hz : a.eval z = .int .i64 r) : (execOp a.eval o).run Tryz.prog w = .ok (.value (.agg #[.int .i64 p, .int .i64 q, .int .i64 r])) w := by
  unfold execOp
  simp only [ho, List.map_toArray, List.map_cons, List.map_nil, hx, hy, hz]
  simp [go_sem]
theorem execU8I {x : Operand} {p : Nat} (ho : o.op = .convert 5 3 x) (hx : a.eval x = .int .u8 p) (h : p < 256) : (execOp a.eval o).run Tryz.prog w = .ok (.value (.int .i64 (p : Int))) w := by
  unfold execOp
  simp only [ho, hx]
  simp [go_sem]
  simp [IntKind.wrap, IntKind.bits, IntKind.signed]
  omega
theorem execStH {x y : Operand} {g : Nat} {hd : Bool} {r0 e0 l0 rd ep lf : Int} {cv : Value} {pl er : Int} {t : TypeId} (ho : o.op = .store 52 x y) (hx : a.eval x = .pointer (some ⟨g, 1, none⟩)) (hy : a.eval y = .agg #[.int .i64 rd, .int .i64 ep, .int .i64 lf]) (hg : w.heap[g]? = some (.cells (jC hd r0 e0 l0 cv pl er) t)) :
    (execOp a.eval o).run Tryz.prog w = .ok .skip (w.setRow g (jC hd rd ep lf cv pl er)) :=
  execStMid ho hx hy hg (by show 1 + 3 ≤ 7; decide) (by kernel_rfl) (by simp [Value.oneCell'])
theorem execFldH {x : Operand} {g : Nat} (ho : o.op = .fieldAddr 105 x 1) (hx : a.eval x = .pointer (some ⟨g, 0, none⟩)) : (execOp a.eval o).run Tryz.prog w = .ok (.value (.pointer (some ⟨g, 1, none⟩))) w := by
  unfold execOp
  simp only [ho, hx]
  simp [go_sem]
theorem execFldC {x : Operand} {g : Nat} (ho : o.op = .fieldAddr 105 x 2) (hx : a.eval x = .pointer (some ⟨g, 0, none⟩)) : (execOp a.eval o).run Tryz.prog w = .ok (.value (.pointer (some ⟨g, 4, none⟩))) w := by
  unfold execOp
  simp only [ho, hx]
  simp [go_sem]
theorem execLdC {y : Operand} {b f : Nat} {v : Value} (ho : o.op = .load 22 y) (hx : a.eval y = .pointer (some ⟨b, f, none⟩)) (hc : w.cell? ⟨b, f, none⟩ = some v) : (execOp a.eval o).run Tryz.prog w = .ok (.value v) w := by
  unfold execOp
  simp only [ho, hx]
  simp [go_sem, hc]
theorem execBs1 {x : Operand} {r : Value} (ho : o.op = .buildSlice 22 1 #[(0, x)]) (hx : a.eval x = r) (hr : ∃ g n c, r = .slice g n c) : (execOp a.eval o).run Tryz.prog w = .ok (.value (.slice (some ⟨w.heap.size, 0, none⟩) 1 1)) (w.alloc (.cells #[r] 24)) := by
  obtain ⟨g, n, c, rfl⟩ := hr
  unfold execOp
  simp only [ho, List.map_toArray, List.map_cons, List.map_nil, hx]
  simp [go_sem]
end
theorem ownL_ne {W : World} {B n R : Nat} {v : Value} {xs : List Value} {c : Array Value} {t : TypeId} (h : W.ownsRow B 24 1 v n xs) (hr : W.heap[R]? = some (.cells c t)) (ht : t ≠ 24) : some R ≠ v.ownBlock := by
  intro e
  obtain ⟨d, hd⟩ := own_typeL h e.symm
  rw [hr] at hd
  exact ht (by simpa using congrArg (fun x => match x with | some (Obj.cells _ t _) => t | _ => 0) hd)
theorem JS.grown {A R J : Nat} {hd : Bool} {rd ep lf : Int} {cv : Value} {pl er : Int} {V W W' : World} (h : JS A R J hd rd ep lf cv pl er V W) {n : Nat} {v : Value} {xs : List Value} (own : W.ownsRow A 24 1 v n xs) (hg : W.grownBy W' v.ownBlock) : JS A R J hd rd ep lf cv pl er V W' := by
  obtain ⟨c, hc, hr⟩ := h.r
  have lr := (Array.getElem?_eq_some_iff.1 hr).1
  have lj := (Array.getElem?_eq_some_iff.1 h.j).1
  exact ⟨⟨c, hc, by rw [hg.block _ lr (ownL_ne own hr (by decide))]; exact hr⟩, by rw [hg.block _ lj (ownL_ne own h.j (by decide))]; exact h.j, h.bel.grown hg (by have := h.aj; omega) (fun k hk => (own.lt k hk).1), h.ne, h.ar, h.aj, h.one⟩
/-- What the header's building yields. -/
def hdV (v : Value) (b off A : Nat) (p : Nat → Nat) (j : Nat) : Value :=
  match j with
  | 0 => v | 1 => .int .i64 (rdN p 8 8) | 2 => v | 3 => .int .i64 (rdN p 16 8) | 4 => v | 5 => .pointer (some ⟨b, off + 5, none⟩) | 6 => .int .u8 (p 5 : Nat) | 7 => .int .i64 (p 5 : Nat)
  | 8 => .agg #[.int .i64 (rdN p 8 8), .int .i64 (rdN p 16 8), .int .i64 (p 5 : Nat)] | _ => .pointer (some ⟨A + 1, 1, none⟩)
/-- What each operation of a cell's taking yields. -/
def ceS (v vs cv : Value) (t A H : Nat) (q : Nat → Nat) (j : Nat) (r : Value) (w : World) : Prop :=
  match j with
  | 0 => r = .pointer (some ⟨A + 1, 4, none⟩) | 1 => r = cv | 2 => r = v | 3 => r = .int .i64 t | 4 => r = .int .i64 (t + 2 : Nat) | 5 => r = .int .i64 t | 6 => r = .int .i64 (t + 2 : Nat) | 7 => r = .int .i64 (t + 2 + 320 : Nat) | 8 => r = vs
  | 9 => w.ownsRow H 5 1 r 320 (bytesL 320 q)
  | _ => ∃ b u, r = .slice (some ⟨b, 0, none⟩) 1 1 ∧ w.heap[b]? = some (.cells #[u] 24) ∧ w.ownsRow H 5 1 u 320 (bytesL 320 q)
theorem ceS_on {v vs cv : Value} {t A H : Nat} {q : Nat → Nat} (j : Nat) (r : Value) (w w' : World) (h : ceS v vs cv t A H q j r w) (hb : Below w.heap.size w w') : ceS v vs cv t A H q j r w' := by
  match j, h with
  | 0, h => exact h
  | 1, h => exact h
  | 2, h => exact h
  | 3, h => exact h
  | 4, h => exact h
  | 5, h => exact h
  | 6, h => exact h
  | 7, h => exact h
  | 8, h => exact h
  | 9, h => exact ownsRow_below (show w.ownsRow H 5 1 r 320 (bytesL 320 q) from h) hb
  | n + 10, h =>
    obtain ⟨b, u, e, hh, own⟩ := (show ∃ b u, r = .slice (some ⟨b, 0, none⟩) 1 1 ∧ w.heap[b]? = some (.cells #[u] 24) ∧ w.ownsRow H 5 1 u 320 (bytesL 320 q) from h)
    exact ⟨b, u, e, by rw [hb.block _ (Array.getElem?_eq_some_iff.1 hh).1]; exact hh, ownsRow_below own hb⟩

set_option maxRecDepth 20000 in
set_option maxHeartbeats 1000000 in
theorem judge_any (p : Nat → Nat) (len : Nat) (v : Value) (V : World) (hv : SliceN V v len p) (hl : len ≤ 140737488351232) :
    Calls Tryz.prog 39 #[v] V fun e w' => ∃ cv x, e = .returned (.agg (jC (headOk p len) (jRound p len) (jEpoch p len) (jLeft p len) cv (jE p len).1 (jE p len).2)) ∧ CL V.heap.size (jK p len) x p cv w' ∧ Below V.heap.size V w' := by
  have HV : Hid (SliceN V v len p) := hv
  obtain ⟨ao, cap, rfl, hc1, hc2, hc3⟩ := id hv.shape
  have ll : (len : Int) ≤ 140737488351232 := by omega
  have z := zeroJ
  obtain ⟨W0, hW0⟩ : ∃ W0, ((V.alloc (.cells (jC false 0 0 0 (.slice none 0 0) 0 0) 105)).alloc (.cells (jC false 0 0 0 (.slice none 0 0) 0 0) 105)).alloc (.cells endsA 3) = W0 := ⟨_, rfl⟩
  have h3 := heap3c V (.cells (jC false 0 0 0 (.slice none 0 0) 0 0) 105) (.cells (jC false 0 0 0 (.slice none 0 0) 0 0) 105) (.cells endsA 3)
  have b3 := below3c V (.cells (jC false 0 0 0 (.slice none 0 0) 0 0) 105) (.cells (jC false 0 0 0 (.slice none 0 0) 0 0) 105) (.cells endsA 3)
  rw [hW0] at h3 b3
  have js0 : JS V.heap.size V.heap.size (V.heap.size + 1) false 0 0 0 (.slice none 0 0) 0 0 V W0 := ⟨⟨_, rfl, h3.1⟩, h3.2.1, b3, by omega, Nat.le_refl _, by omega, rfl⟩
  have HJ : Hid (_) := js0
  have HE : Hid (∀ f, f < 6 → W0.cell? ⟨V.heap.size + 1 + 1, f, none⟩ = some (.int .i64 (startN (f + 1) : Nat))) := fun f hf => by rw [cell_of_row _ _ _ _ _ _ h3.2.2]; exact ends_at hf
  have HL : Hid (len ≤ 140737488351232) := hl
  have HC : Hid (0 < len → ∃ b off, ao = some ⟨b, off, none⟩ ∧ b < V.heap.size ∧ ∀ j, j < len → V.cell? ⟨b, off + j, none⟩ = some (.int .u8 (p j))) := hc3
  clear hv js0 h3 b3 hl hc3
  go_enter Tryz.func39, Tryz.ntmps39
  go_wp2_with fail
  have HW : Hid (_) := hW0
  clear hW0
  go_loopw [4, 6] (fun x4 x6 W => ∃ f : Nat, f ≤ 6 ∧ x4 = .int .i64 (startN f : Nat) ∧ x6 = .int .i64 f ∧ (∀ g, g < f → startN (g + 1) ≤ len ∧ wrongN p g = 0) ∧ W = W0) (fun _ x6 _ => 6 - (intOf x6).toNat)
  case atStart => exact ⟨0, by omega, rfl, rfl, fun g hg => by omega, HW.out⟩
  case round =>
    obtain ⟨f, hf, rfl, rfl, hg, rfl⟩ := hrel
    clear HW
    by_cases hf6 : f < 6
    · obtain ⟨t, ht⟩ : ∃ t, startN f = t := ⟨_, rfl⟩
      obtain ⟨t', ht'⟩ : ∃ t', startN (f + 1) = t' := ⟨_, rfl⟩
      have ce := HE.out f hf6
      rw [ht'] at ce
      rw [ht]
      have i1 : (f : Int) < 6 := by omega
      have l1 := startN_le f
      have l2 := startN_le (f + 1)
      by_cases hs : len < t'
      · have i2 : (len : Int) < t' := by omega
        have E1 : headOk p len = false := headOk_no p len f hf6 (Or.inl (by omega))
        have E2 : jE p len = (len, 67) := by unfold jE; rw [E1, if_neg (by simp)]; exact headE_short p len f hf6 hg (by omega)
        have K0 : jK p len = 0 := by unfold jK; rw [E1, if_neg (by simp)]
        have Q1 : jRound p len = 0 := by unfold jRound; rw [E1, if_neg (by simp)]
        have Q2 : jEpoch p len = 0 := by unfold jEpoch; rw [E1, if_neg (by simp)]
        have Q3 : jLeft p len = 0 := by unfold jLeft; rw [E1, if_neg (by simp)]
        have QQ : Hid (_ ∧ _ ∧ _ ∧ _ ∧ _ ∧ _) := ⟨E1, E2, K0, Q1, Q2, Q3⟩
        have j1 := HJ.out.set false 0 0 0 (cv' := .slice none 0 0) len 0 rfl
        have j2 := j1.set false 0 0 0 (cv' := .slice none 0 0) len 67 rfl
        have J1 : Hid (_) := j1
        have J2 : Hid (_) := j2
        obtain ⟨c0, s0, r0⟩ := j2.r
        have R0 : Hid (c0.size = 7 ∧ _) := ⟨s0, r0⟩
        clear j1 j2 s0 r0 E1 E2 K0 Q1 Q2 Q3 hs ht ht' hg
        go_wp2_with (first
          | (refine atStore 3 (.tmp 26) (.tmp 25) rfl ?_; go_must (refine wpList_exS rfl (execStV (c' := jC false 0 0 0 (.slice none 0 0) len 0) rfl rfl rfl HJ.out.j (by show 5 < 7; decide) (by kernel_rfl) rfl rfl) ?_))
          | (refine atStore 3 (.tmp 27) (.const (.int .i64 67)) rfl ?_; go_must (refine wpList_exS rfl (execStV (c' := jC false 0 0 0 (.slice none 0 0) len 67) rfl rfl rfl J1.out.j (by show 6 < 7; decide) (by kernel_rfl) rfl rfl) ?_))
          | (refine atLoad 105 (.tmp 3) rfl ?_; go_must (refine wpList_load_row rfl 105 (.tmp 3) rfl (V.heap.size + 1) rfl 105 _ (0, 0) _ J2.out.j Tryz.underlying105 rfl (sizeJ _ _ _ _ _ _ _) ?_; simp only [Act.put, List.setIfInBounds_toArray, List.set_cons_succ, List.set_cons_zero]))
          | (refine atStore 105 (.tmp 2) (.tmp 28) rfl ?_; go_must (refine wpList_store_row rfl 105 (.tmp 2) (.tmp 28) rfl V.heap.size _ rfl rfl 105 _ R0.out.2 (sizeJ _ _ _ _ _ _ _) R0.out.1 (jC_one _ _ _ _ _ _ rfl) ?_)))
        refine bodyPost_ret (v := .agg (jC false 0 0 0 (.slice none 0 0) len 67)) (results_cell_row Tryz.results39 _ _ V.heap.size 105 _ (0, 0) _ rfl J2.out.end.1 Tryz.underlying105 rfl (sizeJ _ _ _ _ _ _ _)) rfl ?_
        obtain ⟨q1, q2, q3, q4, q5, q6⟩ := QQ.out
        rw [q1, q2, q3, q4, q5, q6]
        exact ⟨.slice none 0 0, fun _ => .slice none 0 0, rfl, CL.none _ _ _ _, J2.out.end.2⟩
      · have i2 : ¬ (len : Int) < t' := by omega
        obtain ⟨e, he⟩ : ∃ e, wrongN p f = e := ⟨_, rfl⟩
        have WR := wrong_any p len f (.slice ao len cap) wr (HV.out.on HJ.out.bel) HL.out hf6 (by omega)
        rw [ht, he] at WR
        have le := wrongN_le p f
        rw [he] at le
        by_cases h0 : e = 0
        · subst h0
          have HG : Hid (∀ g, g < f + 1 → startN (g + 1) ≤ len ∧ wrongN p g = 0) := fun g hgf => by
            by_cases eg : g = f
            · rw [eg]; exact ⟨by omega, he⟩
            · exact hg g (by omega)
          have HT' : Hid (startN (f + 1) = t' ∧ f < 6) := ⟨ht', hf6⟩
          clear he hg ht ht'
          go_wp2_with (go_at_call 66; refine WR.mono ?_; rintro e w1 ⟨rfl, rfl⟩)
          go_roundw
          case rel => exact ⟨f + 1, by have := HT'.out; omega, by rw [HT'.out.1], by go_num, HG.out, by first | rfl | trivial⟩
          case measure => have := HT'.out; simp [intOf]; omega
        · have E1 : headOk p len = false := headOk_no p len f hf6 (Or.inr (by omega))
          have E2 : jE p len = (t, e) := by unfold jE; rw [E1, if_neg (by simp), headE_wrong p len f hf6 hg (by omega) (by omega), ht, he]
          have K0 : jK p len = 0 := by unfold jK; rw [E1, if_neg (by simp)]
          have Q1 : jRound p len = 0 := by unfold jRound; rw [E1, if_neg (by simp)]
          have Q2 : jEpoch p len = 0 := by unfold jEpoch; rw [E1, if_neg (by simp)]
          have Q3 : jLeft p len = 0 := by unfold jLeft; rw [E1, if_neg (by simp)]
          have QQ : Hid (_ ∧ _ ∧ _ ∧ _ ∧ _ ∧ _) := ⟨E1, E2, K0, Q1, Q2, Q3⟩
          have ie : ((e : Int) != 0) = true := by simp; omega
          have j1 := HJ.out.set false 0 0 0 (cv' := .slice none 0 0) t 0 rfl
          have j2 := j1.set false 0 0 0 (cv' := .slice none 0 0) t e rfl
          have J1 : Hid (_) := j1
          have J2 : Hid (_) := j2
          obtain ⟨c0, s0, r0⟩ := j2.r
          have R0 : Hid (c0.size = 7 ∧ _) := ⟨s0, r0⟩
          clear j1 j2 s0 r0 E1 E2 K0 Q1 Q2 Q3 hs ht ht' hg he h0
          go_wp2_with (first
            | (go_at_call 66; refine WR.mono ?_; rintro e w1 ⟨rfl, rfl⟩)
            | (refine atStore 3 (.tmp 36) (.tmp 34) rfl ?_; go_must (refine wpList_exS rfl (execStV (c' := jC false 0 0 0 (.slice none 0 0) t 0) rfl rfl rfl HJ.out.j (by show 5 < 7; decide) (by kernel_rfl) rfl rfl) ?_))
            | (refine atStore 3 (.tmp 37) (.tmp 35) rfl ?_; go_must (refine wpList_exS rfl (execStV (c' := jC false 0 0 0 (.slice none 0 0) t e) rfl rfl rfl J1.out.j (by show 6 < 7; decide) (by kernel_rfl) rfl rfl) ?_))
            | (refine atLoad 105 (.tmp 3) rfl ?_; go_must (refine wpList_load_row rfl 105 (.tmp 3) rfl (V.heap.size + 1) rfl 105 _ (0, 0) _ J2.out.j Tryz.underlying105 rfl (sizeJ _ _ _ _ _ _ _) ?_; simp only [Act.put, List.setIfInBounds_toArray, List.set_cons_succ, List.set_cons_zero]))
            | (refine atStore 105 (.tmp 2) (.tmp 38) rfl ?_; go_must (refine wpList_store_row rfl 105 (.tmp 2) (.tmp 38) rfl V.heap.size _ rfl rfl 105 _ R0.out.2 (sizeJ _ _ _ _ _ _ _) R0.out.1 (jC_one _ _ _ _ _ _ rfl) ?_)))
          refine bodyPost_ret (v := .agg (jC false 0 0 0 (.slice none 0 0) t e)) (results_cell_row Tryz.results39 _ _ V.heap.size 105 _ (0, 0) _ rfl J2.out.end.1 Tryz.underlying105 rfl (sizeJ _ _ _ _ _ _ _)) rfl ?_
          obtain ⟨q1, q2, q3, q4, q5, q6⟩ := QQ.out
          rw [q1, q2, q3, q4, q5, q6]
          exact ⟨.slice none 0 0, fun _ => .slice none 0 0, rfl, CL.none _ _ _ _, J2.out.end.2⟩
    · have ef : f = 6 := by omega
      subst ef
      have i1 : ¬ (6 : Int) < 6 := by omega
      have HO : Hid (headOk p len = true) := (headOk_iff p len).2 ⟨(hg 5 (by omega)).1, fun f hf => (hg f hf).2⟩
      have L24 : Hid (24 ≤ len) := (hg 5 (by omega)).1
      have j1 := HJ.out.set true 0 0 0 (cv' := .slice none 0 0) 0 0 rfl
      have J1 : Hid (_) := j1
      clear hg j1
      go_wp2_with (first
          | (refine atStore 4 (.tmp 43) (.const (.bool true)) rfl ?_; go_must (refine wpList_exS rfl (execStV (c' := jC true 0 0 0 (.slice none 0 0) 0 0) rfl rfl rfl HJ.out.j (by show 0 < 7; decide) (by kernel_rfl) rfl rfl) ?_)))
      obtain ⟨b, off, rfl, hb, hc⟩ := HC.out (by have := L24.out; omega)
      have hc5 := hc 5 (by have := L24.out; omega)
      have H5 : Hid (V.cell? ⟨b, off + 5, none⟩ = some (.int .u8 (p 5)) ∧ b < V.heap.size ∧ p 5 < 256) := ⟨hc5, hb, HV.out.bytes 5 (by have := L24.out; omega)⟩
      clear hb hc hc5
      obtain ⟨W1, hW1⟩ : ∃ W1, wr.setRow (V.heap.size + 1) (jC true 0 0 0 (.slice none 0 0) 0 0) = W1 := ⟨_, rfl⟩
      rw [hW1] at J1 ⊢
      clear hW1
      refine wp_region_slotsA 10 107 [44, 45, 46, 47, 48, 49, 50, 51, 52, 53] (fun j r _ => r = hdV (.slice (some ⟨b, off, none⟩) len cap) b off V.heap.size p j) (by kernel_rfl) (by kernel_rfl) (by kernel_rfl) (by decide) rfl rfl (by decide) (by decide) (fun j v w w' h _ => h) ?_ ?_
      · intro j hj a W hB hf hdep
        have l24 := L24.out
        have sv : SliceN W (.slice (some ⟨b, off, none⟩) len cap) len p := (HV.out.on J1.out.bel).on hB
        have h5 := H5.out
        match j, hj with
        | 0, _ => exact stepV rfl rfl (execMvB rfl (hf 0 (by decide))) ⟨_, rfl, rfl, Below.refl _ _⟩
        | 1, _ =>
          exact stepC rfl rfl (execCall3 Tryz.func67 (by kernel_rfl) (by kernel_rfl) rfl (hdep _ rfl 0 rfl) rfl rfl) (read_any p len 8 8 _ W sv HL.out (by omega)) fun e w' h => by
            obtain ⟨rfl, rfl⟩ := h
            exact ⟨_, rfl, _, rfl, rfl, Below.refl _ _⟩
        | 2, _ => exact stepV rfl rfl (execMvB rfl (hf 0 (by decide))) ⟨_, rfl, rfl, Below.refl _ _⟩
        | 3, _ =>
          exact stepC rfl rfl (execCall3 Tryz.func67 (by kernel_rfl) (by kernel_rfl) rfl (hdep _ rfl 2 rfl) rfl rfl) (read_any p len 16 8 _ W sv HL.out (by omega)) fun e w' h => by
            obtain ⟨rfl, rfl⟩ := h
            exact ⟨_, rfl, _, rfl, rfl, Below.refl _ _⟩
        | 4, _ => exact stepV rfl rfl (execMvB rfl (hf 0 (by decide))) ⟨_, rfl, rfl, Below.refl _ _⟩
        | 5, _ => exact stepV rfl rfl (execIdxS (k := 5) rfl (hdep _ rfl 4 rfl) rfl (by omega)) ⟨_, rfl, rfl, Below.refl _ _⟩
        | 6, _ => exact stepV rfl rfl (execLdB rfl (hdep _ rfl 5 rfl) (by rw [cell_below (J1.out.bel.trans (hB.mono J1.out.bel.size)) h5.2.1]; exact h5.1)) ⟨_, rfl, rfl, Below.refl _ _⟩
        | 7, _ => exact stepV rfl rfl (execU8I rfl (hdep _ rfl 6 rfl) h5.2.2) ⟨_, rfl, rfl, Below.refl _ _⟩
        | 8, _ => exact stepV rfl rfl (execHdr rfl (hdep _ rfl 1 rfl) (hdep _ rfl 3 rfl) (hdep _ rfl 7 rfl)) ⟨_, rfl, rfl, Below.refl _ _⟩
        | 9, _ => exact stepV rfl rfl (execFldH rfl (hf 3 (by decide))) ⟨_, rfl, rfl, Below.refl _ _⟩
        | n + 10, h => exact absurd h (by omega)
      · intro x W hB hS
        have J2 := J1.out.on hB
        have x0 : x 0 = _ := hS 0 (by omega)
        have x1 : x 1 = _ := hS 1 (by omega)
        have x2 : x 2 = _ := hS 2 (by omega)
        have x3 : x 3 = _ := hS 3 (by omega)
        have x4 : x 4 = _ := hS 4 (by omega)
        have x5 : x 5 = _ := hS 5 (by omega)
        have x6 : x 6 = _ := hS 6 (by omega)
        have x7 : x 7 = _ := hS 7 (by omega)
        have x8 : x 8 = _ := hS 8 (by omega)
        have x9 : x 9 = _ := hS 9 (by omega)
        simp only [hdV] at x0 x1 x2 x3 x4 x5 x6 x7 x8 x9
        simp only [putL, List.drop_succ_cons, List.drop_zero, Act.put, List.setIfInBounds_toArray, List.set_cons_succ, List.set_cons_zero, x0, x1, x2, x3, x4, x5, x6, x7, x8, x9]
        clear hS x0 x1 x2 x3 x4 x5 x6 x7 x8 x9 hB J1
        refine wpList_exS rfl (execStH rfl rfl rfl J2.j) ?_
        have j3 := J2.set true (rdN p 8 8) (rdN p 16 8) (p 5 : Nat) (cv' := .slice none 0 0) 0 0 rfl
        obtain ⟨rd, hrd⟩ : ∃ rd, rdN p 8 8 = rd := ⟨_, rfl⟩
        obtain ⟨ep, hep⟩ : ∃ ep, rdN p 16 8 = ep := ⟨_, rfl⟩
        obtain ⟨lf, hlf⟩ : ∃ lf : Int, (p 5 : Nat) = lf := ⟨_, rfl⟩
        obtain ⟨W3, hW3⟩ : ∃ W3, W.setRow (V.heap.size + 1) (jC true (rdN p 8 8) (rdN p 16 8) (p 5 : Nat) (.slice none 0 0) 0 0) = W3 := ⟨_, rfl⟩
        rw [hW3] at j3 ⊢
        rw [hrd, hep, hlf] at j3 ⊢
        have J3 : Hid (_) := j3
        have HRD : Hid (rdN p 8 8 = rd ∧ rdN p 16 8 = ep ∧ (p 5 : Nat) = lf) := ⟨hrd, hep, hlf⟩
        have r6 := rd2 p 6 (HV.out.bytes 6 (by have := L24.out; omega))
        obtain ⟨n, hn⟩ : ∃ n, nCells p = n := ⟨_, rfl⟩
        have hn6 : rdN p 6 2 = n := by unfold nCells at hn; omega
        have hn256 : n ≤ 256 := by
          have h3 : (if rdN p 6 2 ≤ 256 then 0 else 63) = 0 := ((headOk_iff p len).1 HO.out).2 3 (by omega)
          split at h3
          · omega
          · cases h3
        have HN : Hid (nCells p = n ∧ n ≤ 256) := ⟨hn, hn256⟩
        have RD := read_any p len 6 2 _ W3 (HV.out.on J3.out.bel) HL.out (by have := L24.out; omega)
        rw [hn6] at RD
        have ln : (n : Int) ≤ 256 := by omega
        clear hW3 hrd hep hlf j3 J2 hn hn6 hn256 r6 H5
        go_wp2_with (go_at_call 67; refine RD.mono ?_; rintro e w1 ⟨rfl, rfl⟩)
        have QQ : Hid (headOk p len = true ∧ jRound p len = rd ∧ jEpoch p len = ep ∧ jLeft p len = lf) := by
          obtain ⟨a, b, c⟩ := HRD.out
          have o := HO.out
          refine ⟨o, ?_, ?_, ?_⟩
          · unfold jRound; rw [o, if_pos rfl, a]
          · unfold jEpoch; rw [o, if_pos rfl, b]
          · unfold jLeft; rw [o, if_pos rfl, c]
        have KE : Hid (jK p len = wholeK p len n ∧ jE p len = tailE p len n (wholeK p len n)) := by
          have o := HO.out
          have e := HN.out.1
          refine ⟨?_, ?_⟩
          · unfold jK; rw [o, if_pos rfl, e]
          · unfold jE; rw [o, if_pos rfl, e]
        clear HE HJ HRD HC RD
        go_loopw [4, 9] (fun y4 y9 W => ∃ (i : Nat) (x : Nat → Value) (cv : Value), i ≤ n ∧ y4 = .int .i64 (cellAt i : Nat) ∧ y9 = .int .i64 i ∧ (∀ g, g < i → okC p len g = true) ∧ cellAt i ≤ len ∧ JS V.heap.size V.heap.size (V.heap.size + 1) true rd ep lf cv 0 0 V W ∧ CL V.heap.size i x p cv W) (fun _ y9 _ => n - (intOf y9).toNat)
        case atStart => exact ⟨0, fun _ => .slice none 0 0, .slice none 0 0, by omega, rfl, rfl, fun g hg => by omega, L24.out, J3.out, CL.none _ _ _ _⟩
        case round =>
          obtain ⟨i, x, cv, hi, rfl, rfl, hok, hat, j4, c4⟩ := hrel
          clear J3
          have J4 : Hid (_) := j4
          have C4 : Hid (_) := c4
          clear j4 c4
          obtain ⟨t, ht⟩ : ∃ t, cellAt i = t := ⟨_, rfl⟩
          rw [ht]
          have lt : (t : Int) ≤ 82456 := by have := HN.out.2; unfold cellAt at ht; omega
          by_cases hin : i < n
          · have i2 : (i : Int) < n := by omega
            by_cases h2 : t + 2 ≤ len
            · have RL := read_any p len t 2 _ wr (HV.out.on J4.out.bel) HL.out h2
              obtain ⟨m, hm⟩ : ∃ m, rdN p t 2 = m := ⟨_, rfl⟩
              rw [hm] at RL
              have i3 : (len : Int) ≥ t + 2 := by omega
              by_cases h320 : m = 320
              · subst h320
                by_cases hs : len < t + 322
                · have i4 : (len : Int) < t + 2 + 320 := by omega
                  have w0 : wholeK p len n = i := wholeK_eq p len n i hi hok fun _ => by
                    unfold okC
                    rw [cellAt_succ, ht]
                    simp
                    omega
                  have EE : Hid (jK p len = i ∧ jE p len = (len, 67)) := by
                    refine ⟨KE.out.1.trans w0, ?_⟩
                    rw [KE.out.2, w0]
                    unfold tailE cellLen
                    rw [if_pos hin, ht, hm, if_neg (fun g => g.2 rfl)]
                  clear w0 ht hm hok
                  have j1 := J4.out.set true rd ep lf len 0 J4.out.one
                  have j2 := j1.set true rd ep lf len 67 J4.out.one
                  have J5 : Hid (_) := j1
                  have J6 : Hid (_) := j2
                  obtain ⟨c0, s0, r0⟩ := j2.r
                  have R0 : Hid (c0.size = 7 ∧ _) := ⟨s0, r0⟩
                  have CE : Hid (_) := ((C4.out.row J4.out.j (jC true rd ep lf cv len 0)).row J5.out.j (jC true rd ep lf cv len 67)).row r0 (jC true rd ep lf cv len 67)
                  clear j1 j2 s0 r0
                  go_wp2_with (first
                    | (go_at_call 67; refine RL.mono ?_; rintro e w1 ⟨rfl, rfl⟩)
                    | (refine atStore 3 (.tmp 84) (.tmp 83) rfl ?_; go_must (refine wpList_exS rfl (execStV (c' := jC true rd ep lf cv len 0) rfl rfl rfl J4.out.j (by show 5 < 7; decide) (by kernel_rfl) rfl rfl) ?_))
                    | (refine atStore 3 (.tmp 85) (.const (.int .i64 67)) rfl ?_; go_must (refine wpList_exS rfl (execStV (c' := jC true rd ep lf cv len 67) rfl rfl rfl J5.out.j (by show 6 < 7; decide) (by kernel_rfl) rfl rfl) ?_))
                    | (refine atLoad 105 (.tmp 3) rfl ?_; go_must (refine wpList_load_row rfl 105 (.tmp 3) rfl (V.heap.size + 1) rfl 105 _ (0, 0) _ J6.out.j Tryz.underlying105 rfl (sizeJ _ _ _ _ _ _ _) ?_; simp only [Act.put, List.setIfInBounds_toArray, List.set_cons_succ, List.set_cons_zero]))
                    | (refine atStore 105 (.tmp 2) (.tmp 86) rfl ?_; go_must (refine wpList_store_row rfl 105 (.tmp 2) (.tmp 86) rfl V.heap.size _ rfl rfl 105 _ R0.out.2 (sizeJ _ _ _ _ _ _ _) R0.out.1 (jC_one _ _ _ _ _ _ J4.out.one) ?_)))
                  refine bodyPost_ret (v := .agg (jC true rd ep lf cv len 67)) (results_cell_row Tryz.results39 _ _ V.heap.size 105 _ (0, 0) _ rfl J6.out.end.1 Tryz.underlying105 rfl (sizeJ _ _ _ _ _ _ _)) rfl ?_
                  obtain ⟨q1, q2, q3, q4⟩ := QQ.out
                  rw [q1, q2, q3, q4, EE.out.1, EE.out.2]
                  first | exact ⟨cv, x, rfl, CE.out, J6.out.end.2⟩ | exact ⟨cv, rfl, ⟨x, CE.out⟩, J6.out.end.2⟩
                · have i4 : ¬ (len : Int) < t + 2 + 320 := by omega
                  have p2 := HV.out.sub (t + 2) (t + 2 + 320) (by omega) (by omega)
                  have e2 : sliced (some ⟨b, off, none⟩) (t + 2) (t + 2 + 320) cap 1 = .slice (some ⟨b, off + (t + 2), none⟩) 320 (cap - (t + 2)) := by
                    unfold sliced
                    rw [if_neg (by omega), show t + 2 + 320 - (t + 2) = 320 by omega]
                    simp [Addr.add]
                  have s2 := fun W => slice_lh (some ⟨b, off, none⟩) len cap (t + 2) (t + 2 + 320) (by omega) (by omega) W
                  rw [e2] at p2 s2
                  rw [show t + 2 + 320 - (t + 2) = 320 by omega] at p2
                  have P2 : Hid (SliceN V (.slice (some ⟨b, off + (t + 2), none⟩) 320 (cap - (t + 2))) 320 (cellB p i)) := sliceN_cg p2 fun j _ => by unfold cellB; rw [ht]
                  have S2 : Hid (_) := s2
                  have HT : Hid (cellAt i = t ∧ i < n ∧ t + 322 ≤ len) := ⟨ht, hin, by omega⟩
                  have HO2 : Hid (∀ g, g < i + 1 → okC p len g = true) := fun g hg => by
                    by_cases e : g = i
                    · subst e
                      unfold okC cellLen
                      rw [cellAt_succ, ht, hm]
                      simp
                      omega
                    · exact hok g (by omega)
                  clear p2 e2 s2 ht hm hok hs
                  go_wp2_with (first
                    | (go_at_call 67; refine RL.mono ?_; rintro e w1 ⟨rfl, rfl⟩))
                  refine wp_region_slotsA 11 107 [87, 88, 89, 90, 91, 92, 93, 94, 95, 96, 97] (ceS (.slice (some ⟨b, off, none⟩) len cap) (.slice (some ⟨b, off + (t + 2), none⟩) 320 (cap - (t + 2))) cv t V.heap.size w1.heap.size (cellB p i)) (by kernel_rfl) (by kernel_rfl) (by kernel_rfl) (by decide) rfl rfl (by decide) (by decide) ceS_on ?_ ?_
                  · intro j hj a W hB hf hdep
                    have l3 := HT.out
                    have l9 := HL.out
                    match j, hj with
                    | 0, _ => exact stepV rfl rfl (execFldC rfl (hf 3 (by decide))) ⟨_, rfl, rfl, Below.refl _ _⟩
                    | 1, _ => exact stepV rfl rfl (execLdC rfl (hdep _ rfl 0 rfl) (by rw [cell_of_row _ _ _ _ _ _ (J4.out.on hB).j]; rfl)) ⟨_, rfl, rfl, Below.refl _ _⟩
                    | 2, _ => exact stepV rfl rfl (execMvB rfl (hf 0 (by decide))) ⟨_, rfl, rfl, Below.refl _ _⟩
                    | 3, _ => exact stepV rfl rfl (execMvB rfl (hf 4 (by decide))) ⟨_, rfl, rfl, Below.refl _ _⟩
                    | 4, _ => exact stepV rfl rfl (execAddI (q := 2) rfl (hdep _ rfl 3 rfl) rfl (by omega)) ⟨_, rfl, rfl, Below.refl _ _⟩
                    | 5, _ => exact stepV rfl rfl (execMvB rfl (hf 4 (by decide))) ⟨_, rfl, rfl, Below.refl _ _⟩
                    | 6, _ => exact stepV rfl rfl (execAddI (q := 2) rfl (hdep _ rfl 5 rfl) rfl (by omega)) ⟨_, rfl, rfl, Below.refl _ _⟩
                    | 7, _ => exact stepV rfl rfl (execAddI (q := 320) rfl (hdep _ rfl 6 rfl) rfl (by omega)) ⟨_, rfl, rfl, Below.refl _ _⟩
                    | 8, _ => exact stepV rfl rfl (execSlLH rfl (hdep _ rfl 2 rfl) (hdep _ rfl 4 rfl) (hdep _ rfl 7 rfl) (S2.out W)) ⟨_, rfl, rfl, Below.refl _ _⟩
                    | 9, _ =>
                      exact stepC rfl rfl (execCall1 Tryz.func68 (by kernel_rfl) (by kernel_rfl) rfl (hdep _ rfl 8 rfl)) (copied_any (cellB p i) 320 _ W ((P2.out.on J4.out.bel).on hB) (fun l c h => by cases h) (by omega)) fun e w' h => by
                        obtain ⟨r, rfl, own, hb⟩ := h
                        exact ⟨_, rfl, _, rfl, own_base own hB.size, hb⟩
                    | 10, _ =>
                      have s9 : W.ownsRow w1.heap.size 5 1 (a.eval (.tmp 96)) 320 (bytesL 320 (cellB p i)) := hdep _ rfl 9 rfl
                      obtain ⟨ao, co, eo⟩ := own_shapeJ s9
                      exact stepV rfl rfl (execBs1 rfl rfl ⟨_, _, _, eo⟩) ⟨_, rfl, ⟨_, _, rfl, heapNew W _, ownsRow_below s9 (belNew W _)⟩, belNew W _⟩
                    | n + 11, h => exact absurd h (by omega)
                  · intro y W hB hS
                    have y0 : y 0 = _ := hS 0 (by omega)
                    have y1 : y 1 = _ := hS 1 (by omega)
                    have y2 : y 2 = _ := hS 2 (by omega)
                    have y3 : y 3 = _ := hS 3 (by omega)
                    have y4 : y 4 = _ := hS 4 (by omega)
                    have y5 : y 5 = _ := hS 5 (by omega)
                    have y6 : y 6 = _ := hS 6 (by omega)
                    have y7 : y 7 = _ := hS 7 (by omega)
                    have y8 : y 8 = _ := hS 8 (by omega)
                    obtain ⟨bb, u, y10, hbb, ownu⟩ : ∃ b u, y 10 = .slice (some ⟨b, 0, none⟩) 1 1 ∧ W.heap[b]? = some (.cells #[u] 24) ∧ W.ownsRow w1.heap.size 5 1 u 320 (bytesL 320 (cellB p i)) := hS 10 (by omega)
                    obtain ⟨r9, y9⟩ : ∃ r9, y 9 = r9 := ⟨_, rfl⟩
                    simp only [putL, List.drop_succ_cons, List.drop_zero, Act.put, List.setIfInBounds_toArray, List.set_cons_succ, List.set_cons_zero, y0, y1, y2, y3, y4, y5, y6, y7, y8, y9, y10]
                    clear hS y0 y1 y2 y3 y4 y5 y6 y7 y8 y9 y10
                    have jw := J4.out.on hB
                    have cw := C4.out.on hB
                    have fw : Fam V.heap.size (i + 1) (updX x i u) (fun _ => 320) (fun i => cellB p i) W := Fam.add C4.out.fam hB J4.out.bel.size ownu
                    have ow : W.ownsRow V.heap.size 24 1 cv i (xsL (updX x i u) 0 i) := by
                      rw [xsL_congr (y := x) fun t ht => updX_lt _ _ (by omega)]
                      exact cw.own
                    refine wpList_appL (b := 0) (n := i) (m := 1) (x := updX x i u) (cs := #[u]) rfl (.tmp 88) (.tmp 97) rfl rfl rfl ow hbb (by show [u] = [updX x i u (0 + i + 0)]; rw [Nat.zero_add, Nat.add_zero, updX_at]) (fun z hz => by simp only [List.mem_singleton] at hz; rw [hz]; exact own_oneCell ownu) (by have := HN.out.2; have := HT.out; omega) jw.bel.size ?_
                    intro cv' W5 own5 gr5
                    have jg := jw.grown ow (grown_row gr5)
                    have c5 : CL V.heap.size (i + 1) (updX x i u) p cv' W5 := ⟨own5, fw.grown ow (grown_row gr5)⟩
                    have o5 := c5.one
                    refine wpList_ex rfl (execFldC (g := V.heap.size + 1) rfl rfl) ?_
                    refine wpList_exS rfl (execStV (c' := jC true rd ep lf cv' 0 0) rfl rfl rfl jg.j (by show 4 < 7; decide) (by kernel_rfl) o5 rfl) ?_
                    have J6 : Hid (_) := jg.set true rd ep lf (cv' := cv') 0 0 o5
                    have C6 : Hid (_) := c5.row jg.j (jC true rd ep lf cv' 0 0)
                    clear jw cw fw ow own5 gr5 jg c5 o5 hbb ownu hB J4 C4
                    go_wp2
                    go_roundw
                    case rel => exact ⟨i + 1, updX x i u, cv', by have := HT.out; omega, by rw [cellAt_succ, HT.out.1]; go_num, by go_num, HO2.out, by rw [cellAt_succ, HT.out.1]; exact HT.out.2.2, J6.out, C6.out⟩
                    case measure => have := HT.out; simp [intOf]; omega
              · have i4 : (m != 320) = true := by simp; exact h320
                have w0 : wholeK p len n = i := wholeK_eq p len n i hi hok fun _ => by
                  unfold okC cellLen
                  rw [ht, hm]
                  simp [h320]
                have EE : Hid (jK p len = i ∧ jE p len = (t, 64)) := by
                  refine ⟨KE.out.1.trans w0, ?_⟩
                  rw [KE.out.2, w0]
                  unfold tailE cellLen
                  rw [if_pos hin, ht, hm, if_pos ⟨h2, h320⟩]
                clear w0 ht hm hok
                have j1 := J4.out.set true rd ep lf t 0 J4.out.one
                have j2 := j1.set true rd ep lf t 64 J4.out.one
                have J5 : Hid (_) := j1
                have J6 : Hid (_) := j2
                obtain ⟨c0, s0, r0⟩ := j2.r
                have R0 : Hid (c0.size = 7 ∧ _) := ⟨s0, r0⟩
                have CE : Hid (_) := ((C4.out.row J4.out.j (jC true rd ep lf cv t 0)).row J5.out.j (jC true rd ep lf cv t 64)).row r0 (jC true rd ep lf cv t 64)
                clear j1 j2 s0 r0
                go_wp2_with (first
                  | (go_at_call 67; refine RL.mono ?_; rintro e w1 ⟨rfl, rfl⟩)
                  | (refine atStore 3 (.tmp 73) (.tmp 72) rfl ?_; go_must (refine wpList_exS rfl (execStV (c' := jC true rd ep lf cv t 0) rfl rfl rfl J4.out.j (by show 5 < 7; decide) (by kernel_rfl) rfl rfl) ?_))
                  | (refine atStore 3 (.tmp 74) (.const (.int .i64 64)) rfl ?_; go_must (refine wpList_exS rfl (execStV (c' := jC true rd ep lf cv t 64) rfl rfl rfl J5.out.j (by show 6 < 7; decide) (by kernel_rfl) rfl rfl) ?_))
                  | (refine atLoad 105 (.tmp 3) rfl ?_; go_must (refine wpList_load_row rfl 105 (.tmp 3) rfl (V.heap.size + 1) rfl 105 _ (0, 0) _ J6.out.j Tryz.underlying105 rfl (sizeJ _ _ _ _ _ _ _) ?_; simp only [Act.put, List.setIfInBounds_toArray, List.set_cons_succ, List.set_cons_zero]))
                  | (refine atStore 105 (.tmp 2) (.tmp 75) rfl ?_; go_must (refine wpList_store_row rfl 105 (.tmp 2) (.tmp 75) rfl V.heap.size _ rfl rfl 105 _ R0.out.2 (sizeJ _ _ _ _ _ _ _) R0.out.1 (jC_one _ _ _ _ _ _ J4.out.one) ?_)))
                refine bodyPost_ret (v := .agg (jC true rd ep lf cv t 64)) (results_cell_row Tryz.results39 _ _ V.heap.size 105 _ (0, 0) _ rfl J6.out.end.1 Tryz.underlying105 rfl (sizeJ _ _ _ _ _ _ _)) rfl ?_
                obtain ⟨q1, q2, q3, q4⟩ := QQ.out
                rw [q1, q2, q3, q4, EE.out.1, EE.out.2]
                first | exact ⟨cv, x, rfl, CE.out, J6.out.end.2⟩ | exact ⟨cv, rfl, ⟨x, CE.out⟩, J6.out.end.2⟩
            · have i3 : ¬ (len : Int) ≥ t + 2 := by omega
              have i4 : (len : Int) < t + 2 + 320 := by omega
              have w0 : wholeK p len n = i := wholeK_eq p len n i hi hok fun _ => by
                unfold okC
                rw [cellAt_succ, ht]
                simp
                omega
              have EE : Hid (jK p len = i ∧ jE p len = (len, 67)) := by
                refine ⟨KE.out.1.trans w0, ?_⟩
                rw [KE.out.2, w0]
                unfold tailE
                rw [if_pos hin, ht, if_neg (fun g => h2 g.1)]
              clear w0 ht hok
              have j1 := J4.out.set true rd ep lf len 0 J4.out.one
              have j2 := j1.set true rd ep lf len 67 J4.out.one
              have J5 : Hid (_) := j1
              have J6 : Hid (_) := j2
              obtain ⟨c0, s0, r0⟩ := j2.r
              have R0 : Hid (c0.size = 7 ∧ _) := ⟨s0, r0⟩
              have CE : Hid (_) := ((C4.out.row J4.out.j (jC true rd ep lf cv len 0)).row J5.out.j (jC true rd ep lf cv len 67)).row r0 (jC true rd ep lf cv len 67)
              clear j1 j2 s0 r0
              go_wp2_with (first
                | (refine atStore 3 (.tmp 84) (.tmp 83) rfl ?_; go_must (refine wpList_exS rfl (execStV (c' := jC true rd ep lf cv len 0) rfl rfl rfl J4.out.j (by show 5 < 7; decide) (by kernel_rfl) rfl rfl) ?_))
                | (refine atStore 3 (.tmp 85) (.const (.int .i64 67)) rfl ?_; go_must (refine wpList_exS rfl (execStV (c' := jC true rd ep lf cv len 67) rfl rfl rfl J5.out.j (by show 6 < 7; decide) (by kernel_rfl) rfl rfl) ?_))
                | (refine atLoad 105 (.tmp 3) rfl ?_; go_must (refine wpList_load_row rfl 105 (.tmp 3) rfl (V.heap.size + 1) rfl 105 _ (0, 0) _ J6.out.j Tryz.underlying105 rfl (sizeJ _ _ _ _ _ _ _) ?_; simp only [Act.put, List.setIfInBounds_toArray, List.set_cons_succ, List.set_cons_zero]))
                | (refine atStore 105 (.tmp 2) (.tmp 86) rfl ?_; go_must (refine wpList_store_row rfl 105 (.tmp 2) (.tmp 86) rfl V.heap.size _ rfl rfl 105 _ R0.out.2 (sizeJ _ _ _ _ _ _ _) R0.out.1 (jC_one _ _ _ _ _ _ J4.out.one) ?_)))
              refine bodyPost_ret (v := .agg (jC true rd ep lf cv len 67)) (results_cell_row Tryz.results39 _ _ V.heap.size 105 _ (0, 0) _ rfl J6.out.end.1 Tryz.underlying105 rfl (sizeJ _ _ _ _ _ _ _)) rfl ?_
              obtain ⟨q1, q2, q3, q4⟩ := QQ.out
              rw [q1, q2, q3, q4, EE.out.1, EE.out.2]
              first | exact ⟨cv, x, rfl, CE.out, J6.out.end.2⟩ | exact ⟨cv, rfl, ⟨x, CE.out⟩, J6.out.end.2⟩
          · have ei : i = n := by omega
            subst ei
            have w0 : wholeK p len i = i := wholeK_eq p len i i hi hok fun h => by omega
            have EE : Hid (jK p len = i ∧ jE p len = tailE p len i i) := ⟨KE.out.1.trans w0, by rw [KE.out.2, w0]⟩
            have i2 : ¬ (i : Int) < i := by omega
            have EN := ended_any p len i _ true rd ep lf cv wr (HV.out.on J4.out.bel) HL.out HN.out.2 hat J4.out.one
            rw [ht] at EN
            clear w0 hok ht
            go_wp2_with (first
              | (refine atLoad 105 (.tmp 3) rfl ?_; go_must (refine wpList_load_row rfl 105 (.tmp 3) rfl (V.heap.size + 1) rfl 105 _ (0, 0) _ J4.out.j Tryz.underlying105 rfl (sizeJ _ _ _ _ _ _ _) ?_; simp only [Act.put, List.setIfInBounds_toArray, List.set_cons_succ, List.set_cons_zero]))
              | (go_at_call 69; refine EN.mono ?_; rintro e w1 ⟨rfl, hb1⟩)
              | (refine atStore 105 (.tmp 2) (.tmp 106) rfl ?_; obtain ⟨c0, s0, r0⟩ := (J4.out.on hb1).r; go_must (refine wpList_store_row rfl 105 (.tmp 2) (.tmp 106) rfl V.heap.size _ rfl rfl 105 _ r0 (sizeJ _ _ _ _ _ _ _) s0 (jC_one _ _ _ _ _ _ J4.out.one) ?_)))
            have CE := (C4.out.on hb1).row r0 (jC true rd ep lf cv (tailE p len i i).1 (tailE p len i i).2)
            refine bodyPost_ret (v := .agg (jC true rd ep lf cv (tailE p len i i).1 (tailE p len i i).2)) (results_cell_row Tryz.results39 _ _ V.heap.size 105 _ (0, 0) _ rfl (setRow_heap _ _ _ _ _ _ r0) Tryz.underlying105 rfl (sizeJ _ _ _ _ _ _ _)) rfl ?_
            obtain ⟨q1, q2, q3, q4⟩ := QQ.out
            rw [q1, q2, q3, q4, EE.out.1, EE.out.2]
            exact ⟨cv, x, rfl, CE, below4 (J4.out.on hb1).bel (Nat.le_refl _) _⟩
end Go.Proofs.YtjckkdjldnobmaaGreatDoor.Frm
