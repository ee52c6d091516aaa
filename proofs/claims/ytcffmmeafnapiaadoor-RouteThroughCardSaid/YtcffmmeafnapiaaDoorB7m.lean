import Derived.Test.YtcffmmeafnapiaaDoorB7h
import Derived.Test.YtcffmmeafnapiaaDoorB7k
import Derived.Test.YtcffmmeafnapiaaDoorB7l
namespace Go.Proofs.YtcffmmeafnapiaaDoor.Rou
open Go.RowKit Gf8 Aes By8 Cel Oni
/- RouteWraps. -/

theorem rwF_lt {h hn : Nat} {lk : Nat → Nat} {key q : Nat → Nat → Nat} {n : Nat} {p : Nat → Nat} (hq : ∀ i, i < hn → By (q i)) (hp : ∀ j, j < n → p j < 256) : ∀ j, j < rwN h hn lk n → rwF h key q n p j < 256 := by
  intro j hj
  have e : rwE h hn lk n = 0 := by
    by_cases e : rwE h hn lk n = 0
    · exact e
    · rw [rwN, if_neg e] at hj; omega
  obtain ⟨h1, h8, rfl, _, h5⟩ := rwE_ok e
  exact cellF_lt (fun j h => by omega) (fun j hj => loF_lt hq h5 hp hn (Nat.le_refl _) h8 j hj) j
section
variable {o : Oper} {a : Act} {w : World}
theorem execC0 {x : Operand} {b : Nat} (ho : o.op = .fieldAddr 33 x 0) (hx : a.eval x = .pointer (some ⟨b, 0, none⟩)) : (execOp a.eval o).run Tryd.prog w = .ok (.value (.pointer (some ⟨b, 0, none⟩))) w := by
  unfold execOp
  simp only [ho, hx]
  simp [go_sem]
theorem execC1 {x : Operand} {b : Nat} (ho : o.op = .fieldAddr 33 x 1) (hx : a.eval x = .pointer (some ⟨b, 0, none⟩)) : (execOp a.eval o).run Tryd.prog w = .ok (.value (.pointer (some ⟨b, 1, none⟩))) w := by
  unfold execOp
  simp only [ho, hx]
  simp [go_sem]
theorem execC2 {x : Operand} {b : Nat} (ho : o.op = .fieldAddr 33 x 2) (hx : a.eval x = .pointer (some ⟨b, 0, none⟩)) : (execOp a.eval o).run Tryd.prog w = .ok (.value (.pointer (some ⟨b, 2, none⟩))) w := by
  unfold execOp
  simp only [ho, hx]
  simp [go_sem]
theorem execLdLL {x : Operand} {b f : Nat} {v : Value} (ho : o.op = .load 30 x) (hx : a.eval x = .pointer (some ⟨b, f, none⟩)) (hc : w.cell? ⟨b, f, none⟩ = some v) : (execOp a.eval o).run Tryd.prog w = .ok (.value v) w := by
  unfold execOp
  simp only [ho, hx]
  simp [go_sem, hc]
theorem execLdLA {x : Operand} {b f : Nat} {v : Value} (ho : o.op = .load 31 x) (hx : a.eval x = .pointer (some ⟨b, f, none⟩)) (hc : w.cell? ⟨b, f, none⟩ = some v) : (execOp a.eval o).run Tryd.prog w = .ok (.value v) w := by
  unfold execOp
  simp only [ho, hx]
  simp [go_sem, hc]
end
set_option maxRecDepth 20000 in
set_option maxHeartbeats 1000000 in
theorem wraps8_any (kv nv pv : Value) (h hn n : Nat) (xv : Nat → Value) (lk : Nat → Nat) (key q : Nat → Nat → Nat) (p : Nat → Nat) (V : World) (hG : Glob V) (hc : Cells V kv h xv lk key) (hq : Nons V nv hn q) (hp : SliceZ V pv n p) (hb1 : h ≤ 140737488351232) (hb2 : hn ≤ 140737488351232) (hb3 : n ≤ 140737488351232) :
    Calls Tryd.prog 4 #[.agg (hC kv nv pv)] V fun e w' => e = .returned (.bool true) ∧ Below V.heap.size V w' := by
  obtain ⟨V1, hV1⟩ : ∃ V1, V.alloc (.cells (hC kv nv pv) 33) = V1 := ⟨_, rfl⟩
  have r1 := heapNew V (.cells (hC kv nv pv) 33)
  have b1 := belNew V (.cells (hC kv nv pv) 33)
  have s1 : V1.heap.size = V.heap.size + 1 := by rw [← hV1]; simp
  rw [hV1] at r1 b1
  have H : Hid (V1.heap[V.heap.size]? = some (.cells (hC kv nv pv) 33) ∧ Below V.heap.size V V1 ∧ V1.heap.size = V.heap.size + 1) := ⟨r1, b1, s1⟩
  have A := awake8_any V1 (hG.below b1 hG.sz)
  obtain ⟨cw, hcw⟩ : ∃ cw, rwF h key q n p = cw := ⟨_, rfl⟩
  obtain ⟨E, hE⟩ : ∃ E, rwE h hn lk n = E := ⟨_, rfl⟩
  obtain ⟨M, hM⟩ : ∃ M, rwN h hn lk n = M := ⟨_, rfl⟩
  have CL : Hid (∀ j, j < M → cw j < 256) := by rw [← hM, ← hcw]; exact rwF_lt hq.by_ hp.sl.bytes
  obtain ⟨ka, kc, rfl, _⟩ := id hc.shape
  obtain ⟨na, nc, rfl, _⟩ := id hq.shape
  obtain ⟨pa, pc, rfl⟩ := id hp.shape
  have RW : Hid (∀ W, Below V.heap.size V W → Calls Tryd.prog 11 #[.slice ka h kc, .slice na hn nc, .slice pa n pc] W fun e w' => ∃ r, e = .returned (.tuple #[r, .int .i64 (E : Int)]) ∧ w'.ownsRow W.heap.size 5 1 r M (bytesL M cw) ∧ Below W.heap.size W w') := fun W hW => by
    have h := refwrap_any _ _ _ h hn n xv lk key q p W (hc.on hW) (hq.on hW) (hp.on hW) hb1 hb2 hb3
    rw [hcw, hE, hM] at h
    exact h
  have PW : Hid (∀ W, Below V.heap.size V W → Calls Tryd.prog 12 #[.slice ka h kc, .slice na hn nc, .slice pa n pc] W fun e w' => ∃ r, e = .returned (.tuple #[r, .int .i64 (E : Int)]) ∧ w'.ownsRow W.heap.size 5 1 r M (bytesL M cw) ∧ Below W.heap.size W w') := fun W hW => by
    have h := rwrap8_any _ _ _ h hn n xv lk key q p W (hG.below hW hG.sz) (hc.on hW) (hq.on hW) (hp.on hW) hb1 hb2 hb3
    rw [hcw, hE, hM] at h
    exact h
  clear hG hc hq hp hb1 hb2 hb3 r1 b1 s1 hcw hE hM
  go_enter Tryd.func4, Tryd.ntmps4
  go_wp2_with (first
    | (go_at_call 8; refine A.mono ?_; rintro e w1 ⟨rfl, hb1⟩; have B1 : Hid (w1.heap[V.heap.size]? = some (.cells (hC (.slice ka h kc) (.slice na hn nc) (.slice pa n pc)) 33) ∧ Below V.heap.size V w1) := ⟨(by rw [hb1.block _ (by have := H.out.2.2; omega)]; exact H.out.1), H.out.2.1.trans (hb1.mono H.out.2.1.size)⟩; obtain ⟨c0, c1, c2⟩ := hC_at B1.out.1; clear hb1)
    | (go_at_call 11; refine (RW.out w1 B1.out.2).mono ?_; rintro e w2 ⟨r2, rfl, own2, hb2⟩; obtain ⟨a2, q2, rfl⟩ := own_shapeJ own2; have B2 : Hid (w2.heap[V.heap.size]? = some (.cells (hC (.slice ka h kc) (.slice na hn nc) (.slice pa n pc)) 33) ∧ Below V.heap.size V w2 ∧ SliceN w2 (.slice a2 M q2) M cw) := ⟨(by rw [hb2.block _ (Array.getElem?_eq_some_iff.1 B1.out.1).1]; exact B1.out.1), B1.out.2.trans (hb2.mono B1.out.2.size), own_slice own2 CL.out⟩; obtain ⟨d0, d1, d2⟩ := hC_at B2.out.1; clear own2 hb2)
    | (go_at_call 12; refine (PW.out w2 B2.out.2.1).mono ?_; rintro e w3 ⟨r3, rfl, own3, hb3⟩; obtain ⟨a3, q3, rfl⟩ := own_shapeJ own3; have k1 := By8.conv_str (own_slice own3 CL.out); have k2 := By8.conv_str (B2.out.2.2.on hb3); have B3 : Hid (Below V.heap.size V w3) := B2.out.2.1.trans (hb3.mono B2.out.2.1.size); clear own3 hb3))
  go_ret
  exact ⟨rfl, B3.out⟩
end Go.Proofs.YtcffmmeafnapiaaDoor.Rou
