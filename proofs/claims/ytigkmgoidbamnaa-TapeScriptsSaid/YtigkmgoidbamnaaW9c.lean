import Derived.Test.YtigkmgoidbamnaaW9b
namespace Go.Proofs.Ytigkmgoidbamnaa.Tap
open Go.RowKit Gf8 Aes By8 Cel Cf
/- TapeScripts: pieces of the code, and what stays. -/

def hasR : Code → Nat → Bool
  | .seq x y, k => hasR x k || hasR y k
  | .region id _ _, k => Nat.beq id k
  | .block _ x, k => hasR x k
  | .loop x, k => hasR x k
  | .cond _ x y, k => hasR x k || hasR y k
  | _, _ => false
/-- The largest piece that begins with region k. -/
def findR (k : Nat) : Code → Code
  | .seq x y => bif leadR x k then .seq x y else bif hasR x k then findR k x else findR k y
  | .block _ x => findR k x
  | .loop x => findR k x
  | .cond _ x y => bif hasR x k then findR k x else findR k y
  | c => c
theorem byte_no (p : Nat → Nat) (l : Nat) (V : World) (hl : l ≤ 140737488351232) (hp : ∀ j, j < l → p j < 256) :
    Calls Try.prog 11 #[.agg (tpC p l l)] V fun e w' => e = .returned (.tuple #[.int .u8 ((0 : Nat) : Int), .agg (tpC p 0 0), .int .i64 ((3 : Nat) : Int)]) ∧ Below V.heap.size V w' := by
  have h := byte_any p l l V (Nat.le_refl _) hl hp
  simp only [if_neg (Nat.lt_irrefl l)] at h
  exact h
theorem rbyte_ok (p : Nat → Nat) (l at' : Nat) (v : Value) (V : World) (hv : SliceN V v l p) (hb : l ≤ 140737488351232) (hat : at' < l) :
    Calls Try.prog 12 #[v, .int .i64 (at' : Int)] V fun e w' => e = .returned (.tuple #[.int .u8 ((p at' : Nat) : Int), .int .i64 ((at' + 1 : Nat) : Int), .int .i64 ((0 : Nat) : Int)]) ∧ w' = V := by
  have h := rbyte_any p l at' v V hv hb (by omega)
  simp only [if_pos hat] at h
  exact h
theorem rbyte_no (p : Nat → Nat) (l : Nat) (v : Value) (V : World) (hv : SliceN V v l p) (hb : l ≤ 140737488351232) :
    Calls Try.prog 12 #[v, .int .i64 (l : Int)] V fun e w' => e = .returned (.tuple #[.int .u8 ((0 : Nat) : Int), .int .i64 ((0 : Nat) : Int), .int .i64 ((3 : Nat) : Int)]) ∧ w' = V := by
  have h := rbyte_any p l l v V hv hb (Nat.le_refl _)
  simp only [if_neg (Nat.lt_irrefl l)] at h
  exact h
theorem take_bad (p : Nat → Nat) (l at' : Nat) (n : Int) (V : World) (hat : at' ≤ l) (hl : l ≤ 140737488351232) (hp : ∀ j, j < l → p j < 256) (E : Nat) (hE : tkE l at' n = E) (h0 : E ≠ 0) :
    Calls Try.prog 13 #[.agg (tpC p l at'), .int .i64 n] V fun e w' => e = .returned (.tuple #[.slice none 0 0, .agg (tpC p 0 0), .int .i64 (E : Nat)]) ∧ Below V.heap.size V w' := by
  refine (take_any p l at' n V hat hl hp).mono ?_
  unfold tkA tkN
  rw [hE]
  simp only [if_neg h0]
  rintro e w' ⟨r, rfl, _, h1, h2⟩
  obtain rfl := h1 h0
  exact ⟨rfl, h2⟩
theorem rtake_bad (p : Nat → Nat) (l at' : Nat) (n : Int) (v : Value) (V : World) (hv : SliceN V v l p) (hz : ∀ l c, v = .slice none l c → c = 0) (hb : l ≤ 140737488351232) (hat : at' ≤ l) (E : Nat) (hE : tkE l at' n = E) (h0 : E ≠ 0) :
    Calls Try.prog 14 #[v, .int .i64 (at' : Int), .int .i64 n] V fun e w' => ∃ r, e = .returned (.tuple #[r, .int .i64 ((0 : Nat) : Int), .int .i64 (E : Nat)]) ∧ SliceN w' r 0 (fun j => p (at' + j)) ∧ Below V.heap.size V w' := by
  refine (rtake_any p l at' n v V hv hz hb hat).mono ?_
  unfold tkA tkN
  rw [hE]
  simp only [if_neg h0]
  rintro e w' ⟨r, rfl, h1, h2⟩
  exact ⟨r, rfl, own_sl h1 (fun j hj => by omega), h2⟩
theorem rtake_ok (p : Nat → Nat) (l at' n : Nat) (v : Value) (V : World) (hv : SliceN V v l p) (hz : ∀ l c, v = .slice none l c → c = 0) (hb : l ≤ 140737488351232) (hat : at' + n ≤ l) :
    Calls Try.prog 14 #[v, .int .i64 (at' : Int), .int .i64 (n : Int)] V fun e w' => ∃ r, e = .returned (.tuple #[r, .int .i64 ((at' + n : Nat) : Int), .int .i64 ((0 : Nat) : Int)]) ∧ SliceN w' r n (fun j => p (at' + j)) ∧ Below V.heap.size V w' := by
  have E : tkE l at' (n : Int) = 0 := by unfold tkE; rw [if_neg (by omega), if_neg (by omega)]
  refine (rtake_any p l at' n v V hv hz hb (by omega)).mono ?_
  unfold tkA tkN
  rw [E]
  simp only [if_true, Int.toNat_natCast]
  rintro e w' ⟨r, rfl, h1, h2⟩
  exact ⟨r, rfl, own_sl h1 (fun j hj => hv.bytes _ (by omega)), h2⟩
section
variable {o : Oper} {a : Act} {w : World}
theorem execEqIt {x : Operand} {p q : Int} (ho : o.op = .binOp .eql 3 x (.const (.int .i64 q)) 3) (hx : a.eval x = .int .i64 p) (h : p = q) : (execOp a.eval o).run Try.prog w = .ok (.value (.bool true)) w := by
  unfold execOp
  simp only [ho, hx]
  simp [go_sem, h]
theorem execEqIf {x : Operand} {p q : Int} (ho : o.op = .binOp .eql 3 x (.const (.int .i64 q)) 3) (hx : a.eval x = .int .i64 p) (h : ¬ p = q) : (execOp a.eval o).run Try.prog w = .ok (.value (.bool false)) w := by
  unfold execOp
  simp only [ho, hx]
  simp [go_sem, h]
theorem execAdI {x y : Operand} {p q : Int} (ho : o.op = .binOp .add 3 x y 3) (hx : a.eval x = .int .i64 p) (hy : a.eval y = .int .i64 q) : (execOp a.eval o).run Try.prog w = .ok (.value (.int .i64 (IntKind.i64.wrap (p + q)))) w := by
  unfold execOp
  simp only [ho, hx, hy]
  simp [go_sem]
end
theorem wrap_in (z : Int) : -9223372036854775808 ≤ IntKind.i64.wrap z ∧ IntKind.i64.wrap z < 9223372036854775808 := by
  simp [IntKind.wrap, IntKind.bits, IntKind.signed]
  omega
theorem plc_lt (z : Int) (m : Nat) (h : 0 < m) : plcN z m < m := Nat.mod_lt _ h
section
variable {V : World} {tv bv : Value} {m : Nat} {P : Nat → Nat → Nat} {Ln At : Nat → Nat} {pv : Nat → Value} {W W' : World}
theorem own_ty {B n s k : Nat} {v : Value} {xs : List Value} {t u : TypeId} {c : Array Value} {fr : Nat × Nat} (h : W.ownsRow B t s v n xs) (hk : W.heap[k]? = some (.cells c u fr)) (ht : u ≠ t) : v.ownBlock ≠ some k := by
  intro e
  rcases h.2 with ⟨rfl, _⟩ | ⟨g, cap, cur, rfl, _, hg, _⟩
  · cases e
  · obtain rfl : g = k := by simpa [Value.ownBlock] using e
    rw [hg] at hk
    injection hk with hk
    injection hk with _ hk _
    exact ht hk.symm
theorem TB.saved {G : Nat → Prop} {k : Nat} {c : Array Value} {fr : Nat × Nat} (h : TB V tv bv m P Ln At pv W) (sv : Saved G W W') (hG : ∀ j, G j → j = k) (hk : W.heap[k]? = some (.cells c 5 fr)) : TB V tv bv m P Ln At pv W' :=
  ⟨own_saved h.tap sv (fun j hj q => own_ty h.tap hk (by decide) (by rw [← hG j q]; exact hj)), own_saved h.boo sv (fun j hj q => own_ty h.boo hk (by decide) (by rw [← hG j q]; exact hj)), h.ok, h.pos⟩
theorem own_overT {B B2 n n2 s s2 : Nat} {v u : Value} {xs ys : List Value} {t t2 : TypeId} (h : W.ownsRow B t s v n xs) (hu : W.ownsRow B2 t2 s2 u n2 ys) (gr : W.grownBy W' u.ownBlock) (ht : t ≠ t2) : W'.ownsRow B t s v n xs := by
  refine ⟨h.1, ?_⟩
  rcases h.2 with h | ⟨g, cap, cur, e, hB, hg, hr⟩
  · exact Or.inl h
  · exact Or.inr ⟨g, cap, cur, e, hB, heap_overL hu gr hg ht, hr⟩
theorem own_overM {B B2 n n2 s : Nat} {v u : Value} {xs : List Value} {p : Nat → Nat} {t : TypeId} (h : W.ownsRow B t s v n xs) (hu : OwnM W B2 u n2 p) (gr : W.grownBy W' u.ownBlock) (ht : t ≠ 5) : W'.ownsRow B t s v n xs := by
  refine ⟨h.1, ?_⟩
  rcases h.2 with h | ⟨g, cap, cur, e, hB, hg, hr⟩
  · exact Or.inl h
  · exact Or.inr ⟨g, cap, cur, e, hB, heap_over hu gr hg ht, hr⟩
theorem TB.over {B2 n2 : Nat} {u : Value} {p : Nat → Nat} (h : TB V tv bv m P Ln At pv W) (hu : OwnM W B2 u n2 p) (gr : W.grownBy W' u.ownBlock) : TB V tv bv m P Ln At pv W' := ⟨own_overM h.tap hu gr (by decide), own_overM h.boo hu gr (by decide), h.ok, h.pos⟩
/-- A store into another block of any type. -/
theorem own_setN {B n s g : Nat} {v : Value} {xs : List Value} {t : TypeId} {c : Array Value} (h : W.ownsRow B t s v n xs) (hg : v.ownBlock ≠ some g) : (W.setRow g c).ownsRow B t s v n xs := by
  refine ⟨h.1, ?_⟩
  rcases h.2 with h | ⟨k, cap, cur, e, hB, hk, hr⟩
  · exact Or.inl h
  · refine Or.inr ⟨k, cap, cur, e, hB, ?_, hr⟩
    rw [setRow_other _ _ _ _ (fun q => hg (by rw [e, ← q]; rfl))]
    exact hk
theorem TB.setN {g : Nat} {c : Array Value} (h : TB V tv bv m P Ln At pv W) (h1 : tv.ownBlock ≠ some g) (h2 : bv.ownBlock ≠ some g) : TB V tv bv m P Ln At pv (W.setRow g c) := ⟨own_setN h.tap h1, own_setN h.boo h2, h.ok, h.pos⟩
end
theorem below_none {W W' : World} (gr : W.grownBy W' Option.none) : Below W.heap.size W W' := (Below.refl _ _).grown gr (Nat.le_refl _) (fun k hk => by cases hk)
theorem byr_open {W : World} {B g cap N : Nat} (h : ByR W g cap N) (hB : B ≤ g) (hc : cap ≤ maxLen) : ∃ p, OwnM W B (.slice (some ⟨g, 0, none⟩) N cap) N p := by
  obtain ⟨cur, fz, h1, h2, h3, h4, h5⟩ := h
  refine ⟨fun j => match cur[j]? with | some (.int .u8 z) => z.toNat | _ => 0, g, cap, cur, fz, rfl, hB, h1, h3, hc, h2, fun j hj => ?_, fun j hj => ?_, h5⟩
  · obtain ⟨z, hz, e⟩ := h4 j hj
    simp only [e, Int.toNat_natCast]
  · obtain ⟨z, hz, e⟩ := h4 j hj
    simp only [e, Int.toNat_natCast]
    exact hz
theorem tb_begin (V X : World) (g k : Nat) (hg : X.heap[g]? = some (.cells (tpC (fun _ => 0) 0 0) 25)) (hk : X.heap[k]? = some (.cells (bkC (.slice none 0 0) 0) 29)) (h1 : V.heap.size ≤ g) (h2 : V.heap.size ≤ k) :
    TB V (.slice (some ⟨g, 0, none⟩) 1 1) (.slice (some ⟨k, 0, none⟩) 1 1) 1 (fun _ _ => 0) (fun _ => 0) (fun _ => 0) (fun _ => .slice none 0 0) X :=
  ⟨⟨rfl, Or.inr ⟨g, 1, _, rfl, h1, hg, Nat.le_refl _, by unfold maxLen; omega, rfl, rfl⟩⟩, ⟨rfl, Or.inr ⟨k, 1, _, rfl, h2, hk, Nat.le_refl _, by unfold maxLen; omega, rfl, rfl⟩⟩,
    fun t _ => ⟨Nat.le_refl _, by omega, ⟨⟨_, _, rfl, Nat.le_refl _, by omega, fun h => by omega⟩, fun j hj => by omega⟩, fun l c e => by injection e with _ _ e; exact e.symm⟩, by omega⟩
/-- A script. -/
structure Scr9 (V : World) (v : Value) (n : Nat) (kd tt nn : Nat → Int) (pv : Nat → Value) (pl : Nat → Nat) (pp : Nat → Nat → Nat) : Prop where
  shape : ∃ a cap, v = .slice a n cap ∧ n ≤ 2932031007319 ∧ (0 < n → ∃ b off, a = some ⟨b, off, none⟩ ∧ b < V.heap.size ∧ ∀ i, i < n → V.cell? ⟨b, off + i * 4, none⟩ = some (.int .i64 (kd i)) ∧ V.cell? ⟨b, off + i * 4 + 1, none⟩ = some (.int .i64 (tt i)) ∧ V.cell? ⟨b, off + i * 4 + 2, none⟩ = some (.int .i64 (nn i)) ∧ V.cell? ⟨b, off + i * 4 + 3, none⟩ = some (pv i))
  fits : ∀ i, i < n → (-9223372036854775808 ≤ tt i ∧ tt i < 9223372036854775808) ∧ -9223372036854775808 ≤ nn i ∧ nn i < 9223372036854775808
  each : ∀ i, i < n → SliceN V (pv i) (pl i) (pp i) ∧ pl i ≤ 140737488351232 ∧ ∀ l c, pv i = .slice none l c → c = 0
end Go.Proofs.Ytigkmgoidbamnaa.Tap
