import Derived.Test.YtfhldpdnoaoohaaDoorX6g
namespace Go.Proofs.YtfhldpdnoaoohaaDoor.Oni
open Go.RowKit Gf8 Aes By8 Cel
/- OnionBack. -/

section
variable {o : Oper} {a : Act} {w : World}
theorem execNeqE0 {x : Operand} (ho : o.op = .binOp .neq 31 x (.const (.int .i64 0)) 31) (hx : a.eval x = .int .i64 0) : (execOp a.eval o).run Tryd.prog w = .ok (.value (.bool false)) w := by
  unfold execOp
  simp only [ho, hx]
  simp [go_sem]
theorem execEqlE0 {x : Operand} (ho : o.op = .binOp .eql 31 x (.const (.int .i64 0)) 31) (hx : a.eval x = .int .i64 0) : (execOp a.eval o).run Tryd.prog w = .ok (.value (.bool true)) w := by
  unfold execOp
  simp only [ho, hx]
  simp [go_sem]
theorem execNeqSame {x y : Operand} {p : Int} (ho : o.op = .binOp .neq 3 x y 3) (hx : a.eval x = .int .i64 p) (hy : a.eval y = .int .i64 p) : (execOp a.eval o).run Tryd.prog w = .ok (.value (.bool false)) w := by
  unfold execOp
  simp only [ho, hx, hy]
  simp [go_sem]
theorem execFldJ1 {x : Operand} {g : Nat} (ho : o.op = .fieldAddr 36 x 1) (hx : a.eval x = .pointer (some ⟨g, 0, none⟩)) : (execOp a.eval o).run Tryd.prog w = .ok (.value (.pointer (some ⟨g, 1, none⟩))) w := by
  unfold execOp
  simp only [ho, hx]
  simp [go_sem]
theorem execFldP0 {x : Operand} {g : Nat} (ho : o.op = .fieldAddr 44 x 0) (hx : a.eval x = .pointer (some ⟨g, 0, none⟩)) : (execOp a.eval o).run Tryd.prog w = .ok (.value (.pointer (some ⟨g, 0, none⟩))) w := by
  unfold execOp
  simp only [ho, hx]
  simp [go_sem]
theorem execFldP1 {x : Operand} {g : Nat} (ho : o.op = .fieldAddr 44 x 1) (hx : a.eval x = .pointer (some ⟨g, 0, none⟩)) : (execOp a.eval o).run Tryd.prog w = .ok (.value (.pointer (some ⟨g, 1, none⟩))) w := by
  unfold execOp
  simp only [ho, hx]
  simp [go_sem]
theorem execLd24 {x : Operand} {b f : Nat} {v : Value} (ho : o.op = .load 24 x) (hx : a.eval x = .pointer (some ⟨b, f, none⟩)) (hc : w.cell? ⟨b, f, none⟩ = some v) : (execOp a.eval o).run Tryd.prog w = .ok (.value v) w := by
  unfold execOp
  simp only [ho, hx]
  simp [go_sem, hc]
end
/-- Bytes that stand in a row as a list. -/
theorem cells_slice {W : World} {g f k : Nat} {q : Nat → Nat} (hg : g < W.heap.size) (hc : ∀ j, j < k → W.cell? ⟨g, f + j, none⟩ = some (.int .u8 (q j))) (hq : ∀ j, j < k → q j < 256) (hk : k ≤ 1000) : SliceN W (.slice (some ⟨g, f, none⟩) k k) k q :=
  ⟨⟨_, _, rfl, Nat.le_refl _, by omega, fun _ => ⟨g, f, rfl, hg, hc⟩⟩, hq⟩
theorem pC_slice {W : World} {g : Nat} {cv : Value} {r : Nat → Nat} {t : TypeId} (h : W.heap[g]? = some (.cells (pC cv r) t)) (hr : ∀ j, r j < 256) : SliceN W (.slice (some ⟨g, 1, none⟩) 16 16) 16 r :=
  cells_slice (Array.getElem?_eq_some_iff.1 h).1 (pC_arr h) (fun j _ => hr j) (by omega)
theorem half_slice {W : World} {g : Nat} {r : Nat → Nat} {t : TypeId} (h : W.heap[g]? = some (.cells (bA 32 r) t)) (hr : ∀ j, r j < 256) : SliceN W (.slice (some ⟨g, 0, none⟩) 16 32) 16 r :=
  takeN (row_slice h (fun j _ => hr j) (by omega)) (by omega)
theorem jC_nonce {W : World} {J : Nat} {vk vi : Value} {nonce : Nat → Nat} {left : Int} {t : TypeId} (h : W.heap[J]? = some (.cells (jC vk nonce left vi) t)) (hn : By nonce) : SliceN W (.slice (some ⟨J, 1, none⟩) 16 16) 16 nonce :=
  cells_slice (Array.getElem?_eq_some_iff.1 h).1 (jC_at h).2.1 (fun j hj => hn j hj) (by omega)
def b9V (bv bv16 jv : Value) (S J : Nat) (s : ByteArray) (j : Nat) : Value :=
  match j with
  | 0 => .int .i64 0 | 1 => .bool false | 2 => .bool false | 3 => bv | 4 => .int .i64 (S : Int) | 5 => .int .i64 (S : Int) | 6 => .bool false | 7 => .bool false | 8 => .bool false | 9 => bv | 10 => bv16 | 11 => .string s | 12 => .pointer (some ⟨J, 1, none⟩) | 13 => jv | 14 => .string s | _ => .bool false
def bkT (K : Nat) (kv bv bv32 : Value) (T : Nat → Nat) (W0 : World) (l : Nat → Bool) (x : Nat → Value) (W : World) : Prop :=
  (l 0 = true → x 0 = .pointer (some ⟨K, 48, none⟩)) ∧ (l 1 = true → x 1 = kv) ∧ (l 2 = true → x 2 = bv) ∧ (l 3 = true → x 3 = bv32) ∧ (l 4 = true → x 4 = .agg (bA 32 T)) ∧
  (l 5 = true → ∃ I, x 5 = .pointer (some ⟨I, 0, none⟩) ∧ W0.heap.size ≤ I ∧ (l 6 = false → W.heap[I]? = some (.cells (bA 32 fun _ => 0) 26)) ∧ (l 6 = true → W.heap[I]? = some (.cells (bA 32 T) 26))) ∧ Below W0.heap.size W0 W
def b18V (P Dp : Nat) (cv wv : Value) (s t : ByteArray) (j : Nat) : Value :=
  match j with
  | 0 => .int .i64 0 | 3 => .int .i64 0 | 7 => .int .i64 0 | 11 => .int .i64 0 | 15 => .pointer (some ⟨P, 0, none⟩) | 16 => cv | 17 => .string s | 18 => wv | 19 => .string s
  | 23 => .pointer (some ⟨P, 1, none⟩) | 24 => .slice (some ⟨P, 1, none⟩) 16 16 | 25 => .string t | 26 => .slice (some ⟨Dp, 0, none⟩) 16 32 | 27 => .string t | _ => .bool true
set_option maxRecDepth 20000 in
set_option maxHeartbeats 2000000 in
theorem back_any (key nonce inner : Nat → Nat) (lk n : Nat) (left : Int) (vk vi : Value) (V : World) (hG : Glob V) (hk : SliceN V vk lk key) (hn : By nonce) (hi : SliceZ V vi n inner) (hb : n ≤ 140737488351232) :
    Calls Tryd.prog 6 #[.agg (jC vk nonce left vi)] V fun e w' => e = .returned (.bool true) ∧ Below V.heap.size V w' := by
  obtain ⟨V1, hV1⟩ : ∃ V1, V.alloc (.cells (jC vk nonce left vi) 36) = V1 := ⟨_, rfl⟩
  have r1 := heapNew V (.cells (jC vk nonce left vi) 36)
  have b1 := belNew V (.cells (jC vk nonce left vi) 36)
  have s1 : V1.heap.size = V.heap.size + 1 := by rw [← hV1]; simp
  rw [hV1] at r1 b1
  have H : Hid (V1.heap[V.heap.size]? = some (.cells (jC vk nonce left vi) 36) ∧ Below V.heap.size V V1 ∧ V1.heap.size = V.heap.size + 1) := ⟨r1, b1, s1⟩
  have A := alive_any V1 (hG.below b1 hG.sz)
  obtain ⟨on, hon⟩ : ∃ on, wrF key nonce left.toNat n inner = on := ⟨_, rfl⟩
  obtain ⟨E, hE⟩ : ∃ E, wrE lk left n = E := ⟨_, rfl⟩
  obtain ⟨M, hM⟩ : ∃ M, wrN lk left n = M := ⟨_, rfl⟩
  obtain ⟨S, hS⟩ : ∃ S, sz left = S := ⟨_, rfl⟩
  have PS := psize_any left
  rw [hS] at PS
  have PW : Hid (∀ W, Below V.heap.size V W → Calls Tryd.prog 14 #[vk, .agg (bA 16 nonce), .int .i64 left, vi] W fun e w' => ∃ r, e = .returned (.tuple #[r, .int .i64 (E : Int)]) ∧ w'.ownsRow W.heap.size 5 1 r M (bytesL M on) ∧ Below W.heap.size W w') := fun W hW => by
    have h := wrap_any key nonce inner lk n left vk vi W (hG.below hW hG.sz) (hk.on hW) hn (hi.sl.on hW) hb
    rw [hon, hE, hM] at h
    exact h
  obtain ⟨ka, kcap, rfl, _⟩ := id hk.shape
  obtain ⟨ia, icap, rfl⟩ := hi.shape
  have HV : Hid (Glob V ∧ SliceN V (.slice ka lk kcap) lk key ∧ By nonce ∧ SliceZ V (.slice ia n icap) n inner) := ⟨hG, hk, hn, hi⟩
  have l3 : (n : Int) ≤ 140737488351232 := by omega
  by_cases hbad : lk ≠ 32 ∨ S = 0
  · have hE2 : E = 2 := by rw [← hE]; unfold wrE; rw [hS, if_pos hbad]
    have hM2 : M = 0 := by rw [← hM]; unfold wrN; rw [hE, hE2]; rfl
    subst hE2 hM2
    have hl : lk ≠ 32 ∨ left < 1 ∨ left > 8 := by
      rcases hbad with h | h
      · exact Or.inl h
      · refine Or.inr ?_
        rw [← hS] at h
        unfold sz at h
        split at h
        · omega
        · omega
    clear hG hk hn hi hb r1 b1 s1 hon hE hM hS hbad l3
    rcases hl with h | h
    · have i1 : ((lk : Int) != 32) = true := by simp; omega
      clear h
      go_enter Tryd.func6, Tryd.ntmps6
      go_wp2_with (first
        | (go_at_call 8; refine A.mono ?_; rintro e w1 ⟨rfl, hb1⟩; have B1 : Hid (w1.heap[V.heap.size]? = some (.cells (jC _ nonce _ _) 36) ∧ Below V.heap.size V w1) := ⟨(by rw [hb1.block _ (by have := H.out.2.2; omega)]; exact H.out.1), H.out.2.1.trans (hb1.mono H.out.2.1.size)⟩; obtain ⟨c0, c1, c2, c3⟩ := jC_at B1.out.1; have C1 : Hid (_) := c1; clear hb1 c1)
        | (refine atLoad 25 (.tmp 20) rfl ?_; go_must (refine wpList_ex rfl (execLdList (k := 16) (q := nonce) rfl rfl C1.out Tryd.underlying25 rfl (by kernel_rfl)) ?_))
        | (go_at_call 14; refine (PW.out w1 B1.out.2).mono ?_; rintro e w2 ⟨r2, rfl, own2, hb2⟩; obtain ⟨a2, q2, rfl⟩ := own_shapeJ own2; have B2 : Hid (Below V.heap.size V w2) := B1.out.2.trans (hb2.mono B1.out.2.size); obtain ⟨d0, d1, d2, d3⟩ := jC_at (W := w2) (by rw [hb2.block _ (Array.getElem?_eq_some_iff.1 B1.out.1).1]; exact B1.out.1); clear own2 hb2 d1)
        | (go_at_call 9; refine (PS _).mono ?_; rintro e w8 ⟨rfl, hw8⟩; rw [hw8]; clear hw8))
      go_ret
      exact ⟨rfl, B2.out⟩
    · by_cases h32 : lk = 32
      · subst h32
        rcases h with h | h
        · go_enter Tryd.func6, Tryd.ntmps6
          go_wp2_with (first
            | (go_at_call 8; refine A.mono ?_; rintro e w1 ⟨rfl, hb1⟩; have B1 : Hid (w1.heap[V.heap.size]? = some (.cells (jC _ nonce _ _) 36) ∧ Below V.heap.size V w1) := ⟨(by rw [hb1.block _ (by have := H.out.2.2; omega)]; exact H.out.1), H.out.2.1.trans (hb1.mono H.out.2.1.size)⟩; obtain ⟨c0, c1, c2, c3⟩ := jC_at B1.out.1; have C1 : Hid (_) := c1; clear hb1 c1)
            | (refine atLoad 25 (.tmp 20) rfl ?_; go_must (refine wpList_ex rfl (execLdList (k := 16) (q := nonce) rfl rfl C1.out Tryd.underlying25 rfl (by kernel_rfl)) ?_))
            | (go_at_call 14; refine (PW.out w1 B1.out.2).mono ?_; rintro e w2 ⟨r2, rfl, own2, hb2⟩; obtain ⟨a2, q2, rfl⟩ := own_shapeJ own2; have B2 : Hid (Below V.heap.size V w2) := B1.out.2.trans (hb2.mono B1.out.2.size); obtain ⟨d0, d1, d2, d3⟩ := jC_at (W := w2) (by rw [hb2.block _ (Array.getElem?_eq_some_iff.1 B1.out.1).1]; exact B1.out.1); clear own2 hb2 d1)
            | (go_at_call 9; refine (PS _).mono ?_; rintro e w8 ⟨rfl, hw8⟩; rw [hw8]; clear hw8))
          go_ret
          exact ⟨rfl, B2.out⟩
        · have i2 : ¬ left < 1 := by omega
          go_enter Tryd.func6, Tryd.ntmps6
          go_wp2_with (first
            | (go_at_call 8; refine A.mono ?_; rintro e w1 ⟨rfl, hb1⟩; have B1 : Hid (w1.heap[V.heap.size]? = some (.cells (jC _ nonce _ _) 36) ∧ Below V.heap.size V w1) := ⟨(by rw [hb1.block _ (by have := H.out.2.2; omega)]; exact H.out.1), H.out.2.1.trans (hb1.mono H.out.2.1.size)⟩; obtain ⟨c0, c1, c2, c3⟩ := jC_at B1.out.1; have C1 : Hid (_) := c1; clear hb1 c1)
            | (refine atLoad 25 (.tmp 20) rfl ?_; go_must (refine wpList_ex rfl (execLdList (k := 16) (q := nonce) rfl rfl C1.out Tryd.underlying25 rfl (by kernel_rfl)) ?_))
            | (go_at_call 14; refine (PW.out w1 B1.out.2).mono ?_; rintro e w2 ⟨r2, rfl, own2, hb2⟩; obtain ⟨a2, q2, rfl⟩ := own_shapeJ own2; have B2 : Hid (Below V.heap.size V w2) := B1.out.2.trans (hb2.mono B1.out.2.size); obtain ⟨d0, d1, d2, d3⟩ := jC_at (W := w2) (by rw [hb2.block _ (Array.getElem?_eq_some_iff.1 B1.out.1).1]; exact B1.out.1); clear own2 hb2 d1)
            | (go_at_call 9; refine (PS _).mono ?_; rintro e w8 ⟨rfl, hw8⟩; rw [hw8]; clear hw8))
          go_ret
          exact ⟨rfl, B2.out⟩
      · have i1 : ((lk : Int) != 32) = true := by simp; omega
        clear h h32
        go_enter Tryd.func6, Tryd.ntmps6
        go_wp2_with (first
          | (go_at_call 8; refine A.mono ?_; rintro e w1 ⟨rfl, hb1⟩; have B1 : Hid (w1.heap[V.heap.size]? = some (.cells (jC _ nonce _ _) 36) ∧ Below V.heap.size V w1) := ⟨(by rw [hb1.block _ (by have := H.out.2.2; omega)]; exact H.out.1), H.out.2.1.trans (hb1.mono H.out.2.1.size)⟩; obtain ⟨c0, c1, c2, c3⟩ := jC_at B1.out.1; have C1 : Hid (_) := c1; clear hb1 c1)
          | (refine atLoad 25 (.tmp 20) rfl ?_; go_must (refine wpList_ex rfl (execLdList (k := 16) (q := nonce) rfl rfl C1.out Tryd.underlying25 rfl (by kernel_rfl)) ?_))
          | (go_at_call 14; refine (PW.out w1 B1.out.2).mono ?_; rintro e w2 ⟨r2, rfl, own2, hb2⟩; obtain ⟨a2, q2, rfl⟩ := own_shapeJ own2; have B2 : Hid (Below V.heap.size V w2) := B1.out.2.trans (hb2.mono B1.out.2.size); obtain ⟨d0, d1, d2, d3⟩ := jC_at (W := w2) (by rw [hb2.block _ (Array.getElem?_eq_some_iff.1 B1.out.1).1]; exact B1.out.1); clear own2 hb2 d1)
          | (go_at_call 9; refine (PS _).mono ?_; rintro e w8 ⟨rfl, hw8⟩; rw [hw8]; clear hw8))
        go_ret
        exact ⟨rfl, B2.out⟩
  · obtain rfl : lk = 32 := by
      by_cases h : lk = 32
      · exact h
      · exact absurd (Or.inl h) hbad
    have h0 : S ≠ 0 := fun h => hbad (Or.inr h)
    obtain ⟨g1, g2, g3, g4⟩ := sz_pos (left := left) (by rw [hS]; exact h0)
    have g5 := sz_le left
    rw [hS] at g3 g4 g5
    obtain ⟨L, rfl⟩ : ∃ L : Nat, left = L := ⟨left.toNat, by omega⟩
    have i2 : ¬ (L : Int) < 1 := by omega
    have i3 : ¬ (L : Int) > 8 := by omega
    have i6 : (S : Int) ≤ 320 := by omega
    by_cases hlong : S - 34 < n
    · have hE1 : E = 1 := by rw [← hE]; unfold wrE; rw [if_neg (by rw [hS]; simp; exact h0), if_pos (by rw [hS]; exact hlong)]
      have hM1 : M = 0 := by rw [← hM]; unfold wrN; rw [hE, hE1]; rfl
      subst hE1 hM1
      have i4 : (n : Int) > (S : Int) - 34 := by omega
      clear hG hk hn hi hb r1 b1 s1 hon hE hM hS hbad l3 h0 g1 g2 g3 g4 g5 hlong
      go_enter Tryd.func6, Tryd.ntmps6
      go_wp2_with (first
        | (go_at_call 8; refine A.mono ?_; rintro e w1 ⟨rfl, hb1⟩; have B1 : Hid (w1.heap[V.heap.size]? = some (.cells (jC _ nonce _ _) 36) ∧ Below V.heap.size V w1) := ⟨(by rw [hb1.block _ (by have := H.out.2.2; omega)]; exact H.out.1), H.out.2.1.trans (hb1.mono H.out.2.1.size)⟩; obtain ⟨c0, c1, c2, c3⟩ := jC_at B1.out.1; have C1 : Hid (_) := c1; clear hb1 c1)
        | (refine atLoad 25 (.tmp 20) rfl ?_; go_must (refine wpList_ex rfl (execLdList (k := 16) (q := nonce) rfl rfl C1.out Tryd.underlying25 rfl (by kernel_rfl)) ?_))
        | (go_at_call 14; refine (PW.out w1 B1.out.2).mono ?_; rintro e w2 ⟨r2, rfl, own2, hb2⟩; obtain ⟨a2, q2, rfl⟩ := own_shapeJ own2; have B2 : Hid (Below V.heap.size V w2) := B1.out.2.trans (hb2.mono B1.out.2.size); obtain ⟨d0, d1, d2, d3⟩ := jC_at (W := w2) (by rw [hb2.block _ (Array.getElem?_eq_some_iff.1 B1.out.1).1]; exact B1.out.1); clear own2 hb2 d1)
        | (go_at_call 9; refine (PS _).mono ?_; rintro e w8 ⟨rfl, hw8⟩; rw [hw8]; clear hw8))
      go_ret
      exact ⟨rfl, B2.out⟩
    · have hE0 : E = 0 := by rw [← hE]; unfold wrE; rw [if_neg (by rw [hS]; simp; exact h0), if_neg (by rw [hS]; exact hlong)]
      have hMS : M = S := by rw [← hM]; unfold wrN; rw [hE, hE0, if_pos rfl, hS]
      subst hE0 hMS
      rw [show (L : Int).toNat = L from by simp] at hon
      have hL : 1 ≤ L ∧ L ≤ 8 := by omega
      have hnS : n ≤ sz (L : Int) - 34 := by rw [hS]; omega
      obtain ⟨D, hD⟩ : ∃ D, dk key nonce = D := ⟨_, rfl⟩
      obtain ⟨cw, hcw⟩ : ∃ cw, cellF 0 headO M on = cw := ⟨_, rfl⟩
      have ec : cwF key nonce L n inner = cw := by rw [← hcw, ← hon, ← hS]; rfl
      obtain ⟨T, hT⟩ : ∃ T, hfF (rpK D) on 32 = T := ⟨_, rfl⟩
      obtain ⟨nx, hnx⟩ : ∃ nx, nxF (L : Int) n inner = nx := ⟨_, rfl⟩
      have onb : ∀ j, on j < 256 := by rw [← hon]; exact wrF_lt hn (by omega) hi.sl.bytes
      have cwb : ∀ j, cw j < 256 := by rw [← hcw]; exact cellF_lt (fun j h => by omega) (fun j _ => onb j)
      have nxb : ∀ j, nx j < 256 := by rw [← hnx]; exact nxF_lt (fun q => by omega) hi.sl.bytes
      have PE : Hid (∀ W v, Below V.heap.size V W → SliceZ W v 320 cw → Calls Tryd.prog 16 #[.slice ka 32 kcap, .int .i64 (L : Int), v] W fun e w' => ∃ cv, e = .returned (.tuple #[.agg (pC cv T), .int .i64 0]) ∧ w'.ownsRow W.heap.size 5 1 cv 320 (bytesL 320 nx) ∧ Below W.heap.size W w') := fun W v hW hv => by
        have h := peel_any key cw 32 320 (L : Int) (.slice ka 32 kcap) v W (HV.out.1.below hW HV.out.1.sz) (HV.out.2.1.on hW) hv (by omega)
        have e0 : peE 32 (L : Int) 320 key cw = 0 := by rw [← ec]; exact cw_e hL hnS
        have e1 : peC (L : Int) key cw = nx := by
          funext j
          rw [← ec, ← hnx]
          exact cw_c hL hnS j
        have e2 : peR 0 key cw = T := by
          show hfF (rpK (dk key cw)) cw 32 = T
          rw [← ec, cw_dk hL, hD, ← hT]
          refine hfF_congr (fun _ _ => rfl) fun j hj => ?_
          rw [cw_in j (by rw [szL hL]; omega), hon]
        rw [e0, e1, e2, show peN 0 = 320 from rfl] at h
        exact h
      have PDo : Hid (∀ W (v : Value), SliceZ W v M on → Calls Tryd.prog 15 #[v] W fun e w' => ∃ r, e = .returned (.tuple #[r, .int .i64 0]) ∧ w'.ownsRow W.heap.size 5 1 r 320 (bytesL 320 cw) ∧ Below W.heap.size W w') := fun W v hv => by
        have h := pad_any on M v W hv (by omega)
        rw [show okE 320 M = 0 from if_pos (by omega), show okN 320 M = 320 from if_pos (by omega), hcw] at h
        exact h
      have PDi : Hid (∀ W (v : Value), SliceZ W v n inner → Calls Tryd.prog 15 #[v] W fun e w' => ∃ r, e = .returned (.tuple #[r, .int .i64 0]) ∧ (L ≠ 1 → SliceN w' r 320 nx) ∧ (∃ a c, r = .slice a 320 c) ∧ Below W.heap.size W w') := fun W v hv => by
        refine (pad_any inner n v W hv (by omega)).mono ?_
        rw [show okE 320 n = 0 from if_pos (by omega), show okN 320 n = 320 from if_pos (by omega)]
        rintro e w' ⟨r, rfl, own, hb⟩
        refine ⟨r, rfl, fun h => ?_, own_shapeJ own, hb⟩
        have e1 : nx = cellF 0 headO n inner := by rw [← hnx]; exact if_pos (by omega)
        rw [← e1] at own
        exact own_slice own fun j _ => nxb j
      have PL : Hid (L = 1 → ∀ W (v : Value), SliceZ W v n inner → Calls Tryd.prog 17 #[v] W fun e w' => ∃ r, e = .returned (.tuple #[r, .int .i64 0]) ∧ SliceN w' r 320 nx ∧ Below W.heap.size W w') := fun h1 W v hv => by
        refine (plain_any inner n v W hv (by omega)).mono ?_
        rw [show okE 48 n = 0 from if_pos (by omega), show okN 48 n = 320 from if_pos (by omega)]
        rintro e w' ⟨r, rfl, own, hb⟩
        have e1 : nx = cellF 2 (headP n) n inner := by rw [← hnx]; exact if_neg (by omega)
        rw [← e1] at own
        exact ⟨r, rfl, own_slice own fun j _ => nxb j, hb⟩
      have PDv : Hid (∀ W, Below V.heap.size V W → Calls Tryd.prog 11 #[.slice ka 32 kcap, .agg (bA 16 nonce)] W fun e w' => e = .returned (.tuple #[.agg (bA 80 D), .int .i64 0]) ∧ Below W.heap.size W w') := fun W hW => by
        have h := pder_ok key nonce (.slice ka 32 kcap) W (HV.out.1.below hW HV.out.1.sz) hn (HV.out.2.1.on hW)
        rw [hD] at h
        exact h
      have PT : Hid (∀ W (v u : Value), Below V.heap.size V W → SliceN W v 32 (rpK D) → SliceN W u 32 on → Calls Tryd.prog 18 #[v, u] W fun e w' => e = .returned (.agg (bA 32 T)) ∧ Below W.heap.size W w') := fun W v u hW hv hu => by
        have h := ptag_any v u 32 (rpK D) on W (HV.out.1.below hW HV.out.1.sz) (by omega) hv hu
        rw [hT] at h
        exact h
      have onn : ∀ j, j < 16 → on j = nonce j := fun j hj => by rw [← hon]; exact wr_nonce j hj
      have HN : Hid (82 ≤ M ∧ M ≤ 320 ∧ n ≤ M - 34 ∧ (∀ j, on j < 256) ∧ (∀ j, cw j < 256) ∧ (∀ j, nx j < 256) ∧ (∀ j, j < 16 → on j = nonce j) ∧ (∀ j, D j < 256)) := ⟨g4, g5, by omega, onb, cwb, nxb, onn, by rw [← hD]; exact dk_lt _ _⟩
      have TL : Hid (∀ j, T j < 256) := by rw [← hT]; exact hfF_lt _ _ _
      have i4 : ¬ (n : Int) > (M : Int) - 34 := by omega
      have zp := zeroP
      have zk := zeroK
      clear hG hk hn hi hb r1 b1 s1 hon hE hM hS hbad h0 g1 g2 g3 g4 g5 hlong hL hnS hD hcw ec hT hnx onb cwb nxb onn
      go_enter Tryd.func6, Tryd.ntmps6
      go_wp2_with (first
        | (go_at_call 8; refine A.mono ?_; rintro e w1 ⟨rfl, hb1⟩; have B1 : Hid (w1.heap[V.heap.size]? = some (.cells (jC (.slice ka 32 kcap) nonce (L : Int) (.slice ia n icap)) 36) ∧ Below V.heap.size V w1) := ⟨(by rw [hb1.block _ (by have := H.out.2.2; omega)]; exact H.out.1), H.out.2.1.trans (hb1.mono H.out.2.1.size)⟩; obtain ⟨c0, c1, c2, c3⟩ := jC_at B1.out.1; have C1 : Hid (_) := c1; clear hb1 c1)
        | (refine atLoad 25 (.tmp 20) rfl ?_; go_must (refine wpList_ex rfl (execLdList (k := 16) (q := nonce) rfl rfl C1.out Tryd.underlying25 rfl (by kernel_rfl)) ?_))
        | (go_at_call 14; refine (PW.out w1 B1.out.2).mono ?_; rintro e w2 ⟨r2, rfl, own2, hb2⟩; obtain ⟨bg, bc, rfl, bB, bcap, bcells⟩ := own_cells own2 (by have := HN.out; omega); have sl2 := own_sliceZ own2 (fun j _ => HN.out.2.2.2.1 j); have B2 : Hid (w2.heap[V.heap.size]? = some (.cells (jC (.slice ka 32 kcap) nonce (L : Int) (.slice ia n icap)) 36) ∧ Below V.heap.size V w2 ∧ SliceZ w2 (.slice (some ⟨bg, 0, none⟩) M bc) M on ∧ M ≤ bc) := ⟨(by rw [hb2.block _ (Array.getElem?_eq_some_iff.1 B1.out.1).1]; exact B1.out.1), B1.out.2.trans (hb2.mono B1.out.2.size), sl2, bcap⟩; obtain ⟨d0, d1, d2, d3⟩ := jC_at B2.out.1; clear own2 hb2 d1 sl2 bB bcap bcells)
        | (go_at_call 9; refine (PS _).mono ?_; rintro e w8 ⟨rfl, hw8⟩; rw [hw8]; clear hw8))
      have SB : Hid (SliceN w2 (.slice (some ⟨bg, 0, none⟩) 16 bc) 16 nonce ∧ SliceN w2 (.slice (some ⟨V.heap.size, 1, none⟩) 16 16) 16 nonce ∧ SliceN w2 (.slice (some ⟨bg, 0, none⟩) 32 bc) 32 on ∧ M ≤ bc) := ⟨sliceN_cg (takeN B2.out.2.2.1.sl (by have := HN.out; omega)) HN.out.2.2.2.2.2.2.1, jC_nonce B2.out.1 HV.out.2.2.1, takeN B2.out.2.2.1.sl (by have := HN.out; omega), B2.out.2.2.2⟩
      refine wp_region_det 155 [(0, 66), (1, 67), (2, 68), (3, 69), (4, 70), (5, 71), (6, 72), (7, 73), (8, 74), (9, 75), (10, 76), (11, 77), (12, 78), (13, 79), (14, 80), (15, 81), (16, 82)] (b9V (.slice (some ⟨bg, 0, none⟩) M bc) (.slice (some ⟨bg, 0, none⟩) 16 bc) (.slice (some ⟨V.heap.size, 1, none⟩) 16 16) M V.heap.size (strN nonce 16)) (fun _ X => Below w2.heap.size w2 X) (by kernel_rfl) (by kernel_rfl) rfl (by kernel_rfl) (by decide) (by decide) ?_ ?_ ?_
      · exact (Below.refl _ _).drew
      · intro j hj l a X hl hf hdep hl2 hcl _ hT
        match j, hj with
        | 0, _ => exact stepV rfl rfl (execMvB rfl (hf 4 (by decide))) ⟨⟨_, rfl, rfl⟩, hT⟩
        | 1, _ => exact stepV rfl rfl (execNeqE0 rfl (hdep _ rfl 0 rfl _ rfl _ rfl)) ⟨⟨_, rfl, rfl⟩, hT⟩
        | 2, _ => exact stepV rfl rfl (execMvB rfl (hdep _ rfl 1 rfl _ rfl _ rfl)) ⟨⟨_, rfl, rfl⟩, hT⟩
        | 3, _ => exact stepV rfl (wantedOf rfl (yieldedAt rfl rfl (show a.eval (.tmp 68) = .bool false from hdep _ rfl 2 rfl _ rfl _ rfl))) (execMvB rfl (hf 3 (by decide))) ⟨⟨_, rfl, rfl⟩, hT⟩
        | 4, _ => exact stepV rfl (wantedOf rfl (yieldedAt rfl rfl (show a.eval (.tmp 68) = .bool false from hdep _ rfl 2 rfl _ rfl _ rfl))) (execLenV (len := M) rfl (hdep _ rfl 3 rfl _ rfl _ rfl) ⟨_, _, rfl⟩) ⟨⟨_, rfl, rfl⟩, hT⟩
        | 5, _ => exact stepV rfl (wantedOf rfl (yieldedAt rfl rfl (show a.eval (.tmp 68) = .bool false from hdep _ rfl 2 rfl _ rfl _ rfl))) (execMvB rfl (hf 5 (by decide))) ⟨⟨_, rfl, rfl⟩, hT⟩
        | 6, _ => exact stepV rfl (wantedOf rfl (yieldedAt rfl rfl (show a.eval (.tmp 68) = .bool false from hdep _ rfl 2 rfl _ rfl _ rfl))) (execNeqSame rfl (hdep _ rfl 4 rfl _ rfl _ rfl) (hdep _ rfl 5 rfl _ rfl _ rfl)) ⟨⟨_, rfl, rfl⟩, hT⟩
        | 7, _ => exact stepV rfl rfl (execPick (b := false) rfl (hdep _ rfl 2 rfl _ rfl _ rfl) (hdep _ rfl 6 rfl _ rfl _ rfl)) ⟨⟨_, rfl, rfl⟩, hT⟩
        | 8, _ => exact stepV rfl rfl (execMvB rfl (hdep _ rfl 7 rfl _ rfl _ rfl)) ⟨⟨_, rfl, rfl⟩, hT⟩
        | 9, _ => exact stepV rfl (wantedOf rfl (yieldedAt rfl rfl (show a.eval (.tmp 74) = .bool false from hdep _ rfl 8 rfl _ rfl _ rfl))) (execMvB rfl (hf 3 (by decide))) ⟨⟨_, rfl, rfl⟩, hT⟩
        | 10, _ => exact stepV rfl (wantedOf rfl (yieldedAt rfl rfl (show a.eval (.tmp 74) = .bool false from hdep _ rfl 8 rfl _ rfl _ rfl))) (By8.execSlH rfl (hdep _ rfl 9 rfl _ rfl _ rfl) rfl (sl_h16 bg 0 M bc (by have := HN.out; have := SB.out.2.2.2; omega) X)) ⟨⟨_, rfl, rfl⟩, hT⟩
        | 11, _ => exact stepV rfl (wantedOf rfl (yieldedAt rfl rfl (show a.eval (.tmp 74) = .bool false from hdep _ rfl 8 rfl _ rfl _ rfl))) (By8.execStr rfl (hdep _ rfl 10 rfl _ rfl _ rfl) (SB.out.1.on hT)) ⟨⟨_, rfl, rfl⟩, hT⟩
        | 12, _ => exact stepV rfl (wantedOf rfl (yieldedAt rfl rfl (show a.eval (.tmp 74) = .bool false from hdep _ rfl 8 rfl _ rfl _ rfl))) (execFldJ1 rfl (hf 1 (by decide))) ⟨⟨_, rfl, rfl⟩, hT⟩
        | 13, _ => exact stepV rfl (wantedOf rfl (yieldedAt rfl rfl (show a.eval (.tmp 74) = .bool false from hdep _ rfl 8 rfl _ rfl _ rfl))) (execSlice rfl (hdep _ rfl 12 rfl _ rfl _ rfl) (slK _ 1 X)) ⟨⟨_, rfl, rfl⟩, hT⟩
        | 14, _ => exact stepV rfl (wantedOf rfl (yieldedAt rfl rfl (show a.eval (.tmp 74) = .bool false from hdep _ rfl 8 rfl _ rfl _ rfl))) (By8.execStr rfl (hdep _ rfl 13 rfl _ rfl _ rfl) (SB.out.2.1.on hT)) ⟨⟨_, rfl, rfl⟩, hT⟩
        | 15, _ => exact stepV rfl (wantedOf rfl (yieldedAt rfl rfl (show a.eval (.tmp 74) = .bool false from hdep _ rfl 8 rfl _ rfl _ rfl))) (By8.execNeqS rfl (hdep _ rfl 11 rfl _ rfl _ rfl) (hdep _ rfl 14 rfl _ rfl _ rfl)) ⟨⟨_, rfl, rfl⟩, hT⟩
        | 16, _ => exact stepV rfl rfl (execPick (b := false) rfl (hdep _ rfl 8 rfl _ rfl _ rfl) (hdep _ rfl 15 rfl _ rfl _ rfl)) ⟨⟨_, rfl, rfl⟩, hT⟩
        | n + 17, h => exact absurd h (by simp)
      · intro l X hall hT
        have BX : Hid (X.heap[V.heap.size]? = some (.cells (jC (.slice ka 32 kcap) nonce (L : Int) (.slice ia n icap)) 36) ∧ Below V.heap.size V X ∧ SliceZ X (.slice (some ⟨bg, 0, none⟩) M bc) M on ∧ SliceN X (.slice (some ⟨bg, 0, none⟩) 32 bc) 32 on) := ⟨by rw [hT.block _ (Array.getElem?_eq_some_iff.1 B2.out.1).1]; exact B2.out.1, B2.out.2.1.trans (hT.mono B2.out.2.1.size), B2.out.2.2.1.on hT, SB.out.2.2.1.on hT⟩
        obtain ⟨x0, x1, x2, x3⟩ := jC_at BX.out.1
        clear hall hT x1 c0 c2 c3 d0 d2 d3
        simp only [putP, b9V, Act.put, List.setIfInBounds_toArray, List.set_cons_succ, List.set_cons_zero]
        have FINALE : Hid (∀ (W7 : World) (wv : Value) (Pb : Nat) (cv : Value) (_ : SliceN W7 cv 320 nx) (_ : SliceN W7 wv 320 nx), True) := fun _ _ _ _ _ _ => trivial
        clear FINALE
        by_cases h1 : L = 1
        · have i11 : ((L : Int) == 1) = true := by simp; omega
          have PL1 : Hid (_) := PL.out h1
          clear h1
          go_wp2_with (first
            | (go_at_call_of 15 (Value.slice (some ⟨bg, 0, none⟩) M bc); refine (PDo.out X _ BX.out.2.2.1).mono ?_; rintro e w3 ⟨r3, rfl, own3, hb3⟩; obtain ⟨a3, c3, rfl⟩ := own_shapeJ own3; have S3 : Hid (SliceZ w3 (.slice a3 320 c3) 320 cw ∧ Below X.heap.size X w3 ∧ Below V.heap.size V w3) := ⟨own_sliceZ own3 (fun j _ => HN.out.2.2.2.2.1 j), hb3, BX.out.2.1.trans (hb3.mono BX.out.2.1.size)⟩; obtain ⟨y0, y1, y2, y3⟩ := jC_at (W := w3) (by rw [hb3.block _ (Array.getElem?_eq_some_iff.1 BX.out.1).1]; exact BX.out.1); clear own3 hb3 y1)
            | (go_at_call 16; refine (PE.out w3 _ S3.out.2.2 S3.out.1).mono ?_; rintro e w4 ⟨r4, rfl, own4, hb4⟩; obtain ⟨a4, c4, rfl⟩ := own_shapeJ own4; have S4 : Hid (SliceN w4 (.slice a4 320 c4) 320 nx ∧ Below X.heap.size X w4) := ⟨own_slice own4 (fun j _ => HN.out.2.2.2.2.2.1 j), S3.out.2.1.trans (hb4.mono S3.out.2.1.size)⟩; clear own4 hb4)
            | (refine atStore 44 (.tmp 8) (.tmp 95) rfl ?_; go_must (refine wpList_exS rfl (execStAll (cells := pC (.slice a4 320 c4) T) rfl rfl rfl (heapNew w4 _) (by rw [pC_size, pC_size]) (sizeP _ _) (pC_one _ rfl)) ?_; obtain ⟨W5, hW5⟩ : ∃ W5, (w4.alloc (.cells (pC (.slice none 0 0) fun _ => 0) 44)).setRow w4.heap.size (pC (.slice a4 320 c4) T) = W5 := ⟨_, rfl⟩; have r5 : W5.heap[w4.heap.size]? = some (.cells (pC (.slice a4 320 c4) T) 44) := (by rw [← hW5]; exact setRow_heap _ _ _ _ _ _ (heapNew w4 _)); have b5 : Below w4.heap.size w4 W5 := (by rw [← hW5]; exact below4 (belNew w4 _) (Nat.le_refl _) _); have bX5 := S4.out.2.trans (b5.mono S4.out.2.size); have S5 : Hid (W5.heap[w4.heap.size]? = some (.cells (pC (.slice a4 320 c4) T) 44) ∧ SliceN W5 (.slice a4 320 c4) 320 nx ∧ Below X.heap.size X W5 ∧ SliceZ W5 (.slice ia n icap) n inner) := ⟨r5, S4.out.1.on b5, bX5, HV.out.2.2.2.on (BX.out.2.1.trans (bX5.mono BX.out.2.1.size))⟩; obtain ⟨z0, z1, z2, z3⟩ := jC_at (W := W5) (by rw [bX5.block _ (Array.getElem?_eq_some_iff.1 BX.out.1).1]; exact BX.out.1); rw [hW5]; clear r5 b5 bX5 hW5 z1))
            | (go_at_call_of 15 (Value.slice ia n icap); refine (PDi.out W5 _ S5.out.2.2.2).mono ?_; rintro e w6 ⟨r6, rfl, sl6, ⟨a6, c6, rfl⟩, hb6⟩; have bX6 := S5.out.2.2.1.trans (hb6.mono S5.out.2.2.1.size); have bV6 := BX.out.2.1.trans (bX6.mono BX.out.2.1.size); have j6 : w6.heap[V.heap.size]? = some (.cells (jC (.slice ka 32 kcap) nonce (L : Int) (.slice ia n icap)) 36) := (by rw [bX6.block _ (Array.getElem?_eq_some_iff.1 BX.out.1).1]; exact BX.out.1); have S6 : Hid (w6.heap[w4.heap.size]? = some (.cells (pC (.slice a4 320 c4) T) 44) ∧ SliceN w6 (.slice a4 320 c4) 320 nx ∧ Below X.heap.size X w6 ∧ SliceZ w6 (.slice ia n icap) n inner ∧ w6.heap[V.heap.size]? = some (.cells (jC (.slice ka 32 kcap) nonce (L : Int) (.slice ia n icap)) 36) ∧ Below V.heap.size V w6) := ⟨(by rw [hb6.block _ (Array.getElem?_eq_some_iff.1 S5.out.1).1]; exact S5.out.1), S5.out.2.1.on hb6, bX6, S5.out.2.2.2.on hb6, j6, bV6⟩; obtain ⟨v0, v1, v2, v3⟩ := jC_at j6; have C6 : Hid (_) := v1; clear hb6 bX6 bV6 j6 v1 sl6)
            | (go_at_call 17; refine (PL1.out w6 _ S6.out.2.2.2.1).mono ?_; rintro e w7 ⟨r7, rfl, sl7, hb7⟩; obtain ⟨a7, c7, rfl, _⟩ := id sl7.shape; have bX7 := S6.out.2.2.1.trans (hb7.mono S6.out.2.2.1.size); have bV7 := BX.out.2.1.trans (bX7.mono BX.out.2.1.size); have F6 : Hid (w7.heap[w4.heap.size]? = some (.cells (pC (.slice a4 320 c4) T) 44) ∧ SliceN w7 (.slice a4 320 c4) 320 nx ∧ Below X.heap.size X w7 ∧ Below V.heap.size V w7 ∧ ∃ aw cw, Value.slice a7 320 c7 = .slice aw 320 cw ∧ SliceN w7 (.slice a7 320 c7) 320 nx) := ⟨(by rw [hb7.block _ (Array.getElem?_eq_some_iff.1 S6.out.1).1]; exact S6.out.1), S6.out.2.1.on hb7, bX7, bV7, _, _, rfl, sl7⟩; obtain ⟨v0', v1', v2', v3'⟩ := jC_at (W := w7) (by rw [bX7.block _ (Array.getElem?_eq_some_iff.1 BX.out.1).1]; exact BX.out.1); have C7 : Hid (_) := v1'; clear hb7 bX7 bV7 v1' sl7)
            | (refine atLoad 25 (.tmp 115) rfl ?_; go_must (refine wpList_ex rfl (execLdList (k := 16) (q := nonce) rfl rfl (by first | exact C7.out | exact C6.out) Tryd.underlying25 rfl (by kernel_rfl)) ?_))
            | (go_at_call 11; refine (PDv.out _ F6.out.2.2.2.1).mono ?_; rintro e w9 ⟨rfl, hb9⟩; have B9 : Hid (_) := hb9; clear hb9)
            | (refine atStore 28 (.tmp 12) (.tmp 118) rfl ?_; go_must (refine wpList_exS rfl (execStAll (cells := bA 80 D) rfl rfl rfl (heapNew w9 _) (by rw [bA_size, bA_size]) (size80 _) (bA_one _ _)) ?_; obtain ⟨W10, hW10⟩ : ∃ W10, (w9.alloc (.cells (bA 80 fun _ => 0) 28)).setRow w9.heap.size (bA 80 D) = W10 := ⟨_, rfl⟩; have k10 : W10.heap[w9.heap.size]? = some (.cells (bA 80 D) 28) := (by rw [← hW10]; exact setRow_heap _ _ _ _ _ _ (heapNew w9 _)); have b10 : Below w9.heap.size w9 W10 := (by rw [← hW10]; exact below4 (belNew w9 _) (Nat.le_refl _) _); have b610 := B9.out.trans (b10.mono B9.out.size); obtain ⟨aw, cwv, ew, slw⟩ := F6.out.2.2.2.2; have bX10 := F6.out.2.2.1.trans (b610.mono F6.out.2.2.1.size); have S10 : Hid (W10.heap[w9.heap.size]? = some (.cells (bA 80 D) 28) ∧ W10.heap[w4.heap.size]? = some (.cells (pC (.slice a4 320 c4) T) 44) ∧ SliceN W10 (.slice a4 320 c4) 320 nx ∧ SliceN W10 (.slice aw 320 cwv) 320 nx ∧ SliceN W10 (.slice (some ⟨bg, 0, none⟩) 32 bc) 32 on ∧ Below V.heap.size V W10) := ⟨k10, (by rw [b610.block _ (Array.getElem?_eq_some_iff.1 F6.out.1).1]; exact F6.out.1), F6.out.2.1.on b610, (by rw [← ew]; exact slw.on b610), BX.out.2.2.2.on bX10, F6.out.2.2.2.1.trans (b610.mono F6.out.2.2.2.1.size)⟩; rw [hW10]; rw [ew]; clear k10 b10 b610 bX10 hW10 slw ew)))
          refine wp_region_detX 155 [(0, 120), (1, 121), (2, 122), (3, 123), (4, 124), (5, 14)] (bkT w9.heap.size (.slice (some ⟨w9.heap.size, 48, none⟩) 32 32) (.slice (some ⟨bg, 0, none⟩) M bc) (.slice (some ⟨bg, 0, none⟩) 32 bc) T W10) (fun _ => undef) (by kernel_rfl) (by kernel_rfl) rfl (by kernel_rfl) (by decide) (by decide) ?_ ?_ ?_
          · exact ⟨fun q => (by cases q), fun q => (by cases q), fun q => (by cases q), fun q => (by cases q), fun q => (by cases q), fun q => (by cases q), (Below.refl _ _).drew⟩
          · intro j hj l x a W hl hf hdep hl2 hcl _ hT
            obtain ⟨t0, t1, t2, t3, t4, t5, tb⟩ := hT
            have n6 : l 5 = false → l 6 = false := fun q => by
              cases h : l 6 with
              | false => rfl
              | true =>
                have := hcl 6 _ rfl h 5 rfl
                rw [q] at this
                cases this
            have n6' : l 4 = false → l 6 = false := fun q => by
              cases h : l 6 with
              | false => rfl
              | true =>
                have := hcl 6 _ rfl h 4 rfl
                rw [q] at this
                cases this
            match j, hj with
            | 0, _ => exact stepV rfl rfl (execFldK2 rfl (hf 12 (by decide))) ⟨_, ⟨_, rfl, rfl⟩, fun _ => rfl, t1, t2, t3, t4, t5, tb⟩
            | 1, _ => exact stepV rfl rfl (execSlice rfl ((hdep _ rfl 0 rfl _ rfl _ rfl).trans (t0 (hl2 _ rfl 0 rfl))) (slK2 _ 48 W)) ⟨_, ⟨_, rfl, rfl⟩, t0, fun _ => rfl, t2, t3, t4, t5, tb⟩
            | 2, _ => exact stepV rfl rfl (execMvB rfl (hf 3 (by decide))) ⟨_, ⟨_, rfl, rfl⟩, t0, t1, fun _ => rfl, t3, t4, t5, tb⟩
            | 3, _ => exact stepV rfl rfl (By8.execSlH rfl ((hdep _ rfl 2 rfl _ rfl _ rfl).trans (t2 (hl2 _ rfl 2 rfl))) rfl (sl_h32 bg 0 M bc (by have := HN.out; have := SB.out.2.2.2; omega) W)) ⟨_, ⟨_, rfl, rfl⟩, t0, t1, t2, fun _ => rfl, t4, t5, tb⟩
            | 4, _ =>
              refine stepC rfl rfl (execCall2 Tryd.func18 (by kernel_rfl) (by kernel_rfl) rfl ((hdep _ rfl 1 rfl _ rfl _ rfl).trans (t1 (hl2 _ rfl 1 rfl))) ((hdep _ rfl 3 rfl _ rfl _ rfl).trans (t3 (hl2 _ rfl 3 rfl)))) (PT.out W _ _ (S10.out.2.2.2.2.2.trans (tb.mono S10.out.2.2.2.2.2.size)) (cells_slice (by have := (Array.getElem?_eq_some_iff.1 S10.out.1).1; have := tb.size; omega) (fun j hj => by rw [cell_of_row _ _ _ _ _ _ (by rw [tb.block _ (Array.getElem?_eq_some_iff.1 S10.out.1).1]; exact S10.out.1)]; exact bA_at 80 D (by omega)) (fun j _ => HN.out.2.2.2.2.2.2.2 _) (by omega)) (S10.out.2.2.2.2.1.on tb)) fun e w' h => ?_
              obtain ⟨e1, bw⟩ := h
              refine ⟨_, e1, _, ⟨_, rfl, rfl⟩, t0, t1, t2, t3, fun _ => rfl, fun q => ?_, tb.trans (bw.mono tb.size)⟩
              obtain ⟨I, e6, lI, r1, r2⟩ := t5 q
              refine ⟨I, e6, lI, fun q => ?_, fun q => ?_⟩
              · have := r1 q
                rw [bw.block _ (Array.getElem?_eq_some_iff.1 this).1]
                exact this
              · have q' : l 6 = true := q
                rw [n6' hl] at q'; cases q'
            | 5, _ =>
              refine stepV rfl rfl (execAl32 rfl) ⟨_, ⟨_, rfl, rfl⟩, t0, t1, t2, t3, t4, fun _ => ⟨W.heap.size, rfl, tb.size, fun _ => heapNew _ _, fun q => ?_⟩, tb.trans ((belNew W _).mono tb.size)⟩
              have q' : l 6 = true := q
              rw [n6 hl] at q'; cases q'
            | 6, _ =>
              obtain ⟨I, e6, lI, r1, _⟩ := t5 (hl2 _ rfl 5 rfl)
              have r1 := r1 hl
              refine stepS rfl rfl (execStAll (cells := bA 32 T) rfl ((hdep _ rfl 5 rfl _ rfl _ rfl).trans e6) ((hdep _ rfl 4 rfl _ rfl _ rfl).trans (t4 (hl2 _ rfl 4 rfl))) r1 (by rw [bA_size, bA_size]) (size32 _) (bA_one _ _)) ⟨_, ⟨_, rfl, rfl⟩, t0, t1, t2, t3, t4, fun _ => ⟨I, e6, lI, fun q => (by cases q), fun _ => setRow_heap _ _ _ _ _ _ r1⟩, below4 tb lI _⟩
            | n + 7, h => exact absurd h (by simp)
          · intro l x W hall hT
            obtain ⟨t0, t1, t2, t3, t4, t5, tb⟩ := hT
            have e0 := t0 (hall 0 (by simp))
            have e1 := t1 (hall 1 (by simp))
            have e2 := t2 (hall 2 (by simp))
            have e3 := t3 (hall 3 (by simp))
            have e4 := t4 (hall 4 (by simp))
            obtain ⟨I, e5, lI, _, rI⟩ := t5 (hall 5 (by simp))
            have rI := rI (hall 6 (by simp))
            have SF : Hid (SliceN W (.slice a4 320 c4) 320 nx ∧ SliceN W (.slice aw 320 cwv) 320 nx ∧ Below V.heap.size V W) := ⟨S10.out.2.2.1.on tb, S10.out.2.2.2.1.on tb, S10.out.2.2.2.2.2.trans (tb.mono S10.out.2.2.2.2.2.size)⟩
            have PR : Hid (∀ X, Below W.heap.size W X → X.heap[w4.heap.size]? = some (.cells (pC (.slice a4 320 c4) T) 44)) := fun X hX => by
              have q : W.heap[w4.heap.size]? = some (.cells (pC (.slice a4 320 c4) T) 44) := by rw [tb.block _ (Array.getElem?_eq_some_iff.1 S10.out.2.1).1]; exact S10.out.2.1
              rw [hX.block _ (Array.getElem?_eq_some_iff.1 q).1]
              exact q
            have DR : Hid (∀ X, Below W.heap.size W X → X.heap[I]? = some (.cells (bA 32 T) 26)) := fun X hX => by
              rw [hX.block _ (Array.getElem?_eq_some_iff.1 rI).1]
              exact rI
            clear hall t0 t1 t2 t3 t4 t5 tb lI rI
            simp only [putP, e0, e1, e2, e3, e4, e5, Act.put, List.setIfInBounds_toArray, List.set_cons_succ, List.set_cons_zero]
            clear e0 e1 e2 e3 e4 e5
            go_wp2_with fail
            refine wp_region_det 155 [(0, 125), (1, 126), (2, 127), (3, 128), (4, 129), (5, 130), (6, 131), (7, 132), (8, 133), (9, 134), (10, 135), (11, 136), (12, 137), (13, 138), (14, 139), (15, 140), (16, 141), (17, 142), (18, 143), (19, 144), (20, 145), (21, 146), (22, 147), (23, 148), (24, 149), (25, 150), (26, 151), (27, 152), (28, 153), (29, 154), (30, 2)] (b18V w4.heap.size I (.slice a4 320 c4) (.slice aw 320 cwv) (strN nx 320) (strN T 16)) (fun _ X => Below W.heap.size W X) (by kernel_rfl) (by kernel_rfl) rfl (by kernel_rfl) (by decide) (by decide) ?_ ?_ ?_
            · exact (Below.refl _ _).drew
            · intro j hj l a X hl hf hdep hl2 hcl _ hT
              match j, hj with
              | 0, _ => exact stepV rfl rfl (execMvB rfl (hf 7 (by decide))) ⟨⟨_, rfl, rfl⟩, hT⟩
              | 1, _ => exact stepV rfl rfl (execEqlE0 rfl (hdep _ rfl 0 rfl _ rfl _ rfl)) ⟨⟨_, rfl, rfl⟩, hT⟩
              | 2, _ => exact stepV rfl rfl (execMvB rfl (hdep _ rfl 1 rfl _ rfl _ rfl)) ⟨⟨_, rfl, rfl⟩, hT⟩
              | 3, _ => exact stepV rfl (wantedOf rfl (yieldedAt rfl rfl (show a.eval (.tmp 127) = .bool true from hdep _ rfl 2 rfl _ rfl _ rfl))) (execMvB rfl (hf 9 (by decide))) ⟨⟨_, rfl, rfl⟩, hT⟩
              | 4, _ => exact stepV rfl (wantedOf rfl (yieldedAt rfl rfl (show a.eval (.tmp 127) = .bool true from hdep _ rfl 2 rfl _ rfl _ rfl))) (execEqlE0 rfl (hdep _ rfl 3 rfl _ rfl _ rfl)) ⟨⟨_, rfl, rfl⟩, hT⟩
              | 5, _ => exact stepV rfl rfl (execPick (b := true) rfl (hdep _ rfl 2 rfl _ rfl _ rfl) (hdep _ rfl 4 rfl _ rfl _ rfl)) ⟨⟨_, rfl, rfl⟩, hT⟩
              | 6, _ => exact stepV rfl rfl (execMvB rfl (hdep _ rfl 5 rfl _ rfl _ rfl)) ⟨⟨_, rfl, rfl⟩, hT⟩
              | 7, _ => exact stepV rfl (wantedOf rfl (yieldedAt rfl rfl (show a.eval (.tmp 131) = .bool true from hdep _ rfl 6 rfl _ rfl _ rfl))) (execMvB rfl (hf 11 (by decide))) ⟨⟨_, rfl, rfl⟩, hT⟩
              | 8, _ => exact stepV rfl (wantedOf rfl (yieldedAt rfl rfl (show a.eval (.tmp 131) = .bool true from hdep _ rfl 6 rfl _ rfl _ rfl))) (execEqlE0 rfl (hdep _ rfl 7 rfl _ rfl _ rfl)) ⟨⟨_, rfl, rfl⟩, hT⟩
              | 9, _ => exact stepV rfl rfl (execPick (b := true) rfl (hdep _ rfl 6 rfl _ rfl _ rfl) (hdep _ rfl 8 rfl _ rfl _ rfl)) ⟨⟨_, rfl, rfl⟩, hT⟩
              | 10, _ => exact stepV rfl rfl (execMvB rfl (hdep _ rfl 9 rfl _ rfl _ rfl)) ⟨⟨_, rfl, rfl⟩, hT⟩
              | 11, _ => exact stepV rfl (wantedOf rfl (yieldedAt rfl rfl (show a.eval (.tmp 135) = .bool true from hdep _ rfl 10 rfl _ rfl _ rfl))) (execMvB rfl (hf 13 (by decide))) ⟨⟨_, rfl, rfl⟩, hT⟩
              | 12, _ => exact stepV rfl (wantedOf rfl (yieldedAt rfl rfl (show a.eval (.tmp 135) = .bool true from hdep _ rfl 10 rfl _ rfl _ rfl))) (execEqlE0 rfl (hdep _ rfl 11 rfl _ rfl _ rfl)) ⟨⟨_, rfl, rfl⟩, hT⟩
              | 13, _ => exact stepV rfl rfl (execPick (b := true) rfl (hdep _ rfl 10 rfl _ rfl _ rfl) (hdep _ rfl 12 rfl _ rfl _ rfl)) ⟨⟨_, rfl, rfl⟩, hT⟩
              | 14, _ => exact stepV rfl rfl (execMvB rfl (hdep _ rfl 13 rfl _ rfl _ rfl)) ⟨⟨_, rfl, rfl⟩, hT⟩
              | 15, _ => exact stepV rfl (wantedOf rfl (yieldedAt rfl rfl (show a.eval (.tmp 139) = .bool true from hdep _ rfl 14 rfl _ rfl _ rfl))) (execFldP0 rfl (hf 8 (by decide))) ⟨⟨_, rfl, rfl⟩, hT⟩
              | 16, _ => exact stepV rfl (wantedOf rfl (yieldedAt rfl rfl (show a.eval (.tmp 139) = .bool true from hdep _ rfl 14 rfl _ rfl _ rfl))) (execLd24 rfl (hdep _ rfl 15 rfl _ rfl _ rfl) (pC_at (PR.out X hT))) ⟨⟨_, rfl, rfl⟩, hT⟩
              | 17, _ => exact stepV rfl (wantedOf rfl (yieldedAt rfl rfl (show a.eval (.tmp 139) = .bool true from hdep _ rfl 14 rfl _ rfl _ rfl))) (By8.execStr rfl (hdep _ rfl 16 rfl _ rfl _ rfl) (SF.out.1.on hT)) ⟨⟨_, rfl, rfl⟩, hT⟩
              | 18, _ => exact stepV rfl (wantedOf rfl (yieldedAt rfl rfl (show a.eval (.tmp 139) = .bool true from hdep _ rfl 14 rfl _ rfl _ rfl))) (execMvB rfl (hf 10 (by decide))) ⟨⟨_, rfl, rfl⟩, hT⟩
              | 19, _ => exact stepV rfl (wantedOf rfl (yieldedAt rfl rfl (show a.eval (.tmp 139) = .bool true from hdep _ rfl 14 rfl _ rfl _ rfl))) (By8.execStr rfl (hdep _ rfl 18 rfl _ rfl _ rfl) (SF.out.2.1.on hT)) ⟨⟨_, rfl, rfl⟩, hT⟩
              | 20, _ => exact stepV rfl (wantedOf rfl (yieldedAt rfl rfl (show a.eval (.tmp 139) = .bool true from hdep _ rfl 14 rfl _ rfl _ rfl))) (By8.execEqlS rfl (hdep _ rfl 17 rfl _ rfl _ rfl) (hdep _ rfl 19 rfl _ rfl _ rfl)) ⟨⟨_, rfl, rfl⟩, hT⟩
              | 21, _ => exact stepV rfl rfl (execPick (b := true) rfl (hdep _ rfl 14 rfl _ rfl _ rfl) (hdep _ rfl 20 rfl _ rfl _ rfl)) ⟨⟨_, rfl, rfl⟩, hT⟩
              | 22, _ => exact stepV rfl rfl (execMvB rfl (hdep _ rfl 21 rfl _ rfl _ rfl)) ⟨⟨_, rfl, rfl⟩, hT⟩
              | 23, _ => exact stepV rfl (wantedOf rfl (yieldedAt rfl rfl (show a.eval (.tmp 147) = .bool true from hdep _ rfl 22 rfl _ rfl _ rfl))) (execFldP1 rfl (hf 8 (by decide))) ⟨⟨_, rfl, rfl⟩, hT⟩
              | 24, _ => exact stepV rfl (wantedOf rfl (yieldedAt rfl rfl (show a.eval (.tmp 147) = .bool true from hdep _ rfl 22 rfl _ rfl _ rfl))) (execSlice rfl (hdep _ rfl 23 rfl _ rfl _ rfl) (slK _ 1 X)) ⟨⟨_, rfl, rfl⟩, hT⟩
              | 25, _ => exact stepV rfl (wantedOf rfl (yieldedAt rfl rfl (show a.eval (.tmp 147) = .bool true from hdep _ rfl 22 rfl _ rfl _ rfl))) (By8.execStr rfl (hdep _ rfl 24 rfl _ rfl _ rfl) (pC_slice (PR.out X hT) TL.out)) ⟨⟨_, rfl, rfl⟩, hT⟩
              | 26, _ => exact stepV rfl (wantedOf rfl (yieldedAt rfl rfl (show a.eval (.tmp 147) = .bool true from hdep _ rfl 22 rfl _ rfl _ rfl))) (By8.execSlH rfl (hf 14 (by decide)) rfl (sl32h _ X)) ⟨⟨_, rfl, rfl⟩, hT⟩
              | 27, _ => exact stepV rfl (wantedOf rfl (yieldedAt rfl rfl (show a.eval (.tmp 147) = .bool true from hdep _ rfl 22 rfl _ rfl _ rfl))) (By8.execStr rfl (hdep _ rfl 26 rfl _ rfl _ rfl) (half_slice (DR.out X hT) TL.out)) ⟨⟨_, rfl, rfl⟩, hT⟩
              | 28, _ => exact stepV rfl (wantedOf rfl (yieldedAt rfl rfl (show a.eval (.tmp 147) = .bool true from hdep _ rfl 22 rfl _ rfl _ rfl))) (By8.execEqlS rfl (hdep _ rfl 25 rfl _ rfl _ rfl) (hdep _ rfl 27 rfl _ rfl _ rfl)) ⟨⟨_, rfl, rfl⟩, hT⟩
              | 29, _ => exact stepV rfl rfl (execPick (b := true) rfl (hdep _ rfl 22 rfl _ rfl _ rfl) (hdep _ rfl 28 rfl _ rfl _ rfl)) ⟨⟨_, rfl, rfl⟩, hT⟩
              | 30, _ => exact stepV rfl rfl (execAsgB rfl (hdep _ rfl 29 rfl _ rfl _ rfl)) ⟨⟨_, rfl, rfl⟩, hT⟩
              | n + 31, h => exact absurd h (by simp)
            · intro l X hall hT
              have BF : Hid (Below V.heap.size V X) := SF.out.2.2.trans (hT.mono SF.out.2.2.size)
              clear hall hT
              simp only [putP, b18V, Act.put, List.setIfInBounds_toArray, List.set_cons_succ, List.set_cons_zero]
              go_wp2
              go_ret
              exact ⟨rfl, BF.out⟩
        · have i11 : ((L : Int) == 1) = false := by simp; omega
          have L1 : Hid (L ≠ 1) := h1
          clear h1
          go_wp2_with (first
            | (go_at_call_of 15 (Value.slice (some ⟨bg, 0, none⟩) M bc); refine (PDo.out X _ BX.out.2.2.1).mono ?_; rintro e w3 ⟨r3, rfl, own3, hb3⟩; obtain ⟨a3, c3, rfl⟩ := own_shapeJ own3; have S3 : Hid (SliceZ w3 (.slice a3 320 c3) 320 cw ∧ Below X.heap.size X w3 ∧ Below V.heap.size V w3) := ⟨own_sliceZ own3 (fun j _ => HN.out.2.2.2.2.1 j), hb3, BX.out.2.1.trans (hb3.mono BX.out.2.1.size)⟩; obtain ⟨y0, y1, y2, y3⟩ := jC_at (W := w3) (by rw [hb3.block _ (Array.getElem?_eq_some_iff.1 BX.out.1).1]; exact BX.out.1); clear own3 hb3 y1)
            | (go_at_call 16; refine (PE.out w3 _ S3.out.2.2 S3.out.1).mono ?_; rintro e w4 ⟨r4, rfl, own4, hb4⟩; obtain ⟨a4, c4, rfl⟩ := own_shapeJ own4; have S4 : Hid (SliceN w4 (.slice a4 320 c4) 320 nx ∧ Below X.heap.size X w4) := ⟨own_slice own4 (fun j _ => HN.out.2.2.2.2.2.1 j), S3.out.2.1.trans (hb4.mono S3.out.2.1.size)⟩; clear own4 hb4)
            | (refine atStore 44 (.tmp 8) (.tmp 95) rfl ?_; go_must (refine wpList_exS rfl (execStAll (cells := pC (.slice a4 320 c4) T) rfl rfl rfl (heapNew w4 _) (by rw [pC_size, pC_size]) (sizeP _ _) (pC_one _ rfl)) ?_; obtain ⟨W5, hW5⟩ : ∃ W5, (w4.alloc (.cells (pC (.slice none 0 0) fun _ => 0) 44)).setRow w4.heap.size (pC (.slice a4 320 c4) T) = W5 := ⟨_, rfl⟩; have r5 : W5.heap[w4.heap.size]? = some (.cells (pC (.slice a4 320 c4) T) 44) := (by rw [← hW5]; exact setRow_heap _ _ _ _ _ _ (heapNew w4 _)); have b5 : Below w4.heap.size w4 W5 := (by rw [← hW5]; exact below4 (belNew w4 _) (Nat.le_refl _) _); have bX5 := S4.out.2.trans (b5.mono S4.out.2.size); have S5 : Hid (W5.heap[w4.heap.size]? = some (.cells (pC (.slice a4 320 c4) T) 44) ∧ SliceN W5 (.slice a4 320 c4) 320 nx ∧ Below X.heap.size X W5 ∧ SliceZ W5 (.slice ia n icap) n inner) := ⟨r5, S4.out.1.on b5, bX5, HV.out.2.2.2.on (BX.out.2.1.trans (bX5.mono BX.out.2.1.size))⟩; obtain ⟨z0, z1, z2, z3⟩ := jC_at (W := W5) (by rw [bX5.block _ (Array.getElem?_eq_some_iff.1 BX.out.1).1]; exact BX.out.1); rw [hW5]; clear r5 b5 bX5 hW5 z1))
            | (go_at_call_of 15 (Value.slice ia n icap); refine (PDi.out W5 _ S5.out.2.2.2).mono ?_; rintro e w6 ⟨r6, rfl, sl6, ⟨a6, c6, rfl⟩, hb6⟩; have bX6 := S5.out.2.2.1.trans (hb6.mono S5.out.2.2.1.size); have bV6 := BX.out.2.1.trans (bX6.mono BX.out.2.1.size); have j6 : w6.heap[V.heap.size]? = some (.cells (jC (.slice ka 32 kcap) nonce (L : Int) (.slice ia n icap)) 36) := (by rw [bX6.block _ (Array.getElem?_eq_some_iff.1 BX.out.1).1]; exact BX.out.1); have S6 : Hid (w6.heap[w4.heap.size]? = some (.cells (pC (.slice a4 320 c4) T) 44) ∧ SliceN w6 (.slice a4 320 c4) 320 nx ∧ Below X.heap.size X w6 ∧ SliceZ w6 (.slice ia n icap) n inner ∧ w6.heap[V.heap.size]? = some (.cells (jC (.slice ka 32 kcap) nonce (L : Int) (.slice ia n icap)) 36) ∧ Below V.heap.size V w6) := ⟨(by rw [hb6.block _ (Array.getElem?_eq_some_iff.1 S5.out.1).1]; exact S5.out.1), S5.out.2.1.on hb6, bX6, S5.out.2.2.2.on hb6, j6, bV6⟩; have F6 : Hid (w6.heap[w4.heap.size]? = some (.cells (pC (.slice a4 320 c4) T) 44) ∧ SliceN w6 (.slice a4 320 c4) 320 nx ∧ Below X.heap.size X w6 ∧ Below V.heap.size V w6 ∧ ∃ aw cw, Value.slice a6 320 c6 = .slice aw 320 cw ∧ SliceN w6 (.slice a6 320 c6) 320 nx) := ⟨S6.out.1, S6.out.2.1, bX6, bV6, _, _, rfl, sl6 L1.out⟩; obtain ⟨v0, v1, v2, v3⟩ := jC_at j6; have C6 : Hid (_) := v1; clear hb6 bX6 bV6 j6 v1 sl6)
            | (refine atLoad 25 (.tmp 115) rfl ?_; go_must (refine wpList_ex rfl (execLdList (k := 16) (q := nonce) rfl rfl (by first | exact C7.out | exact C6.out) Tryd.underlying25 rfl (by kernel_rfl)) ?_))
            | (go_at_call 11; refine (PDv.out _ F6.out.2.2.2.1).mono ?_; rintro e w9 ⟨rfl, hb9⟩; have B9 : Hid (_) := hb9; clear hb9)
            | (refine atStore 28 (.tmp 12) (.tmp 118) rfl ?_; go_must (refine wpList_exS rfl (execStAll (cells := bA 80 D) rfl rfl rfl (heapNew w9 _) (by rw [bA_size, bA_size]) (size80 _) (bA_one _ _)) ?_; obtain ⟨W10, hW10⟩ : ∃ W10, (w9.alloc (.cells (bA 80 fun _ => 0) 28)).setRow w9.heap.size (bA 80 D) = W10 := ⟨_, rfl⟩; have k10 : W10.heap[w9.heap.size]? = some (.cells (bA 80 D) 28) := (by rw [← hW10]; exact setRow_heap _ _ _ _ _ _ (heapNew w9 _)); have b10 : Below w9.heap.size w9 W10 := (by rw [← hW10]; exact below4 (belNew w9 _) (Nat.le_refl _) _); have b610 := B9.out.trans (b10.mono B9.out.size); obtain ⟨aw, cwv, ew, slw⟩ := F6.out.2.2.2.2; have bX10 := F6.out.2.2.1.trans (b610.mono F6.out.2.2.1.size); have S10 : Hid (W10.heap[w9.heap.size]? = some (.cells (bA 80 D) 28) ∧ W10.heap[w4.heap.size]? = some (.cells (pC (.slice a4 320 c4) T) 44) ∧ SliceN W10 (.slice a4 320 c4) 320 nx ∧ SliceN W10 (.slice aw 320 cwv) 320 nx ∧ SliceN W10 (.slice (some ⟨bg, 0, none⟩) 32 bc) 32 on ∧ Below V.heap.size V W10) := ⟨k10, (by rw [b610.block _ (Array.getElem?_eq_some_iff.1 F6.out.1).1]; exact F6.out.1), F6.out.2.1.on b610, (by rw [← ew]; exact slw.on b610), BX.out.2.2.2.on bX10, F6.out.2.2.2.1.trans (b610.mono F6.out.2.2.2.1.size)⟩; rw [hW10]; rw [ew]; clear k10 b10 b610 bX10 hW10 slw ew)))
          refine wp_region_detX 155 [(0, 120), (1, 121), (2, 122), (3, 123), (4, 124), (5, 14)] (bkT w9.heap.size (.slice (some ⟨w9.heap.size, 48, none⟩) 32 32) (.slice (some ⟨bg, 0, none⟩) M bc) (.slice (some ⟨bg, 0, none⟩) 32 bc) T W10) (fun _ => undef) (by kernel_rfl) (by kernel_rfl) rfl (by kernel_rfl) (by decide) (by decide) ?_ ?_ ?_
          · exact ⟨fun q => (by cases q), fun q => (by cases q), fun q => (by cases q), fun q => (by cases q), fun q => (by cases q), fun q => (by cases q), (Below.refl _ _).drew⟩
          · intro j hj l x a W hl hf hdep hl2 hcl _ hT
            obtain ⟨t0, t1, t2, t3, t4, t5, tb⟩ := hT
            have n6 : l 5 = false → l 6 = false := fun q => by
              cases h : l 6 with
              | false => rfl
              | true =>
                have := hcl 6 _ rfl h 5 rfl
                rw [q] at this
                cases this
            have n6' : l 4 = false → l 6 = false := fun q => by
              cases h : l 6 with
              | false => rfl
              | true =>
                have := hcl 6 _ rfl h 4 rfl
                rw [q] at this
                cases this
            match j, hj with
            | 0, _ => exact stepV rfl rfl (execFldK2 rfl (hf 12 (by decide))) ⟨_, ⟨_, rfl, rfl⟩, fun _ => rfl, t1, t2, t3, t4, t5, tb⟩
            | 1, _ => exact stepV rfl rfl (execSlice rfl ((hdep _ rfl 0 rfl _ rfl _ rfl).trans (t0 (hl2 _ rfl 0 rfl))) (slK2 _ 48 W)) ⟨_, ⟨_, rfl, rfl⟩, t0, fun _ => rfl, t2, t3, t4, t5, tb⟩
            | 2, _ => exact stepV rfl rfl (execMvB rfl (hf 3 (by decide))) ⟨_, ⟨_, rfl, rfl⟩, t0, t1, fun _ => rfl, t3, t4, t5, tb⟩
            | 3, _ => exact stepV rfl rfl (By8.execSlH rfl ((hdep _ rfl 2 rfl _ rfl _ rfl).trans (t2 (hl2 _ rfl 2 rfl))) rfl (sl_h32 bg 0 M bc (by have := HN.out; have := SB.out.2.2.2; omega) W)) ⟨_, ⟨_, rfl, rfl⟩, t0, t1, t2, fun _ => rfl, t4, t5, tb⟩
            | 4, _ =>
              refine stepC rfl rfl (execCall2 Tryd.func18 (by kernel_rfl) (by kernel_rfl) rfl ((hdep _ rfl 1 rfl _ rfl _ rfl).trans (t1 (hl2 _ rfl 1 rfl))) ((hdep _ rfl 3 rfl _ rfl _ rfl).trans (t3 (hl2 _ rfl 3 rfl)))) (PT.out W _ _ (S10.out.2.2.2.2.2.trans (tb.mono S10.out.2.2.2.2.2.size)) (cells_slice (by have := (Array.getElem?_eq_some_iff.1 S10.out.1).1; have := tb.size; omega) (fun j hj => by rw [cell_of_row _ _ _ _ _ _ (by rw [tb.block _ (Array.getElem?_eq_some_iff.1 S10.out.1).1]; exact S10.out.1)]; exact bA_at 80 D (by omega)) (fun j _ => HN.out.2.2.2.2.2.2.2 _) (by omega)) (S10.out.2.2.2.2.1.on tb)) fun e w' h => ?_
              obtain ⟨e1, bw⟩ := h
              refine ⟨_, e1, _, ⟨_, rfl, rfl⟩, t0, t1, t2, t3, fun _ => rfl, fun q => ?_, tb.trans (bw.mono tb.size)⟩
              obtain ⟨I, e6, lI, r1, r2⟩ := t5 q
              refine ⟨I, e6, lI, fun q => ?_, fun q => ?_⟩
              · have := r1 q
                rw [bw.block _ (Array.getElem?_eq_some_iff.1 this).1]
                exact this
              · have q' : l 6 = true := q
                rw [n6' hl] at q'; cases q'
            | 5, _ =>
              refine stepV rfl rfl (execAl32 rfl) ⟨_, ⟨_, rfl, rfl⟩, t0, t1, t2, t3, t4, fun _ => ⟨W.heap.size, rfl, tb.size, fun _ => heapNew _ _, fun q => ?_⟩, tb.trans ((belNew W _).mono tb.size)⟩
              have q' : l 6 = true := q
              rw [n6 hl] at q'; cases q'
            | 6, _ =>
              obtain ⟨I, e6, lI, r1, _⟩ := t5 (hl2 _ rfl 5 rfl)
              have r1 := r1 hl
              refine stepS rfl rfl (execStAll (cells := bA 32 T) rfl ((hdep _ rfl 5 rfl _ rfl _ rfl).trans e6) ((hdep _ rfl 4 rfl _ rfl _ rfl).trans (t4 (hl2 _ rfl 4 rfl))) r1 (by rw [bA_size, bA_size]) (size32 _) (bA_one _ _)) ⟨_, ⟨_, rfl, rfl⟩, t0, t1, t2, t3, t4, fun _ => ⟨I, e6, lI, fun q => (by cases q), fun _ => setRow_heap _ _ _ _ _ _ r1⟩, below4 tb lI _⟩
            | n + 7, h => exact absurd h (by simp)
          · intro l x W hall hT
            obtain ⟨t0, t1, t2, t3, t4, t5, tb⟩ := hT
            have e0 := t0 (hall 0 (by simp))
            have e1 := t1 (hall 1 (by simp))
            have e2 := t2 (hall 2 (by simp))
            have e3 := t3 (hall 3 (by simp))
            have e4 := t4 (hall 4 (by simp))
            obtain ⟨I, e5, lI, _, rI⟩ := t5 (hall 5 (by simp))
            have rI := rI (hall 6 (by simp))
            have SF : Hid (SliceN W (.slice a4 320 c4) 320 nx ∧ SliceN W (.slice aw 320 cwv) 320 nx ∧ Below V.heap.size V W) := ⟨S10.out.2.2.1.on tb, S10.out.2.2.2.1.on tb, S10.out.2.2.2.2.2.trans (tb.mono S10.out.2.2.2.2.2.size)⟩
            have PR : Hid (∀ X, Below W.heap.size W X → X.heap[w4.heap.size]? = some (.cells (pC (.slice a4 320 c4) T) 44)) := fun X hX => by
              have q : W.heap[w4.heap.size]? = some (.cells (pC (.slice a4 320 c4) T) 44) := by rw [tb.block _ (Array.getElem?_eq_some_iff.1 S10.out.2.1).1]; exact S10.out.2.1
              rw [hX.block _ (Array.getElem?_eq_some_iff.1 q).1]
              exact q
            have DR : Hid (∀ X, Below W.heap.size W X → X.heap[I]? = some (.cells (bA 32 T) 26)) := fun X hX => by
              rw [hX.block _ (Array.getElem?_eq_some_iff.1 rI).1]
              exact rI
            clear hall t0 t1 t2 t3 t4 t5 tb lI rI
            simp only [putP, e0, e1, e2, e3, e4, e5, Act.put, List.setIfInBounds_toArray, List.set_cons_succ, List.set_cons_zero]
            clear e0 e1 e2 e3 e4 e5
            go_wp2_with fail
            refine wp_region_det 155 [(0, 125), (1, 126), (2, 127), (3, 128), (4, 129), (5, 130), (6, 131), (7, 132), (8, 133), (9, 134), (10, 135), (11, 136), (12, 137), (13, 138), (14, 139), (15, 140), (16, 141), (17, 142), (18, 143), (19, 144), (20, 145), (21, 146), (22, 147), (23, 148), (24, 149), (25, 150), (26, 151), (27, 152), (28, 153), (29, 154), (30, 2)] (b18V w4.heap.size I (.slice a4 320 c4) (.slice aw 320 cwv) (strN nx 320) (strN T 16)) (fun _ X => Below W.heap.size W X) (by kernel_rfl) (by kernel_rfl) rfl (by kernel_rfl) (by decide) (by decide) ?_ ?_ ?_
            · exact (Below.refl _ _).drew
            · intro j hj l a X hl hf hdep hl2 hcl _ hT
              match j, hj with
              | 0, _ => exact stepV rfl rfl (execMvB rfl (hf 7 (by decide))) ⟨⟨_, rfl, rfl⟩, hT⟩
              | 1, _ => exact stepV rfl rfl (execEqlE0 rfl (hdep _ rfl 0 rfl _ rfl _ rfl)) ⟨⟨_, rfl, rfl⟩, hT⟩
              | 2, _ => exact stepV rfl rfl (execMvB rfl (hdep _ rfl 1 rfl _ rfl _ rfl)) ⟨⟨_, rfl, rfl⟩, hT⟩
              | 3, _ => exact stepV rfl (wantedOf rfl (yieldedAt rfl rfl (show a.eval (.tmp 127) = .bool true from hdep _ rfl 2 rfl _ rfl _ rfl))) (execMvB rfl (hf 9 (by decide))) ⟨⟨_, rfl, rfl⟩, hT⟩
              | 4, _ => exact stepV rfl (wantedOf rfl (yieldedAt rfl rfl (show a.eval (.tmp 127) = .bool true from hdep _ rfl 2 rfl _ rfl _ rfl))) (execEqlE0 rfl (hdep _ rfl 3 rfl _ rfl _ rfl)) ⟨⟨_, rfl, rfl⟩, hT⟩
              | 5, _ => exact stepV rfl rfl (execPick (b := true) rfl (hdep _ rfl 2 rfl _ rfl _ rfl) (hdep _ rfl 4 rfl _ rfl _ rfl)) ⟨⟨_, rfl, rfl⟩, hT⟩
              | 6, _ => exact stepV rfl rfl (execMvB rfl (hdep _ rfl 5 rfl _ rfl _ rfl)) ⟨⟨_, rfl, rfl⟩, hT⟩
              | 7, _ => exact stepV rfl (wantedOf rfl (yieldedAt rfl rfl (show a.eval (.tmp 131) = .bool true from hdep _ rfl 6 rfl _ rfl _ rfl))) (execMvB rfl (hf 11 (by decide))) ⟨⟨_, rfl, rfl⟩, hT⟩
              | 8, _ => exact stepV rfl (wantedOf rfl (yieldedAt rfl rfl (show a.eval (.tmp 131) = .bool true from hdep _ rfl 6 rfl _ rfl _ rfl))) (execEqlE0 rfl (hdep _ rfl 7 rfl _ rfl _ rfl)) ⟨⟨_, rfl, rfl⟩, hT⟩
              | 9, _ => exact stepV rfl rfl (execPick (b := true) rfl (hdep _ rfl 6 rfl _ rfl _ rfl) (hdep _ rfl 8 rfl _ rfl _ rfl)) ⟨⟨_, rfl, rfl⟩, hT⟩
              | 10, _ => exact stepV rfl rfl (execMvB rfl (hdep _ rfl 9 rfl _ rfl _ rfl)) ⟨⟨_, rfl, rfl⟩, hT⟩
              | 11, _ => exact stepV rfl (wantedOf rfl (yieldedAt rfl rfl (show a.eval (.tmp 135) = .bool true from hdep _ rfl 10 rfl _ rfl _ rfl))) (execMvB rfl (hf 13 (by decide))) ⟨⟨_, rfl, rfl⟩, hT⟩
              | 12, _ => exact stepV rfl (wantedOf rfl (yieldedAt rfl rfl (show a.eval (.tmp 135) = .bool true from hdep _ rfl 10 rfl _ rfl _ rfl))) (execEqlE0 rfl (hdep _ rfl 11 rfl _ rfl _ rfl)) ⟨⟨_, rfl, rfl⟩, hT⟩
              | 13, _ => exact stepV rfl rfl (execPick (b := true) rfl (hdep _ rfl 10 rfl _ rfl _ rfl) (hdep _ rfl 12 rfl _ rfl _ rfl)) ⟨⟨_, rfl, rfl⟩, hT⟩
              | 14, _ => exact stepV rfl rfl (execMvB rfl (hdep _ rfl 13 rfl _ rfl _ rfl)) ⟨⟨_, rfl, rfl⟩, hT⟩
              | 15, _ => exact stepV rfl (wantedOf rfl (yieldedAt rfl rfl (show a.eval (.tmp 139) = .bool true from hdep _ rfl 14 rfl _ rfl _ rfl))) (execFldP0 rfl (hf 8 (by decide))) ⟨⟨_, rfl, rfl⟩, hT⟩
              | 16, _ => exact stepV rfl (wantedOf rfl (yieldedAt rfl rfl (show a.eval (.tmp 139) = .bool true from hdep _ rfl 14 rfl _ rfl _ rfl))) (execLd24 rfl (hdep _ rfl 15 rfl _ rfl _ rfl) (pC_at (PR.out X hT))) ⟨⟨_, rfl, rfl⟩, hT⟩
              | 17, _ => exact stepV rfl (wantedOf rfl (yieldedAt rfl rfl (show a.eval (.tmp 139) = .bool true from hdep _ rfl 14 rfl _ rfl _ rfl))) (By8.execStr rfl (hdep _ rfl 16 rfl _ rfl _ rfl) (SF.out.1.on hT)) ⟨⟨_, rfl, rfl⟩, hT⟩
              | 18, _ => exact stepV rfl (wantedOf rfl (yieldedAt rfl rfl (show a.eval (.tmp 139) = .bool true from hdep _ rfl 14 rfl _ rfl _ rfl))) (execMvB rfl (hf 10 (by decide))) ⟨⟨_, rfl, rfl⟩, hT⟩
              | 19, _ => exact stepV rfl (wantedOf rfl (yieldedAt rfl rfl (show a.eval (.tmp 139) = .bool true from hdep _ rfl 14 rfl _ rfl _ rfl))) (By8.execStr rfl (hdep _ rfl 18 rfl _ rfl _ rfl) (SF.out.2.1.on hT)) ⟨⟨_, rfl, rfl⟩, hT⟩
              | 20, _ => exact stepV rfl (wantedOf rfl (yieldedAt rfl rfl (show a.eval (.tmp 139) = .bool true from hdep _ rfl 14 rfl _ rfl _ rfl))) (By8.execEqlS rfl (hdep _ rfl 17 rfl _ rfl _ rfl) (hdep _ rfl 19 rfl _ rfl _ rfl)) ⟨⟨_, rfl, rfl⟩, hT⟩
              | 21, _ => exact stepV rfl rfl (execPick (b := true) rfl (hdep _ rfl 14 rfl _ rfl _ rfl) (hdep _ rfl 20 rfl _ rfl _ rfl)) ⟨⟨_, rfl, rfl⟩, hT⟩
              | 22, _ => exact stepV rfl rfl (execMvB rfl (hdep _ rfl 21 rfl _ rfl _ rfl)) ⟨⟨_, rfl, rfl⟩, hT⟩
              | 23, _ => exact stepV rfl (wantedOf rfl (yieldedAt rfl rfl (show a.eval (.tmp 147) = .bool true from hdep _ rfl 22 rfl _ rfl _ rfl))) (execFldP1 rfl (hf 8 (by decide))) ⟨⟨_, rfl, rfl⟩, hT⟩
              | 24, _ => exact stepV rfl (wantedOf rfl (yieldedAt rfl rfl (show a.eval (.tmp 147) = .bool true from hdep _ rfl 22 rfl _ rfl _ rfl))) (execSlice rfl (hdep _ rfl 23 rfl _ rfl _ rfl) (slK _ 1 X)) ⟨⟨_, rfl, rfl⟩, hT⟩
              | 25, _ => exact stepV rfl (wantedOf rfl (yieldedAt rfl rfl (show a.eval (.tmp 147) = .bool true from hdep _ rfl 22 rfl _ rfl _ rfl))) (By8.execStr rfl (hdep _ rfl 24 rfl _ rfl _ rfl) (pC_slice (PR.out X hT) TL.out)) ⟨⟨_, rfl, rfl⟩, hT⟩
              | 26, _ => exact stepV rfl (wantedOf rfl (yieldedAt rfl rfl (show a.eval (.tmp 147) = .bool true from hdep _ rfl 22 rfl _ rfl _ rfl))) (By8.execSlH rfl (hf 14 (by decide)) rfl (sl32h _ X)) ⟨⟨_, rfl, rfl⟩, hT⟩
              | 27, _ => exact stepV rfl (wantedOf rfl (yieldedAt rfl rfl (show a.eval (.tmp 147) = .bool true from hdep _ rfl 22 rfl _ rfl _ rfl))) (By8.execStr rfl (hdep _ rfl 26 rfl _ rfl _ rfl) (half_slice (DR.out X hT) TL.out)) ⟨⟨_, rfl, rfl⟩, hT⟩
              | 28, _ => exact stepV rfl (wantedOf rfl (yieldedAt rfl rfl (show a.eval (.tmp 147) = .bool true from hdep _ rfl 22 rfl _ rfl _ rfl))) (By8.execEqlS rfl (hdep _ rfl 25 rfl _ rfl _ rfl) (hdep _ rfl 27 rfl _ rfl _ rfl)) ⟨⟨_, rfl, rfl⟩, hT⟩
              | 29, _ => exact stepV rfl rfl (execPick (b := true) rfl (hdep _ rfl 22 rfl _ rfl _ rfl) (hdep _ rfl 28 rfl _ rfl _ rfl)) ⟨⟨_, rfl, rfl⟩, hT⟩
              | 30, _ => exact stepV rfl rfl (execAsgB rfl (hdep _ rfl 29 rfl _ rfl _ rfl)) ⟨⟨_, rfl, rfl⟩, hT⟩
              | n + 31, h => exact absurd h (by simp)
            · intro l X hall hT
              have BF : Hid (Below V.heap.size V X) := SF.out.2.2.trans (hT.mono SF.out.2.2.size)
              clear hall hT
              simp only [putP, b18V, Act.put, List.setIfInBounds_toArray, List.set_cons_succ, List.set_cons_zero]
              go_wp2
              go_ret
              exact ⟨rfl, BF.out⟩
end Go.Proofs.YtfhldpdnoaoohaaDoor.Oni
