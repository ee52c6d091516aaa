import Derived.Test.YtaoncjgllcndmaaDoorD3v
namespace Go.Proofs.YtaoncjgllcndmaaDoor.Frm
open Go.RowKit Gf8 Aes By8 Cel
/- The law's apart. -/

theorem gM_ge {f : Nat → Nat} {n z l : Nat} (h : n ≤ l) : gM f n z l = z := if_neg (by omega)
theorem one8 {z l : Nat} (h : l < 1) : (#[Value.int .u8 (z : Int)] : Array Value)[l]? = some (.int .u8 (z : Int)) := by
  match l, h with
  | 0, _ => rfl
theorem three8 {z l : Nat} (h : l < 3) : (#[Value.int .u8 (z : Int), .int .u8 (z : Int), .int .u8 (z : Int)] : Array Value)[l]? = some (.int .u8 (z : Int)) := by
  match l, h with
  | 0, _ => rfl
  | 1, _ => rfl
  | 2, _ => rfl
theorem MoS.growN {B m N : Nat} {x gv : Nat → Value} {gl : Nat → Nat} {mo : Nat → Value} {R : Nat} {V W W' : World} (h : MoS B m N x gv gl mo R V W) {i k n : Nat} (hi : i < m) (hn : gl i = n) {v' : Value}
    (hv : W'.ownsRow B 5 1 v' (n + k) (bytesL (n + k) (gM (fun _ => i % 256) N ((i + 100) % 256)))) (hp : (v'.ownBlock = (gv i).ownBlock ∧ W.grownBy W' (gv i).ownBlock ∧ capV v' = capV (gv i)) ∨ (v'.ownBlock = some W.heap.size ∧ W.grownBy W' Option.none)) :
    MoS B m N x (updX gv i v') (fun t => if t = i then n + k else gl t) mo R V W' := by
  subst hn
  exact h.grow hi hv hp
set_option maxRecDepth 20000 in
set_option maxHeartbeats 4000000 in
theorem apart_any (lv : Value) (m N A B : Nat) (x : Nat → Value) (f : Nat → Nat → Nat) (V : World) (hown : V.ownsRow A 30 1 lv m (xsL x 0 m)) (hf : Fam B m x (fun _ => N) f V) (hB : B ≤ V.heap.size) (h0 : 0 < N) (hN : N ≤ 1000000) (hm : m ≤ 1000000) :
    Calls Tryd.prog 18 #[lv] V fun e w' => e = .returned (.bool true) ∧ Saved (Gx m x) V w' := by
  obtain ⟨la, lc, rfl⟩ := ownL_shape hown
  have LC : Hid (∀ W, Saved (Gx m x) V W → ∀ t, t < m → ∃ g, la = some ⟨g, 0, none⟩ ∧ W.cell? ⟨g, t, none⟩ = some (x t)) := fun W sv t ht => lists_at hown hf sv ht
  have HF : Hid (Fam B m x (fun _ => N) f V) := hf
  have HB : Hid (B ≤ V.heap.size ∧ 0 < N ∧ N ≤ 1000000 ∧ m ≤ 1000000) := ⟨hB, h0, hN, hm⟩
  have GX : Hid (∀ t, t < m → ∀ k, (x t).ownBlock = some k → V.heap.size ≤ k ∨ Gx m x k) := fun t ht k hk => Or.inr ⟨t, ht, hk⟩
  have n1 : (N : Int) ≤ 1000000 := by omega
  have m1 : (m : Int) ≤ 1000000 := by omega
  have mk := run_mkL m hm
  clear hown hf hB h0 hN hm
  go_enter Tryd.func18, Tryd.ntmps18
  go_wp2_with fail
  go_loopw [18] (fun z W => ∃ i : Nat, i ≤ m ∧ z = .int .i64 (i : Int) ∧ Fam B m x (fun _ => N) (mkA f i 0) W ∧ Saved (Gx m x) V W) (fun z _ => m - (intOf z).toNat)
  case atStart => exact ⟨0, Nat.zero_le _, rfl, famCg HF.out fun t _ l _ => by unfold mkA; rw [if_neg (by omega)], Saved.refl _ _⟩
  case round =>
    obtain ⟨i, hi, rfl, fm, sv⟩ := hrel
    by_cases hlt : i < m
    · have i1 : (i : Int) < m := by omega
      obtain ⟨g, rfl, c1⟩ := LC.out _ sv i hlt
      obtain ⟨gb, cap, e, _⟩ := own_byte (fm.rows i hlt) HB.out.2.1
      have c2 := c1
      rw [e] at c2
      have HI : Hid (i < m ∧ x i = .slice (some ⟨gb, 0, none⟩) N cap ∧ Fam B m x (fun _ => N) (mkA f i 0) wr ∧ Saved (Gx m x) V wr) := ⟨hlt, e, fm, sv⟩
      clear hlt hi c1 e fm sv
      go_wp2_with fail
      go_loopw [25] (fun z W => ∃ k : Nat, k ≤ N ∧ z = .int .i64 (k : Int) ∧ Fam B m x (fun _ => N) (mkA f i k) W ∧ Saved (Gx m x) V W) (fun z _ => N - (intOf z).toNat)
      case atStart => exact ⟨0, Nat.zero_le _, rfl, HI.out.2.2.1, HI.out.2.2.2⟩
      case round =>
        obtain ⟨k, hk, rfl, fm, sv⟩ := hrel
        clear c2
        by_cases hlt : k < N
        · have i2 : (k : Int) < N := by omega
          have row := fm.rows i HI.out.1
          rw [HI.out.2.1] at row
          obtain ⟨gb2, cap2, e, _, _, ⟨cur, hcur⟩, hcell⟩ := own_byte row HB.out.2.1
          injection e with e1 _ _
          injection e1 with e1
          injection e1 with e1 _ _
          subst e1
          have q1 := hcell k hlt
          have q2 : wr.frozen? ⟨gb, k, none⟩ = false := frozen4 hcur
          obtain ⟨y, hy⟩ : ∃ y, i % 256 = y := ⟨_, rfl⟩
          have w2 : IntKind.u8.wrap (i : Int) = (y : Int) := by rw [← hy]; simp [IntKind.wrap, IntKind.bits, IntKind.signed]
          have HK : Hid (k < N ∧ Fam B m x (fun _ => N) (mkA f i k) wr ∧ Saved (Gx m x) V wr ∧ i % 256 = y) := ⟨hlt, fm, sv, hy⟩
          have Q1 : Hid (Fam B m x (fun _ => N) (mkA f i (k + 1)) (wr.setCell ⟨gb, k, none⟩ (.int .u8 (y : Int)))) := famCg (famSet fm (t := i) (k := k) (z := y) HI.out.1 HI.out.2.1) fun t _ l _ => by
            by_cases e : t = i
            · simp only [if_pos e]
              unfold mkA
              by_cases e2 : l = k
              · rw [if_pos e2, if_pos (Or.inr ⟨e, by omega⟩), e, hy]
              · rw [if_neg e2]
                by_cases e3 : l < k
                · rw [if_pos (Or.inr ⟨rfl, e3⟩), if_pos (Or.inr ⟨e, by omega⟩), e]
                · rw [if_neg (by omega), if_neg (by omega), e]
            · simp only [if_neg e]
              unfold mkA
              by_cases e3 : t < i
              · rw [if_pos (Or.inl e3), if_pos (Or.inl e3)]
              · rw [if_neg (by omega), if_neg (by omega)]
          have Q2 : Hid (Saved (Gx m x) V (wr.setCell ⟨gb, k, none⟩ (.int .u8 (y : Int)))) := sv.cell _ (Or.inr ⟨i, HI.out.1, by rw [HI.out.2.1]; rfl⟩)
          clear hlt hk fm sv row hcur hcell hy
          go_wp2
          go_roundw
          case rel => exact ⟨k + 1, HK.out.1, by go_num, Q1.out, Q2.out⟩
          case measure => have := HK.out.1; simp [intOf]; omega
        · have i2 : ¬ (k : Int) < N := by omega
          have HK : Hid (Fam B m x (fun _ => N) (mkA f i k) wr ∧ Saved (Gx m x) V wr ∧ k = N) := ⟨fm, sv, by omega⟩
          clear hlt hk fm sv
          go_wp2
          go_roundw
          case rel => exact ⟨i + 1, HI.out.1, by go_num, famCg HK.out.1 fun t _ l hl => by
            have := HK.out.2.2
            unfold mkA
            by_cases e3 : t ≤ i
            · rw [if_pos (by omega), if_pos (by omega)]
            · rw [if_neg (by omega), if_neg (by omega)], HK.out.2.1⟩
          case measure => have := HI.out.1; simp [intOf]; omega
    · have ei : i = m := by omega
      have i1 : ¬ (i : Int) < m := by omega
      have M0 : Hid (MoS B m N x x (fun _ => N) (fun _ => .slice none 0 0) wr.heap.size V (wr.alloc (.cells (madeCells #[.slice none 0 0] m) 30))) := by
        refine ⟨(ApS.begin (famCg fm fun t ht l _ => by unfold mkA; rw [if_pos (by omega)])).on (belNew wr _), sv.below (belNew wr _) sv.size, ⟨_, heapNew wr _, size_madeCells _ _, fun t ht => ?_⟩, sv.size, GX.out⟩
        rw [← Array.getElem?_toList, toList_madeCells_one]
        simp [ht]
      clear fm sv hi hlt
      obtain ⟨R, hR⟩ : ∃ R, R = wr.heap.size := ⟨_, rfl⟩
      rw [← hR] at M0
      go_wp2_with fail
      rw [← hR]
      clear hR
      go_loopw [40] (fun z W => ∃ (i : Nat) (gv : Nat → Value), i ≤ m ∧ z = .int .i64 (i : Int) ∧ MoS B m N x gv (fun t => if t < i then N + 8 else N) (fun t => if t < i then gv t else .slice none 0 0) R V W ∧ ∀ t, i ≤ t → gv t = x t) (fun z _ => m - (intOf z).toNat)
      case atStart => exact ⟨0, x, Nat.zero_le _, rfl, M0.out.cg (fun t _ => by rw [if_neg (by omega)]) (fun t _ => by rw [if_neg (by omega)]), fun _ _ => rfl⟩
      case round =>
        obtain ⟨i, gv, hi, rfl, ms, hx⟩ := hrel
        clear M0 mk
        by_cases hlt : i < m
        · have i3 : (i : Int) < m := by omega
          obtain ⟨g, rfl, c1⟩ := LC.out _ ms.sv i hlt
          obtain ⟨gb, cap, e, _⟩ := own_byte (ms.ap.fam.rows i hlt) HB.out.2.1
          rw [e] at c1
          obtain ⟨z, hz⟩ : ∃ z, (i + 100) % 256 = z := ⟨_, rfl⟩
          have w1 : wrap64 ((i : Int) + 100) = (i : Int) + 100 := by simp [wrap64]; omega
          have w3 : IntKind.u8.wrap ((i : Int) + 100) = (z : Int) := by rw [← hz]; simp [IntKind.wrap, IntKind.bits, IntKind.signed]
          have HI : Hid (i < m ∧ x i = .slice (some ⟨gb, 0, none⟩) N cap ∧ MoS B m N x gv (fun t => if t < i then N + 8 else N) (fun t => if t < i then gv t else .slice none 0 0) R V wr ∧ (∀ t, i ≤ t → gv t = x t) ∧ (i + 100) % 256 = z) := ⟨hlt, e, ms, hx, hz⟩
          clear hlt hi e ms hx hz
          go_wp2_with fail
          go_loopw [9, 46] (fun u z W => ∃ (k : Nat) (gw : Nat → Value), k ≤ 8 ∧ z = .int .i64 (k : Int) ∧ u = gw i ∧ MoS B m N x gw (fun t => if t < i then N + 8 else if t = i then N + k else N) (fun t => if t < i then gv t else .slice none 0 0) R V W ∧ ∀ t, t ≠ i → gw t = gv t) (fun _ z _ => 8 - (intOf z).toNat)
          case atStart => exact ⟨0, gv, by omega, rfl, by rw [HI.out.2.2.2.1 i (Nat.le_refl _), HI.out.2.1], HI.out.2.2.1.cg (fun t _ => by
            by_cases e : t < i
            · rw [if_pos e, if_pos e]
            · rw [if_neg e, if_neg e]; split <;> rfl) (fun _ _ => rfl), fun _ _ => rfl⟩
          case round =>
            obtain ⟨k, gw, hk, rfl, rfl, ms, hx⟩ := hrel
            clear c1
            have ow := ms.ap.grown i HI.out.1
            simp only [Nat.lt_irrefl, if_false, if_true] at ow
            rw [HI.out.2.2.2.2] at ow
            obtain ⟨ua, uc, eu⟩ := own_shapeJ ow
            by_cases hlt : k < 8
            · have i4 : (k : Int) < 8 := by omega
              have ms' := ms.on (belNew wr (.cells #[.int .u8 (z : Int)] 5))
              have HK : Hid (k < 8 ∧ MoS B m N x gw (fun t => if t < i then N + 8 else if t = i then N + k else N) (fun t => if t < i then gv t else .slice none 0 0) R V (wr.alloc (.cells #[.int .u8 (z : Int)] 5)) ∧ (∀ t, t ≠ i → gw t = gv t) ∧ (wr.alloc (.cells #[.int .u8 (z : Int)] 5)).ownsRow B 5 1 (gw i) (N + k) (bytesL (N + k) (gM (fun _ => i % 256) N z)) ∧ (wr.alloc (.cells #[.int .u8 (z : Int)] 5)).heap[wr.heap.size]? = some (.cells #[.int .u8 (z : Int)] 5)) := ⟨hlt, ms', hx, ownsRow_below ow (belNew wr _), heapNew wr _⟩
              clear hlt hk ms hx ow ms' eu
              go_wp2_with (first
                | (refine atAppB (.tmp 48) (.tmp 52) rfl ?_; go_must (refine wpList_appK (B := B) (n := N + k) (m := 1) (g := wr.heap.size) (v := gw i) (p := gM (fun _ => i % 256) N z) rfl (.tmp 48) (.tmp 52) rfl rfl rfl HK.out.2.2.2.1 (fun j hj => by rw [cell_of_row _ _ _ _ _ _ HK.out.2.2.2.2, gM_ge (by omega)]; exact one8 hj) (by have := HB.out.2.2.1; omega) (Nat.le_trans HB.out.1 HK.out.2.1.sv.size) ?_; intro v7 w7 own7 hp7; have O7 : Hid (_) := HK.out.2.1.growN (i := i) (k := 1) (n := N + k) HI.out.1 (by simp only [Nat.lt_irrefl, if_false, if_true]) (by rw [HI.out.2.2.2.2]; exact own7) hp7; clear own7 hp7)))
              go_roundw
              case rel => exact ⟨k + 1, updX gw i v7, HK.out.1, by go_num, (updX_at _ _ _).symm, O7.out.cg (fun t _ => by
                by_cases e : t = i
                · rw [if_pos e, if_neg (by omega), if_pos e, Nat.add_assoc]
                · rw [if_neg e, if_neg e, if_neg e]) (fun _ _ => rfl), fun t ht => by unfold updX; rw [if_neg ht]; exact HK.out.2.2.1 t ht⟩
              case measure => have := HK.out.1; simp [intOf]; omega
            · have i4 : ¬ (k : Int) < 8 := by omega
              have ek : k = 8 := by omega
              subst ek
              obtain ⟨q1, q2⟩ := ms.at HI.out.1
              have HK : Hid (MoS B m N x gw (fun t => if t < i then N + 8 else if t = i then N + 8 else N) (fun t => if t < i then gv t else .slice none 0 0) R V wr ∧ (∀ t, t ≠ i → gw t = gv t) ∧ gw i = .slice ua (N + 8) uc) := ⟨ms, hx, eu⟩
              clear hlt hk ms hx ow
              rw [eu]
              clear eu
              go_wp2
              go_roundw
              case rel => exact ⟨i + 1, gw, HI.out.1, by go_num, (HK.out.1.put i (.slice ua (N + 8) uc)).cg (fun t _ => by
                by_cases e : t < i
                · rw [if_pos e, if_pos (by omega)]
                · by_cases e2 : t = i
                  · rw [if_neg e, if_pos e2, if_pos (by omega)]
                  · rw [if_neg e, if_neg e2, if_neg (by omega)]) (fun t _ => by
                unfold updX
                by_cases e2 : t = i
                · rw [if_pos e2, if_pos (by omega), e2, HK.out.2.2]
                · rw [if_neg e2]
                  show (if t < i then gv t else Value.slice none 0 0) = _
                  by_cases e : t < i
                  · rw [if_pos e, if_pos (by omega), HK.out.2.1 t e2]
                  · rw [if_neg e, if_neg (by omega)]), fun t ht => by rw [HK.out.2.1 t (by omega)]; exact HI.out.2.2.2.1 t (by omega)⟩
              case measure => have := HI.out.1; simp [intOf]; omega
        · have ei : i = m := by omega
          have i3 : ¬ (i : Int) < m := by omega
          have M1 : Hid (MoS B m N x gv (fun _ => N + 8) gv R V wr) := ms.cg (fun t ht => if_pos (by omega)) (fun t ht => if_pos (by omega))
          clear hlt hi ms hx
          go_wp2_with fail
          go_loopw [62] (fun z W => ∃ (i : Nat) (gv : Nat → Value), i ≤ m ∧ z = .int .i64 (i : Int) ∧ MoS B m N x gv (fun t => if t < i then N + 128 else N + 8) gv R V W) (fun z _ => m - (intOf z).toNat)
          case atStart => exact ⟨0, gv, Nat.zero_le _, rfl, M1.out.cg (fun t _ => by rw [if_neg (by omega)]) (fun _ _ => rfl)⟩
          case round =>
            obtain ⟨i, gv, hi, rfl, ms⟩ := hrel
            clear M1
            by_cases hlt : i < m
            · have i5 : (i : Int) < m := by omega
              have ow := ms.ap.grown i hlt
              simp only [Nat.lt_irrefl, if_false] at ow
              obtain ⟨ga, gc, e⟩ := own_shapeJ ow
              have c1 := (ms.at hlt).1
              rw [e] at c1
              obtain ⟨z, hz⟩ : ∃ z, (i + 100) % 256 = z := ⟨_, rfl⟩
              have w1 : wrap64 ((i : Int) + 100) = (i : Int) + 100 := by simp [wrap64]; omega
              have w3 : IntKind.u8.wrap ((i : Int) + 100) = (z : Int) := by rw [← hz]; simp [IntKind.wrap, IntKind.bits, IntKind.signed]
              have HI : Hid (i < m ∧ gv i = .slice ga (N + 8) gc ∧ MoS B m N x gv (fun t => if t < i then N + 128 else N + 8) gv R V wr ∧ (i + 100) % 256 = z) := ⟨hlt, e, ms, hz⟩
              clear hlt hi e ms hz ow
              go_wp2_with fail
              go_loopw [11, 67] (fun u z W => ∃ (k : Nat) (gw : Nat → Value), k ≤ 40 ∧ z = .int .i64 (k : Int) ∧ u = gw i ∧ MoS B m N x gw (fun t => if t < i then N + 128 else if t = i then N + 8 + 3 * k else N + 8) gv R V W ∧ ∀ t, t ≠ i → gw t = gv t) (fun _ z _ => 40 - (intOf z).toNat)
              case atStart => exact ⟨0, gv, by omega, rfl, HI.out.2.1.symm, HI.out.2.2.1.cg (fun t _ => by
                by_cases e : t < i
                · rw [if_pos e, if_pos e]
                · rw [if_neg e, if_neg e]; split <;> rfl) (fun _ _ => rfl), fun _ _ => rfl⟩
              case round =>
                obtain ⟨k, gw, hk, rfl, rfl, ms, hx⟩ := hrel
                clear c1
                have ow := ms.ap.grown i HI.out.1
                simp only [Nat.lt_irrefl, if_false, if_true] at ow
                rw [HI.out.2.2.2] at ow
                obtain ⟨ua, uc, eu⟩ := own_shapeJ ow
                by_cases hlt : k < 40
                · have i6 : (k : Int) < 40 := by omega
                  have ms' := ms.on (belNew wr (.cells #[.int .u8 (z : Int), .int .u8 (z : Int), .int .u8 (z : Int)] 5))
                  have HK : Hid (k < 40 ∧ MoS B m N x gw (fun t => if t < i then N + 128 else if t = i then N + 8 + 3 * k else N + 8) gv R V (wr.alloc (.cells #[.int .u8 (z : Int), .int .u8 (z : Int), .int .u8 (z : Int)] 5)) ∧ (∀ t, t ≠ i → gw t = gv t) ∧ (wr.alloc (.cells #[.int .u8 (z : Int), .int .u8 (z : Int), .int .u8 (z : Int)] 5)).ownsRow B 5 1 (gw i) (N + 8 + 3 * k) (bytesL (N + 8 + 3 * k) (gM (fun _ => i % 256) N z)) ∧ (wr.alloc (.cells #[.int .u8 (z : Int), .int .u8 (z : Int), .int .u8 (z : Int)] 5)).heap[wr.heap.size]? = some (.cells #[.int .u8 (z : Int), .int .u8 (z : Int), .int .u8 (z : Int)] 5)) := ⟨hlt, ms', hx, ownsRow_below ow (belNew wr _), heapNew wr _⟩
                  clear hlt hk ms hx ow ms' eu
                  go_wp2_with (first
                    | (refine atAppB (.tmp 69) (.tmp 79) rfl ?_; go_must (refine wpList_appK (B := B) (n := N + 8 + 3 * k) (m := 3) (g := wr.heap.size) (v := gw i) (p := gM (fun _ => i % 256) N z) rfl (.tmp 69) (.tmp 79) rfl rfl rfl HK.out.2.2.2.1 (fun j hj => by rw [cell_of_row _ _ _ _ _ _ HK.out.2.2.2.2, gM_ge (by omega)]; exact three8 hj) (by have := HB.out.2.2.1; have := HK.out.1; omega) (Nat.le_trans HB.out.1 HK.out.2.1.sv.size) ?_; intro v7 w7 own7 hp7; have O7 : Hid (_) := HK.out.2.1.growN (i := i) (k := 3) (n := N + 8 + 3 * k) HI.out.1 (by simp only [Nat.lt_irrefl, if_false, if_true]) (by rw [HI.out.2.2.2]; exact own7) hp7; clear own7 hp7)))
                  go_roundw
                  case rel => exact ⟨k + 1, updX gw i v7, HK.out.1, by go_num, (updX_at _ _ _).symm, O7.out.cg (fun t _ => by
                    by_cases e : t = i
                    · rw [if_pos e, if_neg (by omega), if_pos e]; omega
                    · rw [if_neg e, if_neg e, if_neg e]) (fun _ _ => rfl), fun t ht => by unfold updX; rw [if_neg ht]; exact HK.out.2.2.1 t ht⟩
                  case measure => have := HK.out.1; simp [intOf]; omega
                · have i6 : ¬ (k : Int) < 40 := by omega
                  have ek : k = 40 := by omega
                  subst ek
                  obtain ⟨q1, q2⟩ := ms.at HI.out.1
                  have HK : Hid (MoS B m N x gw (fun t => if t < i then N + 128 else if t = i then N + 8 + 3 * 40 else N + 8) gv R V wr ∧ (∀ t, t ≠ i → gw t = gv t) ∧ gw i = .slice ua (N + 8 + 3 * 40) uc) := ⟨ms, hx, eu⟩
                  obtain ⟨L, hL⟩ : ∃ L, N + 8 + 3 * 40 = L := ⟨_, rfl⟩
                  have HL : Hid (N + 8 + 3 * 40 = L) := hL
                  clear hlt hk ms hx ow
                  rw [eu, hL]
                  clear eu hL
                  go_wp2
                  go_roundw
                  case rel => exact ⟨i + 1, gw, HI.out.1, by go_num, (HK.out.1.put i (.slice ua L uc)).cg (fun t _ => by
                    by_cases e : t < i
                    · rw [if_pos e, if_pos (by omega)]
                    · by_cases e2 : t = i
                      · rw [if_neg e, if_pos e2, if_pos (by omega)]
                      · rw [if_neg e, if_neg e2, if_neg (by omega)]) (fun t _ => by
                    unfold updX
                    by_cases e2 : t = i
                    · rw [if_pos e2, e2, HK.out.2.2, HL.out]
                    · rw [if_neg e2, HK.out.2.1 t e2])⟩
                  case measure => have := HI.out.1; simp [intOf]; omega
            · have ei2 : i = m := by omega
              have i5 : ¬ (i : Int) < m := by omega
              obtain ⟨Y, hY⟩ : ∃ Y, Y = wr := ⟨_, rfl⟩
              have HY : Hid (Y = wr) := hY
              have M2 : Hid (MoS B m N x gv (fun _ => N + 128) gv R V Y) := by rw [hY]; exact ms.cg (fun t ht => if_pos (by omega)) (fun _ _ => rfl)
              clear hlt hi ms hY
              go_wp2_with fail
              go_loopw [89] (fun z W => ∃ i : Nat, i ≤ m ∧ z = .int .i64 (i : Int) ∧ W = Y) (fun z _ => m - (intOf z).toNat)
              case atStart => exact ⟨0, Nat.zero_le _, rfl, HY.out.symm⟩
              case round =>
                obtain ⟨i, hi, rfl, rfl⟩ := hrel
                clear HY
                by_cases hlt : i < m
                · have i7 : (i : Int) < m := by omega
                  have w5 : wrap64 ((i + 1 : Nat) : Int) = ((i + 1 : Nat) : Int) := wrap64_nat (by have := HB.out.2.2.2; omega)
                  rw [show ((i + 1 : Nat) : Int) = (i : Int) + 1 from rfl] at w5
                  have W5 : Hid (wrap64 ((i : Int) + 1) = (i : Int) + 1) := w5
                  have MS : Hid (m - (i + 1) < m - i) := (show m - (i + 1) < m - i by omega)
                  clear w5
                  obtain ⟨g, rfl, c1⟩ := LC.out _ M2.out.sv i hlt
                  obtain ⟨gb, cap, e, _, _, _, hcell⟩ := own_byte (M2.out.ap.fam.rows i hlt) HB.out.2.1
                  rw [e] at c1
                  obtain ⟨gr, gcap, e2, _, _, _, hcell2⟩ := own_byte (M2.out.ap.grown i hlt) (by omega)
                  have c2 := (M2.out.at hlt).1
                  rw [e2] at c2
                  obtain ⟨z, hz⟩ : ∃ z, (i + 100) % 256 = z := ⟨_, rfl⟩
                  obtain ⟨y, hy⟩ : ∃ y, i % 256 = y := ⟨_, rfl⟩
                  have w1 : wrap64 ((i : Int) + 100) = (i : Int) + 100 := by simp [wrap64]; omega
                  have w3 : IntKind.u8.wrap ((i : Int) + 100) = (z : Int) := by rw [← hz]; simp [IntKind.wrap, IntKind.bits, IntKind.signed]
                  have w4 : IntKind.u8.wrap (i : Int) = (y : Int) := by rw [← hy]; simp [IntKind.wrap, IntKind.bits, IntKind.signed]
                  obtain ⟨L, hL⟩ : ∃ L, N + 128 = L := ⟨_, rfl⟩
                  rw [hL] at c2 hcell2
                  rw [hz, hy] at hcell2
                  rw [hy] at hcell
                  have l1 : (L : Int) ≤ 1000128 := by omega
                  obtain ⟨X, hX⟩ : ∃ X, X = wr := ⟨_, rfl⟩
                  have HX : Hid (X = wr) := hX
                  have HI : Hid (i < m ∧ N + 128 = L ∧ (∀ j, j < N → X.cell? ⟨gb, j, none⟩ = some (.int .u8 (y : Int))) ∧ (∀ j, j < L → X.cell? ⟨gr, j, none⟩ = some (.int .u8 (gM (fun _ => y) N z j : Nat)))) := by rw [hX]; exact ⟨hlt, hL, hcell, hcell2⟩
                  clear hlt hi e e2 hcell hcell2 hz hy hL hX
                  go_wp2_with fail
                  go_loopw [99] (fun z W => ∃ j : Nat, j ≤ L ∧ z = .int .i64 (j : Int) ∧ W = X) (fun z _ => L - (intOf z).toNat)
                  case atStart => exact ⟨0, Nat.zero_le _, rfl, HX.out.symm⟩
                  case round =>
                    obtain ⟨j, hj, rfl, rfl⟩ := hrel
                    clear c1 c2
                    by_cases hlt : j < L
                    · have i8 : (j : Int) < L := by omega
                      have c4 := HI.out.2.2.2 j hlt
                      by_cases hjn : j < N
                      · have i9 : (j : Int) < N := by omega
                        have i10 : ¬ (N : Int) ≤ j := by omega
                        have c5 := HI.out.2.2.1 j hjn
                        rw [show gM (fun _ => y) N z j = y from if_pos hjn] at c4
                        have HJ : Hid (j < L) := hlt
                        clear hlt hj hjn
                        go_wp2
                        go_roundw
                        case rel => exact ⟨j + 1, HJ.out, by go_num, by first | rfl | trivial⟩
                        case measure => have := HJ.out; simp [intOf]; omega
                      · have i9 : ¬ (j : Int) < N := by omega
                        have i10 : (N : Int) ≤ j := by omega
                        rw [gM_ge (by omega)] at c4
                        have HJ : Hid (j < L) := hlt
                        clear hlt hj hjn
                        go_wp2
                        go_roundw
                        case rel => exact ⟨j + 1, HJ.out, by go_num, by first | rfl | trivial⟩
                        case measure => have := HJ.out; simp [intOf]; omega
                    · have i8 : ¬ (j : Int) < L := by omega
                      clear hlt hj
                      go_wp2
                      go_roundw
                      case rel => exact ⟨i + 1, HI.out.1, by first | (rw [W5.out]; rfl) | rfl | go_num, by first | rfl | exact HX.out | exact HX.out.symm | trivial⟩
                      case measure =>
                        try rw [W5.out]
                        exact MS.out
                · have i7 : ¬ (i : Int) < m := by omega
                  clear hlt hi
                  go_wp2
                  go_ret
                  exact ⟨rfl, M2.out.sv⟩
end Go.Proofs.YtaoncjgllcndmaaDoor.Frm
