import Derived.Test.YtdddecclajmicaaU0
import Derived.Test.YtdddecclajmicaaX3
import Derived.Test.YtdddecclajmicaaK4
import Derived.Test.YtdddecclajmicaaK7
namespace Go.Proofs.Ytdddecclajmicaa
open Go.RowKit

/-- What stays through FieldBack's walk: the two columns that were handed in. -/
structure Bk (A : Nat) (c d : Nat → Nat) (w W : World) : Prop where
  c : W.heap[A]? = some (.cells (col c) 27)
  d : W.heap[A + 1]? = some (.cells (col d) 27)
  bel : Below w.heap.size w W
theorem Bk.on {A : Nat} {c d : Nat → Nat} {w W W' : World} (h : Bk A c d w W) (hb : Below W.heap.size W W') : Bk A c d w W' := by
  have l1 : A < W.heap.size := (Array.getElem?_eq_some_iff.1 h.c).1
  have l2 : A + 1 < W.heap.size := (Array.getElem?_eq_some_iff.1 h.d).1
  exact ⟨by rw [hb.block _ l1]; exact h.c, by rw [hb.block _ l2]; exact h.d, below_on h.bel hb⟩
theorem subK {A : Nat} {c d : Nat → Nat} {w W : World} (h : Bk A c d w W) {x s : Nat} (hx : x < 256) (e : gsub x = s) :
    Calls Try.prog 17 #[.int .u8 x] W fun e w' => e = .returned (.int .u8 s) ∧ Bk A c d w w' :=
  (sub_any x W hx).mono fun _ _ q => ⟨by rw [q.1, e], h.on q.2⟩
theorem unsK {A : Nat} {c d : Nat → Nat} {w W : World} (h : Bk A c d w W) {x s : Nat} (hx : x < 256) (e : guns x = s) :
    Calls Try.prog 19 #[.int .u8 x] W fun e w' => e = .returned (.int .u8 s) ∧ Bk A c d w w' :=
  (unsub_any x W hx).mono fun _ _ q => ⟨by rw [q.1, e], h.on q.2⟩
theorem index4 (f : Nat → Nat) (k : Nat) (h : k < 4) (W : World) : (Instr.index 27 (.agg (col f)) (.int .i64 (k : Int))).run Try.prog W = .ok (.int .u8 (f k)) W := by
  have h1 := col_at f h
  have h2 : (k : Int) < 4 := by omega
  simp [Instr.index, asIntOf, run_underlying Try.underlying27, h1, go_sem]
  intro h'
  omega

theorem cpl_all : ∀ x : Fin 256, 255 ^^^ x.val = 255 - x.val := by decide +kernel
/-- What each of the first operations of 'x, y := Column(c), Column(d)' yields. -/
def xyS (c d : Nat → Nat) (L : Nat) (j : Nat) (v : Value) (W : World) : Prop :=
  match j with
  | 0 => v = .agg (col c) | 1 => v = .agg (col (mixk fwd c)) | 2 => v = .agg (col d) | 3 => v = .agg (col (mixk fwd d))
  | _ => ∃ b, v = .pointer (some ⟨b, 0, none⟩) ∧ L ≤ b ∧ W.heap[b]? = some (.cells (col fun _ => 0) 27)
def xyD (i j : Nat) (u v : Value) : Prop := 4 ≤ i → 4 ≤ j → u ≠ v
theorem xyS_on {c d : Nat → Nat} {L j : Nat} {v : Value} {W W' : World} (h : xyS c d L j v W) (hb : Below W.heap.size W W') : xyS c d L j v W' := by
  match j, h with
  | 0, h => exact h
  | 1, h => exact h
  | 2, h => exact h
  | 3, h => exact h
  | n + 4, h =>
    obtain ⟨b, rfl, lb, gb⟩ := h
    exact ⟨b, rfl, lb, by rw [hb.block _ (Array.getElem?_eq_some_iff.1 gb).1]; exact gb⟩
theorem xyD_low {i j : Nat} {u v : Value} (h : j < 4) : xyD i j u v ∧ xyD j i v u := ⟨fun _ h' => absurd h' (by omega), fun h' => absurd h' (by omega)⟩
theorem xyD_new {c d : Nat → Nat} {L i j : Nat} {u : Value} {W : World} (h : xyS c d L i u W) : xyD i j u (.pointer (some ⟨W.heap.size, 0, none⟩)) ∧ xyD j i (.pointer (some ⟨W.heap.size, 0, none⟩)) u := by
  by_cases hi : 4 ≤ i
  · obtain ⟨n, rfl⟩ : ∃ n, i = n + 4 := ⟨i - 4, by omega⟩
    obtain ⟨b, rfl, lb, gb⟩ := h
    have l := (Array.getElem?_eq_some_iff.1 gb).1
    have ne : (Value.pointer (some ⟨b, 0, none⟩)) ≠ .pointer (some ⟨W.heap.size, 0, none⟩) := by
      intro e
      simp only [Value.pointer.injEq, Option.some.injEq, Addr.mk.injEq] at e
      omega
    exact ⟨fun _ _ => ne, fun _ _ e => ne e.symm⟩
  · exact ⟨fun h' => absurd h' hi, fun _ h' => absurd h' hi⟩

/-- What each operation of FieldBack's last region yields. -/
def fbS (c d : Nat → Nat) (j : Nat) (v : Value) : Prop :=
  match j with
  | 0 => v = .agg (col (mixk fwd c)) | 1 => v = .agg (col c) | 2 => v = .agg (col c) | 3 => v = .bool true | 4 => v = .bool true
  | 5 => v = .agg (col c) | 6 => v = .agg (col (mixk bwd c)) | 7 => v = .agg (col c) | 8 => v = .agg (col c) | 9 => v = .bool true | 10 => v = .bool true | 11 => v = .bool true
  | 12 => v = .agg (col fun i => c i ^^^ d i) | 13 => v = .agg (col fun i => mixk fwd c i ^^^ mixk fwd d i) | 14 => v = .agg (col fun i => mixk fwd c i ^^^ mixk fwd d i) | 15 => v = .bool true | _ => v = .bool true
/-- What each operation of 'e[i], f[i] = Add(c[i], d[i]), Add(x[i], y[i])' yields. -/
def abV (A X Y E k : Nat) (c d : Nat → Nat) (j : Nat) : Value :=
  match j with
  | 0 => .int .i64 k | 1 => .int .i64 k | 2 => .int .i64 k | 3 => .pointer (some ⟨A, k, none⟩) | 4 => .int .u8 (c k) | 5 => .int .i64 k | 6 => .pointer (some ⟨A + 1, k, none⟩) | 7 => .int .u8 (d k) | 8 => .int .u8 (c k ^^^ d k : Nat)
  | 9 => .int .i64 k | 10 => .pointer (some ⟨X, k, none⟩) | 11 => .int .u8 (mixk fwd c k : Nat) | 12 => .int .i64 k | 13 => .pointer (some ⟨Y, k, none⟩) | 14 => .int .u8 (mixk fwd d k : Nat) | 15 => .int .u8 (mixk fwd c k ^^^ mixk fwd d k : Nat)
  | 16 => .pointer (some ⟨E, k, none⟩) | 18 => .pointer (some ⟨E + 1, k, none⟩) | _ => undef
/-- The memory behind what has come up. -/
structure AbT (A X Y E k : Nat) (c d : Nat → Nat) (w : World) (l : Nat → Bool) (W : World) : Prop where
  bk : Bk A c d w W
  x : W.heap[X]? = some (.cells (col (mixk fwd c)) 27)
  y : W.heap[Y]? = some (.cells (col (mixk fwd d)) 27)
  e : W.heap[E]? = some (.cells (col (uptoC (fun i => c i ^^^ d i) (if l 17 = true then k + 1 else k))) 27)
  f : W.heap[E + 1]? = some (.cells (col (uptoC (fun i => mixk fwd c i ^^^ mixk fwd d i) (if l 19 = true then k + 1 else k))) 27)
theorem execMv {P : Program} {o : Oper} {a : Act} {w : World} {x : Operand} {v : Value} (ho : o.op = .move x) (hx : a.eval x = v) : (execOp a.eval o).run P w = .ok (.value v) w := by
  rw [← hx]; exact execMove ho
theorem cellAt {W : World} {b k : Nat} {f : Nat → Nat} (h : W.heap[b]? = some (.cells (col f) 27)) (hk : k < 4) : W.cell? ⟨b, k, none⟩ = some (.int .u8 (f k)) := by
  rw [cell_of_row _ _ _ _ _ _ h]; exact col_at f hk

set_option maxRecDepth 20000 in
set_option maxHeartbeats 1000000 in
theorem back_any (c d : Nat → Nat) (w : World) (hc : ∀ i, i < 4 → c i < 256) (hd : ∀ i, i < 4 → d i < 256) :
    Calls Try.prog 7 #[.agg (col c), .agg (col d)] w fun e w' => e = .returned (.bool true) ∧ Below w.heap.size w w' := by
  have HC : Hid (_) := hc
  have HD : Hid (_) := hd
  clear hc hd
  go_enter Try.func7, Try.ntmps7
  go_wp2_with fail
  have k0 : Bk w.heap.size c d w ((w.alloc (.cells (col c) 27)).alloc (.cells (col d) 27)) := by
    have h := heap3c w (.cells (col c) 27) (.cells (col d) 27) (.cells (col d) 27)
    have hs : ∀ (v : World) (o : Obj), (v.alloc o).heap = v.heap.push o := fun _ _ => rfl
    refine ⟨?_, ?_, ((Below.refl _ _).alloc (Nat.le_refl _) _).alloc (by simp) _⟩
    · simp only [hs, Array.getElem?_push, Array.size_push]; rw [if_neg (by omega), if_pos trivial]
    · simp only [hs, Array.getElem?_push, Array.size_push]; rw [if_pos trivial]
  obtain ⟨A, hA⟩ : ∃ A, A = w.heap.size := ⟨_, rfl⟩
  rw [← hA] at k0 ⊢
  have LA : Hid (w.heap.size ≤ A) := by show w.heap.size ≤ A; omega
  clear hA
  refine (awake_any _).mono ?_
  rintro e w1 ⟨rfl, hb1⟩
  have k1 := k0.on hb1
  clear k0 hb1
  go_wp2_with (first
    | (refine atLoad 27 (.tmp 2) rfl ?_; go_must (refine wpList_load_row rfl 27 (.tmp 2) rfl A rfl 27 _ (0, 0) _ k1.c Try.underlying27 rfl (size4' _) ?_; simp only [Act.put, List.setIfInBounds_toArray, List.set_cons_succ, List.set_cons_zero])))
  go_loopw [16] (fun i W => ∃ k : Nat, k ≤ 4 ∧ i = .int .i64 k ∧ Bk A c d w W) (fun i _ => 4 - (intOf i).toNat)
  case atStart => exact ⟨0, by omega, rfl, k1⟩
  case round =>
    obtain ⟨k, hk, rfl, kb⟩ := hrel
    clear k1
    by_cases hlt : k < 4
    · have i1 : (k : Int) < 4 := by omega
      have ix := index4 c k hlt
      obtain ⟨x, x0⟩ : ∃ x, c k = x := ⟨_, rfl⟩
      have x1 : x < 256 := by rw [← x0]; exact HC.out k hlt
      rw [x0] at ix
      have sa := sub_all ⟨x, x1⟩
      simp only at sa
      obtain ⟨s, s0⟩ : ∃ s, gsub x = s := ⟨_, rfl⟩
      obtain ⟨u, u0⟩ : ∃ u, guns x = u := ⟨_, rfl⟩
      rw [s0, u0] at sa
      obtain ⟨s1, u1, s2, u2, n1, n2⟩ := sa
      have z1 : ((s : Int) == (x : Int)) = false := by simp; omega
      have z2 : ((s : Int) == bits BinOp.xor IntKind.u8 IntKind.u8.max (x : Int)) = false := by
        have e : bits BinOp.xor IntKind.u8 IntKind.u8.max (x : Int) = ((255 - x : Nat) : Int) := by
          show bits BinOp.xor IntKind.u8 ((255 : Nat) : Int) (x : Int) = _
          rw [xor_u8 (by omega) x1, cpl_all ⟨x, x1⟩]
        rw [e]
        have : ¬ (s : Int) = ((255 - x : Nat) : Int) := fun q => n2 (by omega)
        simpa using this
      have z3 : ((s : Int) == bits BinOp.xor IntKind.u8 (if IntKind.u8.signed = true then -1 else IntKind.u8.max) (x : Int)) = false := z2
      go_wp2_with (first
        | (go_at_call 17; refine (subK kb (by assumption) (by assumption)).mono ?_; rintro e w' ⟨rfl, kb⟩)
        | (go_at_call 19; refine (unsK kb (by assumption) (by assumption)).mono ?_; rintro e w' ⟨rfl, kb⟩))
      go_roundw
      case rel => exact ⟨k + 1, by omega, by go_num, kb⟩
      case measure => simp [intOf]; omega
    · have i1 : ¬ (k : Int) < 4 := by omega
      have ek : k = 4 := by omega
      subst ek
      have z4 := zero4
      go_wp2_with fail
      clear z4
      obtain ⟨V, hV⟩ : ∃ V, V = (wr.alloc (.cells (col fun _ => 0) 27)).alloc (.cells (col fun _ => 0) 27) := ⟨_, rfl⟩
      obtain ⟨E, hE⟩ : ∃ E, E = wr.heap.size := ⟨_, rfl⟩
      have kV : Bk A c d w V := by rw [hV]; exact kb.on (((Below.refl _ _).alloc (Nat.le_refl _) _).alloc (by simp) _)
      have sV : V.heap.size = E + 2 := by rw [hV, hE]; simp
      have hs : ∀ (v : World) (o : Obj), (v.alloc o).heap = v.heap.push o := fun _ _ => rfl
      have gE : V.heap[E]? = some (.cells (col fun _ => 0) 27) := by
        rw [hV, hE]; simp only [hs, Array.getElem?_push, Array.size_push]; rw [if_neg (by omega), if_pos trivial]
      have gF : V.heap[E + 1]? = some (.cells (col fun _ => 0) 27) := by
        rw [hV, hE]; simp only [hs, Array.getElem?_push, Array.size_push]; rw [if_pos trivial]
      have lE : w.heap.size ≤ E ∧ A + 1 < E := by rw [hE]; exact ⟨kb.bel.size, (Array.getElem?_eq_some_iff.1 kb.d).1⟩
      rw [← hV, ← hE]
      clear hV hE kb hs i1 hk
      have KV : Hid (_) := kV
      have SV : Hid (_) := sV
      have GE : Hid (_) := gE
      have GF : Hid (_) := gF
      have LE : Hid (_) := lE
      clear kV sV gE gF lE
      refine wp_region_slotsAD 6 87 [44, 45, 46, 47, 10, 11] (xyS c d V.heap.size) xyD (by kernel_rfl) (by kernel_rfl) (by kernel_rfl) (by decide) rfl rfl (by decide) (by decide) (fun _ _ _ _ h hb => xyS_on h hb) ?_ ?_
      · intro j hj a W hB hf hdep
        have kW := KV.out.on hB
        match j, hj with
        | 0, _ => exact stepV rfl rfl (execLoadRow rfl (hf 2 (by decide)) kW.c Try.underlying27 rfl (size4' _)) ⟨_, rfl, rfl, Below.refl _ _, fun i u _ _ _ _ => xyD_low (by omega)⟩
        | 1, _ =>
          have h0 : a.eval (.tmp 44) = .agg (col c) := hdep _ rfl 0 rfl
          exact stepC rfl rfl (execCall1 Try.func21 (by kernel_rfl) (by kernel_rfl) rfl h0) (column_any c W HC.out) fun e w' h => ⟨_, h.1, _, rfl, rfl, h.2, fun i u _ _ _ _ => xyD_low (by omega)⟩
        | 2, _ => exact stepV rfl rfl (execLoadRow rfl (hf 3 (by decide)) kW.d Try.underlying27 rfl (size4' _)) ⟨_, rfl, rfl, Below.refl _ _, fun i u _ _ _ _ => xyD_low (by omega)⟩
        | 3, _ =>
          have h0 : a.eval (.tmp 46) = .agg (col d) := hdep _ rfl 2 rfl
          exact stepC rfl rfl (execCall1 Try.func21 (by kernel_rfl) (by kernel_rfl) rfl h0) (column_any d W HD.out) fun e w' h => ⟨_, h.1, _, rfl, rfl, h.2, fun i u _ _ _ _ => xyD_low (by omega)⟩
        | 4, _ => exact stepV rfl rfl (execAlloc4 rfl) ⟨_, rfl, ⟨_, rfl, hB.size, by show (W.heap.push _)[W.heap.size]? = _; rw [Array.getElem?_push_size]⟩, (Below.refl _ _).alloc (Nat.le_refl _) _, fun i u _ _ h _ => xyD_new h⟩
        | 5, _ => exact stepV rfl rfl (execAlloc4 rfl) ⟨_, rfl, ⟨_, rfl, hB.size, by show (W.heap.push _)[W.heap.size]? = _; rw [Array.getElem?_push_size]⟩, (Below.refl _ _).alloc (Nat.le_refl _) _, fun i u _ _ h _ => xyD_new h⟩
        | n + 6, h => exact absurd h (by omega)
      · intro x W hB hS hD
        obtain ⟨X, hX, lX, gX⟩ := hS 4 (by omega)
        obtain ⟨Y, hY, lY, gY⟩ := hS 5 (by omega)
        have hXY : X ≠ Y := by
          intro e
          have := hD 4 5 (by omega) (by omega) (by omega) (by omega) (by omega)
          rw [hX, hY, e] at this
          exact this rfl
        have x0 : x 0 = .agg (col c) := hS 0 (by omega)
        have x1 : x 1 = .agg (col (mixk fwd c)) := hS 1 (by omega)
        have x2 : x 2 = .agg (col d) := hS 2 (by omega)
        have x3 : x 3 = .agg (col (mixk fwd d)) := hS 3 (by omega)
        simp only [putL, Act.put, List.setIfInBounds_toArray, List.set_cons_succ, List.set_cons_zero, hX, hY, x0, x1, x2, x3]
        have kW := KV.out.on hB
        have fE : W.heap[E]? = some (.cells (col fun _ => 0) 27) := by rw [hB.block _ (by have := SV.out; omega)]; exact GE.out
        have fF : W.heap[E + 1]? = some (.cells (col fun _ => 0) 27) := by rw [hB.block _ (by have := SV.out; omega)]; exact GF.out
        have lX' : E + 2 ≤ X := by have := SV.out; omega
        have lY' : E + 2 ≤ Y := by have := SV.out; omega
        have GX : Hid (_) := gX
        have GY : Hid (W.heap[Y]? = some (.cells (col fun _ => 0) 27)) := gY
        have GY' : Hid ((W.setRow X (col (mixk fwd c))).heap[Y]? = some (.cells (col fun _ => 0) 27)) := by
          show (W.setRow X (col (mixk fwd c))).heap[Y]? = _
          rw [setRow_other _ _ _ _ (by omega)]; exact gY
        have T0 : Hid (AbT A X Y E 0 c d w (fun _ => false) ((W.setRow X (col (mixk fwd c))).setRow Y (col (mixk fwd d)))) := by
          have h := LE.out
          have o (b : Nat) (h1 : b ≠ X) (h2 : b ≠ Y) : ((W.setRow X (col (mixk fwd c))).setRow Y (col (mixk fwd d))).heap[b]? = W.heap[b]? := by
            rw [setRow_other _ _ _ _ (by omega), setRow_other _ _ _ _ (by omega)]
          refine ⟨⟨?_, ?_, below4 (below4 kW.bel (by omega) _) (by omega) _⟩, ?_, ?_, ?_, ?_⟩
          · rw [o _ (by omega) (by omega)]; exact kW.c
          · rw [o _ (by omega) (by omega)]; exact kW.d
          · rw [setRow_other _ _ _ _ (by omega)]; exact setRow_heap _ _ _ _ _ _ gX
          · exact setRow_heap _ _ _ _ _ _ GY'.out
          · rw [o _ (by omega) (by omega)]; exact fE
          · rw [o _ (by omega) (by omega)]; exact fF
        have HX : Hid (E + 2 ≤ X ∧ E + 2 ≤ Y ∧ X ≠ Y) := ⟨lX', lY', hXY⟩
        clear hS hD x0 x1 x2 x3 hX hY lX lY gX gY hXY hB kW fE fF lX' lY' GY KV SV GE GF
        refine wpList_store_row rfl 27 (.tmp 10) (.tmp 45) rfl X _ rfl rfl 27 _ GX.out (size4' _) rfl (col_one _) ?_
        refine wpList_store_row rfl 27 (.tmp 11) (.tmp 47) rfl Y _ rfl rfl 27 _ GY'.out (size4' _) rfl (col_one _) ?_
        go_wp2
        clear GX GY'
        go_loopw [48] (fun i W => ∃ k : Nat, k ≤ 4 ∧ i = .int .i64 k ∧ AbT A X Y E k c d w (fun _ => false) W) (fun i _ => 4 - (intOf i).toNat)
        case atStart => exact ⟨0, by omega, rfl, T0.out⟩
        case round =>
          obtain ⟨k, hk, rfl, kt⟩ := hrel
          clear T0
          have KT : Hid (_) := kt
          clear kt
          by_cases hlt : k < 4
          · have i1 : (k : Int) < 4 := by omega
            have HL : Hid (k < 4) := hlt
            clear hlt hk
            go_wp2_with fail
            refine wp_region_det 87 [(0, 51), (1, 52), (2, 53), (3, 54), (4, 55), (5, 56), (6, 57), (7, 58), (8, 59), (9, 60), (10, 61), (11, 62), (12, 63), (13, 64), (14, 65), (15, 66), (16, 67), (18, 68)] (abV A X Y E k c d) (AbT A X Y E k c d w) (by kernel_rfl) (by kernel_rfl) rfl (by kernel_rfl) (by decide) (by decide) ?_ ?_ ?_
            · exact ⟨⟨KT.out.bk.c, KT.out.bk.d, KT.out.bk.bel.drew⟩, KT.out.x, KT.out.y, KT.out.e, KT.out.f⟩
            · intro j hj l a W hl hf hdep hl2 hT
              have lk := HL.out
              match j, hj with
              | 0, _ => exact stepV rfl rfl (execMv rfl (hf 12 (by decide))) ⟨⟨_, rfl, rfl⟩, ⟨hT.bk, hT.x, hT.y, hT.e, hT.f⟩⟩
              | 1, _ => exact stepV rfl rfl (execMv rfl (hf 12 (by decide))) ⟨⟨_, rfl, rfl⟩, ⟨hT.bk, hT.x, hT.y, hT.e, hT.f⟩⟩
              | 2, _ => exact stepV rfl rfl (execMv rfl (hf 12 (by decide))) ⟨⟨_, rfl, rfl⟩, ⟨hT.bk, hT.x, hT.y, hT.e, hT.f⟩⟩
              | 3, _ => exact stepV rfl rfl (execIdx4 rfl (hf 2 (by decide)) (hdep _ rfl 2 rfl _ rfl _ rfl) lk) ⟨⟨_, rfl, rfl⟩, ⟨hT.bk, hT.x, hT.y, hT.e, hT.f⟩⟩
              | 4, _ => exact stepV rfl rfl (execLd5 rfl (hdep _ rfl 3 rfl _ rfl _ rfl) (cellAt hT.bk.c lk)) ⟨⟨_, rfl, rfl⟩, ⟨hT.bk, hT.x, hT.y, hT.e, hT.f⟩⟩
              | 5, _ => exact stepV rfl rfl (execMv rfl (hf 12 (by decide))) ⟨⟨_, rfl, rfl⟩, ⟨hT.bk, hT.x, hT.y, hT.e, hT.f⟩⟩
              | 6, _ => exact stepV rfl rfl (execIdx4 rfl (hf 3 (by decide)) (hdep _ rfl 5 rfl _ rfl _ rfl) lk) ⟨⟨_, rfl, rfl⟩, ⟨hT.bk, hT.x, hT.y, hT.e, hT.f⟩⟩
              | 7, _ => exact stepV rfl rfl (execLd5 rfl (hdep _ rfl 6 rfl _ rfl _ rfl) (cellAt hT.bk.d lk)) ⟨⟨_, rfl, rfl⟩, ⟨hT.bk, hT.x, hT.y, hT.e, hT.f⟩⟩
              | 8, _ =>
                exact stepC rfl rfl (execCall2 Try.func9 (by kernel_rfl) (by kernel_rfl) rfl (hdep _ rfl 4 rfl _ rfl _ rfl) (hdep _ rfl 7 rfl _ rfl _ rfl)) (add_any (c k) (d k) W (HC.out k lk) (HD.out k lk)) fun e w' h => ⟨_, h.1, ⟨_, rfl, rfl⟩, by rw [h.2]; exact ⟨hT.bk, hT.x, hT.y, hT.e, hT.f⟩⟩
              | 9, _ => exact stepV rfl rfl (execMv rfl (hf 12 (by decide))) ⟨⟨_, rfl, rfl⟩, ⟨hT.bk, hT.x, hT.y, hT.e, hT.f⟩⟩
              | 10, _ => exact stepV rfl rfl (execIdx4 rfl (hf 10 (by decide)) (hdep _ rfl 9 rfl _ rfl _ rfl) lk) ⟨⟨_, rfl, rfl⟩, ⟨hT.bk, hT.x, hT.y, hT.e, hT.f⟩⟩
              | 11, _ => exact stepV rfl rfl (execLd5 rfl (hdep _ rfl 10 rfl _ rfl _ rfl) (cellAt hT.x lk)) ⟨⟨_, rfl, rfl⟩, ⟨hT.bk, hT.x, hT.y, hT.e, hT.f⟩⟩
              | 12, _ => exact stepV rfl rfl (execMv rfl (hf 12 (by decide))) ⟨⟨_, rfl, rfl⟩, ⟨hT.bk, hT.x, hT.y, hT.e, hT.f⟩⟩
              | 13, _ => exact stepV rfl rfl (execIdx4 rfl (hf 11 (by decide)) (hdep _ rfl 12 rfl _ rfl _ rfl) lk) ⟨⟨_, rfl, rfl⟩, ⟨hT.bk, hT.x, hT.y, hT.e, hT.f⟩⟩
              | 14, _ => exact stepV rfl rfl (execLd5 rfl (hdep _ rfl 13 rfl _ rfl _ rfl) (cellAt hT.y lk)) ⟨⟨_, rfl, rfl⟩, ⟨hT.bk, hT.x, hT.y, hT.e, hT.f⟩⟩
              | 15, _ =>
                exact stepC rfl rfl (execCall2 Try.func9 (by kernel_rfl) (by kernel_rfl) rfl (hdep _ rfl 11 rfl _ rfl _ rfl) (hdep _ rfl 14 rfl _ rfl _ rfl)) (add_any (mixk fwd c k) (mixk fwd d k) W (mixk_lt fwd_lt c k) (mixk_lt fwd_lt d k)) fun e w' h => ⟨_, h.1, ⟨_, rfl, rfl⟩, by rw [h.2]; exact ⟨hT.bk, hT.x, hT.y, hT.e, hT.f⟩⟩
              | 16, _ => exact stepV rfl rfl (execIdx4 rfl (hf 8 (by decide)) (hdep _ rfl 0 rfl _ rfl _ rfl) lk) ⟨⟨_, rfl, rfl⟩, ⟨hT.bk, hT.x, hT.y, hT.e, hT.f⟩⟩
              | 17, _ =>
                have ge := hT.e
                rw [hl, if_neg (by decide)] at ge
                have h1 := LE.out
                have h2 := HX.out
                refine stepS rfl rfl (execSt5 rfl (hdep _ rfl 16 rfl _ rfl _ rfl) (hdep _ rfl 8 rfl _ rfl _ rfl) (cellAt ge lk) (frozen4 ge)) ⟨⟨_, rfl, rfl⟩, ⟨⟨?_, ?_, hT.bk.bel.setCell h1.1 _⟩, ?_, ?_, ?_, ?_⟩⟩
                · rw [heap4o _ ge (by omega)]; exact hT.bk.c
                · rw [heap4o _ ge (by omega)]; exact hT.bk.d
                · rw [heap4o _ ge (by omega)]; exact hT.x
                · rw [heap4o _ ge (by omega)]; exact hT.y
                · rw [heap4 _ ge]; exact congrArg (fun z => some (Obj.cells z 27)) (col_set (fun i => c i ^^^ d i) lk)
                · rw [heap4o _ ge (by omega)]; exact hT.f
              | 18, _ => exact stepV rfl rfl (execIdx4 rfl (hf 9 (by decide)) (hdep _ rfl 1 rfl _ rfl _ rfl) lk) ⟨⟨_, rfl, rfl⟩, ⟨hT.bk, hT.x, hT.y, hT.e, hT.f⟩⟩
              | 19, _ =>
                have gf := hT.f
                rw [hl, if_neg (by decide)] at gf
                have h1 := LE.out
                have h2 := HX.out
                refine stepS rfl rfl (execSt5 rfl (hdep _ rfl 18 rfl _ rfl _ rfl) (hdep _ rfl 15 rfl _ rfl _ rfl) (cellAt gf lk) (frozen4 gf)) ⟨⟨_, rfl, rfl⟩, ⟨⟨?_, ?_, hT.bk.bel.setCell (Nat.le_succ_of_le h1.1) _⟩, ?_, ?_, ?_, ?_⟩⟩
                · rw [heap4o _ gf (by omega)]; exact hT.bk.c
                · rw [heap4o _ gf (by omega)]; exact hT.bk.d
                · rw [heap4o _ gf (by omega)]; exact hT.x
                · rw [heap4o _ gf (by omega)]; exact hT.y
                · rw [heap4o _ gf (by omega)]; exact hT.e
                · rw [heap4 _ gf]; exact congrArg (fun z => some (Obj.cells z 27)) (col_set (fun i => mixk fwd c i ^^^ mixk fwd d i) lk)
              | n + 20, h => exact absurd h (by simp)
            · intro l W hall hT
              have he := hT.e
              have hf := hT.f
              rw [hall 17 (by simp), if_pos rfl] at he
              rw [hall 19 (by simp), if_pos rfl] at hf
              have KT2 : Hid (AbT A X Y E (k + 1) c d w (fun _ => false) W) := ⟨hT.bk, hT.x, hT.y, he, hf⟩
              clear hall hT he hf KT
              simp only [putP, abV, Act.put, List.setIfInBounds_toArray, List.set_cons_succ, List.set_cons_zero]
              go_wp2
              go_roundw
              case rel => exact ⟨k + 1, by have := HL.out; omega, by go_num, KT2.out⟩
              case measure => have := HL.out; simp [intOf]; omega
          · have i1 : ¬ (k : Int) < 4 := by omega
            have ek : k = 4 := by omega
            subst ek
            go_wp2_with fail
            have lc : A < wr.heap.size := (Array.getElem?_eq_some_iff.1 KT.out.bk.c).1
            have lx : X < wr.heap.size := (Array.getElem?_eq_some_iff.1 KT.out.x).1
            have le : E < wr.heap.size := (Array.getElem?_eq_some_iff.1 KT.out.e).1
            have lf : E + 1 < wr.heap.size := (Array.getElem?_eq_some_iff.1 KT.out.f).1
            refine wp_region_slotsA 17 87 [70, 71, 72, 73, 74, 75, 76, 77, 78, 79, 80, 81, 82, 83, 84, 85, 86] (fun j v _ => fbS c d j v) (by kernel_rfl) (by kernel_rfl) (by kernel_rfl) (by decide) rfl rfl (by decide) (by decide) (fun _ _ _ _ h _ => h) ?_ ?_
            · intro j hj a W hB hf hdep
              have gC : W.heap[A]? = some (.cells (col c) 27) := by rw [hB.block _ lc]; exact KT.out.bk.c
              have gX : W.heap[X]? = some (.cells (col (mixk fwd c)) 27) := by rw [hB.block _ lx]; exact KT.out.x
              have gE : W.heap[E]? = some (.cells (col fun i => c i ^^^ d i) 27) := by rw [hB.block _ le]; exact KT.out.e
              have gF : W.heap[E + 1]? = some (.cells (col fun i => mixk fwd c i ^^^ mixk fwd d i) 27) := by rw [hB.block _ lf]; exact KT.out.f
              match j, hj with
              | 0, _ => exact stepV rfl rfl (execLoadRow rfl (hf 10 (by decide)) gX Try.underlying27 rfl (size4' _)) ⟨_, rfl, rfl, Below.refl _ _⟩
              | 1, _ =>
                have r := uncolumn_any (mixk fwd c) W (fun i _ => mixk_lt fwd_lt c i)
                rw [col_congr (f := mixk bwd (mixk fwd c)) (g := c) (fun i hi => mix_back HC.out hi)] at r
                exact stepC rfl rfl (execCall1 Try.func23 (by kernel_rfl) (by kernel_rfl) rfl (hdep _ rfl 0 rfl)) r fun e w' h => ⟨_, h.1, _, rfl, rfl, h.2⟩
              | 2, _ => exact stepV rfl rfl (execLoadRow rfl (hf 2 (by decide)) gC Try.underlying27 rfl (size4' _)) ⟨_, rfl, rfl, Below.refl _ _⟩
              | 3, _ => exact stepV rfl rfl (exec_same4 rfl (hdep _ rfl 1 rfl) (hdep _ rfl 2 rfl)) ⟨_, rfl, rfl, Below.refl _ _⟩
              | 4, _ => exact stepV rfl rfl (execMove rfl) ⟨_, rfl, hdep _ rfl 3 rfl, Below.refl _ _⟩
              | 5, _ =>
                have g : a.eval (.tmp 74) = .bool true := hdep _ rfl 4 rfl
                exact stepV rfl (wantedOf rfl (yieldedAt rfl rfl g)) (execLoadRow rfl (hf 2 (by decide)) gC Try.underlying27 rfl (size4' _)) ⟨_, rfl, rfl, Below.refl _ _⟩
              | 6, _ =>
                have g : a.eval (.tmp 74) = .bool true := hdep _ rfl 4 rfl
                exact stepC rfl (wantedOf rfl (yieldedAt rfl rfl g)) (execCall1 Try.func23 (by kernel_rfl) (by kernel_rfl) rfl (hdep _ rfl 5 rfl)) (uncolumn_any c W HC.out) fun e w' h => ⟨_, h.1, _, rfl, rfl, h.2⟩
              | 7, _ =>
                have g : a.eval (.tmp 74) = .bool true := hdep _ rfl 4 rfl
                have r := column_any (mixk bwd c) W (fun i _ => mixk_lt bwd_lt c i)
                rw [col_congr (f := mixk fwd (mixk bwd c)) (g := c) (fun i hi => mix_forth HC.out hi)] at r
                exact stepC rfl (wantedOf rfl (yieldedAt rfl rfl g)) (execCall1 Try.func21 (by kernel_rfl) (by kernel_rfl) rfl (hdep _ rfl 6 rfl)) r fun e w' h => ⟨_, h.1, _, rfl, rfl, h.2⟩
              | 8, _ =>
                have g : a.eval (.tmp 74) = .bool true := hdep _ rfl 4 rfl
                exact stepV rfl (wantedOf rfl (yieldedAt rfl rfl g)) (execLoadRow rfl (hf 2 (by decide)) gC Try.underlying27 rfl (size4' _)) ⟨_, rfl, rfl, Below.refl _ _⟩
              | 9, _ =>
                have g : a.eval (.tmp 74) = .bool true := hdep _ rfl 4 rfl
                exact stepV rfl (wantedOf rfl (yieldedAt rfl rfl g)) (exec_same4 rfl (hdep _ rfl 7 rfl) (hdep _ rfl 8 rfl)) ⟨_, rfl, rfl, Below.refl _ _⟩
              | 10, _ => exact stepV rfl rfl (execPick (b := true) rfl (hdep _ rfl 4 rfl) (hdep _ rfl 9 rfl)) ⟨_, rfl, rfl, Below.refl _ _⟩
              | 11, _ => exact stepV rfl rfl (execMove rfl) ⟨_, rfl, hdep _ rfl 10 rfl, Below.refl _ _⟩
              | 12, _ =>
                have g : a.eval (.tmp 81) = .bool true := hdep _ rfl 11 rfl
                exact stepV rfl (wantedOf rfl (yieldedAt rfl rfl g)) (execLoadRow rfl (hf 8 (by decide)) gE Try.underlying27 rfl (size4' _)) ⟨_, rfl, rfl, Below.refl _ _⟩
              | 13, _ =>
                have g : a.eval (.tmp 81) = .bool true := hdep _ rfl 11 rfl
                have r := column_any (fun i => c i ^^^ d i) W (fun i hi => xor_lt (HC.out i hi) (HD.out i hi))
                rw [col_congr (f := mixk fwd fun i => c i ^^^ d i) (g := fun i => mixk fwd c i ^^^ mixk fwd d i) (fun i _ => mixk_xor fwd c d i)] at r
                exact stepC rfl (wantedOf rfl (yieldedAt rfl rfl g)) (execCall1 Try.func21 (by kernel_rfl) (by kernel_rfl) rfl (hdep _ rfl 12 rfl)) r fun e w' h => ⟨_, h.1, _, rfl, rfl, h.2⟩
              | 14, _ =>
                have g : a.eval (.tmp 81) = .bool true := hdep _ rfl 11 rfl
                exact stepV rfl (wantedOf rfl (yieldedAt rfl rfl g)) (execLoadRow rfl (hf 9 (by decide)) gF Try.underlying27 rfl (size4' _)) ⟨_, rfl, rfl, Below.refl _ _⟩
              | 15, _ =>
                have g : a.eval (.tmp 81) = .bool true := hdep _ rfl 11 rfl
                exact stepV rfl (wantedOf rfl (yieldedAt rfl rfl g)) (exec_same4 rfl (hdep _ rfl 13 rfl) (hdep _ rfl 14 rfl)) ⟨_, rfl, rfl, Below.refl _ _⟩
              | 16, _ => exact stepV rfl rfl (execPick (b := true) rfl (hdep _ rfl 11 rfl) (hdep _ rfl 15 rfl)) ⟨_, rfl, rfl, Below.refl _ _⟩
              | n + 17, h => exact absurd h (by omega)
            · intro x W hB hS
              have hx : x 16 = .bool true := hS 16 (by omega)
              have HW : Hid (Below w.heap.size w W) := below_on KT.out.bk.bel hB
              clear hB hS lc lx le lf
              simp only [putL, Act.put, List.setIfInBounds_toArray, List.set_cons_succ, List.set_cons_zero, hx]
              go_wp2
              go_ret
              exact ⟨rfl, HW.out⟩
end Go.Proofs.Ytdddecclajmicaa
