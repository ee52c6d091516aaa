import Derived.Test.YtaiiomoajjhliaaDoorI1
import Derived.Test.YtaiiomoajjhliaaDoorW4
import Derived.Test.YtaiiomoajjhliaaDoorX3
namespace Go.Proofs.YtaiiomoajjhliaaDoor.Aes
open Go.RowKit Gf8
/- The program's block: sum. -/

/-- Two blocks, byte by byte. -/
def xorB (a b : Nat → Nat) : Nat → Nat := fun j => a j ^^^ b j
theorem addR_xorB (w b : Nat → Nat) (i : Nat) : xorB b (fun j => w (16 * i + j)) = addR w b i := rfl
/-- What each operation of 'a[i] ^= b[i]' yields. -/
def smV (A k : Nat) (a b : Nat → Nat) (j : Nat) : Value :=
  match j with
  | 0 => .int .i64 k | 1 => .pointer (some ⟨A, k, none⟩) | 2 => .int .u8 (a k) | 3 => .int .i64 k | 4 => .pointer (some ⟨A + 1, k, none⟩)
  | 5 => .int .u8 (b k) | 6 => .int .u8 (xorB a b k : Nat) | 7 => .pointer (some ⟨A, k, none⟩) | _ => undef
structure SmT (A k : Nat) (a b : Nat → Nat) (V : World) (l : Nat → Bool) (W : World) : Prop where
  m : W.heap[A]? = some (.cells (bA 16 (mixU (xorB a b) a (if l 8 = true then k + 1 else k))) 33)
  w : W.heap[A + 1]? = some (.cells (bA 16 b) 33)
  r : W.heap[A + 2]? = some (.cells (bA 16 fun _ => 0) 33)
  bel : Below A V W

set_option maxRecDepth 20000 in
set_option maxHeartbeats 400000 in
theorem sum_any (a b : Nat → Nat) (V : World) (ha : By a) (hb : By b) :
    Calls Tryd.prog 72 #[.agg (bA 16 a), .agg (bA 16 b)] V fun e w' => e = .returned (.agg (bA 16 (xorB a b))) ∧ Below V.heap.size V w' := by
  have HA : Hid (By a) := ha
  have HB : Hid (By b) := hb
  clear ha hb
  have z := zero16
  go_enter Tryd.func72, Tryd.ntmps72
  go_wp2_with fail
  have t0 : SmT V.heap.size 0 a b V (fun _ => false) (((V.alloc (.cells (bA 16 a) 33)).alloc (.cells (bA 16 b) 33)).alloc (.cells (bA 16 fun _ => 0) 33)) := by
    have h := heap3c V (.cells (bA 16 a) 33) (.cells (bA 16 b) 33) (.cells (bA 16 fun _ => 0) 33)
    exact ⟨h.1, h.2.1, h.2.2, below3c _ _ _ _⟩
  obtain ⟨A, hA⟩ : ∃ A, A = V.heap.size := ⟨_, rfl⟩
  rw [← hA] at t0 ⊢
  have VA : Hid (V.heap.size = A) := hA.symm
  have T0 : Hid (_) := t0
  clear z t0 hA
  rw [show A + 1 + 1 = A + 2 from rfl]
  go_loopw [6] (fun x W => ∃ k : Nat, k ≤ 16 ∧ x = .int .i64 k ∧ SmT A k a b V (fun _ => false) W) (fun x _ => 16 - (intOf x).toNat)
  case atStart => exact ⟨0, by omega, rfl, T0.out⟩
  case round =>
    obtain ⟨k, hk, rfl, kt⟩ := hrel
    have KT : Hid (_) := kt
    clear kt T0
    by_cases hlt : k < 16
    · have i1 : (k : Int) < 16 := by omega
      have HL : Hid (k < 16) := hlt
      clear hlt hk
      go_wp2_with fail
      refine wp_region_det 19 [(0, 9), (1, 10), (2, 11), (3, 12), (4, 13), (5, 14), (6, 15), (7, 16)] (smV A k a b) (SmT A k a b V) (by kernel_rfl) (by kernel_rfl) rfl (by kernel_rfl) (by decide) (by decide) ?_ ?_ ?_
      · exact ⟨KT.out.m, KT.out.w, KT.out.r, KT.out.bel.drew⟩
      · intro j hj l a W hl hf hdep hl2 hcl _ hT
        have lk := HL.out
        match j, hj with
        | 0, _ => exact stepV rfl rfl (execMvB rfl (hf 5 (by decide))) ⟨⟨_, rfl, rfl⟩, ⟨hT.m, hT.w, hT.r, hT.bel⟩⟩
        | 1, _ => exact stepV rfl rfl (execIdx16 rfl (hf 2 (by decide)) (hdep _ rfl 0 rfl _ rfl _ rfl) lk) ⟨⟨_, rfl, rfl⟩, ⟨hT.m, hT.w, hT.r, hT.bel⟩⟩
        | 2, _ =>
          have n8 : l 8 = false := by
            cases h : l 8 with
            | false => rfl
            | true =>
              have := hcl 6 _ rfl (hcl 8 _ rfl h 6 rfl) 2 rfl
              rw [hl] at this
              cases this
          have ge := hT.m
          rw [n8, if_neg (by decide)] at ge
          refine stepV rfl rfl (execLdB rfl (hdep _ rfl 1 rfl _ rfl _ rfl) (cellN ge lk)) ⟨⟨_, rfl, congrArg (fun z : Nat => Act.put a _ (.int .u8 z)) ?_⟩, ⟨hT.m, hT.w, hT.r, hT.bel⟩⟩
          unfold mixU; rw [if_neg (by omega)]
        | 3, _ => exact stepV rfl rfl (execMvB rfl (hf 5 (by decide))) ⟨⟨_, rfl, rfl⟩, ⟨hT.m, hT.w, hT.r, hT.bel⟩⟩
        | 4, _ => exact stepV rfl rfl (execIdx16 rfl (hf 3 (by decide)) (hdep _ rfl 3 rfl _ rfl _ rfl) lk) ⟨⟨_, rfl, rfl⟩, ⟨hT.m, hT.w, hT.r, hT.bel⟩⟩
        | 5, _ => exact stepV rfl rfl (execLdB rfl (hdep _ rfl 4 rfl _ rfl _ rfl) (cellN hT.w lk)) ⟨⟨_, rfl, rfl⟩, ⟨hT.m, hT.w, hT.r, hT.bel⟩⟩
        | 6, _ => exact stepV rfl rfl (execXor5 rfl (hdep _ rfl 2 rfl _ rfl _ rfl) (hdep _ rfl 5 rfl _ rfl _ rfl) (HA.out k lk) (HB.out k lk)) ⟨⟨_, rfl, rfl⟩, ⟨hT.m, hT.w, hT.r, hT.bel⟩⟩
        | 7, _ => exact stepV rfl rfl (execIdx16 rfl (hf 2 (by decide)) (hdep _ rfl 0 rfl _ rfl _ rfl) lk) ⟨⟨_, rfl, rfl⟩, ⟨hT.m, hT.w, hT.r, hT.bel⟩⟩
        | 8, _ =>
          have ge := hT.m
          rw [hl, if_neg (by decide)] at ge
          refine stepS rfl rfl (execStB rfl (hdep _ rfl 7 rfl _ rfl _ rfl) (hdep _ rfl 6 rfl _ rfl _ rfl) (cellN ge lk) (frozen4 ge)) ⟨⟨_, rfl, rfl⟩, ⟨?_, ?_, ?_, hT.bel.setCell (Nat.le_refl _) _⟩⟩
          · rw [heap4 _ ge]; exact congrArg (fun z => some (Obj.cells z 33)) ((bA_set 16 _ k _).trans (congrArg (bA 16) (updN_mixU _ _ k)))
          · rw [heap4o _ ge (by omega)]; exact hT.w
          · rw [heap4o _ ge (by omega)]; exact hT.r
        | n + 9, h => exact absurd h (by simp)
      · intro l W hall hT
        have he := hT.m
        rw [hall 8 (by simp), if_pos rfl] at he
        have KT2 : Hid (SmT A (k + 1) a b V (fun _ => false) W) := ⟨he, hT.w, hT.r, hT.bel⟩
        clear hall hT he KT
        simp only [putP, smV, Act.put, List.setIfInBounds_toArray, List.set_cons_succ, List.set_cons_zero]
        go_wp2
        go_roundw
        case rel => exact ⟨k + 1, by have := HL.out; omega, by go_num, KT2.out⟩
        case measure => have := HL.out; simp [intOf]; omega
    · have i1 : ¬ (k : Int) < 16 := by omega
      have ek : k = 16 := by omega
      subst ek
      have G : Hid (wr.heap[A]? = some (.cells (bA 16 (xorB a b)) 33)) := by
        have h := KT.out.m
        rw [if_neg (by decide)] at h
        rw [bA_congr (g := xorB a b) (fun j hj => by unfold mixU; rw [if_pos hj])] at h
        exact h
      go_wp2_with (first
        | (refine atLoad 33 (.tmp 2) rfl ?_; go_must (refine wpList_load_row rfl 33 (.tmp 2) rfl A rfl 33 _ (0, 0) _ G.out Tryd.underlying33 rfl (size16 _) ?_; simp only [Act.put, List.setIfInBounds_toArray, List.set_cons_succ, List.set_cons_zero]))
        | (refine atStore 33 (.tmp 4) (.tmp 18) rfl ?_; go_must (refine wpList_store_row rfl 33 (.tmp 4) (.tmp 18) rfl (A + 2) _ rfl rfl 33 _ KT.out.r (size16 _) rfl (bA_one _ _) ?_)))
      refine bodyPost_ret (v := .agg (bA 16 (xorB a b))) (results_cell_row Tryd.results72 _ _ (A + 2) 33 _ (0, 0) _ rfl (setRow_heap _ _ _ _ _ _ KT.out.r) Tryd.underlying33 rfl (size16 _)) rfl ⟨rfl, ?_⟩
      rw [VA.out]
      exact below4 KT.out.bel (by omega) _
end Go.Proofs.YtaiiomoajjhliaaDoor.Aes

namespace Go.Proofs.YtaiiomoajjhliaaDoor.Aes
open Go.RowKit Gf8
/- The program's block: a Schedule's cells; scheduled. -/

theorem size29 (f : Nat → Nat) : (Tryd.prog.info? 92).map (·.size) = some (bA 176 f).size := by rw [bA_size]; kernel_rfl
theorem zero29 : ∀ w, (zeroValue 92).run Tryd.prog w = .ok (.agg (bA 176 fun _ => 0)) w :=
  (zero_of_info (n := 176) (by kernel_rfl)).1
section
variable {P : Program} {ops : Array Oper} {rest : List Oper} {o : Oper} {a : Act} {w w' : World} {Q : Exit → Act → World → Prop}
theorem execFldS {x : Operand} {g : Nat} (ho : o.op = .fieldAddr 92 x 0) (hx : a.eval x = .pointer (some ⟨g, 0, none⟩)) : (execOp a.eval o).run Tryd.prog w = .ok (.value (.pointer (some ⟨g, 0, none⟩))) w := by
  unfold execOp
  simp only [ho, hx]
  simp [go_sem]
theorem execIdxK {x i : Operand} {g k : Nat} (ho : o.op = .indexAddr 90 x i) (hx : a.eval x = .pointer (some ⟨g, 0, none⟩)) (hi : a.eval i = .int .i64 (k : Int)) (hk : k < 11) : (execOp a.eval o).run Tryd.prog w = .ok (.value (.pointer (some ⟨g, 16 * k, none⟩))) w := by
  have h1 : (k : Int) < 11 := by omega
  have h2 : k * 16 = 16 * k := by omega
  unfold execOp
  simp only [ho, hx, hi]
  simp [go_sem, h1, h2]
/-- A round key into a Schedule. -/
theorem execStKey {x y : Operand} {g i : Nat} {f k : Nat → Nat} {t : TypeId} (ho : o.op = .store 33 x y) (hx : a.eval x = .pointer (some ⟨g, 16 * i, none⟩)) (hy : a.eval y = .agg (bA 16 k)) (hg : w.heap[g]? = some (.cells (bA 176 f) t)) (hi : i < 11) :
    (execOp a.eval o).run Tryd.prog w = .ok .skip (w.setRow g (bA 176 (spl f (16 * i) 16 k))) := by
  have h := execStMid (P := Tryd.prog) ho hx hy hg (by rw [bA_size, bA_size]; omega) (size16 k) (bA_one 16 k)
  rw [bA_size, show (bA 16 k).toList = bytesL 16 k from rfl, bA_splice 176 (16 * i) 16 f k (by omega)] at h
  exact h
/-- A round key out of a Schedule. -/
theorem execLdKey {x : Operand} {g i : Nat} {f : Nat → Nat} {t : TypeId} (ho : o.op = .load 33 x) (hx : a.eval x = .pointer (some ⟨g, 16 * i, none⟩)) (hg : w.heap[g]? = some (.cells (bA 176 f) t)) (hi : i < 11) :
    (execOp a.eval o).run Tryd.prog w = .ok (.value (.agg (bA 16 fun j => f (16 * i + j)))) w := by
  refine execLoadMid (cs := bytesL 16 fun j => f (16 * i + j)) ho hx ?_ Tryd.underlying33 rfl (by rw [bytesL_len]; kernel_rfl)
  intro j v hj
  have h16 : j < 16 := by have := (List.getElem?_eq_some_iff.1 hj).1; rwa [bytesL_len] at this
  rw [bytesL_at 16 _ h16] at hj
  rw [← hj]
  exact cellN hg (by omega)
/-- A whole array as a row. -/
theorem execSt16 {x y : Operand} {g : Nat} {f k : Nat → Nat} (ho : o.op = .store 33 x y) (hx : a.eval x = .pointer (some ⟨g, 0, none⟩)) (hy : a.eval y = .agg (bA 16 k)) (hg : w.heap[g]? = some (.cells (bA 16 f) 33)) :
    (execOp a.eval o).run Tryd.prog w = .ok .skip (w.setRow g (bA 16 k)) := by
  have h := execStMid (P := Tryd.prog) ho hx hy hg (by rw [bA_size, bA_size]; omega) (size16 k) (bA_one 16 k)
  rw [bA_size, show (bA 16 k).toList = bytesL 16 k from rfl, bA_splice 16 0 16 f k (by omega)] at h
  rw [bA_congr (g := k) (fun j hj => by unfold spl; rw [if_pos (by omega)]; rfl)] at h
  exact h
end
/-- The rows of scheduled. -/
structure SdT (A n : Nat) (key : Nat → Nat) (V W : World) : Prop where
  k : W.heap[A]? = some (.cells (bA 16 key) 33)
  r : W.heap[A + 1]? = some (.cells (bA 176 fun _ => 0) 92)
  s : W.heap[A + 2]? = some (.cells (bA 176 (uptoC (kw key) n)) 92)
  bel : Below A V W
theorem SdT.lt {A n : Nat} {key : Nat → Nat} {V W : World} (h : SdT A n key V W) : A + 2 < W.heap.size := (Array.getElem?_eq_some_iff.1 h.s).1
theorem SdT.on {A n : Nat} {key : Nat → Nat} {V W W' : World} (h : SdT A n key V W) (hb : Below W.heap.size W W') : SdT A n key V W' := by
  have l := h.lt
  exact ⟨by rw [hb.block _ (by omega)]; exact h.k, by rw [hb.block _ (by omega)]; exact h.r, by rw [hb.block _ (by omega)]; exact h.s, h.bel.trans (hb.mono (by omega))⟩
theorem SdT.next {A n : Nat} {key : Nat → Nat} {V W : World} (h : SdT A (16 * n) key V W) : SdT A (16 * (n + 1)) key V (W.setRow (A + 2) (bA 176 (spl (uptoC (kw key) (16 * n)) (16 * n) 16 fun j => kw key (16 * n + j)))) := by
  refine ⟨by rw [setRow_other _ _ _ _ (by omega)]; exact h.k, by rw [setRow_other _ _ _ _ (by omega)]; exact h.r, ?_, below4 h.bel (by omega) _⟩
  rw [setRow_heap _ _ _ _ _ _ h.s]
  congr 3
  funext i
  unfold spl uptoC
  by_cases h1 : 16 * n ≤ i ∧ i < 16 * n + 16
  · rw [if_pos h1, if_pos (by omega)]
    exact congrArg (kw key) (by omega)
  · rw [if_neg h1]
    by_cases h2 : i < 16 * n
    · rw [if_pos h2, if_pos (by omega)]
    · rw [if_neg h2, if_neg (by omega)]
theorem SdT.first {A : Nat} {key : Nat → Nat} {V W : World} (h : SdT A (16 * 0) key V W) : SdT A (16 * (0 + 1)) key V (W.setRow (A + 2) (bA 176 (spl (uptoC (kw key) (16 * 0)) (16 * 0) 16 key))) := by
  rw [bA_congr (g := spl (uptoC (kw key) (16 * 0)) (16 * 0) 16 fun j => kw key (16 * 0 + j)) (fun i _ => by
    unfold spl
    by_cases h1 : 16 * 0 ≤ i ∧ i < 16 * 0 + 16
    · rw [if_pos h1, if_pos h1]
      show key (i - 16 * 0) = kw key (16 * 0 + (i - 16 * 0))
      rw [show 16 * 0 + (i - 16 * 0) = i by omega, kw_low key (by omega)]; rfl
    · rw [if_neg h1, if_neg h1])]
  exact h.next

set_option maxRecDepth 20000 in
set_option maxHeartbeats 1000000 in
theorem scheduled_any (g : Nat) (lb : Array Value) (key : Nat → Nat) (V : World) (hF : FnB g lb gsub V) (hk : By key) :
    Calls Tryd.prog 62 #[.agg (bA 16 key), .func (.func g) #[] lb] V fun e w' => e = .returned (.agg (bA 176 (kw key))) ∧ Below V.heap.size V w' := by
  have HK : Hid (By key) := hk
  have HF : Hid (FnB g lb gsub V) := hF
  clear hk hF
  have z := zero29
  go_enter Tryd.func62, Tryd.ntmps62
  have h3 := heap3c V (.cells (bA 16 key) 33) (.cells (bA 176 fun _ => 0) 92) (.cells (bA 176 fun _ => 0) 92)
  have kt : SdT V.heap.size (16 * 0) key V (((V.alloc (.cells (bA 16 key) 33)).alloc (.cells (bA 176 fun _ => 0) 92)).alloc (.cells (bA 176 fun _ => 0) 92)) := ⟨h3.1, h3.2.1, h3.2.2, below3c _ _ _ _⟩
  clear h3
  go_wp2_with (first
    | (refine atLoad 33 (.tmp 2) rfl ?_; go_must (refine wpList_load_row rfl 33 (.tmp 2) rfl V.heap.size rfl 33 _ (0, 0) _ kt.k Tryd.underlying33 rfl (size16 _) ?_; simp only [Act.put, List.setIfInBounds_toArray, List.set_cons_succ, List.set_cons_zero]))
    | (refine wpList_ex rfl (execFldS rfl rfl) ?_)
    | (refine wpList_ex rfl (execIdxK (k := 0) rfl rfl rfl (by omega)) ?_)
    | (refine atStore 33 (.tmp 10) (.tmp 8) rfl ?_; go_must (refine wpList_exS rfl (execStKey (i := 0) rfl rfl rfl kt.s (by omega)) ?_; have kt := kt.first)))
  have KT : Hid (_) := kt
  clear kt
  obtain ⟨A, hA⟩ : ∃ A, A = V.heap.size := ⟨_, rfl⟩
  rw [← hA] at KT ⊢
  have VA : Hid (V.heap.size = A) := hA.symm
  clear hA z
  rw [show A + 1 + 1 = A + 2 from rfl]
  go_loopw [6, 11] (fun c x W => ∃ n : Nat, n ≤ 10 ∧ c = .int .u8 (rcon n) ∧ x = .int .i64 n ∧ SdT A (16 * (n + 1)) key V W) (fun _ x _ => 10 - (intOf x).toNat)
  case atStart => exact ⟨0, by omega, rfl, rfl, KT.out⟩
  case round =>
    obtain ⟨n, hn, rfl, rfl, kt⟩ := hrel
    clear KT
    by_cases hlt : n < 10
    · have i1 : (n : Int) < 10 := by omega
      obtain ⟨m, hm⟩ : ∃ m, n + 1 = m := ⟨_, rfl⟩
      have e1 : (n : Int) + 1 = m := by omega
      have l1 : (m : Int) < 12 := by omega
      have HL : Hid (n < 10 ∧ n + 1 = m) := ⟨hlt, hm⟩
      obtain ⟨c, hc⟩ : ∃ c, rcon n = c := ⟨_, rfl⟩
      have hc2 : c < 256 := by rw [← hc]; exact rcon_lt n
      have EC : Hid (gm 2 c = rcon (n + 1)) := by
        show gm 2 c = xt (rcon n)
        rw [hc]; exact (small_all ⟨c, hc2⟩).1
      have NK := nextKey_any g lb gsub c (fun j => kw key (16 * n + j)) wr (HF.out.on (by rw [VA.out]; exact kt.bel)) hc2 (fun j hj => kw_lt HK.out _)
      have EK : bA 16 (nk gsub c fun j => kw key (16 * n + j)) = bA 16 fun j => kw key (16 * m + j) := bA_congr fun j hj => by rw [← hm, ← hc]; exact kw_nk key n j hj
      rw [EK] at NK
      have ML := fun W : World => mul_any 2 c W (by omega) hc2
      have GL : Hid (wr.heap[A + 2]? = some (.cells (bA 176 (uptoC (kw key) (16 * (n + 1)))) 92)) := kt.s
      have EL : Hid (bA 16 (fun j => uptoC (kw key) (16 * (n + 1)) (16 * n + j)) = bA 16 fun j => kw key (16 * n + j)) := bA_congr fun j hj => by unfold uptoC; rw [if_pos (by omega)]
      have HC : Hid (rcon n = c) := hc
      rw [hc]
      clear hlt hn EK hc
      go_wp2_with (first
        | (refine wpList_ex rfl (execFldS rfl rfl) ?_)
        | (refine wpList_ex rfl (execIdxK (k := n) rfl rfl rfl (by have := HL.out; omega)) ?_)
        | (refine wpList_ex rfl (execIdxK (k := m) rfl rfl rfl (by have := HL.out; omega)) ?_)
        | (refine atLoad 33 (.tmp 18) rfl ?_; go_must (refine wpList_ex rfl (execLdKey (i := n) rfl rfl GL.out (by have := HL.out; omega)) ?_; rw [EL.out]))
        | (go_at_call 70; refine NK.mono ?_; rintro e w1 ⟨rfl, hb1⟩; have kt := kt.on hb1; rw [hm] at kt)
        | (go_at_call 71; refine (ML _).mono ?_; rintro e w2 ⟨rfl, rfl⟩)
        | (refine atStore 33 (.tmp 24) (.tmp 22) rfl ?_; go_must (refine wpList_exS rfl (execStKey (i := m) rfl rfl rfl kt.s (by have := HL.out; omega)) ?_; have kt := kt.next)))
      go_roundw
      case rel => exact ⟨n + 1, by have := HL.out; omega, by rw [EC.out], by have := HL.out; go_num, by rw [HL.out.2]; exact kt⟩
      case measure => have := HL.out; simp [intOf]; omega
    · have i1 : ¬ (n : Int) < 10 := by omega
      have ek : n = 10 := by omega
      subst ek
      have G : Hid (wr.heap[A + 2]? = some (.cells (bA 176 (kw key)) 92)) := by
        have h := kt.s
        rw [bA_congr (g := kw key) (fun j hj => by unfold uptoC; rw [if_pos (by omega)])] at h
        exact h
      go_wp2_with (first
        | (refine atLoad 92 (.tmp 5) rfl ?_; go_must (refine wpList_load_row rfl 92 (.tmp 5) rfl (A + 2) rfl 92 _ (0, 0) _ G.out Tryd.underlying92 rfl (size29 _) ?_; simp only [Act.put, List.setIfInBounds_toArray, List.set_cons_succ, List.set_cons_zero]))
        | (refine atStore 92 (.tmp 4) (.tmp 28) rfl ?_; go_must (refine wpList_store_row rfl 92 (.tmp 4) (.tmp 28) rfl (A + 1) _ rfl rfl 92 _ kt.r (size29 _) (by rw [bA_size, bA_size]) (bA_one _ _) ?_)))
      refine bodyPost_ret (v := .agg (bA 176 (kw key))) (results_cell_row Tryd.results62 _ _ (A + 1) 92 _ (0, 0) _ rfl (setRow_heap _ _ _ _ _ _ kt.r) Tryd.underlying92 rfl (size29 _)) rfl ⟨rfl, ?_⟩
      rw [VA.out]
      exact below4 kt.bel (by omega) _
end Go.Proofs.YtaiiomoajjhliaaDoor.Aes

namespace Go.Proofs.YtaiiomoajjhliaaDoor.Aes
open Go.RowKit Gf8
/- The program's block: New, Round, encrypted, Encrypt, Decrypt. -/

theorem fn_column (V : World) : FnC 76 fwd V :=
  ⟨enters_of Tryd.func76 (by kernel_rfl) rfl, fun c W hc _ => column_any c W hc⟩
end Go.Proofs.YtaiiomoajjhliaaDoor.Aes
