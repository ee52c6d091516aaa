import Derived.Test.YteekoabgbjbabaaGreatDoorW3
import Derived.Test.YteekoabgbjbabaaGreatDoorX3
import Derived.Test.YteekoabgbjbabaaGreatDoorJ5
import Derived.Test.YteekoabgbjbabaaGreatDoorI1
namespace Go.Proofs.YteekoabgbjbabaaGreatDoor.Aes
open Go.RowKit Gf8
/- The program's block: nextKey. -/

/-- The word that is carried on, behind i words of the next round key. -/
def wd (f : Nat → Nat) (c : Nat) (key : Nat → Nat) : Nat → (Nat → Nat)
  | 0 => fun r => if r = 0 then f (key 13) ^^^ c else f (key (12 + (r + 1) % 4))
  | i + 1 => fun r => wd f c key i r ^^^ key (4 * i + r)
/-- The next round key. -/
def nk (f : Nat → Nat) (c : Nat) (key : Nat → Nat) : Nat → Nat := fun j => wd f c key (j / 4 + 1) (j % 4)
theorem wd_lt {f : Nat → Nat} {c : Nat} {key : Nat → Nat} (hf : ∀ a, a < 256 → f a < 256) (hc : c < 256) (hk : By key) : ∀ i, i ≤ 4 → ∀ r, r < 4 → wd f c key i r < 256
  | 0, _, r, hr => by
    show (if r = 0 then f (key 13) ^^^ c else f (key (12 + (r + 1) % 4))) < 256
    split
    · exact xor_lt (hf _ (hk _ (by omega))) hc
    · exact hf _ (hk _ (by omega))
  | i + 1, h, r, hr => xor_lt (wd_lt hf hc hk i (by omega) r hr) (hk _ (by omega))
/-- The round keys one behind the other. -/
theorem kw_nk (key : Nat → Nat) (n j : Nat) (hj : j < 16) : nk gsub (rcon n) (fun i => kw key (16 * n + i)) j = kw key (16 * (n + 1) + j) := by
  induction j using Nat.strongRecOn with
  | ind j ih =>
    by_cases h4 : j < 4
    · rw [kw_turn key (by omega) (by omega)]
      show wd gsub (rcon n) (fun i => kw key (16 * n + i)) (j / 4 + 1) (j % 4) = _
      rw [show j / 4 = 0 by omega, show j % 4 = j by omega]
      show (if j = 0 then gsub (kw key (16 * n + 13)) ^^^ rcon n else gsub (kw key (16 * n + (12 + (j + 1) % 4)))) ^^^ kw key (16 * n + (4 * 0 + j)) = _
      rw [Nat.xor_comm, show 16 * (n + 1) + j - 16 = 16 * n + (4 * 0 + j) by omega, show (16 * (n + 1) + j) / 4 * 4 - 4 + (16 * (n + 1) + j + 1) % 4 = 16 * n + (12 + (j + 1) % 4) by omega]
      congr 1
      by_cases h0 : j = 0
      · subst h0
        rw [if_pos rfl, if_pos (by omega), show (16 * (n + 1) + 0) / 16 - 1 = n by omega]
      · rw [if_neg h0, if_neg (by omega), Nat.xor_zero]
    · rw [kw_plain key (by omega) (by omega), show 16 * (n + 1) + j - 4 = 16 * (n + 1) + (j - 4) by omega, ← ih (j - 4) (by omega) (by omega)]
      show wd gsub (rcon n) (fun i => kw key (16 * n + i)) (j / 4 + 1) (j % 4) = _ ^^^ wd gsub (rcon n) (fun i => kw key (16 * n + i)) ((j - 4) / 4 + 1) ((j - 4) % 4)
      rw [show (j - 4) / 4 + 1 = j / 4 by omega, show (j - 4) % 4 = j % 4 by omega]
      show wd gsub (rcon n) (fun i => kw key (16 * n + i)) (j / 4) (j % 4) ^^^ kw key (16 * n + (4 * (j / 4) + j % 4)) = _
      rw [Nat.xor_comm, show 16 * n + (4 * (j / 4) + j % 4) = 16 * (n + 1) + j - 16 by omega]
section
variable {P : Program} {o : Oper} {a : Act} {w : World}
theorem execCallF {x y : Operand} {ts : Array TypeId} {g : Nat} {lb : Array Value} {v : Value} (ho : o.op = .call { callee := .value x, args := #[y], argTypes := ts }) (hx : a.eval x = .func (.func g) #[] lb) (hy : a.eval y = v) (eg : Enters P g) : (execOp a.eval o).run P w = .ok (.enter g (#[v] ++ lb)) w := by
  have e := eg
  unfold Enters at e
  unfold execOp
  simp only [ho, resolve, Deferred.ofValue, invoke, Sem.run_bind, Sem.run_pure, Result.andThen_ok, List.map_toArray, List.map_cons, List.map_nil, hx, hy]
  have e2 := e (#[v] ++ lb) w
  simpa using e2
theorem exec_build4v {x0 x1 x2 x3 : Operand} {c : Nat → Nat} (ho : o.op = .build 125 #[(0, x0), (1, x1), (2, x2), (3, x3)]) (h0 : a.eval x0 = .int .u8 (c 0)) (h1 : a.eval x1 = .int .u8 (c 1)) (h2 : a.eval x2 = .int .u8 (c 2)) (h3 : a.eval x3 = .int .u8 (c 3)) :
    (execOp a.eval o).run Tryz.prog w = .ok (.value (.agg (col c))) w := by
  have z := zero4
  have s5 : ∀ W, (sizeOf 5).run Tryz.prog W = .ok 1 W := by intro W; simp [go_sem]
  unfold execOp
  simp only [ho, List.map_toArray, List.map_cons, List.map_nil, h0, h1, h2, h3]
  simp [go_sem, col]
end
/-- What each operation of word's literal yields. -/
def wdS (A g : Nat) (lb : Array Value) (f : Nat → Nat) (c : Nat) (key : Nat → Nat) (j : Nat) (r : Value) (W : World) : Prop :=
  match j with
  | 0 => r = .func (.func g) #[] lb | 1 => r = .pointer (some ⟨A, 13, none⟩) | 2 => r = .int .u8 (key 13) | 3 => r = .int .u8 (f (key 13) : Nat) | 4 => r = .int .u8 c | 5 => r = .int .u8 (wd f c key 0 0 : Nat)
  | 6 => r = .func (.func g) #[] lb | 7 => r = .pointer (some ⟨A, 14, none⟩) | 8 => r = .int .u8 (key 14) | 9 => r = .int .u8 (wd f c key 0 1 : Nat)
  | 10 => r = .func (.func g) #[] lb | 11 => r = .pointer (some ⟨A, 15, none⟩) | 12 => r = .int .u8 (key 15) | 13 => r = .int .u8 (wd f c key 0 2 : Nat)
  | 14 => r = .func (.func g) #[] lb | 15 => r = .pointer (some ⟨A, 12, none⟩) | 16 => r = .int .u8 (key 12) | 17 => r = .int .u8 (wd f c key 0 3 : Nat)
  | 18 => r = .agg (col (wd f c key 0))
  | _ => ∃ T, r = .pointer (some ⟨T, 0, none⟩) ∧ A + 1 < T ∧ W.heap[T]? = some (.cells (col fun _ => 0) 125)
theorem wdS_on {A g : Nat} {lb : Array Value} {f : Nat → Nat} {c : Nat} {key : Nat → Nat} {j : Nat} {r : Value} {W W' : World} (h : wdS A g lb f c key j r W) (hb : Below W.heap.size W W') : wdS A g lb f c key j r W' := by
  match j, h with
  | 0, h => exact h
  | 1, h => exact h
  | 2, h => exact h
  | 3, h => exact h
  | 4, h => exact h
  | 5, h => exact h
  | 6, h => exact h
  | 7, h => exact h
  | 8, h => exact h
  | 9, h => exact h
  | 10, h => exact h
  | 11, h => exact h
  | 12, h => exact h
  | 13, h => exact h
  | 14, h => exact h
  | 15, h => exact h
  | 16, h => exact h
  | 17, h => exact h
  | 18, h => exact h
  | n + 19, h =>
    obtain ⟨T, e, lT, gT⟩ := h
    exact ⟨T, e, lT, by rw [hb.block _ (Array.getElem?_eq_some_iff.1 gT).1]; exact gT⟩
/-- The rows of nextKey: the key, of which n bytes are new; the answer's place; the word. -/
structure NkT (A T n : Nat) (m : Nat → Nat) (f : Nat → Nat) (c : Nat) (key : Nat → Nat) (V W : World) : Prop where
  s : W.heap[A]? = some (.cells (bA 16 (mixU (nk f c key) key n)) 35)
  r : W.heap[A + 1]? = some (.cells (bA 16 fun _ => 0) 35)
  t : W.heap[T]? = some (.cells (col m) 125)
  bel : Below A V W
/-- What each operation of 'word[j] ^= key[4*i+j]' yields. -/
def nxV (A T i j : Nat) (m key : Nat → Nat) (q : Nat) : Value :=
  match q with
  | 0 => .int .i64 j | 1 => .pointer (some ⟨T, j, none⟩) | 2 => .int .u8 (m j) | 3 => .int .i64 i | 4 => .int .i64 (4 * i : Nat) | 5 => .int .i64 j | 6 => .int .i64 (4 * i + j : Nat)
  | 7 => .pointer (some ⟨A, 4 * i + j, none⟩) | 8 => .int .u8 (key (4 * i + j)) | 9 => .int .u8 (m j ^^^ key (4 * i + j) : Nat) | 10 => .pointer (some ⟨T, j, none⟩) | _ => undef
theorem col_setN (m : Nat → Nat) {k v : Nat} (h : k < 4) : (col m).setIfInBounds k (.int .u8 v) = col (updN m k v) := by
  have : k = 0 ∨ k = 1 ∨ k = 2 ∨ k = 3 := by omega
  rcases this with rfl | rfl | rfl | rfl <;> rfl
theorem cell4 {W : World} {b k : Nat} {c : Nat → Nat} {t : TypeId} (h : W.heap[b]? = some (.cells (col c) t)) (hk : k < 4) : W.cell? ⟨b, k, none⟩ = some (.int .u8 (c k)) := by
  rw [cell_of_row _ _ _ _ _ _ h]; exact col_at c hk
/-- What each operation of copy(key[4*i:], word[:]) yields. -/
def ckV (A T i : Nat) (j : Nat) : Value :=
  match j with
  | 0 => .int .i64 i | 1 => .int .i64 (4 * i : Nat) | 2 => .slice (some ⟨A, 4 * i, none⟩) (16 - 4 * i) (16 - 4 * i) | 3 => .slice (some ⟨T, 0, none⟩) 4 4 | 4 => .int .i64 4 | _ => undef
theorem spl_nk (f : Nat → Nat) (c : Nat) (key : Nat → Nat) (i : Nat) : spl (mixU (nk f c key) key (4 * i)) (4 * i) 4 (wd f c key (i + 1)) = mixU (nk f c key) key (4 * (i + 1)) := by
  funext j
  unfold spl mixU
  by_cases h1 : 4 * i ≤ j ∧ j < 4 * i + 4
  · rw [if_pos h1, if_pos (by omega)]
    unfold nk
    rw [show j / 4 + 1 = i + 1 by omega, show j - 4 * i = j % 4 by omega]
  · rw [if_neg h1]
    by_cases h2 : j < 4 * i
    · rw [if_pos h2, if_pos (by omega)]
    · rw [if_neg h2, if_neg (by omega)]

set_option maxRecDepth 20000 in
set_option maxHeartbeats 2000000 in
theorem nextKey_any (g : Nat) (lb : Array Value) (f : Nat → Nat) (c : Nat) (key : Nat → Nat) (V : World) (hF : FnB g lb f V) (hc : c < 256) (hk : By key) :
    Calls Tryz.prog 88 #[.agg (bA 16 key), .int .u8 c, .func (.func g) #[] lb] V fun e w' => e = .returned (.agg (bA 16 (nk f c key))) ∧ Below V.heap.size V w' := by
  have HK : Hid (By key) := hk
  have HF : Hid (FnB g lb f V) := hF
  have HC : Hid (c < 256) := hc
  have HD : Hid (∀ i, i ≤ 4 → ∀ r, r < 4 → wd f c key i r < 256) := wd_lt hF.lt hc hk
  clear hk hF hc
  have z := zero16
  go_enter Tryz.func88, Tryz.ntmps88
  go_wp2_with fail
  have h2 := heap2c V (.cells (bA 16 key) 35) (.cells (bA 16 fun _ => 0) 35)
  have b2 := below2c V (.cells (bA 16 key) 35) (.cells (bA 16 fun _ => 0) 35)
  obtain ⟨W0, hW⟩ : ∃ W0, W0 = (V.alloc (.cells (bA 16 key) 35)).alloc (.cells (bA 16 fun _ => 0) 35) := ⟨_, rfl⟩
  rw [← hW] at h2 b2 ⊢
  obtain ⟨A, hA⟩ : ∃ A, A = V.heap.size := ⟨_, rfl⟩
  rw [← hA] at h2 b2 ⊢
  have VA : Hid (V.heap.size = A) := hA.symm
  have H2 : Hid (_) := h2
  have B2 : Hid (_) := b2
  clear z h2 b2 hA hW
  have l2 : A + 1 < W0.heap.size := (Array.getElem?_eq_some_iff.1 H2.out.2).1
  refine wp_region_slotsA 20 54 [10, 11, 12, 13, 14, 15, 16, 17, 18, 19, 20, 21, 22, 23, 24, 25, 26, 27, 28, 7] (wdS A g lb f c key) (by kernel_rfl) (by kernel_rfl) (by kernel_rfl) (by decide) rfl rfl (by decide) (by decide) (fun _ _ _ _ h hb => wdS_on h hb) ?_ ?_
  · intro j hj a W hB hf hdep
    have gA : W.heap[A]? = some (.cells (bA 16 key) 35) := by rw [hB.block _ (by omega)]; exact H2.out.1
    have bV : Below V.heap.size V W := by rw [VA.out]; exact B2.out.trans (hB.mono (by omega))
    have k := HK.out
    match j, hj with
    | 0, _ => exact stepV rfl rfl (execMvB rfl (hf 2 (by decide))) ⟨_, rfl, rfl, Below.refl _ _⟩
    | 1, _ => exact stepV rfl rfl (execIdx16 (k := 13) rfl (hf 3 (by decide)) rfl (by omega)) ⟨_, rfl, rfl, Below.refl _ _⟩
    | 2, _ => exact stepV rfl rfl (execLdB rfl (hdep _ rfl 1 rfl) (cellN gA (by omega))) ⟨_, rfl, rfl, Below.refl _ _⟩
    | 3, _ => exact stepC rfl rfl (execCallF rfl (hdep _ rfl 0 rfl) (hdep _ rfl 2 rfl) HF.out.enters) (HF.out.gives (key 13) W (k 13 (by omega)) bV) fun e w' h => ⟨_, h.1, _, rfl, rfl, h.2⟩
    | 4, _ => exact stepV rfl rfl (execMvB rfl (hf 1 (by decide))) ⟨_, rfl, rfl, Below.refl _ _⟩
    | 5, _ => exact stepV rfl rfl (execXor5 rfl (hdep _ rfl 3 rfl) (hdep _ rfl 4 rfl) (HF.out.lt _ (k 13 (by omega))) HC.out) ⟨_, rfl, rfl, Below.refl _ _⟩
    | 6, _ => exact stepV rfl rfl (execMvB rfl (hf 2 (by decide))) ⟨_, rfl, rfl, Below.refl _ _⟩
    | 7, _ => exact stepV rfl rfl (execIdx16 (k := 14) rfl (hf 3 (by decide)) rfl (by omega)) ⟨_, rfl, rfl, Below.refl _ _⟩
    | 8, _ => exact stepV rfl rfl (execLdB rfl (hdep _ rfl 7 rfl) (cellN gA (by omega))) ⟨_, rfl, rfl, Below.refl _ _⟩
    | 9, _ => exact stepC rfl rfl (execCallF rfl (hdep _ rfl 6 rfl) (hdep _ rfl 8 rfl) HF.out.enters) (HF.out.gives (key 14) W (k 14 (by omega)) bV) fun e w' h => ⟨_, h.1, _, rfl, rfl, h.2⟩
    | 10, _ => exact stepV rfl rfl (execMvB rfl (hf 2 (by decide))) ⟨_, rfl, rfl, Below.refl _ _⟩
    | 11, _ => exact stepV rfl rfl (execIdx16 (k := 15) rfl (hf 3 (by decide)) rfl (by omega)) ⟨_, rfl, rfl, Below.refl _ _⟩
    | 12, _ => exact stepV rfl rfl (execLdB rfl (hdep _ rfl 11 rfl) (cellN gA (by omega))) ⟨_, rfl, rfl, Below.refl _ _⟩
    | 13, _ => exact stepC rfl rfl (execCallF rfl (hdep _ rfl 10 rfl) (hdep _ rfl 12 rfl) HF.out.enters) (HF.out.gives (key 15) W (k 15 (by omega)) bV) fun e w' h => ⟨_, h.1, _, rfl, rfl, h.2⟩
    | 14, _ => exact stepV rfl rfl (execMvB rfl (hf 2 (by decide))) ⟨_, rfl, rfl, Below.refl _ _⟩
    | 15, _ => exact stepV rfl rfl (execIdx16 (k := 12) rfl (hf 3 (by decide)) rfl (by omega)) ⟨_, rfl, rfl, Below.refl _ _⟩
    | 16, _ => exact stepV rfl rfl (execLdB rfl (hdep _ rfl 15 rfl) (cellN gA (by omega))) ⟨_, rfl, rfl, Below.refl _ _⟩
    | 17, _ => exact stepC rfl rfl (execCallF rfl (hdep _ rfl 14 rfl) (hdep _ rfl 16 rfl) HF.out.enters) (HF.out.gives (key 12) W (k 12 (by omega)) bV) fun e w' h => ⟨_, h.1, _, rfl, rfl, h.2⟩
    | 18, _ => exact stepV rfl rfl (exec_build4v (c := wd f c key 0) rfl (hdep _ rfl 5 rfl) (hdep _ rfl 9 rfl) (hdep _ rfl 13 rfl) (hdep _ rfl 17 rfl)) ⟨_, rfl, rfl, Below.refl _ _⟩
    | 19, _ => exact stepV rfl rfl (execAlloc4 rfl) ⟨_, rfl, ⟨_, rfl, by have := hB.size; omega, heapNew W _⟩, belNew W _⟩
    | n + 20, h => exact absurd h (by omega)
  · intro x W hB hS
    have x18 : x 18 = .agg (col (wd f c key 0)) := hS 18 (by omega)
    obtain ⟨T, x19, lT, gT⟩ := hS 19 (by omega)
    have gA : W.heap[A]? = some (.cells (bA 16 key) 35) := by rw [hB.block _ (by omega)]; exact H2.out.1
    have gR : W.heap[A + 1]? = some (.cells (bA 16 fun _ => 0) 35) := by rw [hB.block _ l2]; exact H2.out.2
    have bV : Below A V W := B2.out.trans (hB.mono (by omega))
    simp only [putL, Act.put, List.setIfInBounds_toArray, List.set_cons_succ, List.set_cons_zero, x18, x19]
    refine wpList_store_row rfl 125 (.tmp 7) (.tmp 28) rfl T _ rfl rfl 125 _ gT (size4' _) rfl (col_one _) ?_
    have KT : Hid (NkT A T 0 (wd f c key 0) f c key V (W.setRow T (col (wd f c key 0)))) :=
      ⟨by rw [setRow_other _ _ _ _ (by omega)]; exact gA, by rw [setRow_other _ _ _ _ (by omega)]; exact gR, setRow_heap _ _ _ _ _ _ gT, below4 bV (by omega) _⟩
    have LT : Hid (A + 1 < T) := lT
    clear hS x18 x19 gT gA gR bV hB H2 B2 l2 lT
    generalize x 0 = y0, x 1 = y1, x 2 = y2, x 3 = y3, x 4 = y4, x 5 = y5, x 6 = y6, x 7 = y7, x 8 = y8, x 9 = y9, x 10 = y10, x 11 = y11, x 12 = y12, x 13 = y13, x 14 = y14, x 15 = y15, x 16 = y16, x 17 = y17
    go_wp2_with fail
    go_loopw [29] (fun x W => ∃ i : Nat, i ≤ 4 ∧ x = .int .i64 i ∧ NkT A T (4 * i) (wd f c key i) f c key V W) (fun x _ => 4 - (intOf x).toNat)
    case atStart => exact ⟨0, by omega, rfl, KT.out⟩
    case round =>
      obtain ⟨i, hi, rfl, kt⟩ := hrel
      clear KT
      by_cases hlt : i < 4
      · have i1 : (i : Int) < 4 := by omega
        have HI : Hid (i < 4) := hlt
        have KT : Hid (_) := kt
        clear kt hlt hi
        go_wp2_with fail
        go_loopw [32] (fun x W => ∃ j : Nat, j ≤ 4 ∧ x = .int .i64 j ∧ NkT A T (4 * i) (mixU (wd f c key (i + 1)) (wd f c key i) j) f c key V W) (fun x _ => 4 - (intOf x).toNat)
        case atStart => exact ⟨0, by omega, rfl, KT.out⟩
        case round =>
          obtain ⟨j, hj, rfl, kt⟩ := hrel
          clear KT
          by_cases hjl : j < 4
          · have j1 : (j : Int) < 4 := by omega
            have HJ : Hid (j < 4) := hjl
            have KT : Hid (_) := kt
            clear kt hjl hj
            go_wp2_with fail
            refine wp_region_det 54 [(0, 35), (1, 36), (2, 37), (3, 38), (4, 39), (5, 40), (6, 41), (7, 42), (8, 43), (9, 44), (10, 45)] (nxV A T i j (wd f c key i) key) (fun l W => NkT A T (4 * i) (mixU (wd f c key (i + 1)) (wd f c key i) (if l 11 = true then j + 1 else j)) f c key V W) (by kernel_rfl) (by kernel_rfl) rfl (by kernel_rfl) (by decide) (by decide) ?_ ?_ ?_
            · exact ⟨KT.out.s, KT.out.r, KT.out.t, KT.out.bel.drew⟩
            · intro q hq l a W hl hf hdep hl2 hcl _ hT
              have lj := HJ.out
              have li := HI.out
              match q, hq with
              | 0, _ => exact stepV rfl rfl (execMvB rfl (hf 9 (by decide))) ⟨⟨_, rfl, rfl⟩, hT⟩
              | 1, _ => exact stepV rfl rfl (execIdx4 rfl (hf 7 (by decide)) (hdep _ rfl 0 rfl _ rfl _ rfl) lj) ⟨⟨_, rfl, rfl⟩, hT⟩
              | 2, _ =>
                have n11 : l 11 = false := by
                  cases h : l 11 with
                  | false => rfl
                  | true =>
                    have := hcl 9 _ rfl (hcl 11 _ rfl h 9 rfl) 2 rfl
                    rw [hl] at this
                    cases this
                have ge := hT.t
                rw [n11, if_neg (by decide)] at ge
                refine stepV rfl rfl (execLdB rfl (hdep _ rfl 1 rfl _ rfl _ rfl) (cell4 ge lj)) ⟨⟨_, rfl, congrArg (fun z : Nat => Act.put a _ (.int .u8 z)) ?_⟩, hT⟩
                unfold mixU; rw [if_neg (by omega)]
              | 3, _ => exact stepV rfl rfl (execMvB rfl (hf 8 (by decide))) ⟨⟨_, rfl, rfl⟩, hT⟩
              | 4, _ => exact stepV rfl rfl (execMulI (p := 4) rfl rfl (hdep _ rfl 3 rfl _ rfl _ rfl) (by omega)) ⟨⟨_, rfl, rfl⟩, hT⟩
              | 5, _ => exact stepV rfl rfl (execMvB rfl (hf 9 (by decide))) ⟨⟨_, rfl, rfl⟩, hT⟩
              | 6, _ => exact stepV rfl rfl (execAddI rfl (hdep _ rfl 4 rfl _ rfl _ rfl) (hdep _ rfl 5 rfl _ rfl _ rfl) (by omega)) ⟨⟨_, rfl, rfl⟩, hT⟩
              | 7, _ => exact stepV rfl rfl (execIdx16 rfl (hf 3 (by decide)) (hdep _ rfl 6 rfl _ rfl _ rfl) (by omega)) ⟨⟨_, rfl, rfl⟩, hT⟩
              | 8, _ =>
                refine stepV rfl rfl (execLdB rfl (hdep _ rfl 7 rfl _ rfl _ rfl) (cellN hT.s (by omega))) ⟨⟨_, rfl, congrArg (fun z : Nat => Act.put a _ (.int .u8 z)) ?_⟩, hT⟩
                unfold mixU; rw [if_neg (by omega)]
              | 9, _ => exact stepV rfl rfl (execXor5 rfl (hdep _ rfl 2 rfl _ rfl _ rfl) (hdep _ rfl 8 rfl _ rfl _ rfl) (HD.out i (by omega) j lj) (HK.out _ (by omega))) ⟨⟨_, rfl, rfl⟩, hT⟩
              | 10, _ => exact stepV rfl rfl (execIdx4 rfl (hf 7 (by decide)) (hdep _ rfl 0 rfl _ rfl _ rfl) lj) ⟨⟨_, rfl, rfl⟩, hT⟩
              | 11, _ =>
                have ge := hT.t
                rw [hl, if_neg (by decide)] at ge
                have lT := LT.out
                refine stepS rfl rfl (execStB rfl (hdep _ rfl 10 rfl _ rfl _ rfl) (hdep _ rfl 9 rfl _ rfl _ rfl) (cell4 ge lj) (frozen4 ge)) ⟨⟨_, rfl, rfl⟩, ⟨?_, ?_, ?_, hT.bel.setCell (by simp; omega) _⟩⟩
                · rw [heap4o _ ge (by omega)]; exact hT.s
                · rw [heap4o _ ge (by omega)]; exact hT.r
                · rw [heap4 _ ge]; exact congrArg (fun z => some (Obj.cells z 125)) ((col_setN _ lj).trans (congrArg col (updN_mixU (wd f c key (i + 1)) (wd f c key i) j)))
              | n + 12, h => exact absurd h (by simp)
            · intro l W hall hT
              simp only [hall 11 (by simp), if_true] at hT
              have KT2 : Hid (_) := hT
              clear hall hT KT
              simp only [putP, nxV, Act.put, List.setIfInBounds_toArray, List.set_cons_succ, List.set_cons_zero]
              go_wp2
              go_roundw
              case rel => exact ⟨j + 1, by have := HJ.out; omega, by go_num, KT2.out⟩
              case measure => have := HJ.out; simp [intOf]; omega
          · have j1 : ¬ (j : Int) < 4 := by omega
            have ej : j = 4 := by omega
            subst ej
            have KT : Hid (NkT A T (4 * i) (wd f c key (i + 1)) f c key V wr) := by
              refine ⟨kt.s, kt.r, ?_, kt.bel⟩
              have h := kt.t
              have e : col (mixU (wd f c key (i + 1)) (wd f c key i) 4) = col (wd f c key (i + 1)) := rfl
              rw [e] at h
              exact h
            clear kt hjl hj
            go_wp2_with fail
            refine wp_region_det 54 [(0, 47), (1, 48), (2, 49), (3, 50), (4, 51)] (ckV A T i) (fun l W => NkT A T (if l 4 = true then 4 * (i + 1) else 4 * i) (wd f c key (i + 1)) f c key V W) (by kernel_rfl) (by kernel_rfl) rfl (by kernel_rfl) (by decide) (by decide) ?_ ?_ ?_
            · exact ⟨KT.out.s, KT.out.r, KT.out.t, KT.out.bel.drew⟩
            · intro q hq l a W hl hf hdep hl2 hcl _ hT
              have li := HI.out
              match q, hq with
              | 0, _ => exact stepV rfl rfl (execMvB rfl (hf 8 (by decide))) ⟨⟨_, rfl, rfl⟩, hT⟩
              | 1, _ => exact stepV rfl rfl (execMulI (p := 4) rfl rfl (hdep _ rfl 0 rfl _ rfl _ rfl) (by omega)) ⟨⟨_, rfl, rfl⟩, hT⟩
              | 2, _ => exact stepV rfl rfl (execCutL rfl (hf 3 (by decide)) (hdep _ rfl 1 rfl _ rfl _ rfl) (sliceArrL A (4 * i) (by omega) _)) ⟨⟨_, rfl, rfl⟩, hT⟩
              | 3, _ => exact stepV rfl rfl (execSlice rfl (hf 7 (by decide)) (sliceArr4 T _)) ⟨⟨_, rfl, rfl⟩, hT⟩
              | 4, _ =>
                have hs := hT.s
                rw [hl, if_neg (by decide)] at hs
                have hmin : Nat.min 4 (16 - 4 * i) = 4 := by show min 4 (16 - 4 * i) = 4; omega
                have lT := LT.out
                refine stepV rfl rfl (execCopyB (cs := bytesL 4 (wd f c key (i + 1))) rfl (hdep _ rfl 2 rfl _ rfl _ rfl) (hdep _ rfl 3 rfl _ rfl _ rfl) hs (by rw [bytesL_len, hmin]) ?_ (by rw [bytesL_len, bA_size]; omega) ?_) ⟨⟨_, rfl, rfl⟩, ⟨?_, ?_, ?_, below4 hT.bel (Nat.le_refl _) _⟩⟩
                · intro j v hj
                  have hj4 : j < 4 := by have := (List.getElem?_eq_some_iff.1 hj).1; rwa [bytesL_len] at this
                  rw [bytesL_at 4 _ hj4] at hj
                  rw [Addr.add_mid, Nat.zero_add, ← hj]
                  exact cell4 hT.t hj4
                · intro u hu
                  simp only [bytesL, List.mem_map] at hu
                  obtain ⟨z, _, rfl⟩ := hu
                  rfl
                · rw [setRow_heap _ _ _ _ _ _ hs, bytesL_len, bA_splice 16 (4 * i) 4 _ _ (by omega), spl_nk f c key i]
                  rfl
                · rw [setRow_other _ _ _ _ (by omega)]; exact hT.r
                · rw [setRow_other _ _ _ _ (by omega)]; exact hT.t
              | n + 5, h => exact absurd h (by simp)
            · intro l W hall hT
              simp only [hall 4 (by simp), if_true] at hT
              have KT2 : Hid (_) := hT
              clear hall hT KT
              simp only [putP, ckV, Act.put, List.setIfInBounds_toArray, List.set_cons_succ, List.set_cons_zero]
              go_wp2
              go_roundw
              case rel => exact ⟨i + 1, by have := HI.out; omega, by go_num, KT2.out⟩
              case measure => have := HI.out; simp [intOf]; omega
      · have i1 : ¬ (i : Int) < 4 := by omega
        have ek : i = 4 := by omega
        subst ek
        have G : Hid (wr.heap[A]? = some (.cells (bA 16 (nk f c key)) 35)) := by
          have h := kt.s
          rw [bA_congr (g := nk f c key) (fun j hj => by unfold mixU; rw [if_pos (by omega)])] at h
          exact h
        go_wp2_with (first
          | (refine atLoad 35 (.tmp 3) rfl ?_; go_must (refine wpList_load_row rfl 35 (.tmp 3) rfl A rfl 35 _ (0, 0) _ G.out Tryz.underlying35 rfl (size16 _) ?_; simp only [Act.put, List.setIfInBounds_toArray, List.set_cons_succ, List.set_cons_zero]))
          | (refine atStore 35 (.tmp 6) (.tmp 53) rfl ?_; go_must (refine wpList_store_row rfl 35 (.tmp 6) (.tmp 53) rfl (A + 1) _ rfl rfl 35 _ kt.r (size16 _) rfl (bA_one _ _) ?_)))
        refine bodyPost_ret (v := .agg (bA 16 (nk f c key))) (results_cell_row Tryz.results88 _ _ (A + 1) 35 _ (0, 0) _ rfl (setRow_heap _ _ _ _ _ _ kt.r) Tryz.underlying35 rfl (size16 _)) rfl ⟨rfl, ?_⟩
        rw [VA.out]
        exact below4 kt.bel (by omega) _
end Go.Proofs.YteekoabgbjbabaaGreatDoor.Aes

namespace Go.Proofs.YteekoabgbjbabaaGreatDoor.Aes
open Go.RowKit Gf8
/- The program's block: sum. -/

/-- Two blocks, byte by byte. -/
def xorB (a b : Nat → Nat) : Nat → Nat := fun j => a j ^^^ b j
theorem addR_xorB (w b : Nat → Nat) (i : Nat) : xorB b (fun j => w (16 * i + j)) = addR w b i := rfl
/-- What each operation of 'a[i] ^= b[i]' yields. -/
def smV (A k : Nat) (a b : Nat → Nat) (j : Nat) : Value :=
  match j with
  | 0 => .int .i64 k | 1 => .pointer (some ⟨A, k, none⟩) | 2 => .int .u8 (a k) | 3 => .int .i64 k | 4 => .pointer (some ⟨A + 1, k, none⟩)
  | 5 => .int .u8 (b k) | 6 => .int .u8 (xorB a b k : Nat) | 7 => .pointer (some ⟨A, k, none⟩) | _ => undef
structure SmT (A k : Nat) (a b : Nat → Nat) (V : World) (l : Nat → Bool) (W : World) : Prop where
  m : W.heap[A]? = some (.cells (bA 16 (mixU (xorB a b) a (if l 8 = true then k + 1 else k))) 35)
  w : W.heap[A + 1]? = some (.cells (bA 16 b) 35)
  r : W.heap[A + 2]? = some (.cells (bA 16 fun _ => 0) 35)
  bel : Below A V W

set_option maxRecDepth 20000 in
set_option maxHeartbeats 400000 in
theorem sum_any (a b : Nat → Nat) (V : World) (ha : By a) (hb : By b) :
    Calls Tryz.prog 90 #[.agg (bA 16 a), .agg (bA 16 b)] V fun e w' => e = .returned (.agg (bA 16 (xorB a b))) ∧ Below V.heap.size V w' := by
  have HA : Hid (By a) := ha
  have HB : Hid (By b) := hb
  clear ha hb
  have z := zero16
  go_enter Tryz.func90, Tryz.ntmps90
  go_wp2_with fail
  have t0 : SmT V.heap.size 0 a b V (fun _ => false) (((V.alloc (.cells (bA 16 a) 35)).alloc (.cells (bA 16 b) 35)).alloc (.cells (bA 16 fun _ => 0) 35)) := by
    have h := heap3c V (.cells (bA 16 a) 35) (.cells (bA 16 b) 35) (.cells (bA 16 fun _ => 0) 35)
    exact ⟨h.1, h.2.1, h.2.2, below3c _ _ _ _⟩
  obtain ⟨A, hA⟩ : ∃ A, A = V.heap.size := ⟨_, rfl⟩
  rw [← hA] at t0 ⊢
  have VA : Hid (V.heap.size = A) := hA.symm
  have T0 : Hid (_) := t0
  clear z t0 hA
  rw [show A + 1 + 1 = A + 2 from rfl]
  go_loopw [6] (fun x W => ∃ k : Nat, k ≤ 16 ∧ x = .int .i64 k ∧ SmT A k a b V (fun _ => false) W) (fun x _ => 16 - (intOf x).toNat)
  case atStart => exact ⟨0, by omega, rfl, T0.out⟩
  case round =>
    obtain ⟨k, hk, rfl, kt⟩ := hrel
    have KT : Hid (_) := kt
    clear kt T0
    by_cases hlt : k < 16
    · have i1 : (k : Int) < 16 := by omega
      have HL : Hid (k < 16) := hlt
      clear hlt hk
      go_wp2_with fail
      refine wp_region_det 19 [(0, 9), (1, 10), (2, 11), (3, 12), (4, 13), (5, 14), (6, 15), (7, 16)] (smV A k a b) (SmT A k a b V) (by kernel_rfl) (by kernel_rfl) rfl (by kernel_rfl) (by decide) (by decide) ?_ ?_ ?_
      · exact ⟨KT.out.m, KT.out.w, KT.out.r, KT.out.bel.drew⟩
      · intro j hj l a W hl hf hdep hl2 hcl _ hT
        have lk := HL.out
        match j, hj with
        | 0, _ => exact stepV rfl rfl (execMvB rfl (hf 5 (by decide))) ⟨⟨_, rfl, rfl⟩, ⟨hT.m, hT.w, hT.r, hT.bel⟩⟩
        | 1, _ => exact stepV rfl rfl (execIdx16 rfl (hf 2 (by decide)) (hdep _ rfl 0 rfl _ rfl _ rfl) lk) ⟨⟨_, rfl, rfl⟩, ⟨hT.m, hT.w, hT.r, hT.bel⟩⟩
        | 2, _ =>
          have n8 : l 8 = false := by
            cases h : l 8 with
            | false => rfl
            | true =>
              have := hcl 6 _ rfl (hcl 8 _ rfl h 6 rfl) 2 rfl
              rw [hl] at this
              cases this
          have ge := hT.m
          rw [n8, if_neg (by decide)] at ge
          refine stepV rfl rfl (execLdB rfl (hdep _ rfl 1 rfl _ rfl _ rfl) (cellN ge lk)) ⟨⟨_, rfl, congrArg (fun z : Nat => Act.put a _ (.int .u8 z)) ?_⟩, ⟨hT.m, hT.w, hT.r, hT.bel⟩⟩
          unfold mixU; rw [if_neg (by omega)]
        | 3, _ => exact stepV rfl rfl (execMvB rfl (hf 5 (by decide))) ⟨⟨_, rfl, rfl⟩, ⟨hT.m, hT.w, hT.r, hT.bel⟩⟩
        | 4, _ => exact stepV rfl rfl (execIdx16 rfl (hf 3 (by decide)) (hdep _ rfl 3 rfl _ rfl _ rfl) lk) ⟨⟨_, rfl, rfl⟩, ⟨hT.m, hT.w, hT.r, hT.bel⟩⟩
        | 5, _ => exact stepV rfl rfl (execLdB rfl (hdep _ rfl 4 rfl _ rfl _ rfl) (cellN hT.w lk)) ⟨⟨_, rfl, rfl⟩, ⟨hT.m, hT.w, hT.r, hT.bel⟩⟩
        | 6, _ => exact stepV rfl rfl (execXor5 rfl (hdep _ rfl 2 rfl _ rfl _ rfl) (hdep _ rfl 5 rfl _ rfl _ rfl) (HA.out k lk) (HB.out k lk)) ⟨⟨_, rfl, rfl⟩, ⟨hT.m, hT.w, hT.r, hT.bel⟩⟩
        | 7, _ => exact stepV rfl rfl (execIdx16 rfl (hf 2 (by decide)) (hdep _ rfl 0 rfl _ rfl _ rfl) lk) ⟨⟨_, rfl, rfl⟩, ⟨hT.m, hT.w, hT.r, hT.bel⟩⟩
        | 8, _ =>
          have ge := hT.m
          rw [hl, if_neg (by decide)] at ge
          refine stepS rfl rfl (execStB rfl (hdep _ rfl 7 rfl _ rfl _ rfl) (hdep _ rfl 6 rfl _ rfl _ rfl) (cellN ge lk) (frozen4 ge)) ⟨⟨_, rfl, rfl⟩, ⟨?_, ?_, ?_, hT.bel.setCell (Nat.le_refl _) _⟩⟩
          · rw [heap4 _ ge]; exact congrArg (fun z => some (Obj.cells z 35)) ((bA_set 16 _ k _).trans (congrArg (bA 16) (updN_mixU _ _ k)))
          · rw [heap4o _ ge (by omega)]; exact hT.w
          · rw [heap4o _ ge (by omega)]; exact hT.r
        | n + 9, h => exact absurd h (by simp)
      · intro l W hall hT
        have he := hT.m
        rw [hall 8 (by simp), if_pos rfl] at he
        have KT2 : Hid (SmT A (k + 1) a b V (fun _ => false) W) := ⟨he, hT.w, hT.r, hT.bel⟩
        clear hall hT he KT
        simp only [putP, smV, Act.put, List.setIfInBounds_toArray, List.set_cons_succ, List.set_cons_zero]
        go_wp2
        go_roundw
        case rel => exact ⟨k + 1, by have := HL.out; omega, by go_num, KT2.out⟩
        case measure => have := HL.out; simp [intOf]; omega
    · have i1 : ¬ (k : Int) < 16 := by omega
      have ek : k = 16 := by omega
      subst ek
      have G : Hid (wr.heap[A]? = some (.cells (bA 16 (xorB a b)) 35)) := by
        have h := KT.out.m
        rw [if_neg (by decide)] at h
        rw [bA_congr (g := xorB a b) (fun j hj => by unfold mixU; rw [if_pos hj])] at h
        exact h
      go_wp2_with (first
        | (refine atLoad 35 (.tmp 2) rfl ?_; go_must (refine wpList_load_row rfl 35 (.tmp 2) rfl A rfl 35 _ (0, 0) _ G.out Tryz.underlying35 rfl (size16 _) ?_; simp only [Act.put, List.setIfInBounds_toArray, List.set_cons_succ, List.set_cons_zero]))
        | (refine atStore 35 (.tmp 4) (.tmp 18) rfl ?_; go_must (refine wpList_store_row rfl 35 (.tmp 4) (.tmp 18) rfl (A + 2) _ rfl rfl 35 _ KT.out.r (size16 _) rfl (bA_one _ _) ?_)))
      refine bodyPost_ret (v := .agg (bA 16 (xorB a b))) (results_cell_row Tryz.results90 _ _ (A + 2) 35 _ (0, 0) _ rfl (setRow_heap _ _ _ _ _ _ KT.out.r) Tryz.underlying35 rfl (size16 _)) rfl ⟨rfl, ?_⟩
      rw [VA.out]
      exact below4 KT.out.bel (by omega) _
end Go.Proofs.YteekoabgbjbabaaGreatDoor.Aes

namespace Go.Proofs.YteekoabgbjbabaaGreatDoor.Aes
open Go.RowKit Gf8
/- The program's block: a Schedule's cells; scheduled. -/

theorem size29 (f : Nat → Nat) : (Tryz.prog.info? 104).map (·.size) = some (bA 176 f).size := by rw [bA_size]; kernel_rfl
theorem zero29 : ∀ w, (zeroValue 104).run Tryz.prog w = .ok (.agg (bA 176 fun _ => 0)) w :=
  (zero_of_info (n := 176) (by kernel_rfl)).1
section
variable {P : Program} {ops : Array Oper} {rest : List Oper} {o : Oper} {a : Act} {w w' : World} {Q : Exit → Act → World → Prop}
theorem execFldS {x : Operand} {g : Nat} (ho : o.op = .fieldAddr 104 x 0) (hx : a.eval x = .pointer (some ⟨g, 0, none⟩)) : (execOp a.eval o).run Tryz.prog w = .ok (.value (.pointer (some ⟨g, 0, none⟩))) w := by
  unfold execOp
  simp only [ho, hx]
  simp [go_sem]
theorem execIdxK {x i : Operand} {g k : Nat} (ho : o.op = .indexAddr 102 x i) (hx : a.eval x = .pointer (some ⟨g, 0, none⟩)) (hi : a.eval i = .int .i64 (k : Int)) (hk : k < 11) : (execOp a.eval o).run Tryz.prog w = .ok (.value (.pointer (some ⟨g, 16 * k, none⟩))) w := by
  have h1 : (k : Int) < 11 := by omega
  have h2 : k * 16 = 16 * k := by omega
  unfold execOp
  simp only [ho, hx, hi]
  simp [go_sem, h1, h2]
/-- A round key into a Schedule. -/
theorem execStKey {x y : Operand} {g i : Nat} {f k : Nat → Nat} {t : TypeId} (ho : o.op = .store 35 x y) (hx : a.eval x = .pointer (some ⟨g, 16 * i, none⟩)) (hy : a.eval y = .agg (bA 16 k)) (hg : w.heap[g]? = some (.cells (bA 176 f) t)) (hi : i < 11) :
    (execOp a.eval o).run Tryz.prog w = .ok .skip (w.setRow g (bA 176 (spl f (16 * i) 16 k))) := by
  have h := execStMid (P := Tryz.prog) ho hx hy hg (by rw [bA_size, bA_size]; omega) (size16 k) (bA_one 16 k)
  rw [bA_size, show (bA 16 k).toList = bytesL 16 k from rfl, bA_splice 176 (16 * i) 16 f k (by omega)] at h
  exact h
/-- A round key out of a Schedule. -/
theorem execLdKey {x : Operand} {g i : Nat} {f : Nat → Nat} {t : TypeId} (ho : o.op = .load 35 x) (hx : a.eval x = .pointer (some ⟨g, 16 * i, none⟩)) (hg : w.heap[g]? = some (.cells (bA 176 f) t)) (hi : i < 11) :
    (execOp a.eval o).run Tryz.prog w = .ok (.value (.agg (bA 16 fun j => f (16 * i + j)))) w := by
  refine execLoadMid (cs := bytesL 16 fun j => f (16 * i + j)) ho hx ?_ Tryz.underlying35 rfl (by rw [bytesL_len]; kernel_rfl)
  intro j v hj
  have h16 : j < 16 := by have := (List.getElem?_eq_some_iff.1 hj).1; rwa [bytesL_len] at this
  rw [bytesL_at 16 _ h16] at hj
  rw [← hj]
  exact cellN hg (by omega)
/-- A whole array as a row. -/
theorem execSt16 {x y : Operand} {g : Nat} {f k : Nat → Nat} (ho : o.op = .store 35 x y) (hx : a.eval x = .pointer (some ⟨g, 0, none⟩)) (hy : a.eval y = .agg (bA 16 k)) (hg : w.heap[g]? = some (.cells (bA 16 f) 35)) :
    (execOp a.eval o).run Tryz.prog w = .ok .skip (w.setRow g (bA 16 k)) := by
  have h := execStMid (P := Tryz.prog) ho hx hy hg (by rw [bA_size, bA_size]; omega) (size16 k) (bA_one 16 k)
  rw [bA_size, show (bA 16 k).toList = bytesL 16 k from rfl, bA_splice 16 0 16 f k (by omega)] at h
  rw [bA_congr (g := k) (fun j hj => by unfold spl; rw [if_pos (by omega)]; rfl)] at h
  exact h
end
/-- The rows of scheduled. -/
structure SdT (A n : Nat) (key : Nat → Nat) (V W : World) : Prop where
  k : W.heap[A]? = some (.cells (bA 16 key) 35)
  r : W.heap[A + 1]? = some (.cells (bA 176 fun _ => 0) 104)
  s : W.heap[A + 2]? = some (.cells (bA 176 (uptoC (kw key) n)) 104)
  bel : Below A V W
theorem SdT.lt {A n : Nat} {key : Nat → Nat} {V W : World} (h : SdT A n key V W) : A + 2 < W.heap.size := (Array.getElem?_eq_some_iff.1 h.s).1
theorem SdT.on {A n : Nat} {key : Nat → Nat} {V W W' : World} (h : SdT A n key V W) (hb : Below W.heap.size W W') : SdT A n key V W' := by
  have l := h.lt
  exact ⟨by rw [hb.block _ (by omega)]; exact h.k, by rw [hb.block _ (by omega)]; exact h.r, by rw [hb.block _ (by omega)]; exact h.s, h.bel.trans (hb.mono (by omega))⟩
theorem SdT.next {A n : Nat} {key : Nat → Nat} {V W : World} (h : SdT A (16 * n) key V W) : SdT A (16 * (n + 1)) key V (W.setRow (A + 2) (bA 176 (spl (uptoC (kw key) (16 * n)) (16 * n) 16 fun j => kw key (16 * n + j)))) := by
  refine ⟨by rw [setRow_other _ _ _ _ (by omega)]; exact h.k, by rw [setRow_other _ _ _ _ (by omega)]; exact h.r, ?_, below4 h.bel (by omega) _⟩
  rw [setRow_heap _ _ _ _ _ _ h.s]
  congr 3
  funext i
  unfold spl uptoC
  by_cases h1 : 16 * n ≤ i ∧ i < 16 * n + 16
  · rw [if_pos h1, if_pos (by omega)]
    exact congrArg (kw key) (by omega)
  · rw [if_neg h1]
    by_cases h2 : i < 16 * n
    · rw [if_pos h2, if_pos (by omega)]
    · rw [if_neg h2, if_neg (by omega)]
theorem SdT.first {A : Nat} {key : Nat → Nat} {V W : World} (h : SdT A (16 * 0) key V W) : SdT A (16 * (0 + 1)) key V (W.setRow (A + 2) (bA 176 (spl (uptoC (kw key) (16 * 0)) (16 * 0) 16 key))) := by
  rw [bA_congr (g := spl (uptoC (kw key) (16 * 0)) (16 * 0) 16 fun j => kw key (16 * 0 + j)) (fun i _ => by
    unfold spl
    by_cases h1 : 16 * 0 ≤ i ∧ i < 16 * 0 + 16
    · rw [if_pos h1, if_pos h1]
      show key (i - 16 * 0) = kw key (16 * 0 + (i - 16 * 0))
      rw [show 16 * 0 + (i - 16 * 0) = i by omega, kw_low key (by omega)]; rfl
    · rw [if_neg h1, if_neg h1])]
  exact h.next

set_option maxRecDepth 20000 in
set_option maxHeartbeats 1000000 in
theorem scheduled_any (g : Nat) (lb : Array Value) (key : Nat → Nat) (V : World) (hF : FnB g lb gsub V) (hk : By key) :
    Calls Tryz.prog 74 #[.agg (bA 16 key), .func (.func g) #[] lb] V fun e w' => e = .returned (.agg (bA 176 (kw key))) ∧ Below V.heap.size V w' := by
  have HK : Hid (By key) := hk
  have HF : Hid (FnB g lb gsub V) := hF
  clear hk hF
  have z := zero29
  go_enter Tryz.func74, Tryz.ntmps74
  have h3 := heap3c V (.cells (bA 16 key) 35) (.cells (bA 176 fun _ => 0) 104) (.cells (bA 176 fun _ => 0) 104)
  have kt : SdT V.heap.size (16 * 0) key V (((V.alloc (.cells (bA 16 key) 35)).alloc (.cells (bA 176 fun _ => 0) 104)).alloc (.cells (bA 176 fun _ => 0) 104)) := ⟨h3.1, h3.2.1, h3.2.2, below3c _ _ _ _⟩
  clear h3
  go_wp2_with (first
    | (refine atLoad 35 (.tmp 2) rfl ?_; go_must (refine wpList_load_row rfl 35 (.tmp 2) rfl V.heap.size rfl 35 _ (0, 0) _ kt.k Tryz.underlying35 rfl (size16 _) ?_; simp only [Act.put, List.setIfInBounds_toArray, List.set_cons_succ, List.set_cons_zero]))
    | (refine wpList_ex rfl (execFldS rfl rfl) ?_)
    | (refine wpList_ex rfl (execIdxK (k := 0) rfl rfl rfl (by omega)) ?_)
    | (refine atStore 35 (.tmp 10) (.tmp 8) rfl ?_; go_must (refine wpList_exS rfl (execStKey (i := 0) rfl rfl rfl kt.s (by omega)) ?_; have kt := kt.first)))
  have KT : Hid (_) := kt
  clear kt
  obtain ⟨A, hA⟩ : ∃ A, A = V.heap.size := ⟨_, rfl⟩
  rw [← hA] at KT ⊢
  have VA : Hid (V.heap.size = A) := hA.symm
  clear hA z
  rw [show A + 1 + 1 = A + 2 from rfl]
  go_loopw [6, 11] (fun c x W => ∃ n : Nat, n ≤ 10 ∧ c = .int .u8 (rcon n) ∧ x = .int .i64 n ∧ SdT A (16 * (n + 1)) key V W) (fun _ x _ => 10 - (intOf x).toNat)
  case atStart => exact ⟨0, by omega, rfl, rfl, KT.out⟩
  case round =>
    obtain ⟨n, hn, rfl, rfl, kt⟩ := hrel
    clear KT
    by_cases hlt : n < 10
    · have i1 : (n : Int) < 10 := by omega
      obtain ⟨m, hm⟩ : ∃ m, n + 1 = m := ⟨_, rfl⟩
      have e1 : (n : Int) + 1 = m := by omega
      have l1 : (m : Int) < 12 := by omega
      have HL : Hid (n < 10 ∧ n + 1 = m) := ⟨hlt, hm⟩
      obtain ⟨c, hc⟩ : ∃ c, rcon n = c := ⟨_, rfl⟩
      have hc2 : c < 256 := by rw [← hc]; exact rcon_lt n
      have EC : Hid (gm 2 c = rcon (n + 1)) := by
        show gm 2 c = xt (rcon n)
        rw [hc]; exact (small_all ⟨c, hc2⟩).1
      have NK := nextKey_any g lb gsub c (fun j => kw key (16 * n + j)) wr (HF.out.on (by rw [VA.out]; exact kt.bel)) hc2 (fun j hj => kw_lt HK.out _)
      have EK : bA 16 (nk gsub c fun j => kw key (16 * n + j)) = bA 16 fun j => kw key (16 * m + j) := bA_congr fun j hj => by rw [← hm, ← hc]; exact kw_nk key n j hj
      rw [EK] at NK
      have ML := fun W : World => mul_any 2 c W (by omega) hc2
      have GL : Hid (wr.heap[A + 2]? = some (.cells (bA 176 (uptoC (kw key) (16 * (n + 1)))) 104)) := kt.s
      have EL : Hid (bA 16 (fun j => uptoC (kw key) (16 * (n + 1)) (16 * n + j)) = bA 16 fun j => kw key (16 * n + j)) := bA_congr fun j hj => by unfold uptoC; rw [if_pos (by omega)]
      have HC : Hid (rcon n = c) := hc
      rw [hc]
      clear hlt hn EK hc
      go_wp2_with (first
        | (refine wpList_ex rfl (execFldS rfl rfl) ?_)
        | (refine wpList_ex rfl (execIdxK (k := n) rfl rfl rfl (by have := HL.out; omega)) ?_)
        | (refine wpList_ex rfl (execIdxK (k := m) rfl rfl rfl (by have := HL.out; omega)) ?_)
        | (refine atLoad 35 (.tmp 18) rfl ?_; go_must (refine wpList_ex rfl (execLdKey (i := n) rfl rfl GL.out (by have := HL.out; omega)) ?_; rw [EL.out]))
        | (go_at_call 88; refine NK.mono ?_; rintro e w1 ⟨rfl, hb1⟩; have kt := kt.on hb1; rw [hm] at kt)
        | (go_at_call 89; refine (ML _).mono ?_; rintro e w2 ⟨rfl, rfl⟩)
        | (refine atStore 35 (.tmp 24) (.tmp 22) rfl ?_; go_must (refine wpList_exS rfl (execStKey (i := m) rfl rfl rfl kt.s (by have := HL.out; omega)) ?_; have kt := kt.next)))
      go_roundw
      case rel => exact ⟨n + 1, by have := HL.out; omega, by rw [EC.out], by have := HL.out; go_num, by rw [HL.out.2]; exact kt⟩
      case measure => have := HL.out; simp [intOf]; omega
    · have i1 : ¬ (n : Int) < 10 := by omega
      have ek : n = 10 := by omega
      subst ek
      have G : Hid (wr.heap[A + 2]? = some (.cells (bA 176 (kw key)) 104)) := by
        have h := kt.s
        rw [bA_congr (g := kw key) (fun j hj => by unfold uptoC; rw [if_pos (by omega)])] at h
        exact h
      go_wp2_with (first
        | (refine atLoad 104 (.tmp 5) rfl ?_; go_must (refine wpList_load_row rfl 104 (.tmp 5) rfl (A + 2) rfl 104 _ (0, 0) _ G.out Tryz.underlying104 rfl (size29 _) ?_; simp only [Act.put, List.setIfInBounds_toArray, List.set_cons_succ, List.set_cons_zero]))
        | (refine atStore 104 (.tmp 4) (.tmp 28) rfl ?_; go_must (refine wpList_store_row rfl 104 (.tmp 4) (.tmp 28) rfl (A + 1) _ rfl rfl 104 _ kt.r (size29 _) (by rw [bA_size, bA_size]) (bA_one _ _) ?_)))
      refine bodyPost_ret (v := .agg (bA 176 (kw key))) (results_cell_row Tryz.results74 _ _ (A + 1) 104 _ (0, 0) _ rfl (setRow_heap _ _ _ _ _ _ kt.r) Tryz.underlying104 rfl (size29 _)) rfl ⟨rfl, ?_⟩
      rw [VA.out]
      exact below4 kt.bel (by omega) _
end Go.Proofs.YteekoabgbjbabaaGreatDoor.Aes

namespace Go.Proofs.YteekoabgbjbabaaGreatDoor.Aes
open Go.RowKit Gf8
/- The program's block: New, Round, encrypted, Encrypt, Decrypt. -/

theorem fn_column (V : World) : FnC 94 fwd V :=
  ⟨enters_of Tryz.func94 (by kernel_rfl) rfl, fun c W hc _ => column_any c W hc⟩
end Go.Proofs.YteekoabgbjbabaaGreatDoor.Aes
