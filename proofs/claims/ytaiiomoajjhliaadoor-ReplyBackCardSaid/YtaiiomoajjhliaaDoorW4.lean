import Derived.Test.YtaiiomoajjhliaaDoorW3
import Derived.Test.YtaiiomoajjhliaaDoorX3
namespace Go.Proofs.YtaiiomoajjhliaaDoor.Aes
open Go.RowKit Gf8
/- The program's block: nextKey. -/

/-- The word that is carried on, behind i words of the next round key. -/
def wd (f : Nat → Nat) (c : Nat) (key : Nat → Nat) : Nat → (Nat → Nat)
  | 0 => fun r => if r = 0 then f (key 13) ^^^ c else f (key (12 + (r + 1) % 4))
  | i + 1 => fun r => wd f c key i r ^^^ key (4 * i + r)
/-- The next round key. -/
def nk (f : Nat → Nat) (c : Nat) (key : Nat → Nat) : Nat → Nat := fun j => wd f c key (j / 4 + 1) (j % 4)
theorem wd_lt {f : Nat → Nat} {c : Nat} {key : Nat → Nat} (hf : ∀ a, a < 256 → f a < 256) (hc : c < 256) (hk : By key) : ∀ i, i ≤ 4 → ∀ r, r < 4 → wd f c key i r < 256
  | 0, _, r, hr => by
    show (if r = 0 then f (key 13) ^^^ c else f (key (12 + (r + 1) % 4))) < 256
    split
    · exact xor_lt (hf _ (hk _ (by omega))) hc
    · exact hf _ (hk _ (by omega))
  | i + 1, h, r, hr => xor_lt (wd_lt hf hc hk i (by omega) r hr) (hk _ (by omega))
/-- The round keys one behind the other. -/
theorem kw_nk (key : Nat → Nat) (n j : Nat) (hj : j < 16) : nk gsub (rcon n) (fun i => kw key (16 * n + i)) j = kw key (16 * (n + 1) + j) := by
  induction j using Nat.strongRecOn with
  | ind j ih =>
    by_cases h4 : j < 4
    · rw [kw_turn key (by omega) (by omega)]
      show wd gsub (rcon n) (fun i => kw key (16 * n + i)) (j / 4 + 1) (j % 4) = _
      rw [show j / 4 = 0 by omega, show j % 4 = j by omega]
      show (if j = 0 then gsub (kw key (16 * n + 13)) ^^^ rcon n else gsub (kw key (16 * n + (12 + (j + 1) % 4)))) ^^^ kw key (16 * n + (4 * 0 + j)) = _
      rw [Nat.xor_comm, show 16 * (n + 1) + j - 16 = 16 * n + (4 * 0 + j) by omega, show (16 * (n + 1) + j) / 4 * 4 - 4 + (16 * (n + 1) + j + 1) % 4 = 16 * n + (12 + (j + 1) % 4) by omega]
      congr 1
      by_cases h0 : j = 0
      · subst h0
        rw [if_pos rfl, if_pos (by omega), show (16 * (n + 1) + 0) / 16 - 1 = n by omega]
      · rw [if_neg h0, if_neg (by omega), Nat.xor_zero]
    · rw [kw_plain key (by omega) (by omega), show 16 * (n + 1) + j - 4 = 16 * (n + 1) + (j - 4) by omega, ← ih (j - 4) (by omega) (by omega)]
      show wd gsub (rcon n) (fun i => kw key (16 * n + i)) (j / 4 + 1) (j % 4) = _ ^^^ wd gsub (rcon n) (fun i => kw key (16 * n + i)) ((j - 4) / 4 + 1) ((j - 4) % 4)
      rw [show (j - 4) / 4 + 1 = j / 4 by omega, show (j - 4) % 4 = j % 4 by omega]
      show wd gsub (rcon n) (fun i => kw key (16 * n + i)) (j / 4) (j % 4) ^^^ kw key (16 * n + (4 * (j / 4) + j % 4)) = _
      rw [Nat.xor_comm, show 16 * n + (4 * (j / 4) + j % 4) = 16 * (n + 1) + j - 16 by omega]
section
variable {P : Program} {o : Oper} {a : Act} {w : World}
theorem execCallF {x y : Operand} {ts : Array TypeId} {g : Nat} {lb : Array Value} {v : Value} (ho : o.op = .call { callee := .value x, args := #[y], argTypes := ts }) (hx : a.eval x = .func (.func g) #[] lb) (hy : a.eval y = v) (eg : Enters P g) : (execOp a.eval o).run P w = .ok (.enter g (#[v] ++ lb)) w := by
  have e := eg
  unfold Enters at e
  unfold execOp
  simp only [ho, resolve, Deferred.ofValue, invoke, Sem.run_bind, Sem.run_pure, Result.andThen_ok, List.map_toArray, List.map_cons, List.map_nil, hx, hy]
  have e2 := e (#[v] ++ lb) w
  simpa using e2
theorem exec_build4v {x0 x1 x2 x3 : Operand} {c : Nat → Nat} (ho : o.op = .build 108 #[(0, x0), (1, x1), (2, x2), (3, x3)]) (h0 : a.eval x0 = .int .u8 (c 0)) (h1 : a.eval x1 = .int .u8 (c 1)) (h2 : a.eval x2 = .int .u8 (c 2)) (h3 : a.eval x3 = .int .u8 (c 3)) :
    (execOp a.eval o).run Tryd.prog w = .ok (.value (.agg (col c))) w := by
  have z := zero4
  have s5 : ∀ W, (sizeOf 5).run Tryd.prog W = .ok 1 W := by intro W; simp [go_sem]
  unfold execOp
  simp only [ho, List.map_toArray, List.map_cons, List.map_nil, h0, h1, h2, h3]
  simp [go_sem, col]
end
/-- What each operation of word's literal yields. -/
def wdS (A g : Nat) (lb : Array Value) (f : Nat → Nat) (c : Nat) (key : Nat → Nat) (j : Nat) (r : Value) (W : World) : Prop :=
  match j with
  | 0 => r = .func (.func g) #[] lb | 1 => r = .pointer (some ⟨A, 13, none⟩) | 2 => r = .int .u8 (key 13) | 3 => r = .int .u8 (f (key 13) : Nat) | 4 => r = .int .u8 c | 5 => r = .int .u8 (wd f c key 0 0 : Nat)
  | 6 => r = .func (.func g) #[] lb | 7 => r = .pointer (some ⟨A, 14, none⟩) | 8 => r = .int .u8 (key 14) | 9 => r = .int .u8 (wd f c key 0 1 : Nat)
  | 10 => r = .func (.func g) #[] lb | 11 => r = .pointer (some ⟨A, 15, none⟩) | 12 => r = .int .u8 (key 15) | 13 => r = .int .u8 (wd f c key 0 2 : Nat)
  | 14 => r = .func (.func g) #[] lb | 15 => r = .pointer (some ⟨A, 12, none⟩) | 16 => r = .int .u8 (key 12) | 17 => r = .int .u8 (wd f c key 0 3 : Nat)
  | 18 => r = .agg (col (wd f c key 0))
  | _ => ∃ T, r = .pointer (some ⟨T, 0, none⟩) ∧ A + 1 < T ∧ W.heap[T]? = some (.cells (col fun _ => 0) 108)
theorem wdS_on {A g : Nat} {lb : Array Value} {f : Nat → Nat} {c : Nat} {key : Nat → Nat} {j : Nat} {r : Value} {W W' : World} (h : wdS A g lb f c key j r W) (hb : Below W.heap.size W W') : wdS A g lb f c key j r W' := by
  match j, h with
  | 0, h => exact h
  | 1, h => exact h
  | 2, h => exact h
  | 3, h => exact h
  | 4, h => exact h
  | 5, h => exact h
  | 6, h => exact h
  | 7, h => exact h
  | 8, h => exact h
  | 9, h => exact h
  | 10, h => exact h
  | 11, h => exact h
  | 12, h => exact h
  | 13, h => exact h
  | 14, h => exact h
  | 15, h => exact h
  | 16, h => exact h
  | 17, h => exact h
  | 18, h => exact h
  | n + 19, h =>
    obtain ⟨T, e, lT, gT⟩ := h
    exact ⟨T, e, lT, by rw [hb.block _ (Array.getElem?_eq_some_iff.1 gT).1]; exact gT⟩
/-- The rows of nextKey: the key, of which n bytes are new; the answer's place; the word. -/
structure NkT (A T n : Nat) (m : Nat → Nat) (f : Nat → Nat) (c : Nat) (key : Nat → Nat) (V W : World) : Prop where
  s : W.heap[A]? = some (.cells (bA 16 (mixU (nk f c key) key n)) 33)
  r : W.heap[A + 1]? = some (.cells (bA 16 fun _ => 0) 33)
  t : W.heap[T]? = some (.cells (col m) 108)
  bel : Below A V W
/-- What each operation of 'word[j] ^= key[4*i+j]' yields. -/
def nxV (A T i j : Nat) (m key : Nat → Nat) (q : Nat) : Value :=
  match q with
  | 0 => .int .i64 j | 1 => .pointer (some ⟨T, j, none⟩) | 2 => .int .u8 (m j) | 3 => .int .i64 i | 4 => .int .i64 (4 * i : Nat) | 5 => .int .i64 j | 6 => .int .i64 (4 * i + j : Nat)
  | 7 => .pointer (some ⟨A, 4 * i + j, none⟩) | 8 => .int .u8 (key (4 * i + j)) | 9 => .int .u8 (m j ^^^ key (4 * i + j) : Nat) | 10 => .pointer (some ⟨T, j, none⟩) | _ => undef
theorem col_setN (m : Nat → Nat) {k v : Nat} (h : k < 4) : (col m).setIfInBounds k (.int .u8 v) = col (updN m k v) := by
  have : k = 0 ∨ k = 1 ∨ k = 2 ∨ k = 3 := by omega
  rcases this with rfl | rfl | rfl | rfl <;> rfl
theorem cell4 {W : World} {b k : Nat} {c : Nat → Nat} {t : TypeId} (h : W.heap[b]? = some (.cells (col c) t)) (hk : k < 4) : W.cell? ⟨b, k, none⟩ = some (.int .u8 (c k)) := by
  rw [cell_of_row _ _ _ _ _ _ h]; exact col_at c hk
/-- What each operation of copy(key[4*i:], word[:]) yields. -/
def ckV (A T i : Nat) (j : Nat) : Value :=
  match j with
  | 0 => .int .i64 i | 1 => .int .i64 (4 * i : Nat) | 2 => .slice (some ⟨A, 4 * i, none⟩) (16 - 4 * i) (16 - 4 * i) | 3 => .slice (some ⟨T, 0, none⟩) 4 4 | 4 => .int .i64 4 | _ => undef
theorem spl_nk (f : Nat → Nat) (c : Nat) (key : Nat → Nat) (i : Nat) : spl (mixU (nk f c key) key (4 * i)) (4 * i) 4 (wd f c key (i + 1)) = mixU (nk f c key) key (4 * (i + 1)) := by
  funext j
  unfold spl mixU
  by_cases h1 : 4 * i ≤ j ∧ j < 4 * i + 4
  · rw [if_pos h1, if_pos (by omega)]
    unfold nk
    rw [show j / 4 + 1 = i + 1 by omega, show j - 4 * i = j % 4 by omega]
  · rw [if_neg h1]
    by_cases h2 : j < 4 * i
    · rw [if_pos h2, if_pos (by omega)]
    · rw [if_neg h2, if_neg (by omega)]

set_option maxRecDepth 20000 in
set_option maxHeartbeats 2000000 in
theorem nextKey_any (g : Nat) (lb : Array Value) (f : Nat → Nat) (c : Nat) (key : Nat → Nat) (V : World) (hF : FnB g lb f V) (hc : c < 256) (hk : By key) :
    Calls Tryd.prog 70 #[.agg (bA 16 key), .int .u8 c, .func (.func g) #[] lb] V fun e w' => e = .returned (.agg (bA 16 (nk f c key))) ∧ Below V.heap.size V w' := by
  have HK : Hid (By key) := hk
  have HF : Hid (FnB g lb f V) := hF
  have HC : Hid (c < 256) := hc
  have HD : Hid (∀ i, i ≤ 4 → ∀ r, r < 4 → wd f c key i r < 256) := wd_lt hF.lt hc hk
  clear hk hF hc
  have z := zero16
  go_enter Tryd.func70, Tryd.ntmps70
  go_wp2_with fail
  have h2 := heap2c V (.cells (bA 16 key) 33) (.cells (bA 16 fun _ => 0) 33)
  have b2 := below2c V (.cells (bA 16 key) 33) (.cells (bA 16 fun _ => 0) 33)
  obtain ⟨W0, hW⟩ : ∃ W0, W0 = (V.alloc (.cells (bA 16 key) 33)).alloc (.cells (bA 16 fun _ => 0) 33) := ⟨_, rfl⟩
  rw [← hW] at h2 b2 ⊢
  obtain ⟨A, hA⟩ : ∃ A, A = V.heap.size := ⟨_, rfl⟩
  rw [← hA] at h2 b2 ⊢
  have VA : Hid (V.heap.size = A) := hA.symm
  have H2 : Hid (_) := h2
  have B2 : Hid (_) := b2
  clear z h2 b2 hA hW
  have l2 : A + 1 < W0.heap.size := (Array.getElem?_eq_some_iff.1 H2.out.2).1
  refine wp_region_slotsA 20 54 [10, 11, 12, 13, 14, 15, 16, 17, 18, 19, 20, 21, 22, 23, 24, 25, 26, 27, 28, 7] (wdS A g lb f c key) (by kernel_rfl) (by kernel_rfl) (by kernel_rfl) (by decide) rfl rfl (by decide) (by decide) (fun _ _ _ _ h hb => wdS_on h hb) ?_ ?_
  · intro j hj a W hB hf hdep
    have gA : W.heap[A]? = some (.cells (bA 16 key) 33) := by rw [hB.block _ (by omega)]; exact H2.out.1
    have bV : Below V.heap.size V W := by rw [VA.out]; exact B2.out.trans (hB.mono (by omega))
    have k := HK.out
    match j, hj with
    | 0, _ => exact stepV rfl rfl (execMvB rfl (hf 2 (by decide))) ⟨_, rfl, rfl, Below.refl _ _⟩
    | 1, _ => exact stepV rfl rfl (execIdx16 (k := 13) rfl (hf 3 (by decide)) rfl (by omega)) ⟨_, rfl, rfl, Below.refl _ _⟩
    | 2, _ => exact stepV rfl rfl (execLdB rfl (hdep _ rfl 1 rfl) (cellN gA (by omega))) ⟨_, rfl, rfl, Below.refl _ _⟩
    | 3, _ => exact stepC rfl rfl (execCallF rfl (hdep _ rfl 0 rfl) (hdep _ rfl 2 rfl) HF.out.enters) (HF.out.gives (key 13) W (k 13 (by omega)) bV) fun e w' h => ⟨_, h.1, _, rfl, rfl, h.2⟩
    | 4, _ => exact stepV rfl rfl (execMvB rfl (hf 1 (by decide))) ⟨_, rfl, rfl, Below.refl _ _⟩
    | 5, _ => exact stepV rfl rfl (execXor5 rfl (hdep _ rfl 3 rfl) (hdep _ rfl 4 rfl) (HF.out.lt _ (k 13 (by omega))) HC.out) ⟨_, rfl, rfl, Below.refl _ _⟩
    | 6, _ => exact stepV rfl rfl (execMvB rfl (hf 2 (by decide))) ⟨_, rfl, rfl, Below.refl _ _⟩
    | 7, _ => exact stepV rfl rfl (execIdx16 (k := 14) rfl (hf 3 (by decide)) rfl (by omega)) ⟨_, rfl, rfl, Below.refl _ _⟩
    | 8, _ => exact stepV rfl rfl (execLdB rfl (hdep _ rfl 7 rfl) (cellN gA (by omega))) ⟨_, rfl, rfl, Below.refl _ _⟩
    | 9, _ => exact stepC rfl rfl (execCallF rfl (hdep _ rfl 6 rfl) (hdep _ rfl 8 rfl) HF.out.enters) (HF.out.gives (key 14) W (k 14 (by omega)) bV) fun e w' h => ⟨_, h.1, _, rfl, rfl, h.2⟩
    | 10, _ => exact stepV rfl rfl (execMvB rfl (hf 2 (by decide))) ⟨_, rfl, rfl, Below.refl _ _⟩
    | 11, _ => exact stepV rfl rfl (execIdx16 (k := 15) rfl (hf 3 (by decide)) rfl (by omega)) ⟨_, rfl, rfl, Below.refl _ _⟩
    | 12, _ => exact stepV rfl rfl (execLdB rfl (hdep _ rfl 11 rfl) (cellN gA (by omega))) ⟨_, rfl, rfl, Below.refl _ _⟩
    | 13, _ => exact stepC rfl rfl (execCallF rfl (hdep _ rfl 10 rfl) (hdep _ rfl 12 rfl) HF.out.enters) (HF.out.gives (key 15) W (k 15 (by omega)) bV) fun e w' h => ⟨_, h.1, _, rfl, rfl, h.2⟩
    | 14, _ => exact stepV rfl rfl (execMvB rfl (hf 2 (by decide))) ⟨_, rfl, rfl, Below.refl _ _⟩
    | 15, _ => exact stepV rfl rfl (execIdx16 (k := 12) rfl (hf 3 (by decide)) rfl (by omega)) ⟨_, rfl, rfl, Below.refl _ _⟩
    | 16, _ => exact stepV rfl rfl (execLdB rfl (hdep _ rfl 15 rfl) (cellN gA (by omega))) ⟨_, rfl, rfl, Below.refl _ _⟩
    | 17, _ => exact stepC rfl rfl (execCallF rfl (hdep _ rfl 14 rfl) (hdep _ rfl 16 rfl) HF.out.enters) (HF.out.gives (key 12) W (k 12 (by omega)) bV) fun e w' h => ⟨_, h.1, _, rfl, rfl, h.2⟩
    | 18, _ => exact stepV rfl rfl (exec_build4v (c := wd f c key 0) rfl (hdep _ rfl 5 rfl) (hdep _ rfl 9 rfl) (hdep _ rfl 13 rfl) (hdep _ rfl 17 rfl)) ⟨_, rfl, rfl, Below.refl _ _⟩
    | 19, _ => exact stepV rfl rfl (execAlloc4 rfl) ⟨_, rfl, ⟨_, rfl, by have := hB.size; omega, heapNew W _⟩, belNew W _⟩
    | n + 20, h => exact absurd h (by omega)
  · intro x W hB hS
    have x18 : x 18 = .agg (col (wd f c key 0)) := hS 18 (by omega)
    obtain ⟨T, x19, lT, gT⟩ := hS 19 (by omega)
    have gA : W.heap[A]? = some (.cells (bA 16 key) 33) := by rw [hB.block _ (by omega)]; exact H2.out.1
    have gR : W.heap[A + 1]? = some (.cells (bA 16 fun _ => 0) 33) := by rw [hB.block _ l2]; exact H2.out.2
    have bV : Below A V W := B2.out.trans (hB.mono (by omega))
    simp only [putL, Act.put, List.setIfInBounds_toArray, List.set_cons_succ, List.set_cons_zero, x18, x19]
    refine wpList_store_row rfl 108 (.tmp 7) (.tmp 28) rfl T _ rfl rfl 108 _ gT (size4' _) rfl (col_one _) ?_
    have KT : Hid (NkT A T 0 (wd f c key 0) f c key V (W.setRow T (col (wd f c key 0)))) :=
      ⟨by rw [setRow_other _ _ _ _ (by omega)]; exact gA, by rw [setRow_other _ _ _ _ (by omega)]; exact gR, setRow_heap _ _ _ _ _ _ gT, below4 bV (by omega) _⟩
    have LT : Hid (A + 1 < T) := lT
    clear hS x18 x19 gT gA gR bV hB H2 B2 l2 lT
    generalize x 0 = y0, x 1 = y1, x 2 = y2, x 3 = y3, x 4 = y4, x 5 = y5, x 6 = y6, x 7 = y7, x 8 = y8, x 9 = y9, x 10 = y10, x 11 = y11, x 12 = y12, x 13 = y13, x 14 = y14, x 15 = y15, x 16 = y16, x 17 = y17
    go_wp2_with fail
    go_loopw [29] (fun x W => ∃ i : Nat, i ≤ 4 ∧ x = .int .i64 i ∧ NkT A T (4 * i) (wd f c key i) f c key V W) (fun x _ => 4 - (intOf x).toNat)
    case atStart => exact ⟨0, by omega, rfl, KT.out⟩
    case round =>
      obtain ⟨i, hi, rfl, kt⟩ := hrel
      clear KT
      by_cases hlt : i < 4
      · have i1 : (i : Int) < 4 := by omega
        have HI : Hid (i < 4) := hlt
        have KT : Hid (_) := kt
        clear kt hlt hi
        go_wp2_with fail
        go_loopw [32] (fun x W => ∃ j : Nat, j ≤ 4 ∧ x = .int .i64 j ∧ NkT A T (4 * i) (mixU (wd f c key (i + 1)) (wd f c key i) j) f c key V W) (fun x _ => 4 - (intOf x).toNat)
        case atStart => exact ⟨0, by omega, rfl, KT.out⟩
        case round =>
          obtain ⟨j, hj, rfl, kt⟩ := hrel
          clear KT
          by_cases hjl : j < 4
          · have j1 : (j : Int) < 4 := by omega
            have HJ : Hid (j < 4) := hjl
            have KT : Hid (_) := kt
            clear kt hjl hj
            go_wp2_with fail
            refine wp_region_det 54 [(0, 35), (1, 36), (2, 37), (3, 38), (4, 39), (5, 40), (6, 41), (7, 42), (8, 43), (9, 44), (10, 45)] (nxV A T i j (wd f c key i) key) (fun l W => NkT A T (4 * i) (mixU (wd f c key (i + 1)) (wd f c key i) (if l 11 = true then j + 1 else j)) f c key V W) (by kernel_rfl) (by kernel_rfl) rfl (by kernel_rfl) (by decide) (by decide) ?_ ?_ ?_
            · exact ⟨KT.out.s, KT.out.r, KT.out.t, KT.out.bel.drew⟩
            · intro q hq l a W hl hf hdep hl2 hcl _ hT
              have lj := HJ.out
              have li := HI.out
              match q, hq with
              | 0, _ => exact stepV rfl rfl (execMvB rfl (hf 9 (by decide))) ⟨⟨_, rfl, rfl⟩, hT⟩
              | 1, _ => exact stepV rfl rfl (execIdx4 rfl (hf 7 (by decide)) (hdep _ rfl 0 rfl _ rfl _ rfl) lj) ⟨⟨_, rfl, rfl⟩, hT⟩
              | 2, _ =>
                have n11 : l 11 = false := by
                  cases h : l 11 with
                  | false => rfl
                  | true =>
                    have := hcl 9 _ rfl (hcl 11 _ rfl h 9 rfl) 2 rfl
                    rw [hl] at this
                    cases this
                have ge := hT.t
                rw [n11, if_neg (by decide)] at ge
                refine stepV rfl rfl (execLdB rfl (hdep _ rfl 1 rfl _ rfl _ rfl) (cell4 ge lj)) ⟨⟨_, rfl, congrArg (fun z : Nat => Act.put a _ (.int .u8 z)) ?_⟩, hT⟩
                unfold mixU; rw [if_neg (by omega)]
              | 3, _ => exact stepV rfl rfl (execMvB rfl (hf 8 (by decide))) ⟨⟨_, rfl, rfl⟩, hT⟩
              | 4, _ => exact stepV rfl rfl (execMulI (p := 4) rfl rfl (hdep _ rfl 3 rfl _ rfl _ rfl) (by omega)) ⟨⟨_, rfl, rfl⟩, hT⟩
              | 5, _ => exact stepV rfl rfl (execMvB rfl (hf 9 (by decide))) ⟨⟨_, rfl, rfl⟩, hT⟩
              | 6, _ => exact stepV rfl rfl (execAddI rfl (hdep _ rfl 4 rfl _ rfl _ rfl) (hdep _ rfl 5 rfl _ rfl _ rfl) (by omega)) ⟨⟨_, rfl, rfl⟩, hT⟩
              | 7, _ => exact stepV rfl rfl (execIdx16 rfl (hf 3 (by decide)) (hdep _ rfl 6 rfl _ rfl _ rfl) (by omega)) ⟨⟨_, rfl, rfl⟩, hT⟩
              | 8, _ =>
                refine stepV rfl rfl (execLdB rfl (hdep _ rfl 7 rfl _ rfl _ rfl) (cellN hT.s (by omega))) ⟨⟨_, rfl, congrArg (fun z : Nat => Act.put a _ (.int .u8 z)) ?_⟩, hT⟩
                unfold mixU; rw [if_neg (by omega)]
              | 9, _ => exact stepV rfl rfl (execXor5 rfl (hdep _ rfl 2 rfl _ rfl _ rfl) (hdep _ rfl 8 rfl _ rfl _ rfl) (HD.out i (by omega) j lj) (HK.out _ (by omega))) ⟨⟨_, rfl, rfl⟩, hT⟩
              | 10, _ => exact stepV rfl rfl (execIdx4 rfl (hf 7 (by decide)) (hdep _ rfl 0 rfl _ rfl _ rfl) lj) ⟨⟨_, rfl, rfl⟩, hT⟩
              | 11, _ =>
                have ge := hT.t
                rw [hl, if_neg (by decide)] at ge
                have lT := LT.out
                refine stepS rfl rfl (execStB rfl (hdep _ rfl 10 rfl _ rfl _ rfl) (hdep _ rfl 9 rfl _ rfl _ rfl) (cell4 ge lj) (frozen4 ge)) ⟨⟨_, rfl, rfl⟩, ⟨?_, ?_, ?_, hT.bel.setCell (by simp; omega) _⟩⟩
                · rw [heap4o _ ge (by omega)]; exact hT.s
                · rw [heap4o _ ge (by omega)]; exact hT.r
                · rw [heap4 _ ge]; exact congrArg (fun z => some (Obj.cells z 108)) ((col_setN _ lj).trans (congrArg col (updN_mixU (wd f c key (i + 1)) (wd f c key i) j)))
              | n + 12, h => exact absurd h (by simp)
            · intro l W hall hT
              simp only [hall 11 (by simp), if_true] at hT
              have KT2 : Hid (_) := hT
              clear hall hT KT
              simp only [putP, nxV, Act.put, List.setIfInBounds_toArray, List.set_cons_succ, List.set_cons_zero]
              go_wp2
              go_roundw
              case rel => exact ⟨j + 1, by have := HJ.out; omega, by go_num, KT2.out⟩
              case measure => have := HJ.out; simp [intOf]; omega
          · have j1 : ¬ (j : Int) < 4 := by omega
            have ej : j = 4 := by omega
            subst ej
            have KT : Hid (NkT A T (4 * i) (wd f c key (i + 1)) f c key V wr) := by
              refine ⟨kt.s, kt.r, ?_, kt.bel⟩
              have h := kt.t
              have e : col (mixU (wd f c key (i + 1)) (wd f c key i) 4) = col (wd f c key (i + 1)) := rfl
              rw [e] at h
              exact h
            clear kt hjl hj
            go_wp2_with fail
            refine wp_region_det 54 [(0, 47), (1, 48), (2, 49), (3, 50), (4, 51)] (ckV A T i) (fun l W => NkT A T (if l 4 = true then 4 * (i + 1) else 4 * i) (wd f c key (i + 1)) f c key V W) (by kernel_rfl) (by kernel_rfl) rfl (by kernel_rfl) (by decide) (by decide) ?_ ?_ ?_
            · exact ⟨KT.out.s, KT.out.r, KT.out.t, KT.out.bel.drew⟩
            · intro q hq l a W hl hf hdep hl2 hcl _ hT
              have li := HI.out
              match q, hq with
              | 0, _ => exact stepV rfl rfl (execMvB rfl (hf 8 (by decide))) ⟨⟨_, rfl, rfl⟩, hT⟩
              | 1, _ => exact stepV rfl rfl (execMulI (p := 4) rfl rfl (hdep _ rfl 0 rfl _ rfl _ rfl) (by omega)) ⟨⟨_, rfl, rfl⟩, hT⟩
              | 2, _ => exact stepV rfl rfl (execCutL rfl (hf 3 (by decide)) (hdep _ rfl 1 rfl _ rfl _ rfl) (sliceArrL A (4 * i) (by omega) _)) ⟨⟨_, rfl, rfl⟩, hT⟩
              | 3, _ => exact stepV rfl rfl (execSlice rfl (hf 7 (by decide)) (sliceArr4 T _)) ⟨⟨_, rfl, rfl⟩, hT⟩
              | 4, _ =>
                have hs := hT.s
                rw [hl, if_neg (by decide)] at hs
                have hmin : Nat.min 4 (16 - 4 * i) = 4 := by show min 4 (16 - 4 * i) = 4; omega
                have lT := LT.out
                refine stepV rfl rfl (execCopyB (cs := bytesL 4 (wd f c key (i + 1))) rfl (hdep _ rfl 2 rfl _ rfl _ rfl) (hdep _ rfl 3 rfl _ rfl _ rfl) hs (by rw [bytesL_len, hmin]) ?_ (by rw [bytesL_len, bA_size]; omega) ?_) ⟨⟨_, rfl, rfl⟩, ⟨?_, ?_, ?_, below4 hT.bel (Nat.le_refl _) _⟩⟩
                · intro j v hj
                  have hj4 : j < 4 := by have := (List.getElem?_eq_some_iff.1 hj).1; rwa [bytesL_len] at this
                  rw [bytesL_at 4 _ hj4] at hj
                  rw [Addr.add_mid, Nat.zero_add, ← hj]
                  exact cell4 hT.t hj4
                · intro u hu
                  simp only [bytesL, List.mem_map] at hu
                  obtain ⟨z, _, rfl⟩ := hu
                  rfl
                · rw [setRow_heap _ _ _ _ _ _ hs, bytesL_len, bA_splice 16 (4 * i) 4 _ _ (by omega), spl_nk f c key i]
                  rfl
                · rw [setRow_other _ _ _ _ (by omega)]; exact hT.r
                · rw [setRow_other _ _ _ _ (by omega)]; exact hT.t
              | n + 5, h => exact absurd h (by simp)
            · intro l W hall hT
              simp only [hall 4 (by simp), if_true] at hT
              have KT2 : Hid (_) := hT
              clear hall hT KT
              simp only [putP, ckV, Act.put, List.setIfInBounds_toArray, List.set_cons_succ, List.set_cons_zero]
              go_wp2
              go_roundw
              case rel => exact ⟨i + 1, by have := HI.out; omega, by go_num, KT2.out⟩
              case measure => have := HI.out; simp [intOf]; omega
      · have i1 : ¬ (i : Int) < 4 := by omega
        have ek : i = 4 := by omega
        subst ek
        have G : Hid (wr.heap[A]? = some (.cells (bA 16 (nk f c key)) 33)) := by
          have h := kt.s
          rw [bA_congr (g := nk f c key) (fun j hj => by unfold mixU; rw [if_pos (by omega)])] at h
          exact h
        go_wp2_with (first
          | (refine atLoad 33 (.tmp 3) rfl ?_; go_must (refine wpList_load_row rfl 33 (.tmp 3) rfl A rfl 33 _ (0, 0) _ G.out Tryd.underlying33 rfl (size16 _) ?_; simp only [Act.put, List.setIfInBounds_toArray, List.set_cons_succ, List.set_cons_zero]))
          | (refine atStore 33 (.tmp 6) (.tmp 53) rfl ?_; go_must (refine wpList_store_row rfl 33 (.tmp 6) (.tmp 53) rfl (A + 1) _ rfl rfl 33 _ kt.r (size16 _) rfl (bA_one _ _) ?_)))
        refine bodyPost_ret (v := .agg (bA 16 (nk f c key))) (results_cell_row Tryd.results70 _ _ (A + 1) 33 _ (0, 0) _ rfl (setRow_heap _ _ _ _ _ _ kt.r) Tryd.underlying33 rfl (size16 _)) rfl ⟨rfl, ?_⟩
        rw [VA.out]
        exact below4 kt.bel (by omega) _
end Go.Proofs.YtaiiomoajjhliaaDoor.Aes
