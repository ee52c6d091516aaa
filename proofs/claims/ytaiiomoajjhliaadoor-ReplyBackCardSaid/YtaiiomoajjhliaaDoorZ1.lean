import Derived.Test.YtaiiomoajjhliaaDoorZ0
import Derived.Test.YtaiiomoajjhliaaDoorI1
import Derived.Test.YtaiiomoajjhliaaDoorY3
namespace Go.Proofs.YtaiiomoajjhliaaDoor.Aes
open Go.RowKit Gf8 By8
/- The program's block: stream. -/

/-- The rows of stream ahead of its loop. -/
structure S0T (A : Nat) (key : Nat → Nat) (s0 : Nat) (V W : World) : Prop where
  k : W.heap[A]? = some (.cells (bA 16 key) 33)
  s : W.heap[A + 1]? = some (.cells (bA 16 (be s0)) 33)
  bel : Below A V W
theorem S0T.on {A : Nat} {key : Nat → Nat} {s0 : Nat} {V W W' : World} (h : S0T A key s0 V W) (hb : Below W.heap.size W W') : S0T A key s0 V W' := by
  have l : A + 1 < W.heap.size := (Array.getElem?_eq_some_iff.1 h.s).1
  exact ⟨by rw [hb.block _ (by omega)]; exact h.k, by rw [hb.block _ (by omega)]; exact h.s, h.bel.trans (hb.mono (by omega))⟩
/-- The rows in stream's loop: the next start, the table, the Schedule, the answer of which off bytes are laid. -/
structure SmR (A T S O n k off : Nat) (w : Nat → Nat) (s0 : Nat) (V W : World) : Prop where
  st : W.heap[A + 1]? = some (.cells (bA 16 (be (s0 + k))) 33)
  tb : W.heap[T]? = some (.cells (bA 256 gsub) 99)
  ss : W.heap[S]? = some (.cells (bA 176 w) 92)
  oo : W.heap[O]? = some (.cells (bA n (uptoC (maskF w s0 fun _ => 0) off)) 5)
  l1 : A + 1 < T
  l2 : T < S
  l3 : S < O
  bel : Below A V W
theorem SmR.lt {A T S O n k off : Nat} {w : Nat → Nat} {s0 : Nat} {V W : World} (h : SmR A T S O n k off w s0 V W) : O < W.heap.size := (Array.getElem?_eq_some_iff.1 h.oo).1
theorem SmR.on {A T S O n k off : Nat} {w : Nat → Nat} {s0 : Nat} {V W W' : World} (h : SmR A T S O n k off w s0 V W) (hb : Below W.heap.size W W') : SmR A T S O n k off w s0 V W' := by
  have l := h.lt
  have a := h.l1
  have b := h.l2
  have c := h.l3
  exact ⟨by rw [hb.block _ (by omega)]; exact h.st, by rw [hb.block _ (by omega)]; exact h.tb, by rw [hb.block _ (by omega)]; exact h.ss, by rw [hb.block _ (by omega)]; exact h.oo, a, b, c, h.bel.trans (hb.mono (by omega))⟩
/-- A row behind all of these is written. -/
theorem SmR.row {A T S O n k off B : Nat} {w : Nat → Nat} {s0 : Nat} {V W : World} (h : SmR A T S O n k off w s0 V W) (hB : O < B) (c : Array Value) : SmR A T S O n k off w s0 V (W.setRow B c) := by
  have l := h.lt
  have a := h.l1
  have b := h.l2
  have d := h.l3
  exact ⟨by rw [setRow_other _ _ _ _ (by omega)]; exact h.st, by rw [setRow_other _ _ _ _ (by omega)]; exact h.tb, by rw [setRow_other _ _ _ _ (by omega)]; exact h.ss, by rw [setRow_other _ _ _ _ (by omega)]; exact h.oo, a, b, d, below4 h.bel (by omega) _⟩
theorem SmR.copy {A T S O n k off c : Nat} {w : Nat → Nat} {s0 : Nat} {V W : World} (h : SmR A T S O n k off w s0 V W) (hk : off = 16 * k) (hc : c ≤ 16) :
    SmR A T S O n k (off + c) w s0 V (W.setRow O (bA n (spl (uptoC (maskF w s0 fun _ => 0) off) off c (enc w (be (s0 + k)))))) := by
  have l := h.lt
  have a := h.l1
  have b := h.l2
  have d := h.l3
  refine ⟨by rw [setRow_other _ _ _ _ (by omega)]; exact h.st, by rw [setRow_other _ _ _ _ (by omega)]; exact h.tb, by rw [setRow_other _ _ _ _ (by omega)]; exact h.ss, ?_, a, b, d, below4 h.bel (by omega) _⟩
  rw [setRow_heap _ _ _ _ _ _ h.oo]
  congr 3
  funext i
  unfold spl uptoC
  by_cases h1 : off ≤ i ∧ i < off + c
  · rw [if_pos h1, if_pos h1.2]
    unfold maskF
    rw [Nat.zero_xor, show i / 16 = k by omega, show i % 16 = i - off by omega]
  · rw [if_neg h1]
    by_cases h2 : i < off
    · rw [if_pos h2, if_pos (by omega)]
    · rw [if_neg h2, if_neg (by omega)]
theorem SmR.next {A T S O n k off : Nat} {w : Nat → Nat} {s0 : Nat} {V W : World} (h : SmR A T S O n k off w s0 V W) : SmR A T S O n (k + 1) off w s0 V (W.setRow (A + 1) (bA 16 (be (s0 + k + 1)))) := by
  have l := h.lt
  have a := h.l1
  have b := h.l2
  have d := h.l3
  exact ⟨setRow_heap _ _ _ _ _ _ h.st, by rw [setRow_other _ _ _ _ (by omega)]; exact h.tb, by rw [setRow_other _ _ _ _ (by omega)]; exact h.ss, by rw [setRow_other _ _ _ _ (by omega)]; exact h.oo, a, b, d, below4 h.bel (by omega) _⟩
def lenV (v : Value) : Nat := match v with | .slice _ m _ => m | _ => 0
theorem execMkN {o : Oper} {a : Act} {w : World} {n : Nat} {x y : Operand} (ho : o.op = .makeSlice 24 x y) (hx : a.eval x = .int .i64 (n : Int)) (hy : a.eval y = .int .i64 (n : Int)) (hn : n ≤ 281474976710656) :
    (execOp a.eval o).run Tryd.prog w = .ok (.value (.slice (some ⟨w.heap.size, 0, none⟩) n n)) (w.alloc (.cells (bA n (fun _ => 0)) 5)) := execMk ho hx hy (Nat.le_refl _) hn
/-- copy(rest, b[:]). -/
theorem execCopyS {o : Oper} {a : Act} {w : World} {x y : Operand} {O B off m n c : Nat} {f e : Nat → Nat} {t u : TypeId} (ho : o.op = .call { callee := .builtin .copy, args := #[x, y], argTypes := #[24, 24] })
    (hx : a.eval x = .slice (some ⟨O, off, none⟩) m m) (hy : a.eval y = .slice (some ⟨B, 0, none⟩) 16 16) (hO : w.heap[O]? = some (.cells (bA n f) t)) (hB : w.heap[B]? = some (.cells (bA 16 e) u)) (hc : Nat.min 16 m = c) (hm : off + m ≤ n) :
    (execOp a.eval o).run Tryd.prog w = .ok (.value (.int .i64 (c : Int))) (w.setRow O (bA n (spl f off c e))) := by
  have hc1 : c ≤ 16 := by rw [← hc]; exact Nat.min_le_left _ _
  have hc2 : c ≤ m := by rw [← hc]; exact Nat.min_le_right _ _
  have h := execCopyB (cs := bytesL c e) ho hx hy hO (by rw [bytesL_len, hc]) ?_ (by rw [bytesL_len, bA_size]; omega) (bytesL_one c e)
  · rw [bytesL_len, bA_splice n off c f e (by omega)] at h
    exact h
  · intro j v hj
    have hjc : j < c := by have := (List.getElem?_eq_some_iff.1 hj).1; rwa [bytesL_len] at this
    rw [bytesL_at c _ hjc] at hj
    rw [Addr.add_mid, Nat.zero_add, ← hj]
    exact cellN hB (by omega)
theorem sliced_on (O off c m : Nat) : sliced (some ⟨O, off, none⟩) c m m 1 = .slice (some ⟨O, if m = c then off else off + c, none⟩) (m - c) (m - c) := by
  unfold sliced
  by_cases h : m = c
  · rw [if_pos h, if_pos h]
  · rw [if_neg h, if_neg h]
    simp [Addr.add_mid]

set_option maxRecDepth 20000 in
set_option maxHeartbeats 2000000 in
theorem pstream_any (key : Nat → Nat) (s0 n : Nat) (V : World) (hk : By key) (hn : n ≤ 140737488351232) :
    Calls Tryd.prog 56 #[.agg (bA 16 key), .agg (bA 16 (be s0)), .int .i64 (n : Int)] V fun e w' => ∃ O, e = .returned (.slice (some ⟨O, 0, none⟩) n n) ∧ V.heap.size ≤ O ∧ w'.heap[O]? = some (.cells (bA n (maskF (kw key) s0 fun _ => 0)) 5) ∧ Below V.heap.size V w' := by
  have HK : Hid (By key) := hk
  have HN : Hid (n ≤ 140737488351232) := hn
  have HW : Hid (∀ j, j < 176 → kw key j < 256) := fun j _ => kw_lt hk j
  clear hk
  have z := zero29
  have nn : (n : Int) ≤ 140737488351232 := by omega
  go_enter Tryd.func56, Tryd.ntmps56
  have kt : S0T V.heap.size key s0 V ((V.alloc (.cells (bA 16 key) 33)).alloc (.cells (bA 16 (be s0)) 33)) := by
    have h := heap2c V (.cells (bA 16 key) 33) (.cells (bA 16 (be s0)) 33)
    exact ⟨h.1, h.2, below2c _ _ _⟩
  obtain ⟨T, lT, TS⟩ : ∃ T, V.heap.size + 1 < T ∧ Calls Tryd.prog 61 #[] ((V.alloc (.cells (bA 16 key) 33)).alloc (.cells (bA 16 (be s0)) 33)) fun e w' => e = .returned (.func (.func 69) #[] #[.pointer (some ⟨T, 0, none⟩)]) ∧ w'.heap[T]? = some (.cells (bA 256 gsub) 99) ∧ Below ((V.alloc (.cells (bA 16 key) 33)).alloc (.cells (bA 16 (be s0)) 33)).heap.size ((V.alloc (.cells (bA 16 key) 33)).alloc (.cells (bA 16 (be s0)) 33)) w' :=
    ⟨_, by simp, tableOfSub_any _⟩
  have LT : Hid (V.heap.size + 1 < T) := lT
  clear hn lT
  go_wp2_with (first
    | (go_at_call 61; refine TS.mono ?_; rintro e w1 ⟨rfl, gT, hb1⟩; have kt := kt.on hb1)
    | (refine atLoad 33 (.tmp 3) rfl ?_; go_must (refine wpList_load_row rfl 33 (.tmp 3) rfl V.heap.size rfl 33 _ (0, 0) _ kt.k Tryd.underlying33 rfl (size16 _) ?_; simp only [Act.put, List.setIfInBounds_toArray, List.set_cons_succ, List.set_cons_zero]))
    | (go_at_call 62; refine (scheduled_any 69 #[.pointer (some ⟨T, 0, none⟩)] key _ (fn_table T _ gT) HK.out).mono ?_; rintro e w2 ⟨rfl, hb2⟩)
    | (refine atStore 92 (.tmp 8) (.tmp 15) rfl ?_; go_must (refine wpList_store_row rfl 92 (.tmp 8) (.tmp 15) rfl w2.heap.size _ rfl rfl 92 _ (heapNew w2 _) (size29 _) (by rw [bA_size, bA_size]) (bA_one _ _) ?_))
    | (refine wpList_ex rfl (execMkN (n := n) rfl rfl rfl (by have := HN.out; omega)) ?_))
  have k2 := kt.on hb2
  have l2 : T < w2.heap.size := Nat.lt_of_lt_of_le (Array.getElem?_eq_some_iff.1 gT).1 hb2.size
  have g2 : w2.heap[T]? = some (.cells (bA 256 gsub) 99) := by rw [hb2.block _ (Array.getElem?_eq_some_iff.1 gT).1]; exact gT
  obtain ⟨A, hA⟩ : ∃ A, A = V.heap.size := ⟨_, rfl⟩
  obtain ⟨S, hS⟩ : ∃ S, S = w2.heap.size := ⟨_, rfl⟩
  obtain ⟨W0, hW⟩ : ∃ W0, W0 = (((w2.alloc (.cells (bA 176 fun _ => 0) 92)).setRow w2.heap.size (bA 176 (kw key))).alloc (.cells (bA n fun _ => 0) 5)) := ⟨_, rfl⟩
  have KT : Hid (SmR A T S (S + 1) n 0 0 (kw key) s0 V W0) := by
    have e1 : ((w2.alloc (.cells (bA 176 fun _ => 0) 92)).setRow w2.heap.size (bA 176 (kw key))).heap.size = S + 1 := by simp [hS]
    have lA : A + 1 < T := by rw [hA]; exact LT.out
    have p : ∀ j, j < S → W0.heap[j]? = w2.heap[j]? := by
      intro j hj
      rw [hW]
      rw [((belNew ((w2.alloc (.cells (bA 176 fun _ => 0) 92)).setRow w2.heap.size (bA 176 (kw key))) (.cells (bA n fun _ => 0) 5)).block j (by omega)), setRow_other _ _ _ _ (by omega), (belNew w2 _).block j (by omega)]
    refine ⟨?_, ?_, ?_, ?_, lA, by omega, by omega, ?_⟩
    · rw [p _ (by omega), hA]; exact k2.s
    · rw [p _ (by omega)]; exact g2
    · rw [hW, (belNew _ _).block S (by omega), hS]; exact setRow_heap _ _ _ _ _ _ (heapNew w2 _)
    · rw [hW, ← e1]; exact heapNew _ _
    · rw [hW, hA]
      have b1 : Below V.heap.size V ((w2.alloc (.cells (bA 176 fun _ => 0) 92)).setRow w2.heap.size (bA 176 (kw key))) := below4 (k2.bel.trans ((belNew w2 _).mono (by omega))) (by omega) _
      exact b1.trans ((belNew _ _).mono b1.size)
  rw [← hW, ← hS, ← hA]
  have VA : Hid (V.heap.size = A) := hA.symm
  clear hW hS hA k2 l2 g2 hb2 hb1 kt gT TS z LT
  obtain ⟨O, hO⟩ : ∃ O, O = S + 1 := ⟨_, rfl⟩
  rw [← hO] at KT ⊢
  clear hO
  go_loopw [10] (fun x W => ∃ k off m o', off + m = n ∧ (0 < m → off = 16 * k ∧ o' = off) ∧ x = .slice (some ⟨O, o', none⟩) m m ∧ SmR A T S O n k off (kw key) s0 V W) (fun x _ => lenV x)
  case atStart => exact ⟨0, 0, n, 0, by omega, fun _ => ⟨rfl, rfl⟩, rfl, KT.out⟩
  case round =>
    obtain ⟨k, off, m, o', hm, ho, rfl, kt⟩ := hrel
    clear KT
    by_cases h0 : 0 < m
    · obtain ⟨ok, oo⟩ := ho h0
      subst oo
      have i1 : (m : Int) > 0 := by omega
      have HM : Hid (o' + m = n ∧ o' = 16 * k ∧ 0 < m ∧ n ≤ 140737488351232) := ⟨hm, ok, h0, HN.out⟩
      obtain ⟨c, hc⟩ : ∃ c, Nat.min 16 m = c := ⟨_, rfl⟩
      have hc2 : min 16 m = c := hc
      have HC : Hid (Nat.min 16 m = c ∧ c ≤ 16 ∧ c ≤ m ∧ 0 < c) := ⟨hc, by omega, by omega, by omega⟩
      obtain ⟨o2, ho2⟩ : ∃ o2, (if m = c then o' else o' + c) = o2 := ⟨_, rfl⟩
      obtain ⟨m2, hm2⟩ : ∃ m2, m - c = m2 := ⟨_, rfl⟩
      have HO : Hid ((if m = c then o' else o' + c) = o2 ∧ m - c = m2) := ⟨ho2, hm2⟩
      have z := zero16
      clear hm ok h0 hc hc2 ho ho2 hm2
      have EN := fun W (h : Below wr.heap.size wr W) => encrypted_any 69 #[.pointer (some ⟨T, 0, none⟩)] (kw key) (be (s0 + k)) W (fn_table T W (kt.on h).tb) HW.out (be_by _)
      go_wp2_with (first
        | (refine atLoad 92 (.tmp 8) rfl ?_; go_must (refine wpList_load_row rfl 92 (.tmp 8) rfl S rfl 92 _ (0, 0) _ kt.ss Tryd.underlying92 rfl (size29 _) ?_; simp only [Act.put, List.setIfInBounds_toArray, List.set_cons_succ, List.set_cons_zero]))
        | (refine atLoad 33 (.tmp 4) rfl ?_; go_must (refine wpList_load_row rfl 33 (.tmp 4) rfl (A + 1) rfl 33 _ (0, 0) _ kt.st Tryd.underlying33 rfl (size16 _) ?_; simp only [Act.put, List.setIfInBounds_toArray, List.set_cons_succ, List.set_cons_zero]))
        | (go_at_call 64; refine (EN _ (Below.refl _ _)).mono ?_; rintro e w3 ⟨rfl, hb3⟩; have kt := kt.on hb3)
        | (refine atStore 33 (.tmp 11) (.tmp 27) rfl ?_; go_must (refine wpList_store_row rfl 33 (.tmp 11) (.tmp 27) rfl w3.heap.size _ rfl rfl 33 _ (heapNew w3 _) (size16 _) rfl (bA_one _ _) ?_; have gB : ((w3.alloc (.cells (bA 16 fun _ => 0) 33)).setRow w3.heap.size (bA 16 (enc (kw key) (be (s0 + k))))).heap[w3.heap.size]? = some (.cells (bA 16 (enc (kw key) (be (s0 + k)))) 33) := setRow_heap _ _ _ _ _ _ (heapNew w3 _); have kt := (kt.on (belNew w3 (.cells (bA 16 fun _ => 0) 33))).row kt.lt (bA 16 (enc (kw key) (be (s0 + k))))))
        | (refine wpList_ex rfl (execSlice rfl rfl (sliceArr16 w3.heap.size _)) ?_)
        | (refine wpList_ex rfl (execCopyS (c := c) rfl rfl rfl kt.oo gB HC.out.1 (by have := HM.out; omega)) ?_; have kt := kt.copy (c := c) HM.out.2.1 HC.out.2.1)
        | (refine wpList_ex rfl (execSlL rfl rfl rfl (By8.slice_l _ m m c HC.out.2.2.1 _)) ?_; rw [sliced_on, HO.out.1, HO.out.2])
        | (go_at_call 63; refine (following_any (s0 + k) _).mono ?_; rintro e w4 ⟨rfl, hb4⟩; have kt := kt.on hb4)
        | (refine atStore 33 (.tmp 4) (.tmp 23) rfl ?_; go_must (refine wpList_store_row rfl 33 (.tmp 4) (.tmp 23) rfl (A + 1) _ rfl rfl 33 _ kt.st (size16 _) rfl (bA_one _ _) ?_; have kt := kt.next)))
      go_roundw
      case rel =>
        have a := HM.out
        have b := HC.out
        have d : min 16 m = c := b.1
        have f := HO.out
        refine ⟨_, _, _, _, _, _, _, _, _, _, _, _, _, _, _, _, ⟨k + 1, o' + c, m2, o2, by omega, fun h => ⟨by omega, ?_⟩, rfl, kt⟩, rfl⟩
        rw [← f.1, if_neg (by omega)]
      case measure =>
        have b := HC.out
        have f := HO.out
        show m2 < m
        omega
    · have em : m = 0 := by omega
      subst em
      have eo : off = n := by omega
      subst eo
      have G : Hid (wr.heap[O]? = some (.cells (bA off (maskF (kw key) s0 fun _ => 0)) 5)) := by
        have h := kt.oo
        rw [bA_congr (g := maskF (kw key) s0 fun _ => 0) (fun j hj => by unfold uptoC; rw [if_pos hj])] at h
        exact h
      go_wp2
      go_ret
      refine ⟨O, rfl, ?_, G.out, by rw [VA.out]; exact kt.bel⟩
      have := kt.l1
      have := kt.l2
      have := kt.l3
      rw [VA.out]
      omega
end Go.Proofs.YtaiiomoajjhliaaDoor.Aes
