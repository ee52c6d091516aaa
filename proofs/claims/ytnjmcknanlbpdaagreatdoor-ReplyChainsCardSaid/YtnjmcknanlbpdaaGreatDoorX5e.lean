import Derived.Test.YtnjmcknanlbpdaaGreatDoorX5c
import Derived.Test.YtnjmcknanlbpdaaGreatDoorC6
import Derived.Test.YtnjmcknanlbpdaaGreatDoorZ2
import Derived.Test.YtnjmcknanlbpdaaGreatDoorX7f
import Derived.Deep.RegionWith
namespace Go.Proofs.YtnjmcknanlbpdaaGreatDoor.Oni
open Go.RowKit Gf8 Aes By8 Cel
/- Operations that layer 7 needs; mac's contracts in Nat. -/

theorem toB {W : World} {v : Value} {l : Nat} {p : Nat → Nat} (h : SliceN W v l p) : SliceB W v l (ci p) :=
  ⟨h.shape, fun j hj => by have := h.bytes j hj; unfold ci; omega⟩
theorem tab_ci (n : Nat) (p : Nat → Nat) : tab8 n (ci p) = bA n p := rfl
theorem vals_ci (n : Nat) (p : Nat → Nat) : vals (firstL (ci p) n) = bytesL n p := by
  unfold vals firstL bytesL ci
  rw [List.map_map]
  rfl
theorem size80 (f : Nat → Nat) : (Tryz.prog.info? 64).map (·.size) = some (bA 80 f).size := by rw [bA_size]; kernel_rfl
theorem size32 (f : Nat → Nat) : (Tryz.prog.info? 57).map (·.size) = some (bA 32 f).size := by rw [bA_size]; kernel_rfl
theorem zeroK : ∀ w, (zeroValue 64).run Tryz.prog w = .ok (.agg (bA 80 fun _ => 0)) w :=
  (zero_of_info (n := 80) (by kernel_rfl)).1
theorem zero32 : ∀ w, (zeroValue 57).run Tryz.prog w = .ok (.agg (bA 32 fun _ => 0)) w :=
  (zero_of_info (n := 32) (by kernel_rfl)).1
theorem sl16 (b : Nat) (W : World) : (Instr.sliceAt 23 (.pointer (some ⟨b, 0, none⟩)) none none none).run Tryz.prog W = .ok (.slice (some ⟨b, 0, none⟩) 16 16) W := by
  simp [Instr.sliceAt, Instr.sureAddr, run_underlying Tryz.underlying23, Instr.sliceBounds, go_sem]
theorem sl32 (b : Nat) (W : World) : (Instr.sliceAt 57 (.pointer (some ⟨b, 0, none⟩)) none none none).run Tryz.prog W = .ok (.slice (some ⟨b, 0, none⟩) 32 32) W := by
  simp [Instr.sliceAt, Instr.sureAddr, run_underlying Tryz.underlying57, Instr.sliceBounds, go_sem]
theorem sl32h (b : Nat) (W : World) : (Instr.sliceAt 57 (.pointer (some ⟨b, 0, none⟩)) none (some (.int .i64 16)) none).run Tryz.prog W = .ok (.slice (some ⟨b, 0, none⟩) 16 32) W := by
  simp [Instr.sliceAt, Instr.sureAddr, run_underlying Tryz.underlying57, Instr.sliceBounds, run_sliceBound, go_sem]
/-- arrays of 16 and 32 bytes that stand in a row of keys -/
theorem slK (b o : Nat) (W : World) : (Instr.sliceAt 23 (.pointer (some ⟨b, o, none⟩)) none none none).run Tryz.prog W = .ok (.slice (some ⟨b, o, none⟩) 16 16) W := by
  simp [Instr.sliceAt, Instr.sureAddr, run_underlying Tryz.underlying23, Instr.sliceBounds, go_sem]
theorem slK2 (b o : Nat) (W : World) : (Instr.sliceAt 57 (.pointer (some ⟨b, o, none⟩)) none none none).run Tryz.prog W = .ok (.slice (some ⟨b, o, none⟩) 32 32) W := by
  simp [Instr.sliceAt, Instr.sureAddr, run_underlying Tryz.underlying57, Instr.sliceBounds, go_sem]
section
variable {o : Oper} {a : Act} {w : World}
theorem execStAll {P : Program} {ty : TypeId} {x y : Operand} {g : Nat} {cells cur : Array Value} {t : TypeId} (ho : o.op = .store ty x y) (hx : a.eval x = .pointer (some ⟨g, 0, none⟩)) (hy : a.eval y = .agg cells) (hg : w.heap[g]? = some (.cells cur t)) (hs : cur.size = cells.size) (hi : (P.info? ty).map (·.size) = some cells.size) (h1 : cells.all (·.oneCell') = true) :
    (execOp a.eval o).run P w = .ok .skip (w.setRow g cells) := by
  have h := execStMid (P := P) ho hx hy hg (by omega) hi h1
  have e : (cur.toList.take 0 ++ cells.toList ++ cur.toList.drop (0 + cells.size)).toArray = cells := by
    rw [List.take_zero, List.nil_append, Nat.zero_add, List.drop_of_length_le (by rw [Array.length_toList, hs]; exact Nat.le_refl _), List.append_nil]
  rw [e] at h
  exact h
theorem execLdAll {P : Program} {ty : TypeId} {x : Operand} {g : Nat} {cells : Array Value} {t : TypeId} {fr : Nat × Nat} {d : TypeDesc} (ho : o.op = .load ty x) (hx : a.eval x = .pointer (some ⟨g, 0, none⟩)) (hg : w.heap[g]? = some (.cells cells t fr)) (hu : P.underlying ty = some d) (hd : d.isRow = true) (hi : (P.info? ty).map (·.size) = some cells.size) :
    (execOp a.eval o).run P w = .ok (.value (.agg cells)) w := by
  have h := Aes.execLoadMid (P := P) (w := w) (cs := cells.toList) ho hx (fun j v hj => by rw [cell_of_row _ _ _ _ _ _ hg, Nat.zero_add, ← Array.getElem?_toList]; exact hj) hu hd (by rw [hi, Array.length_toList])
  exact h
/-- k bytes out of a row of N. -/
theorem execLdPart {P : Program} {ty : TypeId} {x : Operand} {g f k N : Nat} {q : Nat → Nat} {t : TypeId} {fr : Nat × Nat} {d : TypeDesc} (ho : o.op = .load ty x) (hx : a.eval x = .pointer (some ⟨g, f, none⟩)) (hg : w.heap[g]? = some (.cells (bA N q) t fr)) (hN : f + k ≤ N) (hu : P.underlying ty = some d) (hd : d.isRow = true) (hi : (P.info? ty).map (·.size) = some k) :
    (execOp a.eval o).run P w = .ok (.value (.agg (bA k fun j => q (f + j)))) w := by
  refine Aes.execLoadMid (P := P) (cs := bytesL k fun j => q (f + j)) ho hx ?_ hu hd (by rw [bytesL_len]; exact hi)
  intro j v hj
  have hk : j < k := by have := (List.getElem?_eq_some_iff.1 hj).1; rwa [bytesL_len] at this
  rw [bytesL_at k _ hk] at hj
  rw [← hj, cell_of_row _ _ _ _ _ _ hg]
  exact bA_at N q (by omega)
/-- k bytes out of a list. -/
theorem execLdList {P : Program} {ty : TypeId} {x : Operand} {g f k : Nat} {q : Nat → Nat} {d : TypeDesc} (ho : o.op = .load ty x) (hx : a.eval x = .pointer (some ⟨g, f, none⟩)) (hg : ∀ j, j < k → w.cell? ⟨g, f + j, none⟩ = some (.int .u8 (q j))) (hu : P.underlying ty = some d) (hd : d.isRow = true) (hi : (P.info? ty).map (·.size) = some k) :
    (execOp a.eval o).run P w = .ok (.value (.agg (bA k q))) w := by
  refine Aes.execLoadMid (P := P) (cs := bytesL k q) ho hx ?_ hu hd (by rw [bytesL_len]; exact hi)
  intro j v hj
  have hk : j < k := by have := (List.getElem?_eq_some_iff.1 hj).1; rwa [bytesL_len] at this
  rw [bytesL_at k _ hk] at hj
  rw [← hj]
  exact hg j hk
theorem execB16 (ho : o.op = .build 23 #[]) : (execOp a.eval o).run Tryz.prog w = .ok (.value (.agg (bA 16 fun _ => 0))) w := by
  have h := zero16
  unfold execOp
  simp only [ho]
  simp [go_sem, h]
theorem execBK (ho : o.op = .build 64 #[]) : (execOp a.eval o).run Tryz.prog w = .ok (.value (.agg (bA 80 fun _ => 0))) w := by
  have h := zeroK
  unfold execOp
  simp only [ho]
  simp [go_sem, h]
theorem execAl16 (ho : o.op = .alloc 23) : (execOp a.eval o).run Tryz.prog w = .ok (.value (.pointer (some ⟨w.heap.size, 0, none⟩))) (w.alloc (.cells (bA 16 fun _ => 0) 23)) := by
  have h := zero16
  unfold execOp
  simp only [ho]
  simp [go_sem, h]
theorem execArr16 {x : Operand} {ad : Option Addr} {n c : Nat} (ho : o.op = .sliceToArrayPointer 23 x) (hx : a.eval x = .slice ad n c) (hn : 16 ≤ n) : (execOp a.eval o).run Tryz.prog w = .ok (.value (.pointer ad)) w := by
  have e : ¬ n < 16 := by omega
  unfold execOp
  simp only [ho, hx]
  simp [Instr.arrayAt, run_underlying Tryz.underlying23, e]
/-- byte(x) of an int. -/
theorem execU8 {x : Operand} {n : Nat} (ho : o.op = .convert 3 5 x) (hx : a.eval x = .int .i64 (n : Int)) : (execOp a.eval o).run Tryz.prog w = .ok (.value (.int .u8 ((n % 256 : Nat) : Int))) w := by
  unfold execOp
  simp only [ho, hx]
  simp [go_sem, IntKind.wrap, show IntKind.u8.signed = false from rfl]
theorem execU8s {x : Operand} {n : Nat} (ho : o.op = .convert 3 5 x) (hx : a.eval x = .int .i64 (n : Int)) (hn : n < 256) : (execOp a.eval o).run Tryz.prog w = .ok (.value (.int .u8 (n : Int))) w := by
  have h := execU8 (w := w) ho hx
  rw [Nat.mod_eq_of_lt hn] at h
  exact h
/-- append of a list that is not nil to a row of one's own. -/
theorem execAppS {W : World} {B n m : Nat} {v u : Value} {p : Nat → Nat} {s x : Operand}
    (ho : o.op = .call { callee := .builtin .append, args := #[s, x], argTypes := #[22, 22] })
    (hs : a.eval s = v) (hx : a.eval x = u) (hown : W.ownsRow B 5 1 v n (bytesL n p)) (hu : SliceN W u m (fun j => p (n + j))) (h0 : 0 < m)
    (hbig : n + m ≤ 200000000000000) (hB : B ≤ W.heap.size) :
    ∃ v' W', (execOp a.eval o).run Tryz.prog W = .ok (.value v') W' ∧ W'.ownsRow B 5 1 v' (n + m) (bytesL (n + m) p) ∧ ((v'.ownBlock = v.ownBlock ∧ W.grownBy W' v.ownBlock) ∨ (v'.ownBlock = some W.heap.size ∧ W.grownBy W' none)) := by
  obtain ⟨i, h1, h2, h3, h4⟩ := info5
  obtain ⟨⟨ao, cap, rfl, _, _, hc⟩, _⟩ := hu
  obtain ⟨b, off, rfl, _, e3⟩ := hc h0
  obtain ⟨v', w', hr, q1, q2⟩ := run_append_ownP (P := Tryz.prog) W B 22 o.type 5 i (.int .u8 0) Tryz.underlying22 h1 h2 h3 h4 rfl v n (bytesL n p) hown ⟨b, off, none⟩ m cap (bytesL m fun j => p (n + j)) (bytesL_len _ _) (by
      intro j z hz
      have hj : j < m := by have := (List.getElem?_eq_some_iff.1 hz).1; rw [bytesL_len] at this; exact this
      rw [Go.WideShapes.add_plain, e3 j hj]
      rw [bytesL_at m _ hj] at hz
      exact hz) (by
      intro z hz
      unfold bytesL at hz
      obtain ⟨k, _, rfl⟩ := List.mem_map.1 hz
      rfl) hbig hB
  rw [bytesL_app] at q1
  refine ⟨v', w', ?_, q1, q2⟩
  unfold execOp
  simp only [ho, resolve, invoke, builtin, Sem.run_bind, Sem.run_pure, Result.andThen_ok, List.map_toArray, List.map_cons, List.map_nil, hs, hx, hr]
end
theorem results_cell_tmp1 {P : Program} {fn : Func} {p u : Tmp} {ty : TypeId} (h : fn.results = #[.cell p ty, .tmp u]) (tmps : Array Value) (w : World) (g : Nat) (t : TypeId) (cs : Array Value) (fr : Nat × Nat) (d : TypeDesc)
    (hp : tmps.getD p undef = .pointer (some ⟨g, 0, none⟩)) (hg : w.heap[g]? = some (.cells cs t fr))
    (hu : P.underlying ty = some d) (hd : (match d with | .struct _ | .array _ _ => true | _ => false) = true) (hi : (P.info? ty).map (·.size) = some cs.size) :
    (results fn tmps).run P w = .ok (.tuple #[.agg cs, tmps.getD u undef]) w := by
  have hp' : tmps[p]?.getD undef = .pointer (some ⟨g, 0, none⟩) := by simpa using hp
  simp [results, h, hp', asAddr, run_loadVar_row w g t ty cs fr d hg hu hd hi]
theorem results_cell {P : Program} {fn : Func} {p : Tmp} {ty : TypeId} (h : fn.results = #[.cell p ty]) (tmps : Array Value) (w : World) (g : Nat) (t : TypeId) (cs : Array Value) (fr : Nat × Nat) (d : TypeDesc)
    (hp : tmps.getD p undef = .pointer (some ⟨g, 0, none⟩)) (hg : w.heap[g]? = some (.cells cs t fr))
    (hu : P.underlying ty = some d) (hd : (match d with | .struct _ | .array _ _ => true | _ => false) = true) (hi : (P.info? ty).map (·.size) = some cs.size) :
    (results fn tmps).run P w = .ok (.agg cs) w := by
  have hp' : tmps[p]?.getD undef = .pointer (some ⟨g, 0, none⟩) := by simpa using hp
  simp [results, h, hp', asAddr, run_loadVar_row w g t ty cs fr d hg hu hd hi]
/-- A row of bytes as a list. -/
theorem row_slice {W : World} {b N : Nat} {f : Nat → Nat} {t : TypeId} {fr : Nat × Nat} (hg : W.heap[b]? = some (.cells (bA N f) t fr)) (hf : ∀ j, j < N → f j < 256) (hN : N ≤ 1000) : SliceN W (.slice (some ⟨b, 0, none⟩) N N) N f := by
  refine ⟨⟨_, _, rfl, Nat.le_refl _, by omega, fun _ => ⟨b, 0, rfl, (Array.getElem?_eq_some_iff.1 hg).1, fun j hj => ?_⟩⟩, hf⟩
  rw [cell_of_row _ _ _ _ _ _ hg, Nat.zero_add]
  exact bA_at N f hj
/-- A list whose bytes lie elsewhere, by its cells. -/
theorem lit_slice {W : World} {b N : Nat} {C : Array Value} {f : Nat → Nat} {t : TypeId} {fr : Nat × Nat} (hg : W.heap[b]? = some (.cells C t fr)) (hC : ∀ j, j < N → C[j]? = some (.int .u8 (f j))) (hf : ∀ j, j < N → f j < 256) (hN : N ≤ 1000) : SliceN W (.slice (some ⟨b, 0, none⟩) N N) N f := by
  refine ⟨⟨_, _, rfl, Nat.le_refl _, by omega, fun _ => ⟨b, 0, rfl, (Array.getElem?_eq_some_iff.1 hg).1, fun j hj => ?_⟩⟩, hf⟩
  rw [cell_of_row _ _ _ _ _ _ hg, Nat.zero_add]
  exact hC j hj
theorem ptag_any (vk vm : Value) (lm : Nat) (key m : Nat → Nat) (w : World) (hG : Glob w) (hm : lm ≤ 140737488351232) (h1 : SliceN w vk 32 key) (h2 : SliceN w vm lm m) :
    Calls Tryz.prog 52 #[vk, vm] w fun e w' => e = .returned (.agg (bA 32 (hfF key m lm))) ∧ Below w.heap.size w w' := by
  refine (mtag_any vk vm 32 lm (ci key) (ci m) w hG (by omega) (by omega) (toB h1) (toB h2)).mono ?_
  rintro e w' ⟨rfl, hb⟩
  exact ⟨by rw [← hfF_ci, tab_ci], hb⟩
theorem pderive_any (vs vt vi : Value) (key nonce : Nat → Nat) (w : World) (hG : Glob w) (h0 : SliceN w vs 32 key) (h1 : SliceN w vt 16 nonce) (h2 : SliceN w vi 5 chF) :
    Calls Tryz.prog 16 #[vs, vt, vi, .int .i64 80] w fun e w' => ∃ v', e = .returned (.tuple #[v', .int .i64 0]) ∧ w'.ownsRow w.heap.size 5 1 v' 80 (bytesL 80 (dk key nonce)) ∧ Below w.heap.size w w' := by
  refine (mderive_any vs vt vi 32 16 5 (ci key) (ci nonce) (ci chF) 80 w hG (by omega) (by omega) (by omega) (toB h0) (toB h1) (toB h2)).mono ?_
  rintro e w' ⟨v', rfl, own, hb⟩
  rw [show expN 80 = 80 from rfl, ← dk_ci, vals_ci] at own
  exact ⟨v', rfl, own, hb⟩
theorem chF_lt (j : Nat) (h : j < 5) : chF j < 256 := by
  have : ∀ i : Fin 5, chF i.val < 256 := by decide
  exact this ⟨j, h⟩
end Go.Proofs.YtnjmcknanlbpdaaGreatDoor.Oni

namespace Go.Proofs.YtnjmcknanlbpdaaGreatDoor.Oni
open Go.RowKit Gf8 Aes By8 Cel
/- Layer 7's small functions. -/

set_option maxRecDepth 20000 in
theorem psize_any (left : Int) (V : World) : Calls Tryz.prog 35 #[.int .i64 left] V fun e w' => e = .returned (.int .i64 (sz left : Nat)) ∧ w' = V := by
  by_cases h1 : left < 1
  · rw [show sz left = 0 from if_neg (by omega)]
    go_enter Tryz.func35, Tryz.ntmps35
    go_wp2
    go_ret
    exact ⟨rfl, rfl⟩
  · by_cases h2 : left > 8
    · rw [show sz left = 0 from if_neg (by omega)]
      go_enter Tryz.func35, Tryz.ntmps35
      go_wp2
      go_ret
      exact ⟨rfl, rfl⟩
    · have e : ((sz left : Nat) : Int) = 48 + 34 * left := by unfold sz; rw [if_pos (by omega)]; omega
      rw [e]
      go_enter Tryz.func35, Tryz.ntmps35
      go_wp2
      go_ret
      exact ⟨rfl, rfl⟩
set_option maxRecDepth 20000 in
theorem proom_any (left : Int) (V : World) : Calls Tryz.prog 36 #[.int .i64 left] V fun e w' => e = .returned (.int .i64 ((sz left : Int) - 34)) ∧ w' = V := by
  have l1 : ((sz left : Nat) : Int) ≤ 320 := by have := sz_le left; omega
  go_enter Tryz.func36, Tryz.ntmps36
  go_wp2_with (go_at_call 35; refine (psize_any left V).mono ?_; rintro e w1 ⟨rfl, hw1⟩; subst hw1)
  go_ret
  exact ⟨rfl, rfl⟩
theorem be0 : bA 16 (fun _ => 0) = bA 16 (be 0) := bA_congr fun j _ => by unfold be; rw [Nat.zero_div, Nat.zero_mod]
set_option maxRecDepth 20000 in
theorem masked_any (d p : Nat → Nat) (len : Nat) (v : Value) (V : World) (hd : ∀ j, d j < 256) (hv : SliceN V v len p) (hl : len ≤ 140737488351232) :
    Calls Tryz.prog 37 #[.agg (bA 80 d), v] V fun e w' => ∃ r, e = .returned r ∧ w'.ownsRow V.heap.size 5 1 r len (bytesL len (bxF d p)) ∧ Below V.heap.size V w' := by
  have r1 := heapNew V (.cells (bA 80 d) 64)
  have b1 := belNew V (.cells (bA 80 d) 64)
  have C : Hid (Calls Tryz.prog 55 #[.agg (bA 16 fun j => d (0 + j)), .agg (bA 16 fun _ => 0), v] (V.alloc (.cells (bA 80 d) 64)) fun e w' => ∃ r, e = .returned r ∧ w'.ownsRow V.heap.size 5 1 r len (bytesL len (bxF d p)) ∧ Below V.heap.size V w') := by
    have e1 : (fun j => d (0 + j)) = d := by funext j; rw [Nat.zero_add]
    show Calls _ _ _ _ _
    rw [be0, e1]
    refine (pMask_any d p 0 len v _ (fun j _ => hd j) (hv.on b1) hl).mono ?_
    rintro e w' ⟨r, rfl, own, hb⟩
    exact ⟨r, rfl, own_base own b1.size, b1.trans (hb.mono b1.size)⟩
  have R1 : Hid (_) := r1
  clear r1 b1 hd hv hl
  go_enter Tryz.func37, Tryz.ntmps37
  go_wp2_with (first
    | (refine atLoad 23 (.tmp 5) rfl ?_; go_must (refine wpList_ex rfl (execLdPart (k := 16) rfl rfl R1.out (by omega) Tryz.underlying23 rfl (by kernel_rfl)) ?_))
    | (refine wpList_ex rfl (execB16 rfl) ?_)
    | (go_at_call 55; refine C.out.mono ?_; rintro e w1 ⟨r, rfl, own, hb1⟩))
  go_ret
  exact ⟨r, rfl, own, hb1⟩
set_option maxRecDepth 20000 in
theorem shortTag_any (key m : Nat → Nat) (lm : Nat) (v : Value) (V : World) (hG : Glob V) (hk : ∀ j, j < 32 → key j < 256) (hv : SliceN V v lm m) (hl : lm ≤ 140737488351232) :
    Calls Tryz.prog 56 #[.agg (bA 32 key), v] V fun e w' => e = .returned (.agg (bA 16 (hfF key m lm))) ∧ Below V.heap.size V w' := by
  obtain ⟨V2, hV2⟩ : ∃ V2, (V.alloc (.cells (bA 32 key) 57)).alloc (.cells (bA 16 fun _ => 0) 23) = V2 := ⟨_, rfl⟩
  have hh := heap2c V (.cells (bA 32 key) 57) (.cells (bA 16 fun _ => 0) 23)
  have bl := below2c V (.cells (bA 32 key) 57) (.cells (bA 16 fun _ => 0) 23)
  rw [hV2] at hh bl
  have s2 : V2.heap.size = V.heap.size + 2 := by rw [← hV2]; simp
  have C := ptag_any (.slice (some ⟨V.heap.size, 0, none⟩) 32 32) v lm key m V2 (hG.below bl hG.sz) hl (row_slice hh.1 hk (by omega)) (hv.on bl)
  have HH : Hid (_ ∧ _) := hh
  have BL : Hid (Below V.heap.size V V2 ∧ V2.heap.size = V.heap.size + 2) := ⟨bl, s2⟩
  have z16 := zero16
  have z32 := zero32
  have s32 := sl32
  have s32h := sl32h
  clear hG hk hv hl hh bl s2
  go_enter Tryz.func56, Tryz.ntmps56
  go_wp2_with (first
    | (go_at_call 52; refine C.mono ?_; rintro e w1 ⟨rfl, hb1⟩; have R0 : Hid (w1.heap[V.heap.size + 1]? = some (.cells (bA 16 fun _ => 0) 23)) := (by rw [hb1.block _ (by have := BL.out.2; omega)]; exact HH.out.2); have B1 : Hid (Below V.heap.size V w1 ∧ V.heap.size + 2 ≤ w1.heap.size) := ⟨BL.out.1.trans (hb1.mono BL.out.1.size), by have := hb1.size; have := BL.out.2; omega⟩; clear hb1)
    | (refine atStore 57 (.tmp 5) (.tmp 8) rfl ?_; go_must (refine wpList_exS rfl (execStAll (cells := bA 32 (hfF key m lm)) rfl rfl rfl (heapNew w1 _) (by rw [bA_size, bA_size]) (size32 _) (bA_one _ _)) ?_; obtain ⟨W3, hW3⟩ : ∃ W3, (w1.alloc (.cells (bA 32 fun _ => 0) 57)).setRow w1.heap.size (bA 32 (hfF key m lm)) = W3 := ⟨_, rfl⟩; have R3 : Hid (W3.heap[w1.heap.size]? = some (.cells (bA 32 (hfF key m lm)) 57)) := (by rw [← hW3]; exact setRow_heap _ _ _ _ _ _ (heapNew w1 _)); have b3 : Below w1.heap.size w1 W3 := (by rw [← hW3]; exact below4 (belNew w1 _) (Nat.le_refl _) _); have R4 : Hid (W3.heap[V.heap.size + 1]? = some (.cells (bA 16 fun _ => 0) 23)) := (by rw [b3.block _ (by have := B1.out.2; omega)]; exact R0.out); have B3 : Hid (Below V.heap.size V W3) := B1.out.1.trans (b3.mono B1.out.1.size); rw [hW3]; clear b3 hW3))
    | (refine wpList_ex rfl (execArr16 rfl rfl (by omega)) ?_)
    | (refine atLoad 23 (.tmp 10) rfl ?_; go_must (refine wpList_ex rfl (execLdPart (k := 16) rfl rfl R3.out (by omega) Tryz.underlying23 rfl (by kernel_rfl)) ?_))
    | (refine atStore 23 (.tmp 4) (.tmp 11) rfl ?_; go_must (refine wpList_exS rfl (execStAll (cells := bA 16 fun j => hfF key m lm (0 + j)) rfl rfl rfl R4.out (by rw [bA_size, bA_size]) (size16 _) (bA_one _ _)) ?_)))
  refine bodyPost_ret (results_cell Tryz.results56 _ _ (V.heap.size + 1) 23 _ (0, 0) _ rfl (setRow_heap _ _ _ _ _ _ R4.out) Tryz.underlying23 rfl (size16 _)) rfl ⟨?_, below4 B3.out (by omega) _⟩
  rw [show (fun j => hfF key m lm (0 + j)) = hfF key m lm from by funext j; rw [Nat.zero_add]]
end Go.Proofs.YtnjmcknanlbpdaaGreatDoor.Oni
