import Derived.Test.YteekoabgbjbabaaGreatDoorX5c
import Derived.Test.YteekoabgbjbabaaGreatDoorC6
import Derived.Test.YteekoabgbjbabaaGreatDoorZ2
import Derived.Test.YteekoabgbjbabaaGreatDoorX7f
import Derived.Deep.RegionWith
namespace Go.Proofs.YteekoabgbjbabaaGreatDoor.Oni
open Go.RowKit Gf8 Aes By8 Cel
/- Operations that layer 7 needs; mac's contracts in Nat. -/

theorem toB {W : World} {v : Value} {l : Nat} {p : Nat → Nat} (h : SliceN W v l p) : SliceB W v l (ci p) :=
  ⟨h.shape, fun j hj => by have := h.bytes j hj; unfold ci; omega⟩
theorem tab_ci (n : Nat) (p : Nat → Nat) : tab8 n (ci p) = bA n p := rfl
theorem vals_ci (n : Nat) (p : Nat → Nat) : vals (firstL (ci p) n) = bytesL n p := by
  unfold vals firstL bytesL ci
  rw [List.map_map]
  rfl
theorem size80 (f : Nat → Nat) : (Tryz.prog.info? 58).map (·.size) = some (bA 80 f).size := by rw [bA_size]; kernel_rfl
theorem size32 (f : Nat → Nat) : (Tryz.prog.info? 54).map (·.size) = some (bA 32 f).size := by rw [bA_size]; kernel_rfl
theorem zeroK : ∀ w, (zeroValue 58).run Tryz.prog w = .ok (.agg (bA 80 fun _ => 0)) w :=
  (zero_of_info (n := 80) (by kernel_rfl)).1
theorem zero32 : ∀ w, (zeroValue 54).run Tryz.prog w = .ok (.agg (bA 32 fun _ => 0)) w :=
  (zero_of_info (n := 32) (by kernel_rfl)).1
theorem sl16 (b : Nat) (W : World) : (Instr.sliceAt 35 (.pointer (some ⟨b, 0, none⟩)) none none none).run Tryz.prog W = .ok (.slice (some ⟨b, 0, none⟩) 16 16) W := by
  simp [Instr.sliceAt, Instr.sureAddr, run_underlying Tryz.underlying35, Instr.sliceBounds, go_sem]
theorem sl32 (b : Nat) (W : World) : (Instr.sliceAt 54 (.pointer (some ⟨b, 0, none⟩)) none none none).run Tryz.prog W = .ok (.slice (some ⟨b, 0, none⟩) 32 32) W := by
  simp [Instr.sliceAt, Instr.sureAddr, run_underlying Tryz.underlying54, Instr.sliceBounds, go_sem]
theorem sl32h (b : Nat) (W : World) : (Instr.sliceAt 54 (.pointer (some ⟨b, 0, none⟩)) none (some (.int .i64 16)) none).run Tryz.prog W = .ok (.slice (some ⟨b, 0, none⟩) 16 32) W := by
  simp [Instr.sliceAt, Instr.sureAddr, run_underlying Tryz.underlying54, Instr.sliceBounds, run_sliceBound, go_sem]
/-- arrays of 16 and 32 bytes that stand in a row of keys -/
theorem slK (b o : Nat) (W : World) : (Instr.sliceAt 35 (.pointer (some ⟨b, o, none⟩)) none none none).run Tryz.prog W = .ok (.slice (some ⟨b, o, none⟩) 16 16) W := by
  simp [Instr.sliceAt, Instr.sureAddr, run_underlying Tryz.underlying35, Instr.sliceBounds, go_sem]
theorem slK2 (b o : Nat) (W : World) : (Instr.sliceAt 54 (.pointer (some ⟨b, o, none⟩)) none none none).run Tryz.prog W = .ok (.slice (some ⟨b, o, none⟩) 32 32) W := by
  simp [Instr.sliceAt, Instr.sureAddr, run_underlying Tryz.underlying54, Instr.sliceBounds, go_sem]
section
variable {o : Oper} {a : Act} {w : World}
theorem execStAll {P : Program} {ty : TypeId} {x y : Operand} {g : Nat} {cells cur : Array Value} {t : TypeId} (ho : o.op = .store ty x y) (hx : a.eval x = .pointer (some ⟨g, 0, none⟩)) (hy : a.eval y = .agg cells) (hg : w.heap[g]? = some (.cells cur t)) (hs : cur.size = cells.size) (hi : (P.info? ty).map (·.size) = some cells.size) (h1 : cells.all (·.oneCell') = true) :
    (execOp a.eval o).run P w = .ok .skip (w.setRow g cells) := by
  have h := execStMid (P := P) ho hx hy hg (by omega) hi h1
  have e : (cur.toList.take 0 ++ cells.toList ++ cur.toList.drop (0 + cells.size)).toArray = cells := by
    rw [List.take_zero, List.nil_append, Nat.zero_add, List.drop_of_length_le (by rw [Array.length_toList, hs]; exact Nat.le_refl _), List.append_nil]
  rw [e] at h
  exact h
theorem execLdAll {P : Program} {ty : TypeId} {x : Operand} {g : Nat} {cells : Array Value} {t : TypeId} {fr : Nat × Nat} {d : TypeDesc} (ho : o.op = .load ty x) (hx : a.eval x = .pointer (some ⟨g, 0, none⟩)) (hg : w.heap[g]? = some (.cells cells t fr)) (hu : P.underlying ty = some d) (hd : d.isRow = true) (hi : (P.info? ty).map (·.size) = some cells.size) :
    (execOp a.eval o).run P w = .ok (.value (.agg cells)) w := by
  have h := Aes.execLoadMid (P := P) (w := w) (cs := cells.toList) ho hx (fun j v hj => by rw [cell_of_row _ _ _ _ _ _ hg, Nat.zero_add, ← Array.getElem?_toList]; exact hj) hu hd (by rw [hi, Array.length_toList])
  exact h
/-- k bytes out of a row of N. -/
theorem execLdPart {P : Program} {ty : TypeId} {x : Operand} {g f k N : Nat} {q : Nat → Nat} {t : TypeId} {fr : Nat × Nat} {d : TypeDesc} (ho : o.op = .load ty x) (hx : a.eval x = .pointer (some ⟨g, f, none⟩)) (hg : w.heap[g]? = some (.cells (bA N q) t fr)) (hN : f + k ≤ N) (hu : P.underlying ty = some d) (hd : d.isRow = true) (hi : (P.info? ty).map (·.size) = some k) :
    (execOp a.eval o).run P w = .ok (.value (.agg (bA k fun j => q (f + j)))) w := by
  refine Aes.execLoadMid (P := P) (cs := bytesL k fun j => q (f + j)) ho hx ?_ hu hd (by rw [bytesL_len]; exact hi)
  intro j v hj
  have hk : j < k := by have := (List.getElem?_eq_some_iff.1 hj).1; rwa [bytesL_len] at this
  rw [bytesL_at k _ hk] at hj
  rw [← hj, cell_of_row _ _ _ _ _ _ hg]
  exact bA_at N q (by omega)
/-- k bytes out of a list. -/
theorem execLdList {P : Program} {ty : TypeId} {x : Operand} {g f k : Nat} {q : Nat → Nat} {d : TypeDesc} (ho : o.op = .load ty x) (hx : a.eval x = .pointer (some ⟨g, f, none⟩)) (hg : ∀ j, j < k → w.cell? ⟨g, f + j, none⟩ = some (.int .u8 (q j))) (hu : P.underlying ty = some d) (hd : d.isRow = true) (hi : (P.info? ty).map (·.size) = some k) :
    (execOp a.eval o).run P w = .ok (.value (.agg (bA k q))) w := by
  refine Aes.execLoadMid (P := P) (cs := bytesL k q) ho hx ?_ hu hd (by rw [bytesL_len]; exact hi)
  intro j v hj
  have hk : j < k := by have := (List.getElem?_eq_some_iff.1 hj).1; rwa [bytesL_len] at this
  rw [bytesL_at k _ hk] at hj
  rw [← hj]
  exact hg j hk
theorem execB16 (ho : o.op = .build 35 #[]) : (execOp a.eval o).run Tryz.prog w = .ok (.value (.agg (bA 16 fun _ => 0))) w := by
  have h := zero16
  unfold execOp
  simp only [ho]
  simp [go_sem, h]
theorem execBK (ho : o.op = .build 58 #[]) : (execOp a.eval o).run Tryz.prog w = .ok (.value (.agg (bA 80 fun _ => 0))) w := by
  have h := zeroK
  unfold execOp
  simp only [ho]
  simp [go_sem, h]
theorem execAl16 (ho : o.op = .alloc 35) : (execOp a.eval o).run Tryz.prog w = .ok (.value (.pointer (some ⟨w.heap.size, 0, none⟩))) (w.alloc (.cells (bA 16 fun _ => 0) 35)) := by
  have h := zero16
  unfold execOp
  simp only [ho]
  simp [go_sem, h]
theorem execArr16 {x : Operand} {ad : Option Addr} {n c : Nat} (ho : o.op = .sliceToArrayPointer 35 x) (hx : a.eval x = .slice ad n c) (hn : 16 ≤ n) : (execOp a.eval o).run Tryz.prog w = .ok (.value (.pointer ad)) w := by
  have e : ¬ n < 16 := by omega
  unfold execOp
  simp only [ho, hx]
  simp [Instr.arrayAt, run_underlying Tryz.underlying35, e]
/-- byte(x) of an int. -/
theorem execU8 {x : Operand} {n : Nat} (ho : o.op = .convert 3 5 x) (hx : a.eval x = .int .i64 (n : Int)) : (execOp a.eval o).run Tryz.prog w = .ok (.value (.int .u8 ((n % 256 : Nat) : Int))) w := by
  unfold execOp
  simp only [ho, hx]
  simp [go_sem, IntKind.wrap, show IntKind.u8.signed = false from rfl]
theorem execU8s {x : Operand} {n : Nat} (ho : o.op = .convert 3 5 x) (hx : a.eval x = .int .i64 (n : Int)) (hn : n < 256) : (execOp a.eval o).run Tryz.prog w = .ok (.value (.int .u8 (n : Int))) w := by
  have h := execU8 (w := w) ho hx
  rw [Nat.mod_eq_of_lt hn] at h
  exact h
/-- append of a list that is not nil to a row of one's own. -/
theorem execAppS {W : World} {B n m : Nat} {v u : Value} {p : Nat → Nat} {s x : Operand}
    (ho : o.op = .call { callee := .builtin .append, args := #[s, x], argTypes := #[24, 24] })
    (hs : a.eval s = v) (hx : a.eval x = u) (hown : W.ownsRow B 5 1 v n (bytesL n p)) (hu : SliceN W u m (fun j => p (n + j))) (h0 : 0 < m)
    (hbig : n + m ≤ 200000000000000) (hB : B ≤ W.heap.size) :
    ∃ v' W', (execOp a.eval o).run Tryz.prog W = .ok (.value v') W' ∧ W'.ownsRow B 5 1 v' (n + m) (bytesL (n + m) p) ∧ ((v'.ownBlock = v.ownBlock ∧ W.grownBy W' v.ownBlock) ∨ (v'.ownBlock = some W.heap.size ∧ W.grownBy W' none)) := by
  obtain ⟨i, h1, h2, h3, h4⟩ := info5
  obtain ⟨⟨ao, cap, rfl, _, _, hc⟩, _⟩ := hu
  obtain ⟨b, off, rfl, _, e3⟩ := hc h0
  obtain ⟨v', w', hr, q1, q2⟩ := run_append_ownP (P := Tryz.prog) W B 24 o.type 5 i (.int .u8 0) Tryz.underlying24 h1 h2 h3 h4 rfl v n (bytesL n p) hown ⟨b, off, none⟩ m cap (bytesL m fun j => p (n + j)) (bytesL_len _ _) (by
      intro j z hz
      have hj : j < m := by have := (List.getElem?_eq_some_iff.1 hz).1; rw [bytesL_len] at this; exact this
      rw [Go.WideShapes.add_plain, e3 j hj]
      rw [bytesL_at m _ hj] at hz
      exact hz) (by
      intro z hz
      unfold bytesL at hz
      obtain ⟨k, _, rfl⟩ := List.mem_map.1 hz
      rfl) hbig hB
  rw [bytesL_app] at q1
  refine ⟨v', w', ?_, q1, q2⟩
  unfold execOp
  simp only [ho, resolve, invoke, builtin, Sem.run_bind, Sem.run_pure, Result.andThen_ok, List.map_toArray, List.map_cons, List.map_nil, hs, hx, hr]
end
theorem results_cell_tmp1 {P : Program} {fn : Func} {p u : Tmp} {ty : TypeId} (h : fn.results = #[.cell p ty, .tmp u]) (tmps : Array Value) (w : World) (g : Nat) (t : TypeId) (cs : Array Value) (fr : Nat × Nat) (d : TypeDesc)
    (hp : tmps.getD p undef = .pointer (some ⟨g, 0, none⟩)) (hg : w.heap[g]? = some (.cells cs t fr))
    (hu : P.underlying ty = some d) (hd : (match d with | .struct _ | .array _ _ => true | _ => false) = true) (hi : (P.info? ty).map (·.size) = some cs.size) :
    (results fn tmps).run P w = .ok (.tuple #[.agg cs, tmps.getD u undef]) w := by
  have hp' : tmps[p]?.getD undef = .pointer (some ⟨g, 0, none⟩) := by simpa using hp
  simp [results, h, hp', asAddr, run_loadVar_row w g t ty cs fr d hg hu hd hi]
theorem results_cell {P : Program} {fn : Func} {p : Tmp} {ty : TypeId} (h : fn.results = #[.cell p ty]) (tmps : Array Value) (w : World) (g : Nat) (t : TypeId) (cs : Array Value) (fr : Nat × Nat) (d : TypeDesc)
    (hp : tmps.getD p undef = .pointer (some ⟨g, 0, none⟩)) (hg : w.heap[g]? = some (.cells cs t fr))
    (hu : P.underlying ty = some d) (hd : (match d with | .struct _ | .array _ _ => true | _ => false) = true) (hi : (P.info? ty).map (·.size) = some cs.size) :
    (results fn tmps).run P w = .ok (.agg cs) w := by
  have hp' : tmps[p]?.getD undef = .pointer (some ⟨g, 0, none⟩) := by simpa using hp
  simp [results, h, hp', asAddr, run_loadVar_row w g t ty cs fr d hg hu hd hi]
/-- A row of bytes as a list. -/
theorem row_slice {W : World} {b N : Nat} {f : Nat → Nat} {t : TypeId} {fr : Nat × Nat} (hg : W.heap[b]? = some (.cells (bA N f) t fr)) (hf : ∀ j, j < N → f j < 256) (hN : N ≤ 1000) : SliceN W (.slice (some ⟨b, 0, none⟩) N N) N f := by
  refine ⟨⟨_, _, rfl, Nat.le_refl _, by omega, fun _ => ⟨b, 0, rfl, (Array.getElem?_eq_some_iff.1 hg).1, fun j hj => ?_⟩⟩, hf⟩
  rw [cell_of_row _ _ _ _ _ _ hg, Nat.zero_add]
  exact bA_at N f hj
/-- A list whose bytes lie elsewhere, by its cells. -/
theorem lit_slice {W : World} {b N : Nat} {C : Array Value} {f : Nat → Nat} {t : TypeId} {fr : Nat × Nat} (hg : W.heap[b]? = some (.cells C t fr)) (hC : ∀ j, j < N → C[j]? = some (.int .u8 (f j))) (hf : ∀ j, j < N → f j < 256) (hN : N ≤ 1000) : SliceN W (.slice (some ⟨b, 0, none⟩) N N) N f := by
  refine ⟨⟨_, _, rfl, Nat.le_refl _, by omega, fun _ => ⟨b, 0, rfl, (Array.getElem?_eq_some_iff.1 hg).1, fun j hj => ?_⟩⟩, hf⟩
  rw [cell_of_row _ _ _ _ _ _ hg, Nat.zero_add]
  exact hC j hj
theorem ptag_any (vk vm : Value) (lm : Nat) (key m : Nat → Nat) (w : World) (hG : Glob w) (hm : lm ≤ 140737488351232) (h1 : SliceN w vk 32 key) (h2 : SliceN w vm lm m) :
    Calls Tryz.prog 42 #[vk, vm] w fun e w' => e = .returned (.agg (bA 32 (hfF key m lm))) ∧ Below w.heap.size w w' := by
  refine (mtag_any vk vm 32 lm (ci key) (ci m) w hG (by omega) (by omega) (toB h1) (toB h2)).mono ?_
  rintro e w' ⟨rfl, hb⟩
  exact ⟨by rw [← hfF_ci, tab_ci], hb⟩
theorem pderive_any (vs vt vi : Value) (key nonce : Nat → Nat) (w : World) (hG : Glob w) (h0 : SliceN w vs 32 key) (h1 : SliceN w vt 16 nonce) (h2 : SliceN w vi 5 chF) :
    Calls Tryz.prog 20 #[vs, vt, vi, .int .i64 80] w fun e w' => ∃ v', e = .returned (.tuple #[v', .int .i64 0]) ∧ w'.ownsRow w.heap.size 5 1 v' 80 (bytesL 80 (dk key nonce)) ∧ Below w.heap.size w w' := by
  refine (mderive_any vs vt vi 32 16 5 (ci key) (ci nonce) (ci chF) 80 w hG (by omega) (by omega) (by omega) (toB h0) (toB h1) (toB h2)).mono ?_
  rintro e w' ⟨v', rfl, own, hb⟩
  rw [show expN 80 = 80 from rfl, ← dk_ci, vals_ci] at own
  exact ⟨v', rfl, own, hb⟩
theorem chF_lt (j : Nat) (h : j < 5) : chF j < 256 := by
  have : ∀ i : Fin 5, chF i.val < 256 := by decide
  exact this ⟨j, h⟩
end Go.Proofs.YteekoabgbjbabaaGreatDoor.Oni

namespace Go.Proofs.YteekoabgbjbabaaGreatDoor.Oni
open Go.RowKit Gf8 Aes By8 Cel
/- Layer 7's small functions. -/

set_option maxRecDepth 20000 in
theorem psize_any (left : Int) (V : World) : Calls Tryz.prog 31 #[.int .i64 left] V fun e w' => e = .returned (.int .i64 (sz left : Nat)) ∧ w' = V := by
  by_cases h1 : left < 1
  · rw [show sz left = 0 from if_neg (by omega)]
    go_enter Tryz.func31, Tryz.ntmps31
    go_wp2
    go_ret
    exact ⟨rfl, rfl⟩
  · by_cases h2 : left > 8
    · rw [show sz left = 0 from if_neg (by omega)]
      go_enter Tryz.func31, Tryz.ntmps31
      go_wp2
      go_ret
      exact ⟨rfl, rfl⟩
    · have e : ((sz left : Nat) : Int) = 48 + 34 * left := by unfold sz; rw [if_pos (by omega)]; omega
      rw [e]
      go_enter Tryz.func31, Tryz.ntmps31
      go_wp2
      go_ret
      exact ⟨rfl, rfl⟩
set_option maxRecDepth 20000 in
theorem proom_any (left : Int) (V : World) : Calls Tryz.prog 32 #[.int .i64 left] V fun e w' => e = .returned (.int .i64 ((sz left : Int) - 34)) ∧ w' = V := by
  have l1 : ((sz left : Nat) : Int) ≤ 320 := by have := sz_le left; omega
  go_enter Tryz.func32, Tryz.ntmps32
  go_wp2_with (go_at_call 31; refine (psize_any left V).mono ?_; rintro e w1 ⟨rfl, hw1⟩; subst hw1)
  go_ret
  exact ⟨rfl, rfl⟩
theorem be0 : bA 16 (fun _ => 0) = bA 16 (be 0) := bA_congr fun j _ => by unfold be; rw [Nat.zero_div, Nat.zero_mod]
set_option maxRecDepth 20000 in
theorem masked_any (d p : Nat → Nat) (len : Nat) (v : Value) (V : World) (hd : ∀ j, d j < 256) (hv : SliceN V v len p) (hl : len ≤ 140737488351232) :
    Calls Tryz.prog 33 #[.agg (bA 80 d), v] V fun e w' => ∃ r, e = .returned r ∧ w'.ownsRow V.heap.size 5 1 r len (bytesL len (bxF d p)) ∧ Below V.heap.size V w' := by
  have r1 := heapNew V (.cells (bA 80 d) 58)
  have b1 := belNew V (.cells (bA 80 d) 58)
  have C : Hid (Calls Tryz.prog 45 #[.agg (bA 16 fun j => d (0 + j)), .agg (bA 16 fun _ => 0), v] (V.alloc (.cells (bA 80 d) 58)) fun e w' => ∃ r, e = .returned r ∧ w'.ownsRow V.heap.size 5 1 r len (bytesL len (bxF d p)) ∧ Below V.heap.size V w') := by
    have e1 : (fun j => d (0 + j)) = d := by funext j; rw [Nat.zero_add]
    show Calls _ _ _ _ _
    rw [be0, e1]
    refine (pMask_any d p 0 len v _ (fun j _ => hd j) (hv.on b1) hl).mono ?_
    rintro e w' ⟨r, rfl, own, hb⟩
    exact ⟨r, rfl, own_base own b1.size, b1.trans (hb.mono b1.size)⟩
  have R1 : Hid (_) := r1
  clear r1 b1 hd hv hl
  go_enter Tryz.func33, Tryz.ntmps33
  go_wp2_with (first
    | (refine atLoad 35 (.tmp 5) rfl ?_; go_must (refine wpList_ex rfl (execLdPart (k := 16) rfl rfl R1.out (by omega) Tryz.underlying35 rfl (by kernel_rfl)) ?_))
    | (refine wpList_ex rfl (execB16 rfl) ?_)
    | (go_at_call 45; refine C.out.mono ?_; rintro e w1 ⟨r, rfl, own, hb1⟩))
  go_ret
  exact ⟨r, rfl, own, hb1⟩
set_option maxRecDepth 20000 in
theorem shortTag_any (key m : Nat → Nat) (lm : Nat) (v : Value) (V : World) (hG : Glob V) (hk : ∀ j, j < 32 → key j < 256) (hv : SliceN V v lm m) (hl : lm ≤ 140737488351232) :
    Calls Tryz.prog 46 #[.agg (bA 32 key), v] V fun e w' => e = .returned (.agg (bA 16 (hfF key m lm))) ∧ Below V.heap.size V w' := by
  obtain ⟨V2, hV2⟩ : ∃ V2, (V.alloc (.cells (bA 32 key) 54)).alloc (.cells (bA 16 fun _ => 0) 35) = V2 := ⟨_, rfl⟩
  have hh := heap2c V (.cells (bA 32 key) 54) (.cells (bA 16 fun _ => 0) 35)
  have bl := below2c V (.cells (bA 32 key) 54) (.cells (bA 16 fun _ => 0) 35)
  rw [hV2] at hh bl
  have s2 : V2.heap.size = V.heap.size + 2 := by rw [← hV2]; simp
  have C := ptag_any (.slice (some ⟨V.heap.size, 0, none⟩) 32 32) v lm key m V2 (hG.below bl hG.sz) hl (row_slice hh.1 hk (by omega)) (hv.on bl)
  have HH : Hid (_ ∧ _) := hh
  have BL : Hid (Below V.heap.size V V2 ∧ V2.heap.size = V.heap.size + 2) := ⟨bl, s2⟩
  have z16 := zero16
  have z32 := zero32
  have s32 := sl32
  have s32h := sl32h
  clear hG hk hv hl hh bl s2
  go_enter Tryz.func46, Tryz.ntmps46
  go_wp2_with (first
    | (go_at_call 42; refine C.mono ?_; rintro e w1 ⟨rfl, hb1⟩; have R0 : Hid (w1.heap[V.heap.size + 1]? = some (.cells (bA 16 fun _ => 0) 35)) := (by rw [hb1.block _ (by have := BL.out.2; omega)]; exact HH.out.2); have B1 : Hid (Below V.heap.size V w1 ∧ V.heap.size + 2 ≤ w1.heap.size) := ⟨BL.out.1.trans (hb1.mono BL.out.1.size), by have := hb1.size; have := BL.out.2; omega⟩; clear hb1)
    | (refine atStore 54 (.tmp 5) (.tmp 8) rfl ?_; go_must (refine wpList_exS rfl (execStAll (cells := bA 32 (hfF key m lm)) rfl rfl rfl (heapNew w1 _) (by rw [bA_size, bA_size]) (size32 _) (bA_one _ _)) ?_; obtain ⟨W3, hW3⟩ : ∃ W3, (w1.alloc (.cells (bA 32 fun _ => 0) 54)).setRow w1.heap.size (bA 32 (hfF key m lm)) = W3 := ⟨_, rfl⟩; have R3 : Hid (W3.heap[w1.heap.size]? = some (.cells (bA 32 (hfF key m lm)) 54)) := (by rw [← hW3]; exact setRow_heap _ _ _ _ _ _ (heapNew w1 _)); have b3 : Below w1.heap.size w1 W3 := (by rw [← hW3]; exact below4 (belNew w1 _) (Nat.le_refl _) _); have R4 : Hid (W3.heap[V.heap.size + 1]? = some (.cells (bA 16 fun _ => 0) 35)) := (by rw [b3.block _ (by have := B1.out.2; omega)]; exact R0.out); have B3 : Hid (Below V.heap.size V W3) := B1.out.1.trans (b3.mono B1.out.1.size); rw [hW3]; clear b3 hW3))
    | (refine wpList_ex rfl (execArr16 rfl rfl (by omega)) ?_)
    | (refine atLoad 35 (.tmp 10) rfl ?_; go_must (refine wpList_ex rfl (execLdPart (k := 16) rfl rfl R3.out (by omega) Tryz.underlying35 rfl (by kernel_rfl)) ?_))
    | (refine atStore 35 (.tmp 4) (.tmp 11) rfl ?_; go_must (refine wpList_exS rfl (execStAll (cells := bA 16 fun j => hfF key m lm (0 + j)) rfl rfl rfl R4.out (by rw [bA_size, bA_size]) (size16 _) (bA_one _ _)) ?_)))
  refine bodyPost_ret (results_cell Tryz.results46 _ _ (V.heap.size + 1) 35 _ (0, 0) _ rfl (setRow_heap _ _ _ _ _ _ R4.out) Tryz.underlying35 rfl (size16 _)) rfl ⟨?_, below4 B3.out (by omega) _⟩
  rw [show (fun j => hfF key m lm (0 + j)) = hfF key m lm from by funext j; rw [Nat.zero_add]]
end Go.Proofs.YteekoabgbjbabaaGreatDoor.Oni

namespace Go.Proofs.YteekoabgbjbabaaGreatDoor.Oni
open Go.RowKit Gf8 Aes By8 Cel
/- An onion's tag, its replay tag. -/

section
variable {o : Oper} {a : Act} {w : World}
theorem execFldK1 {x : Operand} {g : Nat} (ho : o.op = .fieldAddr 58 x 1) (hx : a.eval x = .pointer (some ⟨g, 0, none⟩)) : (execOp a.eval o).run Tryz.prog w = .ok (.value (.pointer (some ⟨g, 16, none⟩))) w := by
  unfold execOp
  simp only [ho, hx]
  simp [go_sem]
theorem execFldK2 {x : Operand} {g : Nat} (ho : o.op = .fieldAddr 58 x 2) (hx : a.eval x = .pointer (some ⟨g, 0, none⟩)) : (execOp a.eval o).run Tryz.prog w = .ok (.value (.pointer (some ⟨g, 48, none⟩))) w := by
  unfold execOp
  simp only [ho, hx]
  simp [go_sem]
end
theorem grown_row {W W' : World} {v v' : Value} (h : (v'.ownBlock = v.ownBlock ∧ W.grownBy W' v.ownBlock) ∨ (v'.ownBlock = some W.heap.size ∧ W.grownBy W' none)) : W.grownBy W' v.ownBlock := by
  rcases h with ⟨_, h⟩ | ⟨_, h⟩
  · exact h
  · exact ⟨h.os, h.tape, h.output, h.size, fun k hk _ => h.block k hk (by simp)⟩
/-- A row of another type stays where a list of bytes grows. -/
theorem grown_keeps {W W' : World} {B n b : Nat} {v v' : Value} {xs : List Value} {c : Array Value} {t : TypeId} (own : W.ownsRow B 5 1 v n xs) (g : (v'.ownBlock = v.ownBlock ∧ W.grownBy W' v.ownBlock) ∨ (v'.ownBlock = some W.heap.size ∧ W.grownBy W' none)) (hb : W.heap[b]? = some (.cells c t)) (ht : t ≠ 5) : W'.heap[b]? = some (.cells c t) := by
  rw [(grown_row g).block b (Array.getElem?_eq_some_iff.1 hb).1 (own_ne own hb ht)]
  exact hb
theorem stepApp {ops : Array Oper} {Q : Exit → Act → World → Prop} {j : Nat} {o : Oper} {a : Act} {K : Act → World → Prop} {W : World} {B n m : Nat} {v u : Value} {p : Nat → Nat} {s x : Operand} (hj : ops[j]? = some o) (hw : Region.wanted o (yielded ops a.tmps) = true)
    (ho : o.op = .call { callee := .builtin .append, args := #[s, x], argTypes := #[24, 24] })
    (hs : a.eval s = v) (hx : a.eval x = u) (hown : W.ownsRow B 5 1 v n (bytesL n p)) (hu : SliceN W u m (fun j => p (n + j))) (h0 : 0 < m)
    (hbig : n + m ≤ 200000000000000) (hB : B ≤ W.heap.size)
    (h : ∀ v' W', W'.ownsRow B 5 1 v' (n + m) (bytesL (n + m) p) → ((v'.ownBlock = v.ownBlock ∧ W.grownBy W' v.ownBlock) ∨ (v'.ownBlock = some W.heap.size ∧ W.grownBy W' none)) → K (a.put o.dst v') W') : wpOp Tryz.prog ops Q j K a W := by
  obtain ⟨v', W', hr, own, gr⟩ := execAppS ho hs hx hown hu h0 hbig hB
  exact stepV hj hw hr (h v' W' own gr)
/-- What tagOf's last region knows. -/
def tgT (B : Nat) (d p : Nat → Nat) (v u1 : Value) (bl : Nat) (tg : Nat → Nat) (V : World) (l : Nat → Bool) (x : Nat → Value) (W : World) : Prop :=
  (l 0 = true → x 0 = .pointer (some ⟨B, 16, none⟩)) ∧ (l 1 = true → x 1 = .agg (bA 32 fun j => d (16 + j))) ∧ (l 2 = true → x 2 = u1) ∧ (l 3 = true → x 3 = v) ∧
  (l 4 = false → W.ownsRow (B + 3) 5 1 u1 17 (bytesL 17 p)) ∧ (l 4 = true → W.ownsRow (B + 3) 5 1 (x 4) (17 + bl) (bytesL (17 + bl) p)) ∧ (l 5 = true → x 5 = .agg (bA 16 tg)) ∧
  (l 6 = false → W.heap[B + 2]? = some (.cells (bA 16 fun _ => 0) 35)) ∧ (l 6 = true → W.heap[B + 2]? = some (.cells (bA 16 tg) 35)) ∧ W.heap[B]? = some (.cells (bA 80 d) 58) ∧ B + 3 ≤ W.heap.size ∧ Below B V W
theorem tmF_lt {left : Nat} {nonce box : Nat → Nat} {bl : Nat} (hl : left < 256) (hn : By nonce) (hb : ∀ j, j < bl → box j < 256) : ∀ j, j < 17 + bl → tmF left nonce box j < 256 := by
  intro j hj
  unfold tmF
  split
  · exact hl
  · split
    · exact hn _ (by omega)
    · exact hb _ (by omega)
theorem own_oneB {W : World} {B z : Nat} {p : Nat → Nat} (hB : B ≤ W.heap.size) (hp : p 0 = z) : (W.alloc (.cells #[.int .u8 (z : Int)] 5)).ownsRow B 5 1 (.slice (some ⟨W.heap.size, 0, none⟩) 1 1) 1 (bytesL 1 p) := by
  have h := own_full (B := B) (n := 1) (f := fun _ => z) (heapNew W _) hB (by omega)
  have e : bytesL 1 (fun _ => z) = bytesL 1 p := by
    unfold bytesL
    simp [hp]
  rw [e] at h
  exact h
set_option maxRecDepth 20000 in
set_option maxHeartbeats 1000000 in
theorem tagOf_any (d nonce box : Nat → Nat) (left bl : Nat) (v : Value) (V : World) (hG : Glob V) (hd : ∀ j, d j < 256) (hn : By nonce) (hl : left < 256) (hb0 : 0 < bl) (hb1 : bl ≤ 1000) (hv : SliceN V v bl box) :
    Calls Tryz.prog 35 #[.agg (bA 80 d), .int .i64 (left : Int), .agg (bA 16 nonce), v] V fun e w' => e = .returned (.agg (bA 16 (tgF d left nonce box bl))) ∧ Below V.heap.size V w' := by
  obtain ⟨V3, hV3⟩ : ∃ V3, ((V.alloc (.cells (bA 80 d) 58)).alloc (.cells (bA 16 nonce) 35)).alloc (.cells (bA 16 fun _ => 0) 35) = V3 := ⟨_, rfl⟩
  have hh := heap3z V (.cells (bA 80 d) 58) (.cells (bA 16 nonce) 35) (.cells (bA 16 fun _ => 0) 35)
  have bl3 := below3z V (.cells (bA 80 d) 58) (.cells (bA 16 nonce) 35) (.cells (bA 16 fun _ => 0) 35)
  rw [hV3] at hh bl3
  have s3 : V3.heap.size = V.heap.size + 3 := by rw [← hV3]; simp
  obtain ⟨p, hp⟩ : ∃ p, tmF left nonce box = p := ⟨_, rfl⟩
  have p0 : p 0 = left := by rw [← hp]; unfold tmF; rw [if_pos rfl]
  have pl : ∀ j, j < 17 + bl → p j < 256 := by rw [← hp]; exact tmF_lt hl hn hv.bytes
  have pn : ∀ j, j < 16 → p (1 + j) = nonce j := fun j hj => by rw [← hp]; unfold tmF; rw [if_neg (by omega), if_pos (by omega)]; congr 1; omega
  have pb : ∀ j, p (17 + j) = box j := fun j => by rw [← hp]; unfold tmF; rw [if_neg (by omega), if_neg (by omega)]; congr 1; omega
  obtain ⟨tg, htg⟩ : ∃ tg, tgF d left nonce box bl = tg := ⟨_, rfl⟩
  have HT : Hid (hfF (mcK d) p (17 + bl) = tg) := by rw [← hp, ← htg]; rfl
  have HP : Hid ((∀ j, j < 17 + bl → p j < 256) ∧ (∀ j, j < 16 → p (1 + j) = nonce j) ∧ (∀ j, p (17 + j) = box j) ∧ 0 < bl ∧ bl ≤ 1000) := ⟨pl, pn, pb, hb0, hb1⟩
  have HV : Hid (Glob V ∧ (∀ j, d j < 256) ∧ By nonce ∧ SliceN V v bl box) := ⟨hG, hd, hn, hv⟩
  have HH : Hid (V3.heap[V.heap.size]? = some (.cells (bA 80 d) 58) ∧ V3.heap[V.heap.size + 1]? = some (.cells (bA 16 nonce) 35) ∧ V3.heap[V.heap.size + 2]? = some (.cells (bA 16 fun _ => 0) 35) ∧ V3.heap.size = V.heap.size + 3 ∧ Below V.heap.size V V3) := ⟨hh.1, hh.2.1, hh.2.2, s3, bl3⟩
  have z16 := zero16
  have s16 := sl16
  have o1 := own_oneB (W := V3) (B := V.heap.size + 3) (z := left) (p := p) (by omega) p0
  have O1 : Hid ((V3.alloc (.cells #[.int .u8 (left : Int)] 5)).ownsRow (V.heap.size + 3) 5 1 (.slice (some ⟨V3.heap.size, 0, none⟩) 1 1) 1 (bytesL 1 p)) := o1
  have HL : Hid (left < 256) := hl
  rw [htg]
  have l1 : (left : Int) < 256 := by omega
  clear o1 hG hd hn hl hb0 hb1 hv hh bl3 s3 p0 pl pn pb hp htg
  go_enter Tryz.func35, Tryz.ntmps35
  go_wp2_with (first
    | (refine wpList_ex rfl (execU8s (n := left) rfl rfl HL.out) ?_)
    | (refine wpList_ex rfl (execOne rfl rfl) ?_)
    | (refine atAppB (.tmp 12) (.tmp 13) rfl ?_; go_must (refine By8.wpList_appS (B := V.heap.size + 3) (n := 1) (m := 16) (p := p) rfl (.tmp 12) (.tmp 13) rfl rfl rfl O1.out (sliceN_cg (row_slice (by rw [(belNew V3 _).block _ (by have := HH.out.2.2.2.1; omega)]; exact HH.out.2.1) (fun j hj => HV.out.2.2.1 j hj) (by omega)) fun j hj => (HP.out.2.1 j hj).symm) (fun l c e => by cases e) (by omega) (by have hz := (belNew V3 (.cells #[.int .u8 (left : Int)] 5)).size; have := HH.out.2.2.2.1; omega) ?_; intro u1 W4 own4 gr4; have own' := O1.out; have R4 : Hid (tgT V.heap.size d p v u1 bl tg V (fun _ => false) (fun _ => undef) W4) := ⟨fun q => (by cases q), fun q => (by cases q), fun q => (by cases q), fun q => (by cases q), fun _ => own4, fun q => (by cases q), fun q => (by cases q), fun _ => grown_keeps own' gr4 (by rw [(belNew V3 _).block _ (by have := HH.out.2.2.2.1; omega)]; exact HH.out.2.2.1) (by decide), fun q => (by cases q), grown_keeps own' gr4 (by rw [(belNew V3 _).block _ (by have := HH.out.2.2.2.1; omega)]; exact HH.out.1) (by decide), (by have hz := (belNew V3 (.cells #[.int .u8 (left : Int)] 5)).size; have hy := (grown_row gr4).size; have := HH.out.2.2.2.1; omega), (HH.out.2.2.2.2.trans ((belNew V3 _).mono HH.out.2.2.2.2.size)).grown (grown_row gr4) (by have hz := (belNew V3 (.cells #[.int .u8 (left : Int)] 5)).size; have := HH.out.2.2.2.1; omega) (fun k hk => by have := (own'.lt k hk).1; omega)⟩; clear own4 gr4 own')))
  refine wp_region_detX 21 [(0, 15), (1, 16), (2, 17), (3, 18), (4, 19), (5, 20)] (tgT V.heap.size d p v u1 bl tg V) (fun _ => undef) (by kernel_rfl) (by kernel_rfl) rfl (by kernel_rfl) (by decide) (by decide) ?_ ?_ ?_
  · obtain ⟨_, _, _, _, t4, _, _, t6, _, tk, ts, tb⟩ := R4.out
    exact ⟨fun q => (by cases q), fun q => (by cases q), fun q => (by cases q), fun q => (by cases q), fun q => t4 q, fun q => (by cases q), fun q => (by cases q), fun q => t6 q, fun q => (by cases q), tk, ts, tb.drew⟩
  · intro j hj l x a W hl hf hdep hl2 hcl _ hT
    obtain ⟨t0, t1, t2, t3, t4, t4', t5, t6, t6', tk, ts, tb⟩ := hT
    match j, hj with
    | 0, _ => exact stepV rfl rfl (execFldK1 rfl (hf 4 (by decide))) ⟨_, ⟨_, rfl, rfl⟩, fun _ => rfl, t1, t2, t3, t4, t4', t5, t6, t6', tk, ts, tb⟩
    | 1, _ => exact stepV rfl rfl (execLdPart (k := 32) rfl ((hdep _ rfl 0 rfl _ rfl _ rfl).trans (t0 (hl2 _ rfl 0 rfl))) tk (by omega) Tryz.underlying54 rfl (by kernel_rfl)) ⟨_, ⟨_, rfl, rfl⟩, t0, fun _ => rfl, t2, t3, t4, t4', t5, t6, t6', tk, ts, tb⟩
    | 2, _ => exact stepV rfl rfl (execMvB rfl (hf 9 (by decide))) ⟨_, ⟨_, rfl, rfl⟩, t0, t1, fun _ => rfl, t3, t4, t4', t5, t6, t6', tk, ts, tb⟩
    | 3, _ => exact stepV rfl rfl (execMvB rfl (hf 3 (by decide))) ⟨_, ⟨_, rfl, rfl⟩, t0, t1, t2, fun _ => rfl, t4, t4', t5, t6, t6', tk, ts, tb⟩
    | 4, _ =>
      have n5 : l 5 = false := by
        cases h : l 5 with
        | false => rfl
        | true =>
          have := hcl 5 _ rfl h 4 rfl
          rw [hl] at this
          cases this
      have n6 : l 6 = false := by
        cases h : l 6 with
        | false => rfl
        | true =>
          have := hcl 6 _ rfl h 5 rfl
          rw [n5] at this
          cases this
      have own := t4 hl
      refine stepApp (m := bl) (p := p) rfl rfl rfl ((hdep _ rfl 2 rfl _ rfl _ rfl).trans (t2 (hl2 _ rfl 2 rfl))) ((hdep _ rfl 3 rfl _ rfl _ rfl).trans (t3 (hl2 _ rfl 3 rfl))) own (sliceN_cg (HV.out.2.2.2.on tb) fun j _ => (HP.out.2.2.1 j).symm) HP.out.2.2.2.1 (by have := HP.out.2.2.2.2; omega) ts ?_
      intro v' W' own' gr
      refine ⟨v', ⟨_, rfl, rfl⟩, t0, t1, t2, t3, fun q => (by cases q), fun _ => own', fun q => ?_, fun _ => grown_keeps own gr (t6 n6) (by decide), fun q => ?_, grown_keeps own gr tk (by decide), Nat.le_trans ts (grown_row gr).size, tb.grown (grown_row gr) (by omega) (fun k hk => by have := (own.lt k hk).1; omega)⟩
      · have q' : l 5 = true := q
        rw [n5] at q'; cases q'
      · have q' : l 6 = true := q
        rw [n6] at q'; cases q'
    | 5, _ =>
      have n6 : l 6 = false := by
        cases h : l 6 with
        | false => rfl
        | true =>
          have := hcl 6 _ rfl h 5 rfl
          rw [hl] at this
          cases this
      have h4 : l 4 = true := hl2 _ rfl 4 rfl
      have own := t4' h4
      refine stepC rfl rfl (execCall2 Tryz.func46 (by kernel_rfl) (by kernel_rfl) rfl ((hdep _ rfl 1 rfl _ rfl _ rfl).trans (t1 (hl2 _ rfl 1 rfl))) (hdep _ rfl 4 rfl _ rfl _ rfl)) (shortTag_any (fun j => d (16 + j)) p (17 + bl) _ W (HV.out.1.below tb HV.out.1.sz) (fun j _ => HV.out.2.1 _) (own_slice own HP.out.1) (by have := HP.out.2.2.2.2; omega)) fun e w' h => ?_
      obtain ⟨e1, bw⟩ := h
      refine ⟨_, e1, _, ⟨_, rfl, rfl⟩, t0, t1, t2, t3, fun q => ?_, fun _ => ownsRow_below own bw, fun _ => ?_, fun _ => ?_, fun q => ?_, ?_, Nat.le_trans ts bw.size, tb.trans (bw.mono tb.size)⟩
      · have q' : l 4 = false := q
        rw [h4] at q'; cases q'
      · show Value.agg _ = _
        rw [← HT.out]
        rfl
      · rw [bw.block _ (by omega)]; exact t6 n6
      · have q' : l 6 = true := q
        rw [n6] at q'; cases q'
      · rw [bw.block _ (by omega)]; exact tk
    | 6, _ =>
      have r6 := t6 hl
      refine stepS rfl rfl (execStAll (cells := bA 16 tg) rfl (hf 8 (by decide)) ((hdep _ rfl 5 rfl _ rfl _ rfl).trans (t5 (hl2 _ rfl 5 rfl))) r6 (by rw [bA_size, bA_size]) (size16 _) (bA_one _ _)) ⟨_, ⟨_, rfl, rfl⟩, t0, t1, t2, t3, fun q => ?_, fun q => ?_, t5, fun q => (by cases q), fun _ => setRow_heap _ _ _ _ _ _ r6, ?_, ?_, below4 tb (by omega) _⟩
      · exact ownsRow_row (t4 q) r6 (by decide) _
      · exact ownsRow_row (t4' q) r6 (by decide) _
      · rw [setRow_other _ _ _ _ (by omega)]; exact tk
      · simpa using ts
    | n + 7, h => exact absurd h (by simp)
  · intro l x W hall hT
    obtain ⟨_, _, _, _, _, _, _, _, t6', tk, ts, tb⟩ := hT
    have r6 := t6' (hall 6 (by simp))
    have R6 : Hid (W.heap[V.heap.size + 2]? = some (.cells (bA 16 tg) 35) ∧ Below V.heap.size V W) := ⟨r6, tb⟩
    clear hall r6 tb ts tk t6'
    simp only [putP, Act.put, List.setIfInBounds_toArray, List.set_cons_succ, List.set_cons_zero]
    go_wp2
    refine bodyPost_ret (results_cell Tryz.results35 _ _ (V.heap.size + 2) 35 _ (0, 0) _ rfl R6.out.1 Tryz.underlying35 rfl (size16 _)) rfl ⟨rfl, R6.out.2⟩
end Go.Proofs.YteekoabgbjbabaaGreatDoor.Oni

namespace Go.Proofs.YteekoabgbjbabaaGreatDoor.Oni
open Go.RowKit Gf8 Aes By8 Cel
/- replayTag, plainBox, Derive. -/

section
variable {o : Oper} {a : Act} {w : World}
/-- A byte into a row. -/
theorem execStRow {x y : Operand} {g k N z : Nat} {f : Nat → Nat} {t : TypeId} (ho : o.op = .store 5 x y) (hx : a.eval x = .pointer (some ⟨g, k, none⟩)) (hy : a.eval y = .int .u8 (z : Int)) (hg : w.heap[g]? = some (.cells (bA N f) t)) (hk : k < N) :
    (execOp a.eval o).run Tryz.prog w = .ok .skip (w.setRow g (bA N (updN f k z))) := by
  have h := execStB (w := w) (u := .int .u8 (f k)) ho hx hy (by rw [cell_of_row _ _ _ _ _ _ hg]; exact bA_at N f hk) (frozen4 hg)
  rw [setCell_eq_setRow w g k (bA N f) t _ _ hg, bA_set] at h
  exact h
/-- copy of the first n bytes of a list. -/
theorem execCopyN {x y : Operand} {O off n c m N : Nat} {v : Value} {f p : Nat → Nat} {t : TypeId} (ho : o.op = .call { callee := .builtin .copy, args := #[x, y], argTypes := #[24, 24] })
    (hx : a.eval x = .slice (some ⟨O, off, none⟩) n c) (hy : a.eval y = v) (hv : SliceN w v m p) (hO : w.heap[O]? = some (.cells (bA N f) t)) (hmn : n ≤ m) (h0 : 0 < n) (hN : off + n ≤ N) :
    (execOp a.eval o).run Tryz.prog w = .ok (.value (.int .i64 (n : Int))) (w.setRow O (bA N (spl f off n p))) := by
  obtain ⟨⟨ad, cap, rfl, hc1, hc2, hc3⟩, hp⟩ := hv
  obtain ⟨b, of, rfl, hb, hc⟩ := hc3 (by omega)
  have hmin : Nat.min m n = n := Nat.min_eq_right hmn
  have h := Aes.execCopyB (cs := bytesL n p) ho hx hy hO (by rw [bytesL_len, hmin]) ?_ (by rw [bytesL_len, bA_size]; omega) (bytesL_one n p)
  · rw [bytesL_len, bA_splice N off n f p (by omega)] at h
    exact h
  · intro j u hj
    have hjc : j < n := by have := (List.getElem?_eq_some_iff.1 hj).1; rwa [bytesL_len] at this
    rw [bytesL_at n _ hjc] at hj
    rw [Addr.add_mid, ← hj]
    exact hc j (by omega)
theorem execShr8 {x : Operand} {n : Nat} (ho : o.op = .binOp .shr 3 x (.const (.int .u64 8)) 79) (hx : a.eval x = .int .i64 (n : Int)) : (execOp a.eval o).run Tryz.prog w = .ok (.value (.int .i64 ((n / 256 : Nat) : Int))) w := by
  unfold execOp
  simp only [ho, hx]
  simp [go_sem]
end
theorem sl_h32 (b off len cap : Nat) (h : 32 ≤ cap) (W : World) : (Instr.sliceAt 24 (.slice (some ⟨b, off, none⟩) len cap) none (some (.int .i64 32)) none).run Tryz.prog W = .ok (.slice (some ⟨b, off, none⟩) 32 cap) W := by
  have h1 := By8.slice_h (some ⟨b, off, none⟩) len cap 32 h W
  have e : sliced (some ⟨b, off, none⟩) 0 32 cap 1 = .slice (some ⟨b, off, none⟩) 32 cap := by
    unfold sliced
    split <;> simp [Addr.add_mid]
  rw [e] at h1
  exact h1
theorem takeN {w : World} {a : Option Addr} {len cap : Nat} {p : Nat → Nat} (h : SliceN w (.slice a len cap) len p) {n : Nat} (hn : n ≤ len) : SliceN w (.slice a n cap) n p := by
  obtain ⟨⟨a', cap', e, e1, e2, e3⟩, hp⟩ := h
  obtain ⟨rfl, _, rfl⟩ : a = a' ∧ len = len ∧ cap = cap' := by
    injection e with x y z
    exact ⟨x, rfl, z⟩
  refine ⟨⟨a, cap, rfl, by omega, e2, fun h0 => ?_⟩, fun j hj => hp j (by omega)⟩
  obtain ⟨b, off, rfl, hb, hc⟩ := e3 (by omega)
  exact ⟨b, off, rfl, hb, fun j hj => hc j (by omega)⟩
def rtT (B : Nat) (d : Nat → Nat) (v v32 : Value) (tg : Nat → Nat) (V : World) (l : Nat → Bool) (x : Nat → Value) (W : World) : Prop :=
  (l 0 = true → x 0 = .pointer (some ⟨B, 48, none⟩)) ∧ (l 1 = true → x 1 = .agg (bA 32 fun j => d (48 + j))) ∧ (l 2 = true → x 2 = v) ∧ (l 3 = true → x 3 = v32) ∧ (l 4 = true → x 4 = .agg (bA 16 tg)) ∧
  (l 5 = false → W.heap[B + 1]? = some (.cells (bA 16 fun _ => 0) 35)) ∧ (l 5 = true → W.heap[B + 1]? = some (.cells (bA 16 tg) 35)) ∧ W.heap[B]? = some (.cells (bA 80 d) 58) ∧ B + 2 ≤ W.heap.size ∧ Below B V W
set_option maxRecDepth 20000 in
set_option maxHeartbeats 1000000 in
theorem replayTag_any (d c : Nat → Nat) (len : Nat) (v : Value) (V : World) (hG : Glob V) (hd : ∀ j, d j < 256) (hl : 32 ≤ len) (hv : SliceN V v len c) :
    Calls Tryz.prog 56 #[.agg (bA 80 d), v] V fun e w' => e = .returned (.agg (bA 16 (hfF (rpK d) c 32))) ∧ Below V.heap.size V w' := by
  obtain ⟨V2, hV2⟩ : ∃ V2, (V.alloc (.cells (bA 80 d) 58)).alloc (.cells (bA 16 fun _ => 0) 35) = V2 := ⟨_, rfl⟩
  have hh := heap2c V (.cells (bA 80 d) 58) (.cells (bA 16 fun _ => 0) 35)
  have bl := below2c V (.cells (bA 80 d) 58) (.cells (bA 16 fun _ => 0) 35)
  rw [hV2] at hh bl
  have s2 : V2.heap.size = V.heap.size + 2 := by rw [← hV2]; simp
  obtain ⟨ao, cap, rfl, hc1, _, hc3⟩ := hv.shape
  obtain ⟨b, off, rfl, _, _⟩ := hc3 (by omega)
  have hv32 := takeN hv hl
  obtain ⟨tg, htg⟩ : ∃ tg, hfF (rpK d) c 32 = tg := ⟨_, rfl⟩
  have R0 : Hid (rtT V.heap.size d (.slice (some ⟨b, off, none⟩) len cap) (.slice (some ⟨b, off, none⟩) 32 cap) tg V (fun _ => false) (fun _ => undef) V2) := ⟨fun q => (by cases q), fun q => (by cases q), fun q => (by cases q), fun q => (by cases q), fun q => (by cases q), fun _ => hh.2, fun q => (by cases q), hh.1, by omega, bl⟩
  have HV : Hid (Glob V ∧ (∀ j, d j < 256) ∧ SliceN V (.slice (some ⟨b, off, none⟩) 32 cap) 32 c ∧ 32 ≤ cap ∧ hfF (rpK d) c 32 = tg) := ⟨hG, hd, hv32, by omega, htg⟩
  have z16 := zero16
  rw [htg]
  clear hG hd hl hv hh bl s2 hc1 hc3 hv32 htg
  go_enter Tryz.func56, Tryz.ntmps56
  go_wp2_with fail
  refine wp_region_detX 10 [(0, 5), (1, 6), (2, 7), (3, 8), (4, 9)] (rtT V.heap.size d (.slice (some ⟨b, off, none⟩) len cap) (.slice (some ⟨b, off, none⟩) 32 cap) tg V) (fun _ => undef) (by kernel_rfl) (by kernel_rfl) rfl (by kernel_rfl) (by decide) (by decide) ?_ ?_ ?_
  · obtain ⟨_, _, _, _, _, t5, _, tk, ts, tb⟩ := R0.out
    exact ⟨fun q => (by cases q), fun q => (by cases q), fun q => (by cases q), fun q => (by cases q), fun q => (by cases q), fun q => t5 q, fun q => (by cases q), tk, ts, tb.drew⟩
  · intro j hj l x a W hl hf hdep hl2 hcl _ hT
    obtain ⟨t0, t1, t2, t3, t4, t5, t5', tk, ts, tb⟩ := hT
    match j, hj with
    | 0, _ => exact stepV rfl rfl (execFldK2 rfl (hf 2 (by decide))) ⟨_, ⟨_, rfl, rfl⟩, fun _ => rfl, t1, t2, t3, t4, t5, t5', tk, ts, tb⟩
    | 1, _ => exact stepV rfl rfl (execLdPart (k := 32) rfl ((hdep _ rfl 0 rfl _ rfl _ rfl).trans (t0 (hl2 _ rfl 0 rfl))) tk (by omega) Tryz.underlying54 rfl (by kernel_rfl)) ⟨_, ⟨_, rfl, rfl⟩, t0, fun _ => rfl, t2, t3, t4, t5, t5', tk, ts, tb⟩
    | 2, _ => exact stepV rfl rfl (execMvB rfl (hf 1 (by decide))) ⟨_, ⟨_, rfl, rfl⟩, t0, t1, fun _ => rfl, t3, t4, t5, t5', tk, ts, tb⟩
    | 3, _ => exact stepV rfl rfl (By8.execSlH rfl ((hdep _ rfl 2 rfl _ rfl _ rfl).trans (t2 (hl2 _ rfl 2 rfl))) rfl (sl_h32 b off len cap HV.out.2.2.2.1 W)) ⟨_, ⟨_, rfl, rfl⟩, t0, t1, t2, fun _ => rfl, t4, t5, t5', tk, ts, tb⟩
    | 4, _ =>
      have n5 : l 5 = false := by
        cases h : l 5 with
        | false => rfl
        | true =>
          have := hcl 5 _ rfl h 4 rfl
          rw [hl] at this
          cases this
      refine stepC rfl rfl (execCall2 Tryz.func46 (by kernel_rfl) (by kernel_rfl) rfl ((hdep _ rfl 1 rfl _ rfl _ rfl).trans (t1 (hl2 _ rfl 1 rfl))) ((hdep _ rfl 3 rfl _ rfl _ rfl).trans (t3 (hl2 _ rfl 3 rfl)))) (shortTag_any (fun j => d (48 + j)) c 32 _ W (HV.out.1.below tb HV.out.1.sz) (fun j _ => HV.out.2.1 _) (HV.out.2.2.1.on tb) (by omega)) fun e w' h => ?_
      obtain ⟨e1, bw⟩ := h
      refine ⟨_, e1, _, ⟨_, rfl, rfl⟩, t0, t1, t2, t3, fun _ => ?_, fun _ => ?_, fun q => ?_, ?_, Nat.le_trans ts bw.size, tb.trans (bw.mono tb.size)⟩
      · show Value.agg _ = _
        rw [← HV.out.2.2.2.2]
        rfl
      · rw [bw.block _ (by omega)]; exact t5 n5
      · have q' : l 5 = true := q
        rw [n5] at q'; cases q'
      · rw [bw.block _ (by omega)]; exact tk
    | 5, _ =>
      have r5 := t5 hl
      refine stepS rfl rfl (execStAll (cells := bA 16 tg) rfl (hf 4 (by decide)) ((hdep _ rfl 4 rfl _ rfl _ rfl).trans (t4 (hl2 _ rfl 4 rfl))) r5 (by rw [bA_size, bA_size]) (size16 _) (bA_one _ _)) ⟨_, ⟨_, rfl, rfl⟩, t0, t1, t2, t3, t4, fun q => (by cases q), fun _ => setRow_heap _ _ _ _ _ _ r5, ?_, ?_, below4 tb (by omega) _⟩
      · rw [setRow_other _ _ _ _ (by omega)]; exact tk
      · simpa using ts
    | n + 6, h => exact absurd h (by simp)
  · intro l x W hall hT
    obtain ⟨_, _, _, _, _, _, t5', tk, ts, tb⟩ := hT
    have R6 : Hid (W.heap[V.heap.size + 1]? = some (.cells (bA 16 tg) 35) ∧ Below V.heap.size V W) := ⟨t5' (hall 5 (by simp)), tb⟩
    clear hall tb ts tk t5'
    simp only [putP, Act.put, List.setIfInBounds_toArray, List.set_cons_succ, List.set_cons_zero]
    go_wp2
    refine bodyPost_ret (results_cell Tryz.results56 _ _ (V.heap.size + 1) 35 _ (0, 0) _ rfl R6.out.1 Tryz.underlying35 rfl (size16 _)) rfl ⟨rfl, R6.out.2⟩
end Go.Proofs.YteekoabgbjbabaaGreatDoor.Oni
