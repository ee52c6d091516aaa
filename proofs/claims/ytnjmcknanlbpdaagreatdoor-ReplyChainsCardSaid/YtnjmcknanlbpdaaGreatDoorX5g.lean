import Derived.Test.YtnjmcknanlbpdaaGreatDoorX5e
namespace Go.Proofs.YtnjmcknanlbpdaaGreatDoor.Oni
open Go.RowKit Gf8 Aes By8 Cel
/- An onion's tag, its replay tag. -/

section
variable {o : Oper} {a : Act} {w : World}
theorem execFldK1 {x : Operand} {g : Nat} (ho : o.op = .fieldAddr 64 x 1) (hx : a.eval x = .pointer (some ⟨g, 0, none⟩)) : (execOp a.eval o).run Tryz.prog w = .ok (.value (.pointer (some ⟨g, 16, none⟩))) w := by
  unfold execOp
  simp only [ho, hx]
  simp [go_sem]
theorem execFldK2 {x : Operand} {g : Nat} (ho : o.op = .fieldAddr 64 x 2) (hx : a.eval x = .pointer (some ⟨g, 0, none⟩)) : (execOp a.eval o).run Tryz.prog w = .ok (.value (.pointer (some ⟨g, 48, none⟩))) w := by
  unfold execOp
  simp only [ho, hx]
  simp [go_sem]
end
theorem grown_row {W W' : World} {v v' : Value} (h : (v'.ownBlock = v.ownBlock ∧ W.grownBy W' v.ownBlock) ∨ (v'.ownBlock = some W.heap.size ∧ W.grownBy W' none)) : W.grownBy W' v.ownBlock := by
  rcases h with ⟨_, h⟩ | ⟨_, h⟩
  · exact h
  · exact ⟨h.os, h.tape, h.output, h.size, fun k hk _ => h.block k hk (by simp)⟩
/-- A row of another type stays where a list of bytes grows. -/
theorem grown_keeps {W W' : World} {B n b : Nat} {v v' : Value} {xs : List Value} {c : Array Value} {t : TypeId} (own : W.ownsRow B 5 1 v n xs) (g : (v'.ownBlock = v.ownBlock ∧ W.grownBy W' v.ownBlock) ∨ (v'.ownBlock = some W.heap.size ∧ W.grownBy W' none)) (hb : W.heap[b]? = some (.cells c t)) (ht : t ≠ 5) : W'.heap[b]? = some (.cells c t) := by
  rw [(grown_row g).block b (Array.getElem?_eq_some_iff.1 hb).1 (own_ne own hb ht)]
  exact hb
theorem stepApp {ops : Array Oper} {Q : Exit → Act → World → Prop} {j : Nat} {o : Oper} {a : Act} {K : Act → World → Prop} {W : World} {B n m : Nat} {v u : Value} {p : Nat → Nat} {s x : Operand} (hj : ops[j]? = some o) (hw : Region.wanted o (yielded ops a.tmps) = true)
    (ho : o.op = .call { callee := .builtin .append, args := #[s, x], argTypes := #[22, 22] })
    (hs : a.eval s = v) (hx : a.eval x = u) (hown : W.ownsRow B 5 1 v n (bytesL n p)) (hu : SliceN W u m (fun j => p (n + j))) (h0 : 0 < m)
    (hbig : n + m ≤ 200000000000000) (hB : B ≤ W.heap.size)
    (h : ∀ v' W', W'.ownsRow B 5 1 v' (n + m) (bytesL (n + m) p) → ((v'.ownBlock = v.ownBlock ∧ W.grownBy W' v.ownBlock) ∨ (v'.ownBlock = some W.heap.size ∧ W.grownBy W' none)) → K (a.put o.dst v') W') : wpOp Tryz.prog ops Q j K a W := by
  obtain ⟨v', W', hr, own, gr⟩ := execAppS ho hs hx hown hu h0 hbig hB
  exact stepV hj hw hr (h v' W' own gr)
/-- What tagOf's last region knows. -/
def tgT (B : Nat) (d p : Nat → Nat) (v u1 : Value) (bl : Nat) (tg : Nat → Nat) (V : World) (l : Nat → Bool) (x : Nat → Value) (W : World) : Prop :=
  (l 0 = true → x 0 = .pointer (some ⟨B, 16, none⟩)) ∧ (l 1 = true → x 1 = .agg (bA 32 fun j => d (16 + j))) ∧ (l 2 = true → x 2 = u1) ∧ (l 3 = true → x 3 = v) ∧
  (l 4 = false → W.ownsRow (B + 3) 5 1 u1 17 (bytesL 17 p)) ∧ (l 4 = true → W.ownsRow (B + 3) 5 1 (x 4) (17 + bl) (bytesL (17 + bl) p)) ∧ (l 5 = true → x 5 = .agg (bA 16 tg)) ∧
  (l 6 = false → W.heap[B + 2]? = some (.cells (bA 16 fun _ => 0) 23)) ∧ (l 6 = true → W.heap[B + 2]? = some (.cells (bA 16 tg) 23)) ∧ W.heap[B]? = some (.cells (bA 80 d) 64) ∧ B + 3 ≤ W.heap.size ∧ Below B V W
theorem tmF_lt {left : Nat} {nonce box : Nat → Nat} {bl : Nat} (hl : left < 256) (hn : By nonce) (hb : ∀ j, j < bl → box j < 256) : ∀ j, j < 17 + bl → tmF left nonce box j < 256 := by
  intro j hj
  unfold tmF
  split
  · exact hl
  · split
    · exact hn _ (by omega)
    · exact hb _ (by omega)
theorem own_oneB {W : World} {B z : Nat} {p : Nat → Nat} (hB : B ≤ W.heap.size) (hp : p 0 = z) : (W.alloc (.cells #[.int .u8 (z : Int)] 5)).ownsRow B 5 1 (.slice (some ⟨W.heap.size, 0, none⟩) 1 1) 1 (bytesL 1 p) := by
  have h := own_full (B := B) (n := 1) (f := fun _ => z) (heapNew W _) hB (by omega)
  have e : bytesL 1 (fun _ => z) = bytesL 1 p := by
    unfold bytesL
    simp [hp]
  rw [e] at h
  exact h
set_option maxRecDepth 20000 in
set_option maxHeartbeats 1000000 in
theorem tagOf_any (d nonce box : Nat → Nat) (left bl : Nat) (v : Value) (V : World) (hG : Glob V) (hd : ∀ j, d j < 256) (hn : By nonce) (hl : left < 256) (hb0 : 0 < bl) (hb1 : bl ≤ 1000) (hv : SliceN V v bl box) :
    Calls Tryz.prog 39 #[.agg (bA 80 d), .int .i64 (left : Int), .agg (bA 16 nonce), v] V fun e w' => e = .returned (.agg (bA 16 (tgF d left nonce box bl))) ∧ Below V.heap.size V w' := by
  obtain ⟨V3, hV3⟩ : ∃ V3, ((V.alloc (.cells (bA 80 d) 64)).alloc (.cells (bA 16 nonce) 23)).alloc (.cells (bA 16 fun _ => 0) 23) = V3 := ⟨_, rfl⟩
  have hh := heap3z V (.cells (bA 80 d) 64) (.cells (bA 16 nonce) 23) (.cells (bA 16 fun _ => 0) 23)
  have bl3 := below3z V (.cells (bA 80 d) 64) (.cells (bA 16 nonce) 23) (.cells (bA 16 fun _ => 0) 23)
  rw [hV3] at hh bl3
  have s3 : V3.heap.size = V.heap.size + 3 := by rw [← hV3]; simp
  obtain ⟨p, hp⟩ : ∃ p, tmF left nonce box = p := ⟨_, rfl⟩
  have p0 : p 0 = left := by rw [← hp]; unfold tmF; rw [if_pos rfl]
  have pl : ∀ j, j < 17 + bl → p j < 256 := by rw [← hp]; exact tmF_lt hl hn hv.bytes
  have pn : ∀ j, j < 16 → p (1 + j) = nonce j := fun j hj => by rw [← hp]; unfold tmF; rw [if_neg (by omega), if_pos (by omega)]; congr 1; omega
  have pb : ∀ j, p (17 + j) = box j := fun j => by rw [← hp]; unfold tmF; rw [if_neg (by omega), if_neg (by omega)]; congr 1; omega
  obtain ⟨tg, htg⟩ : ∃ tg, tgF d left nonce box bl = tg := ⟨_, rfl⟩
  have HT : Hid (hfF (mcK d) p (17 + bl) = tg) := by rw [← hp, ← htg]; rfl
  have HP : Hid ((∀ j, j < 17 + bl → p j < 256) ∧ (∀ j, j < 16 → p (1 + j) = nonce j) ∧ (∀ j, p (17 + j) = box j) ∧ 0 < bl ∧ bl ≤ 1000) := ⟨pl, pn, pb, hb0, hb1⟩
  have HV : Hid (Glob V ∧ (∀ j, d j < 256) ∧ By nonce ∧ SliceN V v bl box) := ⟨hG, hd, hn, hv⟩
  have HH : Hid (V3.heap[V.heap.size]? = some (.cells (bA 80 d) 64) ∧ V3.heap[V.heap.size + 1]? = some (.cells (bA 16 nonce) 23) ∧ V3.heap[V.heap.size + 2]? = some (.cells (bA 16 fun _ => 0) 23) ∧ V3.heap.size = V.heap.size + 3 ∧ Below V.heap.size V V3) := ⟨hh.1, hh.2.1, hh.2.2, s3, bl3⟩
  have z16 := zero16
  have s16 := sl16
  have o1 := own_oneB (W := V3) (B := V.heap.size + 3) (z := left) (p := p) (by omega) p0
  have O1 : Hid ((V3.alloc (.cells #[.int .u8 (left : Int)] 5)).ownsRow (V.heap.size + 3) 5 1 (.slice (some ⟨V3.heap.size, 0, none⟩) 1 1) 1 (bytesL 1 p)) := o1
  have HL : Hid (left < 256) := hl
  rw [htg]
  have l1 : (left : Int) < 256 := by omega
  clear o1 hG hd hn hl hb0 hb1 hv hh bl3 s3 p0 pl pn pb hp htg
  go_enter Tryz.func39, Tryz.ntmps39
  go_wp2_with (first
    | (refine wpList_ex rfl (execU8s (n := left) rfl rfl HL.out) ?_)
    | (refine wpList_ex rfl (execOne rfl rfl) ?_)
    | (refine atAppB (.tmp 12) (.tmp 13) rfl ?_; go_must (refine By8.wpList_appS (B := V.heap.size + 3) (n := 1) (m := 16) (p := p) rfl (.tmp 12) (.tmp 13) rfl rfl rfl O1.out (sliceN_cg (row_slice (by rw [(belNew V3 _).block _ (by have := HH.out.2.2.2.1; omega)]; exact HH.out.2.1) (fun j hj => HV.out.2.2.1 j hj) (by omega)) fun j hj => (HP.out.2.1 j hj).symm) (fun l c e => by cases e) (by omega) (by have hz := (belNew V3 (.cells #[.int .u8 (left : Int)] 5)).size; have := HH.out.2.2.2.1; omega) ?_; intro u1 W4 own4 gr4; have own' := O1.out; have R4 : Hid (tgT V.heap.size d p v u1 bl tg V (fun _ => false) (fun _ => undef) W4) := ⟨fun q => (by cases q), fun q => (by cases q), fun q => (by cases q), fun q => (by cases q), fun _ => own4, fun q => (by cases q), fun q => (by cases q), fun _ => grown_keeps own' gr4 (by rw [(belNew V3 _).block _ (by have := HH.out.2.2.2.1; omega)]; exact HH.out.2.2.1) (by decide), fun q => (by cases q), grown_keeps own' gr4 (by rw [(belNew V3 _).block _ (by have := HH.out.2.2.2.1; omega)]; exact HH.out.1) (by decide), (by have hz := (belNew V3 (.cells #[.int .u8 (left : Int)] 5)).size; have hy := (grown_row gr4).size; have := HH.out.2.2.2.1; omega), (HH.out.2.2.2.2.trans ((belNew V3 _).mono HH.out.2.2.2.2.size)).grown (grown_row gr4) (by have hz := (belNew V3 (.cells #[.int .u8 (left : Int)] 5)).size; have := HH.out.2.2.2.1; omega) (fun k hk => by have := (own'.lt k hk).1; omega)⟩; clear own4 gr4 own')))
  refine wp_region_detX 21 [(0, 15), (1, 16), (2, 17), (3, 18), (4, 19), (5, 20)] (tgT V.heap.size d p v u1 bl tg V) (fun _ => undef) (by kernel_rfl) (by kernel_rfl) rfl (by kernel_rfl) (by decide) (by decide) ?_ ?_ ?_
  · obtain ⟨_, _, _, _, t4, _, _, t6, _, tk, ts, tb⟩ := R4.out
    exact ⟨fun q => (by cases q), fun q => (by cases q), fun q => (by cases q), fun q => (by cases q), fun q => t4 q, fun q => (by cases q), fun q => (by cases q), fun q => t6 q, fun q => (by cases q), tk, ts, tb.drew⟩
  · intro j hj l x a W hl hf hdep hl2 hcl _ hT
    obtain ⟨t0, t1, t2, t3, t4, t4', t5, t6, t6', tk, ts, tb⟩ := hT
    match j, hj with
    | 0, _ => exact stepV rfl rfl (execFldK1 rfl (hf 4 (by decide))) ⟨_, ⟨_, rfl, rfl⟩, fun _ => rfl, t1, t2, t3, t4, t4', t5, t6, t6', tk, ts, tb⟩
    | 1, _ => exact stepV rfl rfl (execLdPart (k := 32) rfl ((hdep _ rfl 0 rfl _ rfl _ rfl).trans (t0 (hl2 _ rfl 0 rfl))) tk (by omega) Tryz.underlying57 rfl (by kernel_rfl)) ⟨_, ⟨_, rfl, rfl⟩, t0, fun _ => rfl, t2, t3, t4, t4', t5, t6, t6', tk, ts, tb⟩
    | 2, _ => exact stepV rfl rfl (execMvB rfl (hf 9 (by decide))) ⟨_, ⟨_, rfl, rfl⟩, t0, t1, fun _ => rfl, t3, t4, t4', t5, t6, t6', tk, ts, tb⟩
    | 3, _ => exact stepV rfl rfl (execMvB rfl (hf 3 (by decide))) ⟨_, ⟨_, rfl, rfl⟩, t0, t1, t2, fun _ => rfl, t4, t4', t5, t6, t6', tk, ts, tb⟩
    | 4, _ =>
      have n5 : l 5 = false := by
        cases h : l 5 with
        | false => rfl
        | true =>
          have := hcl 5 _ rfl h 4 rfl
          rw [hl] at this
          cases this
      have n6 : l 6 = false := by
        cases h : l 6 with
        | false => rfl
        | true =>
          have := hcl 6 _ rfl h 5 rfl
          rw [n5] at this
          cases this
      have own := t4 hl
      refine stepApp (m := bl) (p := p) rfl rfl rfl ((hdep _ rfl 2 rfl _ rfl _ rfl).trans (t2 (hl2 _ rfl 2 rfl))) ((hdep _ rfl 3 rfl _ rfl _ rfl).trans (t3 (hl2 _ rfl 3 rfl))) own (sliceN_cg (HV.out.2.2.2.on tb) fun j _ => (HP.out.2.2.1 j).symm) HP.out.2.2.2.1 (by have := HP.out.2.2.2.2; omega) ts ?_
      intro v' W' own' gr
      refine ⟨v', ⟨_, rfl, rfl⟩, t0, t1, t2, t3, fun q => (by cases q), fun _ => own', fun q => ?_, fun _ => grown_keeps own gr (t6 n6) (by decide), fun q => ?_, grown_keeps own gr tk (by decide), Nat.le_trans ts (grown_row gr).size, tb.grown (grown_row gr) (by omega) (fun k hk => by have := (own.lt k hk).1; omega)⟩
      · have q' : l 5 = true := q
        rw [n5] at q'; cases q'
      · have q' : l 6 = true := q
        rw [n6] at q'; cases q'
    | 5, _ =>
      have n6 : l 6 = false := by
        cases h : l 6 with
        | false => rfl
        | true =>
          have := hcl 6 _ rfl h 5 rfl
          rw [hl] at this
          cases this
      have h4 : l 4 = true := hl2 _ rfl 4 rfl
      have own := t4' h4
      refine stepC rfl rfl (execCall2 Tryz.func56 (by kernel_rfl) (by kernel_rfl) rfl ((hdep _ rfl 1 rfl _ rfl _ rfl).trans (t1 (hl2 _ rfl 1 rfl))) (hdep _ rfl 4 rfl _ rfl _ rfl)) (shortTag_any (fun j => d (16 + j)) p (17 + bl) _ W (HV.out.1.below tb HV.out.1.sz) (fun j _ => HV.out.2.1 _) (own_slice own HP.out.1) (by have := HP.out.2.2.2.2; omega)) fun e w' h => ?_
      obtain ⟨e1, bw⟩ := h
      refine ⟨_, e1, _, ⟨_, rfl, rfl⟩, t0, t1, t2, t3, fun q => ?_, fun _ => ownsRow_below own bw, fun _ => ?_, fun _ => ?_, fun q => ?_, ?_, Nat.le_trans ts bw.size, tb.trans (bw.mono tb.size)⟩
      · have q' : l 4 = false := q
        rw [h4] at q'; cases q'
      · show Value.agg _ = _
        rw [← HT.out]
        rfl
      · rw [bw.block _ (by omega)]; exact t6 n6
      · have q' : l 6 = true := q
        rw [n6] at q'; cases q'
      · rw [bw.block _ (by omega)]; exact tk
    | 6, _ =>
      have r6 := t6 hl
      refine stepS rfl rfl (execStAll (cells := bA 16 tg) rfl (hf 8 (by decide)) ((hdep _ rfl 5 rfl _ rfl _ rfl).trans (t5 (hl2 _ rfl 5 rfl))) r6 (by rw [bA_size, bA_size]) (size16 _) (bA_one _ _)) ⟨_, ⟨_, rfl, rfl⟩, t0, t1, t2, t3, fun q => ?_, fun q => ?_, t5, fun q => (by cases q), fun _ => setRow_heap _ _ _ _ _ _ r6, ?_, ?_, below4 tb (by omega) _⟩
      · exact ownsRow_row (t4 q) r6 (by decide) _
      · exact ownsRow_row (t4' q) r6 (by decide) _
      · rw [setRow_other _ _ _ _ (by omega)]; exact tk
      · simpa using ts
    | n + 7, h => exact absurd h (by simp)
  · intro l x W hall hT
    obtain ⟨_, _, _, _, _, _, _, _, t6', tk, ts, tb⟩ := hT
    have r6 := t6' (hall 6 (by simp))
    have R6 : Hid (W.heap[V.heap.size + 2]? = some (.cells (bA 16 tg) 23) ∧ Below V.heap.size V W) := ⟨r6, tb⟩
    clear hall r6 tb ts tk t6'
    simp only [putP, Act.put, List.setIfInBounds_toArray, List.set_cons_succ, List.set_cons_zero]
    go_wp2
    refine bodyPost_ret (results_cell Tryz.results39 _ _ (V.heap.size + 2) 23 _ (0, 0) _ rfl R6.out.1 Tryz.underlying23 rfl (size16 _)) rfl ⟨rfl, R6.out.2⟩
end Go.Proofs.YtnjmcknanlbpdaaGreatDoor.Oni

namespace Go.Proofs.YtnjmcknanlbpdaaGreatDoor.Oni
open Go.RowKit Gf8 Aes By8 Cel
/- replayTag, plainBox, Derive. -/

section
variable {o : Oper} {a : Act} {w : World}
/-- A byte into a row. -/
theorem execStRow {x y : Operand} {g k N z : Nat} {f : Nat → Nat} {t : TypeId} (ho : o.op = .store 5 x y) (hx : a.eval x = .pointer (some ⟨g, k, none⟩)) (hy : a.eval y = .int .u8 (z : Int)) (hg : w.heap[g]? = some (.cells (bA N f) t)) (hk : k < N) :
    (execOp a.eval o).run Tryz.prog w = .ok .skip (w.setRow g (bA N (updN f k z))) := by
  have h := execStB (w := w) (u := .int .u8 (f k)) ho hx hy (by rw [cell_of_row _ _ _ _ _ _ hg]; exact bA_at N f hk) (frozen4 hg)
  rw [setCell_eq_setRow w g k (bA N f) t _ _ hg, bA_set] at h
  exact h
/-- copy of the first n bytes of a list. -/
theorem execCopyN {x y : Operand} {O off n c m N : Nat} {v : Value} {f p : Nat → Nat} {t : TypeId} (ho : o.op = .call { callee := .builtin .copy, args := #[x, y], argTypes := #[22, 22] })
    (hx : a.eval x = .slice (some ⟨O, off, none⟩) n c) (hy : a.eval y = v) (hv : SliceN w v m p) (hO : w.heap[O]? = some (.cells (bA N f) t)) (hmn : n ≤ m) (h0 : 0 < n) (hN : off + n ≤ N) :
    (execOp a.eval o).run Tryz.prog w = .ok (.value (.int .i64 (n : Int))) (w.setRow O (bA N (spl f off n p))) := by
  obtain ⟨⟨ad, cap, rfl, hc1, hc2, hc3⟩, hp⟩ := hv
  obtain ⟨b, of, rfl, hb, hc⟩ := hc3 (by omega)
  have hmin : Nat.min m n = n := Nat.min_eq_right hmn
  have h := Aes.execCopyB (cs := bytesL n p) ho hx hy hO (by rw [bytesL_len, hmin]) ?_ (by rw [bytesL_len, bA_size]; omega) (bytesL_one n p)
  · rw [bytesL_len, bA_splice N off n f p (by omega)] at h
    exact h
  · intro j u hj
    have hjc : j < n := by have := (List.getElem?_eq_some_iff.1 hj).1; rwa [bytesL_len] at this
    rw [bytesL_at n _ hjc] at hj
    rw [Addr.add_mid, ← hj]
    exact hc j (by omega)
theorem execShr8 {x : Operand} {n : Nat} (ho : o.op = .binOp .shr 3 x (.const (.int .u64 8)) 90) (hx : a.eval x = .int .i64 (n : Int)) : (execOp a.eval o).run Tryz.prog w = .ok (.value (.int .i64 ((n / 256 : Nat) : Int))) w := by
  unfold execOp
  simp only [ho, hx]
  simp [go_sem]
end
theorem sl_h32 (b off len cap : Nat) (h : 32 ≤ cap) (W : World) : (Instr.sliceAt 22 (.slice (some ⟨b, off, none⟩) len cap) none (some (.int .i64 32)) none).run Tryz.prog W = .ok (.slice (some ⟨b, off, none⟩) 32 cap) W := by
  have h1 := By8.slice_h (some ⟨b, off, none⟩) len cap 32 h W
  have e : sliced (some ⟨b, off, none⟩) 0 32 cap 1 = .slice (some ⟨b, off, none⟩) 32 cap := by
    unfold sliced
    split <;> simp [Addr.add_mid]
  rw [e] at h1
  exact h1
theorem takeN {w : World} {a : Option Addr} {len cap : Nat} {p : Nat → Nat} (h : SliceN w (.slice a len cap) len p) {n : Nat} (hn : n ≤ len) : SliceN w (.slice a n cap) n p := by
  obtain ⟨⟨a', cap', e, e1, e2, e3⟩, hp⟩ := h
  obtain ⟨rfl, _, rfl⟩ : a = a' ∧ len = len ∧ cap = cap' := by
    injection e with x y z
    exact ⟨x, rfl, z⟩
  refine ⟨⟨a, cap, rfl, by omega, e2, fun h0 => ?_⟩, fun j hj => hp j (by omega)⟩
  obtain ⟨b, off, rfl, hb, hc⟩ := e3 (by omega)
  exact ⟨b, off, rfl, hb, fun j hj => hc j (by omega)⟩
def rtT (B : Nat) (d : Nat → Nat) (v v32 : Value) (tg : Nat → Nat) (V : World) (l : Nat → Bool) (x : Nat → Value) (W : World) : Prop :=
  (l 0 = true → x 0 = .pointer (some ⟨B, 48, none⟩)) ∧ (l 1 = true → x 1 = .agg (bA 32 fun j => d (48 + j))) ∧ (l 2 = true → x 2 = v) ∧ (l 3 = true → x 3 = v32) ∧ (l 4 = true → x 4 = .agg (bA 16 tg)) ∧
  (l 5 = false → W.heap[B + 1]? = some (.cells (bA 16 fun _ => 0) 23)) ∧ (l 5 = true → W.heap[B + 1]? = some (.cells (bA 16 tg) 23)) ∧ W.heap[B]? = some (.cells (bA 80 d) 64) ∧ B + 2 ≤ W.heap.size ∧ Below B V W
set_option maxRecDepth 20000 in
set_option maxHeartbeats 1000000 in
theorem replayTag_any (d c : Nat → Nat) (len : Nat) (v : Value) (V : World) (hG : Glob V) (hd : ∀ j, d j < 256) (hl : 32 ≤ len) (hv : SliceN V v len c) :
    Calls Tryz.prog 78 #[.agg (bA 80 d), v] V fun e w' => e = .returned (.agg (bA 16 (hfF (rpK d) c 32))) ∧ Below V.heap.size V w' := by
  obtain ⟨V2, hV2⟩ : ∃ V2, (V.alloc (.cells (bA 80 d) 64)).alloc (.cells (bA 16 fun _ => 0) 23) = V2 := ⟨_, rfl⟩
  have hh := heap2c V (.cells (bA 80 d) 64) (.cells (bA 16 fun _ => 0) 23)
  have bl := below2c V (.cells (bA 80 d) 64) (.cells (bA 16 fun _ => 0) 23)
  rw [hV2] at hh bl
  have s2 : V2.heap.size = V.heap.size + 2 := by rw [← hV2]; simp
  obtain ⟨ao, cap, rfl, hc1, _, hc3⟩ := hv.shape
  obtain ⟨b, off, rfl, _, _⟩ := hc3 (by omega)
  have hv32 := takeN hv hl
  obtain ⟨tg, htg⟩ : ∃ tg, hfF (rpK d) c 32 = tg := ⟨_, rfl⟩
  have R0 : Hid (rtT V.heap.size d (.slice (some ⟨b, off, none⟩) len cap) (.slice (some ⟨b, off, none⟩) 32 cap) tg V (fun _ => false) (fun _ => undef) V2) := ⟨fun q => (by cases q), fun q => (by cases q), fun q => (by cases q), fun q => (by cases q), fun q => (by cases q), fun _ => hh.2, fun q => (by cases q), hh.1, by omega, bl⟩
  have HV : Hid (Glob V ∧ (∀ j, d j < 256) ∧ SliceN V (.slice (some ⟨b, off, none⟩) 32 cap) 32 c ∧ 32 ≤ cap ∧ hfF (rpK d) c 32 = tg) := ⟨hG, hd, hv32, by omega, htg⟩
  have z16 := zero16
  rw [htg]
  clear hG hd hl hv hh bl s2 hc1 hc3 hv32 htg
  go_enter Tryz.func78, Tryz.ntmps78
  go_wp2_with fail
  refine wp_region_detX 10 [(0, 5), (1, 6), (2, 7), (3, 8), (4, 9)] (rtT V.heap.size d (.slice (some ⟨b, off, none⟩) len cap) (.slice (some ⟨b, off, none⟩) 32 cap) tg V) (fun _ => undef) (by kernel_rfl) (by kernel_rfl) rfl (by kernel_rfl) (by decide) (by decide) ?_ ?_ ?_
  · obtain ⟨_, _, _, _, _, t5, _, tk, ts, tb⟩ := R0.out
    exact ⟨fun q => (by cases q), fun q => (by cases q), fun q => (by cases q), fun q => (by cases q), fun q => (by cases q), fun q => t5 q, fun q => (by cases q), tk, ts, tb.drew⟩
  · intro j hj l x a W hl hf hdep hl2 hcl _ hT
    obtain ⟨t0, t1, t2, t3, t4, t5, t5', tk, ts, tb⟩ := hT
    match j, hj with
    | 0, _ => exact stepV rfl rfl (execFldK2 rfl (hf 2 (by decide))) ⟨_, ⟨_, rfl, rfl⟩, fun _ => rfl, t1, t2, t3, t4, t5, t5', tk, ts, tb⟩
    | 1, _ => exact stepV rfl rfl (execLdPart (k := 32) rfl ((hdep _ rfl 0 rfl _ rfl _ rfl).trans (t0 (hl2 _ rfl 0 rfl))) tk (by omega) Tryz.underlying57 rfl (by kernel_rfl)) ⟨_, ⟨_, rfl, rfl⟩, t0, fun _ => rfl, t2, t3, t4, t5, t5', tk, ts, tb⟩
    | 2, _ => exact stepV rfl rfl (execMvB rfl (hf 1 (by decide))) ⟨_, ⟨_, rfl, rfl⟩, t0, t1, fun _ => rfl, t3, t4, t5, t5', tk, ts, tb⟩
    | 3, _ => exact stepV rfl rfl (By8.execSlH rfl ((hdep _ rfl 2 rfl _ rfl _ rfl).trans (t2 (hl2 _ rfl 2 rfl))) rfl (sl_h32 b off len cap HV.out.2.2.2.1 W)) ⟨_, ⟨_, rfl, rfl⟩, t0, t1, t2, fun _ => rfl, t4, t5, t5', tk, ts, tb⟩
    | 4, _ =>
      have n5 : l 5 = false := by
        cases h : l 5 with
        | false => rfl
        | true =>
          have := hcl 5 _ rfl h 4 rfl
          rw [hl] at this
          cases this
      refine stepC rfl rfl (execCall2 Tryz.func56 (by kernel_rfl) (by kernel_rfl) rfl ((hdep _ rfl 1 rfl _ rfl _ rfl).trans (t1 (hl2 _ rfl 1 rfl))) ((hdep _ rfl 3 rfl _ rfl _ rfl).trans (t3 (hl2 _ rfl 3 rfl)))) (shortTag_any (fun j => d (48 + j)) c 32 _ W (HV.out.1.below tb HV.out.1.sz) (fun j _ => HV.out.2.1 _) (HV.out.2.2.1.on tb) (by omega)) fun e w' h => ?_
      obtain ⟨e1, bw⟩ := h
      refine ⟨_, e1, _, ⟨_, rfl, rfl⟩, t0, t1, t2, t3, fun _ => ?_, fun _ => ?_, fun q => ?_, ?_, Nat.le_trans ts bw.size, tb.trans (bw.mono tb.size)⟩
      · show Value.agg _ = _
        rw [← HV.out.2.2.2.2]
        rfl
      · rw [bw.block _ (by omega)]; exact t5 n5
      · have q' : l 5 = true := q
        rw [n5] at q'; cases q'
      · rw [bw.block _ (by omega)]; exact tk
    | 5, _ =>
      have r5 := t5 hl
      refine stepS rfl rfl (execStAll (cells := bA 16 tg) rfl (hf 4 (by decide)) ((hdep _ rfl 4 rfl _ rfl _ rfl).trans (t4 (hl2 _ rfl 4 rfl))) r5 (by rw [bA_size, bA_size]) (size16 _) (bA_one _ _)) ⟨_, ⟨_, rfl, rfl⟩, t0, t1, t2, t3, t4, fun q => (by cases q), fun _ => setRow_heap _ _ _ _ _ _ r5, ?_, ?_, below4 tb (by omega) _⟩
      · rw [setRow_other _ _ _ _ (by omega)]; exact tk
      · simpa using ts
    | n + 6, h => exact absurd h (by simp)
  · intro l x W hall hT
    obtain ⟨_, _, _, _, _, _, t5', tk, ts, tb⟩ := hT
    have R6 : Hid (W.heap[V.heap.size + 1]? = some (.cells (bA 16 tg) 23) ∧ Below V.heap.size V W) := ⟨t5' (hall 5 (by simp)), tb⟩
    clear hall tb ts tk t5'
    simp only [putP, Act.put, List.setIfInBounds_toArray, List.set_cons_succ, List.set_cons_zero]
    go_wp2
    refine bodyPost_ret (results_cell Tryz.results78 _ _ (V.heap.size + 1) 23 _ (0, 0) _ rfl R6.out.1 Tryz.underlying23 rfl (size16 _)) rfl ⟨rfl, R6.out.2⟩
end Go.Proofs.YtnjmcknanlbpdaaGreatDoor.Oni
