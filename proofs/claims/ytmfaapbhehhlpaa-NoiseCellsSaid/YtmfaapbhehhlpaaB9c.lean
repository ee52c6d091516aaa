import Derived.Test.YtmfaapbhehhlpaaP9e
import Derived.Test.YtmfaapbhehhlpaaI4
import Derived.Test.YtmfaapbhehhlpaaO1
import Derived.Test.YtmfaapbhehhlpaaX7b
namespace Go.Proofs.Ytmfaapbhehhlpaa.Noi
open Go.RowKit Gf8 Aes By8 Cel Cf Tap Drw Prm
/- The reference's Size, Cells. Written by tools/mkB9c.py. -/

/-- The cells: their size ahead of padding, the stream, each one's bytes; what is refused. -/
def szC (l : Nat) : Nat := if l = 0 then 48 else 82 + 34 * (l - 1)
def stC (p : Nat → Nat) : Nat → Nat := maskF (kw fun j => p (2 + j)) 0 fun _ => 0
def clC (p : Nat → Nat) (l i : Nat) : Nat → Nat := cellF (if l = 0 then 1 else 0) headO (szC l) fun j => stC p (i * szC l + j)
def clE (L : Nat) (nc nl : Int) : Nat := if 0 ≤ nc ∧ nc ≤ 16 ∧ 0 ≤ nl ∧ nl < 8 then (if 18 ≤ L then 0 else 3) else 2
theorem sz_pos {l : Nat} (h : 1 ≤ l) : szC l = 82 + 34 * (l - 1) := if_neg (by omega)
theorem szC_le {l : Nat} (h : l ≤ 7) : szC l ≤ 286 := by
  unfold szC
  by_cases q : l = 0
  · rw [if_pos q]; omega
  · rw [if_neg q]; omega
theorem szC_ge (l : Nat) : 48 ≤ szC l := by
  unfold szC
  by_cases q : l = 0
  · rw [if_pos q]; omega
  · rw [if_neg q]; omega
theorem cl_0 {p : Nat → Nat} {l i : Nat} (h : l = 0) (j : Nat) : clC p l i j = cellF 1 headO (szC l) (fun j => stC p (i * szC l + j)) j := by
  unfold clC
  rw [if_pos h]
theorem cl_1 {p : Nat → Nat} {l i : Nat} (h : ¬ l = 0) (j : Nat) : clC p l i j = cellF 0 headO (szC l) (fun j => stC p (i * szC l + j)) j := by
  unfold clC
  rw [if_neg h]
theorem up0 (g : Nat → Nat) (i : Nat) : uptoC g 0 i = 0 := if_neg (by omega)
theorem be_0 (j : Nat) : be 0 j = 0 := by
  unfold be
  rw [Nat.zero_div]
theorem wp_join {x y : Code} {Q : Exit → Act → World → Prop} {a : Act} {w : World} (R : Act → World → Prop) (h1 : x.wp Try.prog (fun e a w => e = .normal ∧ R a w) a w) (h2 : ∀ a w, R a w → y.wp Try.prog Q a w) : (Code.seq x y).wp Try.prog Q a w :=
  wp_seq (wp_mono h1 fun e a w ⟨he, hr⟩ => by
    subst he
    exact h2 a w hr)
section
variable {o : Oper} {a : Act} {w : World}
theorem execAl16 (ho : o.op = .alloc 55) : (execOp a.eval o).run Try.prog w = .ok (.value (.pointer (some ⟨w.heap.size, 0, none⟩))) (w.alloc (.cells (bA 16 fun _ => 0) 55)) := by
  have h := zero16
  unfold execOp
  simp only [ho]
  simp [go_sem, h]
theorem execLd16 {x : Operand} {g : Nat} {f : Nat → Nat} {t : TypeId} (ho : o.op = .load 55 x) (hx : a.eval x = .pointer (some ⟨g, 0, none⟩)) (hg : w.heap[g]? = some (.cells (bA 16 f) t)) : (execOp a.eval o).run Try.prog w = .ok (.value (.agg (bA 16 f))) w :=
  execLoadMid ho hx (fun j v hj => by
    rw [cell_of_row _ _ _ _ _ _ hg, Nat.zero_add]
    rw [← List.getElem?_toArray] at hj
    exact hj) Try.underlying55 rfl (by rw [bytesL_len]; kernel_rfl)
end
/-- The reference's Stream from nought on. -/
theorem rstream15 (key : Nat → Nat) (n : Nat) (V : World) (hk : ∀ i, i < 16 → key i < 256) (hn : n ≤ 65536) : Calls Try.prog 28 #[.agg (bA 16 key), .agg (bA 16 (be 0)), .int .i64 ((n : Nat) : Int)] V fun e w' => ∃ r, e = .returned r ∧ SliceN w' r n (maskF (kw key) 0 fun _ => 0) ∧ Below V.heap.size V w' :=
  Calls.mono (rstream_any key 0 ((n : Nat) : Int) V hk) fun e w' ⟨r, g1, g2, g3⟩ => by
    have es : slen ((n : Nat) : Int) = n := by unfold slen; rw [if_pos (by omega)]; rfl
    rw [es] at g2
    exact ⟨r, g1, g2, g3⟩
theorem sz_some {W : World} {v : Value} {n : Nat} {f : Nat → Nat} (h : SliceN W v n f) (hn : 0 < n) : ∃ b o c, v = .slice (some ⟨b, o, none⟩) n c ∧ n ≤ c := by
  obtain ⟨⟨a, c, e, h1, _, h3⟩, _⟩ := h
  obtain ⟨b, o, e2, _⟩ := h3 hn
  exact ⟨b, o, c, by rw [e, e2], h1⟩
theorem piece15 {W : World} {v : Value} {b o c n l m : Nat} {f : Nat → Nat} (e : v = .slice (some ⟨b, o, none⟩) n c) (h : SliceN W v n f) (hl : l + m ≤ n) : SliceZ W (sliced (some ⟨b, o, none⟩) l (l + m) c 1) m (fun j => f (l + j)) := by
  subst e
  have h2 := SliceN.sub h l (l + m) (by omega) hl
  rw [show l + m - l = m by omega] at h2
  refine ⟨h2, fun q1 q2 e => ?_⟩
  exact sl_no e
theorem shpB {W : World} {B n s : Nat} {t : TypeId} {v : Value} {xs : List Value} (h : W.ownsRow B t s v n xs) : ∃ g n c, v = .slice g n c := by
  rcases h.2 with ⟨rfl, _⟩ | ⟨g, c, _, rfl, _⟩
  · exact ⟨_, _, _, rfl⟩
  · exact ⟨_, _, _, rfl⟩
theorem one_shpB {v : Value} (h : ∃ g n c, v = .slice g n c) : v.oneCell' = true := by
  obtain ⟨_, _, _, rfl⟩ := h
  rfl
theorem lL_push {y : Nat → Value} {i : Nat} {r : Value} : lL (updX y i r) (i + 1) = lL y i ++ #[r].toList := by
  apply List.ext_getElem?
  intro j
  by_cases h : j < i
  · rw [lL_get _ _ _ (by omega), List.getElem?_append_left (by rw [lL_len]; exact h), lL_get _ _ _ h, updX_lt _ _ h]
  · rw [List.getElem?_append_right (by rw [lL_len]; omega), lL_len]
    by_cases h2 : j = i
    · subst h2
      rw [lL_get _ _ _ (by omega), updX_at, Nat.sub_self]
      rfl
    · rw [List.getElem?_eq_none (by rw [lL_len]; omega), List.getElem?_eq_none (by simp; omega)]
theorem fam_overL {B C m n s : Nat} {x : Nat → Value} {nn : Nat → Nat} {ff : Nat → Nat → Nat} {v2 : Value} {ys : List Value} {W W' : World} (h : Fam B m x nn ff W) (h2 : W.ownsRow C 31 s v2 n ys) (gr : W.grownBy W' v2.ownBlock) : Fam B m x nn ff W' := ⟨fun t ht => Drw.own_overT (h.rows t ht) h2 gr (by decide), h.dis⟩
theorem fam_add9 {B C i : Nat} {y : Nat → Value} {f : Nat → Nat → Nat} {r : Value} {W : World} (h : Fam B i y (fun _ => 320) f W) (hlo : ∀ t, t < i → ∀ b, (y t).ownBlock = some b → b < C) (hr : W.ownsRow C 5 1 r 320 (bytesL 320 (f i))) (hB : B ≤ C) : Fam B (i + 1) (updX y i r) (fun _ => 320) f W := by
  refine ⟨fun t ht => ?_, fun s t hs ht hst b e1 e2 => ?_⟩
  · by_cases e : t = i
    · subst e; rw [updX_at]; exact own_base hr hB
    · rw [updX_lt _ _ (by omega)]; exact h.rows t (by omega)
  · by_cases es : s = i
    · subst es
      rw [updX_at] at e1
      rw [updX_lt _ _ (by omega)] at e2
      have a1 := hlo t (by omega) b e2
      have a2 := (hr.lt b e1).1
      omega
    · rw [updX_lt _ _ (by omega)] at e1
      by_cases et : t = i
      · subst et
        rw [updX_at] at e2
        have a1 := hlo s (by omega) b e1
        have a2 := (hr.lt b e2).1
        omega
      · rw [updX_lt _ _ (by omega)] at e2
        exact h.dis s t (by omega) (by omega) hst b e1 e2
set_option maxRecDepth 100000 in
set_option maxHeartbeats 4000000 in
/-- The reference's Size. -/
theorem rsize15 (l : Nat) (V : World) (h1 : 1 ≤ l) (h2 : l ≤ 8) :
    Calls Try.prog 27 #[.int .i64 ((l : Nat) : Int)] V fun e w' => e = .returned (.int .i64 ((szC l : Nat) : Int)) ∧ Below V.heap.size V w' := by
  go_enter Try.func27, Try.ntmps27
  refine wp_seq ?_
  refine wo_ 13 [(0, .int .i64 ((l : Nat) : Int))] ?_
  rintro a A ⟨t0, -⟩
  refine wi_ A (h1_ t0) (rf_ [] (h1_ t0) ?_)
  rintro a A - ⟨t0, -⟩
  have BW : Below V.heap.size V V := Below.refl _ _
  refine wp_seq ?_
  refine wp_seq ?_
  refine wi_ A (h1_ t0) (rv_ 1 (.bool false) (fun a ee => execDec (execLtW (p := l) (q := 1) rfl (ee _) rfl) (decide_eq_false (by omega))) (rv_ 4 (.bool false) (fun a ee => execDec (execGtN (p := l) (q := 8) rfl (ee _) rfl) (decide_eq_false (by omega))) (rf_ [(8, .bool false)] (h1_ t0) ?_)))
  rintro a A ⟨t8, -⟩ ⟨t0, -⟩
  refine wp_cond_false t8 ?_
  refine wp_skip ?_
  clear t8
  refine wp_seq ?_
  refine wi_ A (h1_ t0) (rv_ 1 (.int .i64 ((l - 1 : Nat) : Int)) (fun a ee => By8.execSubI (p := l) (q := 1) rfl (ee _) rfl (by omega) (by omega)) (rv_ 2 (.int .i64 ((34 * (l - 1) : Nat) : Int)) (fun a ee => execMulN (p := 34) (q := l - 1) rfl rfl (ee _) (by omega)) (rv_ 3 (.int .i64 ((82 + 34 * (l - 1) : Nat) : Int)) (fun a ee => execAd8 (p := 82) (q := 34 * (l - 1)) rfl rfl (ee _) (by omega)) (rg_ [(2, .int .i64 ((82 + 34 * (l - 1) : Nat) : Int))] ?_))))
  rintro a A ⟨t2, -⟩
  rw [sz_pos h1]
  refine wp_ret ?_
  refine bodyPost_ret (results_tmp rfl _ _ _) A.2 ⟨?_, BW⟩
  show Ending.returned (a.eval (.tmp 2)) = _
  rw [t2]
set_option maxRecDepth 100000 in
set_option maxHeartbeats 4000000 in
/-- The reference's Cells. -/
theorem rcells (p : Nat → Nat) (L : Nat) (nc nl : Int) (pv : Value) (V : World) (FP : SliceN V pv L p) :
    Calls Try.prog 15 #[pv, .int .i64 nc, .int .i64 nl] V fun e w' => ∃ r y, e = .returned (.tuple #[r, .int .i64 ((clE L nc nl : Nat) : Int)]) ∧ w'.ownsRow V.heap.size 31 1 r (zl (clE L nc nl) nc.toNat) (lL y (zl (clE L nc nl) nc.toNat)) ∧ Fam V.heap.size (zl (clE L nc nl) nc.toNat) y (fun _ => 320) (clC p nl.toNat) w' ∧ Below V.heap.size V w' := by
  go_enter Try.func15, Try.ntmps15
  refine wp_seq ?_
  refine wo_ 88 [(0, pv), (1, .int .i64 nc), (2, .int .i64 nl)] ?_
  rintro a A ⟨t0, t1, t2, -⟩
  refine wi_ A (h3_ t0 t1 t2) (rf_ [] (h3_ t0 t1 t2) ?_)
  rintro a A - ⟨t0, t1, t2, -⟩
  have BW : Below V.heap.size V V := Below.refl _ _
  refine wp_seq ?_
  refine wp_seq ?_
  by_cases q0 : nc < 0
  · refine wi_ A (h3_ t0 t1 t2) (rv_ 1 (.bool true) (fun a ee => execLtCt (q := 0) rfl (ee _) q0) (rg_ [(31, .bool true)] ?_))
    rintro a A ⟨t31, -⟩
    refine wp_cond_true t31 ?_
    clear t31
    refine wp_seq ?_
    refine wi_ A h0_ (rg_ [(6, .slice none 0 0), (7, .int .i64 ((2 : Nat) : Int))] ?_)
    rintro a A ⟨t6, t7, -⟩
    have hE : clE L nc nl = 2 := if_neg (by omega)
    rw [hE, zl_no (by decide)]
    refine wp_ret ?_
    repeat (first | with_reducible refine ret_in ?_ | with_reducible refine ret_then ?_)
    refine bodyPost_ret (results_tmp2 rfl _ _ _) A.2 ⟨_, fun _ => undef, ?_, World.ownsRow_nil _ _ _ _, Fam.none _ _ _ _ _, BW⟩
    show Ending.returned (.tuple #[a.eval (.tmp 6), a.eval (.tmp 7)]) = _
    rw [t6, t7]
  · by_cases q1 : 16 < nc
    · refine wi_ A (h3_ t0 t1 t2) (rv_ 1 (.bool false) (fun a ee => execLtCf (q := 0) rfl (ee _) q0) (rv_ 4 (.bool true) (fun a ee => execGtCt (q := 16) rfl (ee _) q1) (rg_ [(31, .bool true)] ?_)))
      rintro a A ⟨t31, -⟩
      refine wp_cond_true t31 ?_
      clear t31
      refine wp_seq ?_
      refine wi_ A h0_ (rg_ [(6, .slice none 0 0), (7, .int .i64 ((2 : Nat) : Int))] ?_)
      rintro a A ⟨t6, t7, -⟩
      have hE : clE L nc nl = 2 := if_neg (by omega)
      rw [hE, zl_no (by decide)]
      refine wp_ret ?_
      repeat (first | with_reducible refine ret_in ?_ | with_reducible refine ret_then ?_)
      refine bodyPost_ret (results_tmp2 rfl _ _ _) A.2 ⟨_, fun _ => undef, ?_, World.ownsRow_nil _ _ _ _, Fam.none _ _ _ _ _, BW⟩
      show Ending.returned (.tuple #[a.eval (.tmp 6), a.eval (.tmp 7)]) = _
      rw [t6, t7]
    · by_cases q2 : nl < 0
      · refine wi_ A (h3_ t0 t1 t2) (rv_ 1 (.bool false) (fun a ee => execLtCf (q := 0) rfl (ee _) q0) (rv_ 4 (.bool false) (fun a ee => execGtCf (q := 16) rfl (ee _) q1) (rv_ 8 (.bool true) (fun a ee => execLtCt (q := 0) rfl (ee _) q2) (rg_ [(31, .bool true)] ?_))))
        rintro a A ⟨t31, -⟩
        refine wp_cond_true t31 ?_
        clear t31
        refine wp_seq ?_
        refine wi_ A h0_ (rg_ [(6, .slice none 0 0), (7, .int .i64 ((2 : Nat) : Int))] ?_)
        rintro a A ⟨t6, t7, -⟩
        have hE : clE L nc nl = 2 := if_neg (by omega)
        rw [hE, zl_no (by decide)]
        refine wp_ret ?_
        repeat (first | with_reducible refine ret_in ?_ | with_reducible refine ret_then ?_)
        refine bodyPost_ret (results_tmp2 rfl _ _ _) A.2 ⟨_, fun _ => undef, ?_, World.ownsRow_nil _ _ _ _, Fam.none _ _ _ _ _, BW⟩
        show Ending.returned (.tuple #[a.eval (.tmp 6), a.eval (.tmp 7)]) = _
        rw [t6, t7]
      · by_cases q3 : 8 ≤ nl
        · refine wi_ A (h3_ t0 t1 t2) (rv_ 1 (.bool false) (fun a ee => execLtCf (q := 0) rfl (ee _) q0) (rv_ 4 (.bool false) (fun a ee => execGtCf (q := 16) rfl (ee _) q1) (rv_ 8 (.bool false) (fun a ee => execLtCf (q := 0) rfl (ee _) q2) (rv_ 12 (.bool true) (fun a ee => execGeIt rfl (ee _) rfl q3) (rg_ [(31, .bool true)] ?_)))))
          rintro a A ⟨t31, -⟩
          refine wp_cond_true t31 ?_
          clear t31
          refine wp_seq ?_
          refine wi_ A h0_ (rg_ [(6, .slice none 0 0), (7, .int .i64 ((2 : Nat) : Int))] ?_)
          rintro a A ⟨t6, t7, -⟩
          have hE : clE L nc nl = 2 := if_neg (by omega)
          rw [hE, zl_no (by decide)]
          refine wp_ret ?_
          repeat (first | with_reducible refine ret_in ?_ | with_reducible refine ret_then ?_)
          refine bodyPost_ret (results_tmp2 rfl _ _ _) A.2 ⟨_, fun _ => undef, ?_, World.ownsRow_nil _ _ _ _, Fam.none _ _ _ _ _, BW⟩
          show Ending.returned (.tuple #[a.eval (.tmp 6), a.eval (.tmp 7)]) = _
          rw [t6, t7]
        · refine wi_ A (h3_ t0 t1 t2) (rv_ 1 (.bool false) (fun a ee => execLtCf (q := 0) rfl (ee _) q0) (rv_ 4 (.bool false) (fun a ee => execGtCf (q := 16) rfl (ee _) q1) (rv_ 8 (.bool false) (fun a ee => execLtCf (q := 0) rfl (ee _) q2) (rv_ 12 (.bool false) (fun a ee => execGeIf rfl (ee _) rfl q3) (rf_ [(31, .bool false)] (h3_ t0 t1 t2) ?_)))))
          rintro a A ⟨t31, -⟩ ⟨t0, t1, t2, -⟩
          refine wp_cond_false t31 ?_
          refine wp_skip ?_
          clear t31
          obtain ⟨n, rfl⟩ : ∃ n : Nat, nc = n := ⟨nc.toNat, by omega⟩
          obtain ⟨l, rfl⟩ : ∃ l : Nat, nl = l := ⟨nl.toNat, by omega⟩
          have hn16 : n ≤ 16 := by omega
          have hl7 : l ≤ 7 := by omega
          refine wp_seq ?_
          refine wp_seq ?_
          by_cases hL18 : 18 ≤ L
          · refine wi_ A (h3_ t0 t1 t2) (rv_ 1 (.int .i64 ((L : Nat) : Int)) (fun a ee => execLenV (len := L) rfl (ee _) (shp9 FP)) (rv_ 2 (.bool false) (fun a ee => execDec (execLtW (p := L) (q := 18) rfl (ee _) rfl) (decide_eq_false (by omega))) (rf_ [(34, .bool false)] (h3_ t0 t1 t2) ?_)))
            rintro a A ⟨t34, -⟩ ⟨t0, t1, t2, -⟩
            refine wp_cond_false t34 ?_
            refine wp_skip ?_
            clear t34
            have hE : clE L ((n : Nat) : Int) ((l : Nat) : Int) = 0 := (if_pos (by omega)).trans (if_pos hL18)
            rw [hE, zl_ok]
            have hpb : ∀ j, j < L → p j < 256 := FP.bytes
            refine wp_seq ?_
            refine wi_ A (h3_ t0 t1 t2) (rf_ [(8, .int .i64 ((48 : Nat) : Int))] (h3_ t0 t1 t2) ?_)
            rintro a A ⟨t8, -⟩ ⟨t0, t1, t2, -⟩
            have BB : Below V.heap.size V V := Below.refl _ _
            refine wp_join (fun a W => (a.tmps.size = 88 ∧ a.defers = []) ∧ a.eval (.tmp 0) = pv ∧ a.eval (.tmp 1) = .int .i64 ((n : Nat) : Int) ∧ a.eval (.tmp 2) = .int .i64 ((l : Nat) : Int) ∧ a.eval (.tmp 8) = .int .i64 ((szC l : Nat) : Int) ∧ Below V.heap.size V W) ?_ ?_
            · refine wp_seq ?_
              by_cases hl0 : l = 0
              · refine wi_ A (h4_ t0 t1 t2 t8) (rv_ 1 (.bool false) (fun a ee => execDec (execGtN (p := l) (q := 0) rfl (ee _) rfl) (decide_eq_false (by omega))) (rf_ [(36, .bool false)] (h4_ t0 t1 t2 t8) ?_))
                rintro a A ⟨t36, -⟩ ⟨t0, t1, t2, t8, -⟩
                refine wp_cond_false t36 ?_
                refine wp_skip ?_
                exact ⟨rfl, A, t0, t1, t2, by rw [t8, hl0]; rfl, BB⟩
              · refine wi_ A (h4_ t0 t1 t2 t8) (rv_ 1 (.bool true) (fun a ee => execDec (execGtN (p := l) (q := 0) rfl (ee _) rfl) (decide_eq_true (by omega))) (rf_ [(36, .bool true)] (h4_ t0 t1 t2 t8) ?_))
                rintro a A ⟨t36, -⟩ ⟨t0, t1, t2, t8, -⟩
                refine wp_cond_true t36 ?_
                refine wi_ A (h4_ t0 t1 t2 t8) (rc_ 1 (rsize15 l V (by omega) (by omega)) (cb_ fun X7 bQ => ?_))
                replace BB := BB.trans (bQ.mono BB.size)
                clear bQ
                refine rf_ [(8, .int .i64 ((szC l : Nat) : Int))] (h3_ t0 t1 t2) ?_
                rintro a A ⟨t8, -⟩ ⟨t0, t1, t2, -⟩
                exact ⟨rfl, A, t0, t1, t2, t8, BB⟩
            · clear A t0 t1 t2 t8 BB a
              rintro a XJ ⟨A, t0, t1, t2, t8, BB⟩
              have hsz : szC l ≤ 286 := szC_le hl7
              have hsz1 : 48 ≤ szC l := szC_ge l
              refine wp_seq ?_
              obtain ⟨g9, egg9⟩ : ∃ z_ : Nat, XJ.heap.size = z_ := ⟨_, rfl⟩
              refine wi_ A (h4_ t0 t1 t2 t8) (rs_ 0 (fun a ee => ?_))
              refine stepV rfl rfl (execAl16 rfl) ⟨.pointer (some ⟨g9, 0, none⟩), ⟨_, rfl, by subst egg9; rfl⟩, fun X8_1 hX => ?_⟩
              have bQ : Below XJ.heap.size XJ X8_1 := by subst hX egg9; exact (belNew XJ _)
              have F9 : X8_1.heap[g9]? = some (.cells (bA 16 (fun _ => 0)) 55) := by subst hX egg9; exact heapNew XJ _
              have Fge9 : (V.heap.size ≤ g9) := by subst hX egg9; exact (BB).size
              replace BB := BB.trans (bQ.mono BB.size)
              clear bQ hX egg9 ee a
              obtain ⟨g10, egg10⟩ : ∃ z_ : Nat, X8_1.heap.size = z_ := ⟨_, rfl⟩
              refine rs_ 1 (fun a ee => ?_)
              refine stepV rfl rfl (execAl16 rfl) ⟨.pointer (some ⟨g10, 0, none⟩), ⟨_, rfl, by subst egg10; rfl⟩, fun X8 hX => ?_⟩
              have bQ : Below X8_1.heap.size X8_1 X8 := by subst hX egg10; exact (belNew X8_1 _)
              have F10 : X8.heap[g10]? = some (.cells (bA 16 (fun _ => 0)) 55) := by subst hX egg10; exact heapNew X8_1 _
              have Fge10 : (V.heap.size ≤ g10) := by subst hX egg10; exact (BB).size
              have Fn10F9 : (g9 ≠ g10) := by subst hX egg10; exact ne9 F9
              replace F9 := (on9 F9 bQ)
              replace BB := BB.trans (bQ.mono BB.size)
              clear bQ hX egg10 ee a
              refine rf_ [(9, .pointer (some ⟨g9, 0, none⟩)), (10, .pointer (some ⟨g10, 0, none⟩))] (h4_ t0 t1 t2 t8) ?_
              rintro a A ⟨t9, t10, -⟩ ⟨t0, t1, t2, t8, -⟩
              refine wp_seq ?_
              refine wp_seq ?_
              refine wi_ A (h6_ t0 t1 t2 t8 t9 t10) (rf_ [(11, .int .i64 ((0 : Nat) : Int))] (h6_ t0 t1 t2 t8 t9 t10) ?_)
              rintro a A ⟨t11, -⟩ ⟨t0, t1, t2, t8, t9, t10, -⟩
              have F9u : X8.heap[g9]? = some (.cells (bA 16 (uptoC (fun j => p (2 + j)) 0)) 55) := by rw [F9]; exact congrArg some (congrArg (fun z => Obj.cells z 55) (bA_congr fun i _ => (up0 _ i).symm))
              clear F9
              have F9 := F9u
              clear F9u
              refine wp_block ?_
              refine wp_loop (fun a W => ∃ (i : Nat), i ≤ 16 ∧ (a.tmps.size = 88 ∧ a.defers = []) ∧ a.eval (.tmp 0) = pv ∧ a.eval (.tmp 1) = .int .i64 ((n : Nat) : Int) ∧ a.eval (.tmp 2) = .int .i64 ((l : Nat) : Int) ∧ a.eval (.tmp 8) = .int .i64 ((szC l : Nat) : Int) ∧ a.eval (.tmp 9) = .pointer (some ⟨g9, 0, none⟩) ∧ a.eval (.tmp 10) = .pointer (some ⟨g10, 0, none⟩) ∧ a.eval (.tmp 11) = .int .i64 ((i : Nat) : Int) ∧ Below V.heap.size V W ∧ W.heap[g9]? = some (.cells (bA 16 (uptoC (fun j => p (2 + j)) i)) 55) ∧ W.heap[g10]? = some (.cells (bA 16 (fun _ => 0)) 55)) (fun a _ => 16 - (intOf (a.eval (.tmp 11))).toNat) ⟨0, Nat.zero_le _, A, t0, t1, t2, t8, t9, t10, t11, BB, F9, F10⟩ ?_
              clear A t0 t1 t2 t8 t9 t10 t11 BB F9 F10 a
              rintro a XL10 ⟨i, hi, A, t0, t1, t2, t8, t9, t10, t11, BB, F9, F10⟩
              have esi := t11
              refine wp_seq ?_
              refine wp_seq ?_
              refine wi_ A (h7_ t0 t1 t2 t8 t9 t10 t11) (rv_ 1 (.bool (decide (i < 16))) (fun a ee => execLtW (p := i) (q := 16) rfl (ee _) rfl) (rf_ [(40, .bool (decide (i < 16)))] (h7_ t0 t1 t2 t8 t9 t10 t11) ?_))
              rintro a A ⟨t40, -⟩ ⟨t0, t1, t2, t8, t9, t10, t11, -⟩
              by_cases lti : i < 16
              · rw [decide_eq_true lti] at t40
                refine wp_cond_true t40 ?_
                refine wp_skip ?_
                clear t40
                refine wp_seq ?_
                refine wp_block ?_
                obtain ⟨ppb, ppo, ppc, epp, hppb, hppc⟩ := open_slB FP (by omega)
                have cpp : ∀ k, k < L → ∀ X, Below V.heap.size V X → X.cell? ⟨ppb, ppo + k, none⟩ = some (.int .u8 (((p) k : Nat) : Int)) := fun k hk X hX => by rw [cell_below hX hppb]; exact hppc k hk
                refine wi_ A (h7_ t0 t1 t2 t8 t9 t10 t11) (rv_ 3 (.int .i64 ((2 + i : Nat) : Int)) (fun a ee => execAd8 (p := 2) (q := i) rfl rfl (ee _) (by omega)) (rv_ 4 (.pointer (some ⟨ppb, ppo + (2 + i), none⟩)) (fun a ee => execIdxB9 (k := 2 + i) rfl ((ee _).trans epp) (ee _) (by omega)) (rv_ 5 (.int .u8 ((p (2 + i) : Nat) : Int)) (fun a ee => execLdB rfl (ee _) (cpp (2 + i) (by omega) XL10 BB)) (rv_ 6 (.pointer (some ⟨g9, i, none⟩)) (fun a ee => execIdx16 (k := i) rfl (ee _) (ee _) lti) (rs_ 7 (fun a ee => ?_))))))
                refine stepS rfl rfl (execStB rfl (ee _) (ee _) (cellN F9 lti) (frozen4 F9)) ⟨_, ⟨_, rfl, rfl⟩, fun X12 hX => ?_⟩
                obtain ⟨BB, F10, F9b⟩ : Below V.heap.size V X12 ∧ X12.heap[g10]? = some (.cells (bA 16 (fun _ => 0)) 55) ∧ X12.heap[g9]? = some (.cells (bA 16 (uptoC (fun j => p (2 + j)) (i + 1))) 55) := by subst hX; exact ⟨(BB).setCell Fge9 _, (by rw [heap4o _ F9 (Ne.symm Fn10F9)]; exact F10), (by rw [heap4 _ F9, bA_set, updN_upto])⟩
                clear F9 hX ee a
                refine rf_ [] (h7_ t0 t1 t2 t8 t9 t10 t11) ?_
                rintro a A - ⟨t0, t1, t2, t8, t9, t10, t11, -⟩
                refine wi_ A (h7_ t0 t1 t2 t8 t9 t10 t11) (rv_ 1 (.int .i64 ((i + 1 : Nat) : Int)) (fun a ee => execAd8 (p := i) (q := 1) rfl (ee _) rfl (by omega)) (rf_ [(11, .int .i64 ((i + 1 : Nat) : Int))] (h6_ t0 t1 t2 t8 t9 t10) ?_))
                rintro a A ⟨t11, -⟩ ⟨t0, t1, t2, t8, t9, t10, -⟩
                exact ⟨⟨i + 1, lti, A, t0, t1, t2, t8, t9, t10, t11, BB, F9b, F10⟩, by show 16 - (intOf (a.eval (.tmp 11))).toNat < 16 - (intOf (Act.eval _ (.tmp 11))).toNat; rw [t11, esi]; show 16 - (i + 1) < 16 - i; omega⟩
              · rw [decide_eq_false lti] at t40
                refine wp_cond_false t40 ?_
                refine wp_exit ?_
                first | with_reducible refine exit_in ?_ | with_reducible refine exit_then (exit_in ?_) | with_reducible refine exit_then (exit_then (exit_in ?_)) | refine exit_in ?_ | refine exit_then (exit_in ?_) | refine exit_then (exit_then (exit_in ?_))
                clear t40 esi
                have F9c : XL10.heap[g9]? = some (.cells (bA 16 (fun j => p (2 + j))) 55) := by rw [F9]; exact congrArg some (congrArg (fun z => Obj.cells z 55) (bA_congr fun k hk => if_pos (by omega)))
                clear F9 t11
                have F10c : XL10.heap[g10]? = some (.cells (bA 16 (be 0)) 55) := by rw [F10]; exact congrArg some (congrArg (fun z => Obj.cells z 55) (bA_congr fun k _ => (be_0 k).symm))
                clear F10
                have hns : n * szC l ≤ 16 * 286 := Nat.mul_le_mul hn16 hsz
                refine wp_seq ?_
                refine wi_ A (h6_ t0 t1 t2 t8 t9 t10) (rv_ 0 (.agg (bA 16 (fun j => p (2 + j)))) (fun a ee => execLd16 rfl (ee _) F9c) (rv_ 1 (.agg (bA 16 (be 0))) (fun a ee => execLd16 rfl (ee _) F10c) (rv_ 4 (.int .i64 ((n * (szC l) : Nat) : Int)) (fun a ee => execMulN (p := n) (q := szC l) rfl (ee _) (ee _) (by omega)) (rc_ 5 (rstream15 (fun j => p (2 + j)) (n * szC l) XL10 (fun i hi => hpb _ (by omega)) (by omega)) fun e X13 hh => ?_))))
                obtain ⟨s_, he, hk, hb⟩ := hh
                refine ⟨_, he, ?_⟩
                have bQ : Below XL10.heap.size XL10 X13 := hb
                have FXs : SliceN X13 s_ (n * szC l) (stC p) := hk
                replace F9c := (on9 F9c bQ)
                replace F10c := (on9 F10c bQ)
                replace BB := BB.trans (bQ.mono BB.size)
                clear bQ
                refine rf_ [(12, s_)] (h3_ t1 t2 t8) ?_
                rintro a A ⟨t12, -⟩ ⟨t1, t2, t8, -⟩
                clear F9c F10c
                replace FP := (FP.on BB)
                replace BW := BW.trans (BB.mono BW.size)
                clear BB
                have BB : Below X13.heap.size X13 X13 := Below.refl _ _
                refine wp_seq ?_
                refine wi_ A (h4_ t1 t2 t8 t12) (rf_ [(13, .slice none 0 0)] (h4_ t1 t2 t8 t12) ?_)
                rintro a A ⟨t13, -⟩ ⟨t1, t2, t8, t12, -⟩
                refine wp_seq ?_
                refine wp_seq ?_
                refine wi_ A (h5_ t1 t2 t8 t12 t13) (rf_ [(14, .int .i64 ((0 : Nat) : Int))] (h5_ t1 t2 t8 t12 t13) ?_)
                rintro a A ⟨t14, -⟩ ⟨t1, t2, t8, t12, t13, -⟩
                have FT : (X13.ownsRow X13.heap.size 31 1 (.slice none 0 0) (0) (lL (fun _ => undef) (0))) := World.ownsRow_nil _ _ _ _
                have FM : (Fam X13.heap.size (0) (fun _ => undef) (fun _ => 320) (clC p l) X13) := Fam.none _ _ _ _ _
                refine wp_block ?_
                refine wp_loop (fun a W => ∃ (i : Nat) (v : Value) (y : Nat → Value), i ≤ n ∧ (a.tmps.size = 88 ∧ a.defers = []) ∧ a.eval (.tmp 1) = .int .i64 ((n : Nat) : Int) ∧ a.eval (.tmp 2) = .int .i64 ((l : Nat) : Int) ∧ a.eval (.tmp 8) = .int .i64 ((szC l : Nat) : Int) ∧ a.eval (.tmp 12) = s_ ∧ a.eval (.tmp 13) = v ∧ a.eval (.tmp 14) = .int .i64 ((i : Nat) : Int) ∧ Below X13.heap.size X13 W ∧ (W.ownsRow X13.heap.size 31 1 v (i) (lL (y) (i))) ∧ (Fam X13.heap.size (i) (y) (fun _ => 320) (clC p l) W)) (fun a _ => n - (intOf (a.eval (.tmp 14))).toNat) ⟨0, .slice none 0 0, fun _ => undef, Nat.zero_le _, A, t1, t2, t8, t12, t13, t14, BB, FT, FM⟩ ?_
                clear A t1 t2 t8 t12 t13 t14 BB FT FM a
                rintro a XL16 ⟨i, v, y, hi, A, t1, t2, t8, t12, t13, t14, BB, FT, FM⟩
                have esi := t14
                refine wp_seq ?_
                refine wp_seq ?_
                refine wi_ A (h6_ t1 t2 t8 t12 t13 t14) (rv_ 2 (.bool (decide (i < n))) (fun a ee => execLtW (p := i) (q := n) rfl (ee _) (ee _)) (rf_ [(58, .bool (decide (i < n)))] (h6_ t1 t2 t8 t12 t13 t14) ?_))
                rintro a A ⟨t58, -⟩ ⟨t1, t2, t8, t12, t13, t14, -⟩
                by_cases lti : i < n
                · rw [decide_eq_true lti] at t58
                  refine wp_cond_true t58 ?_
                  refine wp_skip ?_
                  clear t58
                  refine wp_seq ?_
                  refine wp_block ?_
                  have his : i * szC l + szC l ≤ n * szC l := by have h_ := Nat.mul_le_mul_right (szC l) lti; rw [Nat.succ_mul] at h_; exact h_
                  obtain ⟨sa, sb, scc, esv, hsc⟩ := sz_some FXs (show 0 < n * szC l by omega)
                  refine wp_seq ?_
                  refine wi_ A (h6_ t1 t2 t8 t12 t13 t14) (rv_ 3 (.int .i64 ((i * (szC l) : Nat) : Int)) (fun a ee => execMulN (p := i) (q := szC l) rfl (ee _) (ee _) (by omega)) (rv_ 6 (.int .i64 ((i * (szC l) : Nat) : Int)) (fun a ee => execMulN (p := i) (q := szC l) rfl (ee _) (ee _) (by omega)) (rv_ 8 (.int .i64 ((i * (szC l) + szC l : Nat) : Int)) (fun a ee => execAd8 (p := i * (szC l)) (q := szC l) rfl (ee _) (ee _) (by omega)) (rv_ 9 (sliced (some ⟨sa, sb, none⟩) (i * szC l) (i * szC l + szC l) scc 1) (fun a ee => By8.execSlLH rfl ((ee _).trans esv) (ee _) (ee _) (By8.slice_lh (some ⟨sa, sb, none⟩) (n * szC l) scc (i * szC l) (i * szC l + szC l) (by omega) (by omega) XL16)) (rf_ [(15, sliced (some ⟨sa, sb, none⟩) (i * szC l) (i * szC l + szC l) scc 1)] (h6_ t1 t2 t8 t12 t13 t14) ?_)))))
                  rintro a A ⟨t15, -⟩ ⟨t1, t2, t8, t12, t13, t14, -⟩
                  have hCC := BB.size
                  have hlo : ∀ t, t < i → ∀ b, (y t).ownBlock = some b → b < XL16.heap.size := fun t ht b q => ((FM.rows t ht).lt b q).2
                  refine wp_seq ?_
                  refine wi_ A (h7_ t1 t2 t8 t12 t13 t14 t15) (rc_ 1 (rnoise_any (fun j => stC p (i * szC l + j)) (szC l) _ XL16 (piece15 esv (FXs.on BB) his) (by omega)) fun e X19 hh => ?_)
                  obtain ⟨c_, he, hk, hb⟩ := hh
                  refine ⟨_, he, ?_⟩
                  have bQ : Below XL16.heap.size XL16 X19 := hb
                  have FC : (X19.ownsRow XL16.heap.size 5 1 c_ (okN 319 (szC l)) (bytesL (okN 319 (szC l)) (cellF 1 headO (szC l) (fun j => stC p (i * szC l + j))))) := hk
                  replace FT := (ownD_below FT bQ)
                  replace FM := (FM.on bQ)
                  replace BB := BB.trans (bQ.mono BB.size)
                  clear bQ
                  refine rf_ [(16, c_)] (h7_ t1 t2 t8 t12 t13 t14 t15) ?_
                  rintro a A ⟨t16, -⟩ ⟨t1, t2, t8, t12, t13, t14, t15, -⟩
                  refine wp_join (fun a W => ∃ c2, (a.tmps.size = 88 ∧ a.defers = []) ∧ a.eval (.tmp 1) = .int .i64 ((n : Nat) : Int) ∧ a.eval (.tmp 2) = .int .i64 ((l : Nat) : Int) ∧ a.eval (.tmp 8) = .int .i64 ((szC l : Nat) : Int) ∧ a.eval (.tmp 12) = s_ ∧ a.eval (.tmp 13) = v ∧ a.eval (.tmp 14) = .int .i64 ((i : Nat) : Int) ∧ a.eval (.tmp 16) = c2 ∧ Below X13.heap.size X13 W  ∧ (W.ownsRow X13.heap.size 31 1 v (i) (lL (y) (i))) ∧ (Fam X13.heap.size (i) (y) (fun _ => 320) (clC p l) W) ∧ W.ownsRow XL16.heap.size 5 1 c2 320 (bytesL 320 (clC p l i))) ?_ ?_
                  · refine wp_seq ?_
                    by_cases hl0 : l = 0
                    · refine wi_ A (h8_ t1 t2 t8 t12 t13 t14 t15 t16) (rv_ 1 (.bool false) (fun a ee => execDec (execGtN (p := l) (q := 0) rfl (ee _) rfl) (decide_eq_false (by omega))) (rf_ [(77, .bool false)] (h8_ t1 t2 t8 t12 t13 t14 t15 t16) ?_))
                      rintro a A ⟨t77, -⟩ ⟨t1, t2, t8, t12, t13, t14, t15, t16, -⟩
                      refine wp_cond_false t77 ?_
                      refine wp_skip ?_
                      exact ⟨rfl, _, A, t1, t2, t8, t12, t13, t14, t16, BB, FT, FM, by have h_ := FC; rw [show okN 319 (szC l) = 320 from if_pos (by omega)] at h_; rw [bytesL_congr (g := cellF 1 headO (szC l) (fun j => stC p (i * szC l + j))) (fun j _ => cl_0 hl0 j)]; exact h_⟩
                    · have hW19 : XL16.heap.size ≤ X19.heap.size := by
                        obtain ⟨_, _, _, q1_, q2_⟩ := ownL_some9 FC (show 0 < okN 319 (szC l) by rw [show okN 319 (szC l) = 320 from if_pos (by omega)]; omega)
                        omega
                      refine wi_ A (h8_ t1 t2 t8 t12 t13 t14 t15 t16) (rv_ 1 (.bool true) (fun a ee => execDec (execGtN (p := l) (q := 0) rfl (ee _) rfl) (decide_eq_true (by omega))) (rf_ [(77, .bool true)] (h8_ t1 t2 t8 t12 t13 t14 t15 t16) ?_))
                      rintro a A ⟨t77, -⟩ ⟨t1, t2, t8, t12, t13, t14, t15, t16, -⟩
                      refine wp_cond_true t77 ?_
                      clear FC
                      refine wi_ A (h8_ t1 t2 t8 t12 t13 t14 t15 t16) (rc_ 1 (rpad_any (fun j => stC p (i * szC l + j)) (szC l) _ X19 (piece15 esv (FXs.on BB) his) (by omega)) fun e X21 hh => ?_)
                      obtain ⟨c2, he, hk, hb⟩ := hh
                      refine ⟨_, he, ?_⟩
                      have bQ : Below X19.heap.size X19 X21 := hb
                      have FC2 : (X21.ownsRow XL16.heap.size 5 1 c2 (okN 320 (szC l)) (bytesL (okN 320 (szC l)) (cellF 0 headO (szC l) (fun j => stC p (i * szC l + j))))) := own_base hk hW19
                      replace FT := (ownD_below FT bQ)
                      replace FM := (FM.on bQ)
                      replace BB := BB.trans (bQ.mono BB.size)
                      clear bQ
                      refine rf_ [(16, c2)] (h6_ t1 t2 t8 t12 t13 t14) ?_
                      rintro a A ⟨t16, -⟩ ⟨t1, t2, t8, t12, t13, t14, -⟩
                      exact ⟨rfl, _, A, t1, t2, t8, t12, t13, t14, t16, BB, FT, FM, by have h_ := FC2; rw [show okN 320 (szC l) = 320 from if_pos (by omega)] at h_; rw [bytesL_congr (g := cellF 0 headO (szC l) (fun j => stC p (i * szC l + j))) (fun j _ => cl_1 hl0 j)]; exact h_⟩
                  · clear A t1 t2 t8 t12 t13 t14 t15 t16 BB FT FM FC a
                    rintro a XK ⟨c2, A, t1, t2, t8, t12, t13, t14, t16, BB, FT, FM, FC⟩
                    obtain ⟨g85, egg85⟩ : ∃ z_ : Nat, XK.heap.size = z_ := ⟨_, rfl⟩
                    refine wi_ A (h7_ t1 t2 t8 t12 t13 t14 t16) (rs_ 2 (fun a ee => ?_))
                    refine stepV rfl rfl (execBsL rfl (ee _) (shpB FC)) ⟨.slice (some ⟨g85, 0, none⟩) 1 1, ⟨_, rfl, by subst egg85; rfl⟩, fun X22_1 hX => ?_⟩
                    have bQ : Below XK.heap.size XK X22_1 := by subst hX egg85; exact (belNew XK _)
                    have F85 : (X22_1.heap[g85]? = some (.cells #[c2] 31)) := by subst hX egg85; exact heapNew XK _
                    replace FT := (ownD_below FT bQ)
                    replace FM := (FM.on bQ)
                    replace FC := (ownsRow_below FC bQ)
                    replace BB := BB.trans (bQ.mono BB.size)
                    clear bQ hX egg85 ee a
                    refine rs_ 3 (fun a ee => ?_)
                    refine stepAppLs (ls := #[c2]) rfl rfl rfl (ee _) (ee _) FT F85 rfl (fun u hu => by obtain rfl := List.mem_singleton.1 hu; exact one_shpB (shpB FC)) (by omega) (BB).size fun v86 X22 own' gr => ⟨_, ⟨_, rfl, rfl⟩, eqw ?_⟩
                    obtain ⟨BB, FM, FC, FT2⟩ : Below X13.heap.size X13 X22 ∧ (Fam X13.heap.size (i) (y) (fun _ => 320) (clC p l) X22) ∧ (X22.ownsRow XL16.heap.size 5 1 c2 320 (bytesL 320 (clC p l i))) ∧ (X22.ownsRow X13.heap.size 31 1 v86 (i + 1) (lL (updX y i c2) (i + 1))) := ⟨(BB).grown gr (BB).size (fun k hk => (FT.lt k hk).1), (fam_overL FM FT gr), (Drw.own_overT FC FT gr (by decide)), (by rw [lL_push]; exact own')⟩
                    clear FT F85 ee a
                    refine rf_ [(13, v86)] (h5_ t1 t2 t8 t12 t14) ?_
                    rintro a A ⟨t13, -⟩ ⟨t1, t2, t8, t12, t14, -⟩
                    have FM2 : (Fam X13.heap.size (i + 1) (updX y i c2) (fun _ => 320) (clC p l) X22) := fam_add9 FM hlo FC hCC
                    clear FM FC
                    refine wi_ A (h6_ t1 t2 t8 t12 t13 t14) (rv_ 1 (.int .i64 ((i + 1 : Nat) : Int)) (fun a ee => execAd8 (p := i) (q := 1) rfl (ee _) rfl (by omega)) (rf_ [(14, .int .i64 ((i + 1 : Nat) : Int))] (h5_ t1 t2 t8 t12 t13) ?_))
                    rintro a A ⟨t14, -⟩ ⟨t1, t2, t8, t12, t13, -⟩
                    exact ⟨⟨i + 1, v86, updX y i c2, lti, A, t1, t2, t8, t12, t13, t14, BB, FT2, FM2⟩, by show n - (intOf (a.eval (.tmp 14))).toNat < n - (intOf (Act.eval _ (.tmp 14))).toNat; rw [t14, esi]; show n - (i + 1) < n - i; omega⟩
                · rw [decide_eq_false lti] at t58
                  refine wp_cond_false t58 ?_
                  refine wp_exit ?_
                  first | with_reducible refine exit_in ?_ | with_reducible refine exit_then (exit_in ?_) | with_reducible refine exit_then (exit_then (exit_in ?_)) | refine exit_in ?_ | refine exit_then (exit_in ?_) | refine exit_then (exit_then (exit_in ?_))
                  clear t58 esi
                  have hin : i = n := by omega
                  rw [hin] at FT FM
                  clear t1 t2 t8 t12 t14
                  have BW2 := BW.trans (BB.mono BW.size)
                  refine wp_seq ?_
                  refine wi_ A (h1_ t13) (rg_ [(6, v), (7, .int .i64 ((0 : Nat) : Int))] ?_)
                  rintro a A ⟨t6, t7, -⟩
                  refine wp_ret ?_
                  refine bodyPost_ret (results_tmp2 rfl _ _ _) A.2 ⟨_, y, ?_, ownD_base FT BW.size, fam_base FM BW.size, BW2⟩
                  show Ending.returned (.tuple #[a.eval (.tmp 6), a.eval (.tmp 7)]) = _
                  rw [t6, t7]
          · refine wi_ A (h3_ t0 t1 t2) (rv_ 1 (.int .i64 ((L : Nat) : Int)) (fun a ee => execLenV (len := L) rfl (ee _) (shp9 FP)) (rv_ 2 (.bool true) (fun a ee => execDec (execLtW (p := L) (q := 18) rfl (ee _) rfl) (decide_eq_true (by omega))) (rg_ [(34, .bool true)] ?_)))
            rintro a A ⟨t34, -⟩
            refine wp_cond_true t34 ?_
            clear t34
            refine wp_seq ?_
            refine wi_ A h0_ (rg_ [(6, .slice none 0 0), (7, .int .i64 ((3 : Nat) : Int))] ?_)
            rintro a A ⟨t6, t7, -⟩
            have hE : clE L ((n : Nat) : Int) ((l : Nat) : Int) = 3 := (if_pos (by omega)).trans (if_neg (by omega))
            rw [hE, zl_no (by decide)]
            refine wp_ret ?_
            repeat (first | with_reducible refine ret_in ?_ | with_reducible refine ret_then ?_)
            refine bodyPost_ret (results_tmp2 rfl _ _ _) A.2 ⟨_, fun _ => undef, ?_, World.ownsRow_nil _ _ _ _, Fam.none _ _ _ _ _, BW⟩
            show Ending.returned (.tuple #[a.eval (.tmp 6), a.eval (.tmp 7)]) = _
            rw [t6, t7]
end Go.Proofs.Ytmfaapbhehhlpaa.Noi
