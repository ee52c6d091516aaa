import Derived.Test.YtijibdapooalcabL9f
import Derived.Laws.Cover3
namespace Go.Proofs.Ytijibdapooalcab.Win
open Go.RowKit Gf8 Aes By8 Cel Cf
/- WindowKeeps: the law's apart. Written by tools/mkL9g.py. -/

theorem own_shn {W : World} {B n s : Nat} {ty : TypeId} {v : Value} {xs : List Value} (h : W.ownsRow B ty s v n xs) : ∃ ao c, v = .slice ao n c := by
  rcases h.2 with ⟨e, e2⟩ | ⟨g, c, _, e, _⟩
  · exact ⟨_, _, by rw [e, e2]⟩
  · exact ⟨_, _, e⟩
theorem own_eq {W : World} {B n s : Nat} {ty : TypeId} {v u : Value} {xs : List Value} (h : W.ownsRow B ty s v n xs) (e : v = u) : W.ownsRow B ty s u n xs := e ▸ h
theorem own_fz {W : World} {B n s g c k : Nat} {ty : TypeId} {xs : List Value} (h : W.ownsRow B ty s (.slice (some ⟨g, 0, none⟩) n c) n xs) : W.frozen? ⟨g, k, none⟩ = false := by
  rcases h.2 with ⟨e, _⟩ | ⟨g', cap, cur, e, _, hg, _⟩
  · cases e
  · obtain ⟨rfl, rfl⟩ := slc_inj e
    exact frozen4 hg
theorem ub {U W : World} {D : ApD} (hUV : Below U.heap.size U D.V) (hDB : D.B = U.heap.size) (h : Below D.B D.V W) : Below U.heap.size U W := hUV.trans (by rw [← hDB]; exact h)
/-- The first table is made. -/
def P2 (D : ApD) (L : Nat) (pr : Nat → Nat × Nat) (lv : Value) (R1 : Nat) (W : World) : Prop := P1 D 4 0 0 L pr lv W ∧ Tb W R1 25 L (fun _ => .slice none 0 0) ∧ (∀ b, lv.ownBlock = some b → b ≠ R1) ∧ D.V.heap.size ≤ R1
theorem P2.on {D : ApD} {L R1 : Nat} {pr : Nat → Nat × Nat} {lv : Value} {W W' : World} (h : P2 D L pr lv R1 W) (hH : ApH D) (hb : Below W.heap.size W W') : P2 D L pr lv R1 W' := ⟨h.1.on hH hb, h.2.1.on hb, h.2.2⟩
theorem P2.begin {D : ApD} {L : Nat} {pr : Nat → Nat × Nat} {lv : Value} {W : World} (h : P1 D 4 0 0 L pr lv W) (hH : ApH D) : P2 D L pr lv W.heap.size (W.alloc (.cells (madeCells #[.slice none 0 0] L) 25)) :=
  ⟨h.on hH (belNew W _), Tb.made W L _, fun b q e => by have := (h.li.lt b q).2; omega, h.bel.size⟩
theorem P2.p3 {D : ApD} {L R1 : Nat} {pr : Nat → Nat × Nat} {lv : Value} {W : World} (h : P2 D L pr lv R1 W) (hH : ApH D) :
    P3 D L (fun t => D.tw (pr t).1 (pr t).2) (fun t => D.ln (pr t).1 (pr t).2) (mkF (fun t => D.tt (pr t).1 (pr t).2) 0 0) lv R1 W.heap.size (fun _ => .slice none 0 0) (fun _ => .slice none 0 0) (W.alloc (.cells (madeCells #[.slice none 0 0] 4) 22)) := by
  have hb2 := belNew W (.cells (madeCells #[.slice none 0 0] 4) 22)
  have h3 := h.1.on hH hb2
  refine ⟨⟨fun t ht => ?_, fun p q hp hq hpq b hb => ?_⟩, h3.fe.cg fun k hk => epV_cg _ (fun l _ => if_pos (by omega)) (fun _ _ => rfl), ⟨h3.ws, h3.li, h.2.1.on hb2, Tb.made _ 4 _, h.2.2.1, h.2.2.2, h.1.bel.size, h3.bel, h3.sv⟩, fun t ht b q => Or.inr ⟨_, _, (h3.src t ht).2.1, (h3.src t ht).2.2, q⟩⟩
  · obtain ⟨_, q2, q3⟩ := h3.src t ht
    have := h3.ft _ q2 _ q3
    rw [tgV_cg (s := mkF (fun t => D.tt (pr t).1 (pr t).2) 0 0 t) _ (fun l _ => by unfold mkF; rw [if_neg (by omega)])] at this
    exact this
  · obtain ⟨_, p2, p3⟩ := h3.src p hp
    obtain ⟨_, q2, q3⟩ := h3.src q hq
    exact hH.disT _ _ p2 q2 _ _ p3 q3 (fun e => h3.inj p q hp hq hpq e) b hb
theorem P1.wat {D : ApD} {i jl jn L : Nat} {pr : Nat → Nat × Nat} {lv : Value} {W : World} (h : P1 D i jl jn L pr lv W) (hH : ApH D) {k : Nat} (hk : k < 4) : W.cell? ⟨D.gw, 0 + k * 2 + 1, none⟩ = some (D.e k) := by
  rw [cell_of_row _ _ _ _ _ _ h.ws, Nat.zero_add]
  exact hH.he k hk
/-- What a list that has grown holds. -/
theorem P5.lo {D : ApD} {m : Nat} {x : Nat → Value} {nn : Nat → Nat} {lv : Value} {R1 R2 : Nat} {mo me y z : Nat → Value} {dd de : Nat → Nat} {W : World} {i j g c : Nat} (h : P5 D m x nn lv R1 R2 mo me y z dd de W) (hi : i < m) (hy : y i = .slice (some ⟨g, 0, none⟩) (nn i + dd i) c) (hj : j < nn i) : ∀ q, q < 16 → W.cell? ⟨g, 0 + j * 16 + q, none⟩ = some (.int .u8 ((mkB 1 i q : Nat) : Int)) := fun q hq => by
  have hr := own_eq (h.gt.ry i hi) hy
  rw [tgV_cat] at hr
  rw [own_tgv hr (by omega) hq, cat_lo hj]
theorem P5.hi {D : ApD} {m : Nat} {x : Nat → Value} {nn : Nat → Nat} {lv : Value} {R1 R2 : Nat} {mo me y z : Nat → Value} {dd de : Nat → Nat} {W : World} {i j g c : Nat} (h : P5 D m x nn lv R1 R2 mo me y z dd de W) (hi : i < m) (hy : y i = .slice (some ⟨g, 0, none⟩) (nn i + dd i) c) (hj : nn i ≤ j) (hj2 : j < nn i + dd i) : ∀ q, q < 16 → W.cell? ⟨g, 0 + j * 16 + q, none⟩ = some (.int .u8 ((mkB 2 i q : Nat) : Int)) := fun q hq => by
  have hr := own_eq (h.gt.ry i hi) hy
  rw [tgV_cat] at hr
  rw [own_tgv hr hj2 hq]
  obtain ⟨r, rfl⟩ : ∃ r, j = nn i + r := ⟨j - nn i, by omega⟩
  rw [cat_hi]
theorem epV_two {nu nv : Nat → Int} {tw uw : Nat → Value} {n : Nat} : ∀ m, epV nu tw n ++ epV nv uw m = epV (fun j => if j < n then nu j else nv (j - n)) (fun j => if j < n then tw j else uw (j - n)) (n + m)
  | 0 => by
    rw [epV, List.append_nil, Nat.add_zero]
    exact epV_cg n (fun j hj => (if_pos hj).symm) (fun j hj => (if_pos hj).symm)
  | m + 1 => by
    rw [epV, ← List.append_assoc, epV_two m, ← Nat.add_assoc, epV, if_neg (by omega), if_neg (by omega), show n + m - n = m by omega]
theorem P5.num {D : ApD} {m : Nat} {x : Nat → Value} {nn : Nat → Nat} {lv : Value} {R1 R2 : Nat} {mo me y z : Nat → Value} {dd de : Nat → Nat} {W : World} {i j g c : Nat} (h : P5 D m x nn lv R1 R2 mo me y z dd de W) (hi : i < 4) (hy : z i = .slice (some ⟨g, 0, none⟩) (D.n i + de i) c) (hj : j < D.n i + de i) : W.cell? ⟨g, 0 + j * 2 + 0, none⟩ = some (.int .i64 (if j < D.n i then -100 - (i : Int) else -200 - (i : Int))) := by
  have hr := own_eq (h.ge.ry i hi) hy
  rw [epV_two] at hr
  exact (own_epv hr hj).1
set_option maxRecDepth 100000 in
set_option maxHeartbeats 4000000 in
/-- The law's apart. -/
theorem apart16 (U : World) (D : ApD) (hH : ApH D) (hDB : D.B = U.heap.size) (hUV : Below U.heap.size U D.V) :
    Calls Try.prog 17 #[.slice (some ⟨D.gw, 0, none⟩) 4 4] D.V fun e w' => e = .returned (.bool true) ∧ Below D.B D.V w' ∧ Sv D w' := by
  go_enter Try.func17, Try.ntmps17
  obtain ⟨V, hV⟩ : ∃ z_, D.V = z_ := ⟨_, rfl⟩
  rw [hV]
  have FXs : P1 D 0 0 0 0 (fun _ => (0, 0)) (.slice none 0 0) V := hV ▸ P1.begin hH
  have BB : Below U.heap.size U V := hV ▸ hUV
  refine wo_ 254 [(0, .slice (some ⟨D.gw, 0, none⟩) 4 4)] ?_
  rintro a A ⟨t0, -⟩
  refine wp_seq ?_
  refine wi_ A (h1_ t0) (rf_ [] (h1_ t0) ?_)
  rintro a A - ⟨t0, -⟩
  refine wp_seq ?_
  refine wi_ A (h1_ t0) (rf_ [(3, .slice none 0 0)] (h1_ t0) ?_)
  rintro a A ⟨t3, -⟩ ⟨t0, -⟩
  refine wp_seq ?_
  refine wp_seq ?_
  refine wi_ A (h2_ t0 t3) (rf_ [(4, .int .i64 ((0 : Nat) : Int))] (h2_ t0 t3) ?_)
  rintro a A ⟨t4, -⟩ ⟨t0, t3, -⟩
  refine wp_block ?_
  refine wp_loop (fun a W => ∃ (i : Nat) (L : Nat) (pr : Nat → Nat × Nat) (lv : Value), i ≤ 4 ∧ (a.tmps.size = 254 ∧ a.defers = []) ∧ a.eval (.tmp 0) = .slice (some ⟨D.gw, 0, none⟩) 4 4 ∧ a.eval (.tmp 3) = lv ∧ a.eval (.tmp 4) = .int .i64 ((i : Nat) : Int) ∧ Below U.heap.size U W ∧ (P1 D i 0 0 L pr lv W)) (fun a _ => 4 - (intOf (a.eval (.tmp 4))).toNat) ⟨0, 0, fun _ => (0, 0), .slice none 0 0, Nat.zero_le _, A, t0, t3, t4, BB, FXs⟩ ?_
  clear A t0 t3 t4 BB FXs a
  rintro a XL3 ⟨i, L, pr, lv, hi, A, t0, t3, t4, BB, FXs⟩
  have esi := t4
  refine wp_seq ?_
  refine wp_seq ?_
  refine wi_ A (h3_ t0 t3 t4) (rv_ 2 (.int .i64 ((4 : Nat) : Int)) (fun a ee => execLenWs (len := 4) rfl (ee _) ⟨_, _, rfl⟩) (rv_ 3 (.bool (decide (i < 4))) (fun a ee => execLtW (p := i) (q := 4) rfl (ee _) (ee _)) (rf_ [(23, .bool (decide (i < 4)))] (h3_ t0 t3 t4) ?_)))
  rintro a A ⟨t23, -⟩ ⟨t0, t3, t4, -⟩
  by_cases lti : i < 4
  · rw [decide_eq_true lti] at t23
    refine wp_cond_true t23 ?_
    refine wp_skip ?_
    clear t23
    refine wp_seq ?_
    refine wp_block ?_
    have hei := own_shn (hH.rowE i lti)
    have hn60 := hH.n60 i lti
    refine wp_seq ?_
    refine wi_ A (h3_ t0 t3 t4) (rf_ [(5, .int .i64 ((0 : Nat) : Int))] (h3_ t0 t3 t4) ?_)
    rintro a A ⟨t5, -⟩ ⟨t0, t3, t4, -⟩
    refine wp_block ?_
    refine wp_loop (fun a W => ∃ (j : Nat) (M : Nat) (qr : Nat → Nat × Nat) (mv : Value), j ≤ D.n i ∧ (a.tmps.size = 254 ∧ a.defers = []) ∧ a.eval (.tmp 0) = .slice (some ⟨D.gw, 0, none⟩) 4 4 ∧ a.eval (.tmp 3) = mv ∧ a.eval (.tmp 4) = .int .i64 ((i : Nat) : Int) ∧ a.eval (.tmp 5) = .int .i64 ((j : Nat) : Int) ∧ Below U.heap.size U W ∧ (P1 D i j j M qr mv W)) (fun a _ => D.n i - (intOf (a.eval (.tmp 5))).toNat) ⟨0, L, pr, lv, Nat.zero_le _, A, t0, t3, t4, t5, BB, FXs⟩ ?_
    clear A t0 t3 t4 t5 BB FXs a
    rintro a XL6 ⟨j, M, qr, mv, hj, A, t0, t3, t4, t5, BB, FXs⟩
    have esj := t5
    refine wp_seq ?_
    refine wp_seq ?_
    refine wi_ A (h4_ t0 t3 t4 t5) (rv_ 3 (.pointer (some ⟨D.gw, 0 + i * 2, none⟩)) (fun a ee => execIdxWs (k := i) rfl (ee _) (ee _) lti) (rv_ 4 (.pointer (some ⟨D.gw, 0 + i * 2 + 1, none⟩)) (fun a ee => execFldWg rfl (ee _)) (rv_ 5 (D.e i) (fun a ee => execLdEs rfl (ee _) ((FXs).wat hH lti)) (rv_ 6 (.int .i64 ((D.n i : Nat) : Int)) (fun a ee => execLenEs (len := D.n i) rfl (ee _) hei) (rv_ 7 (.bool (decide (j < D.n i))) (fun a ee => execLtW (p := j) (q := D.n i) rfl (ee _) (ee _)) (rf_ [(33, .bool (decide (j < D.n i)))] (h4_ t0 t3 t4 t5) ?_))))))
    rintro a A ⟨t33, -⟩ ⟨t0, t3, t4, t5, -⟩
    by_cases ltj : j < D.n i
    · rw [decide_eq_true ltj] at t33
      refine wp_cond_true t33 ?_
      refine wp_skip ?_
      clear t33
      refine wp_seq ?_
      refine wp_block ?_
      obtain ⟨ge, ce, hge, -⟩ := own_some (hH.rowE i lti) (by omega)
      refine wp_seq ?_
      obtain ⟨g46, egg46⟩ : ∃ z_ : Nat, XL6.heap.size = z_ := ⟨_, rfl⟩
      refine wi_ A (h4_ t0 t3 t4 t5) (rv_ 3 (.pointer (some ⟨D.gw, 0 + i * 2, none⟩)) (fun a ee => execIdxWs (k := i) rfl (ee _) (ee _) lti) (rv_ 4 (.pointer (some ⟨D.gw, 0 + i * 2 + 1, none⟩)) (fun a ee => execFldWg rfl (ee _)) (rv_ 5 (D.e i) (fun a ee => execLdEs rfl (ee _) ((FXs).wat hH lti)) (rv_ 7 (.pointer (some ⟨ge, 0 + j * 2, none⟩)) (fun a ee => execIdxEs (k := j) rfl ((ee _).trans hge) (ee _) ltj) (rv_ 8 (.pointer (some ⟨ge, 0 + j * 2 + 1, none⟩)) (fun a ee => execFldE1 rfl (ee _)) (rv_ 9 (D.tw i j) (fun a ee => execLdTs rfl (ee _) (own_epv (own_eq ((FXs).fe.rows i lti) hge) ltj).2) (rs_ 10 (fun a ee => ?_))))))))
      refine stepV rfl rfl (execBsL rfl (ee _) (ownE_shp (hH.rowT i lti j ltj))) ⟨.slice (some ⟨g46, 0, none⟩) 1 1, ⟨_, rfl, by subst egg46; rfl⟩, fun X8_1 hX => ?_⟩
      have bQ : Below XL6.heap.size XL6 X8_1 := by subst hX egg46; exact (belNew XL6 _)
      have F46 : (X8_1.heap[g46]? = some (.cells #[D.tw i j] 25)) := by subst hX egg46; exact heapNew XL6 _
      replace FXs := ((FXs).on hH bQ)
      replace BB := BB.trans (bQ.mono BB.size)
      clear bQ hX egg46 ee a
      refine rs_ 11 (fun a ee => ?_)
      refine stepApL rfl rfl rfl (ee _) (ee _) FXs hH lti ltj F46 fun v47 X8 P' hb' => ⟨_, ⟨_, rfl, rfl⟩, eqw ?_⟩
      obtain ⟨BB, FS2⟩ : Below U.heap.size U X8 ∧ (P1 D i (j + 1) j (M + 1) (up qr M (i, j)) (v47) X8) := ⟨(ub hUV hDB hb'), P'⟩
      clear FXs F46 ee a
      refine rf_ [(3, v47)] (h3_ t0 t4 t5) ?_
      rintro a A ⟨t3, -⟩ ⟨t0, t4, t5, -⟩
      have FXs := FS2
      clear FS2
      refine wi_ A (h4_ t0 t4 t5 t3) (rv_ 2 (.pointer (some ⟨D.gw, 0 + i * 2, none⟩)) (fun a ee => execIdxWs (k := i) rfl (ee _) (ee _) lti) (rv_ 3 (.pointer (some ⟨D.gw, 0 + i * 2 + 1, none⟩)) (fun a ee => execFldWg rfl (ee _)) (rv_ 4 (D.e i) (fun a ee => execLdEs rfl (ee _) ((FXs).wat hH lti)) (rv_ 7 (.int .i64 (-100 - (i : Int))) (fun a ee => execSbC (q := i) rfl (ee _) rfl (by omega) (by omega)) (rv_ 8 (.pointer (some ⟨ge, 0 + j * 2, none⟩)) (fun a ee => execIdxEs (k := j) rfl ((ee _).trans hge) (ee _) ltj) (rv_ 9 (.pointer (some ⟨ge, 0 + j * 2 + 0, none⟩)) (fun a ee => execFldE0 rfl (ee _)) (rs_ 10 (fun a ee => ?_))))))))
      refine stepS rfl rfl (execSt2i rfl (ee _) (ee _) (own_epv (own_eq ((FXs).fe.rows i lti) hge) ltj).1 (own_fz (own_eq ((FXs).fe.rows i lti) hge))) ⟨_, ⟨_, rfl, rfl⟩, fun X9 hX => ?_⟩
      obtain ⟨BB, FS2⟩ : Below U.heap.size U X9 ∧ (P1 D i (j + 1) (j + 1) (M + 1) (up qr M (i, j)) v47 X9) := by subst hX; exact ⟨(ub hUV hDB ((FXs).mark hH lti hge ltj).bel), (FXs).mark hH lti hge ltj⟩
      clear FXs hX ee a
      refine rf_ [] (h4_ t0 t3 t4 t5) ?_
      rintro a A - ⟨t0, t3, t4, t5, -⟩
      have FXs := FS2
      clear FS2
      refine wi_ A (h4_ t0 t3 t4 t5) (rv_ 1 (.int .i64 ((j + 1 : Nat) : Int)) (fun a ee => execAd8 (p := j) (q := 1) rfl (ee _) rfl (by omega)) (rf_ [(5, .int .i64 ((j + 1 : Nat) : Int))] (h3_ t0 t3 t4) ?_))
      rintro a A ⟨t5, -⟩ ⟨t0, t3, t4, -⟩
      exact ⟨⟨j + 1, M + 1, up qr M (i, j), v47, ltj, A, t0, t3, t4, t5, BB, FXs⟩, by show D.n i - (intOf (a.eval (.tmp 5))).toNat < D.n i - (intOf (Act.eval _ (.tmp 5))).toNat; rw [t5, esj]; show D.n i - (j + 1) < D.n i - j; omega⟩
    · rw [decide_eq_false ltj] at t33
      refine wp_cond_false t33 ?_
      refine wp_exit ?_
      first | with_reducible refine exit_in ?_ | with_reducible refine exit_then (exit_in ?_) | with_reducible refine exit_then (exit_then (exit_in ?_)) | refine exit_in ?_ | refine exit_then (exit_in ?_) | refine exit_then (exit_then (exit_in ?_))
      clear t33 esj
      have ej : j = D.n i := by omega
      rw [ej] at FXs
      clear t5
      have FXs := FXs.next hH lti
      refine wi_ A (h3_ t0 t3 t4) (rv_ 1 (.int .i64 ((i + 1 : Nat) : Int)) (fun a ee => execAd8 (p := i) (q := 1) rfl (ee _) rfl (by omega)) (rf_ [(4, .int .i64 ((i + 1 : Nat) : Int))] (h2_ t0 t3) ?_))
      rintro a A ⟨t4, -⟩ ⟨t0, t3, -⟩
      exact ⟨⟨i + 1, M, qr, mv, lti, A, t0, t3, t4, BB, FXs⟩, by show 4 - (intOf (a.eval (.tmp 4))).toNat < 4 - (intOf (Act.eval _ (.tmp 4))).toNat; rw [t4, esi]; show 4 - (i + 1) < 4 - i; omega⟩
  · rw [decide_eq_false lti] at t23
    refine wp_cond_false t23 ?_
    refine wp_exit ?_
    first | with_reducible refine exit_in ?_ | with_reducible refine exit_then (exit_in ?_) | with_reducible refine exit_then (exit_then (exit_in ?_)) | refine exit_in ?_ | refine exit_then (exit_in ?_) | refine exit_then (exit_then (exit_in ?_))
    clear t23 esi
    have ei : i = 4 := by omega
    rw [ei] at FXs
    clear t4 ei lti
    have hL := FXs.bd
    have hlv := own_shn FXs.li
    refine wp_seq ?_
    obtain ⟨R1, egR1⟩ : ∃ z_ : Nat, XL3.heap.size = z_ := ⟨_, rfl⟩
    refine wi_ A (h2_ t0 t3) (rv_ 1 (.int .i64 ((L : Nat) : Int)) (fun a ee => execLenLs (len := L) rfl (ee _) hlv) (rs_ 2 (fun a ee => ?_)))
    refine stepV rfl rfl (execMkTL rfl (ee _) (ee _) (by omega)) ⟨.slice (some ⟨R1, 0, none⟩) L L, ⟨_, rfl, by subst egR1; rfl⟩, fun X10 hX => ?_⟩
    obtain ⟨BB, FS2⟩ : Below U.heap.size U X10 ∧ (P2 D L pr lv R1 X10) := by subst hX egR1; exact ⟨(BB).trans ((belNew XL3 _).mono (BB).size), P2.begin FXs hH⟩
    clear FXs hX egR1 ee a
    refine rf_ [(6, .slice (some ⟨R1, 0, none⟩) L L)] (h2_ t0 t3) ?_
    rintro a A ⟨t6, -⟩ ⟨t0, t3, -⟩
    have FXs := FS2
    clear FS2
    have hsr := FXs.1.src
    refine wp_seq ?_
    obtain ⟨R2, egR2⟩ : ∃ z_ : Nat, X10.heap.size = z_ := ⟨_, rfl⟩
    refine wi_ A (h3_ t0 t3 t6) (rv_ 1 (.int .i64 ((4 : Nat) : Int)) (fun a ee => execLenWs (len := 4) rfl (ee _) ⟨_, _, rfl⟩) (rs_ 2 (fun a ee => ?_)))
    refine stepV rfl rfl (execMkEL (n := 4) rfl (ee _) (ee _) (by omega)) ⟨.slice (some ⟨R2, 0, none⟩) 4 4, ⟨_, rfl, by subst egR2; rfl⟩, fun X11 hX => ?_⟩
    obtain ⟨BB, FS2⟩ : Below U.heap.size U X11 ∧ (P3 D L (fun t => D.tw (pr t).1 (pr t).2) (fun t => D.ln (pr t).1 (pr t).2) (mkF (fun t => D.tt (pr t).1 (pr t).2) 0 0) lv R1 R2 (fun _ => .slice none 0 0) (fun _ => .slice none 0 0) X11) := by subst hX egR2; exact ⟨(BB).trans ((belNew X10 _).mono (BB).size), P2.p3 FXs hH⟩
    clear FXs hX egR2 ee a
    refine rf_ [(7, .slice (some ⟨R2, 0, none⟩) 4 4)] (h3_ t0 t3 t6) ?_
    rintro a A ⟨t7, -⟩ ⟨t0, t3, t6, -⟩
    obtain ⟨x, nn, f, hnn, FXs⟩ : ∃ x nn f, (∀ t, t < L → nn t ≤ 1000000) ∧ P3 D L x nn (mkF f 0 0) lv R1 R2 (fun _ => .slice none 0 0) (fun _ => .slice none 0 0) X11 := ⟨_, _, _, fun t ht => hH.l6 _ (hsr t ht).2.1 _ (hsr t ht).2.2, FS2⟩
    clear FS2 hsr
    replace FXs := FXs.cg (mo2 := fun t => if t < 0 then x t else .slice none 0 0) (fun _ _ => rfl) (fun _ _ => rfl)
    refine wp_seq ?_
    refine wp_seq ?_
    refine wi_ A (h4_ t0 t3 t6 t7) (rf_ [(8, .int .i64 ((0 : Nat) : Int))] (h4_ t0 t3 t6 t7) ?_)
    rintro a A ⟨t8, -⟩ ⟨t0, t3, t6, t7, -⟩
    refine wp_block ?_
    refine wp_loop (fun a W => ∃ (i : Nat), i ≤ L ∧ (a.tmps.size = 254 ∧ a.defers = []) ∧ a.eval (.tmp 0) = .slice (some ⟨D.gw, 0, none⟩) 4 4 ∧ a.eval (.tmp 3) = lv ∧ a.eval (.tmp 6) = .slice (some ⟨R1, 0, none⟩) L L ∧ a.eval (.tmp 7) = .slice (some ⟨R2, 0, none⟩) 4 4 ∧ a.eval (.tmp 8) = .int .i64 ((i : Nat) : Int) ∧ Below U.heap.size U W ∧ (P3 D L x nn (mkF f i 0) lv R1 R2 (fun t => if t < i then x t else .slice none 0 0) (fun _ => .slice none 0 0) W)) (fun a _ => L - (intOf (a.eval (.tmp 8))).toNat) ⟨0, Nat.zero_le _, A, t0, t3, t6, t7, t8, BB, FXs⟩ ?_
    clear A t0 t3 t6 t7 t8 BB FXs a
    rintro a XL13 ⟨i, hi, A, t0, t3, t6, t7, t8, BB, FXs⟩
    have esi := t8
    refine wp_seq ?_
    refine wp_seq ?_
    refine wi_ A (h5_ t0 t3 t6 t7 t8) (rv_ 2 (.int .i64 ((L : Nat) : Int)) (fun a ee => execLenLs (len := L) rfl (ee _) hlv) (rv_ 3 (.bool (decide (i < L))) (fun a ee => execLtW (p := i) (q := L) rfl (ee _) (ee _)) (rf_ [(67, .bool (decide (i < L)))] (h5_ t0 t3 t6 t7 t8) ?_)))
    rintro a A ⟨t67, -⟩ ⟨t0, t3, t6, t7, t8, -⟩
    by_cases lti : i < L
    · rw [decide_eq_true lti] at t67
      refine wp_cond_true t67 ?_
      refine wp_skip ?_
      clear t67
      refine wp_seq ?_
      refine wp_block ?_
      have hnni := hnn i lti
      obtain ⟨gl, cl, hgl, -⟩ := own_some FXs.rs.li (by omega)
      have hxi := own_shn (FXs.ft.rows i lti)
      refine wp_seq ?_
      refine wp_seq ?_
      refine wi_ A (h5_ t0 t3 t6 t7 t8) (rf_ [(9, .int .i64 ((0 : Nat) : Int))] (h5_ t0 t3 t6 t7 t8) ?_)
      rintro a A ⟨t9, -⟩ ⟨t0, t3, t6, t7, t8, -⟩
      refine wp_block ?_
      refine wp_loop (fun a W => ∃ (j : Nat), j ≤ nn i ∧ (a.tmps.size = 254 ∧ a.defers = []) ∧ a.eval (.tmp 0) = .slice (some ⟨D.gw, 0, none⟩) 4 4 ∧ a.eval (.tmp 3) = lv ∧ a.eval (.tmp 6) = .slice (some ⟨R1, 0, none⟩) L L ∧ a.eval (.tmp 7) = .slice (some ⟨R2, 0, none⟩) 4 4 ∧ a.eval (.tmp 8) = .int .i64 ((i : Nat) : Int) ∧ a.eval (.tmp 9) = .int .i64 ((j : Nat) : Int) ∧ Below U.heap.size U W ∧ (P3 D L x nn (mkF f i j) lv R1 R2 (fun t => if t < i then x t else .slice none 0 0) (fun _ => .slice none 0 0) W)) (fun a _ => nn i - (intOf (a.eval (.tmp 9))).toNat) ⟨0, Nat.zero_le _, A, t0, t3, t6, t7, t8, t9, BB, FXs⟩ ?_
      clear A t0 t3 t6 t7 t8 t9 BB FXs a
      rintro a XL16 ⟨j, hj, A, t0, t3, t6, t7, t8, t9, BB, FXs⟩
      have esj := t9
      refine wp_seq ?_
      refine wp_seq ?_
      refine wi_ A (h6_ t0 t3 t6 t7 t8 t9) (rv_ 3 (.pointer (some ⟨gl, 0 + i, none⟩)) (fun a ee => execIdxLs (k := i) rfl ((ee _).trans hgl) (ee _) lti) (rv_ 4 (x i) (fun a ee => execLdTs rfl (ee _) (own_vat (own_eq (FXs).rs.li hgl) lti)) (rv_ 5 (.int .i64 ((nn i : Nat) : Int)) (fun a ee => execLenTs (len := nn i) rfl (ee _) hxi) (rv_ 6 (.bool (decide (j < nn i))) (fun a ee => execLtW (p := j) (q := nn i) rfl (ee _) (ee _)) (rf_ [(76, .bool (decide (j < nn i)))] (h6_ t0 t3 t6 t7 t8 t9) ?_)))))
      rintro a A ⟨t76, -⟩ ⟨t0, t3, t6, t7, t8, t9, -⟩
      by_cases ltj : j < nn i
      · rw [decide_eq_true ltj] at t76
        refine wp_cond_true t76 ?_
        refine wp_skip ?_
        clear t76
        refine wp_seq ?_
        refine wp_block ?_
        obtain ⟨gx, cx, hgx, -⟩ := own_some (FXs.ft.rows i lti) (by omega)
        refine wi_ A (h6_ t0 t3 t6 t7 t8 t9) (rv_ 2 (.pointer (some ⟨gl, 0 + i, none⟩)) (fun a ee => execIdxLs (k := i) rfl ((ee _).trans hgl) (ee _) lti) (rv_ 3 (x i) (fun a ee => execLdTs rfl (ee _) (own_vat (own_eq (FXs).rs.li hgl) lti)) (rv_ 6 (.int .u8 ((i % 256 : Nat) : Int)) (fun a ee => execCv5 (n := i) rfl (ee _)) (rv_ 8 (.int .i64 ((i / 256 : Nat) : Int)) (fun a ee => execShr8 (n := i) rfl (ee _)) (rv_ 9 (.int .u8 (((i / 256) % 256 : Nat) : Int)) (fun a ee => execCv5 (n := i / 256) rfl (ee _)) (rv_ 10 (.agg (bA 16 (mkB 1 i))) (fun a ee => execBdM (k := 1) (t := i) rfl rfl (ee _) (ee _)) (rv_ 11 (.pointer (some ⟨gx, 0 + j * 16, none⟩)) (fun a ee => execIdxTs (k := j) rfl ((ee _).trans hgx) (ee _) ltj) (rs_ 12 (fun a ee => ?_)))))))))
        refine stepStT rfl rfl rfl (ee _) (ee _) (own_eq ((FXs).ft.rows i lti) hgx) ltj fun X18 own' gr' => ⟨_, ⟨_, rfl, rfl⟩, eqw ?_⟩
        obtain ⟨BB, FS2⟩ : Below U.heap.size U X18 ∧ (P3 D L x nn (mkF f i (j + 1)) lv R1 R2 (fun t => if t < i then x t else .slice none 0 0) (fun _ => .slice none 0 0) X18) := ⟨(ub hUV hDB ((FXs).mark hH lti hgx own' gr').rs.bel), (FXs).mark hH lti hgx own' gr'⟩
        clear FXs ee a
        refine rf_ [] (h6_ t0 t3 t6 t7 t8 t9) ?_
        rintro a A - ⟨t0, t3, t6, t7, t8, t9, -⟩
        have FXs := FS2
        clear FS2
        refine wi_ A (h6_ t0 t3 t6 t7 t8 t9) (rv_ 1 (.int .i64 ((j + 1 : Nat) : Int)) (fun a ee => execAd8 (p := j) (q := 1) rfl (ee _) rfl (by omega)) (rf_ [(9, .int .i64 ((j + 1 : Nat) : Int))] (h5_ t0 t3 t6 t7 t8) ?_))
        rintro a A ⟨t9, -⟩ ⟨t0, t3, t6, t7, t8, -⟩
        exact ⟨⟨j + 1, ltj, A, t0, t3, t6, t7, t8, t9, BB, FXs⟩, by show nn i - (intOf (a.eval (.tmp 9))).toNat < nn i - (intOf (Act.eval _ (.tmp 9))).toNat; rw [t9, esj]; show nn i - (j + 1) < nn i - j; omega⟩
      · rw [decide_eq_false ltj] at t76
        refine wp_cond_false t76 ?_
        refine wp_exit ?_
        first | with_reducible refine exit_in ?_ | with_reducible refine exit_then (exit_in ?_) | with_reducible refine exit_then (exit_then (exit_in ?_)) | refine exit_in ?_ | refine exit_then (exit_in ?_) | refine exit_then (exit_then (exit_in ?_))
        clear t76 esj
        have ej : j = nn i := by omega
        rw [ej] at FXs
        clear t9
        have FXs := FXs.next
        refine wi_ A (h5_ t0 t3 t6 t7 t8) (rv_ 4 (.pointer (some ⟨gl, 0 + i, none⟩)) (fun a ee => execIdxLs (k := i) rfl ((ee _).trans hgl) (ee _) lti) (rv_ 5 (x i) (fun a ee => execLdTs rfl (ee _) (own_vat (own_eq (FXs).rs.li hgl) lti)) (rv_ 6 (.pointer (some ⟨R1, 0 + i, none⟩)) (fun a ee => execIdxLs (k := i) rfl ((ee _).trans rfl) (ee _) lti) (rs_ 7 (fun a ee => ?_)))))
        refine stepS rfl rfl (execStTs rfl (ee _) (ee _) (ownE_shp ((FXs).ft.rows i lti)) ((FXs).rs.tg.at lti).1 ((FXs).rs.tg.at lti).2) ⟨_, ⟨_, rfl, rfl⟩, fun X19 hX => ?_⟩
        obtain ⟨BB, FS2⟩ : Below U.heap.size U X19 ∧ (P3 D L x nn (mkF f (i + 1) 0) lv R1 R2 (up (fun t => if t < i then x t else .slice none 0 0) i (x i)) (fun _ => .slice none 0 0) X19) := by subst hX; exact ⟨(ub hUV hDB ((FXs).putT hH i (x i)).rs.bel), (FXs).putT hH i (x i)⟩
        clear FXs hX ee a
        refine rf_ [] (h5_ t0 t3 t6 t7 t8) ?_
        rintro a A - ⟨t0, t3, t6, t7, t8, -⟩
        have FXs := FS2.cg (mo2 := fun t => if t < i + 1 then x t else .slice none 0 0) (fun t _ => by by_cases q_ : t = i; subst q_; rw [up_at, if_pos (by omega)]; rw [up_ne _ _ q_]; by_cases q2_ : t < i; rw [if_pos q2_, if_pos (by omega)]; rw [if_neg q2_, if_neg (by omega)]) (fun _ _ => rfl)
        clear FS2
        refine wi_ A (h5_ t0 t3 t6 t7 t8) (rv_ 1 (.int .i64 ((i + 1 : Nat) : Int)) (fun a ee => execAd8 (p := i) (q := 1) rfl (ee _) rfl (by omega)) (rf_ [(8, .int .i64 ((i + 1 : Nat) : Int))] (h4_ t0 t3 t6 t7) ?_))
        rintro a A ⟨t8, -⟩ ⟨t0, t3, t6, t7, -⟩
        exact ⟨⟨i + 1, lti, A, t0, t3, t6, t7, t8, BB, FXs⟩, by show L - (intOf (a.eval (.tmp 8))).toNat < L - (intOf (Act.eval _ (.tmp 8))).toNat; rw [t8, esi]; show L - (i + 1) < L - i; omega⟩
    · rw [decide_eq_false lti] at t67
      refine wp_cond_false t67 ?_
      refine wp_exit ?_
      first | with_reducible refine exit_in ?_ | with_reducible refine exit_then (exit_in ?_) | with_reducible refine exit_then (exit_then (exit_in ?_)) | refine exit_in ?_ | refine exit_then (exit_in ?_) | refine exit_then (exit_then (exit_in ?_))
      clear t67 esi
      have ei : i = L := by omega
      rw [ei] at FXs
      clear t8 ei lti
      have FXs := FXs.cg (mo2 := x) (me2 := fun k => if k < 0 then D.e k else .slice none 0 0) (fun t ht => if_pos ht) (fun _ _ => rfl)
      refine wp_seq ?_
      refine wp_seq ?_
      refine wi_ A (h4_ t0 t3 t6 t7) (rf_ [(10, .int .i64 ((0 : Nat) : Int))] (h4_ t0 t3 t6 t7) ?_)
      rintro a A ⟨t10, -⟩ ⟨t0, t3, t6, t7, -⟩
      refine wp_block ?_
      refine wp_loop (fun a W => ∃ (i : Nat), i ≤ 4 ∧ (a.tmps.size = 254 ∧ a.defers = []) ∧ a.eval (.tmp 0) = .slice (some ⟨D.gw, 0, none⟩) 4 4 ∧ a.eval (.tmp 3) = lv ∧ a.eval (.tmp 6) = .slice (some ⟨R1, 0, none⟩) L L ∧ a.eval (.tmp 7) = .slice (some ⟨R2, 0, none⟩) 4 4 ∧ a.eval (.tmp 10) = .int .i64 ((i : Nat) : Int) ∧ Below U.heap.size U W ∧ (P3 D L x nn (mkF f L 0) lv R1 R2 x (fun k => if k < i then D.e k else .slice none 0 0) W)) (fun a _ => 4 - (intOf (a.eval (.tmp 10))).toNat) ⟨0, Nat.zero_le _, A, t0, t3, t6, t7, t10, BB, FXs⟩ ?_
      clear A t0 t3 t6 t7 t10 BB FXs a
      rintro a XL21 ⟨i, hi, A, t0, t3, t6, t7, t10, BB, FXs⟩
      have esi := t10
      refine wp_seq ?_
      refine wp_seq ?_
      refine wi_ A (h5_ t0 t3 t6 t7 t10) (rv_ 2 (.int .i64 ((4 : Nat) : Int)) (fun a ee => execLenWs (len := 4) rfl (ee _) ⟨_, _, rfl⟩) (rv_ 3 (.bool (decide (i < 4))) (fun a ee => execLtW (p := i) (q := 4) rfl (ee _) (ee _)) (rf_ [(101, .bool (decide (i < 4)))] (h5_ t0 t3 t6 t7 t10) ?_)))
      rintro a A ⟨t101, -⟩ ⟨t0, t3, t6, t7, t10, -⟩
      by_cases lti : i < 4
      · rw [decide_eq_true lti] at t101
        refine wp_cond_true t101 ?_
        refine wp_skip ?_
        clear t101
        refine wp_seq ?_
        refine wp_block ?_
        refine wi_ A (h5_ t0 t3 t6 t7 t10) (rv_ 4 (.pointer (some ⟨D.gw, 0 + i * 2, none⟩)) (fun a ee => execIdxWs (k := i) rfl (ee _) (ee _) lti) (rv_ 5 (.pointer (some ⟨D.gw, 0 + i * 2 + 1, none⟩)) (fun a ee => execFldWg rfl (ee _)) (rv_ 6 (D.e i) (fun a ee => execLdEs rfl (ee _) ((FXs).rs.wat hH lti)) (rv_ 7 (.pointer (some ⟨R2, 0 + i, none⟩)) (fun a ee => execIdxLe (k := i) rfl ((ee _).trans rfl) (ee _) lti) (rs_ 8 (fun a ee => ?_))))))
        refine stepS rfl rfl (execStEs rfl (ee _) (ee _) (ownE_shp (hH.rowE i lti)) ((FXs).rs.te.at lti).1 ((FXs).rs.te.at lti).2) ⟨_, ⟨_, rfl, rfl⟩, fun X23 hX => ?_⟩
        obtain ⟨BB, FS2⟩ : Below U.heap.size U X23 ∧ (P3 D L x nn (mkF f L 0) lv R1 R2 x (up (fun k => if k < i then D.e k else .slice none 0 0) i (D.e i)) X23) := by subst hX; exact ⟨(ub hUV hDB ((FXs).putE hH i (D.e i)).rs.bel), (FXs).putE hH i (D.e i)⟩
        clear FXs hX ee a
        refine rf_ [] (h5_ t0 t3 t6 t7 t10) ?_
        rintro a A - ⟨t0, t3, t6, t7, t10, -⟩
        have FXs := FS2.cg (me2 := fun k => if k < i + 1 then D.e k else .slice none 0 0) (fun _ _ => rfl) (fun t _ => by by_cases q_ : t = i; subst q_; rw [up_at, if_pos (by omega)]; rw [up_ne _ _ q_]; by_cases q2_ : t < i; rw [if_pos q2_, if_pos (by omega)]; rw [if_neg q2_, if_neg (by omega)])
        clear FS2
        refine wi_ A (h5_ t0 t3 t6 t7 t10) (rv_ 1 (.int .i64 ((i + 1 : Nat) : Int)) (fun a ee => execAd8 (p := i) (q := 1) rfl (ee _) rfl (by omega)) (rf_ [(10, .int .i64 ((i + 1 : Nat) : Int))] (h4_ t0 t3 t6 t7) ?_))
        rintro a A ⟨t10, -⟩ ⟨t0, t3, t6, t7, -⟩
        exact ⟨⟨i + 1, lti, A, t0, t3, t6, t7, t10, BB, FXs⟩, by show 4 - (intOf (a.eval (.tmp 10))).toNat < 4 - (intOf (Act.eval _ (.tmp 10))).toNat; rw [t10, esi]; show 4 - (i + 1) < 4 - i; omega⟩
      · rw [decide_eq_false lti] at t101
        refine wp_cond_false t101 ?_
        refine wp_exit ?_
        first | with_reducible refine exit_in ?_ | with_reducible refine exit_then (exit_in ?_) | with_reducible refine exit_then (exit_then (exit_in ?_)) | refine exit_in ?_ | refine exit_then (exit_in ?_) | refine exit_then (exit_then (exit_in ?_))
        clear t101 esi
        have ei : i = 4 := by omega
        rw [ei] at FXs
        clear t10 ei lti
        have FXs := P5.begin (FXs.cg (me2 := D.e) (fun _ _ => rfl) (fun t ht => if_pos ht))
        refine wp_seq ?_
        refine wp_seq ?_
        refine wi_ A (h4_ t0 t3 t6 t7) (rf_ [(11, .int .i64 ((0 : Nat) : Int))] (h4_ t0 t3 t6 t7) ?_)
        rintro a A ⟨t11, -⟩ ⟨t0, t3, t6, t7, -⟩
        refine wp_block ?_
        refine wp_loop (fun a W => ∃ (k : Nat) (y : Nat → Value) (z : Nat → Value), k ≤ 12 ∧ (a.tmps.size = 254 ∧ a.defers = []) ∧ a.eval (.tmp 0) = .slice (some ⟨D.gw, 0, none⟩) 4 4 ∧ a.eval (.tmp 3) = lv ∧ a.eval (.tmp 6) = .slice (some ⟨R1, 0, none⟩) L L ∧ a.eval (.tmp 7) = .slice (some ⟨R2, 0, none⟩) 4 4 ∧ a.eval (.tmp 11) = .int .i64 ((k : Nat) : Int) ∧ Below U.heap.size U W ∧ (P5 D L x nn lv R1 R2 y z y z (fun _ => k) (fun _ => k) W)) (fun a _ => 12 - (intOf (a.eval (.tmp 11))).toNat) ⟨0, x, D.e, Nat.zero_le _, A, t0, t3, t6, t7, t11, BB, FXs⟩ ?_
        clear A t0 t3 t6 t7 t11 BB FXs a
        rintro a XL25 ⟨k, y, z, hk, A, t0, t3, t6, t7, t11, BB, FXs⟩
        have esk := t11
        refine wp_seq ?_
        refine wp_seq ?_
        refine wi_ A (h5_ t0 t3 t6 t7 t11) (rv_ 1 (.bool (decide (k < 12))) (fun a ee => execLtW (p := k) (q := 12) rfl (ee _) rfl) (rf_ [(113, .bool (decide (k < 12)))] (h5_ t0 t3 t6 t7 t11) ?_))
        rintro a A ⟨t113, -⟩ ⟨t0, t3, t6, t7, t11, -⟩
        by_cases ltk : k < 12
        · rw [decide_eq_true ltk] at t113
          refine wp_cond_true t113 ?_
          refine wp_skip ?_
          clear t113
          refine wp_seq ?_
          refine wp_block ?_
          refine wp_seq ?_
          refine wp_seq ?_
          refine wi_ A (h5_ t0 t3 t6 t7 t11) (rf_ [(12, .int .i64 ((0 : Nat) : Int))] (h5_ t0 t3 t6 t7 t11) ?_)
          rintro a A ⟨t12, -⟩ ⟨t0, t3, t6, t7, t11, -⟩
          replace FXs := FXs.cg (dd2 := fun t => if t < 0 then k + 1 else k) (fun _ _ => rfl) (fun _ _ => rfl)
          refine wp_block ?_
          refine wp_loop (fun a W => ∃ (i : Nat) (yy : Nat → Value), i ≤ L ∧ (a.tmps.size = 254 ∧ a.defers = []) ∧ a.eval (.tmp 0) = .slice (some ⟨D.gw, 0, none⟩) 4 4 ∧ a.eval (.tmp 3) = lv ∧ a.eval (.tmp 6) = .slice (some ⟨R1, 0, none⟩) L L ∧ a.eval (.tmp 7) = .slice (some ⟨R2, 0, none⟩) 4 4 ∧ a.eval (.tmp 11) = .int .i64 ((k : Nat) : Int) ∧ a.eval (.tmp 12) = .int .i64 ((i : Nat) : Int) ∧ Below U.heap.size U W ∧ (P5 D L x nn lv R1 R2 yy z yy z (fun t => if t < i then k + 1 else k) (fun _ => k) W)) (fun a _ => L - (intOf (a.eval (.tmp 12))).toNat) ⟨0, y, Nat.zero_le _, A, t0, t3, t6, t7, t11, t12, BB, FXs⟩ ?_
          clear A t0 t3 t6 t7 t11 t12 BB FXs a
          rintro a XL28 ⟨i, yy, hi, A, t0, t3, t6, t7, t11, t12, BB, FXs⟩
          have esi := t12
          refine wp_seq ?_
          refine wp_seq ?_
          refine wi_ A (h6_ t0 t3 t6 t7 t11 t12) (rv_ 2 (.int .i64 ((L : Nat) : Int)) (fun a ee => execLenLs (len := L) rfl (ee _) ⟨_, _, rfl⟩) (rv_ 3 (.bool (decide (i < L))) (fun a ee => execLtW (p := i) (q := L) rfl (ee _) (ee _)) (rf_ [(119, .bool (decide (i < L)))] (h6_ t0 t3 t6 t7 t11 t12) ?_)))
          rintro a A ⟨t119, -⟩ ⟨t0, t3, t6, t7, t11, t12, -⟩
          by_cases lti : i < L
          · rw [decide_eq_true lti] at t119
            refine wp_cond_true t119 ?_
            refine wp_skip ?_
            clear t119
            refine wp_seq ?_
            refine wp_block ?_
            obtain ⟨g134, egg134⟩ : ∃ z_ : Nat, XL28.heap.size = z_ := ⟨_, rfl⟩
            refine wi_ A (h6_ t0 t3 t6 t7 t11 t12) (rv_ 4 (.pointer (some ⟨R1, 0 + i, none⟩)) (fun a ee => execIdxLs (k := i) rfl ((ee _).trans rfl) (ee _) lti) (rv_ 5 (yy i) (fun a ee => execLdTs rfl (ee _) ((FXs).rs.tg.at lti).1) (rv_ 7 (.int .u8 ((i % 256 : Nat) : Int)) (fun a ee => execCv5 (n := i) rfl (ee _)) (rv_ 9 (.int .i64 ((i / 256 : Nat) : Int)) (fun a ee => execShr8 (n := i) rfl (ee _)) (rv_ 10 (.int .u8 (((i / 256) % 256 : Nat) : Int)) (fun a ee => execCv5 (n := i / 256) rfl (ee _)) (rv_ 11 (.agg (bA 16 (mkB 2 i))) (fun a ee => execBdM (k := 2) (t := i) rfl rfl (ee _) (ee _)) (rs_ 12 (fun a ee => ?_))))))))
            refine stepV rfl rfl (execBsT rfl (ee _)) ⟨.slice (some ⟨g134, 0, none⟩) 1 1, ⟨_, rfl, by subst egg134; rfl⟩, fun X30_1 hX => ?_⟩
            have bQ : Below XL28.heap.size XL28 X30_1 := by subst hX egg134; exact (belNew XL28 _)
            have F134 : (X30_1.heap[g134]? = some (.cells (bA 16 (mkB 2 i)) 36)) := by subst hX egg134; exact heapNew XL28 _
            replace FXs := ((FXs).on hH bQ)
            replace BB := BB.trans (bQ.mono BB.size)
            clear bQ hX egg134 ee a
            refine rs_ 13 (fun a ee => ?_)
            refine stepApM (i := i) rfl rfl rfl (ee _) (ee _) FXs hH lti F134 (hnn i lti) (by show (if i < i then k + 1 else k) ≤ 1000; rw [if_neg (by omega)]; omega) fun v135 X30_2 P' hb' sh' => ⟨_, ⟨_, rfl, rfl⟩, eqw ?_⟩
            obtain ⟨BB, FS1, Fsh⟩ : Below U.heap.size U X30_2 ∧ (P5 D L x nn lv R1 R2 yy z (up yy i v135) z (up (fun t => if t < i then k + 1 else k) i ((fun t => if t < i then k + 1 else k) i + 1)) (fun _ => k) X30_2) ∧ (∃ g_ n_ c_, v135 = .slice g_ n_ c_) := ⟨(ub hUV hDB hb'), P', sh'⟩
            clear FXs F134 ee a
            refine rv_ 14 (.pointer (some ⟨R1, 0 + i, none⟩)) (fun a ee => execIdxLs (k := i) rfl ((ee _).trans rfl) (ee _) lti) (rs_ 15 (fun a ee => ?_))
            refine stepS rfl rfl (execStTs rfl (ee _) (ee _) Fsh ((FS1).rs.tg.at lti).1 ((FS1).rs.tg.at lti).2) ⟨_, ⟨_, rfl, rfl⟩, fun X30 hX => ?_⟩
            obtain ⟨BB, FS2⟩ : Below U.heap.size U X30 ∧ (P5 D L x nn lv R1 R2 (up yy i v135) z (up yy i v135) z (up (fun t => if t < i then k + 1 else k) i ((fun t => if t < i then k + 1 else k) i + 1)) (fun _ => k) X30) := by subst hX; exact ⟨(ub hUV hDB ((FS1).putT hH i v135).rs.bel), (FS1).putT hH i v135⟩
            clear FS1 Fsh hX ee a
            refine rf_ [] (h6_ t0 t3 t6 t7 t11 t12) ?_
            rintro a A - ⟨t0, t3, t6, t7, t11, t12, -⟩
            have FXs := FS2.cg (dd2 := fun t => if t < i + 1 then k + 1 else k) (fun t _ => by by_cases q_ : t = i; rw [q_, up_at]; show (if i < i then k + 1 else k) + 1 = (if i < i + 1 then k + 1 else k); rw [if_neg (by omega), if_pos (by omega)]; rw [up_ne _ _ q_]; show (if t < i then k + 1 else k) = (if t < i + 1 then k + 1 else k); by_cases q2_ : t < i; rw [if_pos q2_, if_pos (by omega)]; rw [if_neg q2_, if_neg (by omega)]) (fun _ _ => rfl)
            clear FS2
            refine wi_ A (h6_ t0 t3 t6 t7 t11 t12) (rv_ 1 (.int .i64 ((i + 1 : Nat) : Int)) (fun a ee => execAd8 (p := i) (q := 1) rfl (ee _) rfl (by omega)) (rf_ [(12, .int .i64 ((i + 1 : Nat) : Int))] (h5_ t0 t3 t6 t7 t11) ?_))
            rintro a A ⟨t12, -⟩ ⟨t0, t3, t6, t7, t11, -⟩
            exact ⟨⟨i + 1, up yy i v135, lti, A, t0, t3, t6, t7, t11, t12, BB, FXs⟩, by show L - (intOf (a.eval (.tmp 12))).toNat < L - (intOf (Act.eval _ (.tmp 12))).toNat; rw [t12, esi]; show L - (i + 1) < L - i; omega⟩
          · rw [decide_eq_false lti] at t119
            refine wp_cond_false t119 ?_
            refine wp_exit ?_
            first | with_reducible refine exit_in ?_ | with_reducible refine exit_then (exit_in ?_) | with_reducible refine exit_then (exit_then (exit_in ?_)) | refine exit_in ?_ | refine exit_then (exit_in ?_) | refine exit_then (exit_then (exit_in ?_))
            clear t119 esi
            have FXs := FXs.cg (dd2 := fun _ => k + 1) (de2 := fun t => if t < 0 then k + 1 else k) (fun t ht => if_pos (by omega)) (fun _ _ => rfl)
            clear t12 lti
            refine wp_seq ?_
            refine wi_ A (h5_ t0 t3 t6 t7 t11) (rf_ [(13, .int .i64 ((0 : Nat) : Int))] (h5_ t0 t3 t6 t7 t11) ?_)
            rintro a A ⟨t13, -⟩ ⟨t0, t3, t6, t7, t11, -⟩
            refine wp_block ?_
            refine wp_loop (fun a W => ∃ (l : Nat) (zz : Nat → Value), l ≤ 4 ∧ (a.tmps.size = 254 ∧ a.defers = []) ∧ a.eval (.tmp 0) = .slice (some ⟨D.gw, 0, none⟩) 4 4 ∧ a.eval (.tmp 3) = lv ∧ a.eval (.tmp 6) = .slice (some ⟨R1, 0, none⟩) L L ∧ a.eval (.tmp 7) = .slice (some ⟨R2, 0, none⟩) 4 4 ∧ a.eval (.tmp 11) = .int .i64 ((k : Nat) : Int) ∧ a.eval (.tmp 13) = .int .i64 ((l : Nat) : Int) ∧ Below U.heap.size U W ∧ (P5 D L x nn lv R1 R2 yy zz yy zz (fun _ => k + 1) (fun t => if t < l then k + 1 else k) W)) (fun a _ => 4 - (intOf (a.eval (.tmp 13))).toNat) ⟨0, z, Nat.zero_le _, A, t0, t3, t6, t7, t11, t13, BB, FXs⟩ ?_
            clear A t0 t3 t6 t7 t11 t13 BB FXs a
            rintro a XL32 ⟨l, zz, hl, A, t0, t3, t6, t7, t11, t13, BB, FXs⟩
            have esl := t13
            refine wp_seq ?_
            refine wp_seq ?_
            refine wi_ A (h6_ t0 t3 t6 t7 t11 t13) (rv_ 2 (.int .i64 ((4 : Nat) : Int)) (fun a ee => execLenLe (len := 4) rfl (ee _) ⟨_, _, rfl⟩) (rv_ 3 (.bool (decide (l < 4))) (fun a ee => execLtW (p := l) (q := 4) rfl (ee _) (ee _)) (rf_ [(140, .bool (decide (l < 4)))] (h6_ t0 t3 t6 t7 t11 t13) ?_)))
            rintro a A ⟨t140, -⟩ ⟨t0, t3, t6, t7, t11, t13, -⟩
            by_cases ltl : l < 4
            · rw [decide_eq_true ltl] at t140
              refine wp_cond_true t140 ?_
              refine wp_skip ?_
              clear t140
              refine wp_seq ?_
              refine wp_block ?_
              obtain ⟨g152, egg152⟩ : ∃ z_ : Nat, XL32.heap.size = z_ := ⟨_, rfl⟩
              refine wi_ A (h6_ t0 t3 t6 t7 t11 t13) (rv_ 4 (.pointer (some ⟨R2, 0 + l, none⟩)) (fun a ee => execIdxLe (k := l) rfl ((ee _).trans rfl) (ee _) ltl) (rv_ 5 (zz l) (fun a ee => execLdEs rfl (ee _) ((FXs).rs.te.at ltl).1) (rv_ 7 (.int .i64 (-200 - (l : Int))) (fun a ee => execSbC (q := l) rfl (ee _) rfl (by omega) (by omega)) (rv_ 8 (.agg (epC (-200 - (l : Int)) (.slice none 0 0))) (fun a ee => execBdE0 rfl (ee _)) (rs_ 9 (fun a ee => ?_))))))
              refine stepV rfl rfl (execBsEp rfl (ee _) ⟨_, _, _, rfl⟩) ⟨.slice (some ⟨g152, 0, none⟩) 1 1, ⟨_, rfl, by subst egg152; rfl⟩, fun X34_1 hX => ?_⟩
              have bQ : Below XL32.heap.size XL32 X34_1 := by subst hX egg152; exact (belNew XL32 _)
              have F152 : (X34_1.heap[g152]? = some (.cells (epC (-200 - (l : Int)) (.slice none 0 0)) 47)) := by subst hX egg152; exact heapNew XL32 _
              replace FXs := ((FXs).on hH bQ)
              replace BB := BB.trans (bQ.mono BB.size)
              clear bQ hX egg152 ee a
              refine rs_ 10 (fun a ee => ?_)
              refine stepApN (i := l) rfl rfl rfl (ee _) (ee _) FXs hH ltl F152 (by show (if l < l then k + 1 else k) ≤ 1000; rw [if_neg (by omega)]; omega) fun v153 X34_2 P' hb' sh' => ⟨_, ⟨_, rfl, rfl⟩, eqw ?_⟩
              obtain ⟨BB, FS1, Fsh⟩ : Below U.heap.size U X34_2 ∧ (P5 D L x nn lv R1 R2 yy zz yy (up zz l v153) (fun _ => k + 1) (up (fun t => if t < l then k + 1 else k) l ((fun t => if t < l then k + 1 else k) l + 1)) X34_2) ∧ (∃ g_ n_ c_, v153 = .slice g_ n_ c_) := ⟨(ub hUV hDB hb'), P', sh'⟩
              clear FXs F152 ee a
              refine rv_ 11 (.pointer (some ⟨R2, 0 + l, none⟩)) (fun a ee => execIdxLe (k := l) rfl ((ee _).trans rfl) (ee _) ltl) (rs_ 12 (fun a ee => ?_))
              refine stepS rfl rfl (execStEs rfl (ee _) (ee _) Fsh ((FS1).rs.te.at ltl).1 ((FS1).rs.te.at ltl).2) ⟨_, ⟨_, rfl, rfl⟩, fun X34 hX => ?_⟩
              obtain ⟨BB, FS2⟩ : Below U.heap.size U X34 ∧ (P5 D L x nn lv R1 R2 yy (up zz l v153) yy (up zz l v153) (fun _ => k + 1) (up (fun t => if t < l then k + 1 else k) l ((fun t => if t < l then k + 1 else k) l + 1)) X34) := by subst hX; exact ⟨(ub hUV hDB ((FS1).putE hH l v153).rs.bel), (FS1).putE hH l v153⟩
              clear FS1 Fsh hX ee a
              refine rf_ [] (h6_ t0 t3 t6 t7 t11 t13) ?_
              rintro a A - ⟨t0, t3, t6, t7, t11, t13, -⟩
              have FXs := FS2.cg (de2 := fun t => if t < (l + 1) then k + 1 else k) (fun _ _ => rfl) (fun t _ => by by_cases q_ : t = l; rw [q_, up_at]; show (if l < l then k + 1 else k) + 1 = (if l < l + 1 then k + 1 else k); rw [if_neg (by omega), if_pos (by omega)]; rw [up_ne _ _ q_]; show (if t < l then k + 1 else k) = (if t < l + 1 then k + 1 else k); by_cases q2_ : t < l; rw [if_pos q2_, if_pos (by omega)]; rw [if_neg q2_, if_neg (by omega)])
              clear FS2
              refine wi_ A (h6_ t0 t3 t6 t7 t11 t13) (rv_ 1 (.int .i64 ((l + 1 : Nat) : Int)) (fun a ee => execAd8 (p := l) (q := 1) rfl (ee _) rfl (by omega)) (rf_ [(13, .int .i64 ((l + 1 : Nat) : Int))] (h5_ t0 t3 t6 t7 t11) ?_))
              rintro a A ⟨t13, -⟩ ⟨t0, t3, t6, t7, t11, -⟩
              exact ⟨⟨l + 1, up zz l v153, ltl, A, t0, t3, t6, t7, t11, t13, BB, FXs⟩, by show 4 - (intOf (a.eval (.tmp 13))).toNat < 4 - (intOf (Act.eval _ (.tmp 13))).toNat; rw [t13, esl]; show 4 - (l + 1) < 4 - l; omega⟩
            · rw [decide_eq_false ltl] at t140
              refine wp_cond_false t140 ?_
              refine wp_exit ?_
              first | with_reducible refine exit_in ?_ | with_reducible refine exit_then (exit_in ?_) | with_reducible refine exit_then (exit_then (exit_in ?_)) | refine exit_in ?_ | refine exit_then (exit_in ?_) | refine exit_then (exit_then (exit_in ?_))
              clear t140 esl
              have FXs := FXs.cg (de2 := fun _ => k + 1) (fun _ _ => rfl) (fun t ht => if_pos (by omega))
              clear t13 ltl
              refine wi_ A (h5_ t0 t3 t6 t7 t11) (rv_ 1 (.int .i64 ((k + 1 : Nat) : Int)) (fun a ee => execAd8 (p := k) (q := 1) rfl (ee _) rfl (by omega)) (rf_ [(11, .int .i64 ((k + 1 : Nat) : Int))] (h4_ t0 t3 t6 t7) ?_))
              rintro a A ⟨t11, -⟩ ⟨t0, t3, t6, t7, -⟩
              exact ⟨⟨k + 1, yy, zz, ltk, A, t0, t3, t6, t7, t11, BB, FXs⟩, by show 12 - (intOf (a.eval (.tmp 11))).toNat < 12 - (intOf (Act.eval _ (.tmp 11))).toNat; rw [t11, esk]; show 12 - (k + 1) < 12 - k; omega⟩
        · rw [decide_eq_false ltk] at t113
          refine wp_cond_false t113 ?_
          refine wp_exit ?_
          first | with_reducible refine exit_in ?_ | with_reducible refine exit_then (exit_in ?_) | with_reducible refine exit_then (exit_then (exit_in ?_)) | refine exit_in ?_ | refine exit_then (exit_in ?_) | refine exit_then (exit_then (exit_in ?_))
          clear t113 esk
          have ek : k = 12 := by omega
          rw [ek] at FXs
          clear t11 ek ltk
          refine wp_seq ?_
          refine wp_seq ?_
          refine wi_ A (h4_ t0 t3 t6 t7) (rf_ [(14, .int .i64 ((0 : Nat) : Int))] (h4_ t0 t3 t6 t7) ?_)
          rintro a A ⟨t14, -⟩ ⟨t0, t3, t6, t7, -⟩
          refine wp_block ?_
          refine wp_loop (fun a W => ∃ (i : Nat), i ≤ L ∧ (a.tmps.size = 254 ∧ a.defers = []) ∧ a.eval (.tmp 0) = .slice (some ⟨D.gw, 0, none⟩) 4 4 ∧ a.eval (.tmp 3) = lv ∧ a.eval (.tmp 6) = .slice (some ⟨R1, 0, none⟩) L L ∧ a.eval (.tmp 7) = .slice (some ⟨R2, 0, none⟩) 4 4 ∧ a.eval (.tmp 14) = .int .i64 ((i : Nat) : Int) ∧ Below U.heap.size U W ∧ (P5 D L x nn lv R1 R2 y z y z (fun _ => 12) (fun _ => 12) W)) (fun a _ => L - (intOf (a.eval (.tmp 14))).toNat) ⟨0, Nat.zero_le _, A, t0, t3, t6, t7, t14, BB, FXs⟩ ?_
          clear A t0 t3 t6 t7 t14 BB FXs a
          rintro a XL36 ⟨i, hi, A, t0, t3, t6, t7, t14, BB, FXs⟩
          have esi := t14
          refine wp_seq ?_
          refine wp_seq ?_
          refine wi_ A (h5_ t0 t3 t6 t7 t14) (rv_ 2 (.int .i64 ((L : Nat) : Int)) (fun a ee => execLenLs (len := L) rfl (ee _) ⟨_, _, rfl⟩) (rv_ 3 (.bool (decide (i < L))) (fun a ee => execLtW (p := i) (q := L) rfl (ee _) (ee _)) (rf_ [(158, .bool (decide (i < L)))] (h5_ t0 t3 t6 t7 t14) ?_)))
          rintro a A ⟨t158, -⟩ ⟨t0, t3, t6, t7, t14, -⟩
          by_cases lti : i < L
          · rw [decide_eq_true lti] at t158
            refine wp_cond_true t158 ?_
            refine wp_skip ?_
            clear t158
            refine wp_seq ?_
            refine wp_block ?_
            have hnni := hnn i lti
            obtain ⟨gl, cl, hgl, -⟩ := own_some FXs.rs.li (by omega)
            have hxi := own_shn (FXs.gt.rx i lti)
            have hyi : ∃ ao c, y i = .slice ao (nn i + 12) c := own_shn (FXs.gt.ry i lti)
            refine wp_seq ?_
            refine wi_ A (h5_ t0 t3 t6 t7 t14) (rf_ [(15, .int .i64 ((0 : Nat) : Int))] (h5_ t0 t3 t6 t7 t14) ?_)
            rintro a A ⟨t15, -⟩ ⟨t0, t3, t6, t7, t14, -⟩
            refine wp_block ?_
            refine wp_loop (fun a W => ∃ (j : Nat), j ≤ nn i + 12 ∧ (a.tmps.size = 254 ∧ a.defers = []) ∧ a.eval (.tmp 0) = .slice (some ⟨D.gw, 0, none⟩) 4 4 ∧ a.eval (.tmp 3) = lv ∧ a.eval (.tmp 6) = .slice (some ⟨R1, 0, none⟩) L L ∧ a.eval (.tmp 7) = .slice (some ⟨R2, 0, none⟩) 4 4 ∧ a.eval (.tmp 14) = .int .i64 ((i : Nat) : Int) ∧ a.eval (.tmp 15) = .int .i64 ((j : Nat) : Int) ∧ Below U.heap.size U W ∧ (P5 D L x nn lv R1 R2 y z y z (fun _ => 12) (fun _ => 12) W)) (fun a _ => nn i + 12 - (intOf (a.eval (.tmp 15))).toNat) ⟨0, Nat.zero_le _, A, t0, t3, t6, t7, t14, t15, BB, FXs⟩ ?_
            clear A t0 t3 t6 t7 t14 t15 BB FXs a
            rintro a XL39 ⟨j, hj, A, t0, t3, t6, t7, t14, t15, BB, FXs⟩
            have esj := t15
            refine wp_seq ?_
            refine wp_seq ?_
            refine wi_ A (h6_ t0 t3 t6 t7 t14 t15) (rv_ 3 (.pointer (some ⟨R1, 0 + i, none⟩)) (fun a ee => execIdxLs (k := i) rfl ((ee _).trans rfl) (ee _) lti) (rv_ 4 (y i) (fun a ee => execLdTs rfl (ee _) ((FXs).rs.tg.at lti).1) (rv_ 5 (.int .i64 ((nn i + 12 : Nat) : Int)) (fun a ee => execLenTs (len := nn i + 12) rfl (ee _) hyi) (rv_ 6 (.bool (decide (j < nn i + 12))) (fun a ee => execLtW (p := j) (q := nn i + 12) rfl (ee _) (ee _)) (rf_ [(167, .bool (decide (j < nn i + 12)))] (h6_ t0 t3 t6 t7 t14 t15) ?_)))))
            rintro a A ⟨t167, -⟩ ⟨t0, t3, t6, t7, t14, t15, -⟩
            by_cases ltj : j < nn i + 12
            · rw [decide_eq_true ltj] at t167
              refine wp_cond_true t167 ?_
              refine wp_skip ?_
              clear t167
              refine wp_seq ?_
              refine wp_block ?_
              obtain ⟨gy, cy, hgy, -⟩ : ∃ g c, y i = .slice (some ⟨g, 0, none⟩) (nn i + 12) c ∧ nn i + 12 ≤ c := own_some (FXs.gt.ry i lti) (by show 0 < nn i + 12; omega)
              refine wp_seq ?_
              refine wi_ A (h6_ t0 t3 t6 t7 t14 t15) (rf_ [(16, .int .u8 1)] (h6_ t0 t3 t6 t7 t14 t15) ?_)
              rintro a A ⟨t16, -⟩ ⟨t0, t3, t6, t7, t14, t15, -⟩
              refine wp_seq ?_
              refine wp_seq ?_
              by_cases hjn : j < nn i
              · refine wi_ A (h7_ t0 t3 t6 t7 t14 t15 t16) (rv_ 3 (.pointer (some ⟨gl, 0 + i, none⟩)) (fun a ee => execIdxLs (k := i) rfl ((ee _).trans hgl) (ee _) lti) (rv_ 4 (x i) (fun a ee => execLdTs rfl (ee _) (own_vat (own_eq (FXs).rs.li hgl) lti)) (rv_ 5 (.int .i64 ((nn i : Nat) : Int)) (fun a ee => execLenTs (len := nn i) rfl (ee _) hxi) (rv_ 6 (.bool false) (fun a ee => execDec (execGe8 (p := j) (q := nn i) rfl (ee _) (ee _)) (decide_eq_false (by omega))) (rf_ [(176, .bool false)] (h7_ t0 t3 t6 t7 t14 t15 t16) ?_)))))
                rintro a A ⟨t176, -⟩ ⟨t0, t3, t6, t7, t14, t15, t16, -⟩
                refine wp_cond_false t176 ?_
                clear t176
                obtain ⟨gx, cx, hgx, -⟩ := own_some (FXs.gt.rx i lti) (by omega)
                refine wp_seq ?_
                refine wi_ A (h7_ t0 t3 t6 t7 t14 t15 t16) (rv_ 2 (.pointer (some ⟨gl, 0 + i, none⟩)) (fun a ee => execIdxLs (k := i) rfl ((ee _).trans hgl) (ee _) lti) (rv_ 3 (x i) (fun a ee => execLdTs rfl (ee _) (own_vat (own_eq (FXs).rs.li hgl) lti)) (rv_ 5 (.pointer (some ⟨gx, 0 + j * 16, none⟩)) (fun a ee => execIdxTs (k := j) rfl ((ee _).trans hgx) (ee _) hjn) (rv_ 6 (.agg (bA 16 (mkB 1 i))) (fun a ee => execLdT rfl (ee _) (fun j_ hj_ => own_tgv (own_eq ((FXs).gt.rx i lti) hgx) hjn hj_)) (rv_ 8 (.int .u8 ((i % 256 : Nat) : Int)) (fun a ee => execCv5 (n := i) rfl (ee _)) (rv_ 10 (.int .i64 ((i / 256 : Nat) : Int)) (fun a ee => execShr8 (n := i) rfl (ee _)) (rv_ 11 (.int .u8 (((i / 256) % 256 : Nat) : Int)) (fun a ee => execCv5 (n := i / 256) rfl (ee _)) (rv_ 12 (.agg (bA 16 (mkB 1 i))) (fun a ee => execBdM (k := 1) (t := i) rfl rfl (ee _) (ee _)) (rv_ 13 (.bool false) (fun a ee => execneq16t rfl (ee _) (ee _) (eqB_true (fun _ _ => rfl))) (rf_ [(190, .bool false)] (h7_ t0 t3 t6 t7 t14 t15 t16) ?_))))))))))
                rintro a A ⟨t190, -⟩ ⟨t0, t3, t6, t7, t14, t15, t16, -⟩
                refine wp_cond_false t190 ?_
                refine wp_skip ?_
                clear t190
                refine wp_seq ?_
                refine wi_ A (h7_ t0 t3 t6 t7 t14 t15 t16) (rv_ 2 (.pointer (some ⟨R1, 0 + i, none⟩)) (fun a ee => execIdxLs (k := i) rfl ((ee _).trans rfl) (ee _) lti) (rv_ 3 (y i) (fun a ee => execLdTs rfl (ee _) ((FXs).rs.tg.at lti).1) (rv_ 5 (.pointer (some ⟨gy, 0 + j * 16, none⟩)) (fun a ee => execIdxTs (k := j) rfl ((ee _).trans hgy) (ee _) ltj) (rv_ 6 (.agg (bA 16 (mkB 1 i))) (fun a ee => execLdT rfl (ee _) ((FXs).lo lti hgy hjn)) (rv_ 9 (.int .u8 ((i % 256 : Nat) : Int)) (fun a ee => execCv5 (n := i) rfl (ee _)) (rv_ 11 (.int .i64 ((i / 256 : Nat) : Int)) (fun a ee => execShr8 (n := i) rfl (ee _)) (rv_ 12 (.int .u8 (((i / 256) % 256 : Nat) : Int)) (fun a ee => execCv5 (n := i / 256) rfl (ee _)) (rv_ 13 (.agg (bA 16 (mkB 1 i))) (fun a ee => execBdM (k := 1) (t := i) rfl (ee _) (ee _) (ee _)) (rv_ 14 (.bool false) (fun a ee => execneq16t rfl (ee _) (ee _) (eqB_true (fun _ _ => rfl))) (rf_ [(205, .bool false)] (h6_ t0 t3 t6 t7 t14 t15) ?_))))))))))
                rintro a A ⟨t205, -⟩ ⟨t0, t3, t6, t7, t14, t15, -⟩
                refine wp_cond_false t205 ?_
                refine wp_skip ?_
                clear t205
                refine wi_ A (h6_ t0 t3 t6 t7 t14 t15) (rv_ 1 (.int .i64 ((j + 1 : Nat) : Int)) (fun a ee => execAd8 (p := j) (q := 1) rfl (ee _) rfl (by omega)) (rf_ [(15, .int .i64 ((j + 1 : Nat) : Int))] (h5_ t0 t3 t6 t7 t14) ?_))
                rintro a A ⟨t15, -⟩ ⟨t0, t3, t6, t7, t14, -⟩
                exact ⟨⟨j + 1, ltj, A, t0, t3, t6, t7, t14, t15, BB, FXs⟩, by show nn i + 12 - (intOf (a.eval (.tmp 15))).toNat < nn i + 12 - (intOf (Act.eval _ (.tmp 15))).toNat; rw [t15, esj]; show nn i + 12 - (j + 1) < nn i + 12 - j; omega⟩
              · refine wi_ A (h7_ t0 t3 t6 t7 t14 t15 t16) (rv_ 3 (.pointer (some ⟨gl, 0 + i, none⟩)) (fun a ee => execIdxLs (k := i) rfl ((ee _).trans hgl) (ee _) lti) (rv_ 4 (x i) (fun a ee => execLdTs rfl (ee _) (own_vat (own_eq (FXs).rs.li hgl) lti)) (rv_ 5 (.int .i64 ((nn i : Nat) : Int)) (fun a ee => execLenTs (len := nn i) rfl (ee _) hxi) (rv_ 6 (.bool true) (fun a ee => execDec (execGe8 (p := j) (q := nn i) rfl (ee _) (ee _)) (decide_eq_true (by omega))) (rf_ [(176, .bool true)] (h7_ t0 t3 t6 t7 t14 t15 t16) ?_)))))
                rintro a A ⟨t176, -⟩ ⟨t0, t3, t6, t7, t14, t15, t16, -⟩
                refine wp_cond_true t176 ?_
                clear t176
                refine wi_ A (h7_ t0 t3 t6 t7 t14 t15 t16) (rf_ [(16, .int .u8 2)] (h6_ t0 t3 t6 t7 t14 t15) ?_)
                rintro a A ⟨t16, -⟩ ⟨t0, t3, t6, t7, t14, t15, -⟩
                refine wp_seq ?_
                refine wi_ A (h7_ t0 t3 t6 t7 t14 t15 t16) (rv_ 2 (.pointer (some ⟨R1, 0 + i, none⟩)) (fun a ee => execIdxLs (k := i) rfl ((ee _).trans rfl) (ee _) lti) (rv_ 3 (y i) (fun a ee => execLdTs rfl (ee _) ((FXs).rs.tg.at lti).1) (rv_ 5 (.pointer (some ⟨gy, 0 + j * 16, none⟩)) (fun a ee => execIdxTs (k := j) rfl ((ee _).trans hgy) (ee _) ltj) (rv_ 6 (.agg (bA 16 (mkB 2 i))) (fun a ee => execLdT rfl (ee _) ((FXs).hi lti hgy (by omega) ltj)) (rv_ 9 (.int .u8 ((i % 256 : Nat) : Int)) (fun a ee => execCv5 (n := i) rfl (ee _)) (rv_ 11 (.int .i64 ((i / 256 : Nat) : Int)) (fun a ee => execShr8 (n := i) rfl (ee _)) (rv_ 12 (.int .u8 (((i / 256) % 256 : Nat) : Int)) (fun a ee => execCv5 (n := i / 256) rfl (ee _)) (rv_ 13 (.agg (bA 16 (mkB 2 i))) (fun a ee => execBdM (k := 2) (t := i) rfl (ee _) (ee _) (ee _)) (rv_ 14 (.bool false) (fun a ee => execneq16t rfl (ee _) (ee _) (eqB_true (fun _ _ => rfl))) (rf_ [(205, .bool false)] (h6_ t0 t3 t6 t7 t14 t15) ?_))))))))))
                rintro a A ⟨t205, -⟩ ⟨t0, t3, t6, t7, t14, t15, -⟩
                refine wp_cond_false t205 ?_
                refine wp_skip ?_
                clear t205
                refine wi_ A (h6_ t0 t3 t6 t7 t14 t15) (rv_ 1 (.int .i64 ((j + 1 : Nat) : Int)) (fun a ee => execAd8 (p := j) (q := 1) rfl (ee _) rfl (by omega)) (rf_ [(15, .int .i64 ((j + 1 : Nat) : Int))] (h5_ t0 t3 t6 t7 t14) ?_))
                rintro a A ⟨t15, -⟩ ⟨t0, t3, t6, t7, t14, -⟩
                exact ⟨⟨j + 1, ltj, A, t0, t3, t6, t7, t14, t15, BB, FXs⟩, by show nn i + 12 - (intOf (a.eval (.tmp 15))).toNat < nn i + 12 - (intOf (Act.eval _ (.tmp 15))).toNat; rw [t15, esj]; show nn i + 12 - (j + 1) < nn i + 12 - j; omega⟩
            · rw [decide_eq_false ltj] at t167
              refine wp_cond_false t167 ?_
              refine wp_exit ?_
              first | with_reducible refine exit_in ?_ | with_reducible refine exit_then (exit_in ?_) | with_reducible refine exit_then (exit_then (exit_in ?_)) | refine exit_in ?_ | refine exit_then (exit_in ?_) | refine exit_then (exit_then (exit_in ?_))
              clear t167 esj
              clear t15
              refine wi_ A (h5_ t0 t3 t6 t7 t14) (rv_ 1 (.int .i64 ((i + 1 : Nat) : Int)) (fun a ee => execAd8 (p := i) (q := 1) rfl (ee _) rfl (by omega)) (rf_ [(14, .int .i64 ((i + 1 : Nat) : Int))] (h4_ t0 t3 t6 t7) ?_))
              rintro a A ⟨t14, -⟩ ⟨t0, t3, t6, t7, -⟩
              exact ⟨⟨i + 1, lti, A, t0, t3, t6, t7, t14, BB, FXs⟩, by show L - (intOf (a.eval (.tmp 14))).toNat < L - (intOf (Act.eval _ (.tmp 14))).toNat; rw [t14, esi]; show L - (i + 1) < L - i; omega⟩
          · rw [decide_eq_false lti] at t158
            refine wp_cond_false t158 ?_
            refine wp_exit ?_
            first | with_reducible refine exit_in ?_ | with_reducible refine exit_then (exit_in ?_) | with_reducible refine exit_then (exit_then (exit_in ?_)) | refine exit_in ?_ | refine exit_then (exit_in ?_) | refine exit_then (exit_then (exit_in ?_))
            clear t158 esi
            clear t14 lti
            refine wp_seq ?_
            refine wp_seq ?_
            refine wi_ A (h4_ t0 t3 t6 t7) (rf_ [(17, .int .i64 ((0 : Nat) : Int))] (h4_ t0 t3 t6 t7) ?_)
            rintro a A ⟨t17, -⟩ ⟨t0, t3, t6, t7, -⟩
            refine wp_block ?_
            refine wp_loop (fun a W => ∃ (i : Nat), i ≤ 4 ∧ (a.tmps.size = 254 ∧ a.defers = []) ∧ a.eval (.tmp 0) = .slice (some ⟨D.gw, 0, none⟩) 4 4 ∧ a.eval (.tmp 3) = lv ∧ a.eval (.tmp 6) = .slice (some ⟨R1, 0, none⟩) L L ∧ a.eval (.tmp 7) = .slice (some ⟨R2, 0, none⟩) 4 4 ∧ a.eval (.tmp 17) = .int .i64 ((i : Nat) : Int) ∧ Below U.heap.size U W ∧ (P5 D L x nn lv R1 R2 y z y z (fun _ => 12) (fun _ => 12) W)) (fun a _ => 4 - (intOf (a.eval (.tmp 17))).toNat) ⟨0, Nat.zero_le _, A, t0, t3, t6, t7, t17, BB, FXs⟩ ?_
            clear A t0 t3 t6 t7 t17 BB FXs a
            rintro a XL49 ⟨i, hi, A, t0, t3, t6, t7, t17, BB, FXs⟩
            have esi := t17
            refine wp_seq ?_
            refine wp_seq ?_
            refine wi_ A (h5_ t0 t3 t6 t7 t17) (rv_ 2 (.int .i64 ((4 : Nat) : Int)) (fun a ee => execLenLe (len := 4) rfl (ee _) ⟨_, _, rfl⟩) (rv_ 3 (.bool (decide (i < 4))) (fun a ee => execLtW (p := i) (q := 4) rfl (ee _) (ee _)) (rf_ [(209, .bool (decide (i < 4)))] (h5_ t0 t3 t6 t7 t17) ?_)))
            rintro a A ⟨t209, -⟩ ⟨t0, t3, t6, t7, t17, -⟩
            by_cases lti : i < 4
            · rw [decide_eq_true lti] at t209
              refine wp_cond_true t209 ?_
              refine wp_skip ?_
              clear t209
              refine wp_seq ?_
              refine wp_block ?_
              have hei := own_shn (hH.rowE i lti)
              have hn60 := hH.n60 i lti
              have hzi : ∃ ao c, z i = .slice ao (D.n i + 12) c := own_shn (FXs.ge.ry i lti)
              refine wp_seq ?_
              refine wi_ A (h5_ t0 t3 t6 t7 t17) (rf_ [(18, .int .i64 ((0 : Nat) : Int))] (h5_ t0 t3 t6 t7 t17) ?_)
              rintro a A ⟨t18, -⟩ ⟨t0, t3, t6, t7, t17, -⟩
              refine wp_block ?_
              refine wp_loop (fun a W => ∃ (j : Nat), j ≤ D.n i + 12 ∧ (a.tmps.size = 254 ∧ a.defers = []) ∧ a.eval (.tmp 0) = .slice (some ⟨D.gw, 0, none⟩) 4 4 ∧ a.eval (.tmp 3) = lv ∧ a.eval (.tmp 6) = .slice (some ⟨R1, 0, none⟩) L L ∧ a.eval (.tmp 7) = .slice (some ⟨R2, 0, none⟩) 4 4 ∧ a.eval (.tmp 17) = .int .i64 ((i : Nat) : Int) ∧ a.eval (.tmp 18) = .int .i64 ((j : Nat) : Int) ∧ Below U.heap.size U W ∧ (P5 D L x nn lv R1 R2 y z y z (fun _ => 12) (fun _ => 12) W)) (fun a _ => D.n i + 12 - (intOf (a.eval (.tmp 18))).toNat) ⟨0, Nat.zero_le _, A, t0, t3, t6, t7, t17, t18, BB, FXs⟩ ?_
              clear A t0 t3 t6 t7 t17 t18 BB FXs a
              rintro a XL52 ⟨j, hj, A, t0, t3, t6, t7, t17, t18, BB, FXs⟩
              have esj := t18
              refine wp_seq ?_
              refine wp_seq ?_
              refine wi_ A (h6_ t0 t3 t6 t7 t17 t18) (rv_ 3 (.pointer (some ⟨R2, 0 + i, none⟩)) (fun a ee => execIdxLe (k := i) rfl ((ee _).trans rfl) (ee _) lti) (rv_ 4 (z i) (fun a ee => execLdEs rfl (ee _) ((FXs).rs.te.at lti).1) (rv_ 5 (.int .i64 ((D.n i + 12 : Nat) : Int)) (fun a ee => execLenEs (len := D.n i + 12) rfl (ee _) hzi) (rv_ 6 (.bool (decide (j < D.n i + 12))) (fun a ee => execLtW (p := j) (q := D.n i + 12) rfl (ee _) (ee _)) (rf_ [(218, .bool (decide (j < D.n i + 12)))] (h6_ t0 t3 t6 t7 t17 t18) ?_)))))
              rintro a A ⟨t218, -⟩ ⟨t0, t3, t6, t7, t17, t18, -⟩
              by_cases ltj : j < D.n i + 12
              · rw [decide_eq_true ltj] at t218
                refine wp_cond_true t218 ?_
                refine wp_skip ?_
                clear t218
                refine wp_seq ?_
                refine wp_block ?_
                obtain ⟨gz, cz, hgz, -⟩ : ∃ g c, z i = .slice (some ⟨g, 0, none⟩) (D.n i + 12) c ∧ D.n i + 12 ≤ c := own_some (FXs.ge.ry i lti) (by show 0 < D.n i + 12; omega)
                refine wp_seq ?_
                refine wi_ A (h6_ t0 t3 t6 t7 t17 t18) (rv_ 1 (.int .i64 (-100 - (i : Int))) (fun a ee => execSbC (q := i) rfl (ee _) rfl (by omega) (by omega)) (rf_ [(19, .int .i64 (-100 - (i : Int)))] (h6_ t0 t3 t6 t7 t17 t18) ?_))
                rintro a A ⟨t19, -⟩ ⟨t0, t3, t6, t7, t17, t18, -⟩
                refine wp_seq ?_
                refine wp_seq ?_
                by_cases hjn : j < D.n i
                · refine wi_ A (h7_ t0 t3 t6 t7 t17 t18 t19) (rv_ 3 (.pointer (some ⟨D.gw, 0 + i * 2, none⟩)) (fun a ee => execIdxWs (k := i) rfl (ee _) (ee _) lti) (rv_ 4 (.pointer (some ⟨D.gw, 0 + i * 2 + 1, none⟩)) (fun a ee => execFldWg rfl (ee _)) (rv_ 5 (D.e i) (fun a ee => execLdEs rfl (ee _) ((FXs).rs.wat hH lti)) (rv_ 6 (.int .i64 ((D.n i : Nat) : Int)) (fun a ee => execLenEs (len := D.n i) rfl (ee _) hei) (rv_ 7 (.bool false) (fun a ee => execDec (execGe8 (p := j) (q := D.n i) rfl (ee _) (ee _)) (decide_eq_false (by omega))) (rf_ [(230, .bool false)] (h7_ t0 t3 t6 t7 t17 t18 t19) ?_))))))
                  rintro a A ⟨t230, -⟩ ⟨t0, t3, t6, t7, t17, t18, t19, -⟩
                  refine wp_cond_false t230 ?_
                  clear t230
                  obtain ⟨ge, ce, hge, -⟩ := own_some (hH.rowE i lti) (by omega)
                  refine wp_seq ?_
                  refine wi_ A (h7_ t0 t3 t6 t7 t17 t18 t19) (rv_ 2 (.pointer (some ⟨D.gw, 0 + i * 2, none⟩)) (fun a ee => execIdxWs (k := i) rfl (ee _) (ee _) lti) (rv_ 3 (.pointer (some ⟨D.gw, 0 + i * 2 + 1, none⟩)) (fun a ee => execFldWg rfl (ee _)) (rv_ 4 (D.e i) (fun a ee => execLdEs rfl (ee _) ((FXs).rs.wat hH lti)) (rv_ 6 (.pointer (some ⟨ge, 0 + j * 2, none⟩)) (fun a ee => execIdxEs (k := j) rfl ((ee _).trans hge) (ee _) hjn) (rv_ 7 (.pointer (some ⟨ge, 0 + j * 2 + 0, none⟩)) (fun a ee => execFldE0 rfl (ee _)) (rv_ 8 (.int .i64 (-100 - (i : Int))) (fun a ee => execLd2 rfl (ee _) (own_epv (own_eq ((FXs).ge.rx i lti) hge) hjn).1) (rv_ 10 (.bool false) (fun a ee => execDec (exIneq2 (p := (-100 - (i : Int))) (q := (-100 - (i : Int))) rfl (ee _) (ee _)) (decide_eq_false (fun h_ => h_ rfl))) (rf_ [(243, .bool false)] (h7_ t0 t3 t6 t7 t17 t18 t19) ?_))))))))
                  rintro a A ⟨t243, -⟩ ⟨t0, t3, t6, t7, t17, t18, t19, -⟩
                  refine wp_cond_false t243 ?_
                  refine wp_skip ?_
                  clear t243
                  refine wp_seq ?_
                  refine wi_ A (h7_ t0 t3 t6 t7 t17 t18 t19) (rv_ 2 (.pointer (some ⟨R2, 0 + i, none⟩)) (fun a ee => execIdxLe (k := i) rfl ((ee _).trans rfl) (ee _) lti) (rv_ 3 (z i) (fun a ee => execLdEs rfl (ee _) ((FXs).rs.te.at lti).1) (rv_ 5 (.pointer (some ⟨gz, 0 + j * 2, none⟩)) (fun a ee => execIdxEs (k := j) rfl ((ee _).trans hgz) (ee _) ltj) (rv_ 6 (.pointer (some ⟨gz, 0 + j * 2 + 0, none⟩)) (fun a ee => execFldE0 rfl (ee _)) (rv_ 7 (.int .i64 (-100 - (i : Int))) (fun a ee => execLd2 rfl (ee _) (((FXs).num lti hgz ltj).trans (by rw [if_pos hjn]))) (rv_ 9 (.bool false) (fun a ee => execDec (exIneq2 (p := (-100 - (i : Int))) (q := (-100 - (i : Int))) rfl (ee _) (ee _)) (decide_eq_false (fun h_ => h_ rfl))) (rf_ [(253, .bool false)] (h6_ t0 t3 t6 t7 t17 t18) ?_)))))))
                  rintro a A ⟨t253, -⟩ ⟨t0, t3, t6, t7, t17, t18, -⟩
                  refine wp_cond_false t253 ?_
                  refine wp_skip ?_
                  clear t253
                  refine wi_ A (h6_ t0 t3 t6 t7 t17 t18) (rv_ 1 (.int .i64 ((j + 1 : Nat) : Int)) (fun a ee => execAd8 (p := j) (q := 1) rfl (ee _) rfl (by omega)) (rf_ [(18, .int .i64 ((j + 1 : Nat) : Int))] (h5_ t0 t3 t6 t7 t17) ?_))
                  rintro a A ⟨t18, -⟩ ⟨t0, t3, t6, t7, t17, -⟩
                  exact ⟨⟨j + 1, ltj, A, t0, t3, t6, t7, t17, t18, BB, FXs⟩, by show D.n i + 12 - (intOf (a.eval (.tmp 18))).toNat < D.n i + 12 - (intOf (Act.eval _ (.tmp 18))).toNat; rw [t18, esj]; show D.n i + 12 - (j + 1) < D.n i + 12 - j; omega⟩
                · refine wi_ A (h7_ t0 t3 t6 t7 t17 t18 t19) (rv_ 3 (.pointer (some ⟨D.gw, 0 + i * 2, none⟩)) (fun a ee => execIdxWs (k := i) rfl (ee _) (ee _) lti) (rv_ 4 (.pointer (some ⟨D.gw, 0 + i * 2 + 1, none⟩)) (fun a ee => execFldWg rfl (ee _)) (rv_ 5 (D.e i) (fun a ee => execLdEs rfl (ee _) ((FXs).rs.wat hH lti)) (rv_ 6 (.int .i64 ((D.n i : Nat) : Int)) (fun a ee => execLenEs (len := D.n i) rfl (ee _) hei) (rv_ 7 (.bool true) (fun a ee => execDec (execGe8 (p := j) (q := D.n i) rfl (ee _) (ee _)) (decide_eq_true (by omega))) (rf_ [(230, .bool true)] (h7_ t0 t3 t6 t7 t17 t18 t19) ?_))))))
                  rintro a A ⟨t230, -⟩ ⟨t0, t3, t6, t7, t17, t18, t19, -⟩
                  refine wp_cond_true t230 ?_
                  clear t230
                  refine wi_ A (h7_ t0 t3 t6 t7 t17 t18 t19) (rv_ 1 (.int .i64 (-200 - (i : Int))) (fun a ee => execSbC (q := i) rfl (ee _) rfl (by omega) (by omega)) (rf_ [(19, .int .i64 (-200 - (i : Int)))] (h6_ t0 t3 t6 t7 t17 t18) ?_))
                  rintro a A ⟨t19, -⟩ ⟨t0, t3, t6, t7, t17, t18, -⟩
                  refine wp_seq ?_
                  refine wi_ A (h7_ t0 t3 t6 t7 t17 t18 t19) (rv_ 2 (.pointer (some ⟨R2, 0 + i, none⟩)) (fun a ee => execIdxLe (k := i) rfl ((ee _).trans rfl) (ee _) lti) (rv_ 3 (z i) (fun a ee => execLdEs rfl (ee _) ((FXs).rs.te.at lti).1) (rv_ 5 (.pointer (some ⟨gz, 0 + j * 2, none⟩)) (fun a ee => execIdxEs (k := j) rfl ((ee _).trans hgz) (ee _) ltj) (rv_ 6 (.pointer (some ⟨gz, 0 + j * 2 + 0, none⟩)) (fun a ee => execFldE0 rfl (ee _)) (rv_ 7 (.int .i64 (-200 - (i : Int))) (fun a ee => execLd2 rfl (ee _) (((FXs).num lti hgz ltj).trans (by rw [if_neg hjn]))) (rv_ 9 (.bool false) (fun a ee => execDec (exIneq2 (p := (-200 - (i : Int))) (q := (-200 - (i : Int))) rfl (ee _) (ee _)) (decide_eq_false (fun h_ => h_ rfl))) (rf_ [(253, .bool false)] (h6_ t0 t3 t6 t7 t17 t18) ?_)))))))
                  rintro a A ⟨t253, -⟩ ⟨t0, t3, t6, t7, t17, t18, -⟩
                  refine wp_cond_false t253 ?_
                  refine wp_skip ?_
                  clear t253
                  refine wi_ A (h6_ t0 t3 t6 t7 t17 t18) (rv_ 1 (.int .i64 ((j + 1 : Nat) : Int)) (fun a ee => execAd8 (p := j) (q := 1) rfl (ee _) rfl (by omega)) (rf_ [(18, .int .i64 ((j + 1 : Nat) : Int))] (h5_ t0 t3 t6 t7 t17) ?_))
                  rintro a A ⟨t18, -⟩ ⟨t0, t3, t6, t7, t17, -⟩
                  exact ⟨⟨j + 1, ltj, A, t0, t3, t6, t7, t17, t18, BB, FXs⟩, by show D.n i + 12 - (intOf (a.eval (.tmp 18))).toNat < D.n i + 12 - (intOf (Act.eval _ (.tmp 18))).toNat; rw [t18, esj]; show D.n i + 12 - (j + 1) < D.n i + 12 - j; omega⟩
              · rw [decide_eq_false ltj] at t218
                refine wp_cond_false t218 ?_
                refine wp_exit ?_
                first | with_reducible refine exit_in ?_ | with_reducible refine exit_then (exit_in ?_) | with_reducible refine exit_then (exit_then (exit_in ?_)) | refine exit_in ?_ | refine exit_then (exit_in ?_) | refine exit_then (exit_then (exit_in ?_))
                clear t218 esj
                clear t18
                refine wi_ A (h5_ t0 t3 t6 t7 t17) (rv_ 1 (.int .i64 ((i + 1 : Nat) : Int)) (fun a ee => execAd8 (p := i) (q := 1) rfl (ee _) rfl (by omega)) (rf_ [(17, .int .i64 ((i + 1 : Nat) : Int))] (h4_ t0 t3 t6 t7) ?_))
                rintro a A ⟨t17, -⟩ ⟨t0, t3, t6, t7, -⟩
                exact ⟨⟨i + 1, lti, A, t0, t3, t6, t7, t17, BB, FXs⟩, by show 4 - (intOf (a.eval (.tmp 17))).toNat < 4 - (intOf (Act.eval _ (.tmp 17))).toNat; rw [t17, esi]; show 4 - (i + 1) < 4 - i; omega⟩
            · rw [decide_eq_false lti] at t209
              refine wp_cond_false t209 ?_
              refine wp_exit ?_
              first | with_reducible refine exit_in ?_ | with_reducible refine exit_then (exit_in ?_) | with_reducible refine exit_then (exit_then (exit_in ?_)) | refine exit_in ?_ | refine exit_then (exit_in ?_) | refine exit_then (exit_then (exit_in ?_))
              clear t209 esi
              refine wp_seq ?_
              refine wi_ A (h5_ t0 t3 t6 t7 t17) (rg_ [(2, .bool true)] ?_)
              rintro a A ⟨t2, -⟩
              refine wp_ret ?_
              refine bodyPost_ret (results_tmp rfl _ _ _) A.2 ⟨?_, by rw [← hV]; exact FXs.rs.bel, FXs.rs.sv⟩
              show Ending.returned (a.eval (.tmp 2)) = _
              rw [t2]
end Go.Proofs.Ytijibdapooalcab.Win
