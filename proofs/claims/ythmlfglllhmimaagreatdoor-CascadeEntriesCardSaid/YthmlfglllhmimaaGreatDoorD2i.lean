import Derived.Test.YthmlfglllhmimaaGreatDoorD2g
import Derived.Test.YthmlfglllhmimaaGreatDoorD9
import Derived.Lib.SliceRun
import Derived.WalkMore
namespace Go.Proofs.YthmlfglllhmimaaGreatDoor.Frm
open Go.RowKit Gf8 Aes By8 Cel
/- New, bytes.Clone. -/

theorem buildF : ∀ w, (Instr.build 98 #[(4, smV 1 0)]).run Tryz.prog w = .ok (.agg (fC newS)) w := by
  intro w
  kernel_rfl
theorem execBuildF {o : Oper} {a : Act} {w : World} {x : Operand} (ho : o.op = .build 98 #[(4, x)]) (hx : a.eval x = smV 1 0) : (execOp a.eval o).run Tryz.prog w = .ok (.value (.agg (fC newS))) w := by
  have h := buildF w
  unfold execOp
  simp only [ho, List.map_toArray, List.map_cons, List.map_nil, hx]
  simp [h]
theorem execBoxF {o : Oper} {a : Act} {w : World} {x : Operand} {s : FSt} (ho : o.op = .box 98 x) (hx : a.eval x = .agg (fC s)) : (execOp a.eval o).run Tryz.prog w = .ok (.value (.pointer (some ⟨w.heap.size, 0, none⟩))) (w.alloc (.cells (fC s) 98)) := by
  unfold execOp
  simp only [ho, hx]
  simp [go_sem]
set_option maxRecDepth 20000 in
theorem new_any (V : World) : Calls Tryz.prog 30 #[] V fun e w' => ∃ F, e = .returned (.pointer (some ⟨F, 0, none⟩)) ∧ V.heap.size ≤ F ∧ FAt F newS w' ∧ Below V.heap.size V w' := by
  go_enter Tryz.func30, Tryz.ntmps30
  go_wp2_with (first
    | (go_at_call 44; refine (nobytes_any _).mono ?_; rintro e w1 ⟨rfl, b1⟩)
    | (refine wpList_ex rfl (execBuildF rfl rfl) ?_)
    | (refine wpList_ex rfl (execBoxF (s := newS) rfl rfl) ?_))
  go_ret
  exact ⟨_, rfl, b1.size, ⟨heapNew _ _⟩, b1.trans ((belNew w1 _).mono b1.size)⟩
set_option maxRecDepth 20000 in
theorem clone_any (p : Nat → Nat) (len : Nat) (ad : Addr) (cap : Nat) (V : World) (hv : SliceN V (.slice (some ad) len cap) len p) (hl : len ≤ 140737488351232) :
    Calls Tryz.prog 53 #[.slice (some ad) len cap] V fun e w' => ∃ r, e = .returned r ∧ w'.ownsRow V.heap.size 5 1 r len (bytesL len p) ∧ Below V.heap.size V w' := by
  have HV : Hid (SliceN V (.slice (some ad) len cap) len p) := hv
  have HL : Hid (len ≤ 140737488351232) := hl
  have en := fun w => Go.Lib.run_eql_slice_nil (P := Tryz.prog) w 25 5 (some ad) len cap 0 0 Tryz.underlying25
  clear hv hl
  go_enter Tryz.func53, Tryz.ntmps53
  go_wp2_with (first
    | (refine atAppB (.tmp 5) (.tmp 6) rfl ?_; go_must (refine wpList_appS (B := V.heap.size) (n := 0) (m := len) (p := p) rfl (.tmp 5) (.tmp 6) rfl rfl rfl (own_none V p) (sliceN_cg (HV.out.on (belNew V _)) fun j _ => by rw [Nat.zero_add]) (fun l c e => by cases e) (by have := HL.out; omega) (belNew V _).size ?_; intro u1 W1 own1 gr1; have b1 : Below V.heap.size V W1 := below_grown (belNew V _) (belNew V _).size (own_none V p) gr1; rw [Nat.zero_add] at own1; clear gr1)))
  go_ret
  exact ⟨_, rfl, own1, b1⟩
/-- k cells, new rows, in a new list. -/
structure CG (B k : Nat) (x : Nat → Value) (cb : Nat → Nat → Nat) (cv : Value) (W : World) : Prop where
  own : W.ownsRow B 25 1 cv k (xsL x 0 k)
  fam : Fam B k x (fun _ => 320) cb W
theorem CG.on {B k : Nat} {x : Nat → Value} {cb : Nat → Nat → Nat} {cv : Value} {W W' : World} (h : CG B k x cb cv W) (hb : Below W.heap.size W W') : CG B k x cb cv W' := ⟨ownL_below h.own hb, h.fam.on hb⟩
theorem CG.row {B k : Nat} {x : Nat → Value} {cb : Nat → Nat → Nat} {cv : Value} {W : World} (h : CG B k x cb cv W) {R : Nat} {c : Array Value} {t : TypeId} (hr : W.heap[R]? = some (.cells c t)) (h1 : t ≠ 25) (h5 : t ≠ 5) (d : Array Value) : CG B k x cb cv (W.setRow R d) :=
  ⟨ownL_row h.own hr h1 d, ⟨fun t ht => ownsRow_row (h.fam.rows t ht) hr h5 d, h.fam.dis⟩⟩
theorem CG.none (B : Nat) (x : Nat → Value) (cb : Nat → Nat → Nat) (W : World) : CG B 0 x cb (.slice none 0 0) W := ⟨World.ownsRow_nil _ _ _ _, Fam.none _ _ _ _ _⟩
theorem CG.one {B k : Nat} {x : Nat → Value} {cb : Nat → Nat → Nat} {cv : Value} {W : World} (h : CG B k x cb cv W) : cv.oneCell' = true := by
  rcases h.own.2 with ⟨rfl, _⟩ | ⟨g, cap, cur, rfl, _⟩ <;> rfl
/-- Only the Feed has changed: rows behind V's end stay if they are not the Feed's. -/
theorem ownsRow_sv {W W' : World} {B n F t : Nat} {v : Value} {xs : List Value} (h : W.ownsRow B t 1 v n xs) (sv : Saved (fun k => k = F) W W') (hF : F < B) : W'.ownsRow B t 1 v n xs := by
  refine ⟨h.1, ?_⟩
  rcases h.2 with h | ⟨g, cap, cur, e, hB, hg, h2⟩
  · exact Or.inl h
  · exact Or.inr ⟨g, cap, cur, e, hB, by rw [sv.block g (Array.getElem?_eq_some_iff.1 hg).1 (by omega)]; exact hg, h2⟩
theorem CG.sv {B k F : Nat} {x : Nat → Value} {cb : Nat → Nat → Nat} {cv : Value} {W W' : World} (h : CG B k x cb cv W) (s : Saved (fun k => k = F) W W') (hF : F < B) : CG B k x cb cv W' :=
  ⟨ownsRow_sv h.own s hF, ⟨fun t ht => ownsRow_sv (h.fam.rows t ht) s hF, h.fam.dis⟩⟩
end Go.Proofs.YthmlfglllhmimaaGreatDoor.Frm

namespace Go.Proofs.YthmlfglllhmimaaGreatDoor.Frm
open Go.RowKit Gf8 Aes By8 Cel
/- Put. -/

/-- What lies in Put's loop: t bytes are taken, c cells made. -/
structure PutW (F z k : Nat) (q : Nat → Nat) (V : World) (s : FSt) (t c : Nat) (x : Nat → Value) (x1 x6 : Value) (W : World) : Prop where
  sl : SliceN V x1 (z - t) fun j => q (t + j)
  off : Off F x1
  cg : CG V.heap.size c x (fun i => cellB q (k + i)) x6 W
  ft : FTo F s V W
structure PutR (F n z k : Nat) (q : Nat → Nat) (V : World) (s : FSt) (t c : Nat) (x : Nat → Value) (x1 x6 : Value) (W : World) : Prop where
  tk : Took q t (k + c) s
  lo : n ≤ t
  hi : t ≤ z
  w : PutW F z k q V s t c x x1 x6 W
section
variable {F z k : Nat} {q : Nat → Nat} {V : World} {s : FSt} {t c : Nat} {x : Nat → Value} {x1 x6 : Value} {W W' : World}
theorem PutW.on (h : PutW F z k q V s t c x x1 x6 W) (hb : Below W.heap.size W W') : PutW F z k q V s t c x x1 x6 W' := ⟨h.sl, h.off, h.cg.on hb, h.ft.on hb⟩
theorem PutW.to {s' : FSt} (h : PutW F z k q V s t c x x1 x6 W) (hf : FTo F s' W W') (hF : F < V.heap.size) : PutW F z k q V s' t c x x1 x6 W' := ⟨h.sl, h.off, h.cg.sv hf.sv hF, h.ft.trans hf⟩
theorem PutW.set (h : PutW F z k q V s t c x x1 x6 W) (s' : FSt) (hF : F < V.heap.size) : PutW F z k q V s' t c x x1 x6 (W.setRow F (fC s')) := h.to ((FTo.refl h.ft.at').set s') hF
end
theorem atAppLL {P : Program} {ops : Array Oper} {rest : List Oper} {o : Oper} {a : Act} {w : World} {Q : Exit → Act → World → Prop} (s x : Operand) (_ : o.op = .call { callee := .builtin .append, args := #[s, x], argTypes := #[24, 24] }) (h : wpList P ops Q (o :: rest) a w) : wpList P ops Q (o :: rest) a w := h
theorem atBs1 {P : Program} {ops : Array Oper} {rest : List Oper} {o : Oper} {a : Act} {w : World} {Q : Exit → Act → World → Prop} (x : Operand) (_ : o.op = .buildSlice 24 1 #[(0, x)]) (h : wpList P ops Q (o :: rest) a w) : wpList P ops Q (o :: rest) a w := h
/-- A list of one's own has grown. -/
theorem FTo.grown {F n B : Nat} {s : FSt} {V W W' : World} {v : Value} {xs : List Value} (h : FTo F s V W) (own : W.ownsRow B 25 1 v n xs) (hB : V.heap.size ≤ B) (hF : F < V.heap.size) (hg : W.grownBy W' v.ownBlock) : FTo F s V W' := by
  have ne : some F ≠ v.ownBlock := fun e => by have := (own.lt F e.symm).1; omega
  exact ⟨⟨by rw [hg.block F h.at'.lt ne]; exact h.at'.row⟩, h.sv.grown hg fun k hk => Or.inl (by have := (own.lt k hk).1; omega)⟩
theorem sliceLen {W : World} {v : Value} {m : Nat} {p : Nat → Nat} (h : SliceN W v m p) : lenV v = m := by
  obtain ⟨⟨ao, cap, rfl, _⟩, _⟩ := h
  rfl
set_option maxRecDepth 20000 in
set_option maxHeartbeats 4000000 in
theorem put_any (F : Nat) (s0 : FSt) (q : Nat → Nat) (n z k : Nat) (v : Value) (V : World) (h : FAt F s0 V) (g : Rules V) (h0 : 0 < F) (tk : Took q n k s0) (hn : n ≤ z) (hv : SliceN V v (z - n) fun j => q (n + j)) (ho : Off F v) (hb : ∀ j, j < z → q j < 256) (hm : z ≤ 140737488351232) :
    Calls Tryz.prog 31 #[.pointer (some ⟨F, 0, none⟩), v] V fun e w' => ∃ cv x s' c, e = .returned (.tuple #[cv, .int .i64 (s'.ft : Int)]) ∧ CG V.heap.size c x (fun i => cellB q (k + i)) cv w' ∧ FTo F s' V w' ∧ Took q z (k + c) s' := by
  have HB : Hid (Rules V ∧ 0 < F ∧ F < V.heap.size ∧ (∀ j, j < z → q j < 256) ∧ z ≤ 140737488351232) := ⟨g, h0, h.lt, hb, hm⟩
  obtain ⟨x0, _⟩ : ∃ x : Nat → Value, True := ⟨fun _ => undef, trivial⟩
  have PR : Hid (PutR F n z k q V s0 n 0 x0 v (.slice none 0 0) V) := ⟨by rw [Nat.add_zero]; exact tk, Nat.le_refl _, hn, ⟨hv, ho, CG.none _ _ _ _, FTo.refl h⟩⟩
  clear h g h0 tk hv ho hb hm hn
  go_enter Tryz.func31, Tryz.ntmps31
  go_wp2_with fail
  go_step3
  go_wp2_with fail
  go_step3
  go_wp2_with fail
  go_loopw [1, 6] (fun x1 x6 W => ∃ s t c x, PutR F n z k q V s t c x x1 x6 W) (fun x1 _ _ => lenV x1)
  case atStart => exact ⟨s0, n, 0, x0, PR.out⟩
  case round =>
    obtain ⟨s, t, c, x, pr⟩ := hrel
    clear PR
    have c1 := pr.w.ft.at'.ft
    by_cases hf : s.ft = 0
    · rw [hf] at c1
      have f10 : s.f < 10 := by have := pr.tk.pos.lt; omega
      obtain ⟨hh, hpl⟩ : s.hv < fsz s.f ∧ s.pl + s.hv = t := by
        rcases pr.tk.or with ⟨_, h2, h3, _⟩ | ⟨_, h2, _⟩
        · exact ⟨h3, h2⟩
        · exact absurd hf h2
      obtain ⟨d, hd⟩ : ∃ d, min (z - t) (fsz s.f - s.hv) = d := ⟨_, rfl⟩
      obtain ⟨s1, hs1⟩ : ∃ s1, fillS s (fun j => q (t + j)) (z - t) = s1 := ⟨_, rfl⟩
      have fl := pr.tk.fill (m := z - t) hf
      have FC := filled_any F s (fun j => q (t + j)) (z - t) _ wr pr.w.ft.at' (pr.w.ft.rules HB.out.1 HB.out.2.1) HB.out.2.1 f10 hh (pr.w.off.slice pr.w.sl pr.w.ft.sv) pr.w.off
      rw [hd, hs1] at fl FC
      have dle : d ≤ z - t := by omega
      have FCH : Hid (_) := FC
      have FL : Hid (Filled q t (k + c) s s1 d) := fl
      have PRH : Hid (PutR F n z k q V s t c x _ _ wr) := pr
      have HD : Hid (d ≤ z - t ∧ s.hv < fsz s.f ∧ s.pl + s.hv = t ∧ (d = z - t ∨ d = fsz s.f - s.hv) ∧ s1.f < 10) := ⟨dle, hh, hpl, by omega, by rw [fl.f]; exact f10⟩
      have f17 : s1.f < 10 := by rw [fl.f]; exact f10
      have ftz : s1.ft = 0 := fl.ft
      have SLR : Hid (SliceN V (subV u1 d) (z - (t + d)) (fun j => q (t + d + j)) ∧ Off F (subV u1 d)) := ⟨by
        rw [show z - (t + d) = z - t - d by omega]
        exact sliceN_cg (subV_slice pr.w.sl dle) fun j _ => by show q (t + (d + j)) = q (t + d + j); rw [Nat.add_assoc], subV_off pr.w.off⟩
      clear FC fl pr hs1 hd dle hh hpl
      by_cases hw : s1.hv = fsz s1.f
      · have hpos := fsz_pos s1.f
        have hle := fsz_le s1.f
        have ND : Hid (0 < d ∧ t + d ≤ z) := by
          have h1 := HD.out
          have h2 := FL.out.hv
          have h3 := FL.out.f
          have := PRH.out.hi
          rw [h3] at hw
          exact ⟨by omega, by omega⟩
        have NB : Hid (∀ j, j < t + d → q j < 256) := fun j hj => HB.out.2.2.2.1 j (by have := ND.out.2; omega)
        have PB : Hid (∀ j, j < s1.hv → s1.part j < 256) := fun j hj => by
          rw [FL.out.part j hj]
          exact NB.out _ (by have := FL.out.at'; omega)
        have HV : Hid (0 < s1.hv ∧ s1.hv ≤ 320 ∧ s1.pl ≤ 140737488351232) := ⟨by omega, by omega, by have := FL.out.at'; have := ND.out.2; have := HB.out.2.2.2.2; omega⟩
        by_cases h7 : s1.f = 7
        · have i7 : (s1.f : Int) = 7 := by omega
          have hbad : bad q s1.f s1.pl = 0 := by unfold bad; rw [if_pos h7]
          have tk := PRH.out.tk.goOn FL.out hw hbad NB.out
          have nk : nextK s.f (k + c) = k + (c + 1) := by
            show (if s.f = 7 then k + c + 1 else k + c) = _
            rw [if_pos (by rw [← FL.out.f]; exact h7)]
            omega
          have et : tookS s1 (nb s1.part s1.hv) = { s1 with cl := s1.cl - 1 } := if_pos h7
          rw [et, nk] at tk
          have ps := PRH.out.tk.pos
          have f7 : s.f = 7 := by rw [← FL.out.f]; exact h7
          have more := ps.more (by omega) (by omega)
          have cl := PRH.out.tk.cl (by omega)
          have hv320 : s1.hv = 320 := by rw [hw, h7]; rfl
          have pl7 : s1.pl = cellAt (k + c) + 2 := by
            rw [FL.out.pl, ps.place, if_neg (by omega), if_neg (by omega), if_pos f7]
          have ec : s1.cl - 1 = ((nCells q - (k + (c + 1)) : Nat) : Int) := by
            rw [FL.out.cl, cl]
            omega
          have c256 : nCells q ≤ 256 := by
            have w3 := ps.head 3 (by omega) (by omega)
            have : rdN q 6 2 ≤ 256 := by
              apply Classical.byContradiction
              intro h
              rw [show wrongN q 3 = if rdN q 6 2 ≤ 256 then 0 else 63 from rfl, if_neg h] at w3
              cases w3
            unfold nCells
            omega
          have cl2 : ((nCells q - (k + c) : Nat) : Int) ≤ 256 := by omega
          have cl3 : 1 ≤ ((nCells q - (k + c) : Nat) : Int) := by omega
          have HX : Hid (k + c < 256 ∧ c < 256) := ⟨by omega, by omega⟩
          have CELL : Hid (∀ W, FAt F s1 W → SliceN W (.slice (some ⟨F, 1, none⟩) 320 320) 320 (cellB q (k + c))) := fun W hW =>
            sliceN_cg (hW.slice (Nat.le_refl _) (by rw [← hv320]; exact PB.out)) fun j hj => by
              rw [FL.out.part j (by omega), pl7]
              rfl
          obtain ⟨s2, hs2⟩ : ∃ s2 : FSt, { s1 with cl := s1.cl - 1 } = s2 := ⟨_, rfl⟩
          have G2 : Hid (s2.f < 10 ∧ 0 < s2.hv ∧ s2.hv ≤ 320 ∧ s2.pl ≤ 140737488351232 ∧ s2.sa = (adl q s2.pl).1 ∧ s2.sb = (adl q s2.pl).2 ∧ (∀ j, j < s2.hv → s2.part j = q (s2.pl + j)) ∧ ∀ j, j < s2.hv → q (s2.pl + j) < 256) := by
            rw [← hs2]
            exact ⟨f17, HV.out.1, HV.out.2.1, HV.out.2.2, FL.out.sa, FL.out.sb, FL.out.part, fun j hj => by rw [← FL.out.part j hj]; exact PB.out j hj⟩
          have HC : Hid (s2.cl = (nCells q - (k + (c + 1)) : Nat) ∨ (s2.f ≠ 5 ∧ s2.f ≠ 7)) := Or.inl (by rw [← hs2]; exact ec)
          have ES : Hid (∀ W, FAt F s1 W → (fC s1).setIfInBounds 328 (.int .i64 (((nCells q - (k + c) : Nat) : Int) - 1)) = fC s2) := fun W _ => by
            rw [← hs2]
            refine fC_set (j := 7) (by decide) rfl rfl ?_
            rw [← cl, ← FL.out.cl]
            rfl
          rw [hs2] at tk
          have TK : Hid (Took q (t + d) (k + (c + 1)) (goS s2 q (nCells q - (k + (c + 1))))) := tk
          have CLV : Hid (s1.cl = ((nCells q - (k + c) : Nat) : Int)) := by show s1.cl = _; rw [FL.out.cl, cl]
          obtain ⟨N, hN⟩ : ∃ N : Nat, nCells q - (k + c) = N := ⟨_, rfl⟩
          rw [hN] at cl2 cl3 CLV ES
          clear f10 hpos hle tk et nk more cl hv320 pl7 ec hs2 ps f7 c256 hN hbad
          go_wp2_with (first
            | (go_at_call 51; refine Calls.mono FCH.out ?_; rintro e w1 ⟨rfl, ft1⟩; have pw : PutW F z k q V s1 (t + d) c x (subV u1 d) u6 w1 := ⟨SLR.out.1, SLR.out.2, PRH.out.w.cg.sv ft1.sv HB.out.2.2.1, PRH.out.w.ft.trans ft1⟩; have PW : Hid (_) := pw; clear ft1 pw)
            | (go_at_call 52; refine (whole_any F s1 _ PW.out.ft.at' (PW.out.ft.rules HB.out.1 HB.out.2.1) HD.out.2.2.2.2).mono ?_; rintro e w2 ⟨rfl, b2⟩; rw [decide_eq_true hw]; have p2 := PW.out.on b2; have c2 := p2.ft.at'.c0; rw [i7] at c2; have c3 := p2.ft.at'.cl; rw [CLV.out] at c3; have P2 : Hid (_) := p2; clear p2 b2)
            | (go_at_call 53; refine (clone_any (cellB q (k + c)) 320 ⟨F, 1, none⟩ 320 _ (CELL.out _ P2.out.ft.at') (by omega)).mono ?_; rintro e w3 ⟨u, rfl, ou, b3⟩; have p3 := P2.out.on b3; have P3 : Hid (_) := p3; have OU : Hid (_) := ou; have B3 : Hid (_) := b3; clear p3 ou b3)
            | (refine atBs1 (.tmp 34) rfl ?_; go_must (refine wpList_ex rfl (execBs1 (r := u) rfl rfl (by obtain ⟨ao, cap, e⟩ := own_shapeJ OU.out; exact ⟨ao, 320, cap, e⟩)) ?_))
            | (refine atAppLL (.tmp 29) (.tmp 35) rfl ?_; go_must (
                have ow : (w3.alloc (.cells #[u] 25)).ownsRow V.heap.size 25 1 u6 c (xsL (updX x c u) 0 c) := (by rw [xsL_congr (y := x) fun t ht => updX_lt _ _ (by omega)]; exact (P3.out.cg.on (belNew w3 _)).own)
                have hB : V.heap.size ≤ w2.heap.size := P2.out.ft.sv.size
                have fw := ((P2.out.cg.fam.add B3.out hB OU.out).on (belNew w3 (.cells #[u] 25)))
                refine wpList_appL (b := 0) (n := c) (m := 1) (x := updX x c u) (cs := #[u]) rfl (.tmp 29) (.tmp 35) rfl rfl rfl ow (heapNew w3 _) (by show [u] = [updX x c u (0 + c + 0)]; rw [Nat.zero_add, Nat.add_zero, updX_at]) (fun z hz => by simp only [List.mem_singleton] at hz; rw [hz]; exact own_oneCell OU.out) (by have := HX.out; omega) (Nat.le_trans (P3.out.on (belNew w3 _)).ft.sv.size (Nat.le_refl _)) ?_
                intro cv' W5 own5 gr5
                have p5 : PutW F z k q V s1 (t + d) (c + 1) (updX x c u) (subV u1 d) cv' W5 := ⟨SLR.out.1, SLR.out.2, ⟨own5, fw.grown ow (grown_row gr5)⟩, (P3.out.ft.on (belNew w3 _)).grown ow (Nat.le_refl _) HB.out.2.2.1 (grown_row gr5)⟩
                have c5 := p5.ft.at'.cl
                rw [CLV.out] at c5
                have P5 : Hid (_) := p5
                clear p5 own5 gr5 ow hB fw))
            | (refine atStore 3 (.tmp 43) (.tmp 41) rfl ?_; go_must (refine wpList_exS rfl (execStV (c' := fC s2) rfl rfl rfl P5.out.ft.at'.row (by rw [fC_size]; decide) (by kernel_rfl) rfl (ES.out _ P5.out.ft.at')) ?_))
            | (go_at_call 57; refine (goOn_any F s2 q (nCells q - (k + (c + 1))) _ (P5.out.set s2 HB.out.2.2.1).ft.at' G2.out.1 G2.out.2.1 G2.out.2.2.1 G2.out.2.2.2.1 HC.out G2.out.2.2.2.2.1 G2.out.2.2.2.2.2.1 G2.out.2.2.2.2.2.2.1 G2.out.2.2.2.2.2.2.2).mono ?_; rintro e w6 ⟨rfl, f6⟩; have p6 := (P5.out.set s2 HB.out.2.2.1).to f6 HB.out.2.2.1; have P6 : Hid (_) := p6; clear p6 f6))
          go_roundw
          case rel => exact ⟨_, t + d, c + 1, updX x c u, TK.out, by have := PRH.out.lo; omega, ND.out.2, P6.out⟩
          case measure =>
            rw [sliceLen PRH.out.w.sl, sliceLen P6.out.sl]
            have := ND.out
            omega
        · have i7 : ¬ (s1.f : Int) = 7 := by omega
          have h8 : s1.hv ≤ 8 := by
            rw [hw]
            unfold fsz
            split <;> first | omega | (rename_i e7; exact absurd e7 h7)
          have wb := FL.out.wrong hw h7
          obtain ⟨la, lb⟩ := adl_lt q s1.pl
          have HS : Hid (s1.hv ≤ 8 ∧ s1.sa < 65521 ∧ s1.sb < 65521) := ⟨h8, by rw [FL.out.sa]; exact la, by rw [FL.out.sb]; exact lb⟩
          clear f10 hpos hle la lb h8
          by_cases hbad : bad q s1.f s1.pl = 0
          · rw [decide_eq_false (fun z => z hbad)] at wb
            have tk := PRH.out.tk.goOn FL.out hw hbad NB.out
            have num := FL.out.num hw
            have nk : nextK s.f (k + c) = k + c := if_neg (by rw [← FL.out.f]; exact h7)
            have et : tookS s1 (nb s1.part s1.hv) = noteS s1 (nb s1.part s1.hv) := if_neg h7
            obtain ⟨t1, t2, t3, t4, t5, t6, t7⟩ := tookS_same s1 (nb s1.part s1.hv)
            rw [et] at t1 t2 t3 t4 t5 t6 t7 tk
            rw [nk] at tk
            have HL : Hid (nb s1.part s1.hv < 9223372036854775808 ∨ s1.f < 2 ∨ 5 < s1.f) := by
              show nb s1.part s1.hv < 9223372036854775808 ∨ s1.f < 2 ∨ 5 < s1.f
              by_cases hr : s1.f < 2 ∨ 5 < s1.f
              · exact Or.inr hr
              · refine Or.inl ?_
                rw [num]
                unfold bad at hbad
                rw [if_neg h7, if_neg (by omega)] at hbad
                have hh : ¬ (fnum q s1.f s1.pl < low s1.f ∨ high s1.f < fnum q s1.f s1.pl) := by
                  intro q1
                  rw [if_pos q1] at hbad
                  have : flt s1.f ≠ 0 := by
                    unfold flt
                    split <;> first | omega | (rename_i e7; exact absurd e7 h7) | skip
                  exact this hbad
                have hi : high s1.f ≤ 4611686018427387904 := by unfold high; split <;> omega
                omega
            obtain ⟨s2, hs2⟩ : ∃ s2, noteS s1 (nb s1.part s1.hv) = s2 := ⟨_, rfl⟩
            rw [hs2] at t1 t2 t3 t4 t5 t6 t7 tk
            have HC : Hid (s2.cl = (nCells q - (k + c) : Nat) ∨ (s2.f ≠ 5 ∧ s2.f ≠ 7)) := by
              show s2.cl = (nCells q - (k + c) : Nat) ∨ (s2.f ≠ 5 ∧ s2.f ≠ 7)
              by_cases e5 : s1.f = 5
              · refine Or.inl ?_
                rw [← hs2]
                unfold noteS
                rw [if_neg (by omega), if_neg (by omega), if_neg (by omega), if_pos e5]
                show s1.cl = _
                rw [FL.out.cl]
                exact PRH.out.tk.cl (by rw [← FL.out.f]; omega)
              · exact Or.inr ⟨by rw [t1]; exact e5, by rw [t1]; exact h7⟩
            have G2 : Hid (s2.f < 10 ∧ 0 < s2.hv ∧ s2.hv ≤ 320 ∧ s2.pl ≤ 140737488351232 ∧ s2.sa = (adl q s2.pl).1 ∧ s2.sb = (adl q s2.pl).2 ∧ (∀ j, j < s2.hv → s2.part j = q (s2.pl + j)) ∧ ∀ j, j < s2.hv → q (s2.pl + j) < 256) := by
              show s2.f < 10 ∧ 0 < s2.hv ∧ s2.hv ≤ 320 ∧ s2.pl ≤ 140737488351232 ∧ s2.sa = (adl q s2.pl).1 ∧ s2.sb = (adl q s2.pl).2 ∧ (∀ j, j < s2.hv → s2.part j = q (s2.pl + j)) ∧ ∀ j, j < s2.hv → q (s2.pl + j) < 256
              rw [t1, t2, t3, t4, t5, t6]
              exact ⟨f17, HV.out.1, HV.out.2.1, HV.out.2.2, FL.out.sa, FL.out.sb, FL.out.part, fun j hj => by rw [← FL.out.part j hj]; exact PB.out j hj⟩
            have NT : Hid (∀ W, FAt F s1 W → Calls Tryz.prog 56 #[.pointer (some ⟨F, 0, none⟩)] W fun e w' => e = .returned (.tuple #[]) ∧ FTo F s2 W w') := fun W hW => by
              have := note_any F s1 W hW f17 HS.out.1 PB.out HL.out
              rw [hs2] at this
              exact this
            have TK : Hid (Took q (t + d) (k + c) (goS s2 q (nCells q - (k + c)))) := tk
            clear t1 t2 t3 t4 t5 t6 t7 tk hs2 et nk num HL
            go_wp2_with (first
              | (go_at_call 51; refine Calls.mono FCH.out ?_; rintro e w1 ⟨rfl, ft1⟩; have pw : PutW F z k q V s1 (t + d) c x (subV u1 d) u6 w1 := ⟨SLR.out.1, SLR.out.2, PRH.out.w.cg.sv ft1.sv HB.out.2.2.1, PRH.out.w.ft.trans ft1⟩; have PW : Hid (_) := pw; clear ft1 pw)
              | (go_at_call 52; refine (whole_any F s1 _ PW.out.ft.at' (PW.out.ft.rules HB.out.1 HB.out.2.1) HD.out.2.2.2.2).mono ?_; rintro e w2 ⟨rfl, b2⟩; rw [decide_eq_true hw]; have p2 := PW.out.on b2; have c2 := p2.ft.at'.c0;  have P2 : Hid (_) := p2; clear p2 b2)
              | (go_at_call 54; refine (wrong_p F s1 _ P2.out.ft.at' (P2.out.ft.rules HB.out.1 HB.out.2.1) HD.out.2.2.2.2 HS.out.1 PB.out HS.out.2.1 HS.out.2.2).mono ?_; rintro e w3 ⟨rfl, b3⟩; rw [wb]; have p3 := P2.out.on b3; have P3 : Hid (_) := p3; clear p3 b3)
              | (go_at_call 56; refine (NT.out _ P3.out.ft.at').mono ?_; rintro e w4 ⟨rfl, f4⟩; have p4 := P3.out.to f4 HB.out.2.2.1; have P4 : Hid (_) := p4; clear p4 f4)
              | (go_at_call 57; refine (goOn_any F s2 q (nCells q - (k + c)) _ P4.out.ft.at' G2.out.1 G2.out.2.1 G2.out.2.2.1 G2.out.2.2.2.1 HC.out G2.out.2.2.2.2.1 G2.out.2.2.2.2.2.1 G2.out.2.2.2.2.2.2.1 G2.out.2.2.2.2.2.2.2).mono ?_; rintro e w5 ⟨rfl, f5⟩; have p5 := P4.out.to f5 HB.out.2.2.1; have P5 : Hid (_) := p5; clear p5 f5))
            go_roundw
            case rel => exact ⟨_, t + d, c, x, TK.out, by have := PRH.out.lo; omega, ND.out.2, P5.out⟩
            case measure =>
              rw [sliceLen PRH.out.w.sl, sliceLen P5.out.sl]
              have := ND.out
              omega
          · rw [decide_eq_true hbad] at wb
            go_wp2_with (first
              | (go_at_call 51; refine Calls.mono FCH.out ?_; rintro e w1 ⟨rfl, ft1⟩; have pw : PutW F z k q V s1 (t + d) c x (subV u1 d) u6 w1 := ⟨SLR.out.1, SLR.out.2, PRH.out.w.cg.sv ft1.sv HB.out.2.2.1, PRH.out.w.ft.trans ft1⟩; have PW : Hid (_) := pw; clear ft1 pw)
              | (go_at_call 52; refine (whole_any F s1 _ PW.out.ft.at' (PW.out.ft.rules HB.out.1 HB.out.2.1) HD.out.2.2.2.2).mono ?_; rintro e w2 ⟨rfl, b2⟩; rw [decide_eq_true hw]; have p2 := PW.out.on b2; have c2 := p2.ft.at'.c0;  have P2 : Hid (_) := p2; clear p2 b2)
              | (go_at_call 54; refine (wrong_p F s1 _ P2.out.ft.at' (P2.out.ft.rules HB.out.1 HB.out.2.1) HD.out.2.2.2.2 HS.out.1 PB.out HS.out.2.1 HS.out.2.2).mono ?_; rintro e w3 ⟨rfl, b3⟩; rw [wb]; have p3 := P2.out.on b3; have P3 : Hid (_) := p3; clear p3 b3)
              | (go_at_call 55; refine (refuse_any F s1 _ P3.out.ft.at' (P3.out.ft.rules HB.out.1 HB.out.2.1) HD.out.2.2.2.2 HV.out.1 HV.out.2.1).mono ?_; rintro e w4 ⟨rfl, f4⟩; have p4 := P3.out.to f4 HB.out.2.2.1; have c4 := p4.ft.at'.ft; have P4 : Hid (_) := p4; clear p4 f4))
            go_quiet (fail)
            go_wp2
            try rw [Exit.noGoto_ret]
            go_ret2
            have bd := belowD (Below.refl w4.heap.size w4) nq
            exact ⟨_, x, emptyS { s1 with ft := flt s1.f }, c, rfl, P4.out.cg.on bd, P4.out.ft.on bd, PRH.out.tk.refuse FL.out hw hbad ND.out.2⟩
      · clear f10
        go_wp2_with (first
          | (go_at_call 51; refine Calls.mono FCH.out ?_; rintro e w1 ⟨rfl, ft1⟩; have pw : PutW F z k q V s1 (t + d) c x (subV u1 d) u6 w1 := ⟨SLR.out.1, SLR.out.2, PRH.out.w.cg.sv ft1.sv HB.out.2.2.1, PRH.out.w.ft.trans ft1⟩; have PW : Hid (_) := pw; clear ft1 pw)
          | (go_at_call 52; refine (whole_any F s1 _ PW.out.ft.at' (PW.out.ft.rules HB.out.1 HB.out.2.1) HD.out.2.2.2.2).mono ?_; rintro e w2 ⟨rfl, b2⟩; rw [decide_eq_false hw]; have p2 := PW.out.on b2; have c2 := p2.ft.at'.ft; rw [ftz] at c2; have P2 : Hid (_) := p2; clear p2 b2))
        go_quiet (fail)
        go_wp2
        try rw [Exit.noGoto_ret]
        go_ret2
        have bd := belowD (Below.refl w2.heap.size w2) nq
        have ez : t + d = z := by
          have h1 := HD.out
          have h2 := FL.out.hv
          have h3 := FL.out.f
          rw [h3] at hw
          have := PRH.out.hi
          omega
        have tk := PRH.out.tk.wait FL.out hw
        rw [ez] at tk
        refine ⟨_, x, s1, c, ?_, P2.out.cg.on bd, P2.out.ft.on bd, tk⟩
        rw [ftz]
        rfl
    · have i1 : ¬ (s.ft : Int) = 0 := by omega
      have P1 : Hid (PutR F n z k q V s t c x _ _ wr ∧ s.ft ≠ 0) := ⟨pr, hf⟩
      clear pr hf
      go_wp2_with fail
      go_quiet (fail)
      go_wp2
      try rw [Exit.noGoto_ret]
      go_ret2
      have p := P1.out.1
      have bd := belowD (Below.refl wr.heap.size wr) nq
      exact ⟨_, x, s, c, rfl, p.w.cg.on bd, p.w.ft.on bd, p.tk.later P1.out.2 p.hi⟩
end Go.Proofs.YthmlfglllhmimaaGreatDoor.Frm
