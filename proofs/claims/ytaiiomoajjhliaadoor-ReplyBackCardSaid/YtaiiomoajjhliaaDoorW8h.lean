import Derived.Test.YtaiiomoajjhliaaDoorW8g
import Derived.Test.YtaiiomoajjhliaaDoorX5l
import Derived.Test.YtaiiomoajjhliaaDoorP3
import Derived.Test.YtaiiomoajjhliaaDoorC6
namespace Go.Proofs.YtaiiomoajjhliaaDoor.Rpl
open Go.RowKit Gf8 Aes By8 Cel Cf Tap Drw Dro Oni Rou
/- Stage 27: ReplyBack. Written by tools/mkW8h.py. -/

theorem chB {G : World → Prop} (I : Impl G) (h hn : Nat) (kv nv : Value) (xv : Nat → Value) (lk : Nat → Nat) (key q : Nat → Nat → Nat) (n : Nat) (p : Nat → Nat) (pv : Value) (V : World) (hG : G V) (hK : Ls V kv h xv lk key) (hN : Nons V nv hn q) (hh : h ≤ 140737488351232) (hhn : hn ≤ 140737488351232) (hP : SliceN V pv n p) (hz : ∀ l c, pv = .slice none l c → c = 0) (hn_ : n ≤ 140737488351232) (E N : Nat) (he : rwE h hn lk n = E) (hN_ : rwN h hn lk n = N) :
    Calls Tryd.prog 6 #[kv, nv, pv] V fun e w' => ∃ r, e = .returned (.tuple #[r, .int .i64 ((E : Nat) : Int)]) ∧ SliceN w' r N (rwF h (bks key q) q n p) ∧ (∀ l c, r = .slice none l c → c = 0) ∧ Below V.heap.size V w' := by
  subst he hN_
  refine (I.chain h hn kv nv xv lk key q n p pv V hG hK hh hN hhn hP hz hn_).mono ?_
  rintro e w' ⟨⟨r, he, hr⟩, hb⟩
  exact ⟨r, he, own_slice hr fun j hj => rwN_lt hN.by_ hP.bytes hj, own_nilI hr, hb⟩
theorem fitB (h hn n : Nat) (kv nv pv : Value) (xv : Nat → Value) (lk : Nat → Nat) (key q : Nat → Nat → Nat) (p : Nat → Nat) (V : World) (hK : Ls V kv h xv lk key) (hN : Nons V nv hn q) (hP : SliceN V pv n p) (hh : h ≤ 140737488351232) (E N : Nat) (he : rwE h hn lk n = E) (_ : rwN h hn lk n = N) :
    Calls Tryd.prog 7 #[.agg #[kv, nv, pv]] V fun e w' => e = .returned (.int .i64 ((E : Nat) : Int)) ∧ Below V.heap.size V w' := by
  subst he
  exact fit27 h hn n kv nv pv xv lk key q p V hK hN hP hh
theorem opB {G : World → Prop} (I : Impl G) (h hn : Nat) (kv nv : Value) (xv : Nat → Value) (lk : Nat → Nat) (key q : Nat → Nat → Nat) (n : Nat) (p : Nat → Nat) (cv : Value) (V : World) (hG : G V) (hK : Ls V kv h xv lk key) (hN : Nons V nv hn q) (hh : h ≤ 140737488351232) (hhn : hn ≤ 140737488351232) (hC : SliceN V cv 320 (rwF h (bks key q) q n p)) (hz : ∀ l c, cv = .slice none l c → c = 0) (hp : ∀ j, j < n → p j < 256) (e1 : rwE h hn lk n = 0) :
    Calls Tryd.prog 8 #[kv, nv, cv] V fun e w' => ∃ r, e = .returned (.tuple #[r, .int .i64 ((0 : Nat) : Int)]) ∧ SliceN w' r n p ∧ Below V.heap.size V w' := by
  obtain ⟨o1, o2, o3⟩ := open_chain (key := key) (q := q) (p := p) e1
  refine (I.open_ h hn kv nv xv lk key q 320 _ cv V hG hK hh hN hhn hC hz (by omega)).mono ?_
  rintro e w' ⟨⟨r, he, hr⟩, hb⟩
  rw [o1] at he
  rw [o2] at hr
  exact ⟨r, he, slice_cg (own_slice hr fun j hj => by rw [o3 j hj]; exact hp j hj) o3, hb⟩
theorem derB (vs vt vi : Value) (key nonce : Nat → Nat) (w : World) (hG : Glob w) (h0 : SliceN w vs 32 key) (h1 : SliceN w vt 16 nonce) (h2 : SliceN w vi 10 bkF) :
    Calls Tryd.prog 9 #[vs, vt, vi, .int .i64 32] w fun e w' => ∃ v', e = .returned (.tuple #[v', .int .i64 ((0 : Nat) : Int)]) ∧ SliceN w' v' 32 (bk key nonce) ∧ Below w.heap.size w w' := by
  refine (mderive_any vs vt vi 32 16 10 (ci key) (ci nonce) (ci bkF) 32 w hG (by omega) (by omega) (by omega) (toB h0) (toB h1) (toB h2)).mono ?_
  rintro e w' ⟨v', rfl, own, hb⟩
  rw [show expN 32 = 32 from rfl, ← bk_ci, vals_ci] at own
  exact ⟨v', rfl, own_slice own fun j _ => bk_lt _ _ j, hb⟩
theorem wkB {h n : Nat} {key q : Nat → Nat → Nat} {p : Nat → Nat} (w1 : 1 ≤ h) (w2 : h ≤ 8) (w5 : n ≤ 48) (i : Nat) (hi : i ≤ h) : wkC h (bks key q) (rwF h (bks key q) q n p) i = ceF h (bks key q) q n p (h - i) := by
  rw [rw_ce w1]
  exact (ce_walk (lk := fun _ => 32) w5 w2 (fun _ _ => rfl) i hi).1
theorem peB {h n i : Nat} {key q : Nat → Nat → Nat} {p : Nat → Nat} {kv u : Value} (V : World) (hG : Glob V) (hk : SliceN V kv 32 (bks key q i)) (hc : SliceN V u 320 (wkC h (bks key q) (rwF h (bks key q) q n p) i)) (hz : ∀ l c, u = .slice none l c → c = 0) (w1 : 1 ≤ h) (w2 : h ≤ 8) (w5 : n ≤ 48) (hi : i < h) (_ : ∀ j, j < n → p j < 256) :
    Calls Tryd.prog 10 #[kv, .int .i64 ((h - i : Nat) : Int), u] V fun e w' => ∃ r, e = .returned (.tuple #[.agg (pC r (peR 0 (bks key q i) (wkC h (bks key q) (rwF h (bks key q) q n p) i))), .int .i64 ((0 : Nat) : Int)]) ∧ SliceN w' r 320 (wkC h (bks key q) (rwF h (bks key q) q n p) (i + 1)) ∧ (∀ l c, r = .slice none l c → c = 0) ∧ r.oneCell' = true ∧ Below V.heap.size V w' := by
  have e0 : peE 32 ((h - i : Nat) : Int) 320 (bks key q i) (wkC h (bks key q) (rwF h (bks key q) q n p) i) = 0 := by
    have h3 := (ce_peel (h := h) (key := bks key q) (nonce := q) (n := n) (p := p) (m := h - (i + 1)) w5 (by omega)).1
    rw [show h - (i + 1) + 1 = h - i by omega, show h - (h - i) = i by omega] at h3
    rw [wkB w1 w2 w5 i (by omega)]
    exact h3
  refine (peel_any (bks key q i) _ 32 320 ((h - i : Nat) : Int) kv u V hG hk ⟨hc, hz⟩ (by omega)).mono ?_
  rintro e w' ⟨r, e1, hr, hb⟩
  rw [e0] at e1 hr
  exact ⟨r, e1, own_slice hr fun j _ => peC_lt e0 hc.bytes j, own_nilI hr, own_one2 hr, hb⟩
theorem hdB {h n i : Nat} {key q : Nat → Nat → Nat} {p : Nat → Nat} (w1 : 1 ≤ h) (w2 : h ≤ 8) (w5 : n ≤ 48) (hi : i < h) : strN (q i) 16 = strN (wkC h (bks key q) (rwF h (bks key q) q n p) i) 16 := by
  have e : ∀ j, j < 16 → q i j = wkC h (bks key q) (rwF h (bks key q) q n p) i j := fun j hj => by
    obtain ⟨m, hm⟩ : ∃ m, h - i = m + 1 := ⟨h - i - 1, by omega⟩
    have hs : 16 ≤ loN n (m + 1) := by show 16 ≤ 48 + 34 * (m + 1); omega
    rw [wkB w1 w2 w5 i (by omega), hm]
    unfold ceF cellF
    rw [if_neg (by omega), if_neg (by omega), if_pos (by omega)]
    show q i j = onB (q (h - (m + 1))) _ _ (j - 0)
    unfold onB
    rw [Nat.sub_zero, if_pos hj, show h - (m + 1) = i by omega]
  exact strN_congr e
/-- A list that lies below a block. -/
def SlB (g : Nat) (W : World) (v : Value) (n : Nat) (p : Nat → Nat) : Prop := SliceN W v n p ∧ ∀ b o l c, v = .slice (some ⟨b, o, none⟩) l c → b < g
theorem slb_on2 {g n : Nat} {W W' : World} {v : Value} {p : Nat → Nat} (h : SlB g W v n p) (hb : Below W.heap.size W W') : SlB g W' v n p := ⟨h.1.on hb, h.2⟩
theorem slb_new {n : Nat} {X : World} {v : Value} {p : Nat → Nat} {bl : Obj} (h : SliceN X v (n + 1) p) : SlB X.heap.size (X.alloc bl) v (n + 1) p := by
  refine ⟨h.on (belNew X _), fun b o l c e => ?_⟩
  obtain ⟨a, cap, e1, h1, h2, h3⟩ := h.shape
  obtain ⟨b', off, e2, hl, _⟩ := h3 (by omega)
  rw [e1, e2] at e
  cases e
  exact hl
theorem slb_on {g n : Nat} {W W' : World} {v : Value} {p : Nat → Nat} (h : SlB g W v n p) (hb : Below g W W') : SlB g W' v n p := by
  refine ⟨?_, h.2⟩
  obtain ⟨a, cap, e1, h1, h2, h3⟩ := h.1.shape
  refine ⟨⟨a, cap, e1, h1, h2, fun h0 => ?_⟩, h.1.bytes⟩
  obtain ⟨b', off, e2, hl, hc⟩ := h3 h0
  exact ⟨b', off, e2, Nat.lt_of_lt_of_le hl hb.size, fun i hi => by rw [cell_below hb (h.2 b' off n cap (by rw [e1, e2]))]; exact hc i hi⟩
theorem lastB {h n : Nat} {key q : Nat → Nat → Nat} {p : Nat → Nat} (w1 : 1 ≤ h) (w2 : h ≤ 8) (w5 : n ≤ 48) : wkC h (bks key q) (rwF h (bks key q) q n p) h = cellF 2 (headP n) n p := by
  rw [wkB w1 w2 w5 h (Nat.le_refl _), Nat.sub_self]
  exact if_pos rfl
theorem plB (n : Nat) (p : Nat → Nat) (v : Value) (V : World) (hv : SliceZ V v n p) (hn : n ≤ 48) :
    Calls Tryd.prog 11 #[v] V fun e w' => ∃ r, e = .returned (.tuple #[r, .int .i64 ((0 : Nat) : Int)]) ∧ SliceN w' r 320 (cellF 2 (headP n) n p) ∧ Below V.heap.size V w' := by
  refine (plain_any p n v V hv (by omega)).mono ?_
  rintro e w' ⟨r, he, hr, hb⟩
  rw [show Cel.okE 48 n = 0 by unfold Cel.okE; rw [if_pos hn]] at he
  rw [show Cel.okN 48 n = 320 by unfold Cel.okN; rw [if_pos hn]] at hr
  exact ⟨r, he, own_slice hr fun j _ => cellF_lt (fun j hj => by unfold headP; split <;> omega) hv.sl.bytes j, hb⟩
theorem nons_sl {W : World} {v : Value} {n k : Nat} {q : Nat → Nat → Nat} (h : Nons W v n q) (hk : k < n) : SliceN W (.slice (some ⟨adB v, adO v + k * 16, none⟩) 16 16) 16 (q k) := by
  obtain ⟨a, cap, e, h1, h2, h3⟩ := h.shape
  obtain ⟨b, off, e2, hl, hc⟩ := h3 (by omega)
  subst e e2
  refine ⟨⟨_, 16, rfl, Nat.le_refl _, by omega, fun _ => ⟨b, off + k * 16, rfl, hl, fun j hj => ?_⟩⟩, h.by_ k hk⟩
  exact hc k hk j hj
section
variable {o : Oper} {a : Act} {W : World} {x : Operand} {g f : Nat}
theorem execSl16O (ho : o.op = .slice 33 x none none none) (hx : a.eval x = .pointer (some ⟨g, f, none⟩)) : (execOp a.eval o).run Tryd.prog W = .ok (.value (.slice (some ⟨g, f, none⟩) 16 16)) W := by
  unfold execOp
  simp only [ho, hx]
  simp [go_sem, Instr.sliceAt, Instr.slice, run_underlying Tryd.underlying33]
end
set_option maxRecDepth 100000 in
set_option maxHeartbeats 4000000 in
/-- ReplyBack. -/
theorem back27 {G : World → Prop} (I : Impl G) (h hn n : Nat) (kv nv pv : Value) (xv : Nat → Value) (lk : Nat → Nat) (key q : Nat → Nat → Nat) (p : Nat → Nat) (V : World) (hg : ∀ W, Below V.heap.size V W → G W) (hgl : ∀ W, Below V.heap.size V W → Glob W) (hK : Ls V kv h xv lk key) (hN : Nons V nv hn q) (hP : SliceN V pv n p) (hh : h ≤ 140737488351232) (hhn : hn ≤ 140737488351232) (hPz : ∀ l c, pv = .slice none l c → c = 0) (hpn : n ≤ 140737488351232) :
    Calls Tryd.prog 3 #[.agg #[kv, nv, pv]] V fun e w' => e = .returned (.bool true) ∧ Below V.heap.size V w' := by
  go_enter Tryd.func3, Tryd.ntmps3
  by_cases e1 : rwE h hn lk n = 0
  · obtain ⟨w1, w2, w3, w4, w5⟩ := rwE_ok e1
    have hr3 : rwN h hn lk n = 320 := if_pos e1
    refine wo_ 142 [(0, .agg #[kv, nv, pv])] ?_
    rintro a A ⟨t0, -⟩
    have BW : Below V.heap.size V V := Below.refl _ _
    have BB := BW
    refine wp_seq ?_
    obtain ⟨g1, egg1⟩ : ∃ z_ : Nat, V.heap.size = z_ := ⟨_, rfl⟩
    refine wi_ A (h1_ t0) (rs_ 0 (fun a ee => ?_))
    refine stepV rfl rfl (execBxJob rfl (ee _)) ⟨.pointer (some ⟨g1, 0, none⟩), ⟨_, rfl, by subst egg1; rfl⟩, fun X0 hX => ?_⟩
    have bQ : Below V.heap.size V X0 := by subst hX egg1; exact (belNew V _)
    have Fg1 : (X0.heap[g1]? = some (.cells #[kv, nv, pv] 26)) := by subst hX egg1; exact heapNew V _
    replace BB := BB.trans (bQ.mono BB.size)
    clear bQ hX egg1 ee a
    refine rg_ [(1, .pointer (some ⟨g1, 0, none⟩))] ?_
    rintro a A ⟨t1, -⟩
    refine wp_seq ?_
    refine wp_seq ?_
    refine wi_ A (h1_ t1) (rc_ 0 (alive27 I X0 (fun W h => hg W ((BB).trans (h.mono (BB).size)))) (cb_ fun X1 bQ => ?_))
    replace Fg1 := (on9 Fg1 bQ)
    replace BB := BB.trans (bQ.mono BB.size)
    clear bQ
    refine rv_ 1 (.bool false) (fun a ee => execNot8 (b := true) rfl (ee _)) (rf_ [(17, .bool false)] (h1_ t1) ?_)
    rintro a A ⟨t17, -⟩ ⟨t1, -⟩
    refine wp_cond_false t17 ?_
    refine wp_skip ?_
    clear t17
    refine wp_seq ?_
    refine wi_ A (h1_ t1) (rv_ 0 (.pointer (some ⟨g1, 0, none⟩)) (fun a ee => execFldJb (k := 0) rfl (ee _) rfl) (rv_ 1 (kv) (fun a ee => execLdLL7 rfl (ee _) (at7 Fg1 rfl)) (rv_ 2 (.pointer (some ⟨g1, 1, none⟩)) (fun a ee => execFldJb (k := 1) rfl (ee _) rfl) (rv_ 3 (nv) (fun a ee => execLdLA7 rfl (ee _) (at7 Fg1 rfl)) (rv_ 4 (.pointer (some ⟨g1, 2, none⟩)) (fun a ee => execFldJb (k := 2) rfl (ee _) rfl) (rv_ 5 (pv) (fun a ee => execLdL7 rfl (ee _) (at7 Fg1 rfl)) (rc_ 6 (chB I h hn kv nv xv lk key q n p pv X1 (hg X1 BB) (hK.on BB) (hN.on BB) hh hhn (hP.on BB) hPz hpn 0 320 e1 hr3) fun e X3 hh => ?_)))))))
    obtain ⟨v25, he, hk, hz_, hb⟩ := hh
    refine ⟨_, he, ?_⟩
    have bQ : Below X1.heap.size X1 X3 := hb
    have FC : (SliceN X3 v25 (320) (rwF h (bks key q) q n p)) := hk
    have FCz : (∀ l c, v25 = .slice none l c → c = 0) := hz_
    replace Fg1 := (on9 Fg1 bQ)
    replace BB := BB.trans (bQ.mono BB.size)
    clear bQ
    refine rf_ [(3, v25), (4, .int .i64 ((0 : Nat) : Int))] (h1_ t1) ?_
    rintro a A ⟨t3, t4, -⟩ ⟨t1, -⟩
    refine wp_seq ?_
    refine wi_ A (h3_ t1 t3 t4) (rv_ 0 (.agg #[kv, nv, pv]) (fun a ee => execLdJob rfl (ee _) Fg1) (rc_ 1 (fitB h hn n kv nv pv xv lk key q p X3 (hK.on BB) (hN.on BB) (hP.on BB) hh 0 320 e1 hr3) (cb_ fun X4 bQ => ?_)))
    replace Fg1 := (on9 Fg1 bQ)
    replace FC := (FC.on bQ)
    replace BB := BB.trans (bQ.mono BB.size)
    clear bQ
    refine rf_ [(5, .int .i64 ((0 : Nat) : Int))] (h3_ t1 t3 t4) ?_
    rintro a A ⟨t5, -⟩ ⟨t1, t3, t4, -⟩
    refine wp_seq ?_
    refine wp_seq ?_
    refine wi_ A (h4_ t1 t3 t4 t5) (rv_ 1 (.bool false) (fun a ee => execDec (execNeE (p := 0) (q := 0) rfl (ee _) rfl) (decide_eq_false (by omega))) (rf_ [(31, .bool false)] (h3_ t1 t3 t4) ?_))
    rintro a A ⟨t31, -⟩ ⟨t1, t3, t4, -⟩
    refine wp_cond_false t31 ?_
    refine wp_skip ?_
    clear t31
    refine wp_seq ?_
    refine wi_ A (h3_ t1 t3 t4) (rv_ 0 (.pointer (some ⟨g1, 0, none⟩)) (fun a ee => execFldJb (k := 0) rfl (ee _) rfl) (rv_ 1 (kv) (fun a ee => execLdLL7 rfl (ee _) (at7 Fg1 rfl)) (rv_ 2 (.pointer (some ⟨g1, 1, none⟩)) (fun a ee => execFldJb (k := 1) rfl (ee _) rfl) (rv_ 3 (nv) (fun a ee => execLdLA7 rfl (ee _) (at7 Fg1 rfl)) (rc_ 5 (opB I h hn kv nv xv lk key q n p _ X4 (hg X4 BB) (hK.on BB) (hN.on BB) hh hhn FC FCz hP.bytes e1) fun e X7 hh => ?_)))))
    obtain ⟨v46, he, hk, hb⟩ := hh
    refine ⟨_, he, ?_⟩
    have bQ : Below X4.heap.size X4 X7 := hb
    have FO : (SliceN X7 v46 (n) (p)) := hk
    replace Fg1 := (on9 Fg1 bQ)
    replace FC := (FC.on bQ)
    replace BB := BB.trans (bQ.mono BB.size)
    clear bQ
    refine rf_ [(6, v46), (7, .int .i64 ((0 : Nat) : Int))] (h3_ t1 t3 t4) ?_
    rintro a A ⟨t6, t7, -⟩ ⟨t1, t3, t4, -⟩
    refine wp_seq ?_
    refine wp_seq ?_
    refine wi_ A (h5_ t1 t3 t4 t6 t7) (rv_ 1 (.bool false) (fun a ee => execDec (execNeE (p := 0) (q := 0) rfl (ee _) rfl) (decide_eq_false (by omega))) (rv_ 4 (.bool false) (fun a ee => execDec (execNeE (p := 0) (q := 0) rfl (ee _) rfl) (decide_eq_false (by omega))) (rv_ 8 (.int .i64 ((320 : Nat) : Int)) (fun a ee => execLenV (len := 320) rfl (ee _) (shp (FC))) (rv_ 9 (.bool false) (fun a ee => execDec (execNeN (p := 320) (q := 320) rfl (ee _) rfl) (decide_eq_false (by omega))) (rv_ 13 (.string (strN p n)) (fun a ee => execStr rfl (ee _) (FO)) (rv_ 14 (.pointer (some ⟨g1, 2, none⟩)) (fun a ee => execFldJb (k := 2) rfl (ee _) rfl) (rv_ 15 (pv) (fun a ee => execLdL7 rfl (ee _) (at7 Fg1 rfl)) (rv_ 16 (.string (strN p n)) (fun a ee => execStr rfl (ee _) (hP.on BB)) (rv_ 17 (.bool false) (fun a ee => By8.execNeqS rfl (ee _) (ee _)) (rf_ [(67, .bool false)] (h2_ t1 t3) ?_))))))))))
    rintro a A ⟨t67, -⟩ ⟨t1, t3, -⟩
    refine wp_cond_false t67 ?_
    refine wp_skip ?_
    clear t67
    clear FO
    replace w3 := w3.symm
    subst w3
    refine wp_seq ?_
    refine wi_ A (h2_ t1 t3) (rv_ 0 (.pointer (some ⟨g1, 0, none⟩)) (fun a ee => execFldJb (k := 0) rfl (ee _) rfl) (rv_ 1 (kv) (fun a ee => execLdLL7 rfl (ee _) (at7 Fg1 rfl)) (rv_ 2 (.int .i64 ((h : Nat) : Int)) (fun a ee => execLenLL rfl (ee _) (hK.on BB).shp) (rf_ [(8, .int .i64 ((h : Nat) : Int))] (h2_ t1 t3) ?_))))
    rintro a A ⟨t8, -⟩ ⟨t1, t3, -⟩
    refine wp_seq ?_
    refine wp_seq ?_
    refine wi_ A (h3_ t1 t3 t8) (rf_ [(9, .int .i64 ((0 : Nat) : Int))] (h3_ t1 t3 t8) ?_)
    rintro a A ⟨t9, -⟩ ⟨t1, t3, t8, -⟩
    have hz := FCz
    clear FCz
    replace FC : (SliceN X7 v25 (320) (wkC h (bks key q) (rwF h (bks key q) q n p) 0)) := FC
    refine wp_block ?_
    refine wp_loop (fun a W => ∃ (i : Nat) (u : Value), i ≤ h ∧ (∀ l c, u = .slice none l c → c = 0) ∧ (a.tmps.size = 142 ∧ a.defers = []) ∧ a.eval (.tmp 1) = .pointer (some ⟨g1, 0, none⟩) ∧ a.eval (.tmp 3) = u ∧ a.eval (.tmp 8) = .int .i64 ((h : Nat) : Int) ∧ a.eval (.tmp 9) = .int .i64 ((i : Nat) : Int) ∧ Below V.heap.size V W ∧ (W.heap[g1]? = some (.cells #[kv, nv, pv] 26)) ∧ (SliceN W u (320) (wkC h (bks key q) (rwF h (bks key q) q n p) i))) (fun a _ => h - (intOf (a.eval (.tmp 9))).toNat) ⟨0, v25, Nat.zero_le _, hz, A, t1, t3, t8, t9, BB, Fg1, FC⟩ ?_
    clear A t1 t3 t8 t9 BB Fg1 FC a
    rintro a XL12 ⟨i, u, hi, hz, A, t1, t3, t8, t9, BB, Fg1, FC⟩
    have esi := t9
    refine wp_seq ?_
    refine wp_seq ?_
    refine wi_ A (h4_ t1 t3 t8 t9) (rv_ 2 (.bool (decide (i < h))) (fun a ee => execLtW (p := i) (q := h) rfl (ee _) (ee _)) (rf_ [(73, .bool (decide (i < h)))] (h4_ t1 t3 t8 t9) ?_))
    rintro a A ⟨t73, -⟩ ⟨t1, t3, t8, t9, -⟩
    by_cases lti : i < h
    · rw [decide_eq_true lti] at t73
      refine wp_cond_true t73 ?_
      refine wp_skip ?_
      clear t73
      refine wp_seq ?_
      refine wp_block ?_
      refine wp_seq ?_
      refine wp_region_stB (σ := Nat × Value) 142 [(0, 77), (1, 78), (2, 79), (3, 80), (4, 81), (5, 82), (6, 83), (7, 84), (8, 85), (9, 86), (10, 87), (11, 88), (12, 89), (13, 76), (14, 90), (15, 91), (16, 10), (17, 11)] (fun l_ s X => Below V.heap.size V X ∧ ((X.heap[g1]? = some (.cells #[kv, nv, pv] 26))) ∧ ((SliceN X u (320) (wkC h (bks key q) (rwF h (bks key q) q n p) i))) ∧ (l_ 10 = true → l_ 11 = false → (X.heap[s.1]? = some (.cells (bA 10 bkF) 5))) ∧ (l_ 10 = true → l_ 11 = false → (V.heap.size ≤ s.1)) ∧ (l_ 10 = true → l_ 11 = false → (g1 < s.1)) ∧ (l_ 11 = true → l_ 12 = false → (SliceN X (.slice (some ⟨s.1, 0, none⟩) 10 10) (10) (bkF))) ∧ (l_ 12 = true → (SliceN X s.2 (32) (bks key q i)))) (fun s => fun i_ => match i_ with | 0 => .pointer (some ⟨g1, 0, none⟩) | 1 => kv | 2 => .int .i64 ((i : Nat) : Int) | 3 => .pointer (some ⟨adB kv, adO kv + i, none⟩) | 4 => xv i | 5 => .pointer (some ⟨g1, 1, none⟩) | 6 => nv | 7 => .int .i64 ((i : Nat) : Int) | 8 => .pointer (some ⟨adB nv, adO nv + i * 16, none⟩) | 9 => .slice (some ⟨adB nv, adO nv + i * 16, none⟩) 16 16 | 10 => .slice (some ⟨s.1, 0, none⟩) 10 10 | 11 => .slice (some ⟨s.1, 0, none⟩) 10 10 | 12 => .tuple #[s.2, .int .i64 ((0 : Nat) : Int)] | 13 => .tuple #[s.2, .int .i64 ((0 : Nat) : Int)] | 14 => s.2 | 15 => .int .i64 ((0 : Nat) : Int) | 16 => s.2 | 17 => .int .i64 ((0 : Nat) : Int) | _ => undef) (0, undef) (by kernel_rfl) (by kernel_rfl) A.1 (by kernel_rfl) (by decide) (by decide) ⟨(BB.drew), ((on9 Fg1 (Below.refl _ _).drew)), ((FC.on (Below.refl _ _).drew)), (fun q0_ q1_ => by cases q0_), (fun q0_ q1_ => by cases q0_), (fun q0_ q1_ => by cases q0_), (fun q0_ q1_ => by cases q0_), (fun q0_ => by cases q0_)⟩ ?_ ?_
      · intro i_ hi_ l_ s a X hl_ hf hdep hl2 hcl hno hT
        have up : ∀ j x, x ≠ j → updB l_ j x = l_ x := fun j x hj => by unfold updB; simp [hj]
        match i_, hi_ with
        | 0, _ => exact stepV rfl rfl (execFldJb (k := 0) rfl ((hf 1 (by decide)).trans t1) rfl) ⟨s, ⟨_, rfl, rfl⟩, ⟨hT.1, (hT.2.1), (hT.2.2.1), (fun q0_ q1_ => (hT.2.2.2.1 (by rw [up 0 10 (by decide)] at q0_; exact q0_) (by rw [up 0 11 (by decide)] at q1_; exact q1_))), (fun q0_ q1_ => (hT.2.2.2.2.1 (by rw [up 0 10 (by decide)] at q0_; exact q0_) (by rw [up 0 11 (by decide)] at q1_; exact q1_))), (fun q0_ q1_ => (hT.2.2.2.2.2.1 (by rw [up 0 10 (by decide)] at q0_; exact q0_) (by rw [up 0 11 (by decide)] at q1_; exact q1_))), (fun q0_ q1_ => (hT.2.2.2.2.2.2.1 (by rw [up 0 11 (by decide)] at q0_; exact q0_) (by rw [up 0 12 (by decide)] at q1_; exact q1_))), (fun q0_ => absurd (hl_.symm.trans (hcl 1 _ rfl (hcl 3 _ rfl (hcl 4 _ rfl (hcl 12 _ rfl ((up 0 12 (by decide)).symm.trans q0_) 4 rfl) 3 rfl) 1 rfl) 0 rfl)) (by decide))⟩, fun _ _ _ => rfl⟩
        | 1, _ => exact stepV rfl rfl (execLdLL7 rfl (hdep _ rfl 0 rfl _ rfl _ rfl) (at7 hT.2.1 rfl)) ⟨s, ⟨_, rfl, rfl⟩, ⟨hT.1, (hT.2.1), (hT.2.2.1), (fun q0_ q1_ => (hT.2.2.2.1 (by rw [up 1 10 (by decide)] at q0_; exact q0_) (by rw [up 1 11 (by decide)] at q1_; exact q1_))), (fun q0_ q1_ => (hT.2.2.2.2.1 (by rw [up 1 10 (by decide)] at q0_; exact q0_) (by rw [up 1 11 (by decide)] at q1_; exact q1_))), (fun q0_ q1_ => (hT.2.2.2.2.2.1 (by rw [up 1 10 (by decide)] at q0_; exact q0_) (by rw [up 1 11 (by decide)] at q1_; exact q1_))), (fun q0_ q1_ => (hT.2.2.2.2.2.2.1 (by rw [up 1 11 (by decide)] at q0_; exact q0_) (by rw [up 1 12 (by decide)] at q1_; exact q1_))), (fun q0_ => absurd (hl_.symm.trans (hcl 3 _ rfl (hcl 4 _ rfl (hcl 12 _ rfl ((up 1 12 (by decide)).symm.trans q0_) 4 rfl) 3 rfl) 1 rfl)) (by decide))⟩, fun _ _ _ => rfl⟩
        | 2, _ => exact stepV rfl rfl (execMvB rfl ((hf 9 (by decide)).trans t9)) ⟨s, ⟨_, rfl, rfl⟩, ⟨hT.1, (hT.2.1), (hT.2.2.1), (fun q0_ q1_ => (hT.2.2.2.1 (by rw [up 2 10 (by decide)] at q0_; exact q0_) (by rw [up 2 11 (by decide)] at q1_; exact q1_))), (fun q0_ q1_ => (hT.2.2.2.2.1 (by rw [up 2 10 (by decide)] at q0_; exact q0_) (by rw [up 2 11 (by decide)] at q1_; exact q1_))), (fun q0_ q1_ => (hT.2.2.2.2.2.1 (by rw [up 2 10 (by decide)] at q0_; exact q0_) (by rw [up 2 11 (by decide)] at q1_; exact q1_))), (fun q0_ q1_ => (hT.2.2.2.2.2.2.1 (by rw [up 2 11 (by decide)] at q0_; exact q0_) (by rw [up 2 12 (by decide)] at q1_; exact q1_))), (fun q0_ => absurd (hl_.symm.trans (hcl 3 _ rfl (hcl 4 _ rfl (hcl 12 _ rfl ((up 2 12 (by decide)).symm.trans q0_) 4 rfl) 3 rfl) 2 rfl)) (by decide))⟩, fun _ _ _ => rfl⟩
        | 3, _ => exact stepV rfl rfl (execIdxLs (k := i) (hK.on hT.1) rfl (hdep _ rfl 1 rfl _ rfl _ rfl) (hdep _ rfl 2 rfl _ rfl _ rfl) lti) ⟨s, ⟨_, rfl, rfl⟩, ⟨hT.1, (hT.2.1), (hT.2.2.1), (fun q0_ q1_ => (hT.2.2.2.1 (by rw [up 3 10 (by decide)] at q0_; exact q0_) (by rw [up 3 11 (by decide)] at q1_; exact q1_))), (fun q0_ q1_ => (hT.2.2.2.2.1 (by rw [up 3 10 (by decide)] at q0_; exact q0_) (by rw [up 3 11 (by decide)] at q1_; exact q1_))), (fun q0_ q1_ => (hT.2.2.2.2.2.1 (by rw [up 3 10 (by decide)] at q0_; exact q0_) (by rw [up 3 11 (by decide)] at q1_; exact q1_))), (fun q0_ q1_ => (hT.2.2.2.2.2.2.1 (by rw [up 3 11 (by decide)] at q0_; exact q0_) (by rw [up 3 12 (by decide)] at q1_; exact q1_))), (fun q0_ => absurd (hl_.symm.trans (hcl 4 _ rfl (hcl 12 _ rfl ((up 3 12 (by decide)).symm.trans q0_) 4 rfl) 3 rfl)) (by decide))⟩, fun _ _ _ => rfl⟩
        | 4, _ => exact stepV rfl rfl (execLdLs (k := i) (hK.on hT.1) rfl (hdep _ rfl 3 rfl _ rfl _ rfl) lti) ⟨s, ⟨_, rfl, rfl⟩, ⟨hT.1, (hT.2.1), (hT.2.2.1), (fun q0_ q1_ => (hT.2.2.2.1 (by rw [up 4 10 (by decide)] at q0_; exact q0_) (by rw [up 4 11 (by decide)] at q1_; exact q1_))), (fun q0_ q1_ => (hT.2.2.2.2.1 (by rw [up 4 10 (by decide)] at q0_; exact q0_) (by rw [up 4 11 (by decide)] at q1_; exact q1_))), (fun q0_ q1_ => (hT.2.2.2.2.2.1 (by rw [up 4 10 (by decide)] at q0_; exact q0_) (by rw [up 4 11 (by decide)] at q1_; exact q1_))), (fun q0_ q1_ => (hT.2.2.2.2.2.2.1 (by rw [up 4 11 (by decide)] at q0_; exact q0_) (by rw [up 4 12 (by decide)] at q1_; exact q1_))), (fun q0_ => absurd (hl_.symm.trans (hcl 12 _ rfl ((up 4 12 (by decide)).symm.trans q0_) 4 rfl)) (by decide))⟩, fun _ _ _ => rfl⟩
        | 5, _ => exact stepV rfl rfl (execFldJb (k := 1) rfl ((hf 1 (by decide)).trans t1) rfl) ⟨s, ⟨_, rfl, rfl⟩, ⟨hT.1, (hT.2.1), (hT.2.2.1), (fun q0_ q1_ => (hT.2.2.2.1 (by rw [up 5 10 (by decide)] at q0_; exact q0_) (by rw [up 5 11 (by decide)] at q1_; exact q1_))), (fun q0_ q1_ => (hT.2.2.2.2.1 (by rw [up 5 10 (by decide)] at q0_; exact q0_) (by rw [up 5 11 (by decide)] at q1_; exact q1_))), (fun q0_ q1_ => (hT.2.2.2.2.2.1 (by rw [up 5 10 (by decide)] at q0_; exact q0_) (by rw [up 5 11 (by decide)] at q1_; exact q1_))), (fun q0_ q1_ => (hT.2.2.2.2.2.2.1 (by rw [up 5 11 (by decide)] at q0_; exact q0_) (by rw [up 5 12 (by decide)] at q1_; exact q1_))), (fun q0_ => absurd (hl_.symm.trans (hcl 6 _ rfl (hcl 8 _ rfl (hcl 9 _ rfl (hcl 12 _ rfl ((up 5 12 (by decide)).symm.trans q0_) 9 rfl) 8 rfl) 6 rfl) 5 rfl)) (by decide))⟩, fun _ _ _ => rfl⟩
        | 6, _ => exact stepV rfl rfl (execLdLA7 rfl (hdep _ rfl 5 rfl _ rfl _ rfl) (at7 hT.2.1 rfl)) ⟨s, ⟨_, rfl, rfl⟩, ⟨hT.1, (hT.2.1), (hT.2.2.1), (fun q0_ q1_ => (hT.2.2.2.1 (by rw [up 6 10 (by decide)] at q0_; exact q0_) (by rw [up 6 11 (by decide)] at q1_; exact q1_))), (fun q0_ q1_ => (hT.2.2.2.2.1 (by rw [up 6 10 (by decide)] at q0_; exact q0_) (by rw [up 6 11 (by decide)] at q1_; exact q1_))), (fun q0_ q1_ => (hT.2.2.2.2.2.1 (by rw [up 6 10 (by decide)] at q0_; exact q0_) (by rw [up 6 11 (by decide)] at q1_; exact q1_))), (fun q0_ q1_ => (hT.2.2.2.2.2.2.1 (by rw [up 6 11 (by decide)] at q0_; exact q0_) (by rw [up 6 12 (by decide)] at q1_; exact q1_))), (fun q0_ => absurd (hl_.symm.trans (hcl 8 _ rfl (hcl 9 _ rfl (hcl 12 _ rfl ((up 6 12 (by decide)).symm.trans q0_) 9 rfl) 8 rfl) 6 rfl)) (by decide))⟩, fun _ _ _ => rfl⟩
        | 7, _ => exact stepV rfl rfl (execMvB rfl ((hf 9 (by decide)).trans t9)) ⟨s, ⟨_, rfl, rfl⟩, ⟨hT.1, (hT.2.1), (hT.2.2.1), (fun q0_ q1_ => (hT.2.2.2.1 (by rw [up 7 10 (by decide)] at q0_; exact q0_) (by rw [up 7 11 (by decide)] at q1_; exact q1_))), (fun q0_ q1_ => (hT.2.2.2.2.1 (by rw [up 7 10 (by decide)] at q0_; exact q0_) (by rw [up 7 11 (by decide)] at q1_; exact q1_))), (fun q0_ q1_ => (hT.2.2.2.2.2.1 (by rw [up 7 10 (by decide)] at q0_; exact q0_) (by rw [up 7 11 (by decide)] at q1_; exact q1_))), (fun q0_ q1_ => (hT.2.2.2.2.2.2.1 (by rw [up 7 11 (by decide)] at q0_; exact q0_) (by rw [up 7 12 (by decide)] at q1_; exact q1_))), (fun q0_ => absurd (hl_.symm.trans (hcl 8 _ rfl (hcl 9 _ rfl (hcl 12 _ rfl ((up 7 12 (by decide)).symm.trans q0_) 9 rfl) 8 rfl) 7 rfl)) (by decide))⟩, fun _ _ _ => rfl⟩
        | 8, _ => exact stepV rfl rfl (execIdxNs (k := i) (hN.on hT.1) rfl (hdep _ rfl 6 rfl _ rfl _ rfl) (hdep _ rfl 7 rfl _ rfl _ rfl) lti) ⟨s, ⟨_, rfl, rfl⟩, ⟨hT.1, (hT.2.1), (hT.2.2.1), (fun q0_ q1_ => (hT.2.2.2.1 (by rw [up 8 10 (by decide)] at q0_; exact q0_) (by rw [up 8 11 (by decide)] at q1_; exact q1_))), (fun q0_ q1_ => (hT.2.2.2.2.1 (by rw [up 8 10 (by decide)] at q0_; exact q0_) (by rw [up 8 11 (by decide)] at q1_; exact q1_))), (fun q0_ q1_ => (hT.2.2.2.2.2.1 (by rw [up 8 10 (by decide)] at q0_; exact q0_) (by rw [up 8 11 (by decide)] at q1_; exact q1_))), (fun q0_ q1_ => (hT.2.2.2.2.2.2.1 (by rw [up 8 11 (by decide)] at q0_; exact q0_) (by rw [up 8 12 (by decide)] at q1_; exact q1_))), (fun q0_ => absurd (hl_.symm.trans (hcl 9 _ rfl (hcl 12 _ rfl ((up 8 12 (by decide)).symm.trans q0_) 9 rfl) 8 rfl)) (by decide))⟩, fun _ _ _ => rfl⟩
        | 9, _ => exact stepV rfl rfl (execSl16O rfl (hdep _ rfl 8 rfl _ rfl _ rfl)) ⟨s, ⟨_, rfl, rfl⟩, ⟨hT.1, (hT.2.1), (hT.2.2.1), (fun q0_ q1_ => (hT.2.2.2.1 (by rw [up 9 10 (by decide)] at q0_; exact q0_) (by rw [up 9 11 (by decide)] at q1_; exact q1_))), (fun q0_ q1_ => (hT.2.2.2.2.1 (by rw [up 9 10 (by decide)] at q0_; exact q0_) (by rw [up 9 11 (by decide)] at q1_; exact q1_))), (fun q0_ q1_ => (hT.2.2.2.2.2.1 (by rw [up 9 10 (by decide)] at q0_; exact q0_) (by rw [up 9 11 (by decide)] at q1_; exact q1_))), (fun q0_ q1_ => (hT.2.2.2.2.2.2.1 (by rw [up 9 11 (by decide)] at q0_; exact q0_) (by rw [up 9 12 (by decide)] at q1_; exact q1_))), (fun q0_ => absurd (hl_.symm.trans (hcl 12 _ rfl ((up 9 12 (by decide)).symm.trans q0_) 9 rfl)) (by decide))⟩, fun _ _ _ => rfl⟩
        | 10, _ =>
          refine stepV rfl rfl (execBsBk rfl) ⟨(X.heap.size, s.2), ⟨_, rfl, rfl⟩, ⟨hT.1.trans (((belNew X _)).mono hT.1.size), ((on9 hT.2.1 (belNew X _))), ((hT.2.2.1.on (belNew X _))), (fun _q0_ _q1_ => heapNew X _), (fun _q0_ _q1_ => (hT.1).size), (fun _q0_ _q1_ => (Array.getElem?_eq_some_iff.1 hT.2.1).1), (fun q0_ q1_ => absurd (hl_.symm.trans (hcl 11 _ rfl ((up 10 11 (by decide)).symm.trans q0_) 10 rfl)) (by decide)), (fun q0_ => absurd (hl_.symm.trans (hcl 11 _ rfl (hcl 12 _ rfl ((up 10 12 (by decide)).symm.trans q0_) 11 rfl) 10 rfl)) (by decide))⟩, fun i hi hli => ?_⟩
          match i, hi with
          | 0, _ => rfl
          | 1, _ => rfl
          | 2, _ => rfl
          | 3, _ => rfl
          | 4, _ => rfl
          | 5, _ => rfl
          | 6, _ => rfl
          | 7, _ => rfl
          | 8, _ => rfl
          | 9, _ => rfl
          | 10, _ => exact absurd (hl_.symm.trans hli) (by decide)
          | 11, _ => exact absurd (hl_.symm.trans (hcl 11 _ rfl hli 10 rfl)) (by decide)
          | 12, _ => rfl
          | 13, _ => rfl
          | 14, _ => rfl
          | 15, _ => rfl
          | 16, _ => rfl
          | 17, _ => rfl
          | k_ + 18, h_ => exact absurd h_ (by simp)
        | 11, _ =>
          refine stepV rfl rfl (execCvB7 rfl (hdep _ rfl 10 rfl _ rfl _ rfl) (hT.2.2.2.1 (hl2 _ rfl 10 rfl) hl_)) ⟨s, ⟨_, rfl, rfl⟩, ⟨frz_bel hT.1 (hT.2.2.2.2.1 (hl2 _ rfl 10 rfl) hl_), (((frz_heap.1 _ (Nat.ne_of_lt (hT.2.2.2.2.2.1 (hl2 _ rfl 10 rfl) hl_))).trans hT.2.1)), ((frz_sl hT.2.2.1)), (fun q0_ q1_ => absurd q1_ (by unfold updB; simp)), (fun q0_ q1_ => absurd q1_ (by unfold updB; simp)), (fun q0_ q1_ => absurd q1_ (by unfold updB; simp)), (fun _q0_ _q1_ => frz_sl (bk_slice (hT.2.2.2.1 (hl2 _ rfl 10 rfl) hl_))), (fun q0_ => absurd (hl_.symm.trans (hcl 12 _ rfl ((up 11 12 (by decide)).symm.trans q0_) 11 rfl)) (by decide))⟩, fun i hi hli => ?_⟩
          match i, hi with
          | 0, _ => rfl
          | 1, _ => rfl
          | 2, _ => rfl
          | 3, _ => rfl
          | 4, _ => rfl
          | 5, _ => rfl
          | 6, _ => rfl
          | 7, _ => rfl
          | 8, _ => rfl
          | 9, _ => rfl
          | 10, _ => rfl
          | 11, _ => exact absurd (hl_.symm.trans hli) (by decide)
          | 12, _ => rfl
          | 13, _ => rfl
          | 14, _ => rfl
          | 15, _ => rfl
          | 16, _ => rfl
          | 17, _ => rfl
          | k_ + 18, h_ => exact absurd h_ (by simp)
        | 12, _ =>
          refine stepC rfl rfl (execCall4 Tryd.func9 (by kernel_rfl) (by kernel_rfl) rfl (hdep _ rfl 4 rfl _ rfl _ rfl) (hdep _ rfl 9 rfl _ rfl _ rfl) (hdep _ rfl 11 rfl _ rfl _ rfl) rfl) (derB _ _ _ (key i) (q i) X (hgl X hT.1) (w4 i lti ▸ (hK.cell i lti).on hT.1) (nons_sl (hN.on hT.1) lti) (hT.2.2.2.2.2.2.1 (hl2 _ rfl 11 rfl) hl_)) fun e w' hh => ?_
          obtain ⟨r_, he, hk, hb⟩ := hh
          refine ⟨_, he, (s.1, r_), ⟨_, rfl, rfl⟩, ⟨hT.1.trans ((hb).mono hT.1.size), ((on9 hT.2.1 hb)), ((hT.2.2.1.on hb)), (fun q0_ q1_ => absurd (q1_.symm.trans ((up 12 11 (by decide)).trans (hl2 _ rfl 11 rfl))) (by decide)), (fun q0_ q1_ => absurd (q1_.symm.trans ((up 12 11 (by decide)).trans (hl2 _ rfl 11 rfl))) (by decide)), (fun q0_ q1_ => absurd (q1_.symm.trans ((up 12 11 (by decide)).trans (hl2 _ rfl 11 rfl))) (by decide)), (fun q0_ q1_ => absurd q1_ (by unfold updB; simp)), (fun _q0_ => hk)⟩, fun i hi hli => ?_⟩
          match i, hi with
          | 0, _ => rfl
          | 1, _ => rfl
          | 2, _ => rfl
          | 3, _ => rfl
          | 4, _ => rfl
          | 5, _ => rfl
          | 6, _ => rfl
          | 7, _ => rfl
          | 8, _ => rfl
          | 9, _ => rfl
          | 10, _ => rfl
          | 11, _ => rfl
          | 12, _ => exact absurd (hl_.symm.trans hli) (by decide)
          | 13, _ => exact absurd (hl_.symm.trans (hcl 13 _ rfl hli 12 rfl)) (by decide)
          | 14, _ => exact absurd (hl_.symm.trans (hcl 13 _ rfl (hcl 14 _ rfl hli 13 rfl) 12 rfl)) (by decide)
          | 15, _ => rfl
          | 16, _ => exact absurd (hl_.symm.trans (hcl 16 _ rfl hli 12 rfl)) (by decide)
          | 17, _ => rfl
          | k_ + 18, h_ => exact absurd h_ (by simp)
        | 13, _ => exact stepV rfl rfl (execMvB rfl (hdep _ rfl 12 rfl _ rfl _ rfl)) ⟨s, ⟨_, rfl, rfl⟩, ⟨hT.1, (hT.2.1), (hT.2.2.1), (fun q0_ q1_ => absurd (q1_.symm.trans ((up 13 11 (by decide)).trans (hcl 12 _ rfl (hl2 _ rfl 12 rfl) 11 rfl))) (by decide)), (fun q0_ q1_ => absurd (q1_.symm.trans ((up 13 11 (by decide)).trans (hcl 12 _ rfl (hl2 _ rfl 12 rfl) 11 rfl))) (by decide)), (fun q0_ q1_ => absurd (q1_.symm.trans ((up 13 11 (by decide)).trans (hcl 12 _ rfl (hl2 _ rfl 12 rfl) 11 rfl))) (by decide)), (fun q0_ q1_ => absurd (q1_.symm.trans ((up 13 12 (by decide)).trans (hl2 _ rfl 12 rfl))) (by decide)), (fun q0_ => (hT.2.2.2.2.2.2.2 (by rw [up 13 12 (by decide)] at q0_; exact q0_)))⟩, fun _ _ _ => rfl⟩
        | 14, _ => exact stepV rfl rfl (Cf.execExtT rfl (hdep _ rfl 13 rfl _ rfl _ rfl) rfl) ⟨s, ⟨_, rfl, rfl⟩, ⟨hT.1, (hT.2.1), (hT.2.2.1), (fun q0_ q1_ => absurd (q1_.symm.trans ((up 14 11 (by decide)).trans (hcl 12 _ rfl (hcl 13 _ rfl (hl2 _ rfl 13 rfl) 12 rfl) 11 rfl))) (by decide)), (fun q0_ q1_ => absurd (q1_.symm.trans ((up 14 11 (by decide)).trans (hcl 12 _ rfl (hcl 13 _ rfl (hl2 _ rfl 13 rfl) 12 rfl) 11 rfl))) (by decide)), (fun q0_ q1_ => absurd (q1_.symm.trans ((up 14 11 (by decide)).trans (hcl 12 _ rfl (hcl 13 _ rfl (hl2 _ rfl 13 rfl) 12 rfl) 11 rfl))) (by decide)), (fun q0_ q1_ => absurd (q1_.symm.trans ((up 14 12 (by decide)).trans (hcl 13 _ rfl (hl2 _ rfl 13 rfl) 12 rfl))) (by decide)), (fun q0_ => (hT.2.2.2.2.2.2.2 (by rw [up 14 12 (by decide)] at q0_; exact q0_)))⟩, fun _ _ _ => rfl⟩
        | 15, _ => exact stepV rfl rfl (Cf.execExtT rfl (hdep _ rfl 13 rfl _ rfl _ rfl) rfl) ⟨s, ⟨_, rfl, rfl⟩, ⟨hT.1, (hT.2.1), (hT.2.2.1), (fun q0_ q1_ => absurd (q1_.symm.trans ((up 15 11 (by decide)).trans (hcl 12 _ rfl (hcl 13 _ rfl (hl2 _ rfl 13 rfl) 12 rfl) 11 rfl))) (by decide)), (fun q0_ q1_ => absurd (q1_.symm.trans ((up 15 11 (by decide)).trans (hcl 12 _ rfl (hcl 13 _ rfl (hl2 _ rfl 13 rfl) 12 rfl) 11 rfl))) (by decide)), (fun q0_ q1_ => absurd (q1_.symm.trans ((up 15 11 (by decide)).trans (hcl 12 _ rfl (hcl 13 _ rfl (hl2 _ rfl 13 rfl) 12 rfl) 11 rfl))) (by decide)), (fun q0_ q1_ => absurd (q1_.symm.trans ((up 15 12 (by decide)).trans (hcl 13 _ rfl (hl2 _ rfl 13 rfl) 12 rfl))) (by decide)), (fun q0_ => (hT.2.2.2.2.2.2.2 (by rw [up 15 12 (by decide)] at q0_; exact q0_)))⟩, fun _ _ _ => rfl⟩
        | 16, _ => exact stepV rfl rfl (Cf.execAsgB rfl (hdep _ rfl 14 rfl _ rfl _ rfl)) ⟨s, ⟨_, rfl, rfl⟩, ⟨hT.1, (hT.2.1), (hT.2.2.1), (fun q0_ q1_ => absurd (q1_.symm.trans ((up 16 11 (by decide)).trans (hl2 _ rfl 11 rfl))) (by decide)), (fun q0_ q1_ => absurd (q1_.symm.trans ((up 16 11 (by decide)).trans (hl2 _ rfl 11 rfl))) (by decide)), (fun q0_ q1_ => absurd (q1_.symm.trans ((up 16 11 (by decide)).trans (hl2 _ rfl 11 rfl))) (by decide)), (fun q0_ q1_ => absurd (q1_.symm.trans ((up 16 12 (by decide)).trans (hl2 _ rfl 12 rfl))) (by decide)), (fun q0_ => (hT.2.2.2.2.2.2.2 (by rw [up 16 12 (by decide)] at q0_; exact q0_)))⟩, fun _ _ _ => rfl⟩
        | 17, _ => exact stepV rfl rfl (Cf.execAsgB rfl (hdep _ rfl 15 rfl _ rfl _ rfl)) ⟨s, ⟨_, rfl, rfl⟩, ⟨hT.1, (hT.2.1), (hT.2.2.1), (fun q0_ q1_ => absurd (q1_.symm.trans ((up 17 11 (by decide)).trans (hl2 _ rfl 11 rfl))) (by decide)), (fun q0_ q1_ => absurd (q1_.symm.trans ((up 17 11 (by decide)).trans (hl2 _ rfl 11 rfl))) (by decide)), (fun q0_ q1_ => absurd (q1_.symm.trans ((up 17 11 (by decide)).trans (hl2 _ rfl 11 rfl))) (by decide)), (fun q0_ q1_ => absurd (q1_.symm.trans ((up 17 12 (by decide)).trans (hl2 _ rfl 12 rfl))) (by decide)), (fun q0_ => (hT.2.2.2.2.2.2.2 (by rw [up 17 12 (by decide)] at q0_; exact q0_)))⟩, fun _ _ _ => rfl⟩
        | k_ + 18, h_ => exact absurd h_ (by simp)
      rintro l_ ⟨g87, v89⟩ a X14 h1 h2 h3 h4 hall hT
      clear BB
      clear Fg1
      clear FC
      obtain ⟨BB, Fg1, FC, FL, FG, FGj, FT, FK⟩ := hT
      replace Fg1 : (X14.heap[g1]? = some (.cells #[kv, nv, pv] 26)) := Fg1
      replace FC : (SliceN X14 u (320) (wkC h (bks key q) (rwF h (bks key q) q n p) i)) := FC
      clear FL
      clear FG
      clear FGj
      clear FT
      replace FK : (SliceN X14 v89 (32) (bks key q i)) := FK (hall 12 (by decide))
      clear hall
      replace t1 := (h3 1 (by decide)).trans t1
      replace t3 := (h3 3 (by decide)).trans t3
      replace t8 := (h3 8 (by decide)).trans t8
      replace t9 := (h3 9 (by decide)).trans t9
      have t10 : a.eval (.tmp 10) = v89 := h4 (16, 10) (by decide)
      have t11 : a.eval (.tmp 11) = .int .i64 ((0 : Nat) : Int) := h4 (17, 11) (by decide)
      replace A := (⟨h1, h2.trans A.2⟩ : a.tmps.size = 142 ∧ a.defers = [])
      clear h1 h2 h3 h4
      refine wp_seq ?_
      refine wi_ A (h6_ t1 t3 t8 t9 t10 t11) (rv_ 3 (.int .i64 ((h - i : Nat) : Int)) (fun a ee => execSubJ (p := h) (q := i) (r := h - i) rfl (ee _) (ee _) (by omega) (by omega)) (rc_ 5 (peB X14 (hgl X14 BB) FK FC hz w1 w2 w5 lti hP.bytes) fun e X15_1 hh => ?_))
      obtain ⟨cu98, he, hk, hz_, ho_, hb⟩ := hh
      refine ⟨_, he, ?_⟩
      have bQ : Below X14.heap.size X14 X15_1 := hb
      have FP : (SliceN X15_1 cu98 (320) (wkC h (bks key q) (rwF h (bks key q) q n p) (i + 1))) := hk
      have FPz : (∀ l c, cu98 = .slice none l c → c = 0) := hz_
      have FPo : (cu98.oneCell' = true) := ho_
      replace Fg1 := (on9 Fg1 bQ)
      replace FC := (FC.on bQ)
      replace BB := BB.trans (bQ.mono BB.size)
      clear FK bQ
      obtain ⟨g12, egg12⟩ : ∃ z_ : Nat, X15_1.heap.size = z_ := ⟨_, rfl⟩
      refine rs_ 9 (fun a ee => ?_)
      refine stepV rfl rfl (execAlPe rfl) ⟨.pointer (some ⟨g12, 0, none⟩), ⟨_, rfl, by subst egg12; rfl⟩, fun X15_2 hX => ?_⟩
      have bQ : Below X15_1.heap.size X15_1 X15_2 := by subst hX egg12; exact (belNew X15_1 _)
      have F12 : (X15_2.heap[g12]? = some (.cells (pC (.slice none 0 0) fun _ => 0) 35)) := by subst hX egg12; exact heapNew X15_1 _
      have FG : (V.heap.size ≤ g12) := by subst hX egg12; exact (BB).size
      have FGj : (g1 < g12) := by subst hX egg12; exact (Array.getElem?_eq_some_iff.1 Fg1).1
      have FC2 : (SlB g12 X15_2 u 320 (wkC h (bks key q) (rwF h (bks key q) q n p) i)) := by subst hX egg12; exact slb_new FC
      have FP2 : (SlB g12 X15_2 cu98 320 (wkC h (bks key q) (rwF h (bks key q) q n p) (i + 1))) := by subst hX egg12; exact slb_new FP
      replace Fg1 := (on9 Fg1 bQ)
      replace BB := BB.trans (bQ.mono BB.size)
      clear FC FP bQ hX egg12 ee a
      refine rs_ 10 (fun a ee => ?_)
      refine stepS rfl rfl (execStPe rfl (ee _) (ee _) F12 FPo) ⟨_, ⟨_, rfl, rfl⟩, fun X15 hX => ?_⟩
      obtain ⟨BB, Fg1, FC2, FP2, F12s⟩ : Below V.heap.size V X15 ∧ (X15.heap[g1]? = some (.cells #[kv, nv, pv] 26)) ∧ (SlB g12 X15 u 320 (wkC h (bks key q) (rwF h (bks key q) q n p) i)) ∧ (SlB g12 X15 cu98 320 (wkC h (bks key q) (rwF h (bks key q) q n p) (i + 1))) ∧ (X15.heap[g12]? = some (.cells (pC cu98 (peR 0 (bks key q i) (wkC h (bks key q) (rwF h (bks key q) q n p) i))) 35)) := by subst hX; exact ⟨below4 BB FG _, (((below4 (Below.refl _ _) (Nat.le_refl _) _).block _ FGj).trans Fg1), (slb_on FC2 (below4 (Below.refl _ _) (Nat.le_refl _) _)), (slb_on FP2 (below4 (Below.refl _ _) (Nat.le_refl _) _)), setRow_heap _ _ _ _ _ _ F12⟩
      clear F12 hX ee a
      refine rf_ [(12, .pointer (some ⟨g12, 0, none⟩)), (13, .int .i64 ((0 : Nat) : Int))] (h5_ t1 t3 t8 t9 t11) ?_
      rintro a A ⟨t12, t13, -⟩ ⟨t1, t3, t8, t9, t11, -⟩
      refine wp_seq ?_
      refine wp_seq ?_
      refine wj_ [0, 1, 2, 3, 4, 5, 6, 7, 8, 9, 10, 11, 12, 13, 14, 15, 16, 17, 18, 19, 20, 21, 22, 23] [] [8, 9, 14, 15, 17, 19, 21] [] A (h7_ t1 t3 t8 t9 t11 t12 t13) (fun X16 bD => ?_)
      refine dw_ 1 (.bool false) (fun a X ee => execDec (execNeE (p := 0) (q := 0) rfl (ee _) rfl) (decide_eq_false (by omega))) (dw_ 4 (.bool false) (fun a X ee => execDec (execNeE (p := 0) (q := 0) rfl (ee _) rfl) (decide_eq_false (by omega))) (dw_ 7 (.pointer (some ⟨g12, 0, none⟩)) (fun a X ee => execFldQ0 rfl (ee _)) (dv_ 8 (cu98) (fun a X ee hb => Cel.execLdL rfl (ee _) (pc_at0 (on9 F12s hb))) (dv_ 9 (.int .i64 ((320 : Nat) : Int)) (fun a X ee hb => execLenV (len := 320) rfl (ee _) (shp ((slb_on2 FP2 hb).1))) (dw_ 10 (.bool false) (fun a X ee => execDec (execNeN (p := 320) (q := 320) rfl (ee _) rfl) (decide_eq_false (by omega))) (dv_ 14 (cutH u 16) (fun a X ee hb => execCutH (k := 16) ((slb_on2 FC2 hb).1) rfl (ee _) rfl (by omega)) (dv_ 15 (.string (strN (wkC h (bks key q) (rwF h (bks key q) q n p) i) 16)) (fun a X ee hb => execStr rfl (ee _) ((cutH_is ((slb_on2 FC2 hb).1) (by omega)))) (dw_ 16 (.pointer (some ⟨g1, 1, none⟩)) (fun a X ee => execFldJb (k := 1) rfl (ee _) rfl) (dv_ 17 (nv) (fun a X ee hb => execLdLA7 rfl (ee _) (at7 (on9 Fg1 hb) rfl)) (dv_ 19 (.pointer (some ⟨adB nv, adO nv + i * 16, none⟩)) (fun a X ee hb => execIdxNs (k := i) (hN.on (BB.trans (hb.mono BB.size))) rfl (ee _) (ee _) lti) (dw_ 20 (.slice (some ⟨adB nv, adO nv + i * 16, none⟩) 16 16) (fun a X ee => execSl16O rfl (ee _)) (dv_ 21 (.string (strN (q i) 16)) (fun a X ee hb => execStr rfl (ee _) ((nons_sl (hN.on (BB.trans (hb.mono BB.size))) lti))) (dw_ 22 (.bool false) (fun a X ee => By8.execNeqS rfl (ee _) ((ee _).trans (congrArg Value.string (hdB w1 w2 w5 lti)))) (dz_ [(124, .bool false)] (h5_ t1 t3 t8 t9 t12) ?_))))))))))))))
      rintro a A ⟨t124, -⟩ ⟨t1, t3, t8, t9, t12, -⟩
      replace Fg1 := (on9 Fg1 bD)
      replace FC2 := (slb_on2 FC2 bD)
      replace FP2 := (slb_on2 FP2 bD)
      replace F12s := (on9 F12s bD)
      replace BB := BB.trans (bD.mono BB.size)
      clear bD
      refine wp_cond_false t124 ?_
      refine wp_skip ?_
      clear t124
      refine wi_ A (h5_ t1 t3 t8 t9 t12) (rv_ 0 (.pointer (some ⟨g12, 0, none⟩)) (fun a ee => execFldQ0 rfl (ee _)) (rv_ 1 (cu98) (fun a ee => Cel.execLdL rfl (ee _) (pc_at0 F12s)) (rf_ [(3, cu98)] (h3_ t1 t8 t9) ?_)))
      rintro a A ⟨t3, -⟩ ⟨t1, t8, t9, -⟩
      have hz2 := FPz
      have FN := FP2.1
      clear F12s FG FGj FC2 FP2 FPz FPo
      refine wi_ A (h4_ t1 t3 t8 t9) (rv_ 1 (.int .i64 ((i + 1 : Nat) : Int)) (fun a ee => execAd8 (p := i) (q := 1) rfl (ee _) rfl (by omega)) (rf_ [(9, .int .i64 ((i + 1 : Nat) : Int))] (h3_ t1 t3 t8) ?_))
      rintro a A ⟨t9, -⟩ ⟨t1, t3, t8, -⟩
      exact ⟨⟨i + 1, cu98, lti, hz2, A, t1, t3, t8, t9, BB, Fg1, FN⟩, by show h - (intOf (a.eval (.tmp 9))).toNat < h - (intOf (Act.eval _ (.tmp 9))).toNat; rw [t9, esi]; show h - (i + 1) < h - i; omega⟩
    · rw [decide_eq_false lti] at t73
      refine wp_cond_false t73 ?_
      refine wp_exit ?_
      first | with_reducible refine exit_in ?_ | with_reducible refine exit_then (exit_in ?_) | with_reducible refine exit_then (exit_then (exit_in ?_)) | refine exit_in ?_ | refine exit_then (exit_in ?_) | refine exit_then (exit_then (exit_in ?_))
      clear t73 esi
      have ein : i = h := (by omega)
      rw [ein] at FC
      replace FC : (SliceN XL12 u (320) (cellF 2 (headP n) n p)) := lastB w1 w2 w5 ▸ FC
      refine wp_seq ?_
      refine wi_ A (h4_ t1 t3 t8 t9) (rv_ 0 (.pointer (some ⟨g1, 2, none⟩)) (fun a ee => execFldJb (k := 2) rfl (ee _) rfl) (rv_ 1 (pv) (fun a ee => execLdL7 rfl (ee _) (at7 Fg1 rfl)) (rc_ 2 (plB n p _ XL12 ⟨hP.on BB, hPz⟩ w5) fun e X19 hh => ?_)))
      obtain ⟨v130, he, hk, hb⟩ := hh
      refine ⟨_, he, ?_⟩
      have bQ : Below XL12.heap.size XL12 X19 := hb
      have FQ : (SliceN X19 v130 (320) (cellF 2 (headP n) n p)) := hk
      replace Fg1 := (on9 Fg1 bQ)
      replace FC := (FC.on bQ)
      replace BB := BB.trans (bQ.mono BB.size)
      clear bQ
      refine rf_ [(14, v130), (15, .int .i64 ((0 : Nat) : Int))] (h1_ t3) ?_
      rintro a A ⟨t14, t15, -⟩ ⟨t3, -⟩
      refine wp_seq ?_
      refine wi_ A (h3_ t3 t14 t15) (rv_ 1 (.bool true) (fun a ee => execDec (execEqE (p := 0) (q := 0) rfl (ee _) rfl) (decide_eq_true (by rfl))) (rv_ 4 (.string (strN (cellF 2 (headP n) n p) 320)) (fun a ee => execStr rfl (ee _) (FC)) (rv_ 6 (.string (strN (cellF 2 (headP n) n p) 320)) (fun a ee => execStr rfl (ee _) (FQ)) (rv_ 7 (.bool true) (fun a ee => By8.execEqlS rfl (ee _) (ee _)) (rg_ [(2, .bool true)] ?_)))))
      rintro a A ⟨t2, -⟩
      refine wp_ret ?_
      repeat (first | with_reducible refine ret_in ?_ | with_reducible refine ret_then ?_)
      refine bodyPost_ret (results_tmp rfl _ _ _) A.2 ⟨?_, BB⟩
      show Ending.returned (a.eval (.tmp 2)) = _
      rw [t2]
  · obtain ⟨ex_, hee⟩ : ∃ ex_, rwE h hn lk n = ex_ := ⟨_, rfl⟩
    have hn0 : rwN h hn lk n = 0 := if_neg e1
    rw [hee] at e1
    refine wo_ 142 [(0, .agg #[kv, nv, pv])] ?_
    rintro a A ⟨t0, -⟩
    have BW : Below V.heap.size V V := Below.refl _ _
    have BB := BW
    refine wp_seq ?_
    obtain ⟨g1, egg1⟩ : ∃ z_ : Nat, V.heap.size = z_ := ⟨_, rfl⟩
    refine wi_ A (h1_ t0) (rs_ 0 (fun a ee => ?_))
    refine stepV rfl rfl (execBxJob rfl (ee _)) ⟨.pointer (some ⟨g1, 0, none⟩), ⟨_, rfl, by subst egg1; rfl⟩, fun X0 hX => ?_⟩
    have bQ : Below V.heap.size V X0 := by subst hX egg1; exact (belNew V _)
    have Fg1 : (X0.heap[g1]? = some (.cells #[kv, nv, pv] 26)) := by subst hX egg1; exact heapNew V _
    replace BB := BB.trans (bQ.mono BB.size)
    clear bQ hX egg1 ee a
    refine rg_ [(1, .pointer (some ⟨g1, 0, none⟩))] ?_
    rintro a A ⟨t1, -⟩
    refine wp_seq ?_
    refine wp_seq ?_
    refine wi_ A (h1_ t1) (rc_ 0 (alive27 I X0 (fun W h => hg W ((BB).trans (h.mono (BB).size)))) (cb_ fun X1 bQ => ?_))
    replace Fg1 := (on9 Fg1 bQ)
    replace BB := BB.trans (bQ.mono BB.size)
    clear bQ
    refine rv_ 1 (.bool false) (fun a ee => execNot8 (b := true) rfl (ee _)) (rf_ [(17, .bool false)] (h1_ t1) ?_)
    rintro a A ⟨t17, -⟩ ⟨t1, -⟩
    refine wp_cond_false t17 ?_
    refine wp_skip ?_
    clear t17
    refine wp_seq ?_
    refine wi_ A (h1_ t1) (rv_ 0 (.pointer (some ⟨g1, 0, none⟩)) (fun a ee => execFldJb (k := 0) rfl (ee _) rfl) (rv_ 1 (kv) (fun a ee => execLdLL7 rfl (ee _) (at7 Fg1 rfl)) (rv_ 2 (.pointer (some ⟨g1, 1, none⟩)) (fun a ee => execFldJb (k := 1) rfl (ee _) rfl) (rv_ 3 (nv) (fun a ee => execLdLA7 rfl (ee _) (at7 Fg1 rfl)) (rv_ 4 (.pointer (some ⟨g1, 2, none⟩)) (fun a ee => execFldJb (k := 2) rfl (ee _) rfl) (rv_ 5 (pv) (fun a ee => execLdL7 rfl (ee _) (at7 Fg1 rfl)) (rc_ 6 (chB I h hn kv nv xv lk key q n p pv X1 (hg X1 BB) (hK.on BB) (hN.on BB) hh hhn (hP.on BB) hPz hpn ex_ 0 hee hn0) fun e X3 hh => ?_)))))))
    obtain ⟨v25, he, hk, hz_, hb⟩ := hh
    refine ⟨_, he, ?_⟩
    have bQ : Below X1.heap.size X1 X3 := hb
    have FC : (SliceN X3 v25 (0) (rwF h (bks key q) q n p)) := hk
    have FCz : (∀ l c, v25 = .slice none l c → c = 0) := hz_
    replace Fg1 := (on9 Fg1 bQ)
    replace BB := BB.trans (bQ.mono BB.size)
    clear bQ
    refine rf_ [(3, v25), (4, .int .i64 ((ex_ : Nat) : Int))] (h1_ t1) ?_
    rintro a A ⟨t3, t4, -⟩ ⟨t1, -⟩
    refine wp_seq ?_
    refine wi_ A (h3_ t1 t3 t4) (rv_ 0 (.agg #[kv, nv, pv]) (fun a ee => execLdJob rfl (ee _) Fg1) (rc_ 1 (fitB h hn n kv nv pv xv lk key q p X3 (hK.on BB) (hN.on BB) (hP.on BB) hh ex_ 0 hee hn0) (cb_ fun X4 bQ => ?_)))
    replace Fg1 := (on9 Fg1 bQ)
    replace FC := (FC.on bQ)
    replace BB := BB.trans (bQ.mono BB.size)
    clear bQ
    refine rf_ [(5, .int .i64 ((ex_ : Nat) : Int))] (h3_ t1 t3 t4) ?_
    rintro a A ⟨t5, -⟩ ⟨t1, t3, t4, -⟩
    refine wp_seq ?_
    refine wp_seq ?_
    refine wi_ A (h4_ t1 t3 t4 t5) (rv_ 1 (.bool true) (fun a ee => execDec (execNeE (p := ex_) (q := 0) rfl (ee _) rfl) (decide_eq_true (by omega))) (rf_ [(31, .bool true)] (h4_ t1 t3 t4 t5) ?_))
    rintro a A ⟨t31, -⟩ ⟨t1, t3, t4, t5, -⟩
    refine wp_cond_true t31 ?_
    clear t31
    refine wp_seq ?_
    refine wi_ A (h4_ t1 t3 t4 t5) (rv_ 2 (.bool true) (fun a ee => execDec (execEqE (p := ex_) (q := ex_) rfl (ee _) (ee _)) (decide_eq_true (by omega))) (rv_ 5 (.int .i64 ((0 : Nat) : Int)) (fun a ee => execLenV (len := 0) rfl (ee _) (shp (FC))) (rv_ 6 (.bool true) (fun a ee => execDec (execEqN (p := 0) (q := 0) rfl (ee _) rfl) (decide_eq_true (by omega))) (rg_ [(2, .bool true)] ?_))))
    rintro a A ⟨t2, -⟩
    refine wp_ret ?_
    repeat (first | with_reducible refine ret_in ?_ | with_reducible refine ret_then ?_)
    refine bodyPost_ret (results_tmp rfl _ _ _) A.2 ⟨?_, BB⟩
    show Ending.returned (a.eval (.tmp 2)) = _
    rw [t2]
end Go.Proofs.YtaiiomoajjhliaaDoor.Rpl
