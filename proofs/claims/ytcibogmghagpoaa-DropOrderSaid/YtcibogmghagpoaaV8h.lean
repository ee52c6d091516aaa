import Derived.Test.YtcibogmghagpoaaV8f
import Derived.Test.YtcibogmghagpoaaP9a
namespace Go.Proofs.Ytcibogmghagpoaa.Dro
open Go.RowKit Gf8 Aes By8 Cel Cf Tap Drw
/- Stage 28: DropOrder. Written by tools/mkV8h.py. -/

open Prm (IsP)
/-- The same counts in another order. -/
theorem mn_perm {p : Nat → Bool} {π : Nat → Nat} {n : Nat} (h : IsP π n) : min (cnt (fun k => p (π k)) n) 2 = min (cnt p n) 2 ∧ (cnt p n = 1 → π (fst_ (fun k => p (π k)) n) = fst_ p n) := by
  have A : cnt p n = 0 → cnt (fun k => p (π k)) n = 0 := fun z => cnt_zero.2 fun k hk => cnt_zero.1 z _ (h.lt k hk)
  have A' : cnt (fun k => p (π k)) n = 0 → cnt p n = 0 := fun z => cnt_zero.2 fun m hm => by
    obtain ⟨k, hk, e⟩ := Prm.surj h m hm
    rw [← e]
    exact cnt_zero.1 z k hk
  have B : cnt p n = 1 → cnt (fun k => p (π k)) n = 1 ∧ π (fst_ (fun k => p (π k)) n) = fst_ p n := fun z => by
    obtain ⟨f1, f2, _⟩ := fst_is (p := p) (n := n) (by omega)
    obtain ⟨k0, hk0, e0⟩ := Prm.surj h _ f1
    have u : ∀ k, k < n → p (π k) = true → k = k0 := fun k hk hp => h.inj k k0 hk hk0 ((cnt_one z (h.lt k hk) hp).trans e0.symm)
    have pos : 0 < cnt (fun k => p (π k)) n := by
      rcases Nat.eq_zero_or_pos (cnt (fun k => p (π k)) n) with q | q
      · have := A' q; omega
      · exact q
    obtain ⟨g1, g2, _⟩ := fst_is pos
    exact ⟨cnt_uniq pos u, by rw [u _ g1 g2]; exact e0⟩
  have B' : cnt (fun k => p (π k)) n = 1 → cnt p n = 1 := fun z => by
    have pos : 0 < cnt p n := by
      rcases Nat.eq_zero_or_pos (cnt p n) with q | q
      · have := A q; omega
      · exact q
    refine cnt_uniq (i := π (fst_ (fun k => p (π k)) n)) pos fun m hm hp => ?_
    obtain ⟨k, hk, e⟩ := Prm.surj h m hm
    subst e
    rw [← cnt_one z hk hp]
  refine ⟨?_, fun z => (B z).2⟩
  by_cases z0 : cnt p n = 0
  · rw [A z0, z0]
  · by_cases z1 : cnt p n = 1
    · rw [(B z1).1, z1]
    · have h0 : cnt (fun k => p (π k)) n ≠ 0 := fun e => z0 (A' e)
      have h1 : cnt (fun k => p (π k)) n ≠ 1 := fun e => z1 (B' e)
      omega
theorem ot_perm {π : Nat → Nat} {n : Nat} (h : IsP π n) {ln : Nat → Nat} {c : Nat → Nat → Nat} {k l : Nat} (hk : k < n) (hl : l < n) : otQ (fun a => ln (π a)) (fun a => c (π a)) k l = otQ ln c (π k) (π l) := by
  unfold otQ
  rw [show decide (l ≠ k) = decide (π l ≠ π k) from decide_eq_decide.2 ⟨fun q e => q (h.inj l k hl hk e), fun q e => q (by rw [e])⟩]
theorem x_perm {π : Nat → Nat} {n : Nat} (h : IsP π n) {ln : Nat → Nat} {c : Nat → Nat → Nat} {k : Nat} (hk : k < n) : xL n (fun a => ln (π a)) (fun a => c (π a)) k = xL n ln c (π k) ∧ ∀ j, j < xL n ln c (π k) → xF n (fun a => ln (π a)) (fun a => c (π a)) k j = xF n ln c (π k) j := by
  obtain ⟨q1, q2⟩ := mn_perm (p := otQ ln c (π k)) h
  have ek : kdF n (fun a => ln (π a)) (fun a => c (π a)) k = kdF n ln c (π k) := by
    unfold kdF
    rw [cnt_cg fun l hl => ot_perm h hk hl, q1]
  have ep : kdF n ln c (π k) = 1 → π (paF n (fun a => ln (π a)) (fun a => c (π a)) k) = paF n ln c (π k) := fun z => by
    unfold paF
    rw [fst_cg fun l hl => ot_perm h hk hl]
    exact q2 (met z).2.1
  constructor
  · unfold xL
    rw [ek]
    by_cases z : kdF n ln c (π k) = 1
    · rw [if_pos z, if_pos z]; exact congrArg (fun q => 1 + (ln q - 8)) (ep z)
    · rw [if_neg z, if_neg z]
  · intro j hj
    unfold xF
    by_cases z : j = 0
    · rw [if_pos z, if_pos z, ek]
    · rw [if_neg z, if_neg z]
      by_cases y : kdF n ln c (π k) = 1
      · exact congrArg (fun q => c q (8 + (j - 1))) (ep y)
      · unfold xL at hj; rw [if_neg y] at hj; omega
/-- What is picked and what is left. -/
structure Od (n i : Nat) (lf p : Nat → Nat) : Prop where
  l : ∀ a, a < n - i → lf a < n
  o : ∀ a, a < i → p a < n
  li : ∀ a b, a < n - i → b < n - i → lf a = lf b → a = b
  oi : ∀ a b, a < i → b < i → p a = p b → a = b
  ol : ∀ a b, a < i → b < n - i → p a ≠ lf b
theorem Od.start (n : Nat) : Od n 0 (fun j => j) id := ⟨fun a h => by omega, fun a h => by omega, fun a b _ _ e => e, fun a b h => by omega, fun a b h => by omega⟩
theorem Od.cg {n i : Nat} {lf p p2 : Nat → Nat} (h : Od n i lf p) (e : ∀ j, j < i → p j = p2 j) : Od n i lf p2 := ⟨h.l, fun a ha => by rw [← e a ha]; exact h.o a ha, h.li, fun a b ha hb q => h.oi a b ha hb (by rw [e a ha, e b hb]; exact q), fun a b ha hb q => h.ol a b ha hb (by rw [e a ha]; exact q)⟩
theorem Od.next {n i k : Nat} {lf p : Nat → Nat} (h : Od n i lf p) (hk : k < n - i) : Od n (i + 1) (fun j => if j < k then lf j else lf (j + 1)) (fun j => if j = i then lf k else p j) := by
  have key : ∀ a, a < n - (i + 1) → ∃ b, b < n - i ∧ b ≠ k ∧ (if a < k then lf a else lf (a + 1)) = lf b ∧ (a < k → b = a) ∧ (¬ a < k → b = a + 1) := fun a ha => by
    by_cases q : a < k
    · exact ⟨a, by omega, by omega, if_pos q, fun _ => rfl, fun z => absurd q z⟩
    · exact ⟨a + 1, by omega, by omega, if_neg q, fun z => absurd z q, fun _ => rfl⟩
  refine ⟨fun a ha => ?_, fun a ha => ?_, fun a b ha hb e => ?_, fun a b ha hb e => ?_, fun a b ha hb e => ?_⟩
  · obtain ⟨b, hb, _, e, _⟩ := key a ha
    show (if a < k then lf a else lf (a + 1)) < n
    rw [e]
    exact h.l b hb
  · show (if a = i then lf k else p a) < n
    by_cases q : a = i
    · rw [if_pos q]; exact h.l k hk
    · rw [if_neg q]; exact h.o a (by omega)
  · obtain ⟨a', ha', _, ea, a1, a2⟩ := key a ha
    obtain ⟨b', hb', _, eb, b1, b2⟩ := key b hb
    have e2 : (if a < k then lf a else lf (a + 1)) = (if b < k then lf b else lf (b + 1)) := e
    rw [ea, eb] at e2
    have := h.li a' b' ha' hb' e2
    by_cases qa : a < k
    · by_cases qb : b < k
      · have := a1 qa; have := b1 qb; omega
      · have := a1 qa; have := b2 qb; omega
    · by_cases qb : b < k
      · have := a2 qa; have := b1 qb; omega
      · have := a2 qa; have := b2 qb; omega
  · have e2 : (if a = i then lf k else p a) = (if b = i then lf k else p b) := e
    by_cases qa : a = i
    · by_cases qb : b = i
      · omega
      · rw [if_pos qa, if_neg qb] at e2
        exact absurd e2.symm (h.ol b k (by omega) hk)
    · by_cases qb : b = i
      · rw [if_neg qa, if_pos qb] at e2
        exact absurd e2 (h.ol a k (by omega) hk)
      · rw [if_neg qa, if_neg qb] at e2
        exact h.oi a b (by omega) (by omega) e2
  · obtain ⟨b', hb', nb, eb, _⟩ := key b hb
    have e2 : (if a = i then lf k else p a) = (if b < k then lf b else lf (b + 1)) := e
    rw [eb] at e2
    by_cases qa : a = i
    · rw [if_pos qa] at e2
      exact nb (h.li k b' hk hb' e2).symm
    · rw [if_neg qa] at e2
      exact h.ol a b' (by omega) hb' e2
theorem Od.isP {n : Nat} {lf p : Nat → Nat} (h : Od n n lf p) : IsP p n := ⟨h.o, h.oi⟩
theorem extN (p : Nat → Nat) (m z : Nat) : ∃ g : Nat → Nat, g m = z ∧ ∀ l, l < m → p l = g l := ⟨fun l => if l = m then z else p l, if_pos rfl, fun l hl => (if_neg (by omega)).symm⟩
theorem del_nat (f : Nat → Nat) (k j : Nat) : catI k (fun j => ((f j : Nat) : Int)) (fun j => ((f (k + 1 + j) : Nat) : Int)) j = (((if j < k then f j else f (j + 1)) : Nat) : Int) := by
  unfold catI
  by_cases h : j < k
  · rw [if_pos h, if_pos h]
  · rw [if_neg h]; show ((f (k + 1 + (j - k)) : Nat) : Int) = _; rw [if_neg h, show k + 1 + (j - k) = j + 1 by omega]
/-- The law's place. -/
def plc28 (i : Int) (n : Nat) : Nat := (if i < 0 then -(i + 1) else i).toNat % n
theorem place28 (i : Int) (n : Nat) (V : World) (h1 : -9223372036854775808 ≤ i) (h2 : i < 9223372036854775808) (hn : 0 < n) (hm : n < 9223372036854775808) :
    Calls Try.prog 21 #[.int .i64 i, .int .i64 (n : Int)] V fun e w' => e = .returned (.int .i64 ((plc28 i n : Nat) : Int)) ∧ Below V.heap.size V w' := by
  have n1 : (n : Int) < 9223372036854775808 := by omega
  have n0 : (n : Int) ≠ 0 := by omega
  have HN : Hid (0 < n) := hn
  clear hn hm
  by_cases h0 : i < 0
  · obtain ⟨k, hk⟩ : ∃ k : Nat, -(i + 1) = k := ⟨(-(i + 1)).toNat, by omega⟩
    have k1 : (k : Int) < 9223372036854775808 := by omega
    have ep : plc28 i n = k % n := by unfold plc28; rw [if_pos h0, hk]; simp
    have HK : Hid (_) := hk
    have EP : Hid (_) := ep
    clear ep
    go_enter Try.func21, Try.ntmps21
    go_wp2
    go_ret
    rw [EP.out]
    exact ⟨rfl, Below.refl _ _⟩
  · obtain ⟨k, rfl⟩ : ∃ k : Nat, i = k := ⟨i.toNat, by omega⟩
    have ep : plc28 (k : Int) n = k % n := by unfold plc28; rw [if_neg h0]; simp
    have EP : Hid (_) := ep
    clear ep
    go_enter Try.func21, Try.ntmps21
    go_wp2
    go_ret
    rw [EP.out]
    exact ⟨rfl, Below.refl _ _⟩
theorem execSlLg {o : Oper} {a : Act} {w : World} {x l : Operand} {ty : TypeId} {v vl r : Value} (ho : o.op = .slice ty x (some l) none none) (hx : a.eval x = v) (hl : a.eval l = vl)
    (hr : (Instr.sliceAt ty v (some vl) none none).run Try.prog w = .ok r w) : (execOp a.eval o).run Try.prog w = .ok (.value r) w := by
  unfold execOp
  simp only [ho, hx, hl, Option.map_some, Option.map_none, Sem.run_bind, hr, Result.andThen_ok, Sem.run_pure]
theorem sl_lIg (g len cap l : Nat) (h1 : l ≤ len) (W : World) : (Instr.sliceAt 43 (.slice (some ⟨g, 0, none⟩) len cap) (some (.int .i64 (l : Int))) none none).run Try.prog W = .ok (sliced (some ⟨g, 0, none⟩) l len cap 1) W := by
  have e1 : (l : Int) ≤ len := by omega
  obtain ⟨i, i1, _, i3, _⟩ := infoI
  simp [Instr.sliceAt, Instr.slice, run_underlying Try.underlying43, Instr.sliceBounds, run_sliceBound, sliced, h1, sizeOf, typeInfo, i1, i3]
theorem subI {w : World} {a : Option Addr} {len cap : Nat} {p : Nat → Int} (hv : SliceI w (.slice a len cap) len p) (l h : Nat) (h1 : l ≤ h) (h2 : h ≤ len) :
    SliceI w (sliced a l h cap 1) (h - l) (fun j => p (l + j)) := by
  obtain ⟨⟨a', cap', e, e1, e2, e3⟩, hp⟩ := hv
  obtain ⟨rfl, _, rfl⟩ : a = a' ∧ len = len ∧ cap = cap' := by
    injection e with x y z
    exact ⟨x, rfl, z⟩
  refine ⟨⟨_, cap - l, rfl, by omega, by omega, fun h0 => ?_⟩, fun j hj => hp (l + j) (by omega)⟩
  obtain ⟨b, off, rfl, hb, hc⟩ := e3 (by omega)
  rw [if_neg (by omega)]
  refine ⟨b, off + l, ?_, hb, fun j hj => ?_⟩
  · simp [Addr.add]
  · rw [Nat.add_assoc]; exact hc (l + j) (by omega)
theorem stepAppD {ops : Array Oper} {Q : Exit → Act → World → Prop} {K : Act → World → Prop} {j : Nat} {o : Oper} {a : Act} {W : World} {s x : Operand} {B i m g c N : Nat} {u : Value} {f q F : Nat → Int} (hos : ops[j]? = some o) (hgd : Region.wanted o (yielded ops a.tmps) = true)
    (ho : o.op = .call { callee := .builtin .append, args := #[s, x], argTypes := #[43, 43] }) (hs : a.eval s = .slice (some ⟨g, 0, none⟩) i c) (hx : a.eval x = u) (hown : W.ownsRow B 3 1 (.slice (some ⟨g, 0, none⟩) i c) i (intsL i f)) (hu : SliceI W u m q) (hsome : ∃ ad c', u = .slice (some ad) m c')
    (hN : i + m = N) (hroom : N ≤ c) (hn : N ≤ 17592186044416) (hF : ∀ j, j < N → catI i f q j = F j) (hB : B ≤ W.heap.size)
    (hK : ∀ W', W'.ownsRow B 3 1 (.slice (some ⟨g, 0, none⟩) N c) N (intsL N F) → W.grownBy W' (some g) → K (a.put o.dst (.slice (some ⟨g, 0, none⟩) N c)) W') : wpOp Try.prog ops Q j K a W := by
  subst hN
  obtain ⟨t, i1, i2, i3, i4⟩ := infoI
  obtain ⟨ad, c', rfl⟩ := hsome
  obtain ⟨⟨ao, cap, e, _, _, hc⟩, _⟩ := hu
  injection e with ea _ _
  subst ea
  have hnews : ∀ j z, (intsL m q)[j]? = some z → W.cell? (ad.add j) = some z := fun j z hz => by
    have hj : j < m := by have := (List.getElem?_eq_some_iff.1 hz).1; rw [intsL_len] at this; exact this
    obtain ⟨b, off, e, _, e3⟩ := hc (by omega)
    obtain rfl : ad = ⟨b, off, none⟩ := Option.some.inj e
    rw [Go.WideShapes.add_plain, e3 j hj]
    rw [intsL_get hj] at hz
    exact hz
  obtain ⟨v', W', run, q1, q2⟩ := execAppO (W := W) (m := m) (c := c') (ad := ad) (news := intsL m q) ho Try.underlying43 i1 i2 i3 i4 rfl (by decide) hs hown hx (by rw [intsL_len, Nat.mul_one]) hnews (intsL_one _ _) (by unfold maxLen; omega) (by omega) hB
  have hown2 := hown.2
  rcases hown2 with ⟨e, _⟩ | ⟨g', cap', cur, e, _, hg', hnc, hcm, hcs, _⟩
  · cases e
  · injection e with e1 e2 e3
    injection e1 with e1
    injection e1 with e1 _ _
    subst e1
    subst e3
    obtain ⟨W2, hr⟩ : ∃ W2, (Builtin.append_ #[43, 43] o.type #[.slice (some ⟨g, 0, none⟩) i c, .slice (some ad) m c']).run Try.prog W = .ok (.slice (some ⟨g, 0, none⟩) (i + m) c) W2 := ⟨_, run_append_room (P := Try.prog) W 43 o.type 3 t Try.underlying43 i1 g i c cur hg' ad m c' (intsL m q) (by rw [intsL_len, i3, Nat.mul_one]) hnews (intsL_one _ _) hroom (by rw [hcs, i3, intsL_len]; omega)⟩
    have r3 : (execOp a.eval o).run Try.prog W = .ok (.value (.slice (some ⟨g, 0, none⟩) (i + m) c)) W2 := by
      unfold execOp
      simp only [ho, resolve, invoke, builtin, Sem.run_bind, Sem.run_pure, Result.andThen_ok, List.map_toArray, List.map_cons, List.map_nil, hs, hx, hr]
    have r4 := run.symm.trans r3
    injection r4 with e1 e2
    injection e1 with e1
    subst e1
    rw [intsL_app, intsL_congr hF] at q1
    exact stepV hos hgd run (hK W' q1 q2)
theorem own_pre {W : World} {B n g c k : Nat} {f : Nat → Int} (h : W.ownsRow B 3 1 (.slice (some ⟨g, 0, none⟩) n c) n (intsL n f)) (hk : k ≤ n) : W.ownsRow B 3 1 (.slice (some ⟨g, 0, none⟩) k c) k (intsL k f) := by
  refine ⟨by rw [intsL_len, Nat.mul_one], ?_⟩
  rcases h.2 with ⟨e, _⟩ | ⟨g', cap', cur, e, hB, hg, h1, h2, h3, h4⟩
  · cases e
  · injection e with e1 e2 e3
    injection e1 with e1
    injection e1 with e1 _ _
    subst e1
    subst e3
    refine Or.inr ⟨g, c, cur, rfl, hB, hg, by omega, h2, h3, ?_⟩
    apply List.ext_getElem?
    intro j
    by_cases hj : j < k
    · have e : (List.take (n * 1) cur.toList)[j]? = (intsL n f)[j]? := congrArg (fun l => l[j]?) h4
      rw [List.getElem?_take_of_lt (by omega), intsL_get (by omega)] at e
      rw [List.getElem?_take_of_lt (by omega), e, intsL_get hj]
    · rw [List.getElem?_eq_none (by simp; omega), List.getElem?_eq_none (by rw [intsL_len]; omega)]
theorem sl_some (A : Addr) (l h m : Nat) : ∃ ad c', sliced (some A) l h m 1 = .slice (some ad) (h - l) c' := by
  unfold sliced
  by_cases q : m = l
  · rw [if_pos q]; exact ⟨_, _, rfl⟩
  · rw [if_neg q]; exact ⟨_, _, rfl⟩
theorem alloc_sz (W : World) (o : Obj) : W.heap.size + 1 ≤ (W.alloc o).heap.size := by unfold World.alloc; simp
theorem set_sz (W : World) (b k : Nat) (v : Value) : W.heap.size ≤ (W.setCell ⟨b, k, none⟩ v).heap.size := ((Below.refl 0 W).setCell (Nat.zero_le _) v).size
theorem fill28 {W : World} {B n g c i : Nat} (h : W.ownsRow B 3 1 (.slice (some ⟨g, 0, none⟩) n c) n (intsL n fun j => if j < i then ((j : Nat) : Int) else 0)) : (W.setCell ⟨g, 0 + i, none⟩ (.int .i64 ((i : Nat) : Int))).ownsRow B 3 1 (.slice (some ⟨g, 0, none⟩) n c) n (intsL n fun j => if j < (i + 1) then ((j : Nat) : Int) else 0) := by
  have q := own_setF (k := i) ((i : Nat) : Int) h
  rw [intsL_congr (g := fun j => if j < (i + 1) then ((j : Nat) : Int) else 0) (fun j _ => ?_)] at q
  · exact q
  · by_cases e : j = i
    · subst e; rw [if_pos rfl, if_pos (by omega)]
    · rw [if_neg e]
      by_cases e2 : j < i
      · rw [if_pos e2, if_pos (by omega)]
      · rw [if_neg e2, if_neg (by omega)]
theorem ne_after {W : World} {n g c m : Nat} {v : Value} {xs : List Value} (h : W.ownsRow (g + 1) 3 1 v m xs) : ∀ k, (Value.slice (some ⟨g, 0, none⟩) n c).ownBlock = some k → v.ownBlock ≠ some k := fun k hk e => by
  have := (h.lt k e).1
  simp [Value.ownBlock] at hk
  omega
theorem ls_of {B n : Nat} {W : World} {v : Value} {y : Nat → Value} {ln : Nat → Nat} {f : Nat → Nat → Nat} (h : W.ownsRow B 23 1 v n (lL y n)) (hc : ∀ a, a < n → SliceN W (y a) (ln a) (f a)) (hz : ∀ a, a < n → ∀ l c, y a = .slice none l c → c = 0) (hl : ∀ a, a < n → ln a ≤ 140737488351232) : Ls W v n y ln f := by
  refine ⟨?_, hc, hz, hl⟩
  rcases h.2 with ⟨rfl, e⟩ | ⟨g, cap, cur, rfl, h1, h2, h3, h4, h5, h6⟩
  · refine ⟨none, 0, ?_, ?_, by omega, fun q => ?_⟩
    · cases n with
      | zero => rfl
      | succ n => simp at e
    · cases n with
      | zero => exact Nat.le_refl _
      | succ n => simp at e
    · cases n with
      | zero => omega
      | succ n => simp at e
  · refine ⟨_, cap, rfl, h3, by unfold maxLen at h4; omega, fun _ => ⟨g, 0, rfl, (Array.getElem?_eq_some_iff.1 h2).1, fun i hi => ?_⟩⟩
    have := h.cells (g := g) rfl i (y i) (lL_get y n i hi)
    rw [Go.WideShapes.add_plain] at this
    exact this
set_option maxRecDepth 100000 in
set_option maxHeartbeats 4000000 in
/-- DropOrder. -/
theorem order28 (I : Impl) (n m : Nat) (cv mv : Value) (xv : Nat → Value) (ln : Nat → Nat) (c : Nat → Nat → Nat) (f : Nat → Int) (V : World) (hL : Ls V cv n xv ln c) (hM : SliceI V mv m f) :
    Calls Try.prog 6 #[cv, mv] V fun e w' => e = .returned (.bool true) ∧ Below V.heap.size V w' := by
  go_enter Try.func6, Try.ntmps6
  refine wo_ 114 [(0, cv), (1, mv)] ?_
  rintro a A ⟨t0, t1, -⟩
  have BW : Below V.heap.size V V := Below.refl _ _
  have BB := BW
  refine wp_seq ?_
  refine wi_ A (h2_ t0 t1) (rf_ [] (h2_ t0 t1) ?_)
  rintro a A - ⟨t0, t1, -⟩
  refine wp_seq ?_
  refine wp_seq ?_
  refine wi_ A (h2_ t0 t1) (rc_ 0 (awake28 I V) (cb_ fun X1 bQ => ?_))
  replace BB := BB.trans (bQ.mono BB.size)
  clear bQ
  refine rv_ 1 (.bool false) (fun a ee => execNot8 (b := true) rfl (ee _)) (rf_ [(18, .bool false)] (h2_ t0 t1) ?_)
  rintro a A ⟨t18, -⟩ ⟨t0, t1, -⟩
  refine wp_cond_false t18 ?_
  refine wp_skip ?_
  clear t18
  refine wp_seq ?_
  refine wp_seq ?_
  refine wi_ A (h2_ t0 t1) (rc_ 1 (great28 n _ xv ln c X1 (hL.on BB)) fun e X3 hh => ?_)
  obtain ⟨⟨b15, he, hk⟩, hb⟩ := hh
  refine ⟨_, he, ?_⟩
  have bQ : Below X1.heap.size X1 X3 := hb
  have FG : (b15 = false → n ≤ 2048 ∧ ∀ i, i < n → ln i ≤ 1048576) := hk
  replace BB := BB.trans (bQ.mono BB.size)
  clear bQ
  refine rf_ [(20, .bool b15)] (h2_ t0 t1) ?_
  rintro a A ⟨t20, -⟩ ⟨t0, t1, -⟩
  cases b15
  · refine wp_cond_false t20 ?_
    refine wp_skip ?_
    clear t20
    obtain ⟨hn, hln⟩ := FG rfl
    clear FG
    refine wp_seq ?_
    obtain ⟨gl, eggl⟩ : ∃ z_ : Nat, X3.heap.size = z_ := ⟨_, rfl⟩
    refine wi_ A (h2_ t0 t1) (rv_ 1 (.int .i64 ((n : Nat) : Int)) (fun a ee => execLenLL rfl (ee _) (hL.on BB).shp) (rs_ 2 (fun a ee => ?_)))
    refine stepV rfl rfl (execMkN (n := n) rfl (ee _) (ee _) (by omega)) ⟨.slice (some ⟨gl, 0, none⟩) n n, ⟨_, rfl, by subst eggl; rfl⟩, fun X5 hX => ?_⟩
    have bQ : Below X3.heap.size X3 X5 := by subst hX eggl; exact (belNew X3 _)
    have FL : (X5.ownsRow (V.heap.size) 3 1 (.slice (some ⟨gl, 0, none⟩) n n) (n) (intsL (n) (fun j => if j < 0 then ((j : Nat) : Int) else 0))) := by subst hX eggl; exact ownD_base (own_mkZ X3 n _ (by omega) (fun j _ => if_neg (by omega))) (BB).size
    have FV : (V.heap.size ≤ gl) := by subst hX eggl; exact (BB).size
    have FZ : (gl + 1 ≤ X5.heap.size) := by subst hX eggl; exact alloc_sz X3 _
    replace BB := BB.trans (bQ.mono BB.size)
    clear bQ hX eggl ee a
    refine rf_ [(5, .slice (some ⟨gl, 0, none⟩) n n)] (h2_ t0 t1) ?_
    rintro a A ⟨t5, -⟩ ⟨t0, t1, -⟩
    refine wp_seq ?_
    refine wp_seq ?_
    refine wi_ A (h3_ t0 t1 t5) (rv_ 1 (.int .i64 ((n : Nat) : Int)) (fun a ee => execLenI (len := n) rfl (ee _) ⟨_, _, rfl⟩) (rf_ [(25, .int .i64 ((n : Nat) : Int)), (26, .int .i64 ((0 : Nat) : Int))] (h3_ t0 t1 t5) ?_))
    rintro a A ⟨t25, t26, -⟩ ⟨t0, t1, t5, -⟩
    refine wp_block ?_
    refine wp_loop (fun a W => ∃ (i : Nat), i ≤ n ∧ (a.tmps.size = 114 ∧ a.defers = []) ∧ a.eval (.tmp 0) = cv ∧ a.eval (.tmp 1) = mv ∧ a.eval (.tmp 5) = .slice (some ⟨gl, 0, none⟩) n n ∧ a.eval (.tmp 25) = .int .i64 ((n : Nat) : Int) ∧ a.eval (.tmp 26) = .int .i64 ((i : Nat) : Int) ∧ Below V.heap.size V W ∧ (W.ownsRow (V.heap.size) 3 1 (.slice (some ⟨gl, 0, none⟩) n n) (n) (intsL (n) (fun j => if j < i then ((j : Nat) : Int) else 0))) ∧ (gl + 1 ≤ W.heap.size)) (fun a _ => n - (intOf (a.eval (.tmp 26))).toNat) ⟨0, Nat.zero_le _, A, t0, t1, t5, t25, t26, BB, FL, FZ⟩ ?_
    clear A t0 t1 t5 t25 t26 BB FL FZ a
    rintro a XL7 ⟨i, hi, A, t0, t1, t5, t25, t26, BB, FL, FZ⟩
    have esi := t26
    refine wp_seq ?_
    refine wi_ A (h5_ t0 t1 t5 t25 t26) (rv_ 0 (.bool (decide (i < n))) (fun a ee => execLtW (p := i) (q := n) rfl (ee _) (ee _)) (rf_ [(27, .bool (decide (i < n)))] (h5_ t0 t1 t5 t25 t26) ?_))
    rintro a A ⟨t27, -⟩ ⟨t0, t1, t5, t25, t26, -⟩
    refine wp_seq ?_
    by_cases lti : i < n
    · rw [decide_eq_true lti] at t27
      refine wp_cond_true t27 ?_
      refine wp_skip ?_
      clear t27
      refine wp_seq ?_
      refine wp_block ?_
      refine wp_seq ?_
      refine wi_ A (h5_ t0 t1 t5 t25 t26) (rf_ [(6, .int .i64 ((i : Nat) : Int))] (h5_ t0 t1 t5 t25 t26) ?_)
      rintro a A ⟨t6, -⟩ ⟨t0, t1, t5, t25, t26, -⟩
      refine wi_ A (h6_ t0 t1 t5 t6 t25 t26) (rv_ 3 (.pointer (some ⟨gl, 0 + i, none⟩)) (fun a ee => execIdxN (k := i) rfl (ee _) (ee _) lti) (rs_ 4 (fun a ee => ?_)))
      obtain ⟨hc_, hf_⟩ := own_cellI FL lti
      refine stepS rfl rfl (execStI9 rfl (ee _) (ee _) hc_ hf_) ⟨_, ⟨_, rfl, rfl⟩, fun X9 hX => ?_⟩
      obtain ⟨BB, FZ, FL2⟩ : Below V.heap.size V X9 ∧ (gl + 1 ≤ X9.heap.size) ∧ (X9.ownsRow (V.heap.size) 3 1 (.slice (some ⟨gl, 0, none⟩) n n) (n) (intsL (n) (fun j => if j < (i + 1) then ((j : Nat) : Int) else 0))) := by subst hX; exact ⟨(BB).setCell FV _, (Nat.le_trans FZ (set_sz _ _ _ _)), (fill28 FL)⟩
      clear FL hX ee a
      refine rf_ [] (h5_ t0 t1 t5 t25 t26) ?_
      rintro a A - ⟨t0, t1, t5, t25, t26, -⟩
      refine wi_ A (h5_ t0 t1 t5 t25 t26) (rv_ 0 (.int .i64 ((i + 1 : Nat) : Int)) (fun a ee => execAd8 (p := i) (q := 1) rfl (ee _) rfl (by omega)) (rf_ [(26, .int .i64 ((i + 1 : Nat) : Int))] (h4_ t0 t1 t5 t25) ?_))
      rintro a A ⟨t26, -⟩ ⟨t0, t1, t5, t25, -⟩
      exact ⟨⟨i + 1, lti, A, t0, t1, t5, t25, t26, BB, FL2, FZ⟩, by show n - (intOf (a.eval (.tmp 26))).toNat < n - (intOf (Act.eval _ (.tmp 26))).toNat; rw [t26, esi]; show n - (i + 1) < n - i; omega⟩
    · rw [decide_eq_false lti] at t27
      refine wp_cond_false t27 ?_
      refine wp_exit ?_
      first | with_reducible refine exit_in ?_ | with_reducible refine exit_then (exit_in ?_) | with_reducible refine exit_then (exit_then (exit_in ?_)) | refine exit_in ?_ | refine exit_then (exit_in ?_) | refine exit_then (exit_then (exit_in ?_))
      clear t27 esi
      clear t25 t26
      have ein : i = n := (by omega)
      rw [ein, intsL_congr (g := fun j => ((j : Nat) : Int)) (fun j hj => if_pos hj)] at FL
      refine wp_seq ?_
      refine wi_ A (h3_ t0 t1 t5) (rf_ [(7, .slice none 0 0)] (h3_ t0 t1 t5) ?_)
      rintro a A ⟨t7, -⟩ ⟨t0, t1, t5, -⟩
      refine wp_seq ?_
      refine wp_seq ?_
      refine wi_ A (h4_ t0 t1 t5 t7) (rv_ 1 (.int .i64 ((n : Nat) : Int)) (fun a ee => execLenLL rfl (ee _) (hL.on BB).shp) (rf_ [(35, .int .i64 ((n : Nat) : Int)), (36, .int .i64 ((0 : Nat) : Int))] (h4_ t0 t1 t5 t7) ?_))
      rintro a A ⟨t35, t36, -⟩ ⟨t0, t1, t5, t7, -⟩
      have FO : (XL7.ownsRow (gl + 1) 3 1 (.slice none 0 0) (0) (intsL (0) (fun j => ((id j : Nat) : Int)))) := World.ownsRow_nil _ _ _ _
      refine wp_block ?_
      refine wp_loop (fun a W => ∃ (a_ : Nat) (lf : Nat → Nat) (p : Nat → Nat) (u : Value), a_ ≤ n ∧ (Od n a_ lf p) ∧ (a.tmps.size = 114 ∧ a.defers = []) ∧ a.eval (.tmp 0) = cv ∧ a.eval (.tmp 1) = mv ∧ a.eval (.tmp 5) = .slice (some ⟨gl, 0, none⟩) (n - a_) n ∧ a.eval (.tmp 7) = u ∧ a.eval (.tmp 35) = .int .i64 ((n : Nat) : Int) ∧ a.eval (.tmp 36) = .int .i64 ((a_ : Nat) : Int) ∧ Below V.heap.size V W ∧ (W.ownsRow (V.heap.size) 3 1 (.slice (some ⟨gl, 0, none⟩) (n - a_) n) (n - a_) (intsL (n - a_) (fun j => ((lf j : Nat) : Int)))) ∧ (W.ownsRow (gl + 1) 3 1 u (a_) (intsL (a_) (fun j => ((p j : Nat) : Int)))) ∧ (gl + 1 ≤ W.heap.size)) (fun a _ => n - (intOf (a.eval (.tmp 36))).toNat) ⟨0, fun j => j, id, .slice none 0 0, Nat.zero_le _, Od.start n, A, t0, t1, t5, t7, t35, t36, BB, FL, FO, FZ⟩ ?_
      clear A t0 t1 t5 t7 t35 t36 BB FL FO FZ a
      rintro a XL13 ⟨a_, lf, p, u, ha_, OD, A, t0, t1, t5, t7, t35, t36, BB, FL, FO, FZ⟩
      have esa_ := t36
      refine wp_seq ?_
      refine wi_ A (h6_ t0 t1 t5 t7 t35 t36) (rv_ 0 (.bool (decide (a_ < n))) (fun a ee => execLtW (p := a_) (q := n) rfl (ee _) (ee _)) (rf_ [(37, .bool (decide (a_ < n)))] (h6_ t0 t1 t5 t7 t35 t36) ?_))
      rintro a A ⟨t37, -⟩ ⟨t0, t1, t5, t7, t35, t36, -⟩
      refine wp_seq ?_
      by_cases lta_ : a_ < n
      · rw [decide_eq_true lta_] at t37
        refine wp_cond_true t37 ?_
        refine wp_skip ?_
        clear t37
        refine wp_seq ?_
        refine wp_block ?_
        refine wp_seq ?_
        refine wi_ A (h6_ t0 t1 t5 t7 t35 t36) (rf_ [(8, .int .i64 ((a_ : Nat) : Int))] (h6_ t0 t1 t5 t7 t35 t36) ?_)
        rintro a A ⟨t8, -⟩ ⟨t0, t1, t5, t7, t35, t36, -⟩
        refine wp_seq ?_
        refine wi_ A (h7_ t0 t1 t5 t7 t35 t36 t8) (rf_ [(9, .int .i64 ((0 : Nat) : Int))] (h7_ t0 t1 t5 t7 t35 t36 t8) ?_)
        rintro a A ⟨t9, -⟩ ⟨t0, t1, t5, t7, t35, t36, t8, -⟩
        refine wp_seq ?_
        refine wp_seq ?_
        by_cases hma : a_ < m
        · refine wi_ A (h8_ t0 t1 t5 t7 t35 t36 t8 t9) (rv_ 2 (.int .i64 ((m : Nat) : Int)) (fun a ee => execLenI (len := m) rfl (ee _) (hM.on BB).shp) (rv_ 3 (.bool true) (fun a ee => execDec (execLtW (p := a_) (q := m) rfl (ee _) (ee _)) (decide_eq_true (by omega))) (rf_ [(42, .bool true)] (h8_ t0 t1 t5 t7 t35 t36 t8 t9) ?_)))
          rintro a A ⟨t42, -⟩ ⟨t0, t1, t5, t7, t35, t36, t8, t9, -⟩
          refine wp_cond_true t42 ?_
          clear t42
          refine wi_ A (h8_ t0 t1 t5 t7 t35 t36 t8 t9) (rv_ 2 (.pointer (some ⟨adB mv, adO mv + a_, none⟩)) (fun a ee => execIdxIb (k := a_) (hM.on BB) rfl (ee _) (ee _) hma) (rv_ 3 (.int .i64 (f a_)) (fun a ee => execLdIb (k := a_) (hM.on BB) rfl (ee _) hma) (rv_ 5 (.int .i64 ((n - a_ : Nat) : Int)) (fun a ee => execLenI (len := n - a_) rfl (ee _) ⟨_, _, rfl⟩) (rc_ 6 (place28 (f a_) (n - a_) XL13 (hM.fits a_ hma).1 (hM.fits a_ hma).2 (by omega) (by omega)) (cb_ fun X17 bQ => ?_)))))
          replace FL := (ownD_below FL bQ)
          replace FO := (ownD_below FO bQ)
          replace FZ := (Nat.le_trans FZ bQ.size)
          replace BB := BB.trans (bQ.mono BB.size)
          clear bQ
          refine rf_ [(9, .int .i64 ((plc28 (f a_) (n - a_) : Nat) : Int))] (h6_ t0 t1 t5 t7 t35 t36) ?_
          rintro a A ⟨t9, -⟩ ⟨t0, t1, t5, t7, t35, t36, -⟩
          obtain ⟨kk, ekk⟩ : ∃ kk, plc28 (f a_) (n - a_) = kk := ⟨_, rfl⟩
          have hkk : kk < n - a_ := by rw [← ekk]; exact Nat.mod_lt _ (by omega)
          rw [ekk] at t9
          obtain ⟨p2, hp2, hp3⟩ := extN p a_ (lf kk)
          rw [intsL_congr (g := fun j => ((p2 j : Nat) : Int)) (fun j hj => by show ((p j : Nat) : Int) = _; rw [hp3 j hj])] at FO
          refine wp_seq ?_
          obtain ⟨g55, egg55⟩ : ∃ z_ : Nat, X17.heap.size = z_ := ⟨_, rfl⟩
          refine wi_ A (h7_ t0 t1 t5 t7 t35 t36 t9) (rv_ 3 (.pointer (some ⟨gl, 0 + kk, none⟩)) (fun a ee => execIdxN (k := kk) rfl (ee _) (ee _) hkk) (rv_ 4 (.int .i64 ((lf kk : Nat) : Int)) (fun a ee => execLd3 rfl (ee _) (own_cellI FL hkk).1) (rs_ 5 (fun a ee => ?_))))
          refine stepV rfl rfl (execBsI (z := (fun j => ((p2 j : Nat) : Int)) a_) rfl ((ee _).trans (congrArg (fun q => Value.int .i64 ((q : Nat) : Int)) hp2.symm))) ⟨.slice (some ⟨g55, 0, none⟩) 1 1, ⟨_, rfl, by subst egg55; rfl⟩, fun X18_1 hX => ?_⟩
          have bQ : Below X17.heap.size X17 X18_1 := by subst hX egg55; exact (belNew X17 _)
          have Fg55 : (X18_1.heap[g55]? = some (.cells #[.int .i64 ((fun j => ((p2 j : Nat) : Int)) a_)] 3)) := by subst hX egg55; exact heapNew X17 _
          replace FL := (ownD_below FL bQ)
          replace FO := (ownD_below FO bQ)
          replace FZ := (Nat.le_trans FZ bQ.size)
          replace BB := BB.trans (bQ.mono BB.size)
          clear bQ hX egg55 ee a
          refine rs_ 6 (fun a ee => ?_)
          refine stepAppI (f := fun j => ((p2 j : Nat) : Int)) rfl rfl rfl (ee _) (ee _) FO Fg55 (by omega) FZ fun v56 X18 own' gr => ⟨_, ⟨_, rfl, rfl⟩, eqw ?_⟩
          obtain ⟨BB, FL, FZ, FO2⟩ : Below V.heap.size V X18 ∧ (X18.ownsRow (V.heap.size) 3 1 (.slice (some ⟨gl, 0, none⟩) (n - a_) n) (n - a_) (intsL (n - a_) (fun j => ((lf j : Nat) : Int)))) ∧ (gl + 1 ≤ X18.heap.size) ∧ (X18.ownsRow (gl + 1) 3 1 (v56) (a_ + 1) (intsL (a_ + 1) (fun j => ((p2 j : Nat) : Int)))) := ⟨(BB).grown gr (BB).size (fun k hk => Nat.le_trans FV (Nat.le_of_succ_le (FO.lt k hk).1)), (ownW_grown FL gr (ne_after FO)), (Nat.le_trans FZ gr.size), own'⟩
          clear FO Fg55 ee a
          refine rf_ [(7, v56)] (h6_ t0 t1 t5 t9 t35 t36) ?_
          rintro a A ⟨t7, -⟩ ⟨t0, t1, t5, t9, t35, t36, -⟩
          refine wj_ [0, 1, 2, 3, 4, 5, 6, 7, 8] [7] [] [7] A (h7_ t0 t1 t5 t7 t9 t35 t36) (fun X19_0 bD => ?_)
          refine dw_ 2 (.slice (some ⟨gl, 0, none⟩) kk n) (fun a X ee => execSlH rfl (ee _) (ee _) (sl_hI gl (n - a_) n kk (by omega) X)) (dw_ 5 (.int .i64 ((kk + 1 : Nat) : Int)) (fun a X ee => execAd8 (p := kk) (q := 1) rfl (ee _) rfl (by omega)) (dw_ 6 (sliced (some ⟨gl, 0, none⟩) (kk + 1) (n - a_) n 1) (fun a X ee => execSlLg rfl (ee _) (ee _) (sl_lIg gl (n - a_) n (kk + 1) (by omega) X)) (ds_ 7 (fun a ee => ?_))))
          refine stepAppD (m := n - a_ - (kk + 1)) (N := n - (a_ + 1)) (F := fun j => (((if j < kk then lf j else lf (j + 1)) : Nat) : Int)) rfl rfl rfl (ee _) (ee _) (own_pre (ownD_below FL bD) (by omega)) (subI (own_ints (ownD_below FL bD) (fun j hj => ⟨by omega, by have := OD.l j hj; omega⟩)) (kk + 1) (n - a_) (by omega) (Nat.le_refl _)) (sl_some _ _ _ _) (by omega) (by omega) (by omega) (fun j _ => del_nat lf kk j) ((BB.trans (bD.mono BB.size))).size fun X19 own' gr => ⟨_, ⟨_, rfl, rfl⟩, eqw ?_⟩
          obtain ⟨BB, FZ, FO2, FL2⟩ : Below V.heap.size V X19 ∧ (gl + 1 ≤ X19.heap.size) ∧ (X19.ownsRow (gl + 1) 3 1 (v56) (a_ + 1) (intsL (a_ + 1) (fun j => ((p2 j : Nat) : Int)))) ∧ (X19.ownsRow (V.heap.size) 3 1 (.slice (some ⟨gl, 0, none⟩) (n - (a_ + 1)) n) (n - (a_ + 1)) (intsL (n - (a_ + 1)) (fun j => (((if j < kk then lf j else lf (j + 1)) : Nat) : Int)))) := ⟨((BB.trans (bD.mono BB.size))).grown gr ((BB.trans (bD.mono BB.size))).size (fun k hk => by cases hk; exact FV), (Nat.le_trans (Nat.le_trans FZ bD.size) gr.size), (ownW_grown (ownD_below FO2 bD) gr (fun k hk e => by cases e; exact absurd ((ownD_below FO2 bD).lt _ hk).1 (by omega))), own'⟩
          clear bD FL ee a
          refine ⟨Or.inl rfl, ?_⟩
          refine dz_ [(5, .slice (some ⟨gl, 0, none⟩) (n - (a_ + 1)) n)] (h5_ t0 t1 t7 t35 t36) ?_
          rintro a A ⟨t5, -⟩ ⟨t0, t1, t7, t35, t36, -⟩
          have OD2 := (OD.next hkk).cg (p2 := p2) (fun j hj => by by_cases e : j = a_; subst e; rw [if_pos rfl]; exact hp2.symm; rw [if_neg e]; exact hp3 j (by omega))
          refine wi_ A (h6_ t0 t1 t5 t7 t35 t36) (rv_ 0 (.int .i64 ((a_ + 1 : Nat) : Int)) (fun a ee => execAd8 (p := a_) (q := 1) rfl (ee _) rfl (by omega)) (rf_ [(36, .int .i64 ((a_ + 1 : Nat) : Int))] (h5_ t0 t1 t5 t7 t35) ?_))
          rintro a A ⟨t36, -⟩ ⟨t0, t1, t5, t7, t35, -⟩
          exact ⟨⟨a_ + 1, fun j => if j < kk then lf j else lf (j + 1), p2, v56, lta_, OD2, A, t0, t1, t5, t7, t35, t36, BB, FL2, FO2, FZ⟩, by show n - (intOf (a.eval (.tmp 36))).toNat < n - (intOf (Act.eval _ (.tmp 36))).toNat; rw [t36, esa_]; show n - (a_ + 1) < n - a_; omega⟩
        · refine wi_ A (h8_ t0 t1 t5 t7 t35 t36 t8 t9) (rv_ 2 (.int .i64 ((m : Nat) : Int)) (fun a ee => execLenI (len := m) rfl (ee _) (hM.on BB).shp) (rv_ 3 (.bool false) (fun a ee => execDec (execLtW (p := a_) (q := m) rfl (ee _) (ee _)) (decide_eq_false (by omega))) (rf_ [(42, .bool false)] (h8_ t0 t1 t5 t7 t35 t36 t8 t9) ?_)))
          rintro a A ⟨t42, -⟩ ⟨t0, t1, t5, t7, t35, t36, t8, t9, -⟩
          refine wp_cond_false t42 ?_
          refine wp_skip ?_
          clear t42
          have hkk : 0 < n - a_ := (by omega)
          obtain ⟨p2, hp2, hp3⟩ := extN p a_ (lf 0)
          rw [intsL_congr (g := fun j => ((p2 j : Nat) : Int)) (fun j hj => by show ((p j : Nat) : Int) = _; rw [hp3 j hj])] at FO
          refine wp_seq ?_
          obtain ⟨g55, egg55⟩ : ∃ z_ : Nat, XL13.heap.size = z_ := ⟨_, rfl⟩
          refine wi_ A (h8_ t0 t1 t5 t7 t35 t36 t8 t9) (rv_ 3 (.pointer (some ⟨gl, 0 + 0, none⟩)) (fun a ee => execIdxN (k := 0) rfl (ee _) (ee _) hkk) (rv_ 4 (.int .i64 ((lf 0 : Nat) : Int)) (fun a ee => execLd3 rfl (ee _) (own_cellI FL hkk).1) (rs_ 5 (fun a ee => ?_))))
          refine stepV rfl rfl (execBsI (z := (fun j => ((p2 j : Nat) : Int)) a_) rfl ((ee _).trans (congrArg (fun q => Value.int .i64 ((q : Nat) : Int)) hp2.symm))) ⟨.slice (some ⟨g55, 0, none⟩) 1 1, ⟨_, rfl, by subst egg55; rfl⟩, fun X18_1 hX => ?_⟩
          have bQ : Below XL13.heap.size XL13 X18_1 := by subst hX egg55; exact (belNew XL13 _)
          have Fg55 : (X18_1.heap[g55]? = some (.cells #[.int .i64 ((fun j => ((p2 j : Nat) : Int)) a_)] 3)) := by subst hX egg55; exact heapNew XL13 _
          replace FL := (ownD_below FL bQ)
          replace FO := (ownD_below FO bQ)
          replace FZ := (Nat.le_trans FZ bQ.size)
          replace BB := BB.trans (bQ.mono BB.size)
          clear bQ hX egg55 ee a
          refine rs_ 6 (fun a ee => ?_)
          refine stepAppI (f := fun j => ((p2 j : Nat) : Int)) rfl rfl rfl (ee _) (ee _) FO Fg55 (by omega) FZ fun v56 X18 own' gr => ⟨_, ⟨_, rfl, rfl⟩, eqw ?_⟩
          obtain ⟨BB, FL, FZ, FO2⟩ : Below V.heap.size V X18 ∧ (X18.ownsRow (V.heap.size) 3 1 (.slice (some ⟨gl, 0, none⟩) (n - a_) n) (n - a_) (intsL (n - a_) (fun j => ((lf j : Nat) : Int)))) ∧ (gl + 1 ≤ X18.heap.size) ∧ (X18.ownsRow (gl + 1) 3 1 (v56) (a_ + 1) (intsL (a_ + 1) (fun j => ((p2 j : Nat) : Int)))) := ⟨(BB).grown gr (BB).size (fun k hk => Nat.le_trans FV (Nat.le_of_succ_le (FO.lt k hk).1)), (ownW_grown FL gr (ne_after FO)), (Nat.le_trans FZ gr.size), own'⟩
          clear FO Fg55 ee a
          refine rf_ [(7, v56)] (h6_ t0 t1 t5 t9 t35 t36) ?_
          rintro a A ⟨t7, -⟩ ⟨t0, t1, t5, t9, t35, t36, -⟩
          refine wj_ [0, 1, 2, 3, 4, 5, 6, 7, 8] [7] [] [7] A (h7_ t0 t1 t5 t7 t9 t35 t36) (fun X19_0 bD => ?_)
          refine dw_ 2 (.slice (some ⟨gl, 0, none⟩) 0 n) (fun a X ee => execSlH rfl (ee _) (ee _) (sl_hI gl (n - a_) n 0 (by omega) X)) (dw_ 5 (.int .i64 ((0 + 1 : Nat) : Int)) (fun a X ee => execAd8 (p := 0) (q := 1) rfl (ee _) rfl (by omega)) (dw_ 6 (sliced (some ⟨gl, 0, none⟩) (0 + 1) (n - a_) n 1) (fun a X ee => execSlLg rfl (ee _) (ee _) (sl_lIg gl (n - a_) n (0 + 1) (by omega) X)) (ds_ 7 (fun a ee => ?_))))
          refine stepAppD (m := n - a_ - (0 + 1)) (N := n - (a_ + 1)) (F := fun j => (((if j < 0 then lf j else lf (j + 1)) : Nat) : Int)) rfl rfl rfl (ee _) (ee _) (own_pre (ownD_below FL bD) (by omega)) (subI (own_ints (ownD_below FL bD) (fun j hj => ⟨by omega, by have := OD.l j hj; omega⟩)) (0 + 1) (n - a_) (by omega) (Nat.le_refl _)) (sl_some _ _ _ _) (by omega) (by omega) (by omega) (fun j _ => del_nat lf 0 j) ((BB.trans (bD.mono BB.size))).size fun X19 own' gr => ⟨_, ⟨_, rfl, rfl⟩, eqw ?_⟩
          obtain ⟨BB, FZ, FO2, FL2⟩ : Below V.heap.size V X19 ∧ (gl + 1 ≤ X19.heap.size) ∧ (X19.ownsRow (gl + 1) 3 1 (v56) (a_ + 1) (intsL (a_ + 1) (fun j => ((p2 j : Nat) : Int)))) ∧ (X19.ownsRow (V.heap.size) 3 1 (.slice (some ⟨gl, 0, none⟩) (n - (a_ + 1)) n) (n - (a_ + 1)) (intsL (n - (a_ + 1)) (fun j => (((if j < 0 then lf j else lf (j + 1)) : Nat) : Int)))) := ⟨((BB.trans (bD.mono BB.size))).grown gr ((BB.trans (bD.mono BB.size))).size (fun k hk => by cases hk; exact FV), (Nat.le_trans (Nat.le_trans FZ bD.size) gr.size), (ownW_grown (ownD_below FO2 bD) gr (fun k hk e => by cases e; exact absurd ((ownD_below FO2 bD).lt _ hk).1 (by omega))), own'⟩
          clear bD FL ee a
          refine ⟨Or.inl rfl, ?_⟩
          refine dz_ [(5, .slice (some ⟨gl, 0, none⟩) (n - (a_ + 1)) n)] (h5_ t0 t1 t7 t35 t36) ?_
          rintro a A ⟨t5, -⟩ ⟨t0, t1, t7, t35, t36, -⟩
          have OD2 := (OD.next hkk).cg (p2 := p2) (fun j hj => by by_cases e : j = a_; subst e; rw [if_pos rfl]; exact hp2.symm; rw [if_neg e]; exact hp3 j (by omega))
          refine wi_ A (h6_ t0 t1 t5 t7 t35 t36) (rv_ 0 (.int .i64 ((a_ + 1 : Nat) : Int)) (fun a ee => execAd8 (p := a_) (q := 1) rfl (ee _) rfl (by omega)) (rf_ [(36, .int .i64 ((a_ + 1 : Nat) : Int))] (h5_ t0 t1 t5 t7 t35) ?_))
          rintro a A ⟨t36, -⟩ ⟨t0, t1, t5, t7, t35, -⟩
          exact ⟨⟨a_ + 1, fun j => if j < 0 then lf j else lf (j + 1), p2, v56, lta_, OD2, A, t0, t1, t5, t7, t35, t36, BB, FL2, FO2, FZ⟩, by show n - (intOf (a.eval (.tmp 36))).toNat < n - (intOf (Act.eval _ (.tmp 36))).toNat; rw [t36, esa_]; show n - (a_ + 1) < n - a_; omega⟩
      · rw [decide_eq_false lta_] at t37
        refine wp_cond_false t37 ?_
        refine wp_exit ?_
        first | with_reducible refine exit_in ?_ | with_reducible refine exit_then (exit_in ?_) | with_reducible refine exit_then (exit_then (exit_in ?_)) | refine exit_in ?_ | refine exit_then (exit_in ?_) | refine exit_then (exit_then (exit_in ?_))
        clear t37 esa_
        have ean : a_ = n := (by omega)
        rw [ean] at OD FO
        have PP := OD.isP
        clear t35 t36 t5 FL OD
        refine wp_seq ?_
        refine wi_ A (h3_ t0 t1 t7) (rf_ [(10, .slice none 0 0)] (h2_ t0 t7) ?_)
        rintro a A ⟨t10, -⟩ ⟨t0, t7, -⟩
        replace FO : (SliceI XL13 u n (fun j => ((p j : Nat) : Int))) := own_ints FO (fun j hj => ⟨by omega, by have := PP.lt j hj; omega⟩)
        clear FZ
        have hO := FO
        have BO := BB
        clear FO
        have FB : (Below XL13.heap.size XL13 XL13) := Below.refl _ _
        refine wp_seq ?_
        refine wp_seq ?_
        refine wi_ A (h3_ t0 t7 t10) (rv_ 1 (.int .i64 ((n : Nat) : Int)) (fun a ee => execLenI (len := n) rfl (ee _) (hO.on FB).shp) (rf_ [(66, u), (67, .int .i64 ((n : Nat) : Int)), (68, .int .i64 ((0 : Nat) : Int))] (h3_ t0 t7 t10) ?_))
        rintro a A ⟨t66, t67, t68, -⟩ ⟨t0, t7, t10, -⟩
        have FT : (XL13.ownsRow XL13.heap.size 23 1 (.slice none 0 0) (0) (lL (fun a => xv (p a)) (0))) := World.ownsRow_nil _ _ _ _
        have hW1 := BO.size
        refine wp_block ?_
        refine wp_loop (fun a W => ∃ (k : Nat) (tv : Value), k ≤ n ∧ (a.tmps.size = 114 ∧ a.defers = []) ∧ a.eval (.tmp 0) = cv ∧ a.eval (.tmp 7) = u ∧ a.eval (.tmp 10) = tv ∧ a.eval (.tmp 66) = u ∧ a.eval (.tmp 67) = .int .i64 ((n : Nat) : Int) ∧ a.eval (.tmp 68) = .int .i64 ((k : Nat) : Int) ∧ Below V.heap.size V W ∧ (Below XL13.heap.size XL13 W) ∧ (W.ownsRow XL13.heap.size 23 1 tv (k) (lL (fun a => xv (p a)) (k)))) (fun a _ => n - (intOf (a.eval (.tmp 68))).toNat) ⟨0, .slice none 0 0, Nat.zero_le _, A, t0, t7, t10, t66, t67, t68, BB, FB, FT⟩ ?_
        clear A t0 t7 t10 t66 t67 t68 BB FB FT a
        rintro a XL23 ⟨k, tv, hk, A, t0, t7, t10, t66, t67, t68, BB, FB, FT⟩
        have esk := t68
        refine wp_seq ?_
        refine wi_ A (h6_ t0 t7 t10 t66 t67 t68) (rv_ 0 (.bool (decide (k < n))) (fun a ee => execLtW (p := k) (q := n) rfl (ee _) (ee _)) (rf_ [(69, .bool (decide (k < n)))] (h6_ t0 t7 t10 t66 t67 t68) ?_))
        rintro a A ⟨t69, -⟩ ⟨t0, t7, t10, t66, t67, t68, -⟩
        refine wp_seq ?_
        by_cases ltk : k < n
        · rw [decide_eq_true ltk] at t69
          refine wp_cond_true t69 ?_
          refine wp_skip ?_
          clear t69
          refine wp_seq ?_
          refine wp_block ?_
          refine wp_seq ?_
          refine wi_ A (h6_ t0 t7 t10 t66 t67 t68) (rv_ 0 (.pointer (some ⟨adB u, adO u + k, none⟩)) (fun a ee => execIdxIb (k := k) (hO.on FB) rfl (ee _) (ee _) ltk) (rv_ 1 (.int .i64 ((p k : Nat) : Int)) (fun a ee => execLdIb (k := k) (hO.on FB) rfl (ee _) ltk) (rf_ [(12, .int .i64 ((p k : Nat) : Int))] (h6_ t0 t7 t10 t66 t67 t68) ?_)))
          rintro a A ⟨t12, -⟩ ⟨t0, t7, t10, t66, t67, t68, -⟩
          obtain ⟨g77, egg77⟩ : ∃ z_ : Nat, XL23.heap.size = z_ := ⟨_, rfl⟩
          refine wi_ A (h7_ t0 t7 t10 t66 t67 t68 t12) (rv_ 3 (.pointer (some ⟨adB cv, adO cv + (p k), none⟩)) (fun a ee => execIdxLs (k := p k) (hL.on BB) rfl (ee _) (ee _) (PP.lt k ltk)) (rv_ 4 (xv (p k)) (fun a ee => execLdLs (k := p k) (hL.on BB) rfl (ee _) (PP.lt k ltk)) (rs_ 5 (fun a ee => ?_))))
          refine stepV rfl rfl (execBsL rfl (ee _) (by obtain ⟨q1, q2, q3⟩ := shp (hL.cell (p k) (PP.lt k ltk)); exact ⟨q1, _, q2, q3⟩)) ⟨.slice (some ⟨g77, 0, none⟩) 1 1, ⟨_, rfl, by subst egg77; rfl⟩, fun X25_1 hX => ?_⟩
          have bQ : Below XL23.heap.size XL23 X25_1 := by subst hX egg77; exact (belNew XL23 _)
          have Fg77 : (X25_1.heap[g77]? = some (.cells #[xv (p k)] 23)) := by subst hX egg77; exact heapNew XL23 _
          replace FB := (FB.trans (bQ.mono FB.size))
          replace FT := (ownD_below FT bQ)
          replace BB := BB.trans (bQ.mono BB.size)
          clear bQ hX egg77 ee a
          refine rs_ 6 (fun a ee => ?_)
          refine stepAppLs rfl rfl rfl (ee _) (ee _) FT Fg77 rfl (one_of (shp (hL.cell (p k) (PP.lt k ltk)))) (by omega) FB.size fun v78 X25 own' gr => ⟨_, ⟨_, rfl, rfl⟩, eqw ?_⟩
          obtain ⟨BB, FB, FT2⟩ : Below V.heap.size V X25 ∧ (Below XL13.heap.size XL13 X25) ∧ (X25.ownsRow XL13.heap.size 23 1 v78 (k + 1) (lL (fun a => xv (p a)) (k + 1))) := ⟨(BB).grown gr (BB).size (fun k hk => Nat.le_trans hW1 (FT.lt k hk).1), (FB.grown gr FB.size (fun k hk => (FT.lt k hk).1)), own'⟩
          clear FT Fg77 ee a
          refine rf_ [(10, v78)] (h5_ t0 t7 t66 t67 t68) ?_
          rintro a A ⟨t10, -⟩ ⟨t0, t7, t66, t67, t68, -⟩
          refine wi_ A (h6_ t0 t7 t10 t66 t67 t68) (rv_ 0 (.int .i64 ((k + 1 : Nat) : Int)) (fun a ee => execAd8 (p := k) (q := 1) rfl (ee _) rfl (by omega)) (rf_ [(68, .int .i64 ((k + 1 : Nat) : Int))] (h5_ t0 t7 t10 t66 t67) ?_))
          rintro a A ⟨t68, -⟩ ⟨t0, t7, t10, t66, t67, -⟩
          exact ⟨⟨k + 1, v78, ltk, A, t0, t7, t10, t66, t67, t68, BB, FB, FT2⟩, by show n - (intOf (a.eval (.tmp 68))).toNat < n - (intOf (Act.eval _ (.tmp 68))).toNat; rw [t68, esk]; show n - (k + 1) < n - k; omega⟩
        · rw [decide_eq_false ltk] at t69
          refine wp_cond_false t69 ?_
          refine wp_exit ?_
          first | with_reducible refine exit_in ?_ | with_reducible refine exit_then (exit_in ?_) | with_reducible refine exit_then (exit_then (exit_in ?_)) | refine exit_in ?_ | refine exit_then (exit_in ?_) | refine exit_then (exit_then (exit_in ?_))
          clear t69 esk
          have ekn : k = n := (by omega)
          rw [ekn] at FT
          clear t66 t67 t68
          replace FT : (Ls XL23 tv n (fun a => xv (p a)) (fun a => ln (p a)) (fun a => c (p a))) := ls_of FT (fun a ha => (hL.on BB).cell (p a) (PP.lt a ha)) (fun a ha => hL.nil (p a) (PP.lt a ha)) (fun a ha => hL.lens (p a) (PP.lt a ha))
          refine wp_seq ?_
          refine wi_ A (h3_ t0 t7 t10) (rc_ 1 (I.exchange n cv xv ln c XL23 (hL.on BB) (by omega) (fun i hi => Nat.le_trans (hln i hi) (by omega))) fun e X27_1 hh => ?_)
          obtain ⟨⟨v81, y81, he, hk⟩, hb⟩ := hh
          refine ⟨_, he, ?_⟩
          have bQ : Below XL23.heap.size XL23 X27_1 := hb
          have FA : (Ls X27_1 v81 n y81 (xL n ln c) (xF n ln c)) := hk.ls (fun t _ => by have := xL_le (n := n) (ln := ln) (c := c) (i := t); omega)
          replace FB := (FB.trans (bQ.mono FB.size))
          replace FT := (FT.on bQ)
          replace BB := BB.trans (bQ.mono BB.size)
          clear bQ
          refine rc_ 3 (I.exchange n tv (fun a => xv (p a)) (fun a => ln (p a)) (fun a => c (p a)) X27_1 FT (by omega) (fun i hi => Nat.le_trans (hln (p i) (PP.lt i hi)) (by omega))) fun e X27 hh => ?_
          obtain ⟨⟨v83, y83, he, hk⟩, hb⟩ := hh
          refine ⟨_, he, ?_⟩
          have bQ : Below X27_1.heap.size X27_1 X27 := hb
          have FC : (Ls X27 v83 n y83 (xL n (fun a => ln (p a)) (fun a => c (p a))) (xF n (fun a => ln (p a)) (fun a => c (p a)))) := hk.ls (fun t _ => by have := xL_le (n := n) (ln := (fun a => ln (p a))) (c := (fun a => c (p a))) (i := t); omega)
          replace FB := (FB.trans (bQ.mono FB.size))
          replace FT := (FT.on bQ)
          replace FA := (FA.on bQ)
          replace BB := BB.trans (bQ.mono BB.size)
          clear bQ
          refine rf_ [(13, v81), (14, v83)] (h2_ t0 t7) ?_
          rintro a A ⟨t13, t14, -⟩ ⟨t0, t7, -⟩
          clear FT
          refine wp_seq ?_
          refine wp_seq ?_
          refine wi_ A (h4_ t0 t7 t13 t14) (rv_ 1 (.int .i64 ((n : Nat) : Int)) (fun a ee => execLenLL rfl (ee _) (FA).shp) (rv_ 3 (.int .i64 ((n : Nat) : Int)) (fun a ee => execLenLL rfl (ee _) (hL.on BB).shp) (rv_ 4 (.bool false) (fun a ee => execDec (execNeN (p := n) (q := n) rfl (ee _) (ee _)) (decide_eq_false (by omega))) (rv_ 7 (.int .i64 ((n : Nat) : Int)) (fun a ee => execLenLL rfl (ee _) (FC).shp) (rv_ 9 (.int .i64 ((n : Nat) : Int)) (fun a ee => execLenLL rfl (ee _) (hL.on BB).shp) (rv_ 10 (.bool false) (fun a ee => execDec (execNeN (p := n) (q := n) rfl (ee _) (ee _)) (decide_eq_false (by omega))) (rf_ [(95, .bool false)] (h4_ t0 t7 t13 t14) ?_)))))))
          rintro a A ⟨t95, -⟩ ⟨t0, t7, t13, t14, -⟩
          refine wp_cond_false t95 ?_
          refine wp_skip ?_
          clear t95
          refine wp_seq ?_
          refine wp_seq ?_
          refine wi_ A (h4_ t0 t7 t13 t14) (rv_ 1 (.int .i64 ((n : Nat) : Int)) (fun a ee => execLenI (len := n) rfl (ee _) (hO.on FB).shp) (rf_ [(96, u), (97, .int .i64 ((n : Nat) : Int)), (98, .int .i64 ((0 : Nat) : Int))] (h2_ t13 t14) ?_))
          rintro a A ⟨t96, t97, t98, -⟩ ⟨t13, t14, -⟩
          refine wp_block ?_
          refine wp_loop (fun a W => ∃ (d : Nat), d ≤ n ∧ (a.tmps.size = 114 ∧ a.defers = []) ∧ a.eval (.tmp 13) = v81 ∧ a.eval (.tmp 14) = v83 ∧ a.eval (.tmp 96) = u ∧ a.eval (.tmp 97) = .int .i64 ((n : Nat) : Int) ∧ a.eval (.tmp 98) = .int .i64 ((d : Nat) : Int) ∧ Below V.heap.size V W ∧ (Below XL13.heap.size XL13 W) ∧ (Ls W v81 n y81 (xL n ln c) (xF n ln c)) ∧ (Ls W v83 n y83 (xL n (fun a => ln (p a)) (fun a => c (p a))) (xF n (fun a => ln (p a)) (fun a => c (p a))))) (fun a _ => n - (intOf (a.eval (.tmp 98))).toNat) ⟨0, Nat.zero_le _, A, t13, t14, t96, t97, t98, BB, FB, FA, FC⟩ ?_
          clear A t13 t14 t96 t97 t98 BB FB FA FC a
          rintro a XL31 ⟨d, hd, A, t13, t14, t96, t97, t98, BB, FB, FA, FC⟩
          have esd := t98
          refine wp_seq ?_
          refine wi_ A (h5_ t13 t14 t96 t97 t98) (rv_ 0 (.bool (decide (d < n))) (fun a ee => execLtW (p := d) (q := n) rfl (ee _) (ee _)) (rf_ [(99, .bool (decide (d < n)))] (h5_ t13 t14 t96 t97 t98) ?_))
          rintro a A ⟨t99, -⟩ ⟨t13, t14, t96, t97, t98, -⟩
          refine wp_seq ?_
          by_cases ltd : d < n
          · rw [decide_eq_true ltd] at t99
            refine wp_cond_true t99 ?_
            refine wp_skip ?_
            clear t99
            refine wp_seq ?_
            refine wp_block ?_
            refine wp_seq ?_
            refine wi_ A (h5_ t13 t14 t96 t97 t98) (rv_ 1 (.pointer (some ⟨adB u, adO u + d, none⟩)) (fun a ee => execIdxIb (k := d) (hO.on FB) rfl (ee _) (ee _) ltd) (rv_ 2 (.int .i64 ((p d : Nat) : Int)) (fun a ee => execLdIb (k := d) (hO.on FB) rfl (ee _) ltd) (rf_ [(15, .int .i64 ((d : Nat) : Int)), (16, .int .i64 ((p d : Nat) : Int))] (h5_ t13 t14 t96 t97 t98) ?_)))
            rintro a A ⟨t15, t16, -⟩ ⟨t13, t14, t96, t97, t98, -⟩
            have es : strN (xF n (fun a => ln (p a)) (fun a => c (p a)) d) (xL n (fun a => ln (p a)) (fun a => c (p a)) d) = strN (xF n ln c (p d)) (xL n ln c (p d)) := by rw [(x_perm PP ltd).1]; exact strN_congr (x_perm PP ltd).2
            refine wp_seq ?_
            refine wj_ [0, 1, 2, 3, 4, 5, 6, 7, 8, 9] [8] [2, 3, 6, 7] [] A (h7_ t13 t14 t96 t97 t98 t15 t16) (fun X33_0 bD => ?_)
            refine dv_ 2 (.pointer (some ⟨adB v83, adO v83 + d, none⟩)) (fun a X ee hb => execIdxLs (k := d) ((FC.on hb)) rfl (ee _) (ee _) ltd) (dv_ 3 (y83 d) (fun a X ee hb => execLdLs (k := d) ((FC.on hb)) rfl (ee _) ltd) (dv_ 6 (.pointer (some ⟨adB v81, adO v81 + (p d), none⟩)) (fun a X ee hb => execIdxLs (k := p d) ((FA.on hb)) rfl (ee _) (ee _) (PP.lt d ltd)) (dv_ 7 (y81 (p d)) (fun a X ee hb => execLdLs (k := p d) ((FA.on hb)) rfl (ee _) (PP.lt d ltd)) (dc_ 8 ((decide_eq_true es ▸ same28 _ _ _ _ _ _ X33_0 ((FC.on bD).cell d ltd) ((FA.on bD).cell (p d) (PP.lt d ltd)))) (cb_ fun X33 bQ => ?_)))))
            replace bD := bD.trans (bQ.mono bD.size)
            clear bQ
            refine ⟨Or.inr bD, ?_⟩
            refine dw_ 9 (.bool false) (fun a X ee => execNot8 (b := true) rfl (ee _)) (dz_ [(112, .bool false)] (h5_ t13 t14 t96 t97 t98) ?_)
            rintro a A ⟨t112, -⟩ ⟨t13, t14, t96, t97, t98, -⟩
            replace FB := (FB.trans (bD.mono FB.size))
            replace FA := (FA.on bD)
            replace FC := (FC.on bD)
            replace BB := BB.trans (bD.mono BB.size)
            clear bD
            refine wp_cond_false t112 ?_
            refine wp_skip ?_
            clear t112
            refine wi_ A (h5_ t13 t14 t96 t97 t98) (rv_ 0 (.int .i64 ((d + 1 : Nat) : Int)) (fun a ee => execAd8 (p := d) (q := 1) rfl (ee _) rfl (by omega)) (rf_ [(98, .int .i64 ((d + 1 : Nat) : Int))] (h4_ t13 t14 t96 t97) ?_))
            rintro a A ⟨t98, -⟩ ⟨t13, t14, t96, t97, -⟩
            exact ⟨⟨d + 1, ltd, A, t13, t14, t96, t97, t98, BB, FB, FA, FC⟩, by show n - (intOf (a.eval (.tmp 98))).toNat < n - (intOf (Act.eval _ (.tmp 98))).toNat; rw [t98, esd]; show n - (d + 1) < n - d; omega⟩
          · rw [decide_eq_false ltd] at t99
            refine wp_cond_false t99 ?_
            refine wp_exit ?_
            first | with_reducible refine exit_in ?_ | with_reducible refine exit_then (exit_in ?_) | with_reducible refine exit_then (exit_then (exit_in ?_)) | refine exit_in ?_ | refine exit_then (exit_in ?_) | refine exit_then (exit_then (exit_in ?_))
            clear t99 esd
            refine wp_seq ?_
            refine wi_ A (h5_ t13 t14 t96 t97 t98) (rg_ [(4, .bool true)] ?_)
            rintro a A ⟨t4, -⟩
            refine wp_ret ?_
            repeat (first | with_reducible refine ret_in ?_ | with_reducible refine ret_then ?_)
            refine bodyPost_ret (results_tmp rfl _ _ _) A.2 ⟨?_, BB⟩
            show Ending.returned (a.eval (.tmp 4)) = _
            rw [t4]
  · refine wp_cond_true t20 ?_
    clear t20
    refine wp_seq ?_
    refine wi_ A (h2_ t0 t1) (rg_ [(4, .bool true)] ?_)
    rintro a A ⟨t4, -⟩
    refine wp_ret ?_
    repeat (first | with_reducible refine ret_in ?_ | with_reducible refine ret_then ?_)
    refine bodyPost_ret (results_tmp rfl _ _ _) A.2 ⟨?_, BB⟩
    show Ending.returned (a.eval (.tmp 4)) = _
    rw [t4]
end Go.Proofs.Ytcibogmghagpoaa.Dro
