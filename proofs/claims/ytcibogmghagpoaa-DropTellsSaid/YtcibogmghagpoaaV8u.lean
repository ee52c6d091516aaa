import Derived.Test.YtcibogmghagpoaaV8t
import Derived.WideKeyArr
import Derived.MapKept
namespace Go.Proofs.Ytcibogmghagpoaa.Dro
open Go.RowKit Gf8 Aes By8 Cel Cf Tap Drw
open Go.ChangeMaps Go.MapKept
/- Who lies at a drop: a lot over Nat, and a map from names to lots. -/

/-- The first two of those below n that keep p. -/
def ltA (p : Nat → Bool) : Nat → Nat
  | 0 => 0
  | n + 1 => if p n = true ∧ cnt p n = 0 then n else ltA p n
def ltB (p : Nat → Bool) : Nat → Nat
  | 0 => 0
  | n + 1 => if p n = true ∧ cnt p n = 1 then n else ltB p n
theorem lt_none {p : Nat → Bool} {n : Nat} (h : cnt p n = 0) : ltA p n = 0 ∧ ltB p n = 0 := by
  induction n with
  | zero => exact ⟨rfl, rfl⟩
  | succ n ih =>
    have h2 := cnt_zero.1 h
    have h3 : cnt p n = 0 := cnt_zero.2 fun k hk => h2 k (by omega)
    unfold ltA ltB
    rw [h2 n (by omega)]
    simpa using ih h3
theorem ltA_is {p : Nat → Bool} {n : Nat} (h : 0 < cnt p n) : ltA p n < n ∧ p (ltA p n) = true := by
  induction n with
  | zero => exact absurd h (Nat.lt_irrefl _)
  | succ n ih =>
    unfold ltA
    by_cases e : p n = true ∧ cnt p n = 0
    · rw [if_pos e]; exact ⟨by omega, e.1⟩
    · rw [if_neg e]
      have h0 : 0 < cnt p n := by
        unfold cnt at h
        by_cases q : p n = true
        · rcases Nat.eq_zero_or_pos (cnt p n) with z | z
          · exact absurd ⟨q, z⟩ e
          · exact z
        · rw [if_neg q] at h; omega
      have := ih h0
      exact ⟨by omega, this.2⟩
theorem ltB_is {p : Nat → Bool} {n : Nat} (h : 1 < cnt p n) : ltB p n < n ∧ p (ltB p n) = true ∧ ltA p n < ltB p n := by
  induction n with
  | zero => exact absurd h (by show ¬ 1 < 0; omega)
  | succ n ih =>
    unfold ltB ltA
    by_cases e : p n = true ∧ cnt p n = 1
    · rw [if_pos e, if_neg (by omega)]
      exact ⟨by omega, e.1, (ltA_is (p := p) (n := n) (by omega)).1⟩
    · rw [if_neg e]
      have h0 : 1 < cnt p n := by
        unfold cnt at h
        by_cases q : p n = true
        · rw [if_pos q] at h
          by_cases z : cnt p n = 1
          · exact absurd ⟨q, z⟩ e
          · omega
        · rw [if_neg q] at h; omega
      have := ih h0
      rw [if_neg (by omega)]
      exact ⟨by omega, this.2⟩
/-- How many but one of them. -/
theorem cnt_less {p : Nat → Bool} {n i : Nat} (hi : i < n) (hp : p i = true) : cnt p n = 1 + cnt (fun k => decide (k ≠ i) && p k) n := by
  induction n with
  | zero => omega
  | succ n ih =>
    unfold cnt
    by_cases e : n = i
    · subst e
      rw [hp, if_pos rfl, if_neg (by simp), cnt_cg (n := n) (p := p) (q := fun k => decide (k ≠ n) && p k) fun k hk => by simp [show k ≠ n by omega]]
      omega
    · rw [ih (by omega)]
      have e2 : (decide (n ≠ i) && p n) = p n := by simp [e]
      simp only [e2]
      omega
/-- A request of this name? -/
def atQ (ln : Nat → Nat) (c : Nat → Nat → Nat) (f : Nat → Nat) (k : Nat) : Bool := rgt (ln k) && nmQ (c k) f
theorem nm_cg {a f g : Nat → Nat} (h : nmQ f g = true) : nmQ a f = nmQ a g := by
  have h2 := nm_iff.1 h
  cases q : nmQ a g
  · cases r : nmQ a f
    · rfl
    · have : nmQ a g = true := nm_iff.2 fun j hj => (nm_iff.1 r j hj).trans (h2 j hj)
      rw [q] at this; cases this
  · exact nm_iff.2 fun j hj => (nm_iff.1 q j hj).trans (h2 j hj).symm
theorem at_cg {ln : Nat → Nat} {c : Nat → Nat → Nat} {f g : Nat → Nat} (h : nmQ f g = true) : atQ ln c f = atQ ln c g := by
  funext k
  unfold atQ
  rw [nm_cg h]
theorem nm_refl (f : Nat → Nat) : nmQ f f = true := nm_iff.2 fun _ _ => rfl
theorem at_own {ln : Nat → Nat} {c : Nat → Nat → Nat} {i : Nat} (h : rgt (ln i) = true) : atQ ln c (c i) i = true := by
  unfold atQ
  rw [h, nm_refl]
  rfl
theorem ot_at {ln : Nat → Nat} {c : Nat → Nat → Nat} {i : Nat} : otQ ln c i = fun k => decide (k ≠ i) && atQ ln c (c i) k := rfl
/-- The lot of a name behind k requests. -/
def ltC (p : Nat → Bool) (n : Nat) : Array Value := #[.int .i64 ((cnt p n : Nat) : Int), .int .i64 ((ltA p n : Nat) : Int), .int .i64 ((ltB p n : Nat) : Int)]
def ltV (p : Nat → Bool) (n : Nat) : Value := .agg (ltC p n)
/-- What lies in the map behind k requests. -/
def lots (ln : Nat → Nat) (c : Nat → Nat → Nat) (k : Nat) (f : Nat → Nat) : Option Value := if cnt (atQ ln c f) k = 0 then none else some (ltV (atQ ln c f) k)
theorem lots_get {ln : Nat → Nat} {c : Nat → Nat → Nat} {k : Nat} {f : Nat → Nat} : (lots ln c k f).getD (.agg #[.int .i64 0, .int .i64 0, .int .i64 0]) = ltV (atQ ln c f) k := by
  unfold lots
  split
  · rename_i h
    unfold ltV ltC
    rw [h, (lt_none h).1, (lt_none h).2]
    rfl
  · rfl
theorem lots_no {ln : Nat → Nat} {c : Nat → Nat → Nat} {k : Nat} (h : rgt (ln k) = false) : lots ln c (k + 1) = lots ln c k := by
  funext f
  have e : atQ ln c f k = false := by unfold atQ; rw [h]; rfl
  unfold lots ltV ltC
  have e1 : cnt (atQ ln c f) (k + 1) = cnt (atQ ln c f) k := by rw [cnt_succ, e]; rfl
  have e2 : ltA (atQ ln c f) (k + 1) = ltA (atQ ln c f) k := by show (if _ then _ else _) = _; rw [e]; simp
  have e3 : ltB (atQ ln c f) (k + 1) = ltB (atQ ln c f) k := by show (if _ then _ else _) = _; rw [e]; simp
  rw [e1, e2, e3]
/-- One value put. -/
def putL (m : (Nat → Nat) → Option Value) (f : Nat → Nat) (v : Value) (g : Nat → Nat) : Option Value := if nmQ f g = true then some v else m g
theorem lots_put {ln : Nat → Nat} {c : Nat → Nat → Nat} {k : Nat} (h : rgt (ln k) = true) : putL (lots ln c k) (c k) (ltV (atQ ln c (c k)) (k + 1)) = lots ln c (k + 1) := by
  funext g
  unfold putL
  by_cases e : nmQ (c k) g = true
  · rw [if_pos e, at_cg e]
    unfold lots
    have : atQ ln c g k = true := by unfold atQ; rw [h, e]; rfl
    rw [if_neg (by rw [cnt_succ, this, if_pos rfl]; omega)]
  · rw [if_neg e]
    have e0 : atQ ln c g k = false := by
      unfold atQ
      rw [h]
      simpa using e
    unfold lots ltV ltC
    have e1 : cnt (atQ ln c g) (k + 1) = cnt (atQ ln c g) k := by rw [cnt_succ, e0]; rfl
    have e2 : ltA (atQ ln c g) (k + 1) = ltA (atQ ln c g) k := by show (if _ then _ else _) = _; rw [e0]; simp
    have e3 : ltB (atQ ln c g) (k + 1) = ltB (atQ ln c g) k := by show (if _ then _ else _) = _; rw [e0]; simp
    rw [e1, e2, e3]
/-- The other one of two. -/
def othN (p : Nat → Bool) (n i : Nat) : Nat := if ltA p n = i then ltB p n else ltA p n
theorem oth_is {ln : Nat → Nat} {c : Nat → Nat → Nat} {i n : Nat} (hi : i < n) (hr : rgt (ln i) = true) (h2 : cnt (atQ ln c (c i)) n = 2) : othN (atQ ln c (c i)) n i = paF n ln c i ∧ kdF n ln c i = 1 := by
  have hp := at_own (c := c) hr
  have hc := cnt_less hi hp
  have h1 : cnt (otQ ln c i) n = 1 := by rw [ot_at]; omega
  refine ⟨?_, ?_⟩
  · have a1 := ltA_is (p := atQ ln c (c i)) (n := n) (by omega)
    have b1 := ltB_is (p := atQ ln c (c i)) (n := n) (by omega)
    have key : othN (atQ ln c (c i)) n i < n ∧ otQ ln c i (othN (atQ ln c (c i)) n i) = true := by
      unfold othN
      split
      · rename_i e
        exact ⟨b1.1, by rw [ot_at]; simp only [b1.2.1, Bool.and_true]; exact decide_eq_true (by omega)⟩
      · rename_i e
        exact ⟨a1.1, by rw [ot_at]; simp only [a1.2, Bool.and_true]; exact decide_eq_true e⟩
    exact cnt_one h1 key.1 key.2
  · unfold kdF
    rw [hr, if_pos rfl, h1]
    rfl
theorem kd_one {ln : Nat → Nat} {c : Nat → Nat → Nat} {i n : Nat} (hi : i < n) (hr : rgt (ln i) = true) (h2 : cnt (atQ ln c (c i)) n = 1) : kdF n ln c i = 0 := by
  have hc := cnt_less hi (at_own (c := c) hr)
  have h1 : cnt (otQ ln c i) n = 0 := by rw [ot_at]; omega
  unfold kdF
  rw [hr, if_pos rfl, h1]
  rfl
theorem kd_more {ln : Nat → Nat} {c : Nat → Nat → Nat} {i n : Nat} (hi : i < n) (hr : rgt (ln i) = true) (h1 : cnt (atQ ln c (c i)) n ≠ 1) (h2 : cnt (atQ ln c (c i)) n ≠ 2) : kdF n ln c i = 2 := by
  have hc := cnt_less hi (at_own (c := c) hr)
  unfold kdF
  rw [hr, if_pos rfl, ot_at]
  omega

/-! The map. -/
theorem arr8 : WideMaps.ArrKey Try.prog 22 5 8 := ⟨by kernel_rfl, by kernel_rfl, by kernel_rfl, by kernel_rfl⟩
theorem mapM_all8 {α β : Type} {g : α → Option β} {h : α → β} : ∀ {l : List α}, (∀ x ∈ l, g x = some (h x)) → l.mapM g = some (l.map h)
  | [], _ => rfl
  | x :: l, e => by
    rw [List.mapM_cons, e x (by simp), mapM_all8 (l := l) fun y hy => e y (by simp [hy])]
    rfl
theorem keyLits8 {f : Nat → Nat} (hf : ∀ i, i < 8 → f i < 256) (D : Nat) : Try.prog.keyLits (D + 2) 22 (bA 8 f).toList = some (((List.range 8).map fun i => [Lit.int .u8 ((f i : Nat) : Int)]).flatten) := by
  have hl : (bA 8 f).toList.length = 8 := by rw [Array.length_toList, bA_size]
  unfold Program.keyLits
  rw [arr8.hu]
  simp only [arr8.size, arr8.one, hl, if_true]
  rw [mapM_all8 (h := fun i => [Lit.int .u8 ((f i : Nat) : Int)])]
  · rfl
  · intro i hi
    have hi : i < 8 := List.mem_range.1 hi
    have e : ((bA 8 f).toList.drop (i * 1)).take 1 = [.int .u8 ((f i : Nat) : Int)] := by
      rw [Nat.mul_one, List.drop_eq_getElem_cons (by rw [hl]; exact hi)]
      have h2 := bA_at 8 f hi
      rw [← Array.getElem?_toList] at h2
      rw [List.getElem?_eq_getElem (by rw [hl]; exact hi)] at h2
      rw [Option.some.inj h2]
      rfl
    rw [e]
    unfold Program.keyLits
    have hu : Try.prog.underlying 5 = some (.int .u8) := by kernel_rfl
    rw [hu]
    have hw : (Lit.int .u8 ((f i : Nat) : Int)).wf = true := by
      have := hf i hi
      simp [Lit.wf, IntKind.min, IntKind.max, IntKind.bits, IntKind.signed]
      omega
    simp only [hw, and_self, if_true]
theorem key8 {f : Nat → Nat} (hf : ∀ i, i < 8 → f i < 256) : ∃ l, keyOf Try.prog 22 (.agg (bA 8 f)) = some l := by
  have hk : Try.prog.keyType 22 = true := by kernel_rfl
  have hs : ∃ m, Try.prog.types.size = m + 1 := ⟨Try.prog.types.size - 1, by kernel_rfl⟩
  obtain ⟨m, hm⟩ := hs
  have hv : (Value.agg (bA 8 f)).formed Try.prog 22 = true := by
    unfold Value.formed
    rw [arr8.hu, arr8.size]
    simp [bA_size]
  unfold keyOf
  rw [arr8.hu]
  simp only [hk, hv, Bool.and_true, if_true]
  have e := keyLits8 hf m
  rw [hm]
  show ∃ l, ((Try.prog.keyLits (m + 2) 22 (bA 8 f).toList).map _) = some l
  rw [e]
  exact ⟨_, rfl⟩
theorem agg_nm {f g : Nat → Nat} : (Value.agg (bA 8 f) = .agg (bA 8 g)) ↔ nmQ f g = true := by
  rw [nm_iff]
  constructor
  · intro h j hj
    have h := Value.agg.inj h
    have h1 := bA_at 8 f hj
    rw [h, bA_at 8 g hj] at h1
    have h2 := (Value.int.inj (Option.some.inj h1)).2
    omega
  · intro h
    rw [bA_congr (n := 8) (f := f) (g := g) h]
/-- The map in block b tells m. -/
structure MD (W : World) (b : Nat) (m : (Nat → Nat) → Option Value) : Prop where
  map : ∃ es clock, W.heap[b]? = some (.map es clock) ∧ (∀ e ∈ es.toList, ∃ f : Nat → Nat, (∀ i, i < 8 → f i < 256) ∧ e.key = .agg (bA 8 f)) ∧
    (∀ (i j : Nat) (e e' : MapEntry), es.toList[i]? = some e → es.toList[j]? = some e' → e.key = e'.key → i = j) ∧
    (∀ e ∈ es.toList, ∀ f, e.key = .agg (bA 8 f) → m f = some e.val) ∧ (∀ f, (∀ e ∈ es.toList, e.key ≠ .agg (bA 8 f)) → m f = none)
theorem und50 : Try.prog.underlying 50 = some (.map 22 55) := by kernel_rfl
section
variable {W : World} {b : Nat} {m : (Nat → Nat) → Option Value} {f : Nat → Nat}
theorem MD.look (h : MD W b m) (hf : ∀ i, i < 8 → f i < 256) : (Instr.lookup 50 (.map (some b)) (.agg (bA 8 f)) false).run Try.prog W = .ok ((m f).getD (.agg #[.int .i64 0, .int .i64 0, .int .i64 0])) W := by
  obtain ⟨lx, hlx⟩ := key8 hf
  obtain ⟨es, clock, hb, hk, hu, hy, hn⟩ := h.map
  have hc := arr8.law.check W es.isEmpty hlx
  rcases arr8.law.find W hlx es.toList (fun e he => by obtain ⟨g, hg, e2⟩ := hk e he; rw [e2]; exact key8 hg) with ⟨r, n⟩ | ⟨j, e, r, q, p⟩
  · rw [hn f (fun e he => n e he)]
    simp [Instr.lookup, run_underlying und50, MapKept.run_getObj_map hb, hc, r, Result.andThen]
  · rw [hy e (List.mem_of_getElem? q) f p]
    simp [Instr.lookup, run_underlying und50, MapKept.run_getObj_map hb, hc, r, Result.andThen]
theorem MD.put (h : MD W b m) (hf : ∀ i, i < 8 → f i < 256) (z : Value) : ∃ o, (Instr.mapUpdate 50 (.map (some b)) (.agg (bA 8 f)) z).run Try.prog W = .ok () (setBlock W b o) ∧ MD (setBlock W b o) b (putL m f z) := by
  obtain ⟨lx, hlx⟩ := key8 hf
  have hc := arr8.law.check W false hlx
  have hst := arr8.law.stays W hlx
  obtain ⟨es, clock, hb, hk, hu, hy, hn⟩ := h.map
  rcases arr8.law.find W hlx es.toList (fun e he => by obtain ⟨g, hg, e2⟩ := hk e he; rw [e2]; exact key8 hg) with ⟨r, n⟩ | ⟨j, e, r, q, p⟩
  · refine ⟨Obj.map (es.push { key := .agg (bA 8 f), val := z, born := clock }) (clock + 1), ?_, ?_⟩
    · simp [Instr.mapUpdate, run_underlying und50, MapKept.run_getObj_map hb, hc, r, Result.andThen]
      exact run_setObj_map _ hb
    · refine ⟨⟨_, _, heap_setBlock_same hb _, ?_, ?_, ?_, ?_⟩⟩
      · intro e he
        rw [Array.toList_push, List.mem_append, List.mem_singleton] at he
        rcases he with he | rfl
        · exact hk e he
        · exact ⟨f, hf, rfl⟩
      · intro i j e e' hi hj hq
        rw [Array.toList_push] at hi hj
        by_cases ii : i < es.toList.length
        · rw [List.getElem?_append_left ii] at hi
          by_cases jj : j < es.toList.length
          · rw [List.getElem?_append_left jj] at hj
            exact hu i j e e' hi hj hq
          · rw [List.getElem?_append_right (by omega)] at hj
            have hj2 := List.mem_singleton.1 (List.mem_of_getElem? hj)
            subst hj2
            exact absurd hq (n e (List.mem_of_getElem? hi))
        · rw [List.getElem?_append_right (by omega)] at hi
          have hi2 := List.mem_singleton.1 (List.mem_of_getElem? hi)
          have li := (List.getElem?_eq_some_iff.1 hi).1
          subst hi2
          by_cases jj : j < es.toList.length
          · rw [List.getElem?_append_left jj] at hj
            exact absurd hq.symm (n e' (List.mem_of_getElem? hj))
          · rw [List.getElem?_append_right (by omega)] at hj
            have lj := (List.getElem?_eq_some_iff.1 hj).1
            simp only [List.length_singleton] at li lj
            omega
      · intro e he g hg
        rw [Array.toList_push, List.mem_append, List.mem_singleton] at he
        unfold putL
        rcases he with he | rfl
        · rw [if_neg (fun w => n e he (hg.trans (agg_nm.2 w).symm))]
          exact hy e he g hg
        · rw [if_pos (agg_nm.1 hg)]
      · intro g hg
        rw [Array.toList_push] at hg
        unfold putL
        rw [if_neg (fun w => hg _ (List.mem_append.2 (Or.inr (List.mem_singleton.2 rfl))) (agg_nm.2 w))]
        exact hn g fun e he => hg e (List.mem_append.2 (Or.inl he))
  · refine ⟨Obj.map (es.modify j fun e => { e with key := .agg (bA 8 f), val := z }) clock, ?_, ?_⟩
    · have e4 : ((es[j]?).map (·.key)).getD (.agg (bA 8 f)) = .agg (bA 8 f) := by
        rw [← Array.getElem?_toList, q]; exact p
      simp [Instr.mapUpdate, run_underlying und50, MapKept.run_getObj_map hb, hc, r, Result.andThen, e4, hst]
      exact run_setObj_map _ hb
    · have at_ : ∀ (i : Nat) (e' : MapEntry), (es.modify j fun e => { e with key := .agg (bA 8 f), val := z }).toList[i]? = some e' → ∃ e0 : MapEntry, es.toList[i]? = some e0 ∧ e'.key = e0.key ∧ (i = j → e'.val = z) ∧ (i ≠ j → e' = e0) := by
        intro i e' hi
        rw [Array.getElem?_toList, Array.getElem?_modify] at hi
        by_cases hj : j = i
        · subst hj
          rw [if_pos rfl, ← Array.getElem?_toList, q] at hi
          have hi := Option.some.inj hi
          subst hi
          exact ⟨e, q, p.symm, fun _ => rfl, fun h => absurd rfl h⟩
        · rw [if_neg hj, ← Array.getElem?_toList] at hi
          exact ⟨e', hi, rfl, fun h => absurd h.symm hj, fun _ => rfl⟩
      refine ⟨⟨_, _, heap_setBlock_same hb _, ?_, ?_, ?_, ?_⟩⟩
      · intro e' he
        obtain ⟨i, hi⟩ := List.getElem?_of_mem he
        obtain ⟨e0, h1, h2, _⟩ := at_ i e' hi
        rw [h2]
        exact hk e0 (List.mem_of_getElem? h1)
      · intro i k e1 e2 h1 h2 hq
        obtain ⟨a0, a1, a2, _⟩ := at_ i e1 h1
        obtain ⟨b0, b1, b2, _⟩ := at_ k e2 h2
        exact hu i k a0 b0 a1 b1 (by rw [← a2, ← b2]; exact hq)
      · intro e' he g hg
        obtain ⟨i, hi⟩ := List.getElem?_of_mem he
        obtain ⟨e0, h1, h2, h3, h4⟩ := at_ i e' hi
        unfold putL
        by_cases ij : i = j
        · subst ij
          rw [q] at h1
          cases h1
          rw [if_pos (agg_nm.1 (p.symm.trans (h2.symm.trans hg))), h3 rfl]
        · rw [if_neg (fun w => ij (hu i j e0 e h1 q (by rw [p, ← h2, hg]; exact (agg_nm.2 w).symm)))]
          rw [h4 ij]
          exact hy e0 (List.mem_of_getElem? h1) g (by rw [← h2]; exact hg)
      · intro g hg
        have lj : j < es.size := by rw [← Array.length_toList]; exact (List.getElem?_eq_some_iff.1 q).1
        have hall : ∀ e0 ∈ es.toList, e0.key ≠ .agg (bA 8 g) := by
          intro e0 he0 hq
          obtain ⟨i, hi⟩ := List.getElem?_of_mem he0
          have hm : ∃ e', (es.modify j fun e => { e with key := .agg (bA 8 f), val := z }).toList[i]? = some e' ∧ e'.key = e0.key := by
            rw [Array.getElem?_toList, Array.getElem?_modify]
            rw [Array.getElem?_toList] at hi
            by_cases hj : j = i
            · subst hj
              rw [← Array.getElem?_toList, q] at hi
              cases hi
              rw [if_pos rfl, ← Array.getElem?_toList, q]
              exact ⟨_, rfl, p.symm⟩
            · rw [if_neg hj]; exact ⟨e0, hi, rfl⟩
          obtain ⟨e', m1, m2⟩ := hm
          exact hg e' (List.mem_of_getElem? m1) (m2.trans hq)
        unfold putL
        rw [if_neg (fun w => hall e (List.mem_of_getElem? q) (p.trans (agg_nm.2 w)))]
        exact hn g hall
theorem MD.lt (h : MD W b m) : b < W.heap.size := by
  obtain ⟨es, clock, hb, -⟩ := h.map
  exact (Array.getElem?_eq_some_iff.1 hb).1
theorem MD.keep {X : World} (h : MD W b m) (e : X.heap[b]? = W.heap[b]?) : MD X b m := by
  obtain ⟨es, clock, q, r⟩ := h.map
  exact ⟨⟨es, clock, by rw [e]; exact q, r⟩⟩
theorem MD.on {X : World} (h : MD W b m) (hb : Below W.heap.size W X) : MD X b m := h.keep (hb.block b h.lt)
end
theorem md_new (W : World) : MD (W.alloc (.map #[] 0)) W.heap.size fun _ => none := ⟨⟨#[], 0, heapNew W _, by simp, by simp, by simp, by simp⟩⟩
end Go.Proofs.Ytcibogmghagpoaa.Dro
