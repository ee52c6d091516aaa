import Derived.Test.YtcgkelgncehekaaE8n
namespace Go.Proofs.Ytcgkelgncehekaa.Loo
open Go.RowKit Gf8 Aes By8 Cel Cf Win Drw Prm
/- LoomExamples: the plans and what comes of them. -/

def exBo (t j : Nat) : Op3 := if t = 0 then ⟨9, 1, 0⟩ else ⟨9, 0, (j : Int) * 0⟩
def exB : Pl where
  d := 0
  n := 2
  cap := fun _ => 0
  ln := fun _ => 1
  op := exBo
def exCo (j : Nat) : Op3 := if j = 2 then ⟨1, 0, 0⟩ else ⟨3, 0, 0⟩
def exC : Pl where
  d := 1
  n := 1
  cap := fun _ => 0
  ln := fun _ => 3
  op := fun _ => exCo
def exDo (_ : Nat) : Op3 := ⟨6, 0, 0⟩
def exD : Pl where
  d := 0
  n := 1
  cap := fun _ => 0
  ln := fun _ => 1
  op := fun _ => exDo
def sc0 : Nat → Int := scr 0 fun _ => 0
theorem exA_is : chk (pairP 0) = 0 ∧ (∀ i, i < 3 → pk (pairP 0) sc0 i = 0) ∧ mx (pairP 0) sc0 3 = 0 ∧ live (pairP 0) (rk (pairP 0) sc0 3) = false ∧ (rk (pairP 0) sc0 3).lt = 0 := by decide +kernel
theorem exA_run : Run (pairP 0) sc0 3 := ⟨by omega, by decide +kernel, Or.inl (by decide +kernel)⟩
theorem exB_is : chk exB = 0 ∧ mx exB sc0 0 = 0 ∧ live exB (rk exB sc0 0) = true ∧ (rk exB sc0 0).lt = 0 ∧ mayL exB (rk exB sc0 0) = [] := by decide +kernel
theorem exB_run : Run exB sc0 0 := ⟨by omega, fun j hj => absurd hj (Nat.not_lt_zero j), Or.inl exB_is.2.2.2.2⟩
theorem exC_is : chk exC = 0 ∧ mx exC sc0 3 = 0 ∧ live exC (rk exC sc0 3) = false ∧ (rk exC sc0 3).lt = 2 := by decide +kernel
theorem exC_run : Run exC sc0 3 := ⟨by omega, by decide +kernel, Or.inl (by decide +kernel)⟩
theorem exD_chk : chk exD = 0 := by decide +kernel
theorem exD_at {r : Rm} (h1 : r.pl 0 = 0) (h2 : r.en 0 = false) : at_ exD r 0 = ⟨6, 0, 0⟩ := by
  unfold at_ gone
  rw [h1, h2]
  rfl
theorem exD_may {r : Rm} (h1 : r.pl 0 = 0) (h2 : r.en 0 = false) : mayL exD r = [0] := by
  have hm : may exD r 0 = true := by
    unfold may
    rw [exD_at h1 h2]
    rfl
  show List.filter (may exD r) [0] = [0]
  simp [hm]
theorem exD_rk (s : Nat → Int) : ∀ k, (rk exD s k).pl 0 = 0 ∧ (rk exD s k).en 0 = false ∧ (rk exD s k).lt = 0
  | 0 => ⟨rfl, rfl, rfl⟩
  | k + 1 => by
    obtain ⟨h1, h2, h3⟩ := exD_rk s k
    have hp : pk exD s k = 0 := by
      unfold pk
      rw [exD_may h1 h2]
      have := chn_lt (x := s k) (m := [0].length) (by decide)
      have e : chn (s k) [0].length = 0 := by simp at this; exact this
      rw [e]
      rfl
    have hs : stp exD (rk exD s k) 0 = { rk exD s k with pl := upf (rk exD s k).pl 0 0 } := by
      unfold stp
      rw [exD_at h1 h2]
      rfl
    rw [rk_succ, hp, hs]
    exact ⟨by show upf (rk exD s k).pl 0 0 0 = 0; rw [upf_at], h2, h3⟩
theorem exD_run (s : Nat → Int) : Run exD s 65536 := ⟨Nat.le_refl _, fun j _ => by rw [exD_may (exD_rk s j).1 (exD_rk s j).2.1]; simp, Or.inr rfl⟩
theorem exD_live (s : Nat → Int) (k : Nat) : live exD (rk exD s k) = true ∧ mayL exD (rk exD s k) = [0] := by
  refine ⟨?_, exD_may (exD_rk s k).1 (exD_rk s k).2.1⟩
  show List.any [0] (fun t => decide ((at_ exD (rk exD s k) t).k ≠ 0)) = true
  simp [exD_at (exD_rk s k).1 (exD_rk s k).2.1]
theorem exD_mx (s : Nat → Int) : ∀ k, mx exD s k = 0
  | 0 => rfl
  | k + 1 => by
    rw [mx, exD_mx s k]
    rfl
/-- Play, where the run is known. -/
theorem play_of (I : LImpl) (p : Pl) (v sv : Value) (m N M lt : Nat) (sc : Nat → Int) (en st : Bool) (V : World) (hp : PlA V v p) (hs : SliceI V sv m sc) (hc : chk p = 0) (hr : Run p (scr m sc) N) (h1 : mx p (scr m sc) N = M) (h2 : (!live p (rk p (scr m sc) N)) = en) (h3 : (live p (rk p (scr m sc) N) && decide (mayL p (rk p (scr m sc) N) = [])) = st) (h4 : (rk p (scr m sc) N).lt = lt) :
    Calls Try.prog 10 #[v, sv] V fun e w' => ∃ pk tk tv, e = .returned (.tuple #[.agg (hC pk M en st lt tk), .int .i64 ((0 : Nat) : Int)]) ∧ His V.heap.size w' pk tk tv N p.n (fun i => (Loo.pk p (scr m sc) i : Int)) (rk p (scr m sc) N).tk ∧ Below V.heap.size V w' := by
  refine Calls.mono (I.play p v sv m sc V hp hs) fun e w' ⟨⟨_, h⟩, hb⟩ => ?_
  obtain ⟨pk, tk, tv, N', hr', he, hh⟩ := h hc
  obtain rfl := hr'.uniq hr
  rw [h1, h2, h3, h4] at he
  exact ⟨pk, tk, tv, he, hh, hb⟩
section
variable {W : World} {g1 g2 g3 g4 : Nat}
theorem pla_b (h1 : W.heap[g1]? = some (.cells (oR 1 (exBo 0)) 35)) (h2 : W.heap[g2]? = some (.cells (oR 1 (exBo 1)) 35)) (h3 : W.heap[g3]? = some (.cells (vR 2 (fun i => if i = 0 then .slice (some ⟨g1, 0, none⟩) 1 1 else .slice (some ⟨g2, 0, none⟩) 1 1)) 36)) : PlA W (.agg #[.slice none 0 0, .slice (some ⟨g3, 0, none⟩) 2 2]) exB := by
  refine ⟨_, _, _, rfl, slice_nilI, vR_slice h3, fun t ht => ?_⟩
  have ht' : t < 2 := ht
  rcases (show t = 0 ∨ t = 1 by omega) with rfl | rfl
  · exact oR_slice h1 (by decide)
  · exact oR_slice h2 (by decide)
theorem pla_c (h1 : W.heap[g1]? = some (.cells (iR 1 (fun _ => 0)) 3)) (h2 : W.heap[g2]? = some (.cells (oR 3 exCo) 35)) (h3 : W.heap[g3]? = some (.cells (vR 1 (fun _ => .slice (some ⟨g2, 0, none⟩) 3 3)) 36)) : PlA W (.agg #[.slice (some ⟨g1, 0, none⟩) 1 1, .slice (some ⟨g3, 0, none⟩) 1 1]) exC := by
  refine ⟨_, _, _, rfl, iR_slice (f := fun _ => 0) h1 (by omega) (fun _ _ => (by decide : I64 (0 : Int))), vR_slice h3, fun t ht => ?_⟩
  exact oR_slice (q := exCo) h2 (by decide)
theorem pla_d (h2 : W.heap[g2]? = some (.cells (oR 1 exDo) 35)) (h3 : W.heap[g3]? = some (.cells (vR 1 (fun _ => .slice (some ⟨g2, 0, none⟩) 1 1)) 36)) : PlA W (.agg #[.slice none 0 0, .slice (some ⟨g3, 0, none⟩) 1 1]) exD := by
  refine ⟨_, _, _, rfl, slice_nilI, vR_slice h3, fun t ht => ?_⟩
  exact oR_slice (q := exDo) h2 (by decide)
end
/-- Plans that are checked: caps all c, n tasks of l operations each, all of them q. -/
def exP (d n l : Nat) (c : Int) (q : Op3) : Pl where
  d := d
  n := n
  cap := fun _ => c
  ln := fun _ => l
  op := fun _ _ => q
theorem exP_is : chk (exP 64 128 0 0 ⟨0, 0, 0⟩) = 0 ∧ chk (exP 65 0 0 0 ⟨0, 0, 0⟩) = 1 ∧ chk (exP 0 129 0 0 ⟨0, 0, 0⟩) = 1 ∧ chk (exP 1 1 256 1024 ⟨10, 0, 0⟩) = 0 ∧ chk (exP 1 1 257 1025 ⟨10, 0, 0⟩) = 1 ∧ chk (exP 1 0 0 1025 ⟨0, 0, 0⟩) = 190 := by decide +kernel
theorem chk_of (I : LImpl) {p : Pl} {v : Value} {V : World} {c : Nat} (hp : PlA V v p) (hc : chk p = c) : Calls Try.prog 13 #[v] V fun e w' => e = .returned (.int .i64 ((c : Nat) : Int)) ∧ Below V.heap.size V w' := hc ▸ I.check p v V hp
/-- A new list of noughts, of no lists. -/
theorem mk_ints {W : World} {g n : Nat} (h : W.heap[g]? = some (.cells (madeCells #[.int .i64 0] n) 3)) (hn : n ≤ 1000) : SliceI W (.slice (some ⟨g, 0, none⟩) n n) n (fun _ => 0) := by
  refine ⟨⟨_, _, rfl, Nat.le_refl _, by unfold maxLen; omega, fun _ => ⟨g, 0, rfl, (Array.getElem?_eq_some_iff.1 h).1, fun j hj => ?_⟩⟩, fun _ _ => by decide⟩
  rw [cell_of_row _ _ _ _ _ _ h, Nat.zero_add]
  simp [madeCells, hj, Nat.mod_one]
theorem mk_lists {W : World} {g n : Nat} {t : TypeId} (h : W.heap[g]? = some (.cells (madeCells #[.slice none 0 0] n) t)) : SliceV W (.slice (some ⟨g, 0, none⟩) n n) n (fun _ => .slice none 0 0) := by
  refine ⟨_, _, rfl, fun _ => ⟨g, 0, rfl, (Array.getElem?_eq_some_iff.1 h).1, fun j hj => ?_⟩⟩
  rw [cell_of_row _ _ _ _ _ _ h, Nat.zero_add]
  simp [madeCells, hj, Nat.mod_one]
theorem nil_ops {W : World} {q : Nat → Op3} : SliceO W (.slice none 0 0) 0 q := ⟨⟨_, _, rfl, fun h => absurd h (Nat.lt_irrefl 0)⟩, fun j hj => absurd hj (Nat.not_lt_zero j)⟩
theorem nil_vals {W : World} {x : Nat → Value} : SliceV W (.slice none 0 0) 0 x := ⟨_, _, rfl, fun h => absurd h (Nat.lt_irrefl 0)⟩
section
variable {o : Oper} {a : Act} {w : World}
theorem execMkI19 {n : Nat} (ho : o.op = .makeSlice 23 (.const (.int .i64 ((n : Nat) : Int))) (.const (.int .i64 ((n : Nat) : Int)))) (hn : n ≤ 1000) : (execOp a.eval o).run Try.prog w = .ok (.value (.slice (some ⟨w.heap.size, 0, none⟩) n n)) (w.alloc (.cells (madeCells #[.int .i64 0] n) 3)) := execMkN ho rfl rfl (by omega)
theorem execMkVO {n : Nat} (ho : o.op = .makeSlice 30 (.const (.int .i64 ((n : Nat) : Int))) (.const (.int .i64 ((n : Nat) : Int)))) (hn : n ≤ 1000) : (execOp a.eval o).run Try.prog w = .ok (.value (.slice (some ⟨w.heap.size, 0, none⟩) n n)) (w.alloc (.cells (madeCells #[.slice none 0 0] n) 36)) := by
  obtain ⟨i, h1, h2, h3, h4⟩ := infoOs
  have h := run_make (P := Try.prog) w 30 36 i (.slice none 0 0) Try.underlying30 h1 h2 .i64 .i64 (n : Int) (n : Int) (by omega) (by omega) (by rw [h4]; omega) (by omega)
  rw [h3, Int.toNat_natCast, Nat.mul_one] at h
  unfold execOp
  have hc : a.eval (.const (.int .i64 ((n : Nat) : Int))) = .int .i64 ((n : Nat) : Int) := rfl
  simp only [ho, hc, Sem.run_bind, h, Result.andThen_ok, Sem.run_pure]
  rfl
theorem execMkOp {n : Nat} (ho : o.op = .makeSlice 36 (.const (.int .i64 ((n : Nat) : Int))) (.const (.int .i64 ((n : Nat) : Int)))) (hn : n ≤ 1000) : (execOp a.eval o).run Try.prog w = .ok (.value (.slice (some ⟨w.heap.size, 0, none⟩) n n)) (w.alloc (.cells (madeCells (oC 0 0 0) (n * 3)) 35)) := by
  obtain ⟨i, h1, h2, h3, h4⟩ := infoOp
  have h := run_make (P := Try.prog) w 36 35 i (.agg (oC 0 0 0)) Try.underlying36 h1 h2 .i64 .i64 (n : Int) (n : Int) (by omega) (by omega) (by rw [h4]; omega) (by omega)
  rw [h3, Int.toNat_natCast] at h
  unfold execOp
  have hc : a.eval (.const (.int .i64 ((n : Nat) : Int))) = .int .i64 ((n : Nat) : Int) := rfl
  simp only [ho, hc, Sem.run_bind, h, Result.andThen_ok, Sem.run_pure]
  rfl
theorem execIxO {x i : Operand} {g n cap k : Nat} (ho : o.op = .indexAddr 36 x i) (hx : a.eval x = .slice (some ⟨g, 0, none⟩) n cap) (hi : a.eval i = .int .i64 (k : Int)) (hk : k < n) : (execOp a.eval o).run Try.prog w = .ok (.value (.pointer (some ⟨g, k * 3, none⟩))) w := by
  have h1 : (k : Int) < n := by omega
  unfold execOp
  simp only [ho, hx, hi]
  simp [go_sem, h1]
theorem execStOp {x y : Operand} {g f n : Nat} {q : Nat → Op3} {k b c : Int} (ho : o.op = .store 35 x y) (hx : a.eval x = .pointer (some ⟨g, f * 3, none⟩)) (hy : a.eval y = .agg (oC k b c)) (hg : w.heap[g]? = some (.cells (oR n q) 35)) (hf : f < n) : (execOp a.eval o).run Try.prog w = .ok .skip (w.setRow g (oR n (upf q f ⟨k, b, c⟩))) := by
  have hsz : (oR n q).size = n * 3 := by rw [← Array.length_toList]; exact opL_len q n
  have h := execStMid (P := Try.prog) ho hx hy hg (by rw [hsz]; show f * 3 + 3 ≤ n * 3; omega) (by show _ = some 3; kernel_rfl) (by simp [oC, Value.oneCell'])
  have e : ((oR n q).toList.take (f * 3) ++ (oC k b c).toList ++ (oR n q).toList.drop (f * 3 + (oC k b c).size)).toArray = oR n (upf q f ⟨k, b, c⟩) := by
    have e1 : (oR n q).toList = opL n q := rfl
    have e2 : opL n q = opL f q ++ (opL 1 (fun j => q (f + j)) ++ opL (n - f - 1) (fun j => q (f + 1 + j))) := by
      have a1 := opL_add q f (1 + (n - f - 1))
      have a2 := opL_add (fun j => q (f + j)) 1 (n - f - 1)
      rw [show f + (1 + (n - f - 1)) = n by omega] at a1
      rw [← a1, ← a2]
      congr 2
      exact opL_cg fun j _ => by rw [Nat.add_assoc]
    have e3 : opL n (upf q f ⟨k, b, c⟩) = opL f q ++ ((oC k b c).toList ++ opL (n - f - 1) (fun j => q (f + 1 + j))) := by
      have a1 := opL_add (upf q f ⟨k, b, c⟩) f (1 + (n - f - 1))
      have a2 := opL_add (fun j => upf q f ⟨k, b, c⟩ (f + j)) 1 (n - f - 1)
      rw [show f + (1 + (n - f - 1)) = n by omega] at a1
      rw [← a1, ← a2, opL_cg (q := upf q f ⟨k, b, c⟩) (r := q) (fun j hj => upf_ne _ _ (by omega)), opL_cg (n := n - f - 1) (r := fun j => q (f + 1 + j)) (fun j hj => by
        show upf q f _ (f + (1 + j)) = _
        rw [upf_ne _ _ (by omega), Nat.add_assoc])]
      congr 2
      show [Value.int .i64 (upf q f ⟨k, b, c⟩ (f + 0)).k, .int .i64 (upf q f ⟨k, b, c⟩ (f + 0)).a, .int .i64 (upf q f ⟨k, b, c⟩ (f + 0)).b] = _
      rw [Nat.add_zero, upf_at]
      rfl
    have e4 : oR n (upf q f ⟨k, b, c⟩) = (opL n (upf q f ⟨k, b, c⟩)).toArray := rfl
    rw [e4, e3, e1, e2]
    have l1 : (opL f q).length = f * 3 := opL_len q f
    rw [List.take_left' l1, show f * 3 + (oC k b c).size = f * 3 + 3 from rfl, ← List.drop_drop, List.drop_left' l1, List.drop_left' (opL_len _ 1), List.append_assoc]
  rw [e] at h
  exact h
end
theorem mk_l (n : Nat) : (madeCells (oC 0 0 0) n).toList = List.replicate n (.int .i64 0) := by
  have h1 : ∀ q, ((oC 0 0 0)[q % (oC 0 0 0).size]!) = Value.int .i64 0 := fun q => by
    have hs : (oC 0 0 0).size = 3 := rfl
    rw [hs]
    have h3 : q % 3 < 3 := Nat.mod_lt _ (by omega)
    generalize q % 3 = k at h3
    match k, h3 with
    | 0, _ => rfl
    | 1, _ => rfl
    | 2, _ => rfl
    | k + 3, h => omega
  unfold madeCells
  rw [funext h1]
  simp only [Array.toList_map, Array.toList_range]
  rw [List.map_const', List.length_range]
theorem mk_r : ∀ n, (oR n (fun _ => ⟨0, 0, 0⟩)).toList = List.replicate (n * 3) (.int .i64 0)
  | 0 => rfl
  | n + 1 => by
    have ih : (List.range n).flatMap (fun _ => [Value.int .i64 0, .int .i64 0, .int .i64 0]) = List.replicate (n * 3) (.int .i64 0) := mk_r n
    show (List.range (n + 1)).flatMap (fun _ => [Value.int .i64 0, .int .i64 0, .int .i64 0]) = _
    rw [List.range_succ, List.flatMap_append, ih, show (n + 1) * 3 = n * 3 + 3 by omega, ← List.replicate_append_replicate]
    rfl
theorem mk_ops : madeCells (oC 0 0 0) (257 * 3) = oR 257 (fun _ => ⟨0, 0, 0⟩) := Array.toList_inj.1 ((mk_l _).trans (mk_r 257).symm)
end Go.Proofs.Ytcgkelgncehekaa.Loo
