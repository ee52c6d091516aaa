import Derived.Test.YteekoabgbjbabaaGreatDoorV8r
import Derived.Test.YteekoabgbjbabaaGreatDoorW8f
import Derived.Test.YteekoabgbjbabaaGreatDoorW8l
import Derived.Test.YteekoabgbjbabaaGreatDoorC9f
namespace Go.Proofs.YteekoabgbjbabaaGreatDoor.Rpl
open Go.RowKit Gf8 Aes By8 Cel Cf Tap Drw Dro Oni Rou
/- ReplyKeeps: from region 28 on. Written by tools/mkW8m.py. -/

/-- A key and two marks behind it; the payload and two marks. -/
def rmK (p : Nat → Nat) (j : Nat) : Nat := if j < 32 then p j else if j = 32 then 161 else 162
def rmR (p : Nat → Nat) (n j : Nat) : Nat := if j < n then p j else if j = n then 163 else 164
/-- The copies of the keys: rows of their own, two marked places behind each. -/
structure CpK (lo hi : Nat) (W : World) (v : Value) (n : Nat) (g cp : Nat → Nat) (c : Nat → Nat → Nat) : Prop where
  own : W.ownsRow lo 24 1 v n (lL (fun t => .slice (some ⟨g t, 0, none⟩) 32 (cp t)) n)
  fam : Fam lo n (fun t => .slice (some ⟨g t, 0, none⟩) 34 (cp t)) (fun _ => 34) (fun t => rmK (c t)) W
  byt : ∀ t, t < n → ∀ j, j < 32 → c t j < 256
  hv : ∀ k, v.ownBlock = some k → k < hi
  hr : ∀ t, t < n → g t < hi
theorem rmK_lt {p : Nat → Nat} (h : ∀ i, i < 32 → p i < 256) {j : Nat} : rmK p j < 256 := by
  unfold rmK
  split
  · rename_i q; exact h j q
  · split <;> decide
theorem rmR_lt {p : Nat → Nat} {n : Nat} (h : ∀ i, i < n → p i < 256) {j : Nat} : rmR p n j < 256 := by
  unfold rmR
  split
  · rename_i q; exact h j q
  · split <;> decide
section
variable {lo hi n : Nat} {W W' : World} {v : Value} {g cp : Nat → Nat} {c : Nat → Nat → Nat}
theorem CpK.on (h : CpK lo hi W v n g cp c) (hb : Below W.heap.size W W') : CpK lo hi W' v n g cp c := ⟨ownD_below h.own hb, h.fam.on hb, h.byt, h.hv, h.hr⟩
theorem CpK.row (h : CpK lo hi W v n g cp c) {t : Nat} (ht : t < n) : SliceN W (.slice (some ⟨g t, 0, none⟩) 34 (cp t)) 34 (rmK (c t)) := own_slice (h.fam.rows t ht) fun _ _ => rmK_lt (h.byt t ht)
theorem CpK.room (h : CpK lo hi W v n g cp c) {t : Nat} (ht : t < n) : 34 ≤ cp t := by
  rcases (h.fam.rows t ht).2 with ⟨e, _⟩ | ⟨g', c', cur, e, _, _, h3, _⟩
  · cases e
  · injection e with _ _ e3; omega
theorem CpK.ls (h : CpK lo hi W v n g cp c) : Ls W v n (fun t => .slice (some ⟨g t, 0, none⟩) 32 (cp t)) (fun _ => 32) c :=
  ls_of h.own (fun t ht => slice_cg (Cf.takeN (h.row ht) (by omega)) fun j hj => if_pos hj) (fun t _ l c e => by cases e) (fun _ _ => by omega)
theorem CpK.lo_ (h : CpK lo hi W v n g cp c) {t : Nat} (ht : t < n) : lo ≤ g t := ((h.fam.rows t ht).lt (g t) rfl).1
theorem CpK.ty (h : CpK lo hi W v n g cp c) {t : Nat} (ht : t < n) : ∃ cu, W.heap[g t]? = some (.cells cu 5) := own_type (h.fam.rows t ht) (k := g t) rfl
theorem CpK.at (h : CpK lo hi W v n g cp c) {t j : Nat} (ht : t < n) (hj : j < 34) : W.cell? ⟨adB (.slice (some ⟨g t, 0, none⟩) 34 (cp t)), adO (.slice (some ⟨g t, 0, none⟩) 34 (cp t)) + j, none⟩ = some (.int .u8 ((rmK (c t) j : Nat) : Int)) ∧ W.frozen? ⟨adB (.slice (some ⟨g t, 0, none⟩) 34 (cp t)), adO (.slice (some ⟨g t, 0, none⟩) 34 (cp t)) + j, none⟩ = false := by
  have e : adO (.slice (some ⟨g t, 0, none⟩) 34 (cp t)) + j = j := Nat.zero_add j
  rw [e]
  obtain ⟨cc, hc⟩ := h.ty ht
  exact ⟨own_at8 (h.fam.rows t ht) hj, frozen4 hc⟩
theorem CpK.put (h : CpK lo hi W v n g cp c) {t j : Nat} (ht : t < n) (hj : j < 32) {z : Nat} (hz : z < 256) : CpK lo hi (W.setCell ⟨adB (.slice (some ⟨g t, 0, none⟩) 34 (cp t)), adO (.slice (some ⟨g t, 0, none⟩) 34 (cp t)) + j, none⟩ (.int .u8 ((z : Nat) : Int))) v n g cp (fun s => if s = t then (fun l => if l = j then z else c t l) else c s) := by
  have e : adO (.slice (some ⟨g t, 0, none⟩) 34 (cp t)) + j = j := Nat.zero_add j
  rw [e]
  obtain ⟨cc, hc⟩ := h.ty ht
  refine ⟨ownW_setCell h.own hc (by decide), fam_cg8 (fam_set8 h.fam ht rfl z) fun s hs l hl => ?_, fun s hs l hl => ?_, h.hv, h.hr⟩
  · by_cases e : s = t
    · subst e
      rw [if_pos rfl]
      show (if l = j then z else rmK (c s) l) = rmK (if s = s then (fun l => if l = j then z else c s l) else c s) l
      rw [if_pos rfl]
      unfold rmK
      by_cases e2 : l = j
      · rw [if_pos e2, if_pos (by omega)]; exact (if_pos e2).symm
      · rw [if_neg e2]
        by_cases q : l < 32
        · rw [if_pos q, if_pos q]; exact (if_neg e2).symm
        · rw [if_neg q, if_neg q]
    · rw [if_neg e]
      show rmK (c s) l = rmK (if s = t then (fun l => if l = j then z else c t l) else c s) l
      rw [if_neg e]
  · show (if s = t then (fun l => if l = j then z else c t l) else c s) l < 256
    by_cases e : s = t
    · subst e
      rw [if_pos rfl]
      by_cases e2 : l = j
      · simp only [if_pos e2]; exact hz
      · simp only [if_neg e2]; exact h.byt s hs l hl
    · rw [if_neg e]; exact h.byt s hs l hl
theorem CpK.cg {d : Nat → Nat → Nat} (h : CpK lo hi W v n g cp c) (e : ∀ t, t < n → ∀ j, j < 32 → c t j = d t j) : CpK lo hi W v n g cp d :=
  ⟨h.own, fam_cg8 h.fam fun t ht l _ => by show rmK (c t) l = rmK (d t) l; unfold rmK; split; rename_i q; exact e t ht l q; rfl, fun t ht j hj => by rw [← e t ht j hj]; exact h.byt t ht j hj, h.hv, h.hr⟩
theorem heap_offT {b k j : Nat} {d : Array Value} {t : TypeId} {z : Value} (h : W.heap[b]? = some (.cells d t)) (hk : ∃ cu, W.heap[k]? = some (.cells cu 5)) (ht : t ≠ 5) : (W.setCell ⟨k, j, none⟩ z).heap[b]? = some (.cells d t) := by
  obtain ⟨cu, q⟩ := hk
  rw [heap_set28 (fun e => by
    subst e
    rw [h] at q
    injection q with q
    injection q with _ q5
    exact ht q5)]
  exact h
end
/-- The keys written over, so far. -/
def xoK (c : Nat → Nat → Nat) (i k t j : Nat) : Nat := if t < i ∨ (t = i ∧ j < k) then c t j ^^^ 85 else c t j
section
variable {c : Nat → Nat → Nat} {i k t j l : Nat}
theorem xoK_0 : c t j = xoK c 0 0 t j := (if_neg (by omega)).symm
theorem xoK_at : xoK c i k i k = c i k := if_neg (by omega)
theorem xoK_at0 : xoK c i 0 i j = c i j := if_neg (by omega)
theorem xoK_set : (if t = i then (fun l => if l = k then c i k ^^^ 85 else xoK c i k i l) else xoK c i k t) l = xoK c i (k + 1) t l := by
  by_cases e : t = i
  · subst e
    rw [if_pos rfl]
    show (if l = k then c t k ^^^ 85 else xoK c t k t l) = _
    unfold xoK
    by_cases e2 : l = k
    · subst e2; rw [if_pos rfl, if_pos (by omega)]
    · rw [if_neg e2]
      by_cases e3 : l < k
      · rw [if_pos (by omega), if_pos (by omega)]
      · rw [if_neg (by omega), if_neg (by omega)]
  · rw [if_neg e]
    unfold xoK
    by_cases e3 : t < i
    · rw [if_pos (by omega), if_pos (by omega)]
    · rw [if_neg (by omega), if_neg (by omega)]
theorem xoK_next (hj : j < 32) : xoK c i 32 t j = xoK c (i + 1) 0 t j := by
  unfold xoK
  by_cases e : t < i
  · rw [if_pos (by omega), if_pos (by omega)]
  · by_cases e2 : t = i
    · subst e2; rw [if_pos (by omega), if_pos (by omega)]
    · rw [if_neg (by omega), if_neg (by omega)]
theorem xor85 {x : Nat} (h : x < 256) : x ^^^ 85 < 256 := Nat.xor_lt_two_pow (n := 8) h (by decide)
end
theorem eqB_same (n : Nat) (f : Nat → Nat) : eqB n f f = true := by
  unfold eqB
  simp
section
variable {o : Oper} {a : Act} {w W : World} {x y : Operand} {v : Value} {n k z : Nat} {p : Nat → Nat}
theorem execNe7c {c : Int} {r : Nat} (ho : o.op = .binOp .neq 5 x (.const (.int .u8 c)) 5) (hx : a.eval x = .int .u8 ((r : Nat) : Int)) (e : ((r : Nat) : Int) = c) : (execOp a.eval o).run Tryz.prog w = .ok (.value (.bool false)) w := by
  subst e
  unfold execOp
  simp only [ho, hx]
  simp [go_sem]
theorem execLdSbE (h : SliceN W v n p) (ho : o.op = .load 5 x) (hx : a.eval x = .pointer (some ⟨adB v, adO v + k, none⟩)) (hk : k < n) (e : p k = z) : (execOp a.eval o).run Tryz.prog W = .ok (.value (.int .u8 ((z : Nat) : Int))) W := by
  rw [← e]
  exact execLdSb h ho hx hk
end
theorem cut_load {W : World} {B n : Nat} {v : Value} {p : Nat → Nat} (h : W.ownsRow B 5 1 v (n + 2) (bytesL (n + 2) (rmR p n))) (hp : ∀ i, i < n → p i < 256) : SliceN W (cutH v n) n p := slice_cg (cutH_is (own_slice h fun _ _ => rmR_lt hp) (by omega)) fun j hj => if_pos hj
theorem cut_nil {W : World} {B n : Nat} {v : Value} {p : Nat → Nat} (h : W.ownsRow B 5 1 v (n + 2) (bytesL (n + 2) (rmR p n))) : ∀ l c, cutH v n = .slice none l c → c = 0 := fun l c e => by
  rcases h.2 with ⟨_, e2⟩ | ⟨g', c', cur, e2, _⟩
  · have := h.1
    rw [e2] at this
    exact absurd e2 (by omega)
  · subst e2
    have q : cutH (.slice (some ⟨g', 0, none⟩) (n + 2) c') n = sliced (some ⟨g', 0, none⟩) 0 n c' 1 := rfl
    rw [q] at e
    unfold sliced at e
    split at e <;> (injection e with e1; cases e1)
theorem nons_own {W : World} {B h : Nat} {v : Value} {q : Nat → Nat → Nat} (ho : W.ownsRow B 35 16 v h (Win.tgV q h)) (hb : ∀ i, i < h → By (q i)) (_hh : h ≤ 8) : Nons W v h q := by
  have t := Win.own_tgs ho hb
  obtain ⟨a, c, e, h1, h2, h3⟩ := t.shape
  exact ⟨⟨a, c, e, h1, h2, fun h0 => by
    obtain ⟨b, o, e2, hl, hc⟩ := h3 h0
    exact ⟨b, o, e2, hl, fun i hi j hj => hc i hi j hj⟩⟩, hb⟩
set_option maxRecDepth 100000 in
set_option maxHeartbeats 4000000 in
/-- ReplyKeeps from region 28 on. -/
theorem keepsC {G : World → Prop} (I : Impl G) (h n : Nat) (kv nv pv : Value) (xv : Nat → Value) (key q : Nat → Nat → Nat) (p : Nat → Nat) (V : World) (hg : ∀ W, Below V.heap.size V W → G W) (hK : Ls V kv h xv (fun _ => 32) key) (hN : Nons V nv h q) (hP : SliceN V pv n p) (w1 : 1 ≤ h) (w2 : h ≤ 8) (w5 : n ≤ 48) (S : World) (v3 v6 v7 : Value) (g cp : Nat → Nat) (g1 s3 : Nat) (BB : Below V.heap.size V S) (FI : (CpK V.heap.size s3 S v3 h g cp (key))) (Fg1 : (S.heap[g1]? = some (.cells #[kv, nv, pv] 26))) (FO6 : (S.ownsRow s3 35 16 v6 h (Win.tgV q h))) (FR : (S.ownsRow s3 5 1 v7 (n + 2) (bytesL (n + 2) (rmR p n))))
    (a : Act) (A : a.tmps.size = 369 ∧ a.defers = []) (t1 : a.eval (.tmp 1) = .pointer (some ⟨g1, 0, none⟩)) (t3 : a.eval (.tmp 3) = v3) (t6 : a.eval (.tmp 6) = v6) (t8 : a.eval (.tmp 8) = cutH v7 n) :
    (Tap.findR 28 (Tryz.f3.body.getD .skip)).wp Tryz.prog (bodyPost Tryz.prog Tryz.f3 fun e w' => e = .returned (.bool true) ∧ Below V.heap.size V w') a S := by
  replace FI : (CpK V.heap.size s3 S v3 h g cp (xoK key 0 0)) := FI.cg (fun t _ j _ => xoK_0)
  refine wp_seq ?_
  refine wp_seq ?_
  refine wi_ A (h4_ t1 t3 t6 t8) (rf_ [(28, .int .i64 ((0 : Nat) : Int))] (h4_ t1 t3 t6 t8) ?_)
  rintro a A ⟨t28, -⟩ ⟨t1, t3, t6, t8, -⟩
  refine wp_block ?_
  refine wp_loop (fun a W => ∃ (i : Nat), i ≤ h ∧ (a.tmps.size = 369 ∧ a.defers = []) ∧ a.eval (.tmp 1) = .pointer (some ⟨g1, 0, none⟩) ∧ a.eval (.tmp 3) = v3 ∧ a.eval (.tmp 6) = v6 ∧ a.eval (.tmp 8) = cutH v7 n ∧ a.eval (.tmp 28) = .int .i64 ((i : Nat) : Int) ∧ Below V.heap.size V W ∧ (CpK V.heap.size s3 W v3 h g cp (xoK key i 0)) ∧ (W.heap[g1]? = some (.cells #[kv, nv, pv] 26)) ∧ (W.ownsRow s3 35 16 v6 h (Win.tgV q h)) ∧ (W.ownsRow s3 5 1 v7 (n + 2) (bytesL (n + 2) (rmR p n)))) (fun a _ => h - (intOf (a.eval (.tmp 28))).toNat) ⟨0, Nat.zero_le _, A, t1, t3, t6, t8, t28, BB, FI, Fg1, FO6, FR⟩ ?_
  clear A t1 t3 t6 t8 t28 BB FI Fg1 FO6 FR a
  rintro a XL29 ⟨i, hi, A, t1, t3, t6, t8, t28, BB, FI, Fg1, FO6, FR⟩
  have esi := t28
  refine wp_seq ?_
  refine wp_seq ?_
  refine wi_ A (h5_ t1 t3 t6 t8 t28) (rv_ 2 (.int .i64 ((h : Nat) : Int)) (fun a ee => execLenLL rfl (ee _) (FI.ls).shp) (rv_ 3 (.bool (decide (i < h))) (fun a ee => execLtW (p := i) (q := h) rfl (ee _) (ee _)) (rf_ [(293, .bool (decide (i < h)))] (h5_ t1 t3 t6 t8 t28) ?_)))
  rintro a A ⟨t293, -⟩ ⟨t1, t3, t6, t8, t28, -⟩
  by_cases lti : i < h
  · rw [decide_eq_true lti] at t293
    refine wp_cond_true t293 ?_
    refine wp_skip ?_
    clear t293
    refine wp_seq ?_
    refine wp_block ?_
    refine wp_seq ?_
    refine wi_ A (h5_ t1 t3 t6 t8 t28) (rv_ 2 (.pointer (some ⟨adB v3, adO v3 + i, none⟩)) (fun a ee => execIdxLs (k := i) (FI.ls) rfl (ee _) (ee _) lti) (rv_ 3 (.slice (some ⟨g i, 0, none⟩) 32 (cp i)) (fun a ee => execLdLs (k := i) (FI.ls) rfl (ee _) lti) (rv_ 4 (.slice (some ⟨g i, 0, none⟩) 34 (cp i)) (fun a ee => execSlH rfl (ee _) rfl (sl_h8 (g i) 32 (cp i) 34 (by have := FI.room lti; omega) XL29)) (rf_ [(29, .slice (some ⟨g i, 0, none⟩) 34 (cp i))] (h5_ t1 t3 t6 t8 t28) ?_))))
    rintro a A ⟨t29, -⟩ ⟨t1, t3, t6, t8, t28, -⟩
    refine wp_seq ?_
    refine wp_seq ?_
    refine wj_ [0, 1, 2, 3, 4, 5, 6, 7, 8, 9, 10, 11, 12, 13, 14, 15, 16, 17, 18, 19, 20, 21, 22, 23, 24, 25, 26, 27, 28, 29, 30, 31, 32, 33] [] [1, 2, 4, 6, 7, 8, 12, 13, 18, 19, 25, 26, 28, 30, 31] [] A (h6_ t1 t3 t6 t8 t28 t29) (fun X32 bD => ?_)
    refine dv_ 1 (.slice (some ⟨g i, 0, none⟩) 32 (cp i)) (fun a X ee hb => execSlH rfl (ee _) rfl (sl_h8 (g i) 34 (cp i) 32 (by have := (FI.on hb).room lti; omega) X)) (dv_ 2 (.string (strN (key i) 32)) (fun a X ee hb => execStr rfl (ee _) ((slice_cg (((FI.on hb).ls).cell i lti) fun j _ => xoK_at0))) (dw_ 3 (.pointer (some ⟨g1, 0, none⟩)) (fun a X ee => execFldJb (k := 0) rfl (ee _) rfl) (dv_ 4 (kv) (fun a X ee hb => execLdLL7 rfl (ee _) (at7 (on9 Fg1 hb) rfl)) (dv_ 6 (.pointer (some ⟨adB kv, adO kv + i, none⟩)) (fun a X ee hb => execIdxLs (k := i) (hK.on (BB.trans (hb.mono BB.size))) rfl (ee _) (ee _) lti) (dv_ 7 (xv i) (fun a X ee hb => execLdLs (k := i) (hK.on (BB.trans (hb.mono BB.size))) rfl (ee _) lti) (dv_ 8 (.string (strN (key i) ((fun _ => 32) i))) (fun a X ee hb => execStr rfl (ee _) (((hK.on (BB.trans (hb.mono BB.size))).cell i lti))) (dw_ 9 (.bool false) (fun a X ee => By8.execNeqS rfl (ee _) (ee _)) (dv_ 12 (.pointer (some ⟨adB (.slice (some ⟨g i, 0, none⟩) 34 (cp i)), adO (.slice (some ⟨g i, 0, none⟩) 34 (cp i)) + 32, none⟩)) (fun a X ee hb => execIdxSb (k := 32) ((FI.on hb).row lti) rfl (ee _) rfl (by omega)) (dv_ 13 (.int .u8 (((rmK (xoK key i 0 i)) 32 : Nat) : Int)) (fun a X ee hb => execLdSb (k := 32) ((FI.on hb).row lti) rfl (ee _) (by omega)) (dw_ 14 (.bool false) (fun a X ee => execNe7c rfl (ee _) (congrArg (fun r_ : Nat => (r_ : Int)) (show rmK (xoK key i 0 i) 32 = 161 from rfl))) (dv_ 18 (.pointer (some ⟨adB (.slice (some ⟨g i, 0, none⟩) 34 (cp i)), adO (.slice (some ⟨g i, 0, none⟩) 34 (cp i)) + 33, none⟩)) (fun a X ee hb => execIdxSb (k := 33) ((FI.on hb).row lti) rfl (ee _) rfl (by omega)) (dv_ 19 (.int .u8 (((rmK (xoK key i 0 i)) 33 : Nat) : Int)) (fun a X ee hb => execLdSb (k := 33) ((FI.on hb).row lti) rfl (ee _) (by omega)) (dw_ 20 (.bool false) (fun a X ee => execNe7c rfl (ee _) (congrArg (fun r_ : Nat => (r_ : Int)) (show rmK (xoK key i 0 i) 33 = 162 from rfl))) (dv_ 25 (.pointer (some ⟨adB v6, adO v6 + i * 16, none⟩)) (fun a X ee hb => execIdxNs (k := i) ((nons_own (ownD_below FO6 hb) hN.by_ w2)) rfl (ee _) (ee _) lti) (dv_ 26 (.agg (bA 16 (q i))) (fun a X ee hb => execLdNs (k := i) ((nons_own (ownD_below FO6 hb) hN.by_ w2)) rfl (ee _) lti) (dw_ 27 (.pointer (some ⟨g1, 1, none⟩)) (fun a X ee => execFldJb (k := 1) rfl (ee _) rfl) (dv_ 28 (nv) (fun a X ee hb => execLdLA7 rfl (ee _) (at7 (on9 Fg1 hb) rfl)) (dv_ 30 (.pointer (some ⟨adB nv, adO nv + i * 16, none⟩)) (fun a X ee hb => execIdxNs (k := i) (hN.on (BB.trans (hb.mono BB.size))) rfl (ee _) (ee _) lti) (dv_ 31 (.agg (bA 16 (q i))) (fun a X ee hb => execLdNs (k := i) (hN.on (BB.trans (hb.mono BB.size))) rfl (ee _) lti) (dw_ 32 (.bool false) (fun a X ee => Win.execneq16t rfl (ee _) (ee _) (eqB_same 16 _)) (dz_ [(334, .bool false)] (h6_ t1 t3 t6 t8 t28 t29) ?_)))))))))))))))))))))
    rintro a A ⟨t334, -⟩ ⟨t1, t3, t6, t8, t28, t29, -⟩
    replace FI := (FI.on bD)
    replace Fg1 := (on9 Fg1 bD)
    replace FO6 := (ownD_below FO6 bD)
    replace FR := (ownsRow_below FR bD)
    replace BB := BB.trans (bD.mono BB.size)
    clear bD
    refine wp_cond_false t334 ?_
    refine wp_skip ?_
    clear t334
    refine wp_seq ?_
    refine wi_ A (h6_ t1 t3 t6 t8 t28 t29) (rf_ [(30, .int .i64 ((0 : Nat) : Int))] (h6_ t1 t3 t6 t8 t28 t29) ?_)
    rintro a A ⟨t30, -⟩ ⟨t1, t3, t6, t8, t28, t29, -⟩
    refine wp_block ?_
    refine wp_loop (fun a W => ∃ (u : Nat), u ≤ 32 ∧ (a.tmps.size = 369 ∧ a.defers = []) ∧ a.eval (.tmp 1) = .pointer (some ⟨g1, 0, none⟩) ∧ a.eval (.tmp 3) = v3 ∧ a.eval (.tmp 6) = v6 ∧ a.eval (.tmp 8) = cutH v7 n ∧ a.eval (.tmp 28) = .int .i64 ((i : Nat) : Int) ∧ a.eval (.tmp 29) = .slice (some ⟨g i, 0, none⟩) 34 (cp i) ∧ a.eval (.tmp 30) = .int .i64 ((u : Nat) : Int) ∧ Below V.heap.size V W ∧ (CpK V.heap.size s3 W v3 h g cp (xoK key i u)) ∧ (W.heap[g1]? = some (.cells #[kv, nv, pv] 26)) ∧ (W.ownsRow s3 35 16 v6 h (Win.tgV q h)) ∧ (W.ownsRow s3 5 1 v7 (n + 2) (bytesL (n + 2) (rmR p n)))) (fun a _ => 32 - (intOf (a.eval (.tmp 30))).toNat) ⟨0, Nat.zero_le _, A, t1, t3, t6, t8, t28, t29, t30, BB, FI, Fg1, FO6, FR⟩ ?_
    clear A t1 t3 t6 t8 t28 t29 t30 BB FI Fg1 FO6 FR a
    rintro a XL35 ⟨u, hu, A, t1, t3, t6, t8, t28, t29, t30, BB, FI, Fg1, FO6, FR⟩
    have esu := t30
    refine wp_seq ?_
    refine wp_seq ?_
    refine wi_ A (h7_ t1 t3 t6 t8 t28 t29 t30) (rv_ 1 (.bool (decide (u < 32))) (fun a ee => execLtW (p := u) (q := 32) rfl (ee _) rfl) (rf_ [(336, .bool (decide (u < 32)))] (h7_ t1 t3 t6 t8 t28 t29 t30) ?_))
    rintro a A ⟨t336, -⟩ ⟨t1, t3, t6, t8, t28, t29, t30, -⟩
    by_cases ltu : u < 32
    · rw [decide_eq_true ltu] at t336
      refine wp_cond_true t336 ?_
      refine wp_skip ?_
      clear t336
      refine wp_seq ?_
      refine wp_block ?_
      have hck : key i u < 256 := (hK.cell i lti).bytes u ltu
      have hgV := FI.lo_ lti
      have hgs := FI.hr i lti
      refine wi_ A (h7_ t1 t3 t6 t8 t28 t29 t30) (rv_ 2 (.pointer (some ⟨adB (.slice (some ⟨g i, 0, none⟩) 34 (cp i)), adO (.slice (some ⟨g i, 0, none⟩) 34 (cp i)) + u, none⟩)) (fun a ee => execIdxSb (k := u) (FI.row lti) rfl (ee _) (ee _) (by omega)) (rv_ 3 (.int .u8 ((key i u : Nat) : Int)) (fun a ee => execLdSbE (k := u) (FI.row lti) rfl (ee _) (by omega) ((if_pos ltu).trans xoK_at)) (rv_ 4 (.int .u8 ((key i u ^^^ 85 : Nat) : Int)) (fun a ee => execXor5 rfl (ee _) rfl hck (by decide)) (rv_ 5 (.pointer (some ⟨adB (.slice (some ⟨g i, 0, none⟩) 34 (cp i)), adO (.slice (some ⟨g i, 0, none⟩) 34 (cp i)) + u, none⟩)) (fun a ee => execIdxSb (k := u) (FI.row lti) rfl (ee _) (ee _) (by omega)) (rs_ 6 (fun a ee => ?_))))))
      obtain ⟨hc_, hf_⟩ := FI.at lti (show u < 34 by omega)
      refine stepS rfl rfl (execStB rfl (ee _) (ee _) hc_ hf_) ⟨_, ⟨_, rfl, rfl⟩, fun X37 hX => ?_⟩
      obtain ⟨BB, Fg1, FO6, FR, FI2⟩ : Below V.heap.size V X37 ∧ (X37.heap[g1]? = some (.cells #[kv, nv, pv] 26)) ∧ (X37.ownsRow s3 35 16 v6 h (Win.tgV q h)) ∧ (X37.ownsRow s3 5 1 v7 (n + 2) (bytesL (n + 2) (rmR p n))) ∧ (CpK V.heap.size s3 X37 v3 h g cp (xoK key i (u + 1))) := by subst hX; exact ⟨(BB).setCell hgV _, (heap_offT Fg1 (FI.ty lti) (by decide)), (ownsRow_setCell_below FO6 (a := ⟨adB (.slice (some ⟨g i, 0, none⟩) 34 (cp i)), adO (.slice (some ⟨g i, 0, none⟩) 34 (cp i)) + u, none⟩) hgs _), (ownsRow_setCell_below FR (a := ⟨adB (.slice (some ⟨g i, 0, none⟩) 34 (cp i)), adO (.slice (some ⟨g i, 0, none⟩) 34 (cp i)) + u, none⟩) hgs _), ((FI.put lti ltu (xor85 hck)).cg (fun s _ l _ => xoK_set))⟩
      clear FI hX ee a
      refine rf_ [] (h7_ t1 t3 t6 t8 t28 t29 t30) ?_
      rintro a A - ⟨t1, t3, t6, t8, t28, t29, t30, -⟩
      refine wi_ A (h7_ t1 t3 t6 t8 t28 t29 t30) (rv_ 1 (.int .i64 ((u + 1 : Nat) : Int)) (fun a ee => execAd8 (p := u) (q := 1) rfl (ee _) rfl (by omega)) (rf_ [(30, .int .i64 ((u + 1 : Nat) : Int))] (h6_ t1 t3 t6 t8 t28 t29) ?_))
      rintro a A ⟨t30, -⟩ ⟨t1, t3, t6, t8, t28, t29, -⟩
      exact ⟨⟨u + 1, ltu, A, t1, t3, t6, t8, t28, t29, t30, BB, FI2, Fg1, FO6, FR⟩, by show 32 - (intOf (a.eval (.tmp 30))).toNat < 32 - (intOf (Act.eval _ (.tmp 30))).toNat; rw [t30, esu]; show 32 - (u + 1) < 32 - u; omega⟩
    · rw [decide_eq_false ltu] at t336
      refine wp_cond_false t336 ?_
      refine wp_exit ?_
      first | with_reducible refine exit_in ?_ | with_reducible refine exit_then (exit_in ?_) | with_reducible refine exit_then (exit_then (exit_in ?_)) | refine exit_in ?_ | refine exit_then (exit_in ?_) | refine exit_then (exit_then (exit_in ?_))
      clear t336 esu
      obtain rfl : u = 32 := by omega
      replace FI : (CpK V.heap.size s3 XL35 v3 h g cp (xoK key (i + 1) 0)) := FI.cg (fun t _ j hj => xoK_next hj)
      refine wi_ A (h5_ t1 t3 t6 t8 t28) (rv_ 1 (.int .i64 ((i + 1 : Nat) : Int)) (fun a ee => execAd8 (p := i) (q := 1) rfl (ee _) rfl (by omega)) (rf_ [(28, .int .i64 ((i + 1 : Nat) : Int))] (h4_ t1 t3 t6 t8) ?_))
      rintro a A ⟨t28, -⟩ ⟨t1, t3, t6, t8, -⟩
      exact ⟨⟨i + 1, lti, A, t1, t3, t6, t8, t28, BB, FI, Fg1, FO6, FR⟩, by show h - (intOf (a.eval (.tmp 28))).toNat < h - (intOf (Act.eval _ (.tmp 28))).toNat; rw [t28, esi]; show h - (i + 1) < h - i; omega⟩
  · rw [decide_eq_false lti] at t293
    refine wp_cond_false t293 ?_
    refine wp_exit ?_
    first | with_reducible refine exit_in ?_ | with_reducible refine exit_then (exit_in ?_) | with_reducible refine exit_then (exit_then (exit_in ?_)) | refine exit_in ?_ | refine exit_then (exit_in ?_) | refine exit_then (exit_then (exit_in ?_))
    clear t293 esi
    have ein : i = h := (by omega)
    rw [ein] at FI
    have hre : rwE h h (fun _ => 32) n = 0 := rwE_is w1 w2 rfl (fun _ _ => rfl) w5
    have hrn : rwN h h (fun _ => 32) n = 320 := if_pos hre
    refine wp_seq ?_
    refine wi_ A (h4_ t1 t3 t6 t8) (rc_ 3 (pchS I h h v3 v6 (fun t => .slice (some ⟨g t, 0, none⟩) 32 (cp t)) (fun _ => 32) (xoK key h 0) q n p (cutH v7 n) XL29 (hg XL29 BB) (FI.ls) (nons_own FO6 hN.by_ w2) (by omega) (by omega) (cut_load FR hP.bytes) (cut_nil FR) (by omega)) fun e X38 hh => ?_)
    obtain ⟨v349, he, hk, hb⟩ := hh
    refine ⟨_, he, ?_⟩
    have bQ : Below XL29.heap.size XL29 X38 := hb
    have FA : (SliceN X38 v349 (rwN h h (fun _ => 32) n) (rwF h (bks (xoK key h 0) q) q n p)) := hk
    replace FI := (FI.on bQ)
    replace Fg1 := (on9 Fg1 bQ)
    replace FO6 := (ownD_below FO6 bQ)
    replace FR := (ownsRow_below FR bQ)
    replace BB := BB.trans (bQ.mono BB.size)
    clear bQ
    refine rf_ [(13, .int .i64 ((rwE h h (fun _ => 32) n : Nat) : Int)), (31, v349)] (h3_ t3 t6 t8) ?_
    rintro a A ⟨t13, t31, -⟩ ⟨t3, t6, t8, -⟩
    refine wp_seq ?_
    refine wi_ A (h5_ t3 t6 t8 t13 t31) (rc_ 3 (rchS h h v3 v6 (fun t => .slice (some ⟨g t, 0, none⟩) 32 (cp t)) (fun _ => 32) (xoK key h 0) q n p (cutH v7 n) X38 (FI.ls) (nons_own FO6 hN.by_ w2) (by omega) (by omega) (cut_load FR hP.bytes) (cut_nil FR) (by omega)) fun e X39 hh => ?_)
    obtain ⟨v356, he, hk, hb⟩ := hh
    refine ⟨_, he, ?_⟩
    have bQ : Below X38.heap.size X38 X39 := hb
    have FB : (SliceN X39 v356 (rwN h h (fun _ => 32) n) (rwF h (bks (xoK key h 0) q) q n p)) := hk
    replace FI := (FI.on bQ)
    replace Fg1 := (on9 Fg1 bQ)
    replace FO6 := (ownD_below FO6 bQ)
    replace FR := (ownsRow_below FR bQ)
    replace FA := (FA.on bQ)
    replace BB := BB.trans (bQ.mono BB.size)
    clear bQ
    refine rf_ [(32, v356), (33, .int .i64 ((rwE h h (fun _ => 32) n : Nat) : Int))] (h2_ t13 t31) ?_
    rintro a A ⟨t32, t33, -⟩ ⟨t13, t31, -⟩
    refine wp_seq ?_
    refine wi_ A (h4_ t13 t31 t32 t33) (rv_ 2 (.bool true) (fun a ee => by exact execDec (execEqN (p := rwE h h (fun _ => 32) n) (q := rwE h h (fun _ => 32) n) rfl (ee _) (ee _)) (decide_eq_true rfl)) (rv_ 5 (.string (strN (rwF h (bks (xoK key h 0) q) q n p) (rwN h h (fun _ => 32) n))) (fun a ee => execStr rfl (ee _) (FA)) (rv_ 7 (.string (strN (rwF h (bks (xoK key h 0) q) q n p) (rwN h h (fun _ => 32) n))) (fun a ee => execStr rfl (ee _) (FB)) (rv_ 8 (.bool true) (fun a ee => By8.execEqlS rfl (ee _) (ee _)) (rg_ [(2, .bool true)] ?_)))))
    rintro a A ⟨t2, -⟩
    refine wp_ret ?_
    repeat (first | with_reducible refine ret_in ?_ | with_reducible refine ret_then ?_)
    refine bodyPost_ret (results_tmp rfl _ _ _) A.2 ⟨?_, BB⟩
    show Ending.returned (a.eval (.tmp 2)) = _
    rw [t2]
end Go.Proofs.YteekoabgbjbabaaGreatDoor.Rpl
