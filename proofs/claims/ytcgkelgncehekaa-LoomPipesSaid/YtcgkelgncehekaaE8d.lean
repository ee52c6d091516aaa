import Derived.Test.YtcgkelgncehekaaE8c
namespace Go.Proofs.Ytcgkelgncehekaa.Loo
/- A pipe of many hands: the room is the pipe's state (LoomPipes). Names nothing of a program. -/

def pipP (I C K c0 c1 : Nat) : Pl where
  d := 2
  n := C + 2 + K
  cap := fun i => if i = 0 then c0 else c1
  ln := fun t => if t = 0 then 2 * I + 1 else if t < C + 1 then 3 else if t = C + 1 then C + 1 else 2
  op := fun t j =>
    if t = 0 then (if j = 2 * I then ⟨3, 0, 0⟩ else if j % 2 = 0 then ⟨5, 1, 0⟩ else ⟨1, 0, 0⟩)
    else if t < C + 1 then (if j = 0 then ⟨2, 0, 3⟩ else if j = 1 then ⟨1, 1, 0⟩ else ⟨6, 0, 0⟩)
    else if t = C + 1 then (if j = C then ⟨3, 1, 0⟩ else ⟨9, ((1 + j : Nat) : Int), 0⟩)
    else if j = 0 then ⟨2, 1, 2⟩ else ⟨6, 0, 0⟩
structure Rel (I C K : Nat) (r : Rm) (s : Ab) : Prop where
  p0 : r.pl 0 = s.q
  g0 : s.q ≤ 2 * I → r.rg 0 = (((s.q + 1) / 2 : Nat) : Int)
  pc : ∀ c, c < C → r.pl (1 + c) = s.P c
  gc : ∀ c, c < C → r.rg (1 + c) = s.G c
  zc : ∀ c, c < C → r.tk (1 + c) = s.Z c
  pw : r.pl (C + 1) = s.w
  pk : ∀ k, k < K → r.pl (C + 2 + k) = s.Q k
  yk : ∀ k, k < K → r.tk (C + 2 + k) = s.Y k
  h0 : r.hd 0 = s.h0
  h1 : r.hd 1 = s.h1
  c0 : r.cl 0 = decide (s.q = 2 * I + 1)
  c1 : r.cl 1 = decide (s.w = C + 1)
  lt : r.lt = 0
  en : ∀ t, r.en t = false
  t0 : r.tk 0 = []
  tw : r.tk (C + 1) = []
section
variable {α : Type} {f g : Nat → α} {v : α} {c k C K a : Nat}
theorem upf_self : upf f k (f k) = f := funext fun j => by
  unfold upf
  split
  · rename_i h; rw [h]
  · rfl
theorem upf_both (h : ∀ i, i < K → f (a + i) = g i) (i : Nat) (hi : i < K) : upf f (a + k) v (a + i) = upf g k v i := by
  unfold upf
  by_cases e : i = k
  · subst e; rw [if_pos rfl, if_pos rfl]
  · rw [if_neg (by omega), if_neg e]; exact h i hi
end
section
variable {I C K c0 c1 : Nat} {r : Rm} {s : Ab}
theorem Rel.hd0 (h : Rel I C K r s) (H : List Int) : Rel I C K { r with hd := upf r.hd 0 H } { s with h0 := H } :=
  ⟨h.p0, h.g0, h.pc, h.gc, h.zc, h.pw, h.pk, h.yk, (by show upf r.hd 0 H 0 = H; rw [upf_at]), (by show upf r.hd 0 H 1 = _; rw [upf_ne _ _ (by omega)]; exact h.h1), h.c0, h.c1, h.lt, h.en, h.t0, h.tw⟩
theorem Rel.hd1 (h : Rel I C K r s) (H : List Int) : Rel I C K { r with hd := upf r.hd 1 H } { s with h1 := H } :=
  ⟨h.p0, h.g0, h.pc, h.gc, h.zc, h.pw, h.pk, h.yk, (by show upf r.hd 1 H 0 = _; rw [upf_ne _ _ (by omega)]; exact h.h0), (by show upf r.hd 1 H 1 = H; rw [upf_at]), h.c0, h.c1, h.lt, h.en, h.t0, h.tw⟩
theorem Rel.feed (h : Rel I C K r s) {z : Int} {b : Bool} (hz : s.q + 1 ≤ 2 * I → z = (((s.q + 1 + 1) / 2 : Nat) : Int)) (hb : b = decide (s.q + 1 = 2 * I + 1)) : Rel I C K { r with pl := upf r.pl 0 (r.pl 0 + 1), rg := upf r.rg 0 z, cl := upf r.cl 0 b } { s with q := s.q + 1 } :=
  ⟨(by show upf r.pl 0 (r.pl 0 + 1) 0 = s.q + 1; rw [upf_at, h.p0]), (fun q => by show upf r.rg 0 z 0 = _; rw [upf_at]; exact hz q), (fun i hi => by show upf r.pl 0 (r.pl 0 + 1) _ = _; rw [upf_ne _ _ (by omega)]; exact h.pc i hi), (fun i hi => by show upf r.rg 0 z _ = _; rw [upf_ne _ _ (by omega)]; exact h.gc i hi), h.zc, (by show upf r.pl 0 (r.pl 0 + 1) (C + 1) = _; rw [upf_ne _ _ (by omega)]; exact h.pw), (fun i hi => by show upf r.pl 0 (r.pl 0 + 1) _ = _; rw [upf_ne _ _ (by omega)]; exact h.pk i hi), h.yk, h.h0, h.h1, (by show upf r.cl 0 b 0 = _; rw [upf_at]; exact hb), (by show upf r.cl 0 b 1 = _; rw [upf_ne _ _ (by omega)]; exact h.c1), h.lt, h.en, h.t0, h.tw⟩
theorem Rel.carG (h : Rel I C K r s) {i v : Nat} {x : Int} {l : List Int} (hi : i < C) : Rel I C K { r with pl := upf r.pl (1 + i) v, rg := upf r.rg (1 + i) x, tk := upf r.tk (1 + i) l } { s with P := upf s.P i v, G := upf s.G i x, Z := upf s.Z i l } :=
  ⟨(by show upf r.pl (1 + i) v 0 = _; rw [upf_ne _ _ (by omega)]; exact h.p0), (fun q => by show upf r.rg (1 + i) x 0 = _; rw [upf_ne _ _ (by omega)]; exact h.g0 q), (fun j hj => upf_both (f := r.pl) (a := 1) (k := i) (v := v) h.pc j hj), (fun j hj => upf_both (f := r.rg) (a := 1) (k := i) (v := x) h.gc j hj), (fun j hj => upf_both (f := r.tk) (a := 1) (k := i) (v := l) h.zc j hj), (by show upf r.pl (1 + i) v (C + 1) = _; rw [upf_ne _ _ (by omega)]; exact h.pw), (fun k hk => by show upf r.pl (1 + i) v _ = _; rw [upf_ne _ _ (by omega)]; exact h.pk k hk), (fun k hk => by show upf r.tk (1 + i) l _ = _; rw [upf_ne _ _ (by omega)]; exact h.yk k hk), h.h0, h.h1, h.c0, h.c1, h.lt, h.en, (by show upf r.tk (1 + i) l 0 = _; rw [upf_ne _ _ (by omega)]; exact h.t0), (by show upf r.tk (1 + i) l (C + 1) = _; rw [upf_ne _ _ (by omega)]; exact h.tw)⟩
theorem Rel.carP (h : Rel I C K r s) {i v : Nat} (hi : i < C) : Rel I C K { r with pl := upf r.pl (1 + i) v } { s with P := upf s.P i v } :=
  ⟨(by show upf r.pl (1 + i) v 0 = _; rw [upf_ne _ _ (by omega)]; exact h.p0), h.g0, (fun j hj => upf_both (f := r.pl) (a := 1) (k := i) (v := v) h.pc j hj), h.gc, h.zc, (by show upf r.pl (1 + i) v (C + 1) = _; rw [upf_ne _ _ (by omega)]; exact h.pw), (fun k hk => by show upf r.pl (1 + i) v _ = _; rw [upf_ne _ _ (by omega)]; exact h.pk k hk), h.yk, h.h0, h.h1, h.c0, h.c1, h.lt, h.en, h.t0, h.tw⟩
theorem Rel.wait (h : Rel I C K r s) {b : Bool} (hb : b = decide (s.w + 1 = C + 1)) : Rel I C K { r with pl := upf r.pl (C + 1) (r.pl (C + 1) + 1), cl := upf r.cl 1 b } { s with w := s.w + 1 } :=
  ⟨(by show upf r.pl (C + 1) (r.pl (C + 1) + 1) 0 = _; rw [upf_ne _ _ (by omega)]; exact h.p0), h.g0, (fun i hi => by show upf r.pl (C + 1) (r.pl (C + 1) + 1) _ = _; rw [upf_ne _ _ (by omega)]; exact h.pc i hi), h.gc, h.zc, (by show upf r.pl (C + 1) (r.pl (C + 1) + 1) (C + 1) = s.w + 1; rw [upf_at, h.pw]), (fun i hi => by show upf r.pl (C + 1) (r.pl (C + 1) + 1) _ = _; rw [upf_ne _ _ (by omega)]; exact h.pk i hi), h.yk, h.h0, h.h1, (by show upf r.cl 1 b 0 = _; rw [upf_ne _ _ (by omega)]; exact h.c0), (by show upf r.cl 1 b 1 = _; rw [upf_at]; exact hb), h.lt, h.en, h.t0, h.tw⟩
theorem Rel.takG (h : Rel I C K r s) {i v : Nat} {x : Int} {l : List Int} : Rel I C K { r with pl := upf r.pl (C + 2 + i) v, rg := upf r.rg (C + 2 + i) x, tk := upf r.tk (C + 2 + i) l } { s with Q := upf s.Q i v, Y := upf s.Y i l } :=
  ⟨(by show upf r.pl (C + 2 + i) v 0 = _; rw [upf_ne _ _ (by omega)]; exact h.p0), (fun q => by show upf r.rg (C + 2 + i) x 0 = _; rw [upf_ne _ _ (by omega)]; exact h.g0 q), (fun c hc => by show upf r.pl (C + 2 + i) v _ = _; rw [upf_ne _ _ (by omega)]; exact h.pc c hc), (fun c hc => by show upf r.rg (C + 2 + i) x _ = _; rw [upf_ne _ _ (by omega)]; exact h.gc c hc), (fun c hc => by show upf r.tk (C + 2 + i) l _ = _; rw [upf_ne _ _ (by omega)]; exact h.zc c hc), (by show upf r.pl (C + 2 + i) v (C + 1) = _; rw [upf_ne _ _ (by omega)]; exact h.pw), (fun j hj => upf_both (f := r.pl) (a := C + 2) (k := i) (v := v) h.pk j hj), (fun j hj => upf_both (f := r.tk) (a := C + 2) (k := i) (v := l) h.yk j hj), h.h0, h.h1, h.c0, h.c1, h.lt, h.en, (by show upf r.tk (C + 2 + i) l 0 = _; rw [upf_ne _ _ (by omega)]; exact h.t0), (by show upf r.tk (C + 2 + i) l (C + 1) = _; rw [upf_ne _ _ (by omega)]; exact h.tw)⟩
theorem Rel.takP (h : Rel I C K r s) {i v : Nat} : Rel I C K { r with pl := upf r.pl (C + 2 + i) v } { s with Q := upf s.Q i v } :=
  ⟨(by show upf r.pl (C + 2 + i) v 0 = _; rw [upf_ne _ _ (by omega)]; exact h.p0), h.g0, (fun c hc => by show upf r.pl (C + 2 + i) v _ = _; rw [upf_ne _ _ (by omega)]; exact h.pc c hc), h.gc, h.zc, (by show upf r.pl (C + 2 + i) v (C + 1) = _; rw [upf_ne _ _ (by omega)]; exact h.pw), (fun j hj => upf_both (f := r.pl) (a := C + 2) (k := i) (v := v) h.pk j hj), h.yk, h.h0, h.h1, h.c0, h.c1, h.lt, h.en, h.t0, h.tw⟩
-- the operations at which the tasks stand
theorem Rel.gone0 (h : Rel I C K r s) (j : PJ I C K s) : gone (pipP I C K c0 c1) r 0 = decide (s.q = 2 * I + 1) := by
  have := j.q1
  unfold gone
  rw [h.en, h.p0]
  show (false || decide (2 * I + 1 ≤ s.q)) = _
  rw [Bool.false_or]
  exact decide_eq_decide.2 (by omega)
theorem Rel.goneC (h : Rel I C K r s) (j : PJ I C K s) {c : Nat} (hc : c < C) : gone (pipP I C K c0 c1) r (1 + c) = decide (s.P c = 3) := by
  have := j.P1 c hc
  unfold gone
  rw [h.en, h.pc c hc]
  show (false || decide ((if 1 + c = 0 then 2 * I + 1 else if 1 + c < C + 1 then 3 else if 1 + c = C + 1 then C + 1 else 2) ≤ s.P c)) = _
  rw [Bool.false_or, if_neg (by omega), if_pos (by omega)]
  exact decide_eq_decide.2 (by omega)
theorem Rel.goneW (h : Rel I C K r s) (j : PJ I C K s) : gone (pipP I C K c0 c1) r (C + 1) = decide (s.w = C + 1) := by
  have := j.w1
  unfold gone
  rw [h.en, h.pw]
  show (false || decide ((if C + 1 = 0 then 2 * I + 1 else if C + 1 < C + 1 then 3 else if C + 1 = C + 1 then C + 1 else 2) ≤ s.w)) = _
  rw [Bool.false_or, if_neg (by omega), if_neg (by omega), if_pos rfl]
  exact decide_eq_decide.2 (by omega)
theorem Rel.goneK (h : Rel I C K r s) (j : PJ I C K s) {k : Nat} (hk : k < K) : gone (pipP I C K c0 c1) r (C + 2 + k) = decide (s.Q k = 2) := by
  have := j.Q1 k hk
  unfold gone
  rw [h.en, h.pk k hk]
  show (false || decide ((if C + 2 + k = 0 then 2 * I + 1 else if C + 2 + k < C + 1 then 3 else if C + 2 + k = C + 1 then C + 1 else 2) ≤ s.Q k)) = _
  rw [Bool.false_or, if_neg (by omega), if_neg (by omega), if_neg (by omega)]
  exact decide_eq_decide.2 (by omega)
theorem Rel.at0 (h : Rel I C K r s) (j : PJ I C K s) : at_ (pipP I C K c0 c1) r 0 = if s.q = 2 * I + 1 then ⟨0, 0, 0⟩ else if s.q = 2 * I then ⟨3, 0, 0⟩ else if s.q % 2 = 0 then ⟨5, 1, 0⟩ else ⟨1, 0, 0⟩ := by
  unfold at_
  rw [h.gone0 j, h.p0]
  by_cases e : s.q = 2 * I + 1
  · rw [if_pos e, if_pos (decide_eq_true e)]
  · rw [if_neg e, if_neg (by simpa using e)]
    rfl
theorem Rel.atC (h : Rel I C K r s) (j : PJ I C K s) {c : Nat} (hc : c < C) : at_ (pipP I C K c0 c1) r (1 + c) = if s.P c = 3 then ⟨0, 0, 0⟩ else if s.P c = 0 then ⟨2, 0, 3⟩ else if s.P c = 1 then ⟨1, 1, 0⟩ else ⟨6, 0, 0⟩ := by
  unfold at_
  rw [h.goneC j hc, h.pc c hc]
  by_cases e : s.P c = 3
  · rw [if_pos e, if_pos (decide_eq_true e)]
  · rw [if_neg e, if_neg (by simpa using e)]
    simp only [pipP]
    rw [if_neg (by omega), if_pos (by omega)]
theorem Rel.atW (h : Rel I C K r s) (j : PJ I C K s) : at_ (pipP I C K c0 c1) r (C + 1) = if s.w = C + 1 then ⟨0, 0, 0⟩ else if s.w = C then ⟨3, 1, 0⟩ else ⟨9, ((1 + s.w : Nat) : Int), 0⟩ := by
  unfold at_
  rw [h.goneW j, h.pw]
  by_cases e : s.w = C + 1
  · rw [if_pos e, if_pos (decide_eq_true e)]
  · rw [if_neg e, if_neg (by simpa using e)]
    simp only [pipP]
    rw [if_neg (by omega), if_neg (by omega), if_pos trivial]
theorem Rel.atK (h : Rel I C K r s) (j : PJ I C K s) {k : Nat} (hk : k < K) : at_ (pipP I C K c0 c1) r (C + 2 + k) = if s.Q k = 2 then ⟨0, 0, 0⟩ else if s.Q k = 0 then ⟨2, 1, 2⟩ else ⟨6, 0, 0⟩ := by
  unfold at_
  rw [h.goneK j hk, h.pk k hk]
  by_cases e : s.Q k = 2
  · rw [if_pos e, if_pos (decide_eq_true e)]
  · rw [if_neg e, if_neg (by simpa using e)]
    simp only [pipP]
    rw [if_neg (by omega), if_neg (by omega), if_neg (by omega)]
/-- Whose number it is. -/
theorem who {t : Nat} (ht : t < C + 2 + K) : t = 0 ∨ (∃ c, c < C ∧ t = 1 + c) ∨ t = C + 1 ∨ ∃ k, k < K ∧ t = C + 2 + k := by
  by_cases e : t = 0
  · exact Or.inl e
  · by_cases e2 : t < C + 1
    · exact Or.inr (Or.inl ⟨t - 1, by omega, by omega⟩)
    · by_cases e3 : t = C + 1
      · exact Or.inr (Or.inr (Or.inl e3))
      · exact Or.inr (Or.inr (Or.inr ⟨t - (C + 2), by omega, by omega⟩))
theorem Rel.tak0 (h : Rel I C K r s) (j : PJ I C K s) {t : Nat} (e : tak (pipP I C K c0 c1) r 0 = some t) : ∃ c, c < C ∧ t = 1 + c ∧ s.P c = 0 := by
  have h1 := List.find?_some e
  have h2 : t < C + 2 + K := List.mem_range.1 (List.mem_of_find?_eq_some e)
  unfold isT at h1
  rcases who h2 with rfl | ⟨c, hc, rfl⟩ | rfl | ⟨k, hk, rfl⟩
  · rw [h.at0 j] at h1
    exfalso
    revert h1
    split
    · simp
    · split
      · simp
      · split <;> simp
  · rw [h.atC j hc] at h1
    refine ⟨c, hc, rfl, ?_⟩
    by_cases z : s.P c = 0
    · exact z
    · exfalso
      revert h1
      split
      · simp
      · split <;> simp
  · rw [h.atW j] at h1
    exfalso
    revert h1
    split
    · simp
    · split <;> simp
  · rw [h.atK j hk] at h1
    exfalso
    revert h1
    split
    · simp
    · split <;> simp
theorem Rel.giv0 (h : Rel I C K r s) (j : PJ I C K s) {t : Nat} (e : giv (pipP I C K c0 c1) r 0 = some t) : t = 0 ∧ s.q % 2 = 1 ∧ s.q < 2 * I := by
  have hq := j.q1
  have h1 := List.find?_some e
  have h2 : t < C + 2 + K := List.mem_range.1 (List.mem_of_find?_eq_some e)
  unfold isG at h1
  rcases who h2 with rfl | ⟨c, hc, rfl⟩ | rfl | ⟨k, hk, rfl⟩
  · rw [h.at0 j] at h1
    refine ⟨rfl, ?_⟩
    revert h1
    split
    · simp
    · split
      · simp
      · split
        · simp
        · intro _; omega
  · rw [h.atC j hc] at h1
    exfalso
    revert h1
    split
    · simp
    · split
      · simp
      · split <;> simp
  · rw [h.atW j] at h1
    exfalso
    revert h1
    split
    · simp
    · split <;> simp
  · rw [h.atK j hk] at h1
    exfalso
    revert h1
    split
    · simp
    · split <;> simp
theorem Rel.tak1 (h : Rel I C K r s) (j : PJ I C K s) {t : Nat} (e : tak (pipP I C K c0 c1) r 1 = some t) : ∃ k, k < K ∧ t = C + 2 + k ∧ s.Q k = 0 := by
  have h1 := List.find?_some e
  have h2 : t < C + 2 + K := List.mem_range.1 (List.mem_of_find?_eq_some e)
  unfold isT at h1
  rcases who h2 with rfl | ⟨c, hc, rfl⟩ | rfl | ⟨k, hk, rfl⟩
  · rw [h.at0 j] at h1
    exfalso
    revert h1
    split
    · simp
    · split
      · simp
      · split <;> simp
  · rw [h.atC j hc] at h1
    exfalso
    revert h1
    split
    · simp
    · split
      · simp
      · split <;> simp
  · rw [h.atW j] at h1
    exfalso
    revert h1
    split
    · simp
    · split <;> simp
  · rw [h.atK j hk] at h1
    refine ⟨k, hk, rfl, ?_⟩
    by_cases z : s.Q k = 0
    · exact z
    · exfalso
      revert h1
      split
      · simp
      · simp
theorem Rel.giv1 (h : Rel I C K r s) (j : PJ I C K s) {t : Nat} (e : giv (pipP I C K c0 c1) r 1 = some t) : ∃ c, c < C ∧ t = 1 + c ∧ s.P c = 1 := by
  have h1 := List.find?_some e
  have h2 : t < C + 2 + K := List.mem_range.1 (List.mem_of_find?_eq_some e)
  unfold isG at h1
  rcases who h2 with rfl | ⟨c, hc, rfl⟩ | rfl | ⟨k, hk, rfl⟩
  · rw [h.at0 j] at h1
    exfalso
    revert h1
    split
    · simp
    · split
      · simp
      · split <;> simp
  · rw [h.atC j hc] at h1
    refine ⟨c, hc, rfl, ?_⟩
    by_cases z : s.P c = 1
    · exact z
    · exfalso
      revert h1
      split
      · simp
      · split
        · simp
        · simp
  · rw [h.atW j] at h1
    exfalso
    revert h1
    split
    · simp
    · split <;> simp
  · rw [h.atK j hk] at h1
    exfalso
    revert h1
    split
    · simp
    · split <;> simp
theorem find_is {l : List Nat} {f : Nat → Bool} {t : Nat} (ht : t ∈ l) (hf : f t = true) : (l.find? f).isSome = true := by
  rw [List.find?_isSome]
  exact ⟨t, ht, hf⟩
theorem Rel.has0 (h : Rel I C K r s) (j : PJ I C K s) {c : Nat} (hc : c < C) (e : s.P c = 0) : (tak (pipP I C K c0 c1) r 0).isSome = true := by
  refine find_is (t := 1 + c) (List.mem_range.2 (show 1 + c < C + 2 + K by omega)) ?_
  unfold isT
  rw [h.atC j hc, if_neg (by omega), if_pos e]
  rfl
theorem Rel.has1 (h : Rel I C K r s) (j : PJ I C K s) {k : Nat} (hk : k < K) (e : s.Q k = 0) : (tak (pipP I C K c0 c1) r 1).isSome = true := by
  refine find_is (t := C + 2 + k) (List.mem_range.2 (show C + 2 + k < C + 2 + K by omega)) ?_
  unfold isT
  rw [h.atK j hk, if_neg (by omega), if_pos e]
  rfl
end
end Go.Proofs.Ytcgkelgncehekaa.Loo
