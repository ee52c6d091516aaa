import Derived.Test.YtepdejnholphcaaGreatRows
namespace Go.Proofs.YtepdejnholphcaaGreat.Win
/- Lists in order, each number once; tags as numbers. Names nothing of a program. -/

def Inc (l : List Nat) : Prop := l.Pairwise (· < ·)
theorem Inc.nil : Inc [] := List.Pairwise.nil
theorem inc_cons {a : Nat} {l : List Nat} : Inc (a :: l) ↔ (∀ x ∈ l, a < x) ∧ Inc l := List.pairwise_cons
/-- One in order is told by what stands in it. -/
theorem inc_uniq : ∀ {a b : List Nat}, Inc a → Inc b → (∀ x, x ∈ a ↔ x ∈ b) → a = b
  | [], [], _, _, _ => rfl
  | [], y :: b, _, _, h => absurd ((h y).2 (by simp)) (by simp)
  | x :: a, [], _, _, h => absurd ((h x).1 (by simp)) (by simp)
  | x :: a, y :: b, ha, hb, h => by
    obtain ⟨a1, a2⟩ := inc_cons.1 ha
    obtain ⟨b1, b2⟩ := inc_cons.1 hb
    have exy : x = y := by
      have h1 := (h x).1 (by simp)
      have h2 := (h y).2 (by simp)
      rcases List.mem_cons.1 h1 with e | m1
      · exact e
      · rcases List.mem_cons.1 h2 with e | m2
        · exact e.symm
        · have := b1 x m1
          have := a1 y m2
          omega
    subst exy
    congr 1
    refine inc_uniq a2 b2 fun z => ⟨fun hz => ?_, fun hz => ?_⟩
    · rcases List.mem_cons.1 ((h z).1 (List.mem_cons_of_mem _ hz)) with e | m
      · have := a1 z hz; omega
      · exact m
    · rcases List.mem_cons.1 ((h z).2 (List.mem_cons_of_mem _ hz)) with e | m
      · have := b1 z hz; omega
      · exact m
/-- Put into a list in order. -/
def ins (x : Nat) : List Nat → List Nat
  | [] => [x]
  | y :: l => if x < y then x :: y :: l else if x = y then y :: l else y :: ins x l
theorem mem_ins {x z : Nat} : ∀ {l : List Nat}, z ∈ ins x l ↔ z = x ∨ z ∈ l
  | [] => by simp [ins]
  | y :: l => by
    unfold ins
    by_cases h1 : x < y
    · rw [if_pos h1, List.mem_cons]
    · rw [if_neg h1]
      by_cases h2 : x = y
      · subst h2
        rw [if_pos rfl, List.mem_cons]
        constructor
        · exact Or.inr
        · rintro (h | h)
          · exact Or.inl h
          · exact h
      · rw [if_neg h2, List.mem_cons, mem_ins, List.mem_cons]
        constructor
        · rintro (h | h | h)
          · exact Or.inr (Or.inl h)
          · exact Or.inl h
          · exact Or.inr (Or.inr h)
        · rintro (h | h | h)
          · exact Or.inr (Or.inl h)
          · exact Or.inl h
          · exact Or.inr (Or.inr h)
theorem inc_ins {x : Nat} : ∀ {l : List Nat}, Inc l → Inc (ins x l)
  | [], _ => inc_cons.2 ⟨by simp, Inc.nil⟩
  | y :: l, h => by
    obtain ⟨h1, h2⟩ := inc_cons.1 h
    unfold ins
    by_cases q1 : x < y
    · rw [if_pos q1]
      exact inc_cons.2 ⟨fun z hz => by
        rcases List.mem_cons.1 hz with e | m
        · omega
        · have := h1 z m; omega, h⟩
    · rw [if_neg q1]
      by_cases q2 : x = y
      · rw [if_pos q2]; exact h
      · rw [if_neg q2]
        exact inc_cons.2 ⟨fun z hz => by
          rcases mem_ins.1 hz with e | m
          · omega
          · exact h1 z m, inc_ins h2⟩
/-- A list's numbers in order, each once. -/
def srt : List Nat → List Nat
  | [] => []
  | x :: l => ins x (srt l)
theorem mem_srt {z : Nat} : ∀ {l : List Nat}, z ∈ srt l ↔ z ∈ l
  | [] => Iff.rfl
  | x :: l => by rw [srt, mem_ins, mem_srt, List.mem_cons]
theorem inc_srt : ∀ {l : List Nat}, Inc (srt l)
  | [] => Inc.nil
  | _ :: _ => inc_ins inc_srt
theorem srt_of {m l : List Nat} (h : Inc m) (e : ∀ x, x ∈ m ↔ x ∈ l) : m = srt l := inc_uniq h inc_srt fun x => (e x).trans mem_srt.symm
theorem srt_same {m l : List Nat} (e : ∀ x, x ∈ m ↔ x ∈ l) : srt m = srt l := srt_of inc_srt fun x => mem_srt.trans (e x)
theorem srt_inc {l : List Nat} (h : Inc l) : srt l = l := (srt_of h fun _ => Iff.rfl).symm
theorem ins_len {x : Nat} : ∀ {l : List Nat}, Inc l → (ins x l).length = if x ∈ l then l.length else l.length + 1
  | [], _ => by simp [ins]
  | y :: l, h => by
    obtain ⟨h1, h2⟩ := inc_cons.1 h
    unfold ins
    by_cases q1 : x < y
    · have hn : x ∉ y :: l := fun hm => by
        rcases List.mem_cons.1 hm with e | m
        · omega
        · have := h1 x m; omega
      rw [if_pos q1, if_neg hn]
      rfl
    · rw [if_neg q1]
      by_cases q2 : x = y
      · subst q2
        rw [if_pos rfl, if_pos (by simp)]
      · rw [if_neg q2, List.length_cons, ins_len h2]
        by_cases hm : x ∈ l
        · rw [if_pos hm, if_pos (List.mem_cons_of_mem _ hm), List.length_cons]
        · rw [if_neg hm, if_neg (fun h => by rcases List.mem_cons.1 h with e | m; exact q2 e; exact hm m), List.length_cons]
theorem srt_le : ∀ {l : List Nat}, (srt l).length ≤ l.length
  | [] => Nat.le_refl _
  | x :: l => by
    rw [srt, ins_len inc_srt, List.length_cons]
    have := srt_le (l := l)
    by_cases h : x ∈ srt l
    · rw [if_pos h]; omega
    · rw [if_neg h]; omega
/-- None is lost just where none stands twice. -/
theorem srt_len : ∀ {l : List Nat}, (srt l).length = l.length ↔ l.Nodup
  | [] => ⟨fun _ => List.nodup_nil, fun _ => rfl⟩
  | x :: l => by
    rw [srt, ins_len inc_srt, List.length_cons, List.nodup_cons]
    have h1 := srt_le (l := l)
    have ih := srt_len (l := l)
    by_cases h : x ∈ srt l
    · rw [if_pos h]
      constructor
      · intro q; omega
      · rintro ⟨q, _⟩; exact absurd (mem_srt.1 h) q
    · rw [if_neg h]
      constructor
      · intro q; exact ⟨fun m => h (mem_srt.2 m), ih.1 (by omega)⟩
      · rintro ⟨_, q⟩; rw [ih.2 q]
/-- A tag as a number. -/
def tv (b : Nat → Nat) : Nat → Nat
  | 0 => 0
  | k + 1 => tv b k * 256 + b k
theorem tv_lt {b c : Nat → Nat} (hb : ∀ i, i < 16 → b i < 256) : ∀ (n i : Nat), i < n → n ≤ 16 → (∀ j, j < i → b j = c j) → b i < c i → tv b n < tv c n
  | 0, i, h, _, _, _ => by omega
  | n + 1, i, h, hn, e, hl => by
    show tv b n * 256 + b n < tv c n * 256 + c n
    by_cases q : i = n
    · subst q
      have : tv b i = tv c i := by
        have : ∀ k, k ≤ i → tv b k = tv c k := fun k => by
          induction k with
          | zero => intro _; rfl
          | succ k ih => intro hk; show tv b k * 256 + b k = tv c k * 256 + c k; rw [ih (by omega), e k (by omega)]
        exact this i (Nat.le_refl _)
      omega
    · have := tv_lt hb n i (by omega) (by omega) e hl
      have := hb n (by omega)
      omega
theorem tv_eq {b c : Nat → Nat} (h : ∀ j, j < 16 → b j = c j) : tv b 16 = tv c 16 := by
  have : ∀ k, k ≤ 16 → tv b k = tv c k := fun k => by
    induction k with
    | zero => intro _; rfl
    | succ k ih => intro hk; show tv b k * 256 + b k = tv c k * 256 + c k; rw [ih (by omega), h k (by omega)]
  exact this 16 (Nat.le_refl _)
theorem tv_back {b c : Nat → Nat} (hb : ∀ i, i < 16 → b i < 256) (hc : ∀ i, i < 16 → c i < 256) : ∀ n, n ≤ 16 → tv b n = tv c n → ∀ j, j < n → b j = c j
  | 0, _, _, j, h => by omega
  | n + 1, hn, e, j, h => by
    have e2 : tv b n * 256 + b n = tv c n * 256 + c n := e
    have h1 := hb n (by omega)
    have h2 := hc n (by omega)
    by_cases q : j = n
    · subst q; omega
    · exact tv_back hb hc n (by omega) (by omega) j (by omega)
theorem tv_iff {b c : Nat → Nat} (hb : ∀ i, i < 16 → b i < 256) (hc : ∀ i, i < 16 → c i < 256) : tv b 16 = tv c 16 ↔ ∀ j, j < 16 → b j = c j := ⟨tv_back hb hc 16 (Nat.le_refl _), tv_eq⟩
end Go.Proofs.YtepdejnholphcaaGreat.Win
