import Derived.Test.YtcibogmghagpoaaF9b
namespace Go.Proofs.Ytcibogmghagpoaa.Cf
open Go.RowKit Gf8 Aes By8 Cel
/- A drawn region, walked in one order: what only reads may come up at any time, what changes the world comes up in one order. -/

/-- i waits for p, by steps. -/
def rch (ops : Array Oper) : Nat → Nat → Nat → Bool
  | 0, _, _ => false
  | k + 1, i, p => (List.range i).any fun j => waits (opA ops i) j && (Nat.beq j p || rch ops k j p)
/-- Slot d is settled where operation j comes up. -/
def okd (ops : Array Oper) (j d : Nat) : Bool :=
  (List.range ops.size).all fun i => (match (opA ops i).dst with | none => true | some e => !Nat.beq e d) || waits (opA ops j) i || Nat.beq i j || rch ops 12 i j
def okx (ops : Array Oper) (j : Nat) : Operand → Bool
  | .tmp d => okd ops j d
  | _ => true
def dOk (ops : Array Oper) (p i : Nat) : Bool := match (opA ops p).dst with | none => true | some d => !okd ops i d
def psh (ops : Array Oper) (p : Nat) (v : Value) (ev : List (Nat × Value)) : List (Nat × Value) := match (opA ops p).dst with | none => ev | some d => (d, v) :: ev
def Ag (ops : Array Oper) (E : Nat → Value) (p : Nat) (ev : List (Nat × Value)) (a : Act) : Prop := ∀ x, okx ops p x = true → a.eval x = evO (lk E ev) x
section
variable (ops : Array Oper) (Q : Exit → Act → World → Prop) (N : Nat) (D : List Deferred) (E : Nat → Value) (C : World → Prop) (ef rd nc : List Nat)
def PuO (p : Nat) (ev : List (Nat × Value)) (v : Value) : Prop := ∀ a X, Ag ops E p ev a → (rd.elem p = true → C X) → wpOp Try.prog ops Q p (fun a' w' => a' = a.put (opA ops p).dst v ∧ w' = X) a X
def EfO (p : Nat) (ev : List (Nat × Value)) (K : Value → World → Prop) (W : World) : Prop := ∀ a, Ag ops E p ev a → wpOp Try.prog ops Q p (fun a' w' => ∃ v, a' = a.put (opA ops p).dst v ∧ (nc.elem p = true ∨ C w') ∧ K v w') a W
/-- What is left of a drawn region. -/
def DW : List Nat → List (Nat × Value) → World → Prop
  | [], ev, W => ∀ a : Act, (a.tmps.size = N ∧ a.defers = D) → (∀ d, a.eval (.tmp d) = lk E ev d) → Q .normal a W
  | p :: R, ev, W => match ef.elem p with
    | true => EfO ops Q E C nc p ev (fun v w => DW R (psh ops p v ev) w) W
    | false => ∃ v, PuO ops Q E C rd p ev v ∧ DW R (psh ops p v ev) W
end
theorem evO_cg {f g : Nat → Value} (h : ∀ d, f d = g d) : ∀ x, evO f x = evO g x
  | .tmp d => h d
  | .const _ => rfl
  | .global _ => rfl
  | .func _ => rfl
section
variable {ops : Array Oper} {Q : Exit → Act → World → Prop} {N : Nat} {D : List Deferred} {E : Nat → Value} {C : World → Prop} {ef rd nc : List Nat} {W : World}
theorem Ag.cg {p : Nat} {ev ev' : List (Nat × Value)} {a : Act} (e : ∀ d, lk E ev d = lk E ev' d) (h : Ag ops E p ev a) : Ag ops E p ev' a := fun x hx => (h x hx).trans (evO_cg e x)
theorem psh_cg {p : Nat} {v : Value} {ev ev' : List (Nat × Value)} (e : ∀ d, lk E ev d = lk E ev' d) (d : Nat) : lk E (psh ops p v ev) d = lk E (psh ops p v ev') d := by
  unfold psh
  cases (opA ops p).dst with
  | none => exact e d
  | some q =>
    simp only [lk]
    rw [e d]
theorem DW_cg : ∀ {R : List Nat} {ev ev' : List (Nat × Value)} {W : World}, (∀ d, lk E ev d = lk E ev' d) → DW ops Q N D E C ef rd nc R ev W → DW ops Q N D E C ef rd nc R ev' W
  | [], _, _, _, e, h => fun a A hv => h a A fun d => (hv d).trans (e d).symm
  | p :: R, ev, ev', W, e, h => by
    unfold DW at h ⊢
    cases hp : ef.elem p with
    | true =>
      rw [hp] at h
      exact fun a ha => wpOp_mono (fun a' w' ⟨v, q1, q2, q3⟩ => ⟨v, q1, q2, DW_cg (psh_cg e) q3⟩) (h a (ha.cg fun d => (e d).symm))
    | false =>
      rw [hp] at h
      obtain ⟨v, h1, h2⟩ := h
      exact ⟨v, fun a X ha hc => h1 a X (ha.cg fun d => (e d).symm) hc, DW_cg (psh_cg e) h2⟩
theorem lk_psh {p : Nat} {v : Value} {ev : List (Nat × Value)} {d : Nat} (h : (opA ops p).dst ≠ some d) : lk E (psh ops p v ev) d = lk E ev d := by
  unfold psh
  cases hd : (opA ops p).dst with
  | none => rfl
  | some q =>
    simp only [lk]
    cases hb : Nat.beq d q with
    | false => rfl
    | true => exact absurd (by rw [hd, Nat.eq_of_beq_eq_true hb]) h
theorem lk_psh_at {p : Nat} {v : Value} {ev : List (Nat × Value)} {d : Nat} (h : (opA ops p).dst = some d) : lk E (psh ops p v ev) d = v := by
  unfold psh
  rw [h]
  simp only [lk, Nat.beq_refl]
  rfl
theorem ag_lk {p i : Nat} (h : dOk ops p i = true) (v : Value) (ev : List (Nat × Value)) : ∀ x, okx ops i x = true → evO (lk E (psh ops p v ev)) x = evO (lk E ev) x
  | .tmp d, hx => lk_psh fun q => by
    unfold dOk at h
    rw [q] at h
    have hx' : okd ops i d = true := hx
    simp [hx'] at h
  | .const _, _ => rfl
  | .global _, _ => rfl
  | .func _, _ => rfl
theorem Ag.up {p i : Nat} {v : Value} {ev : List (Nat × Value)} {a : Act} (h : dOk ops p i = true) (ha : Ag ops E i ev a) : Ag ops E i (psh ops p v ev) a := fun x hx => (ha x hx).trans (ag_lk h v ev x hx).symm
theorem Ag.dn {p i : Nat} {v : Value} {ev : List (Nat × Value)} {a : Act} (h : dOk ops p i = true) (ha : Ag ops E i (psh ops p v ev) a) : Ag ops E i ev a := fun x hx => (ha x hx).trans (ag_lk h v ev x hx)
theorem psh_comm {p i : Nat} {u v : Value} {ev : List (Nat × Value)} (h : ∀ d, (opA ops p).dst = some d → (opA ops i).dst ≠ some d) (d : Nat) : lk E (psh ops i v (psh ops p u ev)) d = lk E (psh ops p u (psh ops i v ev)) d := by
  by_cases h1 : (opA ops i).dst = some d
  · rw [lk_psh_at h1, lk_psh (fun q => h d q h1), lk_psh_at h1]
  · rw [lk_psh h1]
    by_cases h2 : (opA ops p).dst = some d
    · rw [lk_psh_at h2, lk_psh_at h2]
    · rw [lk_psh h2, lk_psh h2, lk_psh h1]
/-- p, which only reads, may as well come up behind i. -/
def Ind (ops : Array Oper) (ef : List Nat) (p i : Nat) : Prop := ef.elem p = false ∧ dOk ops p i = true ∧ dOk ops i p = true ∧ ∀ d, (opA ops p).dst = some d → (opA ops i).dst ≠ some d
theorem swapP {i : Nat} (hi : ef.elem i = false) : ∀ {R : List Nat} {ev : List (Nat × Value)}, i ∈ R → (∀ p ∈ R.takeWhile (· != i), Ind ops ef p i) → DW ops Q N D E C ef rd nc R ev W → ∃ v, PuO ops Q E C rd i ev v ∧ DW ops Q N D E C ef rd nc (R.erase i) (psh ops i v ev) W
  | [], _, h, _, _ => by cases h
  | p :: R, ev, h, hb, hd => by
    by_cases e : p = i
    · subst e
      unfold DW at hd
      rw [hi] at hd
      rw [List.erase_cons_head]
      exact hd
    · have hne : (p != i) = true := by simpa using e
      rw [List.takeWhile_cons, if_pos hne] at hb
      obtain ⟨b1, b2, b3, b4⟩ := hb p (List.mem_cons_self ..)
      unfold DW at hd
      rw [b1] at hd
      obtain ⟨u, hu, hR⟩ := hd
      obtain ⟨v, hv, hd2⟩ := swapP hi (R := R) (by rcases List.mem_cons.1 h with q | q; exact absurd q.symm e; exact q) (fun q hq => hb q (List.mem_cons_of_mem _ hq)) hR
      refine ⟨v, fun a X ha hc => hv a X (ha.up b2) hc, ?_⟩
      rw [List.erase_cons_tail (by simpa using e)]
      unfold DW
      rw [b1]
      exact ⟨u, fun a X ha hc => hu a X (ha.dn b3) hc, DW_cg (psh_comm b4) hd2⟩
theorem swapE {i : Nat} (hi : ef.elem i = true) : ∀ {R : List Nat} {ev : List (Nat × Value)}, i ∈ R → (∀ p ∈ R.takeWhile (· != i), Ind ops ef p i) → DW ops Q N D E C ef rd nc R ev W → EfO ops Q E C nc i ev (fun v w => DW ops Q N D E C ef rd nc (R.erase i) (psh ops i v ev) w) W
  | [], _, h, _, _ => by cases h
  | p :: R, ev, h, hb, hd => by
    by_cases e : p = i
    · subst e
      unfold DW at hd
      rw [hi] at hd
      rw [List.erase_cons_head]
      exact hd
    · have hne : (p != i) = true := by simpa using e
      rw [List.takeWhile_cons, if_pos hne] at hb
      obtain ⟨b1, b2, b3, b4⟩ := hb p (List.mem_cons_self ..)
      unfold DW at hd
      rw [b1] at hd
      obtain ⟨u, hu, hR⟩ := hd
      have hE := swapE hi (R := R) (by rcases List.mem_cons.1 h with q | q; exact absurd q.symm e; exact q) (fun q hq => hb q (List.mem_cons_of_mem _ hq)) hR
      intro a ha
      refine wpOp_mono ?_ (hE a (ha.up b2))
      rintro a' w' ⟨v, q1, q2, q3⟩
      refine ⟨v, q1, q2, ?_⟩
      rw [List.erase_cons_tail (by simpa using e)]
      unfold DW
      rw [b1]
      exact ⟨u, fun a X ha hc => hu a X (ha.dn b3) hc, DW_cg (psh_comm b4) q3⟩
def prs (ops : Array Oper) (ef : List Nat) : List Nat → Bool
  | [] => true
  | p :: R => R.all (fun i => (!ef.elem p && dOk ops p i && dOk ops i p) || rch ops 12 i p) && prs ops ef R
def chk (N : Nat) (ops : Array Oper) (ord ef rd nc : List Nat) : Bool :=
  frontB .any ops && okD N ops && decide ord.Nodup && (List.range ops.size).all (fun j => ord.elem j) && ord.all (fun j => Nat.blt j ops.size) && prs ops ef ord && nc.all (fun e => Nat.blt e ops.size && rd.all fun r => rch ops 12 e r)
theorem rch_done {l : Nat → Bool} (hcl : ∀ i, i < ops.size → l i = true → ∀ m, waits (opA ops i) m = true → l m = true) : ∀ {k i p : Nat}, rch ops k i p = true → i < ops.size → (∀ m, waits (opA ops i) m = true → l m = true) → l p = true
  | 0, _, _, h, _, _ => by cases h
  | k + 1, i, p, h, hi, hw => by
    unfold rch at h
    obtain ⟨j, hj, h2⟩ := List.any_eq_true.1 h
    rw [Bool.and_eq_true, Bool.or_eq_true] at h2
    have hlj := hw j h2.1
    have hji : j < i := List.mem_range.1 hj
    rcases h2.2 with q | q
    · rw [← Nat.eq_of_beq_eq_true q]
      exact hlj
    · exact rch_done hcl q (by omega) (hcl j (by omega) hlj)
theorem prs_at {f : Nat → Bool} {j : Nat} : ∀ {ord : List Nat}, prs ops ef ord = true → j ∈ ord.filter f → ∀ p ∈ (ord.filter f).takeWhile (· != j), ((!ef.elem p && dOk ops p j && dOk ops j p) || rch ops 12 j p) = true
  | [], _, h, _, _ => by cases h
  | q :: O, hp, hj, p, hm => by
    unfold prs at hp
    rw [Bool.and_eq_true] at hp
    by_cases hf : f q = true
    · rw [List.filter_cons_of_pos hf] at hj hm
      by_cases e : q = j
      · subst e
        rw [List.takeWhile_cons, if_neg (by simp)] at hm
        cases hm
      · rw [List.takeWhile_cons, if_pos (by simpa using e)] at hm
        have hj2 : j ∈ O.filter f := by
          rcases List.mem_cons.1 hj with z | z
          · exact absurd z.symm e
          · exact z
        rcases List.mem_cons.1 hm with z | z
        · subst z
          exact List.all_eq_true.1 hp.1 j (List.mem_filter.1 hj2).1
        · exact prs_at hp.2 hj2 p z
    · rw [List.filter_cons_of_neg hf] at hj hm
      exact prs_at hp.2 hj p hm
theorem tw_imp {f : Nat → Bool} {p : Nat} : ∀ {R : List Nat}, p ∈ R.takeWhile f → f p = true
  | [], h => by cases h
  | q :: R, h => by
    rw [List.takeWhile_cons] at h
    by_cases hq : f q = true
    · rw [if_pos hq] at h
      rcases List.mem_cons.1 h with z | z
      · rw [z]; exact hq
      · exact tw_imp z
    · rw [if_neg hq] at h
      cases h
theorem erase_up {ord : List Nat} {l : Nat → Bool} {j : Nat} (hn : ord.Nodup) : (ord.filter fun i => !l i).erase j = ord.filter fun i => !updB l j i := by
  rw [List.Nodup.erase_eq_filter (hn.filter _), List.filter_filter]
  congr 1
  funext i
  unfold updB
  by_cases e : i = j
  · subst e; simp
  · simp [e]
/-- A drawn region. -/
theorem wd_ {id : Nat} {a0 : Act} {V : World} {l0 : List (Nat × Value)} (ord ef rd nc : List Nat) (C : World → Prop) (A : a0.tmps.size = N ∧ a0.defers = D) (F : Hd a0 l0) (hC : C V.drew) (h : DW ops Q N D (lk (ent a0) l0) C ef rd nc ord [] V.drew)
    (hk : chk N ops ord ef rd nc = true := by kernel_rfl) (hm : Try.prog.follows .mixedOrders = true := by kernel_rfl) : (Code.region id ops true).wp Try.prog Q a0 V := by
  unfold chk at hk
  simp only [Bool.and_eq_true] at hk
  obtain ⟨⟨⟨⟨⟨⟨k1, k2⟩, k3⟩, k4⟩, k5⟩, k6⟩, k7⟩ := hk
  have hnd : ord.Nodup := of_decide_eq_true k3
  have hok2 := Bool.and_eq_true _ _ ▸ k2
  have hds : ((dsOf ops).map (·.2)).Nodup := of_decide_eq_true hok2.1
  have hin : ∀ j, j < ops.size → j ∈ ord := fun j hj => by simpa using List.all_eq_true.1 k4 j (List.mem_range.2 hj)
  have hlt : ∀ j, j ∈ ord → j < ops.size := fun j hj => Nat.le_of_ble_eq_true (List.all_eq_true.1 k5 j hj)
  have uniq : ∀ {i j d : Nat}, i < ops.size → j < ops.size → (opA ops i).dst = some d → (opA ops j).dst = some d → i = j := fun hi hj e1 e2 => inj2 _ hds _ _ _ (mem_dsOf.2 ⟨_, opA_of hi, e1⟩) (mem_dsOf.2 ⟨_, opA_of hj, e2⟩)
  have hE : ∀ d, a0.eval (.tmp d) = lk (ent a0) l0 d := F.fr
  refine wp_region_detX N (dsOf ops) (fun l x w => ∃ ev, DW ops Q N D (lk (ent a0) l0) C ef rd nc (ord.filter fun i => !l i) ev w ∧ ((∀ i d, i < ops.size → l i = true → (opA ops i).dst = some d → lk (lk (ent a0) l0) ev d = x i) ∧ (∀ d, (∀ i, i < ops.size → l i = true → (opA ops i).dst ≠ some d) → lk (lk (ent a0) l0) ev d = lk (ent a0) l0 d)) ∧ (C w ∨ ∃ e, nc.elem e = true ∧ l e = true)) (fun _ => undef) hm k1 A.1 rfl hds hok2.2 ?_ ?_ ?_
  · refine ⟨[], ?_, ⟨fun i d _ q => (by cases q), fun d _ => rfl⟩, Or.inl hC⟩
    have e0 : ord.filter (fun i => !(fun _ : Nat => false) i) = ord := List.filter_eq_self.2 (fun _ _ => rfl)
    rw [e0]
    exact h
  · rintro j hj l x a w hl hfr hdep hl2 hcl hno ⟨ev, hD, ⟨e1, e2⟩, hc⟩
    have hoj := opA_of hj
    have hw : ∀ m, waits (opA ops j) m = true → l m = true := fun m => hl2 _ hoj m
    have hcl' : ∀ i, i < ops.size → l i = true → ∀ m, waits (opA ops i) m = true → l m = true := fun i hi q m => hcl i _ (opA_of hi) q m
    have hag : Ag ops (lk (ent a0) l0) j ev a := by
      intro y hy
      cases y with
      | tmp d =>
        have hy' : okd ops j d = true := hy
        show a.eval (.tmp d) = lk (lk (ent a0) l0) ev d
        by_cases hex : ∃ i, i < ops.size ∧ (opA ops i).dst = some d
        · obtain ⟨i, hi, hd⟩ := hex
          have h3 := List.all_eq_true.1 hy' i (List.mem_range.2 hi)
          rw [hd] at h3
          simp only [Nat.beq_refl, Bool.not_true, Bool.false_or, Bool.or_eq_true] at h3
          by_cases hli : l i = true
          · rw [e1 i d hi hli hd]
            rcases h3 with (h3 | h3) | h3
            · exact hdep _ hoj i h3 _ (opA_of hi) d hd
            · rw [Nat.eq_of_beq_eq_true h3, hl] at hli
              cases hli
            · have := rch_done hcl' h3 hi (hcl' i hi hli)
              rw [hl] at this
              cases this
          · have hli' : l i = false := by simpa using hli
            rw [hno i _ (opA_of hi) d hd hli', hE d]
            refine (e2 d fun i' hi' q1 q2 => ?_).symm
            rw [uniq hi' hi q2 hd, hli'] at q1
            cases q1
        · have hnot : d ∉ (dsOf ops).map (·.2) := fun hm => by
            obtain ⟨⟨i, d2⟩, hp, e⟩ := List.mem_map.1 hm
            obtain ⟨o, ho, hd⟩ := mem_dsOf.1 hp
            have hi := (Array.getElem?_eq_some_iff.1 ho).1
            rw [opA_of hi] at ho
            injection ho with ho
            exact hex ⟨i, hi, by rw [ho, hd]; exact congrArg some e⟩
          rw [hfr d hnot, hE d]
          exact (e2 d fun i hi _ q => hex ⟨i, hi, q⟩).symm
      | const => rfl
      | global => rfl
      | func => rfl
    have hjR : j ∈ ord.filter fun i => !l i := List.mem_filter.2 ⟨hin j hj, by rw [hl]; rfl⟩
    have hind : ∀ p ∈ (ord.filter fun i => !l i).takeWhile (· != j), Ind ops ef p j := fun p hp => by
      have h3 := prs_at k6 hjR p hp
      have hpR : p ∈ ord.filter fun i => !l i := (List.takeWhile_sublist _).subset hp
      have hpl : l p = false := by simpa using (List.mem_filter.1 hpR).2
      have hps := hlt p (List.mem_filter.1 hpR).1
      have hpj : p ≠ j := by simpa using tw_imp hp
      rw [Bool.or_eq_true] at h3
      rcases h3 with h3 | h3
      · simp only [Bool.and_eq_true, Bool.not_eq_true'] at h3
        exact ⟨h3.1.1, h3.1.2, h3.2, fun d q1 q2 => hpj (uniq hps hj q1 q2)⟩
      · have := rch_done hcl' h3 hj hw
        rw [hpl] at this
        cases this
    have ups : ∀ v : Value, (∀ i d, i < ops.size → updB l j i = true → (opA ops i).dst = some d → lk (lk (ent a0) l0) (psh ops j v ev) d = updS x j v i) ∧ (∀ d, (∀ i, i < ops.size → updB l j i = true → (opA ops i).dst ≠ some d) → lk (lk (ent a0) l0) (psh ops j v ev) d = lk (ent a0) l0 d) := fun v => by
      refine ⟨fun i d hi q hd => ?_, fun d hd => ?_⟩
      · unfold updS
        by_cases e : i = j
        · subst e
          rw [if_pos rfl, lk_psh_at hd]
        · rw [if_neg e, lk_psh (fun z => e (uniq hi hj hd z))]
          refine e1 i d hi ?_ hd
          unfold updB at q
          rw [if_neg e] at q
          exact q
      · rw [lk_psh (hd j hj (by unfold updB; rw [if_pos rfl]))]
        refine e2 d fun i hi q => hd i hi ?_
        unfold updB
        by_cases e : i = j
        · rw [if_pos e]
        · rw [if_neg e]; exact q
    have upl : ∀ e, l e = true → updB l j e = true := fun e q => by
      unfold updB
      by_cases z : e = j
      · rw [if_pos z]
      · rw [if_neg z]; exact q
    cases hej : ef.elem j with
    | false =>
      obtain ⟨v, hv, hD2⟩ := swapP hej hjR hind hD
      refine wpOp_mono ?_ (hv a w hag fun hrd => ?_)
      · rintro a' w' ⟨q1, q2⟩
        rw [q2]
        refine ⟨v, ⟨_, hoj, q1⟩, _, by rw [← erase_up hnd]; exact hD2, ups v, ?_⟩
        rcases hc with hc | ⟨e, z1, z2⟩
        · exact Or.inl hc
        · exact Or.inr ⟨e, z1, upl e z2⟩
      · rcases hc with hc | ⟨e, z1, z2⟩
        · exact hc
        · have h4 := List.all_eq_true.1 k7 e (by simpa using z1)
          rw [Bool.and_eq_true] at h4
          have hes := Nat.le_of_ble_eq_true h4.1
          have h5 := List.all_eq_true.1 h4.2 j (by simpa using hrd)
          have := rch_done hcl' h5 hes (hcl' e hes z2)
          rw [hl] at this
          cases this
    | true =>
      have hE2 := swapE hej hjR hind hD
      refine wpOp_mono ?_ (hE2 a hag)
      rintro a' w' ⟨v, q1, q2, q3⟩
      refine ⟨v, ⟨_, hoj, q1⟩, _, by rw [← erase_up hnd]; exact q3, ups v, ?_⟩
      rcases q2 with q2 | q2
      · exact Or.inr ⟨j, q2, by unfold updB; rw [if_pos rfl]⟩
      · exact Or.inl q2
  · rintro l x w hall ⟨ev, hD, ⟨e1, e2⟩, _⟩
    rw [List.filter_eq_nil_iff.2 (fun i hi => by rw [hall i (hlt i hi)]; simp)] at hD
    refine hD _ ⟨by rw [putP_size]; exact A.1, by rw [putP_defers]; exact A.2⟩ fun d => ?_
    by_cases hm2 : d ∈ (dsOf ops).map (·.2)
    · obtain ⟨⟨i, d2⟩, hp, e⟩ := List.mem_map.1 hm2
      obtain ⟨o, ho, hd⟩ := mem_dsOf.1 hp
      have e' : d2 = d := e
      subst e'
      have hi := (Array.getElem?_eq_some_iff.1 ho).1
      rw [opA_of hi] at ho
      injection ho with ho
      rw [putP_same _ _ _ hds (fun q hq => by rw [A.1]; simpa using List.all_eq_true.1 hok2.2 q hq) _ hp]
      exact (e1 i d2 hi (hall i hi) (by rw [ho, hd])).symm
    · rw [putP_other _ _ _ hm2, hE d]
      exact (e2 d fun i hi _ q => hm2 (List.mem_map.2 ⟨(i, d), mem_dsOf.2 ⟨_, opA_of hi, q⟩, rfl⟩)).symm
end
/-- The operands by which an operation that only moves values, and a guard, go. -/
def eSl (ops : Array Oper) (o : Oper) : List Operand :=
  (match o.guard with | none => [] | some (k, _) => match (ops[k]?).bind (·.dst) with | none => [] | some d => [.tmp d]) ++
  match o.op with
  | .move x => [x]
  | .assign x => [x]
  | .pick c x y => [c, x, y]
  | .extract x _ => [x]
  | _ => []
theorem wnt_cg {ops : Array Oper} {f g : Nat → Value} {o : Oper} (h : ∀ x ∈ eSl ops o, evO f x = evO g x) : wnt ops f o = wnt ops g o := by
  unfold wnt
  cases hg : o.guard with
  | none => rfl
  | some p =>
    obtain ⟨k, b⟩ := p
    simp only
    cases hd : (ops[k]?).bind (·.dst) with
    | none => rfl
    | some d =>
      have e : f d = g d := h (.tmp d) (List.mem_append_left _ (by rw [hg]; simp only [hd]; exact List.mem_cons_self ..))
      simp only [e]
theorem eas_cg {ops : Array Oper} {f g : Nat → Value} {o : Oper} (h : ∀ x ∈ eSl ops o, evO f x = evO g x) : eas ops f o = eas ops g o := by
  unfold eas
  rw [wnt_cg h]
  have h2 : ∀ x ∈ (match o.op with | .move x => [x] | .assign x => [x] | .pick c x y => [c, x, y] | .extract x _ => [x] | _ => []), evO f x = evO g x := fun x hx => h x (List.mem_append_right _ hx)
  cases wnt ops g o with
  | none => rfl
  | some b =>
    cases b with
    | false => rfl
    | true =>
      cases hop : o.op with
      | move x => rw [hop] at h2; simp only [h2 x (by simp)]
      | assign x => rw [hop] at h2; simp only [h2 x (by simp)]
      | pick c x y => rw [hop] at h2; simp only [h2 c (by simp), h2 x (by simp), h2 y (by simp)]
      | extract x k => rw [hop] at h2; simp only [h2 x (by simp)]
      | _ => rfl
def eaD (ops : Array Oper) (E : Nat → Value) (ef : List Nat) (ev : List (Nat × Value)) (p : Nat) : Option Value := bif !ef.elem p && (eSl ops (opA ops p)).all (okx ops p) then eas ops (lk E ev) (opA ops p) else none
def acD (ops : Array Oper) (E : Nat → Value) (ef ord : List Nat) (v : Nat → Value) : Nat → List (Nat × Value)
  | 0 => []
  | m + 1 => match ord[m]? with
    | none => acD ops E ef ord v m
    | some p => psh ops p ((eaD ops E ef (acD ops E ef ord v m) p).getD (v p)) (acD ops E ef ord v m)
def RsD (ops : Array Oper) (Q : Exit → Act → World → Prop) (N : Nat) (D : List Deferred) (E : Nat → Value) (C : World → Prop) (ef rd nc ord : List Nat) (m : Nat) (vs : List (Nat × Value)) (W : World) : Prop := DW ops Q N D E C ef rd nc (ord.drop m) (acD ops E ef ord (vL vs) m) W
def eaM (ops : Array Oper) (E : Nat → Value) (ef ord : List Nat) (v : Nat → Value) (m : Nat) : Nat → Bool
  | 0 => true
  | t + 1 => (match ord[m]? with | none => false | some p => Nat.blt p ops.size && (eaD ops E ef (acD ops E ef ord v m) p).isSome) && eaM ops E ef ord v (m + 1) t
def posO : List Nat → Nat → Nat
  | [], _ => 0
  | p :: R, k => bif Nat.beq p k then 0 else posO R k + 1
def skD (ops : Array Oper) (E : Nat → Value) (ef ord : List Nat) (v : Nat → Value) (m k : Nat) : Bool :=
  Nat.ble m (posO ord k) && (match ord[posO ord k]? with | none => false | some p => Nat.beq p k) && Nat.blt k ops.size && eaM ops E ef ord v m (posO ord k - m) && (eaD ops E ef (acD ops E ef ord v (posO ord k)) k).isNone
/-- The guard's and the arguments' slots are settled. -/
def gdD (ops : Array Oper) (E : Nat → Value) (ev : List (Nat × Value)) (k : Nat) : Bool := (eSl ops (opA ops k)).all (okx ops k) && (match wnt ops (lk E ev) (opA ops k) with | some true => true | _ => false)
def axD (ops : Array Oper) (k : Nat) : Bool := match (opA ops k).op with | .call c => c.args.all (okx ops k) | _ => false
section
variable {ops : Array Oper} {Q : Exit → Act → World → Prop} {N : Nat} {D : List Deferred} {E : Nat → Value} {C : World → Prop} {ef rd nc ord : List Nat} {m : Nat} {vs : List (Nat × Value)} {W : World}
theorem posO_lt {k : Nat} : ∀ {ord : List Nat} {i : Nat}, i < posO ord k → ord[i]? ≠ some k
  | [], _, h => by cases h
  | p :: R, i, h => by
    unfold posO at h
    cases hb : Nat.beq p k with
    | true => rw [hb] at h; exact absurd h (Nat.not_lt_zero _)
    | false =>
      rw [hb] at h
      have h' : i < posO R k + 1 := h
      match i, h' with
      | 0, _ => intro q; simp at q; rw [q, Nat.beq_refl] at hb; cases hb
      | i + 1, h' => rw [List.getElem?_cons_succ]; exact posO_lt (by omega)
theorem acD_cg {u v : Nat → Value} : ∀ {m : Nat}, (∀ i p, i < m → ord[i]? = some p → u p = v p) → acD ops E ef ord u m = acD ops E ef ord v m
  | 0, _ => rfl
  | m + 1, h => by
    have ih := acD_cg (m := m) fun i p hi => h i p (by omega)
    unfold acD
    cases ho : ord[m]? with
    | none => exact ih
    | some p => simp only [ih, h m p (by omega) ho]
theorem rsD_on {t : Nat} (e : eaM ops E ef ord (vL vs) m t = true) (h : RsD ops Q N D E C ef rd nc ord (m + t) vs W) : RsD ops Q N D E C ef rd nc ord m vs W := by
  induction t generalizing m with
  | zero => exact h
  | succ t ih =>
    unfold eaM at e
    rw [Bool.and_eq_true] at e
    have h2 := ih (m := m + 1) e.2 (by rw [show m + 1 + t = m + (t + 1) by omega]; exact h)
    cases ho : ord[m]? with
    | none => simp [ho] at e
    | some p =>
      simp only [ho, Bool.and_eq_true] at e
      obtain ⟨hp, he⟩ := e.1
      have hps : p < ops.size := Nat.le_of_ble_eq_true hp
      obtain ⟨x, hx⟩ := Option.isSome_iff_exists.1 he
      obtain ⟨hl, rfl⟩ := List.getElem?_eq_some_iff.1 ho
      have hdr : ord.drop m = ord[m] :: ord.drop (m + 1) := List.drop_eq_getElem_cons hl
      unfold RsD at h2 ⊢
      rw [hdr]
      have hac : acD ops E ef ord (vL vs) (m + 1) = psh ops ord[m] x (acD ops E ef ord (vL vs) m) := by
        rw [acD, ho]
        simp only [hx, Option.getD_some]
      rw [hac] at h2
      unfold eaD at hx
      cases hc : (!ef.elem ord[m] && (eSl ops (opA ops ord[m])).all (okx ops ord[m])) with
      | false => rw [hc] at hx; cases hx
      | true =>
        rw [hc] at hx
        have hx' : eas ops (lk E (acD ops E ef ord (vL vs) m)) (opA ops ord[m]) = some x := hx
        rw [Bool.and_eq_true] at hc
        have hef : ef.elem ord[m] = false := by simpa using hc.1
        unfold DW
        rw [hef]
        refine ⟨x, fun a X ha _ => ?_, h2⟩
        refine eas_step (opA_of hps) (f := fun d => a.eval (.tmp d)) (fun _ => rfl) ?_ ⟨rfl, rfl⟩
        rw [← hx']
        refine eas_cg fun y hy => ?_
        rw [← evO_eval (a := a) (f := fun d => a.eval (.tmp d)) (fun _ => rfl) y]
        exact ha y (List.all_eq_true.1 hc.2 y hy)
theorem sk_parts {k : Nat} (hk : skD ops E ef ord (vL vs) m k = true) : m ≤ posO ord k ∧ ord[posO ord k]? = some k ∧ k < ops.size ∧ eaM ops E ef ord (vL vs) m (posO ord k - m) = true ∧ (eaD ops E ef (acD ops E ef ord (vL vs) (posO ord k)) k).isNone = true := by
  unfold skD at hk
  simp only [Bool.and_eq_true] at hk
  obtain ⟨⟨⟨⟨h1, h2⟩, h3⟩, h4⟩, h5⟩ := hk
  refine ⟨Nat.le_of_ble_eq_true h1, ?_, Nat.le_of_ble_eq_true h3, h4, h5⟩
  cases ho : ord[posO ord k]? with
  | none => rw [ho] at h2; cases h2
  | some p => rw [ho] at h2; rw [Nat.eq_of_beq_eq_true h2]
theorem acD_next {k : Nat} {v : Value} (ho : ord[posO ord k]? = some k) (h5 : (eaD ops E ef (acD ops E ef ord (vL vs) (posO ord k)) k).isNone = true) : acD ops E ef ord (vL ((k, v) :: vs)) (posO ord k + 1) = psh ops k v (acD ops E ef ord (vL vs) (posO ord k)) := by
  have hcg : acD ops E ef ord (vL ((k, v) :: vs)) (posO ord k) = acD ops E ef ord (vL vs) (posO ord k) := acD_cg fun i p hi hp => by
    show lk (fun _ => undef) ((k, v) :: vs) p = lk (fun _ => undef) vs p
    simp only [lk]
    cases hb : Nat.beq p k with
    | false => rfl
    | true => exact absurd (by rw [hp, Nat.eq_of_beq_eq_true hb]) (posO_lt hi)
  rw [acD, ho]
  simp only [hcg, Option.isNone_iff_eq_none.1 h5, Option.getD_none]
  congr 1
  show lk (fun _ => undef) ((k, v) :: vs) k = v
  simp only [lk, Nat.beq_refl]
  rfl
theorem gd_want {k : Nat} {ev : List (Nat × Value)} {a : Act} (hg : gdD ops E ev k = true) (ha : Ag ops E k ev a) : Region.wanted (opA ops k) (yielded ops a.tmps) = true := by
  unfold gdD at hg
  rw [Bool.and_eq_true] at hg
  have e : wnt ops (fun d => a.eval (.tmp d)) (opA ops k) = wnt ops (lk E ev) (opA ops k) := wnt_cg fun y hy => by
    rw [← evO_eval (a := a) (f := fun d => a.eval (.tmp d)) (fun _ => rfl) y]
    exact ha y (List.all_eq_true.1 hg.1 y hy)
  cases hw : wnt ops (lk E ev) (opA ops k) with
  | none => rw [hw] at hg; cases hg.2
  | some b =>
    cases b with
    | false => rw [hw] at hg; cases hg.2
    | true => exact wnt_is (f := fun d => a.eval (.tmp d)) (fun _ => rfl) (e.trans hw)
/-- An operation that only reads, of what lay at the beginning; one that doesn't look at the world. -/
theorem dv_ (k : Nat) (v : Value) (h : ∀ (a : Act) (X : World), (∀ x (_q : okx ops k x = true := by rfl), a.eval x = evO (lk E (acD ops E ef ord (vL vs) (posO ord k))) x) → C X → (execOp a.eval (opA ops k)).run Try.prog X = .ok (.value v) X) (n : RsD ops Q N D E C ef rd nc ord (posO ord k + 1) ((k, v) :: vs) W)
    (hk : skD ops E ef ord (vL vs) m k = true := by kernel_rfl) (hg : gdD ops E (acD ops E ef ord (vL vs) (posO ord k)) k = true := by kernel_rfl) (he : ef.elem k = false := by rfl) (hr : rd.elem k = true := by rfl) : RsD ops Q N D E C ef rd nc ord m vs W := by
  obtain ⟨h1, h2, h3, h4, h5⟩ := sk_parts hk
  refine rsD_on h4 ?_
  rw [show m + (posO ord k - m) = posO ord k by omega]
  obtain ⟨hl, hl2⟩ := List.getElem?_eq_some_iff.1 h2
  unfold RsD at n ⊢
  rw [List.drop_eq_getElem_cons hl, hl2]
  rw [acD_next h2 h5] at n
  unfold DW
  rw [he]
  exact ⟨v, fun a X ha hc => stepV (opA_of h3) (gd_want hg ha) (h a X ha (hc hr)) ⟨rfl, rfl⟩, n⟩
theorem dw_ (k : Nat) (v : Value) (h : ∀ (a : Act) (X : World), (∀ x (_q : okx ops k x = true := by rfl), a.eval x = evO (lk E (acD ops E ef ord (vL vs) (posO ord k))) x) → (execOp a.eval (opA ops k)).run Try.prog X = .ok (.value v) X) (n : RsD ops Q N D E C ef rd nc ord (posO ord k + 1) ((k, v) :: vs) W)
    (hk : skD ops E ef ord (vL vs) m k = true := by kernel_rfl) (hg : gdD ops E (acD ops E ef ord (vL vs) (posO ord k)) k = true := by kernel_rfl) (he : ef.elem k = false := by rfl) : RsD ops Q N D E C ef rd nc ord m vs W := by
  obtain ⟨h1, h2, h3, h4, h5⟩ := sk_parts hk
  refine rsD_on h4 ?_
  rw [show m + (posO ord k - m) = posO ord k by omega]
  obtain ⟨hl, hl2⟩ := List.getElem?_eq_some_iff.1 h2
  unfold RsD at n ⊢
  rw [List.drop_eq_getElem_cons hl, hl2]
  rw [acD_next h2 h5] at n
  unfold DW
  rw [he]
  exact ⟨v, fun a X ha _ => stepV (opA_of h3) (gd_want hg ha) (h a X ha) ⟨rfl, rfl⟩, n⟩
/-- One that changes the world. -/
theorem ds_ (k : Nat) (h : ∀ (a : Act), (∀ x (_q : okx ops k x = true := by rfl), a.eval x = evO (lk E (acD ops E ef ord (vL vs) (posO ord k))) x) → wpOp Try.prog ops Q k (fun a' w' => ∃ v, (∃ o, ops[k]? = some o ∧ a' = a.put o.dst v) ∧ ∀ X, X = w' → (nc.elem k = true ∨ C X) ∧ RsD ops Q N D E C ef rd nc ord (posO ord k + 1) ((k, v) :: vs) X) a W)
    (hk : skD ops E ef ord (vL vs) m k = true := by kernel_rfl) (he : ef.elem k = true := by rfl) : RsD ops Q N D E C ef rd nc ord m vs W := by
  obtain ⟨h1, h2, h3, h4, h5⟩ := sk_parts hk
  refine rsD_on h4 ?_
  rw [show m + (posO ord k - m) = posO ord k by omega]
  obtain ⟨hl, hl2⟩ := List.getElem?_eq_some_iff.1 h2
  unfold RsD
  rw [List.drop_eq_getElem_cons hl, hl2]
  unfold DW
  rw [he]
  intro a ha
  refine wpOp_mono ?_ (h a ha)
  rintro a' w' ⟨v, ⟨o, ho, q1⟩, q2⟩
  rw [opA_of h3] at ho
  cases ho
  obtain ⟨q3, q4⟩ := q2 _ rfl
  unfold RsD at q4
  rw [acD_next h2 h5] at q4
  exact ⟨v, q1, q3, q4⟩
theorem dc_ (k : Nat) {post : Ending → World → Prop} (c : Calls Try.prog (fnA ops k) (agA ops (lk E (acD ops E ef ord (vL vs) (posO ord k))) k) W post) (n : ∀ e w', post e w' → ∃ v, e = .returned v ∧ (nc.elem k = true ∨ C w') ∧ RsD ops Q N D E C ef rd nc ord (posO ord k + 1) ((k, v) :: vs) w')
    (hk : skD ops E ef ord (vL vs) m k = true := by kernel_rfl) (hg : gdD ops E (acD ops E ef ord (vL vs) (posO ord k)) k = true := by kernel_rfl) (hx : axD ops k = true := by kernel_rfl) (hc : clA Try.prog ops k = true := by kernel_rfl) (he : ef.elem k = true := by rfl) : RsD ops Q N D E C ef rd nc ord m vs W := by
  obtain ⟨_, _, h3, _, _⟩ := sk_parts hk
  refine ds_ k (fun a ha => ?_) hk he
  have ho := opA_of h3
  unfold clA at hc
  unfold axD at hx
  unfold fnA agA at c
  cases hop : (opA ops k).op with
  | call cl =>
    simp only [hop] at hc c hx
    obtain ⟨cal, xs, ts⟩ := cl
    simp only at hc c hx
    cases cal with
    | value x =>
      cases x with
      | func f =>
        simp only at hc c
        cases hf : Try.prog.funcs[f]? with
        | none => simp [hf] at hc
        | some fn =>
          simp only [hf, Bool.and_eq_true, Bool.not_eq_true'] at hc
          have hr := execCall (a := a) (w := W) hop hf hc.1 hc.2
          have he2 : xs.map a.eval = ⟨xs.toList.map (evO (lk E (acD ops E ef ord (vL vs) (posO ord k))))⟩ := by
            apply Array.ext'
            simp only [Array.toList_map]
            exact List.map_congr_left fun x hx2 => ha x ((Array.all_eq_true_iff_forall_mem.1 hx) x (by simpa using hx2))
          rw [he2] at hr
          refine stepC ho (gd_want hg fun x q => ha x q) hr c fun e' w' hp => ?_
          obtain ⟨v, rfl, hR⟩ := n e' w' hp
          exact ⟨v, rfl, v, ⟨_, ho, rfl⟩, fun X eX => by rw [eX]; exact hR⟩
      | _ => simp at hc
    | _ => simp at hc
  | _ => simp [hop] at hc
theorem dz_ {a0 : Act} {l : List (Nat × Value)} (new : List (Nat × Value)) (_old : Hd a0 l) (h : ∀ a : Act, (a.tmps.size = N ∧ a.defers = D) → Hd a new → Hd a l → Q .normal a W) (hk : (Nat.ble m ord.length && eaM ops E ef ord (vL vs) m (ord.length - m)) = true := by kernel_rfl)
    (h1 : new.map (fun p => lk E (acD ops E ef ord (vL vs) ord.length) p.1) = new.map (·.2) := by kernel_rfl) (h2 : l.map (fun p => lk E (acD ops E ef ord (vL vs) ord.length) p.1) = l.map (·.2) := by kernel_rfl) : RsD ops Q N D E C ef rd nc ord m vs W := by
  rw [Bool.and_eq_true] at hk
  have hj := Nat.le_of_ble_eq_true hk.1
  refine rsD_on hk.2 ?_
  rw [show m + (ord.length - m) = ord.length by omega]
  unfold RsD
  rw [List.drop_eq_nil_of_le (Nat.le_refl _)]
  exact fun a A hv => h a A (hd_of hv new h1) (hd_of hv l h2)
theorem dy_ (new : List (Nat × Value)) (h : ∀ a : Act, (a.tmps.size = N ∧ a.defers = D) → Hd a new → Q .normal a W) (hk : (Nat.ble m ord.length && eaM ops E ef ord (vL vs) m (ord.length - m)) = true := by kernel_rfl)
    (h1 : new.map (fun p => lk E (acD ops E ef ord (vL vs) ord.length) p.1) = new.map (·.2) := by kernel_rfl) : RsD ops Q N D E C ef rd nc ord m vs W := by
  rw [Bool.and_eq_true] at hk
  have hj := Nat.le_of_ble_eq_true hk.1
  refine rsD_on hk.2 ?_
  rw [show m + (ord.length - m) = ord.length by omega]
  unfold RsD
  rw [List.drop_eq_nil_of_le (Nat.le_refl _)]
  exact fun a A hv => h a A (hd_of hv new h1)
/-- A drawn region, from its beginning. -/
theorem wj_ {id : Nat} {a0 : Act} {V : World} {l0 : List (Nat × Value)} (ord ef rd nc : List Nat) (A : a0.tmps.size = N ∧ a0.defers = D) (F : Hd a0 l0) (h : ∀ X, Below V.heap.size V X → RsD ops Q N D (lk (ent a0) l0) (Below V.heap.size V) ef rd nc ord 0 [] X)
    (hk : chk N ops ord ef rd nc = true := by kernel_rfl) (hm : Try.prog.follows .mixedOrders = true := by kernel_rfl) : (Code.region id ops true).wp Try.prog Q a0 V :=
  wd_ ord ef rd nc _ A F (Below.refl _ _).drew (h _ (Below.refl _ _).drew) hk hm
end
end Go.Proofs.Ytcibogmghagpoaa.Cf
