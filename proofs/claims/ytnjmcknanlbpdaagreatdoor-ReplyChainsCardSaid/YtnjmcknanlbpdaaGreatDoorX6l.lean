import Derived.Test.YtnjmcknanlbpdaaGreatDoorB7b
import Derived.Test.YtnjmcknanlbpdaaGreatDoorX5p
import Derived.Test.YtnjmcknanlbpdaaGreatDoorC6
namespace Go.Proofs.YtnjmcknanlbpdaaGreatDoor.Oni
open Go.RowKit Gf8 Aes By8 Cel
/- alive. -/

theorem execB16o {o : Oper} {a : Act} {w : World} (ho : o.op = .build 23 #[(0, .const (.int .u8 1))]) : (execOp a.eval o).run Tryz.prog w = .ok (.value (.agg (bA 16 oneF))) w := by
  have h := zero16
  unfold execOp
  simp only [ho]
  simp [go_sem, h]
  rfl
theorem oneF_by : By oneF := fun j _ => by unfold oneF; split <;> omega
theorem wrF_lt {key nonce inner : Nat → Nat} {L n : Nat} (h1 : By nonce) (hn : n < 65536) (h2 : ∀ j, j < n → inner j < 256) (j : Nat) : wrF key nonce L n inner j < 256 :=
  onB_lt h1 (fun _ => tgF_lt _ _ _ _ _ _) (fun _ => bxF_lt (dk_lt _ _) (pbF_all hn h2) _) j
theorem peP_lt {key c : Nat → Nat} {j : Nat} (h : c (32 + j) < 256) : peP key c j < 256 := by
  unfold peP bxF maskF
  exact xor_lt h (enc_by (fun j _ => kw_lt (fun i _ => dk_lt _ _ i) j) (be_by _) _ (Nat.mod_lt _ (by omega)))
theorem nxF_lt {left : Int} {n : Nat} {p : Nat → Nat} (hn : left ≤ 1 → n < 256) (hp : ∀ j, j < n → p j < 256) : ∀ j, nxF left n p j < 256 := by
  intro j
  unfold nxF
  split
  · exact cellF_lt (fun j h => by omega) hp j
  · rename_i q
    have := hn (by omega)
    exact cellF_lt (fun j h => by unfold headP; split <;> omega) hp j
end Go.Proofs.YtnjmcknanlbpdaaGreatDoor.Oni

namespace Go.Proofs.YtnjmcknanlbpdaaGreatDoor.Oni
open Go.RowKit Gf8 Aes By8 Cel
/- The reference's Forge, Wrap. -/

theorem some_nil' {W : World} {v : Value} {n : Nat} {p : Nat → Nat} (h : SliceN W v n p) (h0 : 0 < n) : ∀ l c, v = .slice none l c → c = 0 := by
  intro l cap e
  obtain ⟨a, c, e', _, _, e3⟩ := h.shape
  obtain ⟨b, o, rfl, _⟩ := e3 h0
  rw [e] at e'
  cases e'
set_option maxRecDepth 20000 in
set_option maxHeartbeats 1000000 in
theorem forge_any (key nonce pl : Nat → Nat) (L N : Nat) (vk vp : Value) (V : World) (hk : SliceN V vk 32 key) (hn : By nonce) (hL : L < 256) (hN : 0 < N ∧ N ≤ 288) (hp : SliceN V vp N pl) :
    Calls Tryz.prog 33 #[vk, .agg (bA 16 nonce), .int .i64 (L : Int), vp] V fun e w' => ∃ r, e = .returned r ∧ w'.ownsRow V.heap.size 5 1 r (32 + N) (bytesL (32 + N) (onB nonce (tgF (dk key nonce) L nonce (bxF (dk key nonce) pl) N) (bxF (dk key nonce) pl))) ∧ Below V.heap.size V w' := by
  obtain ⟨V1, hV1⟩ : ∃ V1, V.alloc (.cells (bA 16 nonce) 23) = V1 := ⟨_, rfl⟩
  have r1 := heapNew V (.cells (bA 16 nonce) 23)
  have b1 := belNew V (.cells (bA 16 nonce) 23)
  have s1 : V1.heap.size = V.heap.size + 1 := by rw [← hV1]; simp
  rw [hV1] at r1 b1
  obtain ⟨D, hD⟩ : ∃ D, dk key nonce = D := ⟨_, rfl⟩
  have C := rder_ok key nonce vk V1 hn (hk.on b1)
  rw [hD] at C ⊢
  have DL : Hid (∀ j, D j < 256) := by rw [← hD]; exact dk_lt key nonce
  obtain ⟨bx, hbx⟩ : ∃ bx, bxF D pl = bx := ⟨_, rfl⟩
  rw [hbx]
  obtain ⟨tg, htg⟩ : ∃ tg, tgF D L nonce bx N = tg := ⟨_, rfl⟩
  rw [htg]
  obtain ⟨on, hon⟩ : ∃ on, onB nonce tg bx = on := ⟨_, rfl⟩
  rw [hon]
  have bxl : ∀ j, j < N → bx j < 256 := fun j hj => by
    rw [← hbx]
    unfold bxF maskF
    exact xor_lt (hp.bytes j hj) (enc_by (fun j _ => kw_lt (fun i _ => DL.out i) j) (be_by _) _ (Nat.mod_lt _ (by omega)))
  have o1 : ∀ j, j < 16 → nonce j = on j := fun j hj => by rw [← hon]; unfold onB; rw [if_pos hj]
  have o2 : ∀ j, j < 16 → tg j = on (16 + j) := fun j hj => by rw [← hon]; unfold onB; rw [if_neg (by omega), if_pos (by omega)]; congr 1; omega
  have o3 : ∀ j, bx j = on (32 + j) := fun j => by rw [← hon]; unfold onB; rw [if_neg (by omega), if_neg (by omega)]; congr 1; omega
  have OO : Hid ((∀ j, j < 16 → nonce j = on (0 + j)) ∧ (∀ j, j < 16 → tg j = on (16 + j)) ∧ ∀ j, bx j = on (32 + j)) := ⟨fun j hj => by rw [Nat.zero_add]; exact o1 j hj, o2, o3⟩
  have H : Hid (V1.heap[V.heap.size]? = some (.cells (bA 16 nonce) 23) ∧ Below V.heap.size V V1 ∧ V1.heap.size = V.heap.size + 1) := ⟨r1, b1, s1⟩
  have HV : Hid (By nonce ∧ SliceN V vp N pl ∧ 0 < N ∧ N ≤ 288 ∧ L < 256 ∧ bxF D pl = bx ∧ tgF D L nonce bx N = tg ∧ (∀ j, tg j < 256) ∧ ∀ j, j < N → bx j < 256) := ⟨hn, hp, hN.1, hN.2, hL, hbx, htg, by rw [← htg]; exact tgF_lt _ _ _ _ _, bxl⟩
  have MK : Hid (∀ W (v : Value), SliceN W v N pl → Calls Tryz.prog 45 #[.agg (bA 16 fun j => D (0 + j)), .agg (bA 16 fun _ => 0), v] W fun e w' => ∃ r, e = .returned r ∧ SliceN w' r N bx ∧ Below W.heap.size W w') := fun W v hv => by
    have e1 : (fun j => D (0 + j)) = D := by funext j; rw [Nat.zero_add]
    rw [be0, e1]
    have h := rmask_any D pl 0 N v W (fun j _ => DL.out j) hv (by have := HV.out; omega)
    rw [show maskF (kw D) 0 pl = bx from HV.out.2.2.2.2.2.1] at h
    exact h
  have zk := zeroK
  have z16 := zero16
  have s16 := sl16
  have l1 : (N : Int) ≤ 288 := by omega
  clear hk hn hL hN hp r1 b1 s1 hD hbx htg hon bxl o1 o2 o3
  go_enter Tryz.func33, Tryz.ntmps33
  go_wp2_with (first
    | (refine atLoad 23 (.tmp 5) rfl ?_; go_must (refine wpList_ex rfl (execLdAll rfl rfl (by first | exact B4.out.2.1 | exact H.out.1) Tryz.underlying23 rfl (size16 _)) ?_))
    | (go_at_call 43; refine C.mono ?_; rintro e w1 ⟨rfl, hb1⟩; have B1 : Hid (Below V1.heap.size V1 w1) := hb1; clear hb1)
    | (refine atStore 64 (.tmp 9) (.tmp 18) rfl ?_; go_must (refine wpList_exS rfl (execStAll (cells := bA 80 D) rfl rfl rfl (heapNew w1 _) (by rw [bA_size, bA_size]) (size80 _) (bA_one _ _)) ?_; obtain ⟨W2, hW2⟩ : ∃ W2, (w1.alloc (.cells (bA 80 fun _ => 0) 64)).setRow w1.heap.size (bA 80 D) = W2 := ⟨_, rfl⟩; have k2 : W2.heap[w1.heap.size]? = some (.cells (bA 80 D) 64) := (by rw [← hW2]; exact setRow_heap _ _ _ _ _ _ (heapNew w1 _)); have b2 : Below w1.heap.size w1 W2 := (by rw [← hW2]; exact below4 (belNew w1 _) (Nat.le_refl _) _); have a2 : W2.heap[V.heap.size]? = some (.cells (bA 16 nonce) 23) := (by have := B1.out.size; have := H.out.2.2; rw [b2.block _ (by omega), B1.out.block _ (by omega)]; exact H.out.1); have H2 : Hid (W2.heap[w1.heap.size]? = some (.cells (bA 80 D) 64) ∧ W2.heap[V.heap.size]? = some (.cells (bA 16 nonce) 23) ∧ Below V.heap.size V W2) := ⟨k2, a2, (H.out.2.1.trans (B1.out.mono H.out.2.1.size)).trans (b2.mono (by have := H.out.2.1.size; have := B1.out.size; omega))⟩; rw [hW2]; clear k2 b2 a2 hW2))
    | (refine atLoad 23 (.tmp 20) rfl ?_; go_must (refine wpList_ex rfl (execLdPart (k := 16) rfl rfl H2.out.1 (by omega) Tryz.underlying23 rfl (by kernel_rfl)) ?_))
    | (refine wpList_ex rfl (execB16 rfl) ?_)
    | (go_at_call 45; refine (MK.out W2 _ (HV.out.2.1.on H2.out.2.2)).mono ?_; rintro e w4 ⟨r4, rfl, sl4, hb4⟩; obtain ⟨ba, bc, rfl, _⟩ := id sl4.shape; have B4 : Hid (w4.heap[w1.heap.size]? = some (.cells (bA 80 D) 64) ∧ w4.heap[V.heap.size]? = some (.cells (bA 16 nonce) 23) ∧ Below V.heap.size V w4 ∧ SliceN w4 (.slice ba N bc) N bx ∧ V.heap.size < w4.heap.size) := ⟨(by rw [hb4.block _ (Array.getElem?_eq_some_iff.1 H2.out.1).1]; exact H2.out.1), (by rw [hb4.block _ (Array.getElem?_eq_some_iff.1 H2.out.2.1).1]; exact H2.out.2.1), H2.out.2.2.trans (hb4.mono H2.out.2.2.size), sl4, (by have := (Array.getElem?_eq_some_iff.1 H2.out.2.1).1; have := hb4.size; omega)⟩; have TG := rtg_any D nonce bx L N (.slice ba N bc) w4 DL.out HV.out.1 HV.out.2.2.2.2.1 HV.out.2.2.1 (by have := HV.out.2.2.2.1; omega) sl4; rw [HV.out.2.2.2.2.2.2.1] at TG; clear sl4 hb4)
    | (refine atLoad 64 (.tmp 9) rfl ?_; go_must (refine wpList_ex rfl (execLdAll rfl rfl B4.out.1 Tryz.underlying64 rfl (size80 _)) ?_))
    | (go_at_call 44; refine TG.mono ?_; rintro e w5 ⟨rfl, hb5⟩; have B5 : Hid (Below w4.heap.size w4 w5) := hb5; clear hb5)
    | (refine atStore 23 (.tmp 12) (.tmp 29) rfl ?_; go_must (refine wpList_exS rfl (execStAll (cells := bA 16 tg) rfl rfl rfl (heapNew w5 _) (by rw [bA_size, bA_size]) (size16 _) (bA_one _ _)) ?_; obtain ⟨W6, hW6⟩ : ∃ W6, (w5.alloc (.cells (bA 16 fun _ => 0) 23)).setRow w5.heap.size (bA 16 tg) = W6 := ⟨_, rfl⟩; have t6 : W6.heap[w5.heap.size]? = some (.cells (bA 16 tg) 23) := (by rw [← hW6]; exact setRow_heap _ _ _ _ _ _ (heapNew w5 _)); have b6 : Below w5.heap.size w5 W6 := (by rw [← hW6]; exact below4 (belNew w5 _) (Nat.le_refl _) _); have b56 : Below w4.heap.size w4 W6 := B5.out.trans (b6.mono B5.out.size); have H6 : Hid (SliceN W6 (.slice (some ⟨w5.heap.size, 0, none⟩) 16 16) 16 tg ∧ SliceN W6 (.slice (some ⟨V.heap.size, 0, none⟩) 16 16) 16 nonce ∧ SliceN W6 (.slice ba N bc) N bx ∧ Below V.heap.size V W6) := ⟨row_slice t6 (fun j _ => HV.out.2.2.2.2.2.2.2.1 j) (by omega), row_slice (by rw [b56.block _ B4.out.2.2.2.2]; exact B4.out.2.1) (fun j hj => HV.out.1 j hj) (by omega), B4.out.2.2.2.1.on b56, B4.out.2.2.1.trans (b56.mono B4.out.2.2.1.size)⟩; have O0 : Hid (_) := own_made W6 (B := W6.heap.size) (n := 32 + N) (Nat.le_refl _) (by have := HV.out; omega); have F0 : Hid (Below W6.heap.size W6 (W6.alloc (.cells (bA (32 + N) fun _ => 0) 5))) := belNew W6 _; rw [hW6]; clear t6 b6 b56 hW6))
    | (refine wpList_ex rfl (execMk (l := 0) (n := 32 + N) rfl rfl (by show Value.int .i64 (32 + (N : Int)) = _; rw [Int.natCast_add]; rfl) (by omega) (by have := HV.out; omega)) ?_)
    | (refine atAppB (.tmp 34) (.tmp 35) rfl ?_; go_must (refine By8.wpList_appS (B := W6.heap.size) (n := 0) (m := 16) (p := on) rfl (.tmp 34) (.tmp 35) rfl rfl rfl O0.out (sliceN_cg (H6.out.2.1.on F0.out) OO.out.1) (fun l c e => by cases e) (by omega) F0.out.size ?_; intro u1 X1 ow1 gr1; have O1 : Hid (_) := ow1; have F1 : Hid (Below W6.heap.size W6 X1) := below_grown F0.out F0.out.size O0.out gr1; clear ow1 gr1))
    | (refine atAppB (.tmp 37) (.tmp 38) rfl ?_; go_must (refine By8.wpList_appS (B := W6.heap.size) (n := 0 + 16) (m := 16) (p := on) rfl (.tmp 37) (.tmp 38) rfl rfl rfl O1.out (sliceN_cg (H6.out.1.on F1.out) OO.out.2.1) (fun l c e => by cases e) (by omega) F1.out.size ?_; intro u2 X2 ow2 gr2; have O2 : Hid (_) := ow2; have F2 : Hid (Below W6.heap.size W6 X2) := below_grown F1.out F1.out.size O1.out gr2; clear ow2 gr2))
    | (refine atAppB (.tmp 40) (.tmp 41) rfl ?_; go_must (refine By8.wpList_appS (B := W6.heap.size) (n := 0 + 16 + 16) (m := N) (p := on) rfl (.tmp 40) (.tmp 41) rfl rfl rfl O2.out (sliceN_cg (H6.out.2.2.1.on F2.out) fun j _ => OO.out.2.2 j) (some_nil' H6.out.2.2.1 HV.out.2.2.1) (by have := HV.out; omega) F2.out.size ?_; intro u3 X3 ow3 gr3; have O3 : Hid (_) := ow3; have F3 : Hid (Below W6.heap.size W6 X3) := below_grown F2.out F2.out.size O2.out gr3; clear ow3 gr3)))
  go_ret
  refine ⟨_, rfl, ?_, H6.out.2.2.2.trans (F3.out.mono H6.out.2.2.2.size)⟩
  have := own_base O3.out H6.out.2.2.2.size
  rw [show 0 + 16 + 16 + N = 32 + N by omega] at this
  exact this
theorem execRemI {o : Oper} {a : Act} {w : World} {x y : Operand} {p q : Nat} (ho : o.op = .binOp .rem 3 x y 3) (hx : a.eval x = .int .i64 p) (hy : a.eval y = .int .i64 q) (h : q ≠ 0) (hp : p < 9223372036854775808) : (execOp a.eval o).run Tryz.prog w = .ok (.value (.int .i64 (p % q : Nat))) w := by
  have _ := hp
  unfold execOp
  simp only [ho, hx, hy]
  simp [go_sem]
  rw [if_neg h, Int.tmod_eq_emod_of_nonneg (Int.natCast_nonneg p)]
/-- The plain box's row up to i bytes of what is inside. -/
def plU (n : Nat) (inner : Nat → Nat) (i : Nat) : Nat → Nat := fun j => if j = 0 then n / 256 else if j = 1 then n % 256 else if j < 2 + i then inner (j - 2) else 0
theorem plU_0 (N n : Nat) (inner : Nat → Nat) : bA N (updN (updN (fun _ => 0) 0 (n / 256)) 1 (n % 256)) = bA N (plU n inner 0) := by
  refine bA_congr fun j _ => ?_
  unfold updN plU
  by_cases h0 : j = 0
  · subst h0; rfl
  · by_cases h1 : j = 1
    · subst h1; rfl
    · rw [if_neg h1, if_neg h0, if_neg h0, if_neg h1, if_neg (by omega)]
theorem plU_s (N n : Nat) (inner : Nat → Nat) (i : Nat) : bA N (updN (plU n inner i) (2 + i) (inner i)) = bA N (plU n inner (i + 1)) := by
  refine bA_congr fun j _ => ?_
  unfold updN plU
  by_cases h : j = 2 + i
  · subst h
    rw [if_pos rfl, if_neg (by omega), if_neg (by omega), if_pos (by omega)]
    congr 1
    omega
  · rw [if_neg h]
    by_cases h0 : j = 0
    · rw [if_pos h0, if_pos h0]
    · by_cases h1 : j = 1
      · rw [if_neg h0, if_pos h1, if_neg h0, if_pos h1]
      · rw [if_neg h0, if_neg h1, if_neg h0, if_neg h1]
        by_cases h2 : j < 2 + i
        · rw [if_pos h2, if_pos (by omega)]
        · rw [if_neg h2, if_neg (by omega)]
theorem plU_n (N n : Nat) (inner : Nat → Nat) : bA N (plU n inner n) = bA N (pbF n inner) := by
  refine bA_congr fun j _ => ?_
  unfold plU pbF cellF hd2
  by_cases h0 : j = 0
  · subst h0; rfl
  · by_cases h1 : j = 1
    · subst h1; rfl
    · rw [if_neg h0, if_neg h1, if_neg (show ¬ j < 2 by omega)]
set_option maxRecDepth 20000 in
set_option maxHeartbeats 1000000 in
theorem rwrap_any (key nonce inner : Nat → Nat) (lk n : Nat) (left : Int) (vk vi : Value) (V : World) (hk : SliceN V vk lk key) (hn : By nonce) (hi : SliceN V vi n inner) (hb : n ≤ 140737488351232) :
    Calls Tryz.prog 17 #[vk, .agg (bA 16 nonce), .int .i64 left, vi] V fun e w' => ∃ r, e = .returned (.tuple #[r, .int .i64 (wrE lk left n : Nat)]) ∧ w'.ownsRow V.heap.size 5 1 r (wrN lk left n) (bytesL (wrN lk left n) (wrF key nonce left.toNat n inner)) ∧ Below V.heap.size V w' := by
  obtain ⟨V1, hV1⟩ : ∃ V1, V.alloc (.cells (bA 16 nonce) 23) = V1 := ⟨_, rfl⟩
  have r1 := heapNew V (.cells (bA 16 nonce) 23)
  have b1 := belNew V (.cells (bA 16 nonce) 23)
  have s1 : V1.heap.size = V.heap.size + 1 := by rw [← hV1]; simp
  rw [hV1] at r1 b1
  obtain ⟨ka, kcap, rfl, _⟩ := id hk.shape
  obtain ⟨ao, cap, rfl, _⟩ := id hi.shape
  obtain ⟨S, hS⟩ : ∃ S, sz left = S := ⟨_, rfl⟩
  have PS := rsize_any left
  rw [hS] at PS
  have H : Hid (V1.heap[V.heap.size]? = some (.cells (bA 16 nonce) 23) ∧ Below V.heap.size V V1 ∧ V1.heap.size = V.heap.size + 1) := ⟨r1, b1, s1⟩
  have HV : Hid (SliceN V (.slice ka lk kcap) lk key ∧ By nonce ∧ SliceN V (.slice ao n cap) n inner) := ⟨hk, hn, hi⟩
  have l3 : (n : Int) ≤ 140737488351232 := by omega
  clear hk hn hi hb r1 b1 s1
  by_cases hbad : lk ≠ 32 ∨ S = 0
  · have E : wrE lk left n = 2 := by unfold wrE; rw [hS, if_pos hbad]
    have E2 : wrN lk left n = 0 := by unfold wrN; rw [E]; rfl
    rw [E, E2]
    clear E E2 hS
    by_cases hl : lk = 32
    · have i1 : ((lk : Int) != 32) = false := by simp; omega
      obtain rfl : S = 0 := by rcases hbad with h | h; exact absurd hl h; exact h
      clear hbad
      go_enter Tryz.func17, Tryz.ntmps17
      go_wp2_with (go_at_call 32; refine (PS _).mono ?_; rintro e w2 ⟨rfl, hw2⟩; rw [hw2]; clear hw2)
      refine bodyPost_ret (results_tmp2 rfl _ _ _) rfl ⟨_, rfl, World.ownsRow_nil _ _ _ _, H.out.2.1⟩
    · have i1 : ((lk : Int) != 32) = true := by simp; omega
      clear hbad
      go_enter Tryz.func17, Tryz.ntmps17
      go_wp2_with fail
      refine bodyPost_ret (results_tmp2 rfl _ _ _) rfl ⟨_, rfl, World.ownsRow_nil _ _ _ _, H.out.2.1⟩
  · obtain rfl : lk = 32 := by
      by_cases h : lk = 32
      · exact h
      · exact absurd (Or.inl h) hbad
    have h0 : S ≠ 0 := fun h => hbad (Or.inr h)
    obtain ⟨g1, g2, g3, g4⟩ := sz_pos (left := left) (by rw [hS]; exact h0)
    have g5 := sz_le left
    rw [hS] at g3 g4 g5
    have i9 : ((S : Int) == 0) = false := by simp; omega
    have i6 : (S : Int) ≤ 320 := by omega
    by_cases hlong : S - 34 < n
    · have E : wrE 32 left n = 1 := by unfold wrE; rw [if_neg (by rw [hS]; simp; exact h0), if_pos (by rw [hS]; exact hlong)]
      have E2 : wrN 32 left n = 0 := by unfold wrN; rw [E]; rfl
      rw [E, E2]
      have i1 : (n : Int) > (S : Int) - 34 := by omega
      clear E E2 g1 g2 g3 g4 g5 h0 hlong hS hbad
      go_enter Tryz.func17, Tryz.ntmps17
      go_wp2_with (go_at_call 32; refine (PS _).mono ?_; rintro e w2 ⟨rfl, hw2⟩; rw [hw2]; clear hw2)
      refine bodyPost_ret (results_tmp2 rfl _ _ _) rfl ⟨_, rfl, World.ownsRow_nil _ _ _ _, H.out.2.1⟩
    · have E : wrE 32 left n = 0 := by unfold wrE; rw [if_neg (by rw [hS]; simp; exact h0), if_neg (by rw [hS]; exact hlong)]
      have E2 : wrN 32 left n = S := by unfold wrN; rw [if_pos E, hS]
      rw [E, E2]
      obtain ⟨L, hL⟩ : ∃ L : Nat, left = L := ⟨left.toNat, by omega⟩
      subst hL
      have i1 : ¬ (n : Int) > (S : Int) - 34 := by omega
      obtain ⟨N, hN⟩ : ∃ N, N = S - 32 := ⟨_, rfl⟩
      have hSN : S = 32 + N := by omega
      have i7 : (S : Int) - 32 = (N : Int) := by omega
      have FG : Hid (∀ (W : World) (v : Value), Below V.heap.size V W → SliceN W v N (pbF n inner) → Calls Tryz.prog 33 #[.slice ka 32 kcap, .agg (bA 16 nonce), .int .i64 (L : Int), v] W fun e w' => ∃ r, e = .returned r ∧ w'.ownsRow W.heap.size 5 1 r S (bytesL S (wrF key nonce (L : Int).toNat n inner)) ∧ Below W.heap.size W w') := fun W v hW hv => by
        have h := forge_any key nonce (pbF n inner) L N (.slice ka 32 kcap) v W (HV.out.1.on hW) HV.out.2.1 (by omega) (by omega) hv
        rw [hSN, show (L : Int).toNat = L from by simp]
        unfold wrF
        rw [hS, show S - 32 = N by omega]
        exact h
      have HN : Hid (S = 32 + N ∧ 50 ≤ N ∧ N ≤ 288 ∧ n + 2 ≤ N) := ⟨hSN, by omega, by omega, by omega⟩
      have PBL : Hid (∀ j, j < N → pbF n inner j < 256) := fun j _ => pbF_all (by omega) HV.out.2.2.bytes j
      have n300 : (n : Int) ≤ 300 := by omega
      have N300 : (N : Int) ≤ 300 := by omega
      have j0 : (0 : Int) < (N : Int) := by omega
      have j1 : (1 : Int) < (N : Int) := by omega
      clear E E2 g1 g2 g3 g4 g5 h0 hlong hS hbad hN hSN l3
      obtain ⟨W1, hW1⟩ : ∃ W1, V1.alloc (.cells (bA N fun _ => 0) 5) = W1 := ⟨_, rfl⟩
      have r1 := heapNew V1 (.cells (bA N fun _ => 0) 5)
      have b1 := belNew V1 (.cells (bA N fun _ => 0) 5)
      rw [hW1] at r1 b1
      have b01 := H.out.2.1.trans (b1.mono H.out.2.1.size)
      obtain ⟨W2, hW2⟩ : ∃ W2, W1.setRow V1.heap.size (bA N (updN (fun _ => 0) 0 (n / 256))) = W2 := ⟨_, rfl⟩
      have r2 := setRow_heap _ _ _ (bA N (updN (fun _ => 0) 0 (n / 256))) _ _ r1
      have b2 := below4 b1 (Nat.le_refl _) (bA N (updN (fun _ => 0) 0 (n / 256)))
      rw [hW2] at r2 b2
      obtain ⟨W3, hW3⟩ : ∃ W3, W2.setRow V1.heap.size (bA N (updN (updN (fun _ => 0) 0 (n / 256)) 1 (n % 256))) = W3 := ⟨_, rfl⟩
      have r3 := setRow_heap _ _ _ (bA N (updN (updN (fun _ => 0) 0 (n / 256)) 1 (n % 256))) _ _ r2
      have b3 := below4 b2 (Nat.le_refl _) (bA N (updN (updN (fun _ => 0) 0 (n / 256)) 1 (n % 256)))
      rw [hW3] at r3 b3
      have H1 : Hid (W1.heap[V1.heap.size]? = some (.cells (bA N fun _ => 0) 5) ∧ W2.heap[V1.heap.size]? = some (.cells (bA N (updN (fun _ => 0) 0 (n / 256))) 5)) := ⟨r1, r2⟩
      rw [plU_0 N n inner] at r3
      have H3 : Hid (Below V1.heap.size V1 W3 ∧ W3.heap[V1.heap.size]? = some (.cells (bA N (plU n inner 0)) 5)) := ⟨b3, r3⟩
      clear r1 b1 b01 r2 b2 r3 b3
      go_enter Tryz.func17, Tryz.ntmps17
      go_wp2_with (first
        | (go_at_call 32; refine (PS _).mono ?_; rintro e w2 ⟨rfl, hw2⟩; rw [hw2]; clear hw2)
        | (refine wpList_ex rfl (execMk (l := N) (n := N) rfl (by show Value.int .i64 _ = _; congr 1) (by show Value.int .i64 _ = _; congr 1) (Nat.le_refl _) (by have := HN.out; omega)) ?_)
        | (refine wpList_ex rfl (execQuoI (x := .tmp 32) (p := n) (q := 256) rfl rfl rfl (by omega) (by have := HN.out; omega)) ?_)
        | (refine wpList_ex rfl (execRemI (x := .tmp 38) (p := n) (q := 256) rfl rfl rfl (by omega) (by have := HN.out; omega)) ?_)
        | (refine wpList_ex rfl (execU8s (x := .tmp 33) (n := n / 256) rfl rfl (by have := HN.out; omega)) ?_)
        | (refine wpList_ex rfl (execU8s (x := .tmp 39) (n := n % 256) rfl rfl (by omega)) ?_)
        | (refine atStore 5 (.tmp 35) (.tmp 34) rfl ?_; go_must (refine wpList_exS rfl (execStRow (z := n / 256) rfl rfl rfl H1.out.1 (by have := HN.out; omega)) ?_))
        | (refine atStore 5 (.tmp 41) (.tmp 40) rfl ?_; go_must (refine wpList_exS rfl (execStRow (z := n % 256) rfl rfl rfl H1.out.2 (by have := HN.out; omega)) ?_)))
      go_loopw [11] (fun z W => ∃ i : Nat, i ≤ n ∧ z = .int .i64 (i : Int) ∧ W.heap[V1.heap.size]? = some (.cells (bA N (plU n inner i)) 5) ∧ Below V1.heap.size V1 W) (fun z _ => n - (intOf z).toNat)
      case atStart => exact ⟨0, by omega, rfl, by first | exact ⟨H3.out.2, H3.out.1⟩ | (rw [hW3]; exact ⟨H3.out.2, H3.out.1⟩)⟩
      case round =>
        obtain ⟨i, hi, rfl, q1, q2⟩ := hrel
        by_cases hlt : i < n
        · have i2 : (i : Int) < n := by omega
          obtain ⟨b, off, e, hbV, hcell⟩ : ∃ b off, ao = some ⟨b, off, none⟩ ∧ b < V.heap.size ∧ ∀ j, j < n → V.cell? ⟨b, off + j, none⟩ = some (.int .u8 (inner j)) := by
            obtain ⟨a', c', e', _, _, e3⟩ := HV.out.2.2.shape
            obtain ⟨b, off, rfl, h1, h2⟩ := e3 (by omega)
            injection e' with e4
            exact ⟨b, off, e4, h1, h2⟩
          subst e
          have bVW := H.out.2.1.trans (q2.mono H.out.2.1.size)
          have cT : wr.cell? ⟨b, off + i, none⟩ = some (.int .u8 (inner i)) := by rw [cell_below bVW hbV]; exact hcell i hlt
          have QQ : Hid (wr.heap[V1.heap.size]? = some (.cells (bA N (plU n inner i)) 5) ∧ Below V1.heap.size V1 wr ∧ i < n) := ⟨q1, q2, hlt⟩
          have a2 : (2 : Int) + (i : Int) = ((2 + i : Nat) : Int) := by omega
          have A2 : Hid ((2 : Int) + (i : Int) = ((2 + i : Nat) : Int)) := a2
          clear q1 q2 hlt hi hcell bVW hbV a2
          go_wp2_with (first
            | (refine wpList_ex rfl (execIdxS (x := .tmp 51) (k := i) rfl rfl rfl QQ.out.2.2) ?_)
            | (refine atLoad 5 (.tmp 53) rfl ?_; go_must (refine wpList_ex rfl (execLdB rfl rfl cT) ?_))
            | (refine wpList_ex rfl (execIdxS (x := .tmp 48) (k := 2 + i) rfl rfl (by show Value.int .i64 _ = _; rw [A2.out]) (by have := QQ.out.2.2; have := HN.out; omega)) ?_)
            | (refine atStore 5 (.tmp 55) (.tmp 54) rfl ?_; go_must (refine wpList_exS rfl (execStRow (z := inner i) (k := 2 + i) rfl (by show Value.pointer _ = _; rw [Nat.zero_add]) rfl QQ.out.1 (by have := QQ.out.2.2; have := HN.out; omega)) ?_)))
          go_roundw
          case rel => exact ⟨i + 1, QQ.out.2.2, by go_num, by rw [plU_s]; exact setRow_heap _ _ _ _ _ _ QQ.out.1, below4 QQ.out.2.1 (Nat.le_refl _) _⟩
          case measure => have := QQ.out.2.2; simp [intOf]; omega
        · have i2 : ¬ (i : Int) < n := by omega
          have ei : i = n := by omega
          rw [ei, plU_n] at q1
          have QQ : Hid (SliceN wr (.slice (some ⟨V1.heap.size, 0, none⟩) N N) N (pbF n inner) ∧ Below V.heap.size V wr ∧ wr.heap[V.heap.size]? = some (.cells (bA 16 nonce) 23)) := ⟨row_slice q1 PBL.out (by have := HN.out; omega), H.out.2.1.trans (q2.mono H.out.2.1.size), by rw [q2.block _ (by have := H.out.2.2; omega)]; exact H.out.1⟩
          clear q1 q2 hlt hi ei
          go_wp2_with (first
            | (refine atLoad 23 (.tmp 5) rfl ?_; go_must (refine wpList_ex rfl (execLdAll rfl rfl QQ.out.2.2 Tryz.underlying23 rfl (size16 _)) ?_))
            | (go_at_call 33; refine (FG.out wr _ QQ.out.2.1 QQ.out.1).mono ?_; rintro e w5 ⟨r5, rfl, own5, hb5⟩))
          refine bodyPost_ret (results_tmp2 rfl _ _ _) rfl ⟨_, rfl, own_base own5 QQ.out.2.1.size, QQ.out.2.1.trans (hb5.mono QQ.out.2.1.size)⟩
end Go.Proofs.YtnjmcknanlbpdaaGreatDoor.Oni

namespace Go.Proofs.YtnjmcknanlbpdaaGreatDoor.Oni
open Go.RowKit Gf8 Aes By8 Cel
/- OnionOne. -/

/-- What a cell that is peeled tells. -/
theorem pe_parts {lk len : Nat} {left : Int} {key c : Nat → Nat} (h : peE lk left len key c = 0) : lk = 32 ∧ 1 ≤ left ∧ left ≤ 8 ∧ len = 320 ∧ (∀ j, sz left ≤ j → j < 320 → c j = 0) ∧ peT key left c = true ∧ inOk (sz left - 32) (peP key c) = true := by
  unfold peE at h
  by_cases h1 : lk ≠ 32 ∨ sz left = 0
  · rw [if_pos h1] at h; omega
  · rw [if_neg h1] at h
    have hl : lk = 32 := by
      by_cases e : lk = 32
      · exact e
      · exact absurd (Or.inl e) h1
    have hs : sz left ≠ 0 := fun e => h1 (Or.inr e)
    obtain ⟨g1, g2, g3, g4⟩ := sz_pos hs
    by_cases h2 : cutE c len (sz left) ≠ 0
    · rw [if_pos h2] at h; exact absurd h h2
    · rw [if_neg h2] at h
      have hc : cutE c len (sz left) = 0 := by omega
      have hlen : len = 320 := by
        unfold cutE at hc
        by_cases e : len = 320
        · exact e
        · rw [if_pos e] at hc; omega
      have hz : ∀ j, sz left ≤ j → j < 320 → c j = 0 := by
        unfold cutE at hc
        have := sz_le left
        rw [if_neg (by simp; exact hlen), if_neg (by omega)] at hc
        by_cases e : zeroFrom c (sz left : Int).toNat = true
        · intro j h1 h2
          exact (zeroFrom_iff _ _).1 e j (by simp; exact h1) h2
        · rw [if_neg e] at hc; omega
      by_cases h3 : peT key left c = false
      · rw [if_pos h3] at h; omega
      · rw [if_neg h3] at h
        by_cases h4 : inOk (sz left - 32) (peP key c) = false
        · rw [if_pos h4] at h; omega
        · exact ⟨hl, g1, g2, hlen, hz, by simpa using h3, by simpa using h4⟩
end Go.Proofs.YtnjmcknanlbpdaaGreatDoor.Oni

namespace Go.Proofs.YtnjmcknanlbpdaaGreatDoor.Oni
open Go.RowKit Gf8 Aes By8 Cel
/- The reference's Peel: what it needs. -/

theorem execFldQ0 {o : Oper} {a : Act} {w : World} {x : Operand} {g : Nat} (ho : o.op = .fieldAddr 50 x 0) (hx : a.eval x = .pointer (some ⟨g, 0, none⟩)) : (execOp a.eval o).run Tryz.prog w = .ok (.value (.pointer (some ⟨g, 0, none⟩))) w := by
  unfold execOp
  simp only [ho, hx]
  simp [go_sem]
end Go.Proofs.YtnjmcknanlbpdaaGreatDoor.Oni
