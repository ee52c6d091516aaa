import Derived.Test.YtmjpneaccjlpkaaF9c
import Derived.Test.YtmjpneaccjlpkaaX9o
namespace Go.Proofs.Ytmjpneaccjlpkaa.Rif
open Go.RowKit Gf8 Aes By8 Cel Cf Tap Drw Prm Brd
/- The reference's Order. Written by tools/mkX9p.py. -/
theorem ri_vals (L : Nat) (n ch : Int) (p : Nat → Nat) (h : inL n ch) : riE L n ch p = 0 ∨ riE L n ch p = 3 := by
 unfold riE
 rw [if_pos h]
 by_cases q : 18 ≤ L ∧ okT L ch.toNat n.toNat (szF n.toNat ch.toNat) p = true
 ·rw [if_pos q]; exact Or.inl rfl
 ·rw [if_neg q]; exact Or.inr rfl
theorem rlaid1 (p : Nat → Nat) (L N J : Nat) (pv : Value) (V : World) (FP : SliceN V pv L p) (hl : L ≤ 140737488351232) (hN : N ≤ 256) (h1 : 1 ≤ J) (h2 : J ≤ 64) (hE : riE L ((N : Nat) : Int) ((J : Nat) : Int) p = 0) : Calls Try.prog 26 #[pv, .int .i64 ((N : Nat) : Int), .int .i64 ((J : Nat) : Int)] V fun e w' => ∃ sv uv wv tv y, e = .returned (.tuple #[.agg (akC sv uv wv tv), .bool true]) ∧ (SliceI w' sv J (sI N J) ∧ SliceI w' uv N (pcF (sI N J) J (dQ (brP p) (lb L) N)) ∧ SliceI w' wv N (poF (sI N J) J (dQ (brP p) (lb L) N) N) ∧ LLI w' tv J y (szF N J) (owI L N J p)) ∧ (akC sv uv wv tv).all (·.oneCell') = true ∧ Below V.heap.size V w' :=
 Calls.mono (rlaid p L N J pv V FP hl hN h1 h2) fun e w' ⟨sv, uv, wv, tv, y, g1, g2, g3, g4⟩ => ⟨sv, uv, wv, tv, y, by rw [decide_eq_true hE] at g1; exact g1, g2 hE, g3, g4⟩
theorem rlaid0 (p : Nat → Nat) (L N J : Nat) (pv : Value) (V : World) (FP : SliceN V pv L p) (hl : L ≤ 140737488351232) (hN : N ≤ 256) (h1 : 1 ≤ J) (h2 : J ≤ 64) (hE : riE L ((N : Nat) : Int) ((J : Nat) : Int) p ≠ 0) : Calls Try.prog 26 #[pv, .int .i64 ((N : Nat) : Int), .int .i64 ((J : Nat) : Int)] V fun e w' => ∃ sv uv wv tv, e = .returned (.tuple #[.agg (akC sv uv wv tv), .bool false]) ∧ (akC sv uv wv tv).all (·.oneCell') = true ∧ Below V.heap.size V w' :=
 Calls.mono (rlaid p L N J pv V FP hl hN h1 h2) fun e w' ⟨sv, uv, wv, tv, y, g1, g2, g3, g4⟩ => ⟨sv, uv, wv, tv, by rw [decide_eq_false hE] at g1; exact g1, g3, g4⟩
end Go.Proofs.Ytmjpneaccjlpkaa.Rif
