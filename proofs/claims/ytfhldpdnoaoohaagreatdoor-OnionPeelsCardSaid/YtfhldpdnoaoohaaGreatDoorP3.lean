import Derived.Test.YtfhldpdnoaoohaaGreatDoorM8
import Derived.Test.YtfhldpdnoaoohaaGreatDoorN7
namespace Go.Proofs.YtfhldpdnoaoohaaGreatDoor
open Go.RowKit

theorem conv_const (W : World) (C : Array Value) (n c : Nat) : (convert 22 22 (.slice (some ⟨W.heap.size, 0, none⟩) n c)).run Tryz.prog (W.alloc (.cells C 5)) = .ok (.slice (some ⟨W.heap.size, 0, none⟩) n c) (W.alloc (.cells C 5 (C.size, C.size + 1))) :=
  Lib.run_convert_bytes_const W 22 5 C n c Tryz.underlying22 Tryz.underlying5

theorem conv_const2 (W : World) (o : Obj) (C : Array Value) (n c : Nat) : (convert 22 22 (.slice (some ⟨W.heap.size + 1, 0, none⟩) n c)).run Tryz.prog ((W.alloc o).alloc (.cells C 5)) = .ok (.slice (some ⟨W.heap.size + 1, 0, none⟩) n c) ((W.alloc o).alloc (.cells C 5 (C.size, C.size + 1))) := by
  have h := conv_const (W.alloc o) C n c
  have hsz : (W.alloc o).heap.size = W.heap.size + 1 := by simp
  rw [hsz] at h
  exact h

end Go.Proofs.YtfhldpdnoaoohaaGreatDoor

namespace Go.Proofs.YtfhldpdnoaoohaaGreatDoor
open Go.RowKit

theorem sliceB_nil (W : World) (f : Nat → Int) : SliceB W (.slice none 0 0) 0 f := ⟨⟨_, _, rfl, Nat.le_refl _, by omega, fun h => by omega⟩, fun j hj => by omega⟩

end Go.Proofs.YtfhldpdnoaoohaaGreatDoor

namespace Go.Proofs.YtfhldpdnoaoohaaGreatDoor
open Go.RowKit

/-- The key that Derive takes. -/
def exK (ps : Nat → Int) (ls : Nat) (pt : Nat → Int) (lt : Nat) : Nat → Int := tagV pt lt ps ls

set_option maxHeartbeats 800000 in
theorem mderive_any (vs vt vi : Value) (ls lt li : Nat) (ps pt pi : Nat → Int) (n : Int) (w : World) (hG : Glob w) (hs : ls + 64 < 1152921504606846976) (ht : lt < 1152921504606846976) (hli : li + 300 < 1152921504606846976) (h0 : SliceB w vs ls ps) (h1 : SliceB w vt lt pt) (h2 : SliceB w vi li pi) :
    Calls Tryz.prog 39 #[vs, vt, vi, .int .i64 n] w fun e w' => ∃ v', e = .returned (.tuple #[v', .int .i64 (expE n)]) ∧ w'.ownsRow w.heap.size 5 1 v' (expN n) (vals (firstL (ebK (exK ps ls pt lt) 32 pi li) (expN n))) ∧ Below w.heap.size w w' := by
  have HG : Hid (_) := hG
  have HS' : Hid (_) := hs
  have HT : Hid (_) := ht
  have HL : Hid (_) := hli
  have H0 : Hid (_) := h0
  have H1 : Hid (_) := h1
  have H2 : Hid (_) := h2
  clear hG hs ht hli h0 h1 h2
  have z28 := zero28
  have s32 := slice32
  go_enter Tryz.func39, Tryz.ntmps39
  go_wp2_with fail
  obtain ⟨D, hD⟩ : ∃ D, D = exK ps ls pt lt := ⟨_, rfl⟩
  have hr := mextract_any vt vs lt ls pt ps w HG.out HT.out HS'.out H1.out H0.out
  have eD : tagV pt lt ps ls = D := by rw [hD]; rfl
  rw [eD] at hr
  refine hr.mono ?_
  rintro e w1 ⟨rfl, hb1⟩
  have W1 : Hid (Below w.heap.size w w1) := hb1
  have HD : Hid (_) := hD
  have DB : Hid (∀ j, 0 ≤ D j ∧ D j < 256) := by rw [hD]; exact sumD_bd _
  clear hr eD hD hb1
  go_wp2_with (first
    | (refine isStore 41 (.tmp 10) (.tmp 13) rfl ?_; go_must (refine wpList_store_row rfl 41 (.tmp 10) (.tmp 13) rfl w1.heap.size _ rfl rfl 41 _ (heap_alloc_new _ _) (size28' _) (by simp only [tab8_size]) (tab8_one _ _) ?_; rw [World.setRow_alloc_new]; simp only [Act.put]; obtain ⟨A, hA⟩ : ∃ G, G = w1.heap.size := ⟨_, rfl⟩; obtain ⟨V, hV⟩ : ∃ V, V = w1.alloc (.cells (tab8 32 D) 41) := ⟨_, rfl⟩; have VA : Hid (V.heap[A]? = some (.cells (tab8 32 D) 41)) := (by rw [hV, hA]; exact heap_alloc_new _ _); have W2 : Hid (Below w.heap.size w V) := (by rw [hV]; exact W1.out.alloc W1.out.size _); rw [← hV, ← hA]; clear hV hA)))
  have hr := mexpand_any _ vi 32 li D pi n V (HG.out.below W2.out HG.out.sz) (by omega) HL.out (sliceB_row VA.out (by omega) fun j _ => DB.out j) (H2.out.below W2.out)
  rw [HD.out] at hr
  refine hr.mono ?_
  rintro e w3 ⟨v', rfl, own3, hb3⟩
  have O3 : Hid (_) := own3.mono W2.out.size
  have W3 : Hid (Below w.heap.size w w3) := W2.out.trans (hb3.mono W2.out.size)
  clear hr own3 hb3 VA W2
  go_wp2
  go_ret2
  exact ⟨v', rfl, O3.out, W3.out⟩

set_option maxHeartbeats 800000 in
theorem rderive_any (vs vt vi : Value) (ls lt li : Nat) (ps pt pi : Nat → Int) (n : Int) (w : World) (hs : ls + 300 ≤ 140737488355328) (ht : lt + 200 ≤ 140737488355328) (hli : li + 600 ≤ 140737488355328) (h0 : SliceB w vs ls ps) (h1 : SliceB w vt lt pt) (h2 : SliceB w vi li pi)
    (hn0 : ∀ cap, vs = .slice none ls cap → cap = 0) (hn1 : ∀ cap, vt = .slice none lt cap → cap = 0) (hn2 : ∀ cap, vi = .slice none li cap → cap = 0) :
    Calls Tryz.prog 28 #[vs, vt, vi, .int .i64 n] w fun e w' => ∃ v', e = .returned (.tuple #[v', .int .i64 (expE n)]) ∧ SliceB w' v' (expN n) (ebK (exK ps ls pt lt) 32 pi li) ∧ Below w.heap.size w w' := by
  have HS' : Hid (_) := hs
  have HT : Hid (_) := ht
  have HL : Hid (_) := hli
  have H0 : Hid (_) := h0
  have H1 : Hid (_) := h1
  have H2 : Hid (_) := h2
  have N0 : Hid (_) := hn0
  have N1 : Hid (_) := hn1
  have N2 : Hid (_) := hn2
  clear hs ht hli h0 h1 h2 hn0 hn1 hn2
  have z28 := zero28
  have s32 := slice32
  go_enter Tryz.func28, Tryz.ntmps28
  go_wp2_with fail
  obtain ⟨D, hD⟩ : ∃ D, D = exK ps ls pt lt := ⟨_, rfl⟩
  have hr := rextract_any vt vs lt ls pt ps w HT.out HS'.out H1.out H0.out N1.out N0.out
  have eD : tagV pt lt ps ls = D := by rw [hD]; rfl
  rw [eD] at hr
  refine hr.mono ?_
  rintro e w1 ⟨rfl, hb1⟩
  have W1 : Hid (Below w.heap.size w w1) := hb1
  have HD : Hid (_) := hD
  have DB : Hid (∀ j, 0 ≤ D j ∧ D j < 256) := by rw [hD]; exact sumD_bd _
  clear hr eD hD hb1
  go_wp2_with (first
    | (refine isStore 41 (.tmp 10) (.tmp 13) rfl ?_; go_must (refine wpList_store_row rfl 41 (.tmp 10) (.tmp 13) rfl w1.heap.size _ rfl rfl 41 _ (heap_alloc_new _ _) (size28' _) (by simp only [tab8_size]) (tab8_one _ _) ?_; rw [World.setRow_alloc_new]; simp only [Act.put]; obtain ⟨A, hA⟩ : ∃ G, G = w1.heap.size := ⟨_, rfl⟩; obtain ⟨V, hV⟩ : ∃ V, V = w1.alloc (.cells (tab8 32 D) 41) := ⟨_, rfl⟩; have VA : Hid (V.heap[A]? = some (.cells (tab8 32 D) 41)) := (by rw [hV, hA]; exact heap_alloc_new _ _); have W2 : Hid (Below w.heap.size w V) := (by rw [hV]; exact W1.out.alloc W1.out.size _); rw [← hV, ← hA]; clear hV hA)))
  have hr := rexpand_any _ vi 32 li D pi n V (by omega) HL.out (sliceB_row VA.out (by omega) fun j _ => DB.out j) (H2.out.below W2.out) (fun cap e => by cases e) N2.out
  rw [HD.out] at hr
  refine hr.mono ?_
  rintro e w3 ⟨v', rfl, s3, hb3⟩
  have O3 : Hid (_) := s3
  have W3 : Hid (Below w.heap.size w w3) := W2.out.trans (hb3.mono W2.out.size)
  clear hr s3 hb3 VA W2
  go_wp2
  go_ret2
  exact ⟨v', rfl, O3.out, W3.out⟩

end Go.Proofs.YtfhldpdnoaoohaaGreatDoor
