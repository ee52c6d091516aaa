import Derived.Test.YtcffmmeafnapiaaDoorB7h
import Derived.Test.YtcffmmeafnapiaaDoorB7e
namespace Go.Proofs.YtcffmmeafnapiaaDoor.Rou
open Go.RowKit Gf8 Aes By8 Cel Oni
/- RouteKeys. -/

set_option maxRecDepth 20000 in
set_option maxHeartbeats 1000000 in
theorem keys8_any (m : Nat → Nat) (l : Nat) (ep : Int) (v : Value) (V : World) (hG : Glob V) (hv : SliceN V v l m) :
    Calls Tryd.prog 3 #[v, .int .i64 ep] V fun e w' => e = .returned (.bool true) ∧ Below V.heap.size V w' := by
  have A := awake8_any V hG
  have HV : Hid (Glob V ∧ SliceN V v l m) := ⟨hG, hv⟩
  obtain ⟨ky, hky⟩ : ∃ ky, rk m ep.toNat = ky := ⟨_, rfl⟩
  obtain ⟨N, hN⟩ : ∃ N, rkN l ep = N := ⟨_, rfl⟩
  obtain ⟨E, hE⟩ : ∃ E, rkE l ep = E := ⟨_, rfl⟩
  have KL : Hid (∀ j, ky j < 256) := by rw [← hky]; exact rk_lt _ _
  have RK : Hid (∀ W, Below V.heap.size V W → Calls Tryd.prog 9 #[v, .int .i64 ep] W fun e w' => ∃ r, e = .returned (.tuple #[r, .int .i64 (E : Int)]) ∧ SliceN w' r N ky ∧ Below W.heap.size W w') := fun W hW => by
    have h := rkey_any m l ep v W (HV.out.2.on hW)
    rw [hky, hN, hE] at h
    exact h
  have PK : Hid (∀ W, Below V.heap.size V W → Calls Tryd.prog 10 #[v, .int .i64 ep] W fun e w' => ∃ r, e = .returned (.tuple #[r, .int .i64 (E : Int)]) ∧ w'.ownsRow W.heap.size 5 1 r N (bytesL N ky) ∧ Below W.heap.size W w') := fun W hW => by
    have h := pkey_any m l ep v W (HV.out.1.below hW HV.out.1.sz) (HV.out.2.on hW)
    rw [hky, hN, hE] at h
    exact h
  clear hG hv hky hN hE
  go_enter Tryd.func3, Tryd.ntmps3
  go_wp2_with (first
    | (go_at_call 8; refine A.mono ?_; rintro e w1 ⟨rfl, hb1⟩; have B1 : Hid (Below V.heap.size V w1) := hb1; clear hb1)
    | (go_at_call 9; refine (RK.out w1 B1.out).mono ?_; rintro e w2 ⟨r2, rfl, s2, hb2⟩; have S2 : Hid (SliceN w2 r2 N ky ∧ Below V.heap.size V w2) := ⟨s2, B1.out.trans (hb2.mono B1.out.size)⟩; obtain ⟨a2, c2, rfl, _⟩ := id s2.shape; clear s2 hb2)
    | (go_at_call 10; refine (PK.out w2 S2.out.2).mono ?_; rintro e w3 ⟨r3, rfl, own3, hb3⟩; obtain ⟨a3, c3, rfl⟩ := own_shapeJ own3; have k1 := By8.conv_str (own_slice own3 (fun j _ => KL.out j)); have k2 := By8.conv_str (S2.out.1.on hb3); have S3 : Hid (Below V.heap.size V w3) := S2.out.2.trans (hb3.mono S2.out.2.size); clear own3 hb3))
  go_ret
  exact ⟨rfl, S3.out⟩
end Go.Proofs.YtcffmmeafnapiaaDoor.Rou
