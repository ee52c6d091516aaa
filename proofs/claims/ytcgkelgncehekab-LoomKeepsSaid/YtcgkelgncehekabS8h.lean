import Derived.Test.YtcgkelgncehekabS8g
namespace Go.Proofs.Ytcgkelgncehekab.Loo
open Go.RowKit Gf8 Aes By8 Cel Cf Win Drw Prm
/- LoomKeeps. -/

theorem keeps19 (I : LImpl) (p : Pl) (v v1 : Value) (m1 : Nat) (sc : Nat → Int) (V : World) (hp : PlZ V v p) (hv1 : SliceI V v1 m1 sc) (hz1 : Nz v1) (hm1 : m1 ≤ 17592186043904) : Calls Try.prog 4 #[v, v1] V fun e w' => e = .returned (.bool true) ∧ Below V.heap.size V w' := by
  obtain ⟨cv, tz, xz, rfl, hcv, htv, hxz, hzc, hzt⟩ := hp
  have hp : PlA V (.agg #[cv, tz]) p := ⟨cv, tz, xz, rfl, hcv, htv, hxz⟩
  exact keepsA I p cv tz v1 xz V hp hcv htv hxz hzc hzt (fun hk => keepsB I p cv tz v1 xz m1 sc V hp hcv htv hxz hv1 hz1 hm1 hk)
end Go.Proofs.Ytcgkelgncehekab.Loo
