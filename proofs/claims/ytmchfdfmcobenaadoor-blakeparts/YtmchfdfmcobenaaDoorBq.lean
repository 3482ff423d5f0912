/- What the program's own mixing of four words comes to. -/
import Derived.Test.YtmchfdfmcobenaaDoorHw
import Derived.Test.YtmchfdfmcobenaaDoorBa
namespace Go.Proofs.YtmchfdfmcobenaaDoor
open Go.RowKit

set_option maxHeartbeats 2000000 in
theorem bmix_any (a b c d x y : Int) (w : World) :
    Calls Tryd.prog 30 #[.int .u32 a, .int .u32 b, .int .u32 c, .int .u32 d, .int .u32 x, .int .u32 y] w fun e w' => e = .returned (.tuple #[.int .u32 (bA a b c d x y), .int .u32 (bB a b c d x y), .int .u32 (bC a b c d x y), .int .u32 (bD a b c d x y)]) ∧ w' = w := by
  go_enter Tryd.func30, Tryd.ntmps30
  go_wp2_with fail
  refine (rotR_any (-16) 16 (.inl ⟨rfl, rfl⟩) _ _).mono ?_
  rintro e w16 ⟨rfl, rfl⟩
  go_wp2_with fail
  refine (rotR_any (-12) 20 (.inr (.inl ⟨rfl, rfl⟩)) _ _).mono ?_
  rintro e w12 ⟨rfl, rfl⟩
  go_wp2_with fail
  refine (rotR_any (-8) 24 (.inr (.inr (.inl ⟨rfl, rfl⟩))) _ _).mono ?_
  rintro e w8 ⟨rfl, rfl⟩
  go_wp2_with fail
  refine (rotR_any (-7) 25 (.inr (.inr (.inr ⟨rfl, rfl⟩))) _ _).mono ?_
  rintro e w7 ⟨rfl, rfl⟩
  go_wp2_with fail
  exact bodyPost_ret (results_four Tryd.results30 rfl rfl rfl rfl) rfl ⟨by simp only [bA, bB, bC, bD, bA1, bB1, bC1, bD1, mA, mD, hxr, had, Int.emod_add_emod, Int.add_assoc]; rfl, rfl⟩
end Go.Proofs.YtmchfdfmcobenaaDoor
