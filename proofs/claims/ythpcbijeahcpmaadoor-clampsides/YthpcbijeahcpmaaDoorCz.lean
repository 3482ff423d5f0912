/- Sums and products modulo 2^130 - 5, for the statements. -/
import Derived.Test.YthpcbijeahcpmaaDoorCm
namespace Go.Proofs.YthpcbijeahcpmaaDoor

theorem mmodl (x y : Int) : x % Q * y % Q = x * y % Q := by rw [Int.mul_emod, Int.emod_emod, ← Int.mul_emod]
theorem mmodr (x y : Int) : x * (y % Q) % Q = x * y % Q := by rw [Int.mul_emod, Int.emod_emod, ← Int.mul_emod]
theorem mmod (x y : Int) : (x % Q) * (y % Q) % Q = x * y % Q := by rw [mmodl, mmodr]
theorem least_small (x y : Int) (h : x = y % Q) : x % Q = x := by rw [h, Int.emod_emod]
end Go.Proofs.YthpcbijeahcpmaaDoor
