/- Sums and products modulo 2^130 - 5, and sums byte by byte, for the statements. -/
import Derived.Test.YtnphoennagmiaaaDoorCm
namespace Go.Proofs.YtnphoennagmiaaaDoor

theorem mmodl (x y : Int) : x % Q * y % Q = x * y % Q := by rw [Int.mul_emod, Int.emod_emod, ← Int.mul_emod]
theorem mmodr (x y : Int) : x * (y % Q) % Q = x * y % Q := by rw [Int.mul_emod, Int.emod_emod, ← Int.mul_emod]
theorem mmod (x y : Int) : (x % Q) * (y % Q) % Q = x * y % Q := by rw [mmodl, mmodr]
theorem least_small (x y : Int) (h : x = y % Q) : x % Q = x := by rw [h, Int.emod_emod]

/-- What is carried, byte by byte. -/
def carr (x s : Nat → Int) : Nat → Int
  | 0 => 0
  | k + 1 => (carr x s k + x k + s k) / 256
def summ (x s : Nat → Int) (k : Nat) : Int := (carr x s k + x k + s k) % 256
theorem carr_in (x s : Nat → Int) (n : Nat) (hx : In 256 n x) (hs : In 256 n s) : ∀ k, k ≤ n → 0 ≤ carr x s k ∧ carr x s k ≤ 1
  | 0, _ => by simp [carr]
  | k + 1, h => by
    have i := carr_in x s n hx hs k (by omega)
    have a := hx k (by omega)
    have b := hs k (by omega)
    simp only [carr]
    omega
theorem summ_val (x s : Nat → Int) : ∀ k, val 256 (summ x s) k + 256 ^ k * carr x s k = val 256 x k + val 256 s k
  | 0 => by simp [val, carr]
  | k + 1 => by
    have i := summ_val x s k
    simp only [val, carr]
    rw [Int.pow_succ, Int.mul_assoc]
    have e : 256 ^ k * summ x s k + 256 ^ k * (256 * ((carr x s k + x k + s k) / 256)) = 256 ^ k * carr x s k + 256 ^ k * x k + 256 ^ k * s k := by
      rw [← Int.mul_add, ← Int.mul_add, ← Int.mul_add]
      congr 1
      unfold summ
      omega
    omega
/-- The lowest 16 bytes of a sum are summed byte by byte. -/
theorem low_summ {x s y : Nat → Int} (hy : In 256 16 y) (e : val 256 y 16 = (val 256 x 16 + val 256 s 16) % 340282366920938463463374607431768211456) : ∀ j, j < 16 → y j = summ x s j := by
  have hd : In 256 16 (summ x s) := fun j _ => by unfold summ; omega
  refine val_inj 256 (by decide) y (summ x s) 16 hy hd ?_
  have v := summ_val x s 16
  have i := val_in 256 (by decide) (summ x s) 16 hd
  rw [show (256 : Int) ^ 16 = 340282366920938463463374607431768211456 from by decide] at v i
  omega
end Go.Proofs.YtnphoennagmiaaaDoor
