/- Plain facts on whole numbers modulo 2^255 - 19, for the statements' equations. -/
import Derived.Test.YthephehecapmhabDoorInv
import Derived.Test.YthephehecapmhabDoorPrime
namespace Go.Proofs.YthephehecapmhabDoor
open Go.RowKit

theorem mmod (a b : Int) : (a % Q * (b % Q)) % Q = (a * b) % Q := (Int.mul_emod a b Q).symm
theorem mmodl (a b : Int) : (a % Q * b) % Q = (a * b) % Q := by rw [Int.mul_emod, Int.emod_emod, ← Int.mul_emod]
theorem mmodr (a b : Int) : (a * (b % Q)) % Q = (a * b) % Q := by rw [Int.mul_comm, mmodl, Int.mul_comm]
theorem mpow (a : Int) (n : Nat) : (a % Q) ^ n % Q = a ^ n % Q := by
  induction n with
  | zero => rw [Int.pow_zero, Int.pow_zero]
  | succ n ih => rw [Int.pow_succ, Int.pow_succ, mmodr, Int.mul_emod, ih, ← Int.mul_emod]

/-- Fermat, for what is not below 0. -/
theorem fermat (x : Int) (h0 : 0 ≤ x) (h : x % Q ≠ 0) : (x * x ^ E) % Q = 1 := by
  obtain ⟨n, rfl⟩ := Int.eq_ofNat_of_zero_le h0
  have hnd : ¬ (57896044618658097711785492504343953926634992332820282019728792003956564819949 ∣ n) := by
    intro hd
    have := Nat.mod_eq_zero_of_dvd hd
    apply h
    simp only [Q]
    omega
  have f := Num.fermat_one Num.prime_p n hnd
  have e : (n : Int) * (n : Int) ^ E = ((n ^ (57896044618658097711785492504343953926634992332820282019728792003956564819949 - 1) : Nat) : Int) := by
    rw [show (57896044618658097711785492504343953926634992332820282019728792003956564819949 - 1 : Nat) = E + 1 from by decide +kernel, Int.natCast_pow, Int.pow_succ, Int.mul_comm]
  rw [e]
  generalize n ^ (57896044618658097711785492504343953926634992332820282019728792003956564819949 - 1) = z at *
  simp only [Q]
  omega
theorem zero_pow (x : Int) (h : x % Q = 0) : x ^ E % Q = 0 := by
  rw [← mpow, h, show E = (E - 1) + 1 from by decide +kernel, Int.pow_succ, Int.mul_zero]
  rfl
/-- The inverse of an inverse. -/
theorem inv_inv (x : Int) (h0 : 0 ≤ x) : (x ^ E % Q) ^ E % Q = x % Q := by
  by_cases h : x % Q = 0
  · rw [mpow, ← mpow, zero_pow x h, h]
    exact zero_pow 0 (by decide)
  · have f := fermat x h0 h
    have hy : (x ^ E % Q) % Q ≠ 0 := by
      intro h'
      rw [Int.emod_emod] at h'
      rw [← mmodr, h', Int.mul_zero] at f
      exact absurd f (by decide)
    have g := fermat (x ^ E % Q) (Int.emod_nonneg _ (by decide)) hy
    -- x = x * (y * y^E) = (x * y) * y^E = y^E
    have e1 : (x * (x ^ E % Q * (x ^ E % Q) ^ E)) % Q = x % Q := by
      rw [← mmodr, g, Int.mul_one]
    have e2 : (x * (x ^ E % Q * (x ^ E % Q) ^ E)) % Q = (x ^ E % Q) ^ E % Q := by
      rw [← Int.mul_assoc, ← mmodl, mmodr, f, Int.one_mul]
    rw [← e2, e1]
theorem least_small (f : Nat → Int) (x : Int) (h : val 256 f 32 = x % Q) : val 256 f 32 % Q = val 256 f 32 := by rw [h, Int.emod_emod]

theorem binomial (x y : Int) : ((x + y) * (x + y)) % Q = (((x * x) % Q + (y * y) % Q) % Q + ((x * y) % Q + (x * y) % Q) % Q) % Q := by
  simp only [Int.emod_add_emod, Int.add_emod_emod]
  congr 1
  rw [Int.add_mul, Int.mul_add, Int.mul_add, Int.mul_comm y x]
  omega
theorem byte_in' (x : Int) (h0 : 0 ≤ x) (h1 : x < 256) : In 256 32 (one x)
  | 0, _ => ⟨h0, h1⟩
  | _ + 1, _ => ⟨Int.le_refl 0, (by decide : (0 : Int) < 256)⟩
theorem val_byte (x : Int) : val 256 (one x) 32 = x := by simp [val, one]
theorem val_nonneg (f : Nat → Int) (h : In 256 32 f) : 0 ≤ val 256 f 32 := (val_in 256 (by decide) f 32 h).1

end Go.Proofs.YthephehecapmhabDoor
