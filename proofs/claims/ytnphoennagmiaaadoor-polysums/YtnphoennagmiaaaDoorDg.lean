/- Digits of so many bits each, bit by bit: plain facts, no program stands in them. -/
import Derived.Test.YtnphoennagmiaaaDoorBase
namespace Go.Proofs.YtnphoennagmiaaaDoor
open Go.RowKit

/-- The digit number j of s bits. -/
def dgN (s A j : Nat) : Nat := A / 2 ^ (s * j) % 2 ^ s
def dg (s A : Nat) : Nat → Int := fun j => ((dgN s A j : Nat) : Int)
theorem dgN_lt (s A j : Nat) : dgN s A j < 2 ^ s := Nat.mod_lt _ (Nat.two_pow_pos s)
theorem dg_in (s A n : Nat) (M : Int) (hM : M = ((2 ^ s : Nat) : Int)) : In M n (dg s A) := fun j _ => by
  have := dgN_lt s A j
  unfold dg
  omega
theorem bit_dg (s A i : Nat) (hs : 0 < s) : dgN s A (i / s) / 2 ^ (i % s) % 2 = A / 2 ^ i % 2 := by
  have h1 := Nat.mod_lt i hs
  have h2 : s * (i / s) + i % s = i := Nat.div_add_mod i s
  unfold dgN
  rw [← Nat.toNat_testBit, ← Nat.toNat_testBit, Nat.testBit_mod_two_pow, Nat.testBit_div_two_pow, decide_eq_true h1, Bool.true_and, Nat.add_comm, h2]
theorem dgN_step (s A i j : Nat) (hs : 0 < s) : dgN s (A % 2 ^ (i + 1)) j = dgN s (A % 2 ^ i) j + (if j = i / s then 2 ^ (i % s) * (A / 2 ^ i % 2) else 0) := by
  have hr := Nat.mod_lt i hs
  have hi : s * (i / s) + i % s = i := Nat.div_add_mod i s
  have hX : A % 2 ^ i < 2 ^ i := Nat.mod_lt _ (Nat.two_pow_pos i)
  have hb : A / 2 ^ i % 2 < 2 := Nat.mod_lt _ (by decide)
  rw [Nat.mod_pow_succ]
  unfold dgN
  generalize A % 2 ^ i = X at *
  generalize A / 2 ^ i % 2 = b at *
  rcases Nat.lt_trichotomy j (i / s) with h | h | h
  · rw [if_neg (by omega), Nat.add_zero]
    obtain ⟨q, hq⟩ : ∃ q, i / s = j + 1 + q := ⟨i / s - (j + 1), by omega⟩
    have e : 2 ^ i * b = 2 ^ (s * j) * (2 ^ s * (2 ^ (s * q + i % s) * b)) := by
      have e1 : i = s * j + (s + (s * q + i % s)) := by
        have e2 : s * (j + 1 + q) = s * j + s + s * q := by rw [Nat.mul_add, Nat.mul_add, Nat.mul_one]
        rw [hq, e2] at hi
        omega
      conv => lhs; rw [e1]
      rw [Nat.pow_add, Nat.pow_add 2 s, Nat.mul_assoc, Nat.mul_assoc]
    rw [e, Nat.add_mul_div_left _ _ (Nat.two_pow_pos _), Nat.add_mul_mod_self_left]
  · rw [if_pos h]
    have e : 2 ^ i * b = 2 ^ (s * j) * (2 ^ (i % s) * b) := by
      conv => lhs; rw [← hi, ← h]
      rw [Nat.pow_add, Nat.mul_assoc]
    have hx : X / 2 ^ (s * j) < 2 ^ (i % s) := by
      rw [Nat.div_lt_iff_lt_mul (Nat.two_pow_pos _), ← Nat.pow_add, Nat.add_comm, h, hi]
      exact hX
    have hs2 : 2 ^ (i % s) + 2 ^ (i % s) ≤ 2 ^ s := by
      rw [← Nat.two_mul, Nat.mul_comm, ← Nat.pow_succ]
      exact Nat.pow_le_pow_right (by decide) (by omega)
    have hy : 2 ^ (i % s) * b ≤ 2 ^ (i % s) := by
      have := Nat.mul_le_mul_left (2 ^ (i % s)) (show b ≤ 1 by omega)
      omega
    rw [e, Nat.add_mul_div_left _ _ (Nat.two_pow_pos _), Nat.mod_eq_of_lt (a := X / 2 ^ (s * j) + 2 ^ (i % s) * b) (by omega), Nat.mod_eq_of_lt (a := X / 2 ^ (s * j)) (by omega)]
  · rw [if_neg (by omega), Nat.add_zero]
    have hle : i + 1 ≤ s * j := by
      have e2 : s * (i / s + 1) ≤ s * j := Nat.mul_le_mul_left s h
      rw [Nat.mul_add, Nat.mul_one] at e2
      omega
    have hp : 2 ^ (i + 1) ≤ 2 ^ (s * j) := Nat.pow_le_pow_right (by decide) hle
    rw [Nat.pow_succ] at hp
    have hy : 2 ^ i * b ≤ 2 ^ i := by
      have := Nat.mul_le_mul_left (2 ^ i) (show b ≤ 1 by omega)
      omega
    rw [Nat.div_eq_of_lt (by omega), Nat.div_eq_of_lt (by omega)]
theorem dgN_zero (s j : Nat) : dgN s 0 j = 0 := by unfold dgN; simp
theorem dg_nought (s A j : Nat) : dg s (A % 2 ^ 0) j = 0 := by unfold dg; rw [Nat.pow_zero, Nat.mod_one, dgN_zero]; rfl
theorem val_dgs (s A : Nat) (M : Int) (hM : M = ((2 ^ s : Nat) : Int)) : ∀ n, val M (dg s A) n = ((A % 2 ^ (s * n) : Nat) : Int)
  | 0 => by simp [val, Nat.mod_one]
  | n + 1 => by
    simp only [val]
    rw [val_dgs s A M hM n, hM, ← Int.natCast_pow, ← Nat.pow_mul, Nat.mul_add, Nat.mul_one, Nat.pow_add, Nat.mod_mul]
    unfold dg dgN
    rw [Int.natCast_add, Int.natCast_mul]
/-- A row of digits is the digits of its number. -/
theorem dg_of_val (s n : Nat) (M : Int) (hM : M = ((2 ^ s : Nat) : Int)) (f : Nat → Int) (hf : In M n f) : ∀ j, j < n → f j = dg s (val M f n).toNat j := by
  have hp : (0 : Int) < M := by have := Nat.two_pow_pos s; omega
  have hb := val_in M hp f n hf
  refine val_inj M hp f _ n hf (dg_in s _ n M hM) ?_
  rw [val_dgs s _ M hM n, Nat.mod_eq_of_lt]
  · omega
  · have e : M ^ n = ((2 ^ (s * n) : Nat) : Int) := by rw [hM, ← Int.natCast_pow, ← Nat.pow_mul]
    rw [e] at hb
    omega
/-- What is or'ed to a number that has no bit there is added. -/
theorem or_add (x y s : Nat) (hx : x < 2 ^ s) : x ||| (2 ^ s * y) = x + 2 ^ s * y := by
  rw [Nat.or_comm, ← Nat.two_pow_add_eq_or_of_lt hx y, Nat.add_comm]
end Go.Proofs.YtnphoennagmiaaaDoor
