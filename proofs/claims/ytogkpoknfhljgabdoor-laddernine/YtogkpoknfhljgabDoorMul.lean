/- What bits.Mul64 and step come to: a product of two words, and a product and two words more. -/
import Derived.Test.YtogkpoknfhljgabDoorNums
import Derived.Lib.Mul64
import Derived.Laws.BitsAllLaws
namespace Go.Proofs.YtogkpoknfhljgabDoor
open Go.RowKit

theorem low32 (a : Nat) (ha : a < 18446744073709551616) : bits .and .u64 (a : Int) 4294967295 = ((a % 4294967296 : Nat) : Int) := by
  have e : a &&& 4294967295 = a % 4294967296 := Nat.and_two_pow_sub_one_eq_mod a 32
  rw [← e]; exact u64_and_nat a 4294967295 ha (by omega)
theorem high32 (a : Nat) : (a : Int) / 4294967296 = ((a / 4294967296 : Nat) : Int) := by omega
theorem castMul (a b : Nat) : (a : Int) * (b : Int) = ((a * b : Nat) : Int) := by omega
theorem castAdd (a b : Nat) : (a : Int) + (b : Int) = ((a + b : Nat) : Int) := by omega
theorem fits (a : Nat) (ha : a < 18446744073709551616) : IntKind.u64.wrap (a : Int) = (a : Int) := by rw [IntKind.wrap_u64]; omega
theorem folds (a : Nat) : IntKind.u64.wrap (a : Int) = ((a % 18446744073709551616 : Nat) : Int) := by rw [IntKind.wrap_u64]; omega

set_option maxHeartbeats 1000000 in
theorem mul64_nat (x y : Nat) (hx : x < 18446744073709551616) (hy : y < 18446744073709551616) (w : World) :
    Calls Tryd.prog 39 #[.int .u64 x, .int .u64 y] w fun e w' => e = .returned (.tuple #[.int .u64 ((x * y / 18446744073709551616 : Nat) : Int), .int .u64 ((x * y % 18446744073709551616 : Nat) : Int)]) ∧ w' = w := by
  have hall := Lib.mul64_hi x y hx hy
  have p11 := Lib.half_mul_le (a := x / 4294967296) (b := y / 4294967296) (by omega) (by omega)
  have p10 := Lib.half_mul_le (a := x / 4294967296) (b := y % 4294967296) (by omega) (by omega)
  have p01 := Lib.half_mul_le (a := x % 4294967296) (b := y / 4294967296) (by omega) (by omega)
  have q11 := fits (x / 4294967296 * (y / 4294967296)) (by omega)
  have q10 := fits (x / 4294967296 * (y % 4294967296)) (by omega)
  have q01 := fits (x % 4294967296 * (y / 4294967296)) (by omega)
  have qa := fits _ hall.1
  have qb := fits _ hall.2.1
  have qc := fits _ hall.2.2.1
  have qd := low32 _ hall.2.1
  have qe := fits (x / 4294967296 * (y / 4294967296) + (x / 4294967296 * (y % 4294967296) + x % 4294967296 * (y % 4294967296) / 4294967296) / 4294967296) (by omega)
  have qf := fits (x / 4294967296 * (y / 4294967296) + (x / 4294967296 * (y % 4294967296) + x % 4294967296 * (y % 4294967296) / 4294967296) / 4294967296 + ((x / 4294967296 * (y % 4294967296) + x % 4294967296 * (y % 4294967296) / 4294967296) % 4294967296 + x % 4294967296 * (y / 4294967296)) / 4294967296) (by omega)
  have qx := low32 x hx
  have qy := low32 y hy
  have H := show Hid _ from (And.intro q11 (And.intro q10 (And.intro q01 (And.intro qa (And.intro qb (And.intro qc (And.intro qd (And.intro qe (And.intro qf (And.intro qx (And.intro qy hall.2.2.2)))))))))))
  clear q11 q10 q01 qa qb qc qd qe qf qx qy hall p11 p10 p01
  go_enter Tryd.func39, Tryd.ntmps39
  go_wp2
  obtain ⟨q11, q10, q01, qa, qb, qc, qd, qe, qf, qx, qy, hh⟩ := H.out
  simp only [qx, qy, high32, castMul, castAdd, qa, q10, qb, qd, q01, qc, q11, qe, qf, folds (x * y)]
  rw [hh]
  go_ret2
  exact ⟨rfl, rfl⟩

/-- What Mul64 answers. -/
def Prods (x y h l : Int) : Prop := 0 ≤ h ∧ h ≤ W - 2 ∧ 0 ≤ l ∧ l < W ∧ h * W + l = x * y

theorem mul64_any (x y : Int) (hx : 0 ≤ x) (hx' : x < W) (hy : 0 ≤ y) (hy' : y < W) (w : World) :
    Calls Tryd.prog 39 #[.int .u64 x, .int .u64 y] w fun e w' => ∃ h l : Int, e = .returned (.tuple #[.int .u64 h, .int .u64 l]) ∧ Prods x y h l ∧ w' = w := by
  simp only [W] at hx' hy'
  obtain ⟨x, rfl⟩ := Int.eq_ofNat_of_zero_le hx
  obtain ⟨y, rfl⟩ := Int.eq_ofNat_of_zero_le hy
  refine (mul64_nat x y (by omega) (by omega) w).mono ?_
  rintro e w' ⟨rfl, rfl⟩
  have hle : x * y ≤ 18446744073709551615 * 18446744073709551615 := Nat.mul_le_mul (by omega) (by omega)
  have hc : (x : Int) * (y : Int) = ((x * y : Nat) : Int) := (Int.natCast_mul x y).symm
  refine ⟨_, _, rfl, ?_, rfl⟩
  unfold Prods
  rw [hc]
  simp only [W]
  generalize x * y = z at *
  omega

/-- What step answers. -/
def Steps (a b c d h l : Int) : Prop := 0 ≤ h ∧ h < W ∧ 0 ≤ l ∧ l < W ∧ h * W + l = a * b + c + d

theorem step_math {a b c d h l : Int} (hp : Prods a b h l) (hc : 0 ≤ c) (hc' : c < W) (hd : 0 ≤ d) (hd' : d < W) (ha : 0 ≤ a) (ha' : a < W) (hb : 0 ≤ b) (hb' : b < W) :
    IntKind.u64.wrap (h + aHi l c 0) = h + aHi l c 0 ∧ IntKind.u64.wrap (h + aHi l c 0 + aHi (aLo l c 0) d 0) = h + aHi l c 0 + aHi (aLo l c 0) d 0 ∧ Steps a b c d (h + aHi l c 0 + aHi (aLo l c 0) d 0) (aLo (aLo l c 0) d 0) := by
  obtain ⟨h0, h1, l0, l1, e⟩ := hp
  have hab : a * b ≤ 18446744073709551615 * 18446744073709551615 := Int.mul_le_mul (by simp only [W] at ha'; omega) (by simp only [W] at hb'; omega) hb (by omega)
  unfold Steps
  rw [IntKind.wrap_u64, IntKind.wrap_u64]
  unfold aHi aLo
  simp only [W] at *
  generalize a * b = p at *
  refine ⟨by omega, by omega, by omega⟩

set_option maxHeartbeats 1000000 in
theorem step_any (a b c d : Int) (ha : 0 ≤ a) (ha' : a < W) (hb : 0 ≤ b) (hb' : b < W) (hc : 0 ≤ c) (hc' : c < W) (hd : 0 ≤ d) (hd' : d < W) (w : World) :
    Calls Tryd.prog 33 #[.int .u64 a, .int .u64 b, .int .u64 c, .int .u64 d] w fun e w' => ∃ h l : Int, e = .returned (.tuple #[.int .u64 h, .int .u64 l]) ∧ Steps a b c d h l ∧ w' = w := by
  go_enter Tryd.func33, Tryd.ntmps33
  go_wp2_with fail
  refine (mul64_any a b ha ha' hb hb' _).mono ?_
  rintro e w' ⟨h, l, rfl, hp, rfl⟩
  obtain ⟨k1, k2, hs⟩ := step_math hp hc hc' hd hd' ha ha' hb hb'
  have hadd1 := add64 l c 0 hp.2.2.1 hc (Int.le_refl 0) (by decide)
  have hadd2 := add64 (aLo l c 0) d 0 (by unfold aLo; omega) hd (Int.le_refl 0) (by decide)
  clear ha ha' hb hb' hc hc' hd hd'
  generalize aLo (aLo l c 0) d 0 = lo at *
  generalize aHi (aLo l c 0) d 0 = c2 at *
  generalize aLo l c 0 = lo1 at *
  generalize aHi l c 0 = c1 at *
  go_wp2
  go_ret2
  exact ⟨_, _, rfl, hs, rfl⟩
end Go.Proofs.YtogkpoknfhljgabDoor
