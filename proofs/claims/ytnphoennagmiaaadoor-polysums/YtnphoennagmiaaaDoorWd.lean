/- What the package words comes to: a product and two words more, one of two words, a word of eight bytes and its bytes. -/
import Derived.Test.YtnphoennagmiaaaDoorAdds
import Derived.Lib.Mul64
import Derived.Laws.BitsAllLaws
namespace Go.Proofs.YtnphoennagmiaaaDoor
open Go.RowKit

theorem low32 (a : Nat) (ha : a < 18446744073709551616) : bits .and .u64 (a : Int) 4294967295 = ((a % 4294967296 : Nat) : Int) := by
  have e : a &&& 4294967295 = a % 4294967296 := Nat.and_two_pow_sub_one_eq_mod a 32
  rw [← e]; exact u64_and_nat a 4294967295 ha (by omega)
theorem high32 (a : Nat) : (a : Int) / 4294967296 = ((a / 4294967296 : Nat) : Int) := by omega
theorem castMul (a b : Nat) : (a : Int) * (b : Int) = ((a * b : Nat) : Int) := by omega
theorem castAdd (a b : Nat) : (a : Int) + (b : Int) = ((a + b : Nat) : Int) := by omega
theorem fits (a : Nat) (ha : a < 18446744073709551616) : IntKind.u64.wrap (a : Int) = (a : Int) := by rw [IntKind.wrap_u64]; omega
theorem folds (a : Nat) : IntKind.u64.wrap (a : Int) = ((a % 18446744073709551616 : Nat) : Int) := by rw [IntKind.wrap_u64]; omega

set_option maxHeartbeats 1000000 in
theorem mul64_nat (x y : Nat) (hx : x < 18446744073709551616) (hy : y < 18446744073709551616) (w : World) :
    Calls Tryd.prog 42 #[.int .u64 x, .int .u64 y] w fun e w' => e = .returned (.tuple #[.int .u64 ((x * y / 18446744073709551616 : Nat) : Int), .int .u64 ((x * y % 18446744073709551616 : Nat) : Int)]) ∧ w' = w := by
  have hall := Lib.mul64_hi x y hx hy
  have p11 := Lib.half_mul_le (a := x / 4294967296) (b := y / 4294967296) (by omega) (by omega)
  have p10 := Lib.half_mul_le (a := x / 4294967296) (b := y % 4294967296) (by omega) (by omega)
  have p01 := Lib.half_mul_le (a := x % 4294967296) (b := y / 4294967296) (by omega) (by omega)
  have q11 := fits (x / 4294967296 * (y / 4294967296)) (by omega)
  have q10 := fits (x / 4294967296 * (y % 4294967296)) (by omega)
  have q01 := fits (x % 4294967296 * (y / 4294967296)) (by omega)
  have qa := fits _ hall.1
  have qb := fits _ hall.2.1
  have qc := fits _ hall.2.2.1
  have qd := low32 _ hall.2.1
  have qe := fits (x / 4294967296 * (y / 4294967296) + (x / 4294967296 * (y % 4294967296) + x % 4294967296 * (y % 4294967296) / 4294967296) / 4294967296) (by omega)
  have qf := fits (x / 4294967296 * (y / 4294967296) + (x / 4294967296 * (y % 4294967296) + x % 4294967296 * (y % 4294967296) / 4294967296) / 4294967296 + ((x / 4294967296 * (y % 4294967296) + x % 4294967296 * (y % 4294967296) / 4294967296) % 4294967296 + x % 4294967296 * (y / 4294967296)) / 4294967296) (by omega)
  have qx := low32 x hx
  have qy := low32 y hy
  have H := show Hid _ from (And.intro q11 (And.intro q10 (And.intro q01 (And.intro qa (And.intro qb (And.intro qc (And.intro qd (And.intro qe (And.intro qf (And.intro qx (And.intro qy hall.2.2.2)))))))))))
  clear q11 q10 q01 qa qb qc qd qe qf qx qy hall p11 p10 p01
  go_enter Tryd.func42, Tryd.ntmps42
  go_wp2
  obtain ⟨q11, q10, q01, qa, qb, qc, qd, qe, qf, qx, qy, hh⟩ := H.out
  simp only [qx, qy, high32, castMul, castAdd, qa, q10, qb, qd, q01, qc, q11, qe, qf, folds (x * y)]
  rw [hh]
  go_ret2
  exact ⟨rfl, rfl⟩

/-- What Mul64 answers. -/
def Prods (x y h l : Int) : Prop := 0 ≤ h ∧ h ≤ W - 2 ∧ 0 ≤ l ∧ l < W ∧ h * W + l = x * y

theorem mul64_any (x y : Int) (hx : 0 ≤ x) (hx' : x < W) (hy : 0 ≤ y) (hy' : y < W) (w : World) :
    Calls Tryd.prog 42 #[.int .u64 x, .int .u64 y] w fun e w' => ∃ h l : Int, e = .returned (.tuple #[.int .u64 h, .int .u64 l]) ∧ Prods x y h l ∧ w' = w := by
  simp only [W] at hx' hy'
  obtain ⟨x, rfl⟩ := Int.eq_ofNat_of_zero_le hx
  obtain ⟨y, rfl⟩ := Int.eq_ofNat_of_zero_le hy
  refine (mul64_nat x y (by omega) (by omega) w).mono ?_
  rintro e w' ⟨rfl, rfl⟩
  have hle : x * y ≤ 18446744073709551615 * 18446744073709551615 := Nat.mul_le_mul (by omega) (by omega)
  have hc : (x : Int) * (y : Int) = ((x * y : Nat) : Int) := (Int.natCast_mul x y).symm
  refine ⟨_, _, rfl, ?_, rfl⟩
  unfold Prods
  rw [hc]
  simp only [W]
  generalize x * y = z at *
  omega

/-- What step answers. -/
def Steps (a b c d h l : Int) : Prop := 0 ≤ h ∧ h < W ∧ 0 ≤ l ∧ l < W ∧ h * W + l = a * b + c + d

theorem step_math {a b c d h l : Int} (hp : Prods a b h l) (hc : 0 ≤ c) (hc' : c < W) (hd : 0 ≤ d) (hd' : d < W) (ha : 0 ≤ a) (ha' : a < W) (hb : 0 ≤ b) (hb' : b < W) :
    IntKind.u64.wrap (h + aHi l c 0) = h + aHi l c 0 ∧ IntKind.u64.wrap (h + aHi l c 0 + aHi (aLo l c 0) d 0) = h + aHi l c 0 + aHi (aLo l c 0) d 0 ∧ Steps a b c d (h + aHi l c 0 + aHi (aLo l c 0) d 0) (aLo (aLo l c 0) d 0) := by
  obtain ⟨h0, h1, l0, l1, e⟩ := hp
  have hab : a * b ≤ 18446744073709551615 * 18446744073709551615 := Int.mul_le_mul (by simp only [W] at ha'; omega) (by simp only [W] at hb'; omega) hb (by omega)
  unfold Steps
  rw [IntKind.wrap_u64, IntKind.wrap_u64]
  unfold aHi aLo
  simp only [W] at *
  generalize a * b = p at *
  refine ⟨by omega, by omega, by omega⟩

set_option maxHeartbeats 1000000 in
theorem step_any (a b c d : Int) (ha : 0 ≤ a) (ha' : a < W) (hb : 0 ≤ b) (hb' : b < W) (hc : 0 ≤ c) (hc' : c < W) (hd : 0 ≤ d) (hd' : d < W) (w : World) :
    Calls Tryd.prog 35 #[.int .u64 a, .int .u64 b, .int .u64 c, .int .u64 d] w fun e w' => ∃ h l : Int, e = .returned (.tuple #[.int .u64 h, .int .u64 l]) ∧ Steps a b c d h l ∧ w' = w := by
  go_enter Tryd.func35, Tryd.ntmps35
  go_wp2_with fail
  refine (mul64_any a b ha ha' hb hb' _).mono ?_
  rintro e w' ⟨h, l, rfl, hp, rfl⟩
  obtain ⟨k1, k2, hs⟩ := step_math hp hc hc' hd hd' ha ha' hb hb'
  have hadd1 := add64 l c 0 hp.2.2.1 hc (Int.le_refl 0) (by decide)
  have hadd2 := add64 (aLo l c 0) d 0 (by unfold aLo; omega) hd (Int.le_refl 0) (by decide)
  clear ha ha' hb hb' hc hc' hd hd'
  generalize aLo (aLo l c 0) d 0 = lo at *
  generalize aHi (aLo l c 0) d 0 = c2 at *
  generalize aLo l c 0 = lo1 at *
  generalize aHi l c 0 = c1 at *
  go_wp2
  go_ret2
  exact ⟨_, _, rfl, hs, rfl⟩

/-- One of two words, by a bit. -/
theorem pick64 (z x cv : Int) (hz : 0 ≤ z) (hz' : z < W) (hx : 0 ≤ x) (hx' : x < W) (hc : cv = 0 ∨ cv = 1) :
    bits BinOp.xor IntKind.u64 z (bits BinOp.and IntKind.u64 (IntKind.u64.wrap (-cv)) (bits BinOp.xor IntKind.u64 z x)) = if cv = 1 then x else z := by
  simp only [W] at hz' hx'
  obtain ⟨z, rfl⟩ := Int.eq_ofNat_of_zero_le hz
  obtain ⟨x, rfl⟩ := Int.eq_ofNat_of_zero_le hx
  have hzn : z < 2 ^ 64 := by omega
  have hxn : x < 2 ^ 64 := by omega
  have hy : z ^^^ x < 18446744073709551616 := Nat.xor_lt_two_pow hzn hxn
  rw [u64_xor_nat z x (by omega) (by omega)]
  rcases hc with rfl | rfl
  · have e : IntKind.u64.wrap (-0) = ((0 : Nat) : Int) := by rw [IntKind.wrap_u64]; rfl
    rw [e, u64_and_nat 0 _ (by omega) hy, Nat.zero_and, u64_xor_nat z 0 (by omega) (by omega), Nat.xor_zero]
    simp
  · have e : IntKind.u64.wrap (-1) = ((18446744073709551615 : Nat) : Int) := by rw [IntKind.wrap_u64]; rfl
    have e2 : 18446744073709551615 &&& (z ^^^ x) = z ^^^ x := by
      have h := Nat.and_two_pow_sub_one_eq_mod (z ^^^ x) 64
      rw [Nat.and_comm, show (18446744073709551615 : Nat) = 2 ^ 64 - 1 from rfl, h]
      exact Nat.mod_eq_of_lt hy
    rw [e, u64_and_nat _ _ (by omega) hy, e2, u64_xor_nat z _ (by omega) hy, ← Nat.xor_assoc, Nat.xor_self, Nat.zero_xor]
    simp

theorem or_step (M s : Nat) (hM : M = 2 ^ s) (hb : M * 256 ≤ 18446744073709551616) (a x : Int) (h0 : 0 ≤ a) (h1 : a < M) (x0 : 0 ≤ x) (x1 : x < 256) :
    bits BinOp.or IntKind.u64 a (IntKind.u64.wrap (IntKind.u64.wrap x * (M : Int))) = a + x * (M : Int) := by
  obtain ⟨a, rfl⟩ := Int.eq_ofNat_of_zero_le h0
  obtain ⟨x, rfl⟩ := Int.eq_ofNat_of_zero_le x0
  have hx : x * M + M ≤ 256 * M := by rw [← Nat.succ_mul]; exact Nat.mul_le_mul_right M (by omega)
  have e1 : IntKind.u64.wrap (x : Int) = (x : Int) := by rw [IntKind.wrap_u64]; omega
  have e2 : (x : Int) * (M : Int) = ((x * M : Nat) : Int) := (Int.natCast_mul x M).symm
  have e3 : IntKind.u64.wrap ((x * M : Nat) : Int) = ((x * M : Nat) : Int) := by rw [IntKind.wrap_u64]; omega
  rw [e1, e2, e3, u64_or_nat a (x * M) (by omega) (by omega)]
  have h := Nat.two_pow_add_eq_or_of_lt (i := s) (b := a) (by omega) x
  rw [← hM, Nat.mul_comm M x] at h
  rw [Nat.or_comm, ← h]
  omega

theorem glued (x0 x1 x2 x3 x4 x5 x6 x7 : Int) (h0 : 0 ≤ x0 ∧ x0 < 256) (h1 : 0 ≤ x1 ∧ x1 < 256) (h2 : 0 ≤ x2 ∧ x2 < 256) (h3 : 0 ≤ x3 ∧ x3 < 256) (h4 : 0 ≤ x4 ∧ x4 < 256) (h5 : 0 ≤ x5 ∧ x5 < 256) (h6 : 0 ≤ x6 ∧ x6 < 256) (h7 : 0 ≤ x7 ∧ x7 < 256) :
    bits BinOp.or IntKind.u64 (bits BinOp.or IntKind.u64 (bits BinOp.or IntKind.u64 (bits BinOp.or IntKind.u64 (bits BinOp.or IntKind.u64 (bits BinOp.or IntKind.u64 (bits BinOp.or IntKind.u64 (IntKind.u64.wrap (x0)) (IntKind.u64.wrap (IntKind.u64.wrap (x1) * 256))) (IntKind.u64.wrap (IntKind.u64.wrap (x2) * 65536))) (IntKind.u64.wrap (IntKind.u64.wrap (x3) * 16777216))) (IntKind.u64.wrap (IntKind.u64.wrap (x4) * 4294967296))) (IntKind.u64.wrap (IntKind.u64.wrap (x5) * 1099511627776))) (IntKind.u64.wrap (IntKind.u64.wrap (x6) * 281474976710656))) (IntKind.u64.wrap (IntKind.u64.wrap (x7) * 72057594037927936)) = x0 + x1 * 256 + x2 * 65536 + x3 * 16777216 + x4 * 4294967296 + x5 * 1099511627776 + x6 * 281474976710656 + x7 * 72057594037927936 := by
  have e0 : IntKind.u64.wrap x0 = x0 := by rw [IntKind.wrap_u64]; omega
  have e1 := or_step 256 8 (by decide) (by decide) (x0) x1 (by omega) (by omega) h1.1 h1.2
  have e2 := or_step 65536 16 (by decide) (by decide) (x0 + x1 * ((256 : Nat) : Int)) x2 (by omega) (by omega) h2.1 h2.2
  have e3 := or_step 16777216 24 (by decide) (by decide) (x0 + x1 * ((256 : Nat) : Int) + x2 * ((65536 : Nat) : Int)) x3 (by omega) (by omega) h3.1 h3.2
  have e4 := or_step 4294967296 32 (by decide) (by decide) (x0 + x1 * ((256 : Nat) : Int) + x2 * ((65536 : Nat) : Int) + x3 * ((16777216 : Nat) : Int)) x4 (by omega) (by omega) h4.1 h4.2
  have e5 := or_step 1099511627776 40 (by decide) (by decide) (x0 + x1 * ((256 : Nat) : Int) + x2 * ((65536 : Nat) : Int) + x3 * ((16777216 : Nat) : Int) + x4 * ((4294967296 : Nat) : Int)) x5 (by omega) (by omega) h5.1 h5.2
  have e6 := or_step 281474976710656 48 (by decide) (by decide) (x0 + x1 * ((256 : Nat) : Int) + x2 * ((65536 : Nat) : Int) + x3 * ((16777216 : Nat) : Int) + x4 * ((4294967296 : Nat) : Int) + x5 * ((1099511627776 : Nat) : Int)) x6 (by omega) (by omega) h6.1 h6.2
  have e7 := or_step 72057594037927936 56 (by decide) (by decide) (x0 + x1 * ((256 : Nat) : Int) + x2 * ((65536 : Nat) : Int) + x3 * ((16777216 : Nat) : Int) + x4 * ((4294967296 : Nat) : Int) + x5 * ((1099511627776 : Nat) : Int) + x6 * ((281474976710656 : Nat) : Int)) x7 (by omega) (by omega) h7.1 h7.2
  simp only [Int.cast_ofNat_Int] at e1 e2 e3 e4 e5 e6 e7
  rw [e0, e1, e2, e3, e4, e5, e6, e7]

theorem bytes_of (x : Int) (h0 : 0 ≤ x) (h1 : x < 18446744073709551616) : x % 256 + 256 * (x / 256 % 256) + 65536 * (x / 65536 % 256) + 16777216 * (x / 16777216 % 256) + 4294967296 * (x / 4294967296 % 256) + 1099511627776 * (x / 1099511627776 % 256) + 281474976710656 * (x / 281474976710656 % 256) + 72057594037927936 * (x / 72057594037927936 % 256) = x := by omega


set_option maxHeartbeats 1000000 in
theorem pickw_any (bit a b : Int) (ha : 0 ≤ a) (ha' : a < W) (hb : 0 ≤ b) (hb' : b < W) (hc : bit = 0 ∨ bit = 1) (r : Int) (hr : (if bit = 1 then b else a) = r) (w : World) :
    Calls Tryd.prog 39 #[.int .u64 bit, .int .u64 a, .int .u64 b] w fun e w' => e = .returned (.int .u64 r) ∧ w' = w := by
  have HP := show Hid _ from (pick64 a b bit ha ha' hb hb' hc).trans hr
  clear ha ha' hb hb' hc hr
  go_enter Tryd.func39, Tryd.ntmps39
  go_wp2
  go_ret
  exact ⟨by rw [← HP.out]; rfl, rfl⟩

end Go.Proofs.YtnphoennagmiaaaDoor
