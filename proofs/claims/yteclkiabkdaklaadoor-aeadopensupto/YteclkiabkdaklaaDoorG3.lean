/- Texts of Adds Wd Wo Wp Wq Wr Cm Cn Cf Cl Co Cp Cs Ca Ct Cw Cb Cv Cz, joined. -/
import Derived.Test.YteclkiabkdaklaaDoorProg
import Derived.Test.YteclkiabkdaklaaDoorG1
import Derived.Laws.Externs
import Derived.KernelRfl
import Derived.BigRegion
import Derived.Lib.Mul64
import Derived.Laws.BitsAllLaws
import Derived.Deep.QuietTactic
import Derived.BigQuiet
import Derived.Deep.Cut
import Derived.Lib.SlBytesConst
namespace Go.Proofs.YteclkiabkdaklaaDoor
open Go.RowKit

/-- A word's bound. -/
abbrev W : Int := 18446744073709551616

def aLo (x y c : Int) : Int := (x + y + c) % 18446744073709551616
def aHi (x y c : Int) : Int := (x + y + c) / 18446744073709551616
theorem add64 (x y c : Int) (hx : 0 ≤ x) (hy : 0 ≤ y) (hc0 : 0 ≤ c) (hc : c ≤ 1) (w : World) : (callFunc 63 #[.int .u64 x, .int .u64 y, .int .u64 c]).run Tryd.prog w =
    .ok (.value (.tuple #[.int .u64 (aLo x y c), .int .u64 (aHi x y c)])) w := by
  rw [run_callFunc_extern Tryd.func63 (by kernel_rfl) (by kernel_rfl) (by kernel_rfl) (e := add64Entry) (by kernel_rfl), run_add64 x y c hx hy hc0 hc]
  rfl

def sLo (x y c : Int) : Int := (x - y - c) % 18446744073709551616
def sHi (x y c : Int) : Int := if x < y + c then 1 else 0
/-- The model's own entry for bits.Sub64, by its place. -/
def subEntry : Array Value → Sem Value := (Extern.MathBitsCarry.rows.getLast (by simp [Extern.MathBitsCarry.rows])).2
theorem run_subEntry (x y b : Nat) (hb : b ≤ 1) (w : World) :
    (subEntry #[.int .u64 x, .int .u64 y, .int .u64 b]).run Tryd.prog w =
      .ok (.tuple #[.int .u64 (((x + 18446744073709551616 - y - b) % 18446744073709551616 : Nat) : Int), .int .u64 ((if x < y + b then 1 else 0 : Nat) : Int)]) w := by
  have : b = 0 ∨ b = 1 := by omega
  rcases this with rfl | rfl <;> rfl
theorem sub64 (x y c : Int) (hx : 0 ≤ x) (hy : 0 ≤ y) (hy' : y < 18446744073709551616) (hc0 : 0 ≤ c) (hc : c ≤ 1) (w : World) : (callFunc 64 #[.int .u64 x, .int .u64 y, .int .u64 c]).run Tryd.prog w =
    .ok (.value (.tuple #[.int .u64 (sLo x y c), .int .u64 (sHi x y c)])) w := by
  obtain ⟨x, rfl⟩ := Int.eq_ofNat_of_zero_le hx
  obtain ⟨y, rfl⟩ := Int.eq_ofNat_of_zero_le hy
  obtain ⟨c, rfl⟩ := Int.eq_ofNat_of_zero_le hc0
  have e1 : (((x + 18446744073709551616 - y - c) % 18446744073709551616 : Nat) : Int) = sLo x y c := by unfold sLo; omega
  have e2 : ((if x < y + c then 1 else 0 : Nat) : Int) = sHi x y c := by unfold sHi; split <;> split <;> omega
  rw [run_callFunc_extern Tryd.func64 (by kernel_rfl) (by kernel_rfl) (by kernel_rfl) (e := subEntry) (by kernel_rfl), run_subEntry x y c (by omega), e1, e2]
  rfl

end Go.Proofs.YteclkiabkdaklaaDoor

namespace Go.Proofs.YteclkiabkdaklaaDoor
open Go.RowKit

theorem low32 (a : Nat) (ha : a < 18446744073709551616) : bits .and .u64 (a : Int) 4294967295 = ((a % 4294967296 : Nat) : Int) := by
  have e : a &&& 4294967295 = a % 4294967296 := Nat.and_two_pow_sub_one_eq_mod a 32
  rw [← e]; exact u64_and_nat a 4294967295 ha (by omega)
theorem high32 (a : Nat) : (a : Int) / 4294967296 = ((a / 4294967296 : Nat) : Int) := by omega
theorem castMul (a b : Nat) : (a : Int) * (b : Int) = ((a * b : Nat) : Int) := by omega
theorem castAdd (a b : Nat) : (a : Int) + (b : Int) = ((a + b : Nat) : Int) := by omega
theorem fits (a : Nat) (ha : a < 18446744073709551616) : IntKind.u64.wrap (a : Int) = (a : Int) := by rw [IntKind.wrap_u64]; omega
theorem folds (a : Nat) : IntKind.u64.wrap (a : Int) = ((a % 18446744073709551616 : Nat) : Int) := by rw [IntKind.wrap_u64]; omega

set_option maxHeartbeats 1000000 in
theorem mul64_nat (x y : Nat) (hx : x < 18446744073709551616) (hy : y < 18446744073709551616) (w : World) :
    Calls Tryd.prog 67 #[.int .u64 x, .int .u64 y] w fun e w' => e = .returned (.tuple #[.int .u64 ((x * y / 18446744073709551616 : Nat) : Int), .int .u64 ((x * y % 18446744073709551616 : Nat) : Int)]) ∧ w' = w := by
  have hall := Lib.mul64_hi x y hx hy
  have p11 := Lib.half_mul_le (a := x / 4294967296) (b := y / 4294967296) (by omega) (by omega)
  have p10 := Lib.half_mul_le (a := x / 4294967296) (b := y % 4294967296) (by omega) (by omega)
  have p01 := Lib.half_mul_le (a := x % 4294967296) (b := y / 4294967296) (by omega) (by omega)
  have q11 := fits (x / 4294967296 * (y / 4294967296)) (by omega)
  have q10 := fits (x / 4294967296 * (y % 4294967296)) (by omega)
  have q01 := fits (x % 4294967296 * (y / 4294967296)) (by omega)
  have qa := fits _ hall.1
  have qb := fits _ hall.2.1
  have qc := fits _ hall.2.2.1
  have qd := low32 _ hall.2.1
  have qe := fits (x / 4294967296 * (y / 4294967296) + (x / 4294967296 * (y % 4294967296) + x % 4294967296 * (y % 4294967296) / 4294967296) / 4294967296) (by omega)
  have qf := fits (x / 4294967296 * (y / 4294967296) + (x / 4294967296 * (y % 4294967296) + x % 4294967296 * (y % 4294967296) / 4294967296) / 4294967296 + ((x / 4294967296 * (y % 4294967296) + x % 4294967296 * (y % 4294967296) / 4294967296) % 4294967296 + x % 4294967296 * (y / 4294967296)) / 4294967296) (by omega)
  have qx := low32 x hx
  have qy := low32 y hy
  have H := show Hid _ from (And.intro q11 (And.intro q10 (And.intro q01 (And.intro qa (And.intro qb (And.intro qc (And.intro qd (And.intro qe (And.intro qf (And.intro qx (And.intro qy hall.2.2.2)))))))))))
  clear q11 q10 q01 qa qb qc qd qe qf qx qy hall p11 p10 p01
  go_enter Tryd.func67, Tryd.ntmps67
  go_wp2
  obtain ⟨q11, q10, q01, qa, qb, qc, qd, qe, qf, qx, qy, hh⟩ := H.out
  simp only [qx, qy, high32, castMul, castAdd, qa, q10, qb, qd, q01, qc, q11, qe, qf, folds (x * y)]
  rw [hh]
  go_ret2
  exact ⟨rfl, rfl⟩

/-- What Mul64 answers. -/
def Prods (x y h l : Int) : Prop := 0 ≤ h ∧ h ≤ W - 2 ∧ 0 ≤ l ∧ l < W ∧ h * W + l = x * y

theorem mul64_any (x y : Int) (hx : 0 ≤ x) (hx' : x < W) (hy : 0 ≤ y) (hy' : y < W) (w : World) :
    Calls Tryd.prog 67 #[.int .u64 x, .int .u64 y] w fun e w' => ∃ h l : Int, e = .returned (.tuple #[.int .u64 h, .int .u64 l]) ∧ Prods x y h l ∧ w' = w := by
  simp only [W] at hx' hy'
  obtain ⟨x, rfl⟩ := Int.eq_ofNat_of_zero_le hx
  obtain ⟨y, rfl⟩ := Int.eq_ofNat_of_zero_le hy
  refine (mul64_nat x y (by omega) (by omega) w).mono ?_
  rintro e w' ⟨rfl, rfl⟩
  have hle : x * y ≤ 18446744073709551615 * 18446744073709551615 := Nat.mul_le_mul (by omega) (by omega)
  have hc : (x : Int) * (y : Int) = ((x * y : Nat) : Int) := (Int.natCast_mul x y).symm
  refine ⟨_, _, rfl, ?_, rfl⟩
  unfold Prods
  rw [hc]
  simp only [W]
  generalize x * y = z at *
  omega

/-- What step answers. -/
def Steps (a b c d h l : Int) : Prop := 0 ≤ h ∧ h < W ∧ 0 ≤ l ∧ l < W ∧ h * W + l = a * b + c + d

theorem step_math {a b c d h l : Int} (hp : Prods a b h l) (hc : 0 ≤ c) (hc' : c < W) (hd : 0 ≤ d) (hd' : d < W) (ha : 0 ≤ a) (ha' : a < W) (hb : 0 ≤ b) (hb' : b < W) :
    IntKind.u64.wrap (h + aHi l c 0) = h + aHi l c 0 ∧ IntKind.u64.wrap (h + aHi l c 0 + aHi (aLo l c 0) d 0) = h + aHi l c 0 + aHi (aLo l c 0) d 0 ∧ Steps a b c d (h + aHi l c 0 + aHi (aLo l c 0) d 0) (aLo (aLo l c 0) d 0) := by
  obtain ⟨h0, h1, l0, l1, e⟩ := hp
  have hab : a * b ≤ 18446744073709551615 * 18446744073709551615 := Int.mul_le_mul (by simp only [W] at ha'; omega) (by simp only [W] at hb'; omega) hb (by omega)
  unfold Steps
  rw [IntKind.wrap_u64, IntKind.wrap_u64]
  unfold aHi aLo
  simp only [W] at *
  generalize a * b = p at *
  refine ⟨by omega, by omega, by omega⟩

set_option maxHeartbeats 1000000 in
theorem step_any (a b c d : Int) (ha : 0 ≤ a) (ha' : a < W) (hb : 0 ≤ b) (hb' : b < W) (hc : 0 ≤ c) (hc' : c < W) (hd : 0 ≤ d) (hd' : d < W) (w : World) :
    Calls Tryd.prog 61 #[.int .u64 a, .int .u64 b, .int .u64 c, .int .u64 d] w fun e w' => ∃ h l : Int, e = .returned (.tuple #[.int .u64 h, .int .u64 l]) ∧ Steps a b c d h l ∧ w' = w := by
  go_enter Tryd.func61, Tryd.ntmps61
  go_wp2_with fail
  refine (mul64_any a b ha ha' hb hb' _).mono ?_
  rintro e w' ⟨h, l, rfl, hp, rfl⟩
  obtain ⟨k1, k2, hs⟩ := step_math hp hc hc' hd hd' ha ha' hb hb'
  have hadd1 := add64 l c 0 hp.2.2.1 hc (Int.le_refl 0) (by decide)
  have hadd2 := add64 (aLo l c 0) d 0 (by unfold aLo; omega) hd (Int.le_refl 0) (by decide)
  clear ha ha' hb hb' hc hc' hd hd'
  generalize aLo (aLo l c 0) d 0 = lo at *
  generalize aHi (aLo l c 0) d 0 = c2 at *
  generalize aLo l c 0 = lo1 at *
  generalize aHi l c 0 = c1 at *
  go_wp2
  go_ret2
  exact ⟨_, _, rfl, hs, rfl⟩

/-- One of two words, by a bit. -/
theorem pick64 (z x cv : Int) (hz : 0 ≤ z) (hz' : z < W) (hx : 0 ≤ x) (hx' : x < W) (hc : cv = 0 ∨ cv = 1) :
    bits BinOp.xor IntKind.u64 z (bits BinOp.and IntKind.u64 (IntKind.u64.wrap (-cv)) (bits BinOp.xor IntKind.u64 z x)) = if cv = 1 then x else z := by
  simp only [W] at hz' hx'
  obtain ⟨z, rfl⟩ := Int.eq_ofNat_of_zero_le hz
  obtain ⟨x, rfl⟩ := Int.eq_ofNat_of_zero_le hx
  have hzn : z < 2 ^ 64 := by omega
  have hxn : x < 2 ^ 64 := by omega
  have hy : z ^^^ x < 18446744073709551616 := Nat.xor_lt_two_pow hzn hxn
  rw [u64_xor_nat z x (by omega) (by omega)]
  rcases hc with rfl | rfl
  · have e : IntKind.u64.wrap (-0) = ((0 : Nat) : Int) := by rw [IntKind.wrap_u64]; rfl
    rw [e, u64_and_nat 0 _ (by omega) hy, Nat.zero_and, u64_xor_nat z 0 (by omega) (by omega), Nat.xor_zero]
    simp
  · have e : IntKind.u64.wrap (-1) = ((18446744073709551615 : Nat) : Int) := by rw [IntKind.wrap_u64]; rfl
    have e2 : 18446744073709551615 &&& (z ^^^ x) = z ^^^ x := by
      have h := Nat.and_two_pow_sub_one_eq_mod (z ^^^ x) 64
      rw [Nat.and_comm, show (18446744073709551615 : Nat) = 2 ^ 64 - 1 from rfl, h]
      exact Nat.mod_eq_of_lt hy
    rw [e, u64_and_nat _ _ (by omega) hy, e2, u64_xor_nat z _ (by omega) hy, ← Nat.xor_assoc, Nat.xor_self, Nat.zero_xor]
    simp

theorem or_step (M s : Nat) (hM : M = 2 ^ s) (hb : M * 256 ≤ 18446744073709551616) (a x : Int) (h0 : 0 ≤ a) (h1 : a < M) (x0 : 0 ≤ x) (x1 : x < 256) :
    bits BinOp.or IntKind.u64 a (IntKind.u64.wrap (IntKind.u64.wrap x * (M : Int))) = a + x * (M : Int) := by
  obtain ⟨a, rfl⟩ := Int.eq_ofNat_of_zero_le h0
  obtain ⟨x, rfl⟩ := Int.eq_ofNat_of_zero_le x0
  have hx : x * M + M ≤ 256 * M := by rw [← Nat.succ_mul]; exact Nat.mul_le_mul_right M (by omega)
  have e1 : IntKind.u64.wrap (x : Int) = (x : Int) := by rw [IntKind.wrap_u64]; omega
  have e2 : (x : Int) * (M : Int) = ((x * M : Nat) : Int) := (Int.natCast_mul x M).symm
  have e3 : IntKind.u64.wrap ((x * M : Nat) : Int) = ((x * M : Nat) : Int) := by rw [IntKind.wrap_u64]; omega
  rw [e1, e2, e3, u64_or_nat a (x * M) (by omega) (by omega)]
  have h := Nat.two_pow_add_eq_or_of_lt (i := s) (b := a) (by omega) x
  rw [← hM, Nat.mul_comm M x] at h
  rw [Nat.or_comm, ← h]
  omega

theorem glued (x0 x1 x2 x3 x4 x5 x6 x7 : Int) (h0 : 0 ≤ x0 ∧ x0 < 256) (h1 : 0 ≤ x1 ∧ x1 < 256) (h2 : 0 ≤ x2 ∧ x2 < 256) (h3 : 0 ≤ x3 ∧ x3 < 256) (h4 : 0 ≤ x4 ∧ x4 < 256) (h5 : 0 ≤ x5 ∧ x5 < 256) (h6 : 0 ≤ x6 ∧ x6 < 256) (h7 : 0 ≤ x7 ∧ x7 < 256) :
    bits BinOp.or IntKind.u64 (bits BinOp.or IntKind.u64 (bits BinOp.or IntKind.u64 (bits BinOp.or IntKind.u64 (bits BinOp.or IntKind.u64 (bits BinOp.or IntKind.u64 (bits BinOp.or IntKind.u64 (IntKind.u64.wrap (x0)) (IntKind.u64.wrap (IntKind.u64.wrap (x1) * 256))) (IntKind.u64.wrap (IntKind.u64.wrap (x2) * 65536))) (IntKind.u64.wrap (IntKind.u64.wrap (x3) * 16777216))) (IntKind.u64.wrap (IntKind.u64.wrap (x4) * 4294967296))) (IntKind.u64.wrap (IntKind.u64.wrap (x5) * 1099511627776))) (IntKind.u64.wrap (IntKind.u64.wrap (x6) * 281474976710656))) (IntKind.u64.wrap (IntKind.u64.wrap (x7) * 72057594037927936)) = x0 + x1 * 256 + x2 * 65536 + x3 * 16777216 + x4 * 4294967296 + x5 * 1099511627776 + x6 * 281474976710656 + x7 * 72057594037927936 := by
  have e0 : IntKind.u64.wrap x0 = x0 := by rw [IntKind.wrap_u64]; omega
  have e1 := or_step 256 8 (by decide) (by decide) (x0) x1 (by omega) (by omega) h1.1 h1.2
  have e2 := or_step 65536 16 (by decide) (by decide) (x0 + x1 * ((256 : Nat) : Int)) x2 (by omega) (by omega) h2.1 h2.2
  have e3 := or_step 16777216 24 (by decide) (by decide) (x0 + x1 * ((256 : Nat) : Int) + x2 * ((65536 : Nat) : Int)) x3 (by omega) (by omega) h3.1 h3.2
  have e4 := or_step 4294967296 32 (by decide) (by decide) (x0 + x1 * ((256 : Nat) : Int) + x2 * ((65536 : Nat) : Int) + x3 * ((16777216 : Nat) : Int)) x4 (by omega) (by omega) h4.1 h4.2
  have e5 := or_step 1099511627776 40 (by decide) (by decide) (x0 + x1 * ((256 : Nat) : Int) + x2 * ((65536 : Nat) : Int) + x3 * ((16777216 : Nat) : Int) + x4 * ((4294967296 : Nat) : Int)) x5 (by omega) (by omega) h5.1 h5.2
  have e6 := or_step 281474976710656 48 (by decide) (by decide) (x0 + x1 * ((256 : Nat) : Int) + x2 * ((65536 : Nat) : Int) + x3 * ((16777216 : Nat) : Int) + x4 * ((4294967296 : Nat) : Int) + x5 * ((1099511627776 : Nat) : Int)) x6 (by omega) (by omega) h6.1 h6.2
  have e7 := or_step 72057594037927936 56 (by decide) (by decide) (x0 + x1 * ((256 : Nat) : Int) + x2 * ((65536 : Nat) : Int) + x3 * ((16777216 : Nat) : Int) + x4 * ((4294967296 : Nat) : Int) + x5 * ((1099511627776 : Nat) : Int) + x6 * ((281474976710656 : Nat) : Int)) x7 (by omega) (by omega) h7.1 h7.2
  simp only [Int.cast_ofNat_Int] at e1 e2 e3 e4 e5 e6 e7
  rw [e0, e1, e2, e3, e4, e5, e6, e7]

theorem bytes_of (x : Int) (h0 : 0 ≤ x) (h1 : x < 18446744073709551616) : x % 256 + 256 * (x / 256 % 256) + 65536 * (x / 65536 % 256) + 16777216 * (x / 16777216 % 256) + 4294967296 * (x / 4294967296 % 256) + 1099511627776 * (x / 1099511627776 % 256) + 281474976710656 * (x / 281474976710656 % 256) + 72057594037927936 * (x / 72057594037927936 % 256) = x := by omega


set_option maxHeartbeats 1000000 in
theorem pickw_any (bit a b : Int) (ha : 0 ≤ a) (ha' : a < W) (hb : 0 ≤ b) (hb' : b < W) (hc : bit = 0 ∨ bit = 1) (r : Int) (hr : (if bit = 1 then b else a) = r) (w : World) :
    Calls Tryd.prog 65 #[.int .u64 bit, .int .u64 a, .int .u64 b] w fun e w' => e = .returned (.int .u64 r) ∧ w' = w := by
  have HP := show Hid _ from (pick64 a b bit ha ha' hb hb' hc).trans hr
  clear ha ha' hb hb' hc hr
  go_enter Tryd.func65, Tryd.ntmps65
  go_wp2
  go_ret
  exact ⟨by rw [← HP.out]; rfl, rfl⟩

end Go.Proofs.YteclkiabkdaklaaDoor

namespace Go.Proofs.YteclkiabkdaklaaDoor
open Go.RowKit

set_option maxRecDepth 10000 in
set_option maxHeartbeats 4000000 in
theorem of_same (B o c : Nat) (x0 x1 x2 x3 x4 x5 x6 x7 : Int) (h0 : 0 ≤ x0 ∧ x0 < 256) (h1 : 0 ≤ x1 ∧ x1 < 256) (h2 : 0 ≤ x2 ∧ x2 < 256) (h3 : 0 ≤ x3 ∧ x3 < 256) (h4 : 0 ≤ x4 ∧ x4 < 256) (h5 : 0 ≤ x5 ∧ x5 < 256) (h6 : 0 ≤ x6 ∧ x6 < 256) (h7 : 0 ≤ x7 ∧ x7 < 256) (w : World) (c0 : w.cell? ⟨B, o, none⟩ = some (.int .u8 x0)) (c1 : w.cell? ⟨B, o + 1, none⟩ = some (.int .u8 x1)) (c2 : w.cell? ⟨B, o + 2, none⟩ = some (.int .u8 x2)) (c3 : w.cell? ⟨B, o + 3, none⟩ = some (.int .u8 x3)) (c4 : w.cell? ⟨B, o + 4, none⟩ = some (.int .u8 x4)) (c5 : w.cell? ⟨B, o + 5, none⟩ = some (.int .u8 x5)) (c6 : w.cell? ⟨B, o + 6, none⟩ = some (.int .u8 x6)) (c7 : w.cell? ⟨B, o + 7, none⟩ = some (.int .u8 x7)) :
    Calls Tryd.prog 66 #[.slice (some ⟨B, o, none⟩) 8 c] w fun e w' => ∃ q, e = .returned (.int .u64 (x0 + x1 * 256 + x2 * 65536 + x3 * 16777216 + x4 * 4294967296 + x5 * 1099511627776 + x6 * 281474976710656 + x7 * 72057594037927936)) ∧ w' = w.drewN q := by
  have hg := glued x0 x1 x2 x3 x4 x5 x6 x7 h0 h1 h2 h3 h4 h5 h6 h7
  have HG := show Hid _ from hg
  clear hg h0 h1 h2 h3 h4 h5 h6 h7
  go_enter Tryd.func66, Tryd.ntmps66
  go_wp2
  go_quiet (fail)
  go_wp2
  go_ret
  exact ⟨nq, by rw [HG.out]; rfl, rfl⟩

theorem of_raw (B o c : Nat) (x0 x1 x2 x3 x4 x5 x6 x7 : Int) (h0 : 0 ≤ x0 ∧ x0 < 256) (h1 : 0 ≤ x1 ∧ x1 < 256) (h2 : 0 ≤ x2 ∧ x2 < 256) (h3 : 0 ≤ x3 ∧ x3 < 256) (h4 : 0 ≤ x4 ∧ x4 < 256) (h5 : 0 ≤ x5 ∧ x5 < 256) (h6 : 0 ≤ x6 ∧ x6 < 256) (h7 : 0 ≤ x7 ∧ x7 < 256) (w : World) (c0 : w.cell? ⟨B, o, none⟩ = some (.int .u8 x0)) (c1 : w.cell? ⟨B, o + 1, none⟩ = some (.int .u8 x1)) (c2 : w.cell? ⟨B, o + 2, none⟩ = some (.int .u8 x2)) (c3 : w.cell? ⟨B, o + 3, none⟩ = some (.int .u8 x3)) (c4 : w.cell? ⟨B, o + 4, none⟩ = some (.int .u8 x4)) (c5 : w.cell? ⟨B, o + 5, none⟩ = some (.int .u8 x5)) (c6 : w.cell? ⟨B, o + 6, none⟩ = some (.int .u8 x6)) (c7 : w.cell? ⟨B, o + 7, none⟩ = some (.int .u8 x7)) :
    Calls Tryd.prog 66 #[.slice (some ⟨B, o, none⟩) 8 c] w fun e w' => e = .returned (.int .u64 (x0 + x1 * 256 + x2 * 65536 + x3 * 16777216 + x4 * 4294967296 + x5 * 1099511627776 + x6 * 281474976710656 + x7 * 72057594037927936)) ∧ Below w.heap.size w w' :=
  (of_same B o c x0 x1 x2 x3 x4 x5 x6 x7 h0 h1 h2 h3 h4 h5 h6 h7 w c0 c1 c2 c3 c4 c5 c6 c7).mono fun _ _ ⟨_, he, hw⟩ => ⟨he, by rw [hw]; exact (below_drewN (Below.refl _ _))⟩
end Go.Proofs.YteclkiabkdaklaaDoor

namespace Go.Proofs.YteclkiabkdaklaaDoor
open Go.RowKit

set_option maxRecDepth 10000 in
set_option maxHeartbeats 4000000 in
theorem put_raw (B o c : Nat) (x : Int) (y0 y1 y2 y3 y4 y5 y6 y7 : Int) (w : World) (c0 : w.cell? ⟨B, o, none⟩ = some (.int .u8 y0)) (f0 : w.frozen? ⟨B, o, none⟩ = false) (c1 : w.cell? ⟨B, o + 1, none⟩ = some (.int .u8 y1)) (f1 : w.frozen? ⟨B, o + 1, none⟩ = false) (c2 : w.cell? ⟨B, o + 2, none⟩ = some (.int .u8 y2)) (f2 : w.frozen? ⟨B, o + 2, none⟩ = false) (c3 : w.cell? ⟨B, o + 3, none⟩ = some (.int .u8 y3)) (f3 : w.frozen? ⟨B, o + 3, none⟩ = false) (c4 : w.cell? ⟨B, o + 4, none⟩ = some (.int .u8 y4)) (f4 : w.frozen? ⟨B, o + 4, none⟩ = false) (c5 : w.cell? ⟨B, o + 5, none⟩ = some (.int .u8 y5)) (f5 : w.frozen? ⟨B, o + 5, none⟩ = false) (c6 : w.cell? ⟨B, o + 6, none⟩ = some (.int .u8 y6)) (f6 : w.frozen? ⟨B, o + 6, none⟩ = false) (c7 : w.cell? ⟨B, o + 7, none⟩ = some (.int .u8 y7)) (f7 : w.frozen? ⟨B, o + 7, none⟩ = false) :
    Calls Tryd.prog 20 #[.slice (some ⟨B, o, none⟩) 8 c, .int .u64 x] w fun e w' => e = .returned (.tuple #[]) ∧ w' = ((((((((w.setCell ⟨B, o, none⟩ (.int .u8 (x % 256))).setCell ⟨B, o + 1, none⟩ (.int .u8 (x / 256 % 256))).setCell ⟨B, o + 2, none⟩ (.int .u8 (x / 65536 % 256))).setCell ⟨B, o + 3, none⟩ (.int .u8 (x / 16777216 % 256))).setCell ⟨B, o + 4, none⟩ (.int .u8 (x / 4294967296 % 256))).setCell ⟨B, o + 5, none⟩ (.int .u8 (x / 1099511627776 % 256))).setCell ⟨B, o + 6, none⟩ (.int .u8 (x / 281474976710656 % 256))).setCell ⟨B, o + 7, none⟩ (.int .u8 (x / 72057594037927936 % 256))) := by
  go_enter Tryd.func20, Tryd.ntmps20
  go_wp2
  go_end0
  exact ⟨rfl, rfl⟩
end Go.Proofs.YteclkiabkdaklaaDoor

namespace Go.Proofs.YteclkiabkdaklaaDoor
open Go.RowKit

/-- A word's bytes. -/
def byt (x : Int) : Nat → Int
  | 0 => x % 256
  | 1 => x / 256 % 256
  | 2 => x / 65536 % 256
  | 3 => x / 16777216 % 256
  | 4 => x / 4294967296 % 256
  | 5 => x / 1099511627776 % 256
  | 6 => x / 281474976710656 % 256
  | 7 => x / 72057594037927936 % 256
  | _ + 8 => 0
theorem byt_in (x : Int) : In 256 8 (byt x)
  | 0, _ => by show 0 ≤ x % 256 ∧ x % 256 < 256; omega
  | 1, _ => by show 0 ≤ x / 256 % 256 ∧ x / 256 % 256 < 256; omega
  | 2, _ => by show 0 ≤ x / 65536 % 256 ∧ x / 65536 % 256 < 256; omega
  | 3, _ => by show 0 ≤ x / 16777216 % 256 ∧ x / 16777216 % 256 < 256; omega
  | 4, _ => by show 0 ≤ x / 4294967296 % 256 ∧ x / 4294967296 % 256 < 256; omega
  | 5, _ => by show 0 ≤ x / 1099511627776 % 256 ∧ x / 1099511627776 % 256 < 256; omega
  | 6, _ => by show 0 ≤ x / 281474976710656 % 256 ∧ x / 281474976710656 % 256 < 256; omega
  | 7, _ => by show 0 ≤ x / 72057594037927936 % 256 ∧ x / 72057594037927936 % 256 < 256; omega
  | _ + 8, h => by omega
theorem val_byt (x : Int) (h0 : 0 ≤ x) (h1 : x < W) : val 256 (byt x) 8 = x := by
  simp only [W] at h1
  have h := bytes_of x h0 h1
  simp only [val, byt]
  omega
theorem word8 (a : Nat → Int) (o : Nat) : val 256 (fun j => a (o + j)) 8 = a o + a (o + 1) * 256 + a (o + 2) * 65536 + a (o + 3) * 16777216 + a (o + 4) * 4294967296 + a (o + 5) * 1099511627776 + a (o + 6) * 281474976710656 + a (o + 7) * 72057594037927936 := by
  simp only [val, Nat.add_zero]
  omega
theorem of_any (B o n c : Nat) (a : Nat → Int) (ho : o + 8 ≤ n) (ha : In 256 n a) (w : World) (h : Has w B .u8 n a) :
    Calls Tryd.prog 66 #[.slice (some ⟨B, o, none⟩) 8 c] w fun e w' => e = .returned (.int .u64 (val 256 (fun j => a (o + j)) 8)) ∧ Below w.heap.size w w' := by
  rw [word8]
  exact of_raw B o c _ _ _ _ _ _ _ _ (ha o (by omega)) (ha (o + 1) (by omega)) (ha (o + 2) (by omega)) (ha (o + 3) (by omega)) (ha (o + 4) (by omega)) (ha (o + 5) (by omega)) (ha (o + 6) (by omega)) (ha (o + 7) (by omega)) w
    (h.cell o (by omega)) (h.cell (o + 1) (by omega)) (h.cell (o + 2) (by omega)) (h.cell (o + 3) (by omega)) (h.cell (o + 4) (by omega)) (h.cell (o + 5) (by omega)) (h.cell (o + 6) (by omega)) (h.cell (o + 7) (by omega))
theorem of_quiet (B o n c : Nat) (a : Nat → Int) (ho : o + 8 ≤ n) (ha : In 256 n a) (w : World) (h : Has w B .u8 n a) :
    Calls Tryd.prog 66 #[.slice (some ⟨B, o, none⟩) 8 c] w fun e w' => ∃ q, e = .returned (.int .u64 (val 256 (fun j => a (o + j)) 8)) ∧ w' = w.drewN q := by
  rw [word8]
  exact of_same B o c _ _ _ _ _ _ _ _ (ha o (by omega)) (ha (o + 1) (by omega)) (ha (o + 2) (by omega)) (ha (o + 3) (by omega)) (ha (o + 4) (by omega)) (ha (o + 5) (by omega)) (ha (o + 6) (by omega)) (ha (o + 7) (by omega)) w
    (h.cell o (by omega)) (h.cell (o + 1) (by omega)) (h.cell (o + 2) (by omega)) (h.cell (o + 3) (by omega)) (h.cell (o + 4) (by omega)) (h.cell (o + 5) (by omega)) (h.cell (o + 6) (by omega)) (h.cell (o + 7) (by omega))
theorem put_any (B o n c : Nat) (g : Nat → Int) (x : Int) (ho : o + 8 ≤ n) (w : World) (h : Has w B .u8 n g) :
    Calls Tryd.prog 20 #[.slice (some ⟨B, o, none⟩) 8 c, .int .u64 x] w fun e w' => e = .returned (.tuple #[]) ∧ w' = w.setCells B o (row .u8 8 (byt x)) :=
  put_raw B o c x _ _ _ _ _ _ _ _ w (h.cell o (by omega)) (h.free o (by omega)) (h.cell (o + 1) (by omega)) (h.free (o + 1) (by omega)) (h.cell (o + 2) (by omega)) (h.free (o + 2) (by omega)) (h.cell (o + 3) (by omega)) (h.free (o + 3) (by omega)) (h.cell (o + 4) (by omega)) (h.free (o + 4) (by omega)) (h.cell (o + 5) (by omega)) (h.free (o + 5) (by omega)) (h.cell (o + 6) (by omega)) (h.free (o + 6) (by omega)) (h.cell (o + 7) (by omega)) (h.free (o + 7) (by omega))
end Go.Proofs.YteclkiabkdaklaaDoor

namespace Go.Proofs.YteclkiabkdaklaaDoor
open Go.RowKit

set_option maxRecDepth 10000 in
set_option maxHeartbeats 4000000 in
theorem put_raw16 (B o c : Nat) (x : Int) (y0 y1 y2 y3 y4 y5 y6 y7 : Int) (w : World) (c0 : w.cell? ⟨B, o, none⟩ = some (.int .u8 y0)) (f0 : w.frozen? ⟨B, o, none⟩ = false) (c1 : w.cell? ⟨B, o + 1, none⟩ = some (.int .u8 y1)) (f1 : w.frozen? ⟨B, o + 1, none⟩ = false) (c2 : w.cell? ⟨B, o + 2, none⟩ = some (.int .u8 y2)) (f2 : w.frozen? ⟨B, o + 2, none⟩ = false) (c3 : w.cell? ⟨B, o + 3, none⟩ = some (.int .u8 y3)) (f3 : w.frozen? ⟨B, o + 3, none⟩ = false) (c4 : w.cell? ⟨B, o + 4, none⟩ = some (.int .u8 y4)) (f4 : w.frozen? ⟨B, o + 4, none⟩ = false) (c5 : w.cell? ⟨B, o + 5, none⟩ = some (.int .u8 y5)) (f5 : w.frozen? ⟨B, o + 5, none⟩ = false) (c6 : w.cell? ⟨B, o + 6, none⟩ = some (.int .u8 y6)) (f6 : w.frozen? ⟨B, o + 6, none⟩ = false) (c7 : w.cell? ⟨B, o + 7, none⟩ = some (.int .u8 y7)) (f7 : w.frozen? ⟨B, o + 7, none⟩ = false) :
    Calls Tryd.prog 20 #[.slice (some ⟨B, o, none⟩) 16 c, .int .u64 x] w fun e w' => e = .returned (.tuple #[]) ∧ w' = ((((((((w.setCell ⟨B, o, none⟩ (.int .u8 (x % 256))).setCell ⟨B, o + 1, none⟩ (.int .u8 (x / 256 % 256))).setCell ⟨B, o + 2, none⟩ (.int .u8 (x / 65536 % 256))).setCell ⟨B, o + 3, none⟩ (.int .u8 (x / 16777216 % 256))).setCell ⟨B, o + 4, none⟩ (.int .u8 (x / 4294967296 % 256))).setCell ⟨B, o + 5, none⟩ (.int .u8 (x / 1099511627776 % 256))).setCell ⟨B, o + 6, none⟩ (.int .u8 (x / 281474976710656 % 256))).setCell ⟨B, o + 7, none⟩ (.int .u8 (x / 72057594037927936 % 256))) := by
  go_enter Tryd.func20, Tryd.ntmps20
  go_wp2
  go_end0
  exact ⟨rfl, rfl⟩
theorem put16_any (B o n c : Nat) (g : Nat → Int) (x : Int) (ho : o + 8 ≤ n) (w : World) (h : Has w B .u8 n g) :
    Calls Tryd.prog 20 #[.slice (some ⟨B, o, none⟩) 16 c, .int .u64 x] w fun e w' => e = .returned (.tuple #[]) ∧ w' = w.setCells B o (row .u8 8 (byt x)) :=
  put_raw16 B o c x _ _ _ _ _ _ _ _ w (h.cell o (by omega)) (h.free o (by omega)) (h.cell (o + 1) (by omega)) (h.free (o + 1) (by omega)) (h.cell (o + 2) (by omega)) (h.free (o + 2) (by omega)) (h.cell (o + 3) (by omega)) (h.free (o + 3) (by omega)) (h.cell (o + 4) (by omega)) (h.free (o + 4) (by omega)) (h.cell (o + 5) (by omega)) (h.free (o + 5) (by omega)) (h.cell (o + 6) (by omega)) (h.free (o + 6) (by omega)) (h.cell (o + 7) (by omega)) (h.free (o + 7) (by omega))
end Go.Proofs.YteclkiabkdaklaaDoor

namespace Go.Proofs.YteclkiabkdaklaaDoor
open Go.RowKit

/-- 2^130 - 5, and the bound of a folded number. -/
abbrev Q : Int := 1361129467683753853853498429727072845819
abbrev FB : Int := 1361129467683753853853498429727072846824
theorem W3 : W ^ 3 = 6277101735386680763835789423207666416102355444464034512896 := by decide
theorem v3 (f : Nat → Int) : val W f 3 = f 0 + 18446744073709551616 * f 1 + 340282366920938463463374607431768211456 * f 2 := by
  simp only [val, W]; omega
theorem v6 (f : Nat → Int) : val W f 6 = f 0 + 18446744073709551616 * f 1 + 340282366920938463463374607431768211456 * f 2 + 6277101735386680763835789423207666416102355444464034512896 * f 3 + 115792089237316195423570985008687907853269984665640564039457584007913129639936 * f 4 + 2135987035920910082395021706169552114602704522356652769947041607822219725780640550022962086936576 * f 5 := by
  simp only [val, W]; omega

/-- Three words. -/
def tri (x y z : Int) : Nat → Int
  | 0 => x
  | 1 => y
  | 2 => z
  | _ + 3 => 0
theorem tri_in {x y z : Int} (hx : 0 ≤ x ∧ x < W) (hy : 0 ≤ y ∧ y < W) (hz : 0 ≤ z ∧ z < W) : In W 3 (tri x y z)
  | 0, _ => hx
  | 1, _ => hy
  | 2, _ => hz
  | _ + 3, h => by omega
theorem tri_val (x y z : Int) : val W (tri x y z) 3 = x + 18446744073709551616 * y + 340282366920938463463374607431768211456 * z := v3 _

/-- A number that is folded. -/
def Folded (n : Nat → Int) : Prop := In W 3 n ∧ val W n 3 ≤ FB

theorem plus_math {a b n : Nat → Int} {cv : Int} (hn : In W 3 n) (c0 : 0 ≤ cv) (he : val W n 3 + W ^ 3 * cv = val W a 3 + val W b 3) (h : val W a 3 + val W b 3 < W ^ 3) : val W n 3 = val W a 3 + val W b 3 := by
  have i := val_in W (by decide) n 3 hn
  rw [W3] at *
  omega

theorem fold_math {x y z p c q d : Int} (hx : 0 ≤ x ∧ x < W) (hy : 0 ≤ y ∧ y < W) (hz : 0 ≤ z ∧ z < 512) (e0 : p + W * c = x + z / 4 * 5) (l0 : 0 ≤ p ∧ p < W) (e1 : q + W * d = y + c) (l1 : 0 ≤ q ∧ q < W) (d0 : 0 ≤ d ∧ d ≤ 1) :
    Folded (tri p q (z % 4 + d)) ∧ val W (tri p q (z % 4 + d)) 3 % Q = (x + 18446744073709551616 * y + 340282366920938463463374607431768211456 * z) % Q := by
  simp only [W] at e0 e1
  refine ⟨⟨tri_in l0 l1 (by simp only [W]; omega), ?_⟩, ?_⟩
  · rw [tri_val]; simp only [W, FB] at *; omega
  · rw [tri_val]; simp only [W, Q] at *; omega

/-- The words of 2^130 - 5. -/
def qW : Nat → Int := tri 18446744073709551611 18446744073709551615 3
theorem qW_in : In W 3 qW := tri_in (by decide) (by decide) (by decide)
theorem val_qW : val W qW 3 = Q := by decide
theorem least_math {n l m : Nat → Int} {cv : Int} (hn : In W 3 n) (hl : In W 3 l) (hc : cv = 0 ∨ cv = 1) (he : val W l 3 + val W qW 3 = val W n 3 + W ^ 3 * cv) (hm : ∀ j, j < 3 → m j = if cv = 1 then n j else l j) (hf : val W n 3 ≤ FB) :
    In W 3 m ∧ val W m 3 = val W n 3 % Q := by
  have i1 := val_in W (by decide) n 3 hn
  have i2 := val_in W (by decide) l 3 hl
  rw [val_qW, W3] at he
  rw [W3] at i1 i2
  rcases hc with rfl | rfl
  · have e := val_congr W (f := m) (g := l) 3 fun j hj => by rw [hm j hj]; rfl
    refine ⟨fun j hj => by rw [hm j hj]; exact hl j hj, ?_⟩
    rw [e]; clear hm e; simp only [Q, FB] at *; omega
  · have e := val_congr W (f := m) (g := n) 3 fun j hj => by rw [hm j hj]; rfl
    refine ⟨fun j hj => by rw [hm j hj]; exact hn j hj, ?_⟩
    rw [e]; clear hm e; simp only [Q, FB] at *; omega

/-- What lower makes of a product: the low part, four times and once the high one. -/
theorem lower_math {d : Nat → Int} (hd : In W 6 d) (hv : val W d 6 ≤ FB * FB) :
    (d 5 = 0 ∧ 0 ≤ d 4 ∧ d 4 < 64) ∧
    val W (tri (d 0) (d 1) (d 2 % 4)) 3 < 1361129467683753853853498429727072845824 ∧ val W (tri (d 2 - d 2 % 4) (d 3) (d 4)) 3 < 43556142965880123323311949751266331066368 ∧
    val W (tri (d 2 / 4 + d 3 % 4 * 4611686018427387904) (d 3 / 4 + d 4 % 4 * 4611686018427387904) (d 4 / 4)) 3 < 10889035741470030830827987437816582766592 ∧
    (val W (tri (d 0) (d 1) (d 2 % 4)) 3 + val W (tri (d 2 - d 2 % 4) (d 3) (d 4)) 3 + val W (tri (d 2 / 4 + d 3 % 4 * 4611686018427387904) (d 3 / 4 + d 4 % 4 * 4611686018427387904) (d 4 / 4)) 3) % Q = val W d 6 % Q := by
  have h0 := hd 0 (by omega)
  have h1 := hd 1 (by omega)
  have h2 := hd 2 (by omega)
  have h3 := hd 3 (by omega)
  have h4 := hd 4 (by omega)
  have h5 := hd 5 (by omega)
  rw [v6] at hv
  simp only [tri_val]
  rw [v6]
  generalize d 0 = x0 at *
  generalize d 1 = x1 at *
  generalize d 2 = x2 at *
  generalize d 3 = x3 at *
  generalize d 4 = x4 at *
  generalize d 5 = x5 at *
  simp only [W, FB, Int.reduceMul] at *
  have a5 : x5 = 0 := by omega
  subst a5
  have a4 : x4 < 64 := by omega
  refine ⟨⟨rfl, by omega, a4⟩, by omega, by omega, by omega, ?_⟩
  clear hv
  simp only [Q]
  omega
theorem mul_FB {x y : Int} (x1 : x ≤ FB) (y0 : 0 ≤ y) (y1 : y ≤ FB) : x * y ≤ FB * FB := Int.mul_le_mul x1 y1 y0 (by decide)
theorem and3 (x : Int) (h0 : 0 ≤ x) (h1 : x < W) : bits BinOp.and IntKind.u64 x 3 = x % 4 := by
  simp only [W] at h1
  obtain ⟨x, rfl⟩ := Int.eq_ofNat_of_zero_le h0
  have e : x &&& 3 = x % 4 := Nat.and_two_pow_sub_one_eq_mod x 2
  rw [show (3 : Int) = ((3 : Nat) : Int) from rfl, u64_and_nat x 3 (by omega) (by omega), e]
  omega
end Go.Proofs.YteclkiabkdaklaaDoor

namespace Go.Proofs.YteclkiabkdaklaaDoor
open Go.RowKit

theorem cnum_info (f : Nat → Int) : (Tryd.prog.info? 81).map (·.size) = some (row .u64 3 f).length := by rw [row_length]; kernel_rfl
theorem cnum_info' (f : Nat → Int) : (Tryd.prog.info? 81).map (·.size) = some (row .u64 3 f).toArray.size := by rw [List.size_toArray]; exact cnum_info f
theorem cnum_there {w : World} {b : Nat} {f g : Nat → Int} (h : Has w b .u64 3 f) : w.there b 0 (row .u64 3 g).toArray.size := by rw [List.size_toArray, row_length]; exact h.there
theorem cnum_zero (w : World) (t : TypeId) (b : Nat) (hb : b = w.heap.size) : Has (w.alloc (.cells #[.int .u64 0, .int .u64 0, .int .u64 0] t)) b .u64 3 (fun _ => 0) := Has.new w .u64 3 (fun _ => 0) t b hb

/-- Behind k rounds of plus. -/
structure PInv (a b : Nat → Int) (w : World) (k : Nat) (n : Nat → Int) (cv : Int) (w' : World) : Prop where
  c0 : 0 ≤ cv
  c1 : cv ≤ 1
  inn : In W 3 n
  rest : ∀ j, k ≤ j → n j = a j
  eq : val W n k + W ^ k * cv = val W a k + val W b k
  hn : Has w' w.heap.size .u64 3 n
  hb : Has w' (w.heap.size + 1) .u64 3 b
  hr : Has w' (w.heap.size + 1 + 1) .u64 3 (fun _ => 0)
  below : Below w.heap.size w w'

theorem PInv.step {a b : Nat → Int} {w : World} {k : Nat} {n : Nat → Int} {cv : Int} {w' : World} (h : PInv a b w k n cv w') (hbi : In W 3 b) (hk : k < 3) :
    PInv a b w (k + 1) (upd n k (aLo (n k) (b k) cv)) (aHi (n k) (b k) cv) ((w'.setCell ⟨w.heap.size, k, none⟩ (.int .u64 (aLo (n k) (b k) cv))).drew) := by
  have i1 := h.inn k hk
  have i2 := hbi k hk
  have q0 := h.c0; have q1 := h.c1
  simp only [W] at i1 i2
  have l0 : 0 ≤ aLo (n k) (b k) cv := by unfold aLo; omega
  have l1 : aLo (n k) (b k) cv < W := by simp only [W]; unfold aLo; omega
  have es : aLo (n k) (b k) cv + W * aHi (n k) (b k) cv = n k + b k + cv := by simp only [W]; unfold aLo aHi; omega
  refine ⟨by unfold aHi; omega, by unfold aHi; omega, h.inn.upd k _ l0 l1, fun j hj => ?_, ?_, (h.hn.set k hk _).drew, (h.hb.set_other _ _ (by simp)).drew, (h.hr.set_other _ _ (by simp; omega)).drew, (h.below.setCell (by simp) _).drew⟩
  · rw [upd_other _ _ _ _ (by omega)]; exact h.rest j (by omega)
  · simp only [val]
    rw [val_upd _ _ _ _ _ (Nat.le_refl k), upd_same, Int.pow_succ, Int.mul_assoc]
    have e1 : W ^ k * aLo (n k) (b k) cv + W ^ k * (W * aHi (n k) (b k) cv) = W ^ k * n k + W ^ k * b k + W ^ k * cv := by
      rw [← Int.mul_add, es, Int.mul_add, Int.mul_add]
    have e2 := h.eq
    have e3 := h.rest k (Nat.le_refl k)
    rw [← e3]
    omega

set_option maxHeartbeats 1000000 in
theorem plus_any (a b : Nat → Int) (ha : In W 3 a) (hb : In W 3 b) (hs : val W a 3 + val W b 3 < W ^ 3) (w : World) :
    Calls Tryd.prog 52 #[(.agg (row .u64 3 (a)).toArray), (.agg (row .u64 3 (b)).toArray)] w fun e w' => ∃ n : Nat → Int, e = .returned (.agg (row .u64 3 (n)).toArray) ∧ (In W 3 n ∧ val W n 3 = val W a 3 + val W b 3) ∧ Below w.heap.size w w' := by
  go_enter Tryd.func52, Tryd.ntmps52
  go_wp2
  go_loopw [5, 7] (fun c i w' => ∃ (k : Nat) (n : Nat → Int) (cv : Int), k ≤ 3 ∧ i = .int .i64 k ∧ c = .int .u64 cv ∧ PInv a b w k n cv w') (fun _ i _ => 3 - (intOf i).toNat)
  case atStart =>
    exact ⟨0, a, 0, by omega, rfl, rfl, ⟨by omega, by omega, ha, fun _ _ => rfl, by simp [val], ((Has.new w _ _ _ _ _ rfl).alloc _ (by simp)).alloc _ (by simp; omega), (Has.new _ _ _ _ _ _ (by simp)).alloc _ (by simp), Has.new _ .u64 3 (fun _ => 0) _ _ (by simp), (((Below.refl _ _).alloc (Nat.le_refl _) _).alloc (by simp) _).alloc (by simp; omega) _⟩⟩
  case round =>
    obtain ⟨k, n, cv, hk, rfl, rfl, hI⟩ := hrel
    by_cases hlt : k < 3
    · have hS := hI.step hb hlt
      have c1 := hI.hn.cell k hlt
      have c2 := hI.hb.cell k hlt
      have f1 := hI.hn.free k hlt
      have b1 := (hI.inn k hlt).1
      have b2 := (hb k hlt).1
      have hadd := add64 (n k) (b k) cv b1 b2 hI.c0 hI.c1
      have g1 : (0 : Int) ≤ (k : Int) := by omega
      have g2 : (k : Int) < 3 := by omega
      clear hI
      generalize aLo (n k) (b k) cv = lo at *
      generalize aHi (n k) (b k) cv = hi at *
      generalize n k = x at *
      generalize b k = y at *
      go_wp2
      go_region
      go_wp2
      go_roundw
      case rel => exact ⟨k + 1, _, _, by omega, by go_num, rfl, hS⟩
      case measure => simp [intOf]; omega
    · obtain rfl : k = 3 := by omega
      have hM := plus_math hI.inn hI.c0 hI.eq hs
      have hn := hI.hn
      have hr := hI.hr
      have HM := show Hid _ from And.intro hI.inn hM
      have hB := below_setAll hI.below (w.heap.size + 1 + 1) (by omega) 0 (row .u64 3 n)
      clear hM hI hs hlt hk
      go_wp2_with (first | (refine wpList_load_mid rfl 81 _ rfl (w.heap.size) 0 rfl (row .u64 3 (n)) _ (Has.range (hn)) Tryd.underlying81 rfl (cnum_info _) ?_) | (refine wpList_store_mid rfl 81 _ _ rfl (w.heap.size + 1 + 1) 0 (row .u64 3 (n)).toArray rfl rfl (cnum_there (hr)) (cnum_info' _) (all_oneCell_toArray (row_one _ _ _)) ?_))
      exact bodyPost_ret (v := (.agg (row .u64 3 (n)).toArray)) (results_row Tryd.results52 rfl (Has.all hr.there .u64 n).range Tryd.underlying81 rfl (cnum_info n)) rfl ⟨n, rfl, HM.out, hB⟩
end Go.Proofs.YteclkiabkdaklaaDoor

namespace Go.Proofs.YteclkiabkdaklaaDoor
open Go.RowKit

theorem shr2 (z : Int) (h : 0 ≤ z ∧ z < 512) : IntKind.u64.wrap (z / 4 * 5) = z / 4 * 5 := by rw [IntKind.wrap_u64]; omega
theorem top2 (z d : Int) (h0 : 0 ≤ d ∧ d ≤ 1) : IntKind.u64.wrap (z % 4 + d) = z % 4 + d := by rw [IntKind.wrap_u64]; omega

set_option maxHeartbeats 2000000 in
theorem cfold_any (n : Nat → Int) (hn : In W 3 n) (hs : n 2 < 512) (w : World) :
    Calls Tryd.prog 51 #[(.agg (row .u64 3 (n)).toArray)] w fun e w' => ∃ m : Nat → Int, e = .returned (.agg (row .u64 3 (m)).toArray) ∧ (Folded m ∧ val W m 3 % Q = val W n 3 % Q) ∧ Below w.heap.size w w' := by
  have h0 := hn 0 (by omega)
  have h1 := hn 1 (by omega)
  have h2 : 0 ≤ n 2 ∧ n 2 < 512 := ⟨(hn 2 (by omega)).1, hs⟩
  have e0 : aLo (n 0) (n 2 / 4 * 5) 0 + W * aHi (n 0) (n 2 / 4 * 5) 0 = n 0 + n 2 / 4 * 5 := by simp only [W]; unfold aLo aHi; omega
  have l0 : 0 ≤ aLo (n 0) (n 2 / 4 * 5) 0 ∧ aLo (n 0) (n 2 / 4 * 5) 0 < W := by simp only [W]; unfold aLo; omega
  have k0 : 0 ≤ aHi (n 0) (n 2 / 4 * 5) 0 ∧ aHi (n 0) (n 2 / 4 * 5) 0 ≤ 1 := by simp only [W] at h0; unfold aHi; omega
  have hadd1 := add64 (n 0) (n 2 / 4 * 5) 0 h0.1 (by omega) (Int.le_refl 0) (by decide)
  generalize aHi (n 0) (n 2 / 4 * 5) 0 = c at *
  generalize aLo (n 0) (n 2 / 4 * 5) 0 = p at *
  have e1 : aLo (n 1) 0 c + W * aHi (n 1) 0 c = n 1 + c := by simp only [W]; unfold aLo aHi; omega
  have l1 : 0 ≤ aLo (n 1) 0 c ∧ aLo (n 1) 0 c < W := by simp only [W]; unfold aLo; omega
  have k1 : 0 ≤ aHi (n 1) 0 c ∧ aHi (n 1) 0 c ≤ 1 := by simp only [W] at h1; unfold aHi; omega
  have hadd2 := add64 (n 1) 0 c h1.1 (Int.le_refl 0) k0.1 k0.2
  generalize aHi (n 1) 0 c = d at *
  generalize aLo (n 1) 0 c = q at *
  have hM := fold_math h0 h1 h2 e0 l0 e1 l1 k1
  rw [← v3] at hM
  have s2 := shr2 (n 2) h2
  have s3 := and3 (n 2) h2.1 (by have := h2.2; simp only [W]; omega)
  have s4 := top2 (n 2) d k1
  have HM := show Hid _ from hM
  have a0 : Has ((w.alloc (.cells (row .u64 3 n).toArray 81)).alloc (.cells #[.int .u64 0, .int .u64 0, .int .u64 0] 81)) w.heap.size .u64 3 n := (Has.new w _ _ _ _ _ rfl).alloc _ (by simp)
  have z0 : Has ((w.alloc (.cells (row .u64 3 n).toArray 81)).alloc (.cells #[.int .u64 0, .int .u64 0, .int .u64 0] 81)) (w.heap.size + 1) .u64 3 (fun _ => 0) := cnum_zero _ _ _ (by simp)
  have g0 : Fr w 2 ((w.alloc (.cells (row .u64 3 n).toArray 81)).alloc (.cells #[.int .u64 0, .int .u64 0, .int .u64 0] 81)) := ((Fr.refl w).alloc _).alloc _
  have a1 := ((a0.set 0 (by omega) p).set 1 (by omega) q).set 2 (by omega) (n 2 % 4 + d)
  have a2 := a1.congr (g := tri p q (n 2 % 4 + d)) (fun j hj => by
    have : j = 0 ∨ j = 1 ∨ j = 2 := by omega
    rcases this with rfl | rfl | rfl <;> rfl)
  have z1 := ((z0.set_other ⟨w.heap.size, 0, none⟩ (.int .u64 p) (by simp)).set_other ⟨w.heap.size, 1, none⟩ (.int .u64 q) (by simp)).set_other ⟨w.heap.size, 2, none⟩ (.int .u64 (n 2 % 4 + d)) (by simp)
  have g1 := ((g0.set ⟨w.heap.size, 0, none⟩ (.int .u64 p) (by simp)).set ⟨w.heap.size, 1, none⟩ (.int .u64 q) (by simp)).set ⟨w.heap.size, 2, none⟩ (.int .u64 (n 2 % 4 + d)) (by simp)
  have hB := (g1.setAll (w.heap.size + 1) (by omega) (row .u64 3 (tri p q (n 2 % 4 + d)))).below
  have c0 := a0.cell 0 (by omega)
  have c1 := a0.cell 1 (by omega)
  have c2 := a0.cell 2 (by omega)
  have f0 := a0.free 0 (by omega)
  have f1 := a0.free 1 (by omega)
  have f2 := a0.free 2 (by omega)
  clear hM a0 z0 g0 g1 a1 e0 l0 k0 e1 l1 k1 h0 h1 h2 hs hn
  generalize n 0 = x at *
  generalize n 1 = y at *
  generalize n 2 = z at *
  go_enter Tryd.func51, Tryd.ntmps51
  go_upto_region 1 with fail
  generalize ((w.alloc (.cells (row .u64 3 n).toArray 81)).alloc (.cells #[.int .u64 0, .int .u64 0, .int .u64 0] 81)) = w1 at *
  go_wp2_with (first | (refine wpList_load_mid rfl 81 _ rfl (w.heap.size) 0 rfl (row .u64 3 (tri p q (z % 4 + d))) _ (Has.range (a2)) Tryd.underlying81 rfl (cnum_info _) ?_) | (refine wpList_store_mid rfl 81 _ _ rfl (w.heap.size + 1) 0 (row .u64 3 (tri p q (z % 4 + d))).toArray rfl rfl (cnum_there (z1)) (cnum_info' _) (all_oneCell_toArray (row_one _ _ _)) ?_))
  exact bodyPost_ret (v := (.agg (row .u64 3 (tri p q (z % 4 + d))).toArray)) (results_row Tryd.results51 rfl (Has.all z1.there .u64 _).range Tryd.underlying81 rfl (cnum_info _)) rfl ⟨_, rfl, HM.out, hB⟩
end Go.Proofs.YteclkiabkdaklaaDoor

namespace Go.Proofs.YteclkiabkdaklaaDoor
open Go.RowKit

/-- The two tables lie where they lie. -/
def keptB : Nat → Int := fun j => if j = 3 ∨ j = 7 ∨ j = 11 ∨ j = 15 then 15 else if j = 4 ∨ j = 8 ∨ j = 12 then 252 else 255
structure Glob (w : World) : Prop where
  modulus : ∀ j, j < 3 → w.cell? ⟨3, j, none⟩ = some (.int .u64 (qW j))
  kept : ∀ j, j < 16 → w.cell? ⟨2, j, none⟩ = some (.int .u8 (keptB j))
  size : 4 ≤ w.heap.size
theorem Glob.below {w w' : World} (h : Glob w) {B : Nat} (l : Below B w w') (hB : 4 ≤ B) : Glob w' :=
  ⟨fun j hj => by rw [l.cell (p := ⟨3, j, none⟩) (Nat.lt_of_lt_of_le (show 3 < 4 by decide) hB)]; exact h.modulus j hj, fun j hj => by rw [l.cell (p := ⟨2, j, none⟩) (Nat.lt_of_lt_of_le (show 2 < 4 by decide) hB)]; exact h.kept j hj, by have := h.size; have := l.size; omega⟩
theorem Glob.fr {w w' : World} {k : Nat} (h : Glob w) (g : Fr w k w') : Glob w' := h.below g.below h.size

structure LInv (n : Nat → Int) (w : World) (k : Nat) (l : Nat → Int) (cv : Int) (w' : World) : Prop where
  c0 : 0 ≤ cv
  c1 : cv ≤ 1
  inn : In W 3 l
  eq : val W l k + val W qW k = val W n k + W ^ k * cv
  hn : Has w' w.heap.size .u64 3 n
  hr : Has w' (w.heap.size + 1) .u64 3 (fun _ => 0)
  hl : Has w' (w.heap.size + 1 + 1) .u64 3 l
  fr : Fr w 3 w'

theorem LInv.step {n : Nat → Int} {w : World} {k : Nat} {l : Nat → Int} {cv : Int} {w' : World} (h : LInv n w k l cv w') (hn : In W 3 n) (hk : k < 3) :
    LInv n w (k + 1) (upd l k (sLo (n k) (qW k) cv)) (sHi (n k) (qW k) cv) ((w'.setCell ⟨w.heap.size + 1 + 1, k, none⟩ (.int .u64 (sLo (n k) (qW k) cv))).drew) := by
  have i1 := hn k hk
  have i2 := qW_in k hk
  have q0 := h.c0; have q1 := h.c1
  simp only [W] at i1 i2
  have l0 : 0 ≤ sLo (n k) (qW k) cv := by unfold sLo; omega
  have l1 : sLo (n k) (qW k) cv < W := by simp only [W]; unfold sLo; omega
  have es : sLo (n k) (qW k) cv + (qW k + cv) = n k + W * sHi (n k) (qW k) cv := by simp only [W]; unfold sLo sHi; split <;> omega
  refine ⟨by unfold sHi; split <;> omega, by unfold sHi; split <;> omega, h.inn.upd k _ l0 l1, ?_, (h.hn.set_other _ _ (by simp; omega)).drew, (h.hr.set_other _ _ (by simp)).drew, (h.hl.set k hk _).drew, (h.fr.set _ _ (by simp; omega)).drew⟩
  simp only [val]
  rw [val_upd _ _ _ _ _ (Nat.le_refl k), upd_same, Int.pow_succ, Int.mul_assoc]
  have e1 : W ^ k * sLo (n k) (qW k) cv + (W ^ k * qW k + W ^ k * cv) = W ^ k * n k + W ^ k * (W * sHi (n k) (qW k) cv) := by
    rw [← Int.mul_add, ← Int.mul_add, es, Int.mul_add]
  have e2 := h.eq
  omega

/-- Behind k rounds of the second loop. -/
structure KInv (n l : Nat → Int) (cv : Int) (w : World) (k : Nat) (m : Nat → Int) (w' : World) : Prop where
  done : ∀ j, j < k → m j = if cv = 1 then n j else l j
  rest : ∀ j, k ≤ j → m j = n j
  hn : Has w' w.heap.size .u64 3 m
  hr : Has w' (w.heap.size + 1) .u64 3 (fun _ => 0)
  hl : Has w' (w.heap.size + 1 + 1) .u64 3 l
  fr : Fr w 3 w'

theorem KInv.step {n l : Nat → Int} {cv : Int} {w : World} {k : Nat} {m : Nat → Int} {w' : World} (h : KInv n l cv w k m w') (hk : k < 3) (r : Int) (hr : (if cv = 1 then m k else l k) = r) :
    KInv n l cv w (k + 1) (upd m k r) ((w'.setCell ⟨w.heap.size, k, none⟩ (.int .u64 r)).drew) := by
  rw [h.rest k (Nat.le_refl k)] at hr
  refine ⟨fun j hj => ?_, fun j hj => ?_, (h.hn.set k hk _).drew, (h.hr.set_other _ _ (by simp)).drew, (h.hl.set_other _ _ (by simp; omega)).drew, (h.fr.set _ _ (by simp)).drew⟩
  · by_cases e : j = k
    · subst e; rw [upd_same]; exact hr.symm
    · rw [upd_other _ _ _ _ e]; exact h.done j (by omega)
  · rw [upd_other _ _ _ _ (by omega)]; exact h.rest j (by omega)
theorem KInv.inn {n l : Nat → Int} {cv : Int} {w : World} {k : Nat} {m : Nat → Int} {w' : World} (h : KInv n l cv w k m w') (hn : In W 3 n) (hl : In W 3 l) : In W 3 m := fun j hj => by
  by_cases e : j < k
  · rw [h.done j e]; split
    · exact hn j hj
    · exact hl j hj
  · rw [h.rest j (by omega)]; exact hn j hj

set_option maxHeartbeats 2000000 in
theorem cleast_any (n : Nat → Int) (hn : In W 3 n) (hf : val W n 3 ≤ FB) (w : World) (hg : Glob w) :
    Calls Tryd.prog 54 #[(.agg (row .u64 3 (n)).toArray)] w fun e w' => ∃ m : Nat → Int, e = .returned (.agg (row .u64 3 (m)).toArray) ∧ (In W 3 m ∧ val W m 3 = val W n 3 % Q) ∧ Below w.heap.size w w' := by
  go_enter Tryd.func54, Tryd.ntmps54
  go_wp2
  go_loopw [4, 7] (fun c i w' => ∃ (k : Nat) (l : Nat → Int) (cv : Int), k ≤ 3 ∧ i = .int .i64 k ∧ c = .int .u64 cv ∧ LInv n w k l cv w') (fun _ i _ => 3 - (intOf i).toNat)
  case atStart =>
    exact ⟨0, fun _ => 0, 0, by omega, rfl, rfl, ⟨by omega, by omega, fun _ _ => ⟨Int.le_refl 0, by decide⟩, by simp [val], ((Has.new w _ _ _ _ _ rfl).alloc _ (by simp)).alloc _ (by simp; omega), (cnum_zero _ _ _ (by simp)).alloc _ (by simp), cnum_zero _ _ _ (by simp), (((Fr.refl w).alloc _).alloc _).alloc _⟩⟩
  case round =>
    obtain ⟨k, l, cv, hk, rfl, rfl, hI⟩ := hrel
    by_cases hlt : k < 3
    · have hS := hI.step hn hlt
      have c1 := hI.hn.cell k hlt
      have c2 := (hg.fr hI.fr).modulus k hlt
      have c3 := hI.hl.cell k hlt
      have f1 := hI.hl.free k hlt
      have b1 := (hn k hlt).1
      have b2 := qW_in k hlt
      have hadd := sub64 (n k) (qW k) cv b1 b2.1 b2.2 hI.c0 hI.c1
      have g1 : (0 : Int) ≤ (k : Int) := by omega
      have g2 : (k : Int) < 3 := by omega
      clear hI b2
      generalize sLo (n k) (qW k) cv = lo at *
      generalize sHi (n k) (qW k) cv = hi at *
      generalize n k = x at *
      generalize qW k = y at *
      generalize l k = z at *
      go_wp2
      go_region
      go_wp2
      go_roundw
      case rel => exact ⟨k + 1, _, _, by omega, by go_num, rfl, hS⟩
      case measure => simp [intOf]; omega
    · obtain rfl : k = 3 := by omega
      have cc : cv = 0 ∨ cv = 1 := by have := hI.c0; have := hI.c1; omega
      go_wp2
      go_loopw [24] (fun i w' => ∃ (k : Nat) (m : Nat → Int), k ≤ 3 ∧ i = .int .i64 k ∧ KInv n l cv w k m w') (fun i _ => 3 - (intOf i).toNat)
      case atStart => exact ⟨0, n, by omega, rfl, ⟨fun j hj => by omega, fun _ _ => rfl, hI.hn, hI.hr, hI.hl, hI.fr⟩⟩
      case round =>
        obtain ⟨k, m, hk2, rfl, hK⟩ := hrel
        by_cases hlt2 : k < 3
        · have hm := hK.inn hn hI.inn k hlt2
          have hl := hI.inn k hlt2
          obtain ⟨r, hr⟩ : ∃ r, (if cv = 1 then m k else l k) = r := ⟨_, rfl⟩
          have HR := show Hid _ from hK.step hlt2 r hr
          have HP := show Hid _ from fun W' => pickw_any cv (l k) (m k) hl.1 hl.2 hm.1 hm.2 cc r hr W'
          have c1 := hK.hn.cell k hlt2
          have c3 := hK.hl.cell k hlt2
          have f1 := hK.hn.free k hlt2
          have g1 : (0 : Int) ≤ (k : Int) := by omega
          have g2 : (k : Int) < 3 := by omega
          clear hI hlt hk cc hm hl hK hr
          generalize m k = x at *
          generalize l k = z at *
          go_wp2
          go_region_with (go_at_call 65; refine (HP.out _).mono ?_; rintro e w' ⟨rfl, rfl⟩)
          all_goals
            go_wp2
            go_roundw
            case rel => first | exact ⟨k + 1, _, by omega, by go_num, HR.out⟩ | ((repeat apply Exists.intro); refine ⟨⟨k + 1, _, by omega, ?_, HR.out⟩, rfl⟩ <;> first | rfl | go_num)
            case measure => simp [intOf]; omega
        · obtain rfl : k = 3 := by omega
          have HM := show Hid _ from least_math hn hI.inn cc hI.eq hK.done hf
          have hn' := hK.hn
          have hr' := hK.hr
          have hB := (hK.fr.setAll (w.heap.size + 1) (by omega) (row .u64 3 m)).below
          clear hK hI hf hn hlt2 hlt hk2 hk cc
          go_wp2_with (first | (refine wpList_load_mid rfl 81 _ rfl (w.heap.size) 0 rfl (row .u64 3 (m)) _ (Has.range (hn')) Tryd.underlying81 rfl (cnum_info _) ?_) | (refine wpList_store_mid rfl 81 _ _ rfl (w.heap.size + 1) 0 (row .u64 3 (m)).toArray rfl rfl (cnum_there (hr')) (cnum_info' _) (all_oneCell_toArray (row_one _ _ _)) ?_))
          exact bodyPost_ret (v := (.agg (row .u64 3 (m)).toArray)) (results_row Tryd.results54 rfl (Has.all hr'.there .u64 m).range Tryd.underlying81 rfl (cnum_info m)) rfl ⟨m, rfl, HM.out, hB⟩
end Go.Proofs.YteclkiabkdaklaaDoor

namespace Go.Proofs.YteclkiabkdaklaaDoor
open Go.RowKit

theorem cwid_info (f : Nat → Int) : (Tryd.prog.info? 88).map (·.size) = some (row .u64 6 f).length := by rw [row_length]; kernel_rfl
theorem mask4 (a : Nat) (ha : a < 2 ^ 64) : a &&& 18446744073709551612 = a - a % 4 := by
  have e1 : (18446744073709551612 : Nat) = (2 ^ 62 - 1) <<< 2 := by decide
  have e2 : a - a % 4 = (a >>> 2) <<< 2 := by rw [Nat.shiftLeft_eq, Nat.shiftRight_eq_div_pow]; omega
  rw [e1, e2]
  refine Nat.eq_of_testBit_eq fun i => ?_
  rw [Nat.testBit_and, Nat.testBit_shiftLeft, Nat.testBit_shiftLeft, Nat.testBit_shiftRight, Nat.testBit_two_pow_sub_one]
  by_cases h : 2 ≤ i
  · rw [show 2 + (i - 2) = i by omega]
    by_cases h2 : i < 64
    · rw [decide_eq_true (show i - 2 < 62 by omega)]; simp [h]
    · rw [Nat.testBit_lt_two_pow (Nat.lt_of_lt_of_le ha (Nat.pow_le_pow_right (by decide) (by omega)))]; simp
  · simp [h]
theorem andnot3 (x : Int) (h0 : 0 ≤ x) (h1 : x < W) : bits BinOp.andNot IntKind.u64 x 3 = x - x % 4 := by
  simp only [W] at h1
  obtain ⟨x, rfl⟩ := Int.eq_ofNat_of_zero_le h0
  have h := mask4 x (by omega)
  rw [show (3 : Int) = ((3 : Nat) : Int) from rfl, u64_andNot_nat x 3 (by omega) (by omega), show (18446744073709551615 - 3 : Nat) = 18446744073709551612 from rfl, h]
  omega
theorem or62 (x y : Int) (hx : 0 ≤ x) (hx' : x < W) (hy : 0 ≤ y) : bits BinOp.or IntKind.u64 (x / 4) (IntKind.u64.wrap (y * 4611686018427387904)) = x / 4 + y % 4 * 4611686018427387904 := by
  have hx2 := hx'
  simp only [W] at hx2
  obtain ⟨x, rfl⟩ := Int.eq_ofNat_of_zero_le hx
  obtain ⟨y, rfl⟩ := Int.eq_ofNat_of_zero_le hy
  have e1 : IntKind.u64.wrap ((y : Int) * 4611686018427387904) = ((2 ^ 62 * (y % 4) : Nat) : Int) := by rw [IntKind.wrap_u64]; omega
  have e2 : (x : Int) / 4 = ((x / 4 : Nat) : Int) := by omega
  have h := Nat.two_pow_add_eq_or_of_lt (i := 62) (b := x / 4) (by omega) (y % 4)
  rw [e1, e2, u64_or_nat (x / 4) (2 ^ 62 * (y % 4)) (by omega) (by omega), Nat.or_comm, ← h]
  omega

set_option maxRecDepth 10000 in
set_option maxHeartbeats 4000000 in
theorem lower_any (d : Nat → Int) (hd : In W 6 d) (hv : val W d 6 ≤ FB * FB) (w : World) :
    Calls Tryd.prog 62 #[(.agg (row .u64 6 (d)).toArray)] w fun e w' => ∃ m : Nat → Int, e = .returned (.agg (row .u64 3 (m)).toArray) ∧ (Folded m ∧ val W m 3 % Q = val W d 6 % Q) ∧ Below w.heap.size w w' := by
  have hL := lower_math hd hv
  have i0 := hd 0 (by omega)
  have i1 := hd 1 (by omega)
  have i2 := hd 2 (by omega)
  have i3 := hd 3 (by omega)
  have i4 := hd 4 (by omega)
  have a2 := and3 (d 2) i2.1 i2.2
  have n2 := andnot3 (d 2) i2.1 i2.2
  have o2 := or62 (d 2) (d 3) i2.1 i2.2 i3.1
  have o3 := or62 (d 3) (d 4) i3.1 i3.2 i4.1
  have HI := show Hid _ from And.intro i0 (And.intro i1 (And.intro i2 (And.intro i3 i4)))
  have HL := show Hid _ from hL
  have K := Kr.init w
  replace K := K.box .u64 6 d 88 w.heap.size rfl
  replace K := K.make 3 #[.int .u64 0, .int .u64 0, .int .u64 0] 81 (w.heap.size + 1) (by simp) (cnum_zero _ _ _ (by simp)).there
  clear hL i0 i1 i2 i3 i4 hd hv
  go_enter Tryd.func62, Tryd.ntmps62
  go_upto_region 1 with fail
  generalize ((w.alloc (.cells (row .u64 6 d).toArray 88)).alloc (.cells #[.int .u64 0, .int .u64 0, .int .u64 0] 81)) = w1 at K ⊢
  have c0 := (K.get _ _ _ _ List.mem_cons_self).cell 0 (by omega)
  have c1 := (K.get _ _ _ _ List.mem_cons_self).cell 1 (by omega)
  have c2 := (K.get _ _ _ _ List.mem_cons_self).cell 2 (by omega)
  have c3 := (K.get _ _ _ _ List.mem_cons_self).cell 3 (by omega)
  have c4 := (K.get _ _ _ _ List.mem_cons_self).cell 4 (by omega)
  have z := cnum_zero w1 81 w1.heap.size rfl
  have s1 := K.size
  go_upto_region 2 with (refine wpList_store_mid rfl 81 _ _ rfl (w1.heap.size) 0 (row .u64 3 (tri (d 0) (d 1) (d 2 % 4))).toArray rfl rfl (cnum_there (z)) (cnum_info' _) (all_oneCell_toArray (row_one _ _ _)) ?_)
  replace K := K.fresh .u64 3 (tri (d 0) (d 1) (d 2 % 4)) #[.int .u64 0, .int .u64 0, .int .u64 0] 81 z.there
  clear c0 c1 c2 c3 c4 z
  generalize ((w1.alloc (.cells #[.int .u64 0, .int .u64 0, .int .u64 0] 81)).setCells w1.heap.size 0 (row .u64 3 (tri (d 0) (d 1) (d 2 % 4)))) = w2 at K ⊢
  generalize w1.heap.size = B1 at *
  clear w1
  have c0 := (K.get _ _ _ _ (List.mem_cons_of_mem _ List.mem_cons_self)).cell 0 (by omega)
  have c1 := (K.get _ _ _ _ (List.mem_cons_of_mem _ List.mem_cons_self)).cell 1 (by omega)
  have c2 := (K.get _ _ _ _ (List.mem_cons_of_mem _ List.mem_cons_self)).cell 2 (by omega)
  have c3 := (K.get _ _ _ _ (List.mem_cons_of_mem _ List.mem_cons_self)).cell 3 (by omega)
  have c4 := (K.get _ _ _ _ (List.mem_cons_of_mem _ List.mem_cons_self)).cell 4 (by omega)
  have z := cnum_zero w2 81 w2.heap.size rfl
  have s2 := K.size
  go_upto_region 3 with (refine wpList_store_mid rfl 81 _ _ rfl (w2.heap.size) 0 (row .u64 3 (tri (d 2 - d 2 % 4) (d 3) (d 4))).toArray rfl rfl (cnum_there (z)) (cnum_info' _) (all_oneCell_toArray (row_one _ _ _)) ?_)
  replace K := K.fresh .u64 3 (tri (d 2 - d 2 % 4) (d 3) (d 4)) #[.int .u64 0, .int .u64 0, .int .u64 0] 81 z.there
  clear c0 c1 c2 c3 c4 z
  generalize ((w2.alloc (.cells #[.int .u64 0, .int .u64 0, .int .u64 0] 81)).setCells w2.heap.size 0 (row .u64 3 (tri (d 2 - d 2 % 4) (d 3) (d 4)))) = w3 at K ⊢
  generalize w2.heap.size = B2 at *
  clear w2
  have c0 := (K.get _ _ _ _ (List.mem_cons_of_mem _ (List.mem_cons_of_mem _ List.mem_cons_self))).cell 0 (by omega)
  have c1 := (K.get _ _ _ _ (List.mem_cons_of_mem _ (List.mem_cons_of_mem _ List.mem_cons_self))).cell 1 (by omega)
  have c2 := (K.get _ _ _ _ (List.mem_cons_of_mem _ (List.mem_cons_of_mem _ List.mem_cons_self))).cell 2 (by omega)
  have c3 := (K.get _ _ _ _ (List.mem_cons_of_mem _ (List.mem_cons_of_mem _ List.mem_cons_self))).cell 3 (by omega)
  have c4 := (K.get _ _ _ _ (List.mem_cons_of_mem _ (List.mem_cons_of_mem _ List.mem_cons_self))).cell 4 (by omega)
  have z := cnum_zero w3 81 w3.heap.size rfl
  have s3 := K.size
  go_upto_region 4 with (refine wpList_store_mid rfl 81 _ _ rfl (w3.heap.size) 0 (row .u64 3 (tri (d 2 / 4 + d 3 % 4 * 4611686018427387904) (d 3 / 4 + d 4 % 4 * 4611686018427387904) (d 4 / 4))).toArray rfl rfl (cnum_there (z)) (cnum_info' _) (all_oneCell_toArray (row_one _ _ _)) ?_)
  replace K := K.fresh .u64 3 (tri (d 2 / 4 + d 3 % 4 * 4611686018427387904) (d 3 / 4 + d 4 % 4 * 4611686018427387904) (d 4 / 4)) #[.int .u64 0, .int .u64 0, .int .u64 0] 81 z.there
  clear c0 c1 c2 c3 c4 z
  generalize ((w3.alloc (.cells #[.int .u64 0, .int .u64 0, .int .u64 0] 81)).setCells w3.heap.size 0 (row .u64 3 (tri (d 2 / 4 + d 3 % 4 * 4611686018427387904) (d 3 / 4 + d 4 % 4 * 4611686018427387904) (d 4 / 4)))) = w4 at K ⊢
  generalize w3.heap.size = B3 at *
  clear w3
  clear a2 n2 o2 o3
  obtain ⟨⟨_, k4, k5⟩, l1, l2, l3, hE⟩ := HL.out
  obtain ⟨i0, i1, i2, i3, i4⟩ := HI.out
  have iA : In W 3 (tri (d 0) (d 1) (d 2 % 4)) := tri_in i0 i1 (by simp only [W]; omega)
  have iB : In W 3 (tri (d 2 - d 2 % 4) (d 3) (d 4)) := tri_in (by simp only [W] at *; omega) i3 (by simp only [W]; omega)
  have iC : In W 3 (tri (d 2 / 4 + d 3 % 4 * 4611686018427387904) (d 3 / 4 + d 4 % 4 * 4611686018427387904) (d 4 / 4)) := tri_in (by simp only [W] at *; omega) (by simp only [W] at *; omega) (by simp only [W]; omega)
  clear HL HI k4 k5 i0 i1 i2 i3 i4
  generalize tri (d 2 / 4 + d 3 % 4 * 4611686018427387904) (d 3 / 4 + d 4 % 4 * 4611686018427387904) (d 4 / 4) = c at *
  generalize tri (d 2 - d 2 % 4) (d 3) (d 4) = b at *
  generalize tri (d 0) (d 1) (d 2 % 4) = a at *
  refine wp_region_held_drew (S := fun w' => Kr w _ [(B3, .u64, 3, c), (B2, .u64, 3, b), (B1, .u64, 3, a), (w.heap.size, .u64, 6, d)] [(w.heap.size + 1, 3)] w') (by kernel_rfl) K.drew ?_
  clear K
  intro K
  refine rowKH (i := 0) (some 40) rfl .u64 3 a B1 0 81 _ _ rfl rfl rfl rfl (by kernel_rfl) (by kernel_rfl) (by kernel_rfl) (fun _ _ _ h => h) Tryd.underlying81 rfl (cnum_info _) K (fun _ h => (h.get _ _ _ _ (List.mem_cons_of_mem _ (List.mem_cons_of_mem _ List.mem_cons_self))).range) ?_
  simp only [Act.put, List.setIfInBounds_toArray, List.set_cons_zero, List.set_cons_succ]
  refine rowKH (i := 1) (some 41) rfl .u64 3 b B2 0 81 _ _ rfl rfl rfl rfl (by kernel_rfl) (by kernel_rfl) (by kernel_rfl) (fun _ _ _ h => h) Tryd.underlying81 rfl (cnum_info _) K (fun _ h => (h.get _ _ _ _ (List.mem_cons_of_mem _ List.mem_cons_self)).range) ?_
  simp only [Act.put, List.setIfInBounds_toArray, List.set_cons_zero, List.set_cons_succ]
  refine rowKH (i := 3) (some 43) rfl .u64 3 c B3 0 81 _ _ rfl rfl rfl rfl (by kernel_rfl) (by kernel_rfl) (by kernel_rfl) (fun _ _ _ h => h) Tryd.underlying81 rfl (cnum_info _) K (fun _ h => (h.get _ _ _ _ List.mem_cons_self).range) ?_
  simp only [Act.put, List.setIfInBounds_toArray, List.set_cons_zero, List.set_cons_succ]
  refine callH (i := 2) (some 42) rfl (by kernel_rfl) rfl rfl (fun _ => by kernel_rfl) (plus_any a b iA iB (by rw [W3]; omega) _) ?_
  rintro e w5 ⟨m1, rfl, t1, l⟩
  replace K := K.call l
  clear l
  refine ⟨_, rfl, K, ?_⟩
  simp only [Act.put, List.setIfInBounds_toArray, List.set_cons_zero, List.set_cons_succ]
  refine callH (i := 4) (some 44) rfl (by kernel_rfl) rfl rfl (fun _ => by kernel_rfl) (plus_any m1 c t1.1 iC (by rw [W3]; omega) _) ?_
  rintro e w6 ⟨m2, rfl, t2, l⟩
  replace K := K.call l
  clear l
  refine ⟨_, rfl, K, ?_⟩
  simp only [Act.put, List.setIfInBounds_toArray, List.set_cons_zero, List.set_cons_succ]
  refine callH (i := 5) (some 45) rfl (by kernel_rfl) rfl rfl (fun _ => by kernel_rfl) (cfold_any m2 t2.1 (by
    have v := v3 m2
    have p0 := t2.1 0 (by omega)
    have p1 := t2.1 1 (by omega)
    have e1 := t1.2
    have e2 := t2.2
    generalize m2 0 = x0 at *
    generalize m2 1 = x1 at *
    generalize m2 2 = x2 at *
    omega) _) ?_
  rintro e w7 ⟨m, rfl, t3, l⟩
  replace K := K.call l
  clear l
  refine ⟨_, rfl, K, ?_⟩
  simp only [Act.put, List.setIfInBounds_toArray, List.set_cons_zero, List.set_cons_succ]
  refine storesH (i := 6) none rfl .u64 3 m (w.heap.size + 1) 81 _ _ (by kernel_rfl) rfl rfl rfl rfl rfl (K.roomy _ _ _ _ List.mem_cons_self) (cnum_info' _) (K.fill _ _ List.mem_cons_self _) ?_
  refine wpAnyH_done (by kernel_rfl) ?_ _
  have HE := show Hid _ from (And.intro t3.1 (show val W m 3 % Q = val W d 6 % Q by rw [t3.2, t2.2, t1.2, hE]))
  have hz := (K.room _ List.mem_cons_self).1
  have hB := (K.fill _ _ List.mem_cons_self (row .u64 3 m)).below
  clear t1 t2 t3 hE K
  go_wp2
  exact bodyPost_ret (v := (.agg (row .u64 3 (m)).toArray)) (results_row Tryd.results62 rfl (Has.all hz .u64 m).range Tryd.underlying81 rfl (cnum_info m)) rfl ⟨m, rfl, HE.out, hB⟩
end Go.Proofs.YteclkiabkdaklaaDoor

namespace Go.Proofs.YteclkiabkdaklaaDoor
open Go.RowKit

theorem val_succ (M : Int) (f : Nat → Int) (n : Nat) : val M f (n + 1) = val M f n + M ^ n * f n := rfl
theorem val_upd_in (M : Int) (f : Nat → Int) (i : Nat) (x : Int) : ∀ n, i < n → val M (upd f i x) n = val M f n + (M ^ i * x - M ^ i * f i)
  | 0, h => by omega
  | n + 1, h => by
    simp only [val]
    by_cases e : i = n
    · subst e; rw [val_upd _ _ _ _ _ (Nat.le_refl i), upd_same]; omega
    · rw [val_upd_in M f i x n (by omega), upd_other _ _ _ _ (by omega)]; omega

/-- Behind k rounds of product's outer loop, and j of its inner one. -/
structure RInv (a b : Nat → Int) (w : World) (k j : Nat) (d : Nat → Int) (cv : Int) (w' : World) : Prop where
  c0 : 0 ≤ cv
  c1 : cv < W
  inn : In W 6 d
  zero : ∀ t, 3 + k ≤ t → d t = 0
  eq : val W d (3 + k) + W ^ (k + j) * cv = val W a k * val W b 3 + W ^ k * a k * val W b j
  ha : Has w' w.heap.size .u64 3 a
  hb : Has w' (w.heap.size + 1) .u64 3 b
  hr : Has w' (w.heap.size + 1 + 1) .u64 3 (fun _ => 0)
  hd : Has w' (w.heap.size + 1 + 1 + 1) .u64 6 d
  fr : Fr w 4 w'

theorem RInv.step {a b : Nat → Int} {w : World} {k j : Nat} {d : Nat → Int} {cv h l : Int} {w' : World} (hI : RInv a b w k j d cv w') (hk : k < 3) (hj : j < 3) (hs : Steps (a k) (b j) (d (k + j)) cv h l) :
    RInv a b w k (j + 1) (upd d (k + j) l) h ((w'.setCell ⟨w.heap.size + 1 + 1 + 1, k + j, none⟩ (.int .u64 l)).drew) := by
  obtain ⟨s0, s1, s2, s3, s4⟩ := hs
  refine ⟨s0, s1, hI.inn.upd _ l s2 s3, fun t ht => ?_, ?_, (hI.ha.set_other _ _ (by simp; omega)).drew, (hI.hb.set_other _ _ (by simp; omega)).drew, (hI.hr.set_other _ _ (by simp)).drew, (hI.hd.set _ (by omega) _).drew, (hI.fr.set _ _ (by simp; omega)).drew⟩
  · rw [upd_other _ _ _ _ (by omega)]; exact hI.zero t ht
  · rw [val_upd_in _ _ _ _ _ (by omega), val_succ W b j]
    have e0 : W ^ (k + (j + 1)) * h = W ^ (k + j) * (h * W) := by rw [← Nat.add_assoc, Int.pow_succ, Int.mul_assoc, Int.mul_comm W h]
    have e1 : W ^ (k + j) * (h * W) + W ^ (k + j) * l = W ^ (k + j) * (a k * b j) + W ^ (k + j) * d (k + j) + W ^ (k + j) * cv := by
      rw [← Int.mul_add, ← Int.mul_add, ← Int.mul_add, s4]
    have e2 := hI.eq
    have e3 : W ^ k * a k * (W ^ j * b j) = W ^ (k + j) * (a k * b j) := by rw [Int.pow_add, Int.mul_assoc, Int.mul_left_comm (a k), ← Int.mul_assoc]
    rw [Int.mul_add (W ^ k * a k), e3, e0]
    omega

theorem RInv.next {a b : Nat → Int} {w : World} {k : Nat} {d : Nat → Int} {cv : Int} {w' : World} (hI : RInv a b w k 3 d cv w') (hk : k < 3) :
    RInv a b w (k + 1) 0 (upd d (k + 3) cv) 0 (w'.setCell ⟨w.heap.size + 1 + 1 + 1, k + 3, none⟩ (.int .u64 cv)) := by
  refine ⟨Int.le_refl 0, by decide, hI.inn.upd _ cv hI.c0 hI.c1, fun t ht => ?_, ?_, hI.ha.set_other _ _ (by simp; omega), hI.hb.set_other _ _ (by simp; omega), hI.hr.set_other _ _ (by simp), hI.hd.set _ (by omega) _, hI.fr.set _ _ (by simp; omega)⟩
  · rw [upd_other _ _ _ _ (by omega)]; exact hI.zero t (by omega)
  · have e : 3 + (k + 1) = (k + 3) + 1 := by omega
    have e2 := hI.eq
    rw [Nat.add_comm 3 k] at e2
    rw [e, val_succ W _ (k + 3), val_upd _ _ _ _ _ (Nat.le_refl _), upd_same, val_succ W a k, Int.add_mul, e2, Int.mul_zero, show val W b 0 = 0 from rfl, Int.mul_zero]

theorem cwid_zero (w : World) (t : TypeId) (b : Nat) (hb : b = w.heap.size) : Has (w.alloc (.cells #[.int .u64 0, .int .u64 0, .int .u64 0, .int .u64 0, .int .u64 0, .int .u64 0] t)) b .u64 6 (fun _ => 0) := Has.new w .u64 6 (fun _ => 0) t b hb
theorem val_zero (M : Int) : ∀ n, val M (fun _ => 0) n = 0
  | 0 => rfl
  | n + 1 => by simp [val, val_zero M n]

set_option maxHeartbeats 4000000 in
theorem cproduct_any (a b : Nat → Int) (ha : In W 3 a) (hb : In W 3 b) (fa : val W a 3 ≤ FB) (fb : val W b 3 ≤ FB) (w : World) :
    Calls Tryd.prog 49 #[(.agg (row .u64 3 (a)).toArray), (.agg (row .u64 3 (b)).toArray)] w fun e w' => ∃ m : Nat → Int, e = .returned (.agg (row .u64 3 (m)).toArray) ∧ (Folded m ∧ val W m 3 % Q = (val W a 3 * val W b 3) % Q) ∧ Below w.heap.size w w' := by
  go_enter Tryd.func49, Tryd.ntmps49
  go_wp2
  go_loopw [9] (fun i w' => ∃ (k : Nat) (d : Nat → Int), k ≤ 3 ∧ i = .int .i64 k ∧ RInv a b w k 0 d 0 w') (fun i _ => 3 - (intOf i).toNat)
  case atStart =>
    exact ⟨0, fun _ => 0, by omega, rfl, ⟨by omega, by decide, fun _ _ => ⟨Int.le_refl 0, by decide⟩, fun _ _ => rfl, by simp [val], (((Has.new w _ _ _ _ _ rfl).alloc _ (by simp)).alloc _ (by simp; omega)).alloc _ (by simp; omega), ((Has.new _ _ _ _ _ _ (by simp)).alloc _ (by simp)).alloc _ (by simp), (cnum_zero _ _ _ (by simp)).alloc _ (by simp), cwid_zero _ _ _ (by simp), ((((Fr.refl w).alloc _).alloc _).alloc _).alloc _⟩⟩
  case round =>
    obtain ⟨k, d0, hk, rfl, hO⟩ := hrel
    by_cases hlt : k < 3
    · obtain ⟨wo, rfl⟩ : ∃ wo : World, wo = wr := ⟨_, rfl⟩
      have g1 : (0 : Int) ≤ (k : Int) := by omega
      have g2 : (k : Int) < 3 := by omega
      go_wp2
      go_loopw [7, 12] (fun c i w' => ∃ (j : Nat) (d : Nat → Int) (cv : Int), j ≤ 3 ∧ i = .int .i64 j ∧ c = .int .u64 cv ∧ RInv a b w k j d cv w') (fun _ i _ => 3 - (intOf i).toNat)
      case atStart => exact ⟨0, d0, 0, by omega, rfl, rfl, hO⟩
      case round =>
        obtain ⟨j, d, cv, hj, rfl, rfl, hI⟩ := hrel
        clear hO
        by_cases hlt2 : j < 3
        · have c1 := hI.ha.cell k hlt
          have c2 := hI.hb.cell j hlt2
          have c3 := hI.hd.cell (k + j) (by omega)
          have f1 := hI.hd.free (k + j) (by omega)
          have g3 : (0 : Int) ≤ (j : Int) := by omega
          have g4 : (j : Int) < 3 := by omega
          have g5 : (0 : Int) ≤ (k : Int) + (j : Int) := by omega
          have g6 : (k : Int) + (j : Int) < 6 := by omega
          have g7 : ((k : Int) + (j : Int)).toNat = k + j := by omega
          have g8 : IntKind.i64.wrap ((k : Int) + (j : Int)) = (k : Int) + (j : Int) := by rw [IntKind.wrap_i64]; omega
          have HS := show Hid _ from fun (h l : Int) (hs : Steps (a k) (b j) (d (k + j)) cv h l) => hI.step hlt hlt2 hs
          have HC := show Hid _ from fun W' => step_any (a k) (b j) (d (k + j)) cv (ha k hlt).1 (ha k hlt).2 (hb j hlt2).1 (hb j hlt2).2 (hI.inn (k + j) (by omega)).1 (hI.inn (k + j) (by omega)).2 hI.c0 hI.c1 W'
          clear hI
          generalize a k = x at *
          generalize b j = y at *
          generalize d (k + j) = z at *
          go_wp2
          go_region_with (go_at_call 61; refine (HC.out _).mono ?_; rintro e w' ⟨h, l, rfl, hs, rfl⟩)
          all_goals
            go_wp2
            go_roundw
            case rel => first | exact ⟨j + 1, _, _, by omega, by go_num, rfl, HS.out h l hs⟩ | ((repeat apply Exists.intro); refine ⟨⟨j + 1, _, _, by omega, ?_, ?_, HS.out h l hs⟩, rfl⟩ <;> first | rfl | go_num)
            case measure => simp [intOf]; omega
        · obtain rfl : j = 3 := by omega
          have hS := hI.next hlt
          have c3 := hI.hd.cell (k + 3) (by omega)
          have f1 := hI.hd.free (k + 3) (by omega)
          have g6 : ((k : Int) + 3).toNat = k + 3 := by omega
          clear hI
          generalize d (k + 3) = z at *
          go_wp2
          go_roundw
          case rel => exact ⟨k + 1, _, by omega, by go_num, hS⟩
          case measure => simp [intOf]; omega
    · obtain rfl : k = 3 := by omega
      have hd := hO.hd
      have hz := hO.hr
      have he : val W d0 6 = val W a 3 * val W b 3 := by
        have e := hO.eq
        rw [Int.mul_zero, show val W b 0 = 0 from rfl, Int.mul_zero, Int.add_zero, Int.add_zero] at e
        exact e
      go_wp2_with (refine wpList_load_mid rfl 88 _ rfl (w.heap.size + 1 + 1 + 1) 0 rfl (row .u64 6 (d0)) _ (Has.range (hd)) Tryd.underlying88 rfl (cwid_info _) ?_)
      refine (lower_any d0 hO.inn (by rw [he]; exact mul_FB fa (val_in W (by decide) b 3 hb).1 fb) _).mono ?_
      rintro e w1 ⟨m, rfl, s1, l1⟩
      have hz1 := hz.call hO.fr l1 (by omega)
      have hm : val W m 3 % Q = (val W a 3 * val W b 3) % Q := by rw [s1.2, he]
      have HM := show Hid _ from hm
      clear he hm
      go_wp2_with (refine wpList_store_mid rfl 81 _ _ rfl (w.heap.size + 1 + 1) 0 (row .u64 3 (m)).toArray rfl rfl (cnum_there (hz1)) (cnum_info' _) (all_oneCell_toArray (row_one _ _ _)) ?_)
      exact bodyPost_ret (v := (.agg (row .u64 3 (m)).toArray)) (results_row Tryd.results49 rfl (Has.all hz1.there .u64 m).range Tryd.underlying81 rfl (cnum_info m)) rfl ⟨m, rfl, ⟨s1.1, HM.out⟩, ((hO.fr.call l1).setAll _ (by omega) _).below⟩
end Go.Proofs.YteclkiabkdaklaaDoor

namespace Go.Proofs.YteclkiabkdaklaaDoor
open Go.RowKit

theorem big_info (f : Nat → Int) : (Tryd.prog.info? 63).map (·.size) = some (row .u8 17 f).length := by rw [row_length]; kernel_rfl
theorem big_info' (f : Nat → Int) : (Tryd.prog.info? 63).map (·.size) = some (row .u8 17 f).toArray.size := by rw [List.size_toArray]; exact big_info f
theorem big_there {w : World} {b : Nat} {f g : Nat → Int} (h : Has w b .u8 17 f) : w.there b 0 (row .u8 17 g).toArray.size := by rw [List.size_toArray, row_length]; exact h.there
theorem big_zero (w : World) (t : TypeId) (b : Nat) (hb : b = w.heap.size) : Has (w.alloc (.cells #[.int .u8 0, .int .u8 0, .int .u8 0, .int .u8 0, .int .u8 0, .int .u8 0, .int .u8 0, .int .u8 0, .int .u8 0, .int .u8 0, .int .u8 0, .int .u8 0, .int .u8 0, .int .u8 0, .int .u8 0, .int .u8 0, .int .u8 0] t)) b .u8 17 (fun _ => 0) := Has.new w .u8 17 (fun _ => 0) t b hb
theorem big_val (f : Nat → Int) : val 256 f 17 = val 256 f 8 + 18446744073709551616 * val 256 (fun j => f (8 + j)) 8 + 340282366920938463463374607431768211456 * f 16 := by
  have e1 : val 256 f 17 = val 256 f 16 + 256 ^ 16 * f 16 := rfl
  have e2 := val_split 256 f 8 8
  rw [show (8 + 8 : Nat) = 16 from rfl] at e2
  rw [e1, e2, show (256 : Int) ^ 8 = 18446744073709551616 from by decide, show (256 : Int) ^ 16 = 340282366920938463463374607431768211456 from by decide]

theorem words_in (a : Nat → Int) (ha : In 256 17 a) (o : Nat) (ho : o + 8 ≤ 17) : 0 ≤ val 256 (fun j => a (o + j)) 8 ∧ val 256 (fun j => a (o + j)) 8 < W :=
  val_in 256 (by decide) (fun j => a (o + j)) 8 (fun j hj => ha (o + j) (by omega))
theorem wrap_byte (x : Int) (h : 0 ≤ x ∧ x < 256) : IntKind.u64.wrap x = x := by rw [IntKind.wrap_u64]; omega

set_option maxHeartbeats 2000000 in
theorem split_any (a : Nat → Int) (ha : In 256 17 a) (w : World) :
    Calls Tryd.prog 55 #[(.agg (row .u8 17 (a)).toArray)] w fun e w' => ∃ n : Nat → Int, e = .returned (.agg (row .u64 3 (n)).toArray) ∧ (In W 3 n ∧ n 2 < 256 ∧ val W n 3 = val 256 a 17) ∧ Below w.heap.size w w' := by
  have K := Kr.init w
  replace K := K.box .u8 17 a 63 w.heap.size rfl
  replace K := K.make 3 #[.int .u64 0, .int .u64 0, .int .u64 0] 81 (w.heap.size + 1) (by simp) (cnum_zero _ _ _ (by simp)).there
  go_enter Tryd.func55, Tryd.ntmps55
  go_upto_region 1 with fail
  refine wp_region_held_drew (S := fun w' => Kr w _ [(w.heap.size, .u8, 17, a)] [(w.heap.size + 1, 3)] w') (by kernel_rfl) K.drew ?_
  clear K
  intro K
  refine pureH (i := 0) (some 3) rfl (.slice (some ⟨w.heap.size, 0, none⟩) 8 17) rfl rfl (fun _ => by kernel_rfl) (by kernel_rfl) (by kernel_rfl) (by kernel_rfl) (fun _ _ _ h => h) K ?_
  simp only [Act.put, List.setIfInBounds_toArray, List.set_cons_zero, List.set_cons_succ]
  refine pureH (i := 2) (some 5) rfl (.slice (some ⟨w.heap.size, 8, none⟩) 8 9) rfl rfl (fun _ => by kernel_rfl) (by kernel_rfl) (by kernel_rfl) (by kernel_rfl) (fun _ _ _ h => h) K ?_
  simp only [Act.put, List.setIfInBounds_toArray, List.set_cons_zero, List.set_cons_succ]
  refine pureH (i := 4) (some 7) rfl (.pointer (some ⟨w.heap.size, 16, none⟩)) rfl rfl (fun _ => by kernel_rfl) (by kernel_rfl) (by kernel_rfl) (by kernel_rfl) (fun _ _ _ h => h) K ?_
  simp only [Act.put, List.setIfInBounds_toArray, List.set_cons_zero, List.set_cons_succ]
  refine cellH (i := 5) (some 8) rfl .u8 (.int .u8 (a 16)) w.heap.size 16 5 _ rfl rfl rfl rfl (by kernel_rfl) (by kernel_rfl) (by kernel_rfl) (fun _ _ _ h => h) Tryd.underlying5 K (fun _ h => (h.get _ _ _ _ List.mem_cons_self).cell 16 (by omega)) ?_
  simp only [Act.put, List.setIfInBounds_toArray, List.set_cons_zero, List.set_cons_succ]
  refine pureH (i := 6) (some 9) rfl (.int .u64 (IntKind.u64.wrap (a 16))) rfl rfl (fun _ => by kernel_rfl) (by kernel_rfl) (by kernel_rfl) (by kernel_rfl) (fun _ _ _ h => h) K ?_
  simp only [Act.put, List.setIfInBounds_toArray, List.set_cons_zero, List.set_cons_succ]
  rw [wrap_byte (a 16) (ha 16 (by omega))]
  refine callH (i := 1) (some 4) rfl (by kernel_rfl) rfl rfl (fun _ => by kernel_rfl) (of_any w.heap.size 0 17 17 a (by omega) ha _ (K.get _ _ _ _ List.mem_cons_self)) ?_
  rintro e w1 ⟨rfl, l⟩
  replace K := K.call l
  clear l
  refine ⟨_, rfl, K, ?_⟩
  simp only [Act.put, List.setIfInBounds_toArray, List.set_cons_zero, List.set_cons_succ]
  refine callH (i := 3) (some 6) rfl (by kernel_rfl) rfl rfl (fun _ => by kernel_rfl) (of_any w.heap.size 8 17 9 a (by omega) ha _ (K.get _ _ _ _ List.mem_cons_self)) ?_
  rintro e w2 ⟨rfl, l⟩
  replace K := K.call l
  clear l
  refine ⟨_, rfl, K, ?_⟩
  simp only [Act.put, List.setIfInBounds_toArray, List.set_cons_zero, List.set_cons_succ]
  have i0 := words_in a ha 0 (by omega)
  have i1 := words_in a ha 8 (by omega)
  have i2 := ha 16 (by omega)
  have hv := big_val a
  have e0 : val 256 (fun j => a (0 + j)) 8 = val 256 a 8 := val_congr 256 8 fun j _ => by rw [Nat.zero_add]
  rw [e0] at i0 ⊢
  generalize val 256 a 8 = x at *
  generalize val 256 (fun j => a (8 + j)) 8 = y at *
  generalize a 16 = z at *
  have HE := show Hid (In W 3 (tri x y z) ∧ tri x y z 2 < 256 ∧ val W (tri x y z) 3 = val 256 a 17) from ⟨tri_in i0 i1 (by simp only [W]; omega), i2.2, by rw [tri_val, hv]⟩
  clear i0 i1 i2 hv e0
  refine pureH (i := 7) (some 10) rfl (.agg (row .u64 3 (tri x y z)).toArray) rfl rfl (fun _ => by kernel_rfl) (by kernel_rfl) (by kernel_rfl) (by kernel_rfl) (fun _ _ _ h => h) K ?_
  simp only [Act.put, List.setIfInBounds_toArray, List.set_cons_zero, List.set_cons_succ]
  refine storesH (i := 8) none rfl .u64 3 (tri x y z) (w.heap.size + 1) 81 _ _ (by kernel_rfl) rfl rfl rfl rfl rfl (K.roomy _ _ _ _ List.mem_cons_self) (cnum_info' _) (K.fill _ _ List.mem_cons_self _) ?_
  refine wpAnyH_done (by kernel_rfl) ?_ _
  have hz := (K.room _ List.mem_cons_self).1
  have hB := (K.fill _ _ List.mem_cons_self (row .u64 3 (tri x y z))).below
  clear K
  go_wp2
  exact bodyPost_ret (v := (.agg (row .u64 3 (tri x y z)).toArray)) (results_row Tryd.results55 rfl (Has.all hz .u64 _).range Tryd.underlying81 rfl (cnum_info _)) rfl ⟨_, rfl, HE.out, hB⟩

/-- The bytes that join writes. -/
def joinB (n : Nat → Int) : Nat → Int := upd (over (over (fun _ => 0) 0 8 (byt (n 0))) 8 8 (byt (n 1))) 16 (n 2 % 256)
theorem joinB_in (n : Nat → Int) : In 256 17 (joinB n) := (over_in (over_in (fun _ _ => ⟨Int.le_refl 0, (by decide : (0 : Int) < 256)⟩) (byt_in _)) (byt_in _)).upd 16 _ (by omega) (by omega)
theorem joinB_val (n : Nat → Int) (hn : In W 3 n) : val 256 (joinB n) 17 = val W n 3 % 87112285931760246646623899502532662132736 := by
  have h0 := hn 0 (by omega)
  have h1 := hn 1 (by omega)
  have h2 := hn 2 (by omega)
  have b0 := val_byt (n 0) h0.1 h0.2
  have b1 := val_byt (n 1) h1.1 h1.2
  have e0 : val 256 (joinB n) 8 = n 0 := by
    rw [← b0]
    refine val_congr 256 8 fun j hj => ?_
    unfold joinB
    rw [upd_other _ _ _ _ (by omega)]
    unfold over
    rw [if_neg (by omega), if_pos (by omega), Nat.sub_zero]
  have e1 : val 256 (fun j => joinB n (8 + j)) 8 = n 1 := by
    rw [← b1]
    refine val_congr 256 8 fun j hj => ?_
    unfold joinB
    rw [upd_other _ _ _ _ (by omega)]
    unfold over
    rw [if_pos (by omega), Nat.add_sub_cancel_left]
  have e2 : joinB n 16 = n 2 % 256 := by unfold joinB; rw [upd_same]
  rw [big_val, e0, e1, e2, v3]
  simp only [W] at *
  omega

set_option maxRecDepth 10000 in
set_option maxHeartbeats 2000000 in
theorem join_any (n : Nat → Int) (w : World) :
    Calls Tryd.prog 56 #[(.agg (row .u64 3 (n)).toArray)] w fun e w' => e = .returned (.agg (row .u8 17 (joinB n)).toArray) ∧ Below w.heap.size w w' := by
  have K := Kr.init w
  replace K := K.box .u64 3 n 81 w.heap.size rfl
  replace K := K.make 17 #[.int .u8 0, .int .u8 0, .int .u8 0, .int .u8 0, .int .u8 0, .int .u8 0, .int .u8 0, .int .u8 0, .int .u8 0, .int .u8 0, .int .u8 0, .int .u8 0, .int .u8 0, .int .u8 0, .int .u8 0, .int .u8 0, .int .u8 0] 63 (w.heap.size + 1) (by simp) (big_zero _ _ _ (by simp)).there
  go_enter Tryd.func56, Tryd.ntmps56
  go_upto_region 1 with fail
  generalize ((w.alloc (.cells (row .u64 3 n).toArray 81)).alloc (.cells #[.int .u8 0, .int .u8 0, .int .u8 0, .int .u8 0, .int .u8 0, .int .u8 0, .int .u8 0, .int .u8 0, .int .u8 0, .int .u8 0, .int .u8 0, .int .u8 0, .int .u8 0, .int .u8 0, .int .u8 0, .int .u8 0, .int .u8 0] 63)) = w1 at K ⊢
  have s1 := K.size
  have H := big_zero w1 63 w1.heap.size rfl
  replace K := K.make 17 #[.int .u8 0, .int .u8 0, .int .u8 0, .int .u8 0, .int .u8 0, .int .u8 0, .int .u8 0, .int .u8 0, .int .u8 0, .int .u8 0, .int .u8 0, .int .u8 0, .int .u8 0, .int .u8 0, .int .u8 0, .int .u8 0, .int .u8 0] 63 w1.heap.size rfl H.there
  go_upto_region 2 with fail
  generalize w1.alloc (.cells #[.int .u8 0, .int .u8 0, .int .u8 0, .int .u8 0, .int .u8 0, .int .u8 0, .int .u8 0, .int .u8 0, .int .u8 0, .int .u8 0, .int .u8 0, .int .u8 0, .int .u8 0, .int .u8 0, .int .u8 0, .int .u8 0, .int .u8 0] 63) = w2 at K H ⊢
  generalize w1.heap.size = O at *
  clear w1
  refine wp_region_held_drew (S := fun w' => Kr w _ [(w.heap.size, .u64, 3, n)] [(O, 17), (w.heap.size + 1, 17)] w') (by kernel_rfl) K.drew ?_
  clear K
  intro K
  replace H := H.drew
  refine pureH (i := 0) (some 4) rfl (.slice (some ⟨O, 0, none⟩) 8 17) rfl rfl (fun _ => by kernel_rfl) (by kernel_rfl) (by kernel_rfl) (by kernel_rfl) (fun _ _ _ h => h) K ?_
  simp only [Act.put, List.setIfInBounds_toArray, List.set_cons_zero, List.set_cons_succ]
  refine pureH (i := 1) (some 5) rfl (.pointer (some ⟨w.heap.size, 0, none⟩)) rfl rfl (fun _ => by kernel_rfl) (by kernel_rfl) (by kernel_rfl) (by kernel_rfl) (fun _ _ _ h => h) K ?_
  simp only [Act.put, List.setIfInBounds_toArray, List.set_cons_zero, List.set_cons_succ]
  refine cellH (i := 2) (some 6) rfl .u64 (.int .u64 (n 0)) w.heap.size 0 46 _ rfl rfl rfl rfl (by kernel_rfl) (by kernel_rfl) (by kernel_rfl) (fun _ _ _ h => h) Tryd.underlying46 K (fun _ h => (h.get _ _ _ _ List.mem_cons_self).cell 0 (by omega)) ?_
  simp only [Act.put, List.setIfInBounds_toArray, List.set_cons_zero, List.set_cons_succ]
  refine callH (i := 3) (some 7) rfl (by kernel_rfl) rfl rfl (fun _ => by kernel_rfl) (put_any O 0 17 17 _ (n 0) (by omega) _ H) ?_
  rintro e w' ⟨rfl, rfl⟩
  replace K := K.poke O 17 List.mem_cons_self 0 (row .u8 8 (byt (n 0)))
  replace H := H.part 0 8 (by omega) (byt (n 0))
  refine ⟨_, rfl, K, ?_⟩
  simp only [Act.put, List.setIfInBounds_toArray, List.set_cons_zero, List.set_cons_succ]
  refine wpAnyH_done (by kernel_rfl) ?_ _
  generalize (w2.drew.setCells O 0 (row .u8 8 (byt (n 0)))) = w3 at K H ⊢
  go_upto_region 3 with fail
  refine wp_region_held_drew (S := fun w' => Kr w _ [(w.heap.size, .u64, 3, n)] [(O, 17), (w.heap.size + 1, 17)] w') (by kernel_rfl) K.drew ?_
  clear K
  intro K
  replace H := H.drew
  refine pureH (i := 0) (some 8) rfl (.slice (some ⟨O, 8, none⟩) 8 9) rfl rfl (fun _ => by kernel_rfl) (by kernel_rfl) (by kernel_rfl) (by kernel_rfl) (fun _ _ _ h => h) K ?_
  simp only [Act.put, List.setIfInBounds_toArray, List.set_cons_zero, List.set_cons_succ]
  refine pureH (i := 1) (some 9) rfl (.pointer (some ⟨w.heap.size, 1, none⟩)) rfl rfl (fun _ => by kernel_rfl) (by kernel_rfl) (by kernel_rfl) (by kernel_rfl) (fun _ _ _ h => h) K ?_
  simp only [Act.put, List.setIfInBounds_toArray, List.set_cons_zero, List.set_cons_succ]
  refine cellH (i := 2) (some 10) rfl .u64 (.int .u64 (n 1)) w.heap.size 1 46 _ rfl rfl rfl rfl (by kernel_rfl) (by kernel_rfl) (by kernel_rfl) (fun _ _ _ h => h) Tryd.underlying46 K (fun _ h => (h.get _ _ _ _ List.mem_cons_self).cell 1 (by omega)) ?_
  simp only [Act.put, List.setIfInBounds_toArray, List.set_cons_zero, List.set_cons_succ]
  refine callH (i := 3) (some 11) rfl (by kernel_rfl) rfl rfl (fun _ => by kernel_rfl) (put_any O 8 17 9 _ (n 1) (by omega) _ H) ?_
  rintro e w' ⟨rfl, rfl⟩
  replace K := K.poke O 17 List.mem_cons_self 8 (row .u8 8 (byt (n 1)))
  replace H := H.part 8 8 (by omega) (byt (n 1))
  refine ⟨_, rfl, K, ?_⟩
  simp only [Act.put, List.setIfInBounds_toArray, List.set_cons_zero, List.set_cons_succ]
  refine wpAnyH_done (by kernel_rfl) ?_ _
  generalize (w3.drew.setCells O 8 (row .u8 8 (byt (n 1)))) = w4 at K H ⊢
  go_upto_region 4 with fail
  have c2 := (K.get _ _ _ _ List.mem_cons_self).cell 2 (by omega)
  have d2 := H.cell 16 (by omega)
  have f2 := H.free 16 (by omega)
  have H2 := H.set 16 (by omega) (n 2 % 256)
  replace K := K.poke O 17 List.mem_cons_self 16 [.int .u8 (n 2 % 256)]
  have K2 : Kr w _ [(w.heap.size, .u64, 3, n)] [(O, 17), (w.heap.size + 1, 17)] (w4.setCell ⟨O, 16, none⟩ (.int .u8 (n 2 % 256))) := K
  clear K H
  go_upto_region 5 with fail
  have H : Has (w4.setCell ⟨O, 16, none⟩ (.int .u8 (n 2 % 256))) O .u8 17 (joinB n) := H2
  clear H2
  generalize w4.setCell ⟨O, 16, none⟩ (.int .u8 (n 2 % 256)) = w5 at K2 H ⊢
  clear c2 d2 f2
  have hz := (K2.room _ (List.mem_cons_of_mem _ List.mem_cons_self)).1
  have hB := (K2.fill _ _ (List.mem_cons_of_mem _ List.mem_cons_self) (row .u8 17 (joinB n))).below
  clear K2
  generalize hf : joinB n = f at *
  go_wp2_with (first | (refine wpList_load_mid rfl 63 _ rfl (O) 0 rfl (row .u8 17 (f)) _ (Has.range (H)) Tryd.underlying63 rfl (big_info _) ?_) | (refine wpList_store_mid rfl 63 _ _ rfl (w.heap.size + 1) 0 (row .u8 17 f).toArray rfl rfl (room_of hz) (big_info' _) (all_oneCell_toArray (row_one _ _ _)) ?_))
  exact bodyPost_ret (v := (.agg (row .u8 17 (f)).toArray)) (results_row Tryd.results56 rfl (Has.all hz .u8 f).range Tryd.underlying63 rfl (big_info f)) rfl ⟨rfl, hB⟩
end Go.Proofs.YteclkiabkdaklaaDoor

namespace Go.Proofs.YteclkiabkdaklaaDoor
open Go.RowKit

set_option maxHeartbeats 2000000 in
theorem cload_any (a : Nat → Int) (ha : In 256 17 a) (w : World) :
    Calls Tryd.prog 50 #[(.agg (row .u8 17 (a)).toArray)] w fun e w' => ∃ m : Nat → Int, e = .returned (.agg (row .u64 3 (m)).toArray) ∧ (Folded m ∧ val W m 3 % Q = val 256 a 17 % Q) ∧ Below w.heap.size w w' := by
  have K := Kr.init w
  replace K := K.box .u8 17 a 63 (w.heap.size) rfl
  replace K := K.make 3 #[.int .u64 0, .int .u64 0, .int .u64 0] 81 (w.heap.size + 1) (by simp) (cnum_zero _ _ _ (by simp)).there
  go_enter Tryd.func50, Tryd.ntmps50
  go_upto_region 1 with fail
  refine wp_region_list ?_
  refine rowKL .u8 17 (a) (w.heap.size) 0 63 _ _ rfl rfl rfl Tryd.underlying63 rfl (big_info _) (K.get _ _ _ _ List.mem_cons_self).range ?_
  simp only [Act.put, List.setIfInBounds_toArray, List.set_cons_zero, List.set_cons_succ]
  refine callL rfl (fun _ => by kernel_rfl) (split_any a ha _) ?_
  rintro e w1 ⟨m1, rfl, s1, l⟩
  replace K := K.call l
  clear l
  refine ⟨_, rfl, ?_⟩
  simp only [Act.put, List.setIfInBounds_toArray, List.set_cons_zero, List.set_cons_succ]
  refine callL rfl (fun _ => by kernel_rfl) (cfold_any m1 s1.1 (by have := s1.2.1; omega) _) ?_
  rintro e w2 ⟨m, rfl, s2, l⟩
  replace K := K.call l
  clear l
  refine ⟨_, rfl, ?_⟩
  simp only [Act.put, List.setIfInBounds_toArray, List.set_cons_zero, List.set_cons_succ]
  refine storesL .u64 3 m (w.heap.size + 1) 81 _ _ rfl rfl rfl rfl (K.roomy _ _ _ _ List.mem_cons_self) (cnum_info' _) ?_
  simp only [Act.put]
  have HE := show Hid _ from (And.intro s2.1 (show val W m 3 % Q = val 256 a 17 % Q by rw [s2.2, s1.2.2]))
  have hz := (K.room _ List.mem_cons_self).1
  have hB := (K.fill _ _ List.mem_cons_self (row .u64 3 m)).below
  clear K s1 s2
  show Exit.then _ _ _ _ _
  go_wp2
  exact bodyPost_ret (v := (.agg (row .u64 3 (m)).toArray)) (results_row Tryd.results50 rfl (Has.all hz .u64 m).range Tryd.underlying81 rfl (cnum_info m)) rfl ⟨m, rfl, HE.out, hB⟩

theorem small136 (x : Int) : x % Q % 87112285931760246646623899502532662132736 = x % Q := by simp only [Q]; omega

set_option maxHeartbeats 2000000 in
theorem csave_any (n : Nat → Int) (hn : Folded n) (w : World) (hg : Glob w) :
    Calls Tryd.prog 48 #[(.agg (row .u64 3 (n)).toArray)] w fun e w' => ∃ f : Nat → Int, e = .returned (.agg (row .u8 17 (f)).toArray) ∧ (In 256 17 f ∧ val 256 f 17 = val W n 3 % Q) ∧ Below w.heap.size w w' := by
  have K := Kr.init w
  replace K := K.box .u64 3 n 81 (w.heap.size) rfl
  replace K := K.make 17 #[.int .u8 0, .int .u8 0, .int .u8 0, .int .u8 0, .int .u8 0, .int .u8 0, .int .u8 0, .int .u8 0, .int .u8 0, .int .u8 0, .int .u8 0, .int .u8 0, .int .u8 0, .int .u8 0, .int .u8 0, .int .u8 0, .int .u8 0] 63 (w.heap.size + 1) (by simp) (big_zero _ _ _ (by simp)).there
  go_enter Tryd.func48, Tryd.ntmps48
  go_upto_region 1 with fail
  refine wp_region_list ?_
  refine rowKL .u64 3 (n) (w.heap.size) 0 81 _ _ rfl rfl rfl Tryd.underlying81 rfl (cnum_info _) (K.get _ _ _ _ List.mem_cons_self).range ?_
  simp only [Act.put, List.setIfInBounds_toArray, List.set_cons_zero, List.set_cons_succ]
  refine callL rfl (fun _ => by kernel_rfl) (cleast_any n hn.1 hn.2 _ (hg.below K.below hg.size)) ?_
  rintro e w1 ⟨m1, rfl, s1, l⟩
  replace K := K.call l
  clear l
  refine ⟨_, rfl, ?_⟩
  simp only [Act.put, List.setIfInBounds_toArray, List.set_cons_zero, List.set_cons_succ]
  refine callL rfl (fun _ => by kernel_rfl) (join_any m1 _) ?_
  rintro e w2 ⟨rfl, l⟩
  replace K := K.call l
  clear l
  refine ⟨_, rfl, ?_⟩
  simp only [Act.put, List.setIfInBounds_toArray, List.set_cons_zero, List.set_cons_succ]
  have s2 : In 256 17 (joinB m1) ∧ val 256 (joinB m1) 17 = val W n 3 % Q := ⟨joinB_in m1, by rw [joinB_val m1 s1.1, s1.2, small136]⟩
  generalize joinB m1 = f at *
  refine storesL .u8 17 f (w.heap.size + 1) 63 _ _ rfl rfl rfl rfl (K.roomy _ _ _ _ List.mem_cons_self) (big_info' _) ?_
  simp only [Act.put]
  have HE := show Hid _ from s2
  have hz := (K.room _ List.mem_cons_self).1
  have hB := (K.fill _ _ List.mem_cons_self (row .u8 17 f)).below
  clear K s1 s2
  show Exit.then _ _ _ _ _
  go_wp2
  exact bodyPost_ret (v := (.agg (row .u8 17 (f)).toArray)) (results_row Tryd.results48 rfl (Has.all hz .u8 f).range Tryd.underlying63 rfl (big_info f)) rfl ⟨f, rfl, HE.out, hB⟩


theorem folded_small {n : Nat → Int} (h : Folded n) : 0 ≤ val W n 3 ∧ val W n 3 ≤ FB := ⟨(val_in W (by decide) n 3 h.1).1, h.2⟩
theorem top_small {n : Nat → Int} (h : In W 3 n) (hv : val W n 3 < 174224571863520493293247799005065324265472) : n 2 < 512 := by
  have v := v3 n
  have p0 := h 0 (by omega)
  have p1 := h 1 (by omega)
  generalize n 0 = x0 at *
  generalize n 1 = x1 at *
  generalize n 2 = x2 at *
  omega


set_option maxHeartbeats 2000000 in
theorem cadd_any (a b : Nat → Int) (ha : In 256 17 a) (hb : In 256 17 b) (w : World) (hg : Glob w) :
    Calls Tryd.prog 35 #[(.agg (row .u8 17 (a)).toArray), (.agg (row .u8 17 (b)).toArray)] w fun e w' => ∃ f : Nat → Int, e = .returned (.agg (row .u8 17 (f)).toArray) ∧ (In 256 17 f ∧ val 256 f 17 = (val 256 a 17 + val 256 b 17) % Q) ∧ Below w.heap.size w w' := by
  have K := Kr.init w
  replace K := K.box .u8 17 a 63 (w.heap.size) rfl
  replace K := K.box .u8 17 b 63 (w.heap.size + 1) (by simp)
  replace K := K.make 17 #[.int .u8 0, .int .u8 0, .int .u8 0, .int .u8 0, .int .u8 0, .int .u8 0, .int .u8 0, .int .u8 0, .int .u8 0, .int .u8 0, .int .u8 0, .int .u8 0, .int .u8 0, .int .u8 0, .int .u8 0, .int .u8 0, .int .u8 0] 63 (w.heap.size + 1 + 1) (by simp) (big_zero _ _ _ (by simp)).there
  go_enter Tryd.func35, Tryd.ntmps35
  go_upto_region 1 with fail
  refine wp_region_held_drew (S := fun w' => Kr w _ [(w.heap.size + 1, .u8, 17, b), (w.heap.size, .u8, 17, a)] [(w.heap.size + 1 + 1, 17)] w') (by kernel_rfl) K.drew ?_
  clear K
  intro K
  refine rowKH (i := 0) (some 5) rfl .u8 17 (a) (w.heap.size) 0 63 _ _ rfl rfl rfl rfl (by kernel_rfl) (by kernel_rfl) (by kernel_rfl) (fun _ _ _ h => h) Tryd.underlying63 rfl (big_info _) K (fun _ h => (h.get _ _ _ _ (List.mem_cons_of_mem _ List.mem_cons_self)).range) ?_
  simp only [Act.put, List.setIfInBounds_toArray, List.set_cons_zero, List.set_cons_succ]
  refine rowKH (i := 2) (some 7) rfl .u8 17 (b) (w.heap.size + 1) 0 63 _ _ rfl rfl rfl rfl (by kernel_rfl) (by kernel_rfl) (by kernel_rfl) (fun _ _ _ h => h) Tryd.underlying63 rfl (big_info _) K (fun _ h => (h.get _ _ _ _ List.mem_cons_self).range) ?_
  simp only [Act.put, List.setIfInBounds_toArray, List.set_cons_zero, List.set_cons_succ]
  refine callH (i := 1) (some 6) rfl (by kernel_rfl) rfl rfl (fun _ => by kernel_rfl) (cload_any a ha _) ?_
  rintro e w1 ⟨m1, rfl, s1, l⟩
  replace K := K.call l
  clear l
  refine ⟨_, rfl, K, ?_⟩
  simp only [Act.put, List.setIfInBounds_toArray, List.set_cons_zero, List.set_cons_succ]
  refine callH (i := 3) (some 8) rfl (by kernel_rfl) rfl rfl (fun _ => by kernel_rfl) (cload_any b hb _) ?_
  rintro e w2 ⟨m2, rfl, s2, l⟩
  replace K := K.call l
  clear l
  refine ⟨_, rfl, K, ?_⟩
  simp only [Act.put, List.setIfInBounds_toArray, List.set_cons_zero, List.set_cons_succ]
  have z1 := folded_small s1.1
  have z2 := folded_small s2.1
  simp only [FB] at z1 z2
  refine callH (i := 4) (some 9) rfl (by kernel_rfl) rfl rfl (fun _ => by kernel_rfl) (plus_any m1 m2 s1.1.1 s2.1.1 (by rw [W3]; omega) _) ?_
  rintro e w3 ⟨m3, rfl, s3, l⟩
  replace K := K.call l
  clear l
  refine ⟨_, rfl, K, ?_⟩
  simp only [Act.put, List.setIfInBounds_toArray, List.set_cons_zero, List.set_cons_succ]
  refine callH (i := 5) (some 10) rfl (by kernel_rfl) rfl rfl (fun _ => by kernel_rfl) (cfold_any m3 s3.1 (top_small s3.1 (by have := s3.2; omega)) _) ?_
  rintro e w4 ⟨m4, rfl, s4, l⟩
  replace K := K.call l
  clear l
  refine ⟨_, rfl, K, ?_⟩
  simp only [Act.put, List.setIfInBounds_toArray, List.set_cons_zero, List.set_cons_succ]
  refine callH (i := 6) (some 11) rfl (by kernel_rfl) rfl rfl (fun _ => by kernel_rfl) (csave_any m4 s4.1 _ (hg.below K.below hg.size)) ?_
  rintro e w5 ⟨f, rfl, s5, l⟩
  replace K := K.call l
  clear l
  refine ⟨_, rfl, K, ?_⟩
  simp only [Act.put, List.setIfInBounds_toArray, List.set_cons_zero, List.set_cons_succ]
  refine storesH (i := 7) none rfl .u8 17 f (w.heap.size + 1 + 1) 63 _ _ (by kernel_rfl) rfl rfl rfl rfl rfl (K.roomy _ _ _ _ List.mem_cons_self) (big_info' _) (K.fill _ _ List.mem_cons_self _) ?_
  refine wpAnyH_done (by kernel_rfl) ?_ _
  have HE := show Hid _ from (And.intro s5.1 (show val 256 f 17 = (val 256 a 17 + val 256 b 17) % Q by rw [s5.2, s4.2, s3.2, Int.add_emod, s1.2, s2.2, ← Int.add_emod]))
  have hz := (K.room _ List.mem_cons_self).1
  have hB := (K.fill _ _ List.mem_cons_self (row .u8 17 f)).below
  clear K s1 s2 s3 s4 s5 z1 z2
  go_wp2
  exact bodyPost_ret (v := (.agg (row .u8 17 (f)).toArray)) (results_row Tryd.results35 rfl (Has.all hz .u8 f).range Tryd.underlying63 rfl (big_info f)) rfl ⟨f, rfl, HE.out, hB⟩

set_option maxHeartbeats 2000000 in
theorem cmul_any (a b : Nat → Int) (ha : In 256 17 a) (hb : In 256 17 b) (w : World) (hg : Glob w) :
    Calls Tryd.prog 34 #[(.agg (row .u8 17 (a)).toArray), (.agg (row .u8 17 (b)).toArray)] w fun e w' => ∃ f : Nat → Int, e = .returned (.agg (row .u8 17 (f)).toArray) ∧ (In 256 17 f ∧ val 256 f 17 = (val 256 a 17 * val 256 b 17) % Q) ∧ Below w.heap.size w w' := by
  have K := Kr.init w
  replace K := K.box .u8 17 a 63 (w.heap.size) rfl
  replace K := K.box .u8 17 b 63 (w.heap.size + 1) (by simp)
  replace K := K.make 17 #[.int .u8 0, .int .u8 0, .int .u8 0, .int .u8 0, .int .u8 0, .int .u8 0, .int .u8 0, .int .u8 0, .int .u8 0, .int .u8 0, .int .u8 0, .int .u8 0, .int .u8 0, .int .u8 0, .int .u8 0, .int .u8 0, .int .u8 0] 63 (w.heap.size + 1 + 1) (by simp) (big_zero _ _ _ (by simp)).there
  go_enter Tryd.func34, Tryd.ntmps34
  go_upto_region 1 with fail
  refine wp_region_held_drew (S := fun w' => Kr w _ [(w.heap.size + 1, .u8, 17, b), (w.heap.size, .u8, 17, a)] [(w.heap.size + 1 + 1, 17)] w') (by kernel_rfl) K.drew ?_
  clear K
  intro K
  refine rowKH (i := 0) (some 5) rfl .u8 17 (a) (w.heap.size) 0 63 _ _ rfl rfl rfl rfl (by kernel_rfl) (by kernel_rfl) (by kernel_rfl) (fun _ _ _ h => h) Tryd.underlying63 rfl (big_info _) K (fun _ h => (h.get _ _ _ _ (List.mem_cons_of_mem _ List.mem_cons_self)).range) ?_
  simp only [Act.put, List.setIfInBounds_toArray, List.set_cons_zero, List.set_cons_succ]
  refine rowKH (i := 2) (some 7) rfl .u8 17 (b) (w.heap.size + 1) 0 63 _ _ rfl rfl rfl rfl (by kernel_rfl) (by kernel_rfl) (by kernel_rfl) (fun _ _ _ h => h) Tryd.underlying63 rfl (big_info _) K (fun _ h => (h.get _ _ _ _ List.mem_cons_self).range) ?_
  simp only [Act.put, List.setIfInBounds_toArray, List.set_cons_zero, List.set_cons_succ]
  refine callH (i := 1) (some 6) rfl (by kernel_rfl) rfl rfl (fun _ => by kernel_rfl) (cload_any a ha _) ?_
  rintro e w1 ⟨m1, rfl, s1, l⟩
  replace K := K.call l
  clear l
  refine ⟨_, rfl, K, ?_⟩
  simp only [Act.put, List.setIfInBounds_toArray, List.set_cons_zero, List.set_cons_succ]
  refine callH (i := 3) (some 8) rfl (by kernel_rfl) rfl rfl (fun _ => by kernel_rfl) (cload_any b hb _) ?_
  rintro e w2 ⟨m2, rfl, s2, l⟩
  replace K := K.call l
  clear l
  refine ⟨_, rfl, K, ?_⟩
  simp only [Act.put, List.setIfInBounds_toArray, List.set_cons_zero, List.set_cons_succ]
  refine callH (i := 4) (some 9) rfl (by kernel_rfl) rfl rfl (fun _ => by kernel_rfl) (cproduct_any m1 m2 s1.1.1 s2.1.1 s1.1.2 s2.1.2 _) ?_
  rintro e w3 ⟨m3, rfl, s3, l⟩
  replace K := K.call l
  clear l
  refine ⟨_, rfl, K, ?_⟩
  simp only [Act.put, List.setIfInBounds_toArray, List.set_cons_zero, List.set_cons_succ]
  refine callH (i := 5) (some 10) rfl (by kernel_rfl) rfl rfl (fun _ => by kernel_rfl) (csave_any m3 s3.1 _ (hg.below K.below hg.size)) ?_
  rintro e w5 ⟨f, rfl, s5, l⟩
  replace K := K.call l
  clear l
  refine ⟨_, rfl, K, ?_⟩
  simp only [Act.put, List.setIfInBounds_toArray, List.set_cons_zero, List.set_cons_succ]
  refine storesH (i := 6) none rfl .u8 17 f (w.heap.size + 1 + 1) 63 _ _ (by kernel_rfl) rfl rfl rfl rfl rfl (K.roomy _ _ _ _ List.mem_cons_self) (big_info' _) (K.fill _ _ List.mem_cons_self _) ?_
  refine wpAnyH_done (by kernel_rfl) ?_ _
  have HE := show Hid _ from (And.intro s5.1 (show val 256 f 17 = (val 256 a 17 * val 256 b 17) % Q by rw [s5.2, s3.2, Int.mul_emod, s1.2, s2.2, ← Int.mul_emod]))
  have hz := (K.room _ List.mem_cons_self).1
  have hB := (K.fill _ _ List.mem_cons_self (row .u8 17 f)).below
  clear K s1 s2 s3 s5
  go_wp2
  exact bodyPost_ret (v := (.agg (row .u8 17 (f)).toArray)) (results_row Tryd.results34 rfl (Has.all hz .u8 f).range Tryd.underlying63 rfl (big_info f)) rfl ⟨f, rfl, HE.out, hB⟩
end Go.Proofs.YteclkiabkdaklaaDoor

namespace Go.Proofs.YteclkiabkdaklaaDoor
open Go.RowKit

theorem tag_info (f : Nat → Int) : (Tryd.prog.info? 36).map (·.size) = some (row .u8 16 f).length := by rw [row_length]; kernel_rfl
theorem tag_info' (f : Nat → Int) : (Tryd.prog.info? 36).map (·.size) = some (row .u8 16 f).toArray.size := by rw [List.size_toArray]; exact tag_info f
theorem tag_there {w : World} {b : Nat} {f g : Nat → Int} (h : Has w b .u8 16 f) : w.there b 0 (row .u8 16 g).toArray.size := by rw [List.size_toArray, row_length]; exact h.there
theorem tag_zero (w : World) (t : TypeId) (b : Nat) (hb : b = w.heap.size) : Has (w.alloc (.cells #[.int .u8 0, .int .u8 0, .int .u8 0, .int .u8 0, .int .u8 0, .int .u8 0, .int .u8 0, .int .u8 0, .int .u8 0, .int .u8 0, .int .u8 0, .int .u8 0, .int .u8 0, .int .u8 0, .int .u8 0, .int .u8 0] t)) b .u8 16 (fun _ => 0) := Has.new w .u8 16 (fun _ => 0) t b hb

/-- A number to multiply by, trimmed. -/
def trimT (r : Nat → Int) : Nat → Int := fun j => if j % 4 = 3 then r j % 16 else if j % 4 = 0 ∧ 0 < j then r j / 4 * 4 else r j
theorem trimT_in (r : Nat → Int) (h : In 256 16 r) : In 256 16 (trimT r) := fun j hj => by
  have := h j hj
  unfold trimT
  split
  · omega
  · split
    · omega
    · exact this
theorem trimT_twice (r : Nat → Int) : ∀ j, trimT (trimT r) j = trimT r j := fun j => by
  unfold trimT
  split
  · omega
  · split
    · omega
    · rfl
theorem and_15 : ∀ x : Fin 256, bits BinOp.and IntKind.u8 (x.val : Int) 15 = (x.val : Int) % 16 := by decide +kernel
theorem and_252 : ∀ x : Fin 256, bits BinOp.and IntKind.u8 (x.val : Int) 252 = (x.val : Int) / 4 * 4 := by decide +kernel
theorem and_255 : ∀ x : Fin 256, bits BinOp.and IntKind.u8 (x.val : Int) 255 = (x.val : Int) := by decide +kernel
theorem and15 (x : Int) (h : 0 ≤ x ∧ x < 256) : bits BinOp.and IntKind.u8 x 15 = x % 16 := by
  obtain ⟨n, rfl⟩ := Int.eq_ofNat_of_zero_le h.1
  exact and_15 ⟨n, by omega⟩
theorem and252 (x : Int) (h : 0 ≤ x ∧ x < 256) : bits BinOp.and IntKind.u8 x 252 = x / 4 * 4 := by
  obtain ⟨n, rfl⟩ := Int.eq_ofNat_of_zero_le h.1
  exact and_252 ⟨n, by omega⟩
theorem and255 (x : Int) (h : 0 ≤ x ∧ x < 256) : bits BinOp.and IntKind.u8 x 255 = x := by
  obtain ⟨n, rfl⟩ := Int.eq_ofNat_of_zero_le h.1
  exact and_255 ⟨n, by omega⟩
theorem and_kept (r : Nat → Int) (h : In 256 16 r) (j : Nat) (hj : j < 16) : bits BinOp.and IntKind.u8 (r j) (keptB j) = trimT r j := by
  have hr := h j hj
  by_cases a : j % 4 = 3
  · have e1 : keptB j = 15 := by unfold keptB; rw [if_pos (by omega)]
    have e2 : trimT r j = r j % 16 := by unfold trimT; rw [if_pos a]
    rw [e1, e2, and15 _ hr]
  · by_cases b : j % 4 = 0 ∧ 0 < j
    · have e1 : keptB j = 252 := by unfold keptB; rw [if_neg (by omega), if_pos (by omega)]
      have e2 : trimT r j = r j / 4 * 4 := by unfold trimT; rw [if_neg a, if_pos b]
      rw [e1, e2, and252 _ hr]
    · have e1 : keptB j = 255 := by unfold keptB; rw [if_neg (by omega), if_neg (by omega)]
      have e2 : trimT r j = r j := by unfold trimT; rw [if_neg a, if_neg b]
      rw [e1, e2, and255 _ hr]

/-- Behind k rounds of a loop that writes one byte after the other. -/
structure TInv (r g : Nat → Int) (w : World) (k : Nat) (f : Nat → Int) (w' : World) : Prop where
  done : ∀ j, j < k → f j = g j
  rest : ∀ j, k ≤ j → f j = r j
  ha : Has w' w.heap.size .u8 16 f
  hr : Has w' (w.heap.size + 1) .u8 16 (fun _ => 0)
  fr : Fr w 2 w'
theorem TInv.step {r g : Nat → Int} {w : World} {k : Nat} {f : Nat → Int} {w' : World} (h : TInv r g w k f w') (hk : k < 16) : TInv r g w (k + 1) (upd f k (g k)) (w'.setCell ⟨w.heap.size, k, none⟩ (.int .u8 (g k))) := by
  refine ⟨fun j hj => ?_, fun j hj => ?_, h.ha.set k hk _, h.hr.set_other _ _ (by simp), h.fr.set _ _ (by simp)⟩
  · by_cases e : j = k
    · subst e; rw [upd_same]
    · rw [upd_other _ _ _ _ e]; exact h.done j (by omega)
  · rw [upd_other _ _ _ _ (by omega)]; exact h.rest j (by omega)
theorem TInv.drew {r g : Nat → Int} {w : World} {k : Nat} {f : Nat → Int} {w' : World} (h : TInv r g w k f w') : TInv r g w k f w'.drew := ⟨h.done, h.rest, h.ha.drew, h.hr.drew, h.fr.drew⟩
theorem TInv.skip {r g : Nat → Int} {w : World} {k : Nat} {f : Nat → Int} {w' : World} (h : TInv r g w k f w') (e : g k = r k) : TInv r g w (k + 1) f w' := by
  refine ⟨fun j hj => ?_, fun j hj => h.rest j (by omega), h.ha, h.hr, h.fr⟩
  by_cases x : j = k
  · subst x; rw [h.rest j (Nat.le_refl j), e]
  · exact h.done j (by omega)

set_option maxHeartbeats 2000000 in
theorem ctrim_any (r : Nat → Int) (hr : In 256 16 r) (w : World) (hg : Glob w) :
    Calls Tryd.prog 47 #[(.agg (row .u8 16 (r)).toArray)] w fun e w' => e = .returned (.agg (row .u8 16 (trimT r)).toArray) ∧ Below w.heap.size w w' := by
  go_enter Tryd.func47, Tryd.ntmps47
  go_wp2
  go_loopw [4] (fun i w' => ∃ (k : Nat) (f : Nat → Int), k ≤ 16 ∧ i = .int .i64 k ∧ TInv r (trimT r) w k f w') (fun i _ => 16 - (intOf i).toNat)
  case atStart => exact ⟨0, r, by omega, rfl, ⟨fun j hj => by omega, fun _ _ => rfl, (Has.new w _ _ _ _ _ rfl).alloc _ (by simp), tag_zero _ _ _ (by simp), ((Fr.refl w).alloc _).alloc _⟩⟩
  case round =>
    obtain ⟨k, f, hk, rfl, hI⟩ := hrel
    by_cases hlt : k < 16
    · have hS := (hI.step hlt).drew
      have hb := and_kept r hr k hlt
      rw [← hI.rest k (Nat.le_refl k)] at hb
      rw [← hb] at hS
      have HS := show Hid _ from hS
      have c1 := hI.ha.cell k hlt
      have c2 := (hg.fr hI.fr).kept k hlt
      have f1 := hI.ha.free k hlt
      have g1 : (0 : Int) ≤ (k : Int) := by omega
      have g2 : (k : Int) < 16 := by omega
      clear hI hS hb
      generalize f k = x at *
      generalize keptB k = y at *
      go_wp2
      go_region
      go_wp2
      go_roundw
      case rel => exact ⟨k + 1, _, by omega, by go_num, HS.out⟩
      case measure => simp [intOf]; omega
    · obtain rfl : k = 16 := by omega
      have ha := hI.ha.congr (g := trimT r) (fun j hj => hI.done j hj)
      have hz := hI.hr
      have hB := (hI.fr.setAll (w.heap.size + 1) (by omega) (row .u8 16 (trimT r))).below
      clear hI hlt hk
      go_wp2_with (first | (refine wpList_load_mid rfl 36 _ rfl (w.heap.size) 0 rfl (row .u8 16 (trimT r)) _ (Has.range (ha)) Tryd.underlying36 rfl (tag_info _) ?_) | (refine wpList_store_mid rfl 36 _ _ rfl (w.heap.size + 1) 0 (row .u8 16 (trimT r)).toArray rfl rfl (tag_there (hz)) (tag_info' _) (all_oneCell_toArray (row_one _ _ _)) ?_))
      exact bodyPost_ret (v := (.agg (row .u8 16 (trimT r)).toArray)) (results_row Tryd.results47 rfl (Has.all hz.there .u8 _).range Tryd.underlying36 rfl (tag_info _)) rfl ⟨rfl, hB⟩
end Go.Proofs.YteclkiabkdaklaaDoor

namespace Go.Proofs.YteclkiabkdaklaaDoor
open Go.RowKit

/-- 16 bytes, and a nought behind them. -/
def lowB (s : Nat → Int) : Nat → Int := over (fun _ => 0) 0 16 s
theorem lowB_in (s : Nat → Int) (h : In 256 16 s) : In 256 17 (lowB s) := over_in (fun _ _ => ⟨Int.le_refl 0, (by decide : (0 : Int) < 256)⟩) h
theorem lowB_val (s : Nat → Int) : val 256 (lowB s) 17 = val 256 s 16 := by
  have e : val 256 (lowB s) 17 = val 256 (lowB s) 16 + 256 ^ 16 * lowB s 16 := rfl
  have e1 : lowB s 16 = 0 := by unfold lowB over; rw [if_neg (by omega)]
  have e2 : val 256 (lowB s) 16 = val 256 s 16 := val_congr 256 16 fun j hj => by unfold lowB over; rw [if_pos (by omega), Nat.sub_zero]
  rw [e, e1, e2, Int.mul_zero, Int.add_zero]
theorem low_val (f : Nat → Int) (h : In 256 17 f) : val 256 f 16 = val 256 f 17 % 340282366920938463463374607431768211456 := by
  have e : val 256 f 17 = val 256 f 16 + 256 ^ 16 * f 16 := rfl
  have i := val_in 256 (by decide) f 16 (fun j hj => h j (by omega))
  rw [show (256 : Int) ^ 16 = 340282366920938463463374607431768211456 from by decide] at e i
  omega

set_option maxRecDepth 10000 in
set_option maxHeartbeats 4000000 in
theorem clow_any (a s : Nat → Int) (ha : In 256 17 a) (hs : In 256 16 s) (w : World) (hg : Glob w) :
    Calls Tryd.prog 37 #[(.agg (row .u8 17 (a)).toArray), (.agg (row .u8 16 (s)).toArray)] w fun e w' => ∃ f : Nat → Int, e = .returned (.agg (row .u8 16 (f)).toArray) ∧ (In 256 16 f ∧ val 256 f 16 = (val 256 a 17 % Q + val 256 s 16) % 340282366920938463463374607431768211456) ∧ Below w.heap.size w w' := by
  have K := Kr.init w
  replace K := K.box .u8 17 a 63 w.heap.size rfl
  replace K := K.box .u8 16 s 36 (w.heap.size + 1) (by simp)
  replace K := K.make 16 #[.int .u8 0, .int .u8 0, .int .u8 0, .int .u8 0, .int .u8 0, .int .u8 0, .int .u8 0, .int .u8 0, .int .u8 0, .int .u8 0, .int .u8 0, .int .u8 0, .int .u8 0, .int .u8 0, .int .u8 0, .int .u8 0] 36 (w.heap.size + 1 + 1) (by simp) (tag_zero _ _ _ (by simp)).there
  go_enter Tryd.func37, Tryd.ntmps37
  go_upto_region 1 with fail
  generalize (((w.alloc (.cells (row .u8 17 a).toArray 63)).alloc (.cells (row .u8 16 s).toArray 36)).alloc (.cells #[.int .u8 0, .int .u8 0, .int .u8 0, .int .u8 0, .int .u8 0, .int .u8 0, .int .u8 0, .int .u8 0, .int .u8 0, .int .u8 0, .int .u8 0, .int .u8 0, .int .u8 0, .int .u8 0, .int .u8 0, .int .u8 0] 36)) = w1 at K ⊢
  have s1 := K.size
  have H := big_zero w1 63 w1.heap.size rfl
  replace K := K.make 17 #[.int .u8 0, .int .u8 0, .int .u8 0, .int .u8 0, .int .u8 0, .int .u8 0, .int .u8 0, .int .u8 0, .int .u8 0, .int .u8 0, .int .u8 0, .int .u8 0, .int .u8 0, .int .u8 0, .int .u8 0, .int .u8 0, .int .u8 0] 63 w1.heap.size rfl H.there
  go_upto_region 2 with fail
  generalize w1.alloc (.cells #[.int .u8 0, .int .u8 0, .int .u8 0, .int .u8 0, .int .u8 0, .int .u8 0, .int .u8 0, .int .u8 0, .int .u8 0, .int .u8 0, .int .u8 0, .int .u8 0, .int .u8 0, .int .u8 0, .int .u8 0, .int .u8 0, .int .u8 0] 63) = w2 at K H ⊢
  generalize w1.heap.size = O at *
  clear w1
  refine wp_region_held_drew (S := fun w' => Kr w _ [(w.heap.size + 1, .u8, 16, s), (w.heap.size, .u8, 17, a)] [(O, 17), (w.heap.size + 1 + 1, 16)] w') (by kernel_rfl) K.drew ?_
  clear K
  intro K
  replace H := H.drew
  refine pureH (i := 0) (some 9) rfl (.slice (some ⟨O, 0, none⟩) 17 17) rfl rfl (fun _ => by kernel_rfl) (by kernel_rfl) (by kernel_rfl) (by kernel_rfl) (fun _ _ _ h => h) K ?_
  simp only [Act.put, List.setIfInBounds_toArray, List.set_cons_zero, List.set_cons_succ]
  refine pureH (i := 1) (some 10) rfl (.slice (some ⟨w.heap.size + 1, 0, none⟩) 16 16) rfl rfl (fun _ => by kernel_rfl) (by kernel_rfl) (by kernel_rfl) (by kernel_rfl) (fun _ _ _ h => h) K ?_
  simp only [Act.put, List.setIfInBounds_toArray, List.set_cons_zero, List.set_cons_succ]
  refine actH (i := 2) (some 11) rfl (.int .i64 ((16 : Nat) : Int)) (by kernel_rfl) rfl rfl (run_copy _ _ 26 26 5 rfl Tryd.underlying26 (by kernel_rfl) O 17 17 (w.heap.size + 1) 0 16 16 16 17 .u8 s s rfl rfl rfl (by omega) H.there (fun j hj => (K.get _ _ _ _ List.mem_cons_self).cell (0 + j) (by omega)) (fun j _ => by rw [Nat.zero_add])) (K.fill O 17 List.mem_cons_self _) ?_
  simp only [Act.put, List.setIfInBounds_toArray, List.set_cons_zero, List.set_cons_succ]
  refine wpAnyH_done (by kernel_rfl) ?_ _
  replace K := (K.fill O 17 List.mem_cons_self (row .u8 16 s)).settle [(w.heap.size + 1 + 1, 16)] O .u8 17 (lowB s) List.mem_cons_self (fun q hq => List.mem_cons_of_mem _ hq) (List.forall_mem_cons.2 ⟨by show w.heap.size + 1 + 1 ≠ O; omega, List.forall_mem_nil _⟩) (H.part 0 16 (by omega) s)
  clear H
  generalize (w2.drew.setCells O 0 (row .u8 16 s)) = w3 at K ⊢
  clear w2
  go_upto_region 3 with fail
  refine wp_region_held_drew (S := fun w' => Kr w _ [(O, .u8, 17, lowB s), (w.heap.size + 1, .u8, 16, s), (w.heap.size, .u8, 17, a)] [(w.heap.size + 1 + 1, 16)] w') (by kernel_rfl) K.drew ?_
  clear K
  intro K
  refine rowKH (i := 0) (some 12) rfl .u8 17 a w.heap.size 0 63 _ _ rfl rfl rfl rfl (by kernel_rfl) (by kernel_rfl) (by kernel_rfl) (fun _ _ _ h => h) Tryd.underlying63 rfl (big_info _) K (fun _ h => (h.get _ _ _ _ (List.mem_cons_of_mem _ (List.mem_cons_of_mem _ List.mem_cons_self))).range) ?_
  simp only [Act.put, List.setIfInBounds_toArray, List.set_cons_zero, List.set_cons_succ]
  refine rowKH (i := 3) (some 15) rfl .u8 17 (lowB s) O 0 63 _ _ rfl rfl rfl rfl (by kernel_rfl) (by kernel_rfl) (by kernel_rfl) (fun _ _ _ h => h) Tryd.underlying63 rfl (big_info _) K (fun _ h => (h.get _ _ _ _ List.mem_cons_self).range) ?_
  simp only [Act.put, List.setIfInBounds_toArray, List.set_cons_zero, List.set_cons_succ]
  refine Chain.go (z := 6) (t := 6) (n := 3) (w0 := O + 1) (k := 4) ?_ #[.int .u64 0, .int .u64 0, .int .u64 0] 81 rfl rfl rfl (fun _ _ => by kernel_rfl) (fun _ => (cnum_zero _ _ _ rfl).there) (fun _ h => h.size) (fun _ _ h l => h.call l) _ K
  refine Chain.call 1 13 (fun v => ∃ m, v = (.agg (row .u64 3 (m)).toArray) ∧ Folded m ∧ val W m 3 % Q = val 256 a 17 % Q) (by kernel_rfl) (by kernel_rfl) rfl rfl rfl (by decide) (by decide) (by intros; simp) (by decide +kernel) (fun _ => by kernel_rfl) (fun w' _ => (cload_any a ha w').mono fun e w'' ⟨m, he, hm, l⟩ => ⟨_, he, ⟨m, rfl, hm⟩, l⟩) ?_
  rintro _ ⟨m1, rfl, t1⟩
  simp only [Act.put, List.setIfInBounds_toArray, List.set_cons_zero, List.set_cons_succ]
  refine Chain.call 2 14 (fun v => ∃ m, v = (.agg (row .u64 3 (m)).toArray) ∧ In W 3 m ∧ val W m 3 = val W m1 3 % Q) (by kernel_rfl) (by kernel_rfl) rfl rfl rfl (by decide) (by decide) (by intros; simp) (by decide +kernel) (fun _ => by kernel_rfl) (fun w' h => (cleast_any m1 t1.1.1 t1.1.2 w' (hg.below h.below hg.size)).mono fun e w'' ⟨m, he, hm, l⟩ => ⟨_, he, ⟨m, rfl, hm⟩, l⟩) ?_
  rintro _ ⟨m2, rfl, t2⟩
  simp only [Act.put, List.setIfInBounds_toArray, List.set_cons_zero, List.set_cons_succ]
  refine Chain.call 4 16 (fun v => ∃ m, v = (.agg (row .u64 3 (m)).toArray) ∧ In W 3 m ∧ m 2 < 256 ∧ val W m 3 = val 256 (lowB s) 17) (by kernel_rfl) (by kernel_rfl) rfl rfl rfl (by decide) (by decide) (by intros; simp) (by decide +kernel) (fun _ => by kernel_rfl) (fun w' _ => (split_any (lowB s) (lowB_in s hs) w').mono fun e w'' ⟨m, he, hm, l⟩ => ⟨_, he, ⟨m, rfl, hm⟩, l⟩) ?_
  rintro _ ⟨m3, rfl, t3⟩
  simp only [Act.put, List.setIfInBounds_toArray, List.set_cons_zero, List.set_cons_succ]
  have hsum : val W m2 3 + val W m3 3 < W ^ 3 := by
    have q1 := t2.2
    have q3 := t3.2.2
    rw [lowB_val] at q3
    have q2 := val_in 256 (by decide) s 16 hs
    rw [show (256 : Int) ^ 16 = 340282366920938463463374607431768211456 from by decide] at q2
    rw [W3, q1, q3]
    simp only [Q]
    omega
  refine Chain.call 5 17 (fun v => ∃ m, v = (.agg (row .u64 3 (m)).toArray) ∧ In W 3 m ∧ val W m 3 = val W m2 3 + val W m3 3) (by kernel_rfl) (by kernel_rfl) rfl rfl rfl (by decide) (by decide) (by intros; simp) (by decide +kernel) (fun _ => by kernel_rfl) (fun w' _ => (plus_any m2 m3 t2.1 t3.1 hsum w').mono fun e w'' ⟨m, he, hm, l⟩ => ⟨_, he, ⟨m, rfl, hm⟩, l⟩) ?_
  rintro _ ⟨m4, rfl, t4⟩
  simp only [Act.put, List.setIfInBounds_toArray, List.set_cons_zero, List.set_cons_succ]
  refine Chain.last (by kernel_rfl) ?_
  clear K
  intro B w4 K hF
  simp only [Act.put, List.setIfInBounds_toArray, List.set_cons_zero, List.set_cons_succ]
  refine storesH (i := 7) none rfl .u64 3 m4 B 81 _ _ (by kernel_rfl) rfl rfl rfl rfl rfl (room_of hF.th) (cnum_info' _) (K.past B hF.lo _) ?_
  refine wpAnyH_done (by kernel_rfl) ?_ _
  have hBO := hF.lo
  replace K := K.land hF .u64 m4
  clear hF
  have hfit : In 256 17 (joinB m4) ∧ val 256 (joinB m4) 16 = (val 256 a 17 % Q + val 256 s 16) % 340282366920938463463374607431768211456 := by
    refine ⟨joinB_in m4, ?_⟩
    rw [low_val _ (joinB_in m4), joinB_val m4 t4.1, t4.2, t3.2.2, lowB_val, t2.2, t1.2]
    omega
  have HE := show Hid _ from hfit
  clear hfit t1 t2 t3 t4 hsum
  generalize w4.setCells B 0 (row .u64 3 m4) = w5 at K ⊢
  have s5 := K.size
  generalize w4.heap.size = N4 at K s5
  clear w4
  go_upto_region 4 with fail
  replace K := K.make 16 #[.int .u8 0, .int .u8 0, .int .u8 0, .int .u8 0, .int .u8 0, .int .u8 0, .int .u8 0, .int .u8 0, .int .u8 0, .int .u8 0, .int .u8 0, .int .u8 0, .int .u8 0, .int .u8 0, .int .u8 0, .int .u8 0] 36 w5.heap.size rfl (tag_zero _ _ _ rfl).there
  go_upto_region 5 with fail
  generalize w5.alloc (.cells #[.int .u8 0, .int .u8 0, .int .u8 0, .int .u8 0, .int .u8 0, .int .u8 0, .int .u8 0, .int .u8 0, .int .u8 0, .int .u8 0, .int .u8 0, .int .u8 0, .int .u8 0, .int .u8 0, .int .u8 0, .int .u8 0] 36) = w6 at K ⊢
  generalize w5.heap.size = U at K s5 ⊢
  clear w5
  refine wp_region_list ?_
  refine rowKL .u64 3 m4 B 0 81 _ _ rfl rfl rfl Tryd.underlying81 rfl (cnum_info _) (K.get _ _ _ _ List.mem_cons_self).range ?_
  simp only [Act.put, List.setIfInBounds_toArray, List.set_cons_zero, List.set_cons_succ]
  refine callL rfl (fun _ => by kernel_rfl) (join_any m4 _) ?_
  rintro e w7 ⟨rfl, l⟩
  replace K := K.call l
  clear l
  refine ⟨_, rfl, ?_⟩
  simp only [Act.put, List.setIfInBounds_toArray, List.set_cons_zero, List.set_cons_succ]
  refine allocL #[.int .u8 0, .int .u8 0, .int .u8 0, .int .u8 0, .int .u8 0, .int .u8 0, .int .u8 0, .int .u8 0, .int .u8 0, .int .u8 0, .int .u8 0, .int .u8 0, .int .u8 0, .int .u8 0, .int .u8 0, .int .u8 0, .int .u8 0] 63 rfl (fun _ => by kernel_rfl) ?_
  simp only [Act.put, List.setIfInBounds_toArray, List.set_cons_zero, List.set_cons_succ]
  refine storesL .u8 17 (joinB m4) w7.heap.size 63 _ _ rfl rfl rfl rfl (room_of (big_zero _ _ _ rfl).there) (big_info' _) ?_
  simp only [Act.put]
  have s7 := K.size
  replace K := K.fresh .u8 17 (joinB m4) #[.int .u8 0, .int .u8 0, .int .u8 0, .int .u8 0, .int .u8 0, .int .u8 0, .int .u8 0, .int .u8 0, .int .u8 0, .int .u8 0, .int .u8 0, .int .u8 0, .int .u8 0, .int .u8 0, .int .u8 0, .int .u8 0, .int .u8 0] 63 (big_zero _ _ _ rfl).there
  generalize ((w7.alloc (.cells #[.int .u8 0, .int .u8 0, .int .u8 0, .int .u8 0, .int .u8 0, .int .u8 0, .int .u8 0, .int .u8 0, .int .u8 0, .int .u8 0, .int .u8 0, .int .u8 0, .int .u8 0, .int .u8 0, .int .u8 0, .int .u8 0, .int .u8 0] 63)).setCells w7.heap.size 0 (row .u8 17 (joinB m4))) = w8 at K ⊢
  generalize w7.heap.size = X at K s7 ⊢
  clear w7
  show Exit.then _ _ _ _ _
  go_upto_region 6 with fail
  refine wp_region_held_drew (S := fun w' => Kr w _ [(X, .u8, 17, joinB m4), (B, .u64, 3, m4), (O, .u8, 17, lowB s), (w.heap.size + 1, .u8, 16, s), (w.heap.size, .u8, 17, a)] [(U, 16), (w.heap.size + 1 + 1, 16)] w') (by kernel_rfl) K.drew ?_
  clear K
  intro K
  refine pureH (i := 0) (some 20) rfl (.slice (some ⟨U, 0, none⟩) 16 16) rfl rfl (fun _ => by kernel_rfl) (by kernel_rfl) (by kernel_rfl) (by kernel_rfl) (fun _ _ _ h => h) K ?_
  simp only [Act.put, List.setIfInBounds_toArray, List.set_cons_zero, List.set_cons_succ]
  refine pureH (i := 1) (some 21) rfl (.slice (some ⟨X, 0, none⟩) 17 17) rfl rfl (fun _ => by kernel_rfl) (by kernel_rfl) (by kernel_rfl) (by kernel_rfl) (fun _ _ _ h => h) K ?_
  simp only [Act.put, List.setIfInBounds_toArray, List.set_cons_zero, List.set_cons_succ]
  refine actH (i := 2) (some 22) rfl (.int .i64 ((16 : Nat) : Int)) (by kernel_rfl) rfl rfl (run_copy _ _ 26 26 5 rfl Tryd.underlying26 (by kernel_rfl) U 16 16 X 0 17 17 16 16 .u8 (joinB m4) (joinB m4) rfl rfl rfl (by omega) (K.room _ List.mem_cons_self).1 (fun j hj => (K.get _ _ _ _ List.mem_cons_self).cell (0 + j) (by omega)) (fun j _ => by rw [Nat.zero_add])) (K.fill U 16 List.mem_cons_self _) ?_
  simp only [Act.put, List.setIfInBounds_toArray, List.set_cons_zero, List.set_cons_succ]
  refine wpAnyH_done (by kernel_rfl) ?_ _
  have H := Has.all (K.room _ List.mem_cons_self).1 .u8 (joinB m4)
  replace K := K.fill U 16 List.mem_cons_self (row .u8 16 (joinB m4))
  generalize (w8.drew.setCells U 0 (row .u8 16 (joinB m4))) = w9 at K H ⊢
  have hz := (K.room _ (List.mem_cons_of_mem _ List.mem_cons_self)).1
  have hB := (K.fill _ _ (List.mem_cons_of_mem _ List.mem_cons_self) (row .u8 16 (joinB m4))).below
  clear K s7 s5 hBO s1
  generalize hj : joinB m4 = f at *
  go_wp2_with (first | (refine wpList_load_mid rfl 36 _ rfl (U) 0 rfl (row .u8 16 (f)) _ (Has.range (H)) Tryd.underlying36 rfl (tag_info _) ?_) | (refine wpList_store_mid rfl 36 _ _ rfl (w.heap.size + 1 + 1) 0 (row .u8 16 f).toArray rfl rfl (room_of hz) (tag_info' _) (all_oneCell_toArray (row_one _ _ _)) ?_))
  exact bodyPost_ret (v := (.agg (row .u8 16 (f)).toArray)) (results_row Tryd.results37 rfl (Has.all hz .u8 f).range Tryd.underlying36 rfl (tag_info f)) rfl ⟨f, rfl, ⟨fun j hj => HE.out.1 j (by omega), HE.out.2⟩, hB⟩
end Go.Proofs.YteclkiabkdaklaaDoor

namespace Go.Proofs.YteclkiabkdaklaaDoor
open Go.RowKit

def blk (len : Nat) (z : Nat → Int) : Nat → Int := fun j => if len ≤ 16 then (if j < len then z j else if j = len then 1 else 0) else 0
def blkE (len : Nat) : Int := if len ≤ 16 then 0 else 2
theorem blk_in (len : Nat) (z : Nat → Int) (hz : In 256 len z) : In 256 17 (blk len z) := fun j _ => by
  unfold blk
  split
  · split
    · exact hz j (by assumption)
    · split <;> omega
  · omega


set_option maxRecDepth 10000 in
set_option maxHeartbeats 2000000 in
theorem cblock_long (sp : Option Addr) (len cap : Nat) (z : Nat → Int) (hlen : 16 < len) (w : World) :
    Calls Tryd.prog 53 #[.slice sp len cap] w fun e w' => e = .returned (.tuple #[(.agg (row .u8 17 (blk len z)).toArray), .int .i64 (blkE len)]) ∧ Below w.heap.size w w' := by
  have eb : (row .u8 17 (blk len z)) = row .u8 17 (fun _ => 0) := row_congr _ _ fun j _ => by unfold blk; rw [if_neg (by omega)]
  have ee : blkE len = 2 := by unfold blkE; rw [if_neg (by omega)]
  rw [eb, ee]
  have z0 : Has ((w.alloc (.cells #[.int .u8 0, .int .u8 0, .int .u8 0, .int .u8 0, .int .u8 0, .int .u8 0, .int .u8 0, .int .u8 0, .int .u8 0, .int .u8 0, .int .u8 0, .int .u8 0, .int .u8 0, .int .u8 0, .int .u8 0, .int .u8 0, .int .u8 0] 63)).alloc (.cells #[.int .u8 0, .int .u8 0, .int .u8 0, .int .u8 0, .int .u8 0, .int .u8 0, .int .u8 0, .int .u8 0, .int .u8 0, .int .u8 0, .int .u8 0, .int .u8 0, .int .u8 0, .int .u8 0, .int .u8 0, .int .u8 0, .int .u8 0] 63)) w.heap.size .u8 17 (fun _ => 0) := (big_zero _ _ _ rfl).alloc _ (by simp)
  have g0 : Fr w 2 ((w.alloc (.cells #[.int .u8 0, .int .u8 0, .int .u8 0, .int .u8 0, .int .u8 0, .int .u8 0, .int .u8 0, .int .u8 0, .int .u8 0, .int .u8 0, .int .u8 0, .int .u8 0, .int .u8 0, .int .u8 0, .int .u8 0, .int .u8 0, .int .u8 0] 63)).alloc (.cells #[.int .u8 0, .int .u8 0, .int .u8 0, .int .u8 0, .int .u8 0, .int .u8 0, .int .u8 0, .int .u8 0, .int .u8 0, .int .u8 0, .int .u8 0, .int .u8 0, .int .u8 0, .int .u8 0, .int .u8 0, .int .u8 0, .int .u8 0] 63)) := ((Fr.refl w).alloc _).alloc _
  have hB := (g0.setAll w.heap.size (Nat.le_refl _) (row .u8 17 (fun _ => 0))).below
  have hl : (17 : Int) ≤ (len : Int) := by omega
  clear eb ee g0 hlen
  go_enter Tryd.func53, Tryd.ntmps53
  go_wp2_with (refine wpList_store_mid rfl 63 _ _ rfl (w.heap.size) 0 (row .u8 17 (fun _ => 0)).toArray rfl rfl (big_there (z0)) (big_info' _) (all_oneCell_toArray (row_one _ _ _)) ?_)
  exact bodyPost_ret (v := .tuple #[(.agg (row .u8 17 (fun _ => 0)).toArray), .int .i64 2]) (results_row_tmp Tryd.results53 rfl rfl (Has.all z0.there .u8 _).range Tryd.underlying63 rfl (big_info _)) rfl ⟨rfl, hB⟩

set_option maxRecDepth 10000 in
set_option maxHeartbeats 2000000 in
theorem cblock_short (sp : Option Addr) (len cap : Nat) (z : Nat → Int) (hlen : len ≤ 16) (w : World) (hs : Src w sp len z) :
    Calls Tryd.prog 53 #[.slice sp len cap] w fun e w' => e = .returned (.tuple #[(.agg (row .u8 17 (blk len z)).toArray), .int .i64 (blkE len)]) ∧ Below w.heap.size w w' := by
  have ee : blkE len = 0 := by unfold blkE; rw [if_pos hlen]
  rw [ee]
  have K := Kr.init w
  replace K := K.make 17 #[.int .u8 0, .int .u8 0, .int .u8 0, .int .u8 0, .int .u8 0, .int .u8 0, .int .u8 0, .int .u8 0, .int .u8 0, .int .u8 0, .int .u8 0, .int .u8 0, .int .u8 0, .int .u8 0, .int .u8 0, .int .u8 0, .int .u8 0] 63 w.heap.size rfl (big_zero _ _ _ rfl).there
  have H : Has ((w.alloc (.cells #[.int .u8 0, .int .u8 0, .int .u8 0, .int .u8 0, .int .u8 0, .int .u8 0, .int .u8 0, .int .u8 0, .int .u8 0, .int .u8 0, .int .u8 0, .int .u8 0, .int .u8 0, .int .u8 0, .int .u8 0, .int .u8 0, .int .u8 0] 63)).alloc (.cells #[.int .u8 0, .int .u8 0, .int .u8 0, .int .u8 0, .int .u8 0, .int .u8 0, .int .u8 0, .int .u8 0, .int .u8 0, .int .u8 0, .int .u8 0, .int .u8 0, .int .u8 0, .int .u8 0, .int .u8 0, .int .u8 0, .int .u8 0] 63)) (w.heap.size + 1) .u8 17 (fun _ => 0) := big_zero _ _ _ (by simp)
  replace K := K.make 17 #[.int .u8 0, .int .u8 0, .int .u8 0, .int .u8 0, .int .u8 0, .int .u8 0, .int .u8 0, .int .u8 0, .int .u8 0, .int .u8 0, .int .u8 0, .int .u8 0, .int .u8 0, .int .u8 0, .int .u8 0, .int .u8 0, .int .u8 0] 63 (w.heap.size + 1) (by simp) H.there
  have hs' := hs.below (w' := ((w.alloc (.cells #[.int .u8 0, .int .u8 0, .int .u8 0, .int .u8 0, .int .u8 0, .int .u8 0, .int .u8 0, .int .u8 0, .int .u8 0, .int .u8 0, .int .u8 0, .int .u8 0, .int .u8 0, .int .u8 0, .int .u8 0, .int .u8 0, .int .u8 0] 63)).alloc (.cells #[.int .u8 0, .int .u8 0, .int .u8 0, .int .u8 0, .int .u8 0, .int .u8 0, .int .u8 0, .int .u8 0, .int .u8 0, .int .u8 0, .int .u8 0, .int .u8 0, .int .u8 0, .int .u8 0, .int .u8 0, .int .u8 0, .int .u8 0] 63))) K.below (Nat.le_refl _)
  have hl : ¬ (17 : Int) ≤ (len : Int) := by omega
  have hl2 : (len : Int) < 17 := by omega
  have hl3 : (0 : Int) ≤ (len : Int) := by omega
  clear ee hs
  go_enter Tryd.func53, Tryd.ntmps53
  go_upto_region 4 with fail
  generalize ((w.alloc (.cells #[.int .u8 0, .int .u8 0, .int .u8 0, .int .u8 0, .int .u8 0, .int .u8 0, .int .u8 0, .int .u8 0, .int .u8 0, .int .u8 0, .int .u8 0, .int .u8 0, .int .u8 0, .int .u8 0, .int .u8 0, .int .u8 0, .int .u8 0] 63)).alloc (.cells #[.int .u8 0, .int .u8 0, .int .u8 0, .int .u8 0, .int .u8 0, .int .u8 0, .int .u8 0, .int .u8 0, .int .u8 0, .int .u8 0, .int .u8 0, .int .u8 0, .int .u8 0, .int .u8 0, .int .u8 0, .int .u8 0, .int .u8 0] 63)) = w1 at K H hs' ⊢
  refine wp_region_list ?_
  refine pureL (.slice (some ⟨w.heap.size + 1, 0, none⟩) 17 17) rfl (fun _ => by kernel_rfl) ?_
  simp only [Act.put, List.setIfInBounds_toArray, List.set_cons_zero, List.set_cons_succ]
  refine pureL (.slice sp len cap) rfl (fun _ => by kernel_rfl) ?_
  simp only [Act.put, List.setIfInBounds_toArray, List.set_cons_zero, List.set_cons_succ]
  refine actL (.int .i64 (len : Int)) rfl (run_copy_src _ _ 26 26 5 rfl Tryd.underlying26 (by kernel_rfl) (w.heap.size + 1) 17 17 len cap 17 sp z rfl rfl (by omega) (by omega) H.there hs') ?_
  simp only [Act.put, List.setIfInBounds_toArray, List.set_cons_zero, List.set_cons_succ]
  replace K := K.fill (w.heap.size + 1) 17 List.mem_cons_self (row .u8 len z)
  replace H := H.part 0 len (by omega) z
  clear hs'
  generalize w1.setCells (w.heap.size + 1) 0 (row .u8 len z) = w2 at K H ⊢
  have c1 := H.cell len (by omega)
  have f1 := H.free len (by omega)
  replace H := H.set len (by omega) 1
  have H' := H.congr (g := blk len z) (fun j hj => by
    unfold blk
    rw [if_pos hlen]
    by_cases e : j = len
    · subst e; rw [upd_same, if_neg (by omega), if_pos rfl]
    · rw [upd_other _ _ _ _ e]
      unfold over
      by_cases e2 : j < len
      · rw [if_pos (by omega), if_pos e2, Nat.sub_zero]
      · rw [if_neg (by omega), if_neg e2, if_neg e])
  have K' : Kr w _ [] [(w.heap.size + 1, 17), (w.heap.size, 17)] (w2.setCell ⟨w.heap.size + 1, len, none⟩ (.int .u8 1)) := K.poke (w.heap.size + 1) 17 List.mem_cons_self len [.int .u8 1]
  clear H K
  generalize over (fun _ => 0) 0 len z len = y at *
  go_upto_region 5 with fail
  generalize w2.setCell ⟨w.heap.size + 1, len, none⟩ (.int .u8 1) = w3 at K' H' ⊢
  have hz := (K'.room _ (List.mem_cons_of_mem _ List.mem_cons_self)).1
  have hB := (K'.fill _ _ (List.mem_cons_of_mem _ List.mem_cons_self) (row .u8 17 (blk len z))).below
  clear K' c1 f1 hl hl2 hl3 hlen
  generalize hj : blk len z = f at *
  go_wp2_with (first | (refine wpList_load_mid rfl 63 _ rfl (w.heap.size + 1) 0 rfl (row .u8 17 (f)) _ (Has.range (H')) Tryd.underlying63 rfl (big_info _) ?_) | (refine wpList_store_mid rfl 63 _ _ rfl w.heap.size 0 (row .u8 17 f).toArray rfl rfl (room_of hz) (big_info' _) (all_oneCell_toArray (row_one _ _ _)) ?_))
  exact bodyPost_ret (v := .tuple #[(.agg (row .u8 17 (f)).toArray), .int .i64 0]) (results_row_tmp Tryd.results53 rfl rfl (Has.all hz .u8 f).range Tryd.underlying63 rfl (big_info f)) rfl ⟨rfl, hB⟩

theorem cblock_any (sp : Option Addr) (len cap : Nat) (z : Nat → Int) (w : World) (hs : Src w sp len z) :
    Calls Tryd.prog 53 #[.slice sp len cap] w fun e w' => e = .returned (.tuple #[(.agg (row .u8 17 (blk len z)).toArray), .int .i64 (blkE len)]) ∧ Below w.heap.size w w' := by
  by_cases h : len ≤ 16
  · exact cblock_short sp len cap z h w hs
  · exact cblock_long sp len cap z (by omega) w
end Go.Proofs.YteclkiabkdaklaaDoor

namespace Go.Proofs.YteclkiabkdaklaaDoor
open Go.RowKit

/-- The last byte of least bytes is 3 at most. -/
theorem top_byte {f : Nat → Int} {x : Int} (h : In 256 17 f) (e : val 256 f 17 = x % Q) : f 16 ≤ 3 := by
  have v := big_val f
  have i0 := val_in 256 (by decide) f 8 (fun j hj => h j (by omega))
  have i1 := val_in 256 (by decide) (fun j => f (8 + j)) 8 (fun j hj => h (8 + j) (by omega))
  have q : x % Q < Q := Int.emod_lt_of_pos _ (by decide)
  rw [e] at v
  simp only [Q] at *
  omega
end Go.Proofs.YteclkiabkdaklaaDoor

namespace Go.Proofs.YteclkiabkdaklaaDoor

theorem mmodl (x y : Int) : x % Q * y % Q = x * y % Q := by rw [Int.mul_emod, Int.emod_emod, ← Int.mul_emod]
theorem mmodr (x y : Int) : x * (y % Q) % Q = x * y % Q := by rw [Int.mul_emod, Int.emod_emod, ← Int.mul_emod]
theorem mmod (x y : Int) : (x % Q) * (y % Q) % Q = x * y % Q := by rw [mmodl, mmodr]
theorem least_small (x y : Int) (h : x = y % Q) : x % Q = x := by rw [h, Int.emod_emod]

/-- What is carried, byte by byte. -/
def carr (x s : Nat → Int) : Nat → Int
  | 0 => 0
  | k + 1 => (carr x s k + x k + s k) / 256
def summ (x s : Nat → Int) (k : Nat) : Int := (carr x s k + x k + s k) % 256
theorem carr_in (x s : Nat → Int) (n : Nat) (hx : In 256 n x) (hs : In 256 n s) : ∀ k, k ≤ n → 0 ≤ carr x s k ∧ carr x s k ≤ 1
  | 0, _ => by simp [carr]
  | k + 1, h => by
    have i := carr_in x s n hx hs k (by omega)
    have a := hx k (by omega)
    have b := hs k (by omega)
    simp only [carr]
    omega
theorem summ_val (x s : Nat → Int) : ∀ k, val 256 (summ x s) k + 256 ^ k * carr x s k = val 256 x k + val 256 s k
  | 0 => by simp [val, carr]
  | k + 1 => by
    have i := summ_val x s k
    simp only [val, carr]
    rw [Int.pow_succ, Int.mul_assoc]
    have e : 256 ^ k * summ x s k + 256 ^ k * (256 * ((carr x s k + x k + s k) / 256)) = 256 ^ k * carr x s k + 256 ^ k * x k + 256 ^ k * s k := by
      rw [← Int.mul_add, ← Int.mul_add, ← Int.mul_add]
      congr 1
      unfold summ
      omega
    omega
/-- The lowest 16 bytes of a sum are summed byte by byte. -/
theorem low_summ {x s y : Nat → Int} (hy : In 256 16 y) (e : val 256 y 16 = (val 256 x 16 + val 256 s 16) % 340282366920938463463374607431768211456) : ∀ j, j < 16 → y j = summ x s j := by
  have hd : In 256 16 (summ x s) := fun j _ => by unfold summ; omega
  refine val_inj 256 (by decide) y (summ x s) 16 hy hd ?_
  have v := summ_val x s 16
  have i := val_in 256 (by decide) (summ x s) 16 hd
  rw [show (256 : Int) ^ 16 = 340282366920938463463374607431768211456 from by decide] at v i
  omega
end Go.Proofs.YteclkiabkdaklaaDoor
