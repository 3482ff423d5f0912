/- Numbers in three words, and modulo 2^130 - 5: plain facts. -/
import Derived.Test.YtnphoennagmiaaaDoorWd
namespace Go.Proofs.YtnphoennagmiaaaDoor
open Go.RowKit

/-- 2^130 - 5, and the bound of a folded number. -/
abbrev Q : Int := 1361129467683753853853498429727072845819
abbrev FB : Int := 1361129467683753853853498429727072846824
theorem W3 : W ^ 3 = 6277101735386680763835789423207666416102355444464034512896 := by decide
theorem v3 (f : Nat → Int) : val W f 3 = f 0 + 18446744073709551616 * f 1 + 340282366920938463463374607431768211456 * f 2 := by
  simp only [val, W]; omega
theorem v6 (f : Nat → Int) : val W f 6 = f 0 + 18446744073709551616 * f 1 + 340282366920938463463374607431768211456 * f 2 + 6277101735386680763835789423207666416102355444464034512896 * f 3 + 115792089237316195423570985008687907853269984665640564039457584007913129639936 * f 4 + 2135987035920910082395021706169552114602704522356652769947041607822219725780640550022962086936576 * f 5 := by
  simp only [val, W]; omega

/-- Three words. -/
def tri (x y z : Int) : Nat → Int
  | 0 => x
  | 1 => y
  | 2 => z
  | _ + 3 => 0
theorem tri_in {x y z : Int} (hx : 0 ≤ x ∧ x < W) (hy : 0 ≤ y ∧ y < W) (hz : 0 ≤ z ∧ z < W) : In W 3 (tri x y z)
  | 0, _ => hx
  | 1, _ => hy
  | 2, _ => hz
  | _ + 3, h => by omega
theorem tri_val (x y z : Int) : val W (tri x y z) 3 = x + 18446744073709551616 * y + 340282366920938463463374607431768211456 * z := v3 _

/-- A number that is folded. -/
def Folded (n : Nat → Int) : Prop := In W 3 n ∧ val W n 3 ≤ FB

theorem plus_math {a b n : Nat → Int} {cv : Int} (hn : In W 3 n) (c0 : 0 ≤ cv) (he : val W n 3 + W ^ 3 * cv = val W a 3 + val W b 3) (h : val W a 3 + val W b 3 < W ^ 3) : val W n 3 = val W a 3 + val W b 3 := by
  have i := val_in W (by decide) n 3 hn
  rw [W3] at *
  omega

theorem fold_math {x y z p c q d : Int} (hx : 0 ≤ x ∧ x < W) (hy : 0 ≤ y ∧ y < W) (hz : 0 ≤ z ∧ z < 512) (e0 : p + W * c = x + z / 4 * 5) (l0 : 0 ≤ p ∧ p < W) (e1 : q + W * d = y + c) (l1 : 0 ≤ q ∧ q < W) (d0 : 0 ≤ d ∧ d ≤ 1) :
    Folded (tri p q (z % 4 + d)) ∧ val W (tri p q (z % 4 + d)) 3 % Q = (x + 18446744073709551616 * y + 340282366920938463463374607431768211456 * z) % Q := by
  simp only [W] at e0 e1
  refine ⟨⟨tri_in l0 l1 (by simp only [W]; omega), ?_⟩, ?_⟩
  · rw [tri_val]; simp only [W, FB] at *; omega
  · rw [tri_val]; simp only [W, Q] at *; omega

/-- The words of 2^130 - 5. -/
def qW : Nat → Int := tri 18446744073709551611 18446744073709551615 3
theorem qW_in : In W 3 qW := tri_in (by decide) (by decide) (by decide)
theorem val_qW : val W qW 3 = Q := by decide
theorem least_math {n l m : Nat → Int} {cv : Int} (hn : In W 3 n) (hl : In W 3 l) (hc : cv = 0 ∨ cv = 1) (he : val W l 3 + val W qW 3 = val W n 3 + W ^ 3 * cv) (hm : ∀ j, j < 3 → m j = if cv = 1 then n j else l j) (hf : val W n 3 ≤ FB) :
    In W 3 m ∧ val W m 3 = val W n 3 % Q := by
  have i1 := val_in W (by decide) n 3 hn
  have i2 := val_in W (by decide) l 3 hl
  rw [val_qW, W3] at he
  rw [W3] at i1 i2
  rcases hc with rfl | rfl
  · have e := val_congr W (f := m) (g := l) 3 fun j hj => by rw [hm j hj]; rfl
    refine ⟨fun j hj => by rw [hm j hj]; exact hl j hj, ?_⟩
    rw [e]; clear hm e; simp only [Q, FB] at *; omega
  · have e := val_congr W (f := m) (g := n) 3 fun j hj => by rw [hm j hj]; rfl
    refine ⟨fun j hj => by rw [hm j hj]; exact hn j hj, ?_⟩
    rw [e]; clear hm e; simp only [Q, FB] at *; omega

/-- What lower makes of a product: the low part, four times and once the high one. -/
theorem lower_math {d : Nat → Int} (hd : In W 6 d) (hv : val W d 6 ≤ FB * FB) :
    (d 5 = 0 ∧ 0 ≤ d 4 ∧ d 4 < 64) ∧
    val W (tri (d 0) (d 1) (d 2 % 4)) 3 < 1361129467683753853853498429727072845824 ∧ val W (tri (d 2 - d 2 % 4) (d 3) (d 4)) 3 < 43556142965880123323311949751266331066368 ∧
    val W (tri (d 2 / 4 + d 3 % 4 * 4611686018427387904) (d 3 / 4 + d 4 % 4 * 4611686018427387904) (d 4 / 4)) 3 < 10889035741470030830827987437816582766592 ∧
    (val W (tri (d 0) (d 1) (d 2 % 4)) 3 + val W (tri (d 2 - d 2 % 4) (d 3) (d 4)) 3 + val W (tri (d 2 / 4 + d 3 % 4 * 4611686018427387904) (d 3 / 4 + d 4 % 4 * 4611686018427387904) (d 4 / 4)) 3) % Q = val W d 6 % Q := by
  have h0 := hd 0 (by omega)
  have h1 := hd 1 (by omega)
  have h2 := hd 2 (by omega)
  have h3 := hd 3 (by omega)
  have h4 := hd 4 (by omega)
  have h5 := hd 5 (by omega)
  rw [v6] at hv
  simp only [tri_val]
  rw [v6]
  generalize d 0 = x0 at *
  generalize d 1 = x1 at *
  generalize d 2 = x2 at *
  generalize d 3 = x3 at *
  generalize d 4 = x4 at *
  generalize d 5 = x5 at *
  simp only [W, FB, Int.reduceMul] at *
  have a5 : x5 = 0 := by omega
  subst a5
  have a4 : x4 < 64 := by omega
  refine ⟨⟨rfl, by omega, a4⟩, by omega, by omega, by omega, ?_⟩
  clear hv
  simp only [Q]
  omega
theorem mul_FB {x y : Int} (x1 : x ≤ FB) (y0 : 0 ≤ y) (y1 : y ≤ FB) : x * y ≤ FB * FB := Int.mul_le_mul x1 y1 y0 (by decide)
theorem and3 (x : Int) (h0 : 0 ≤ x) (h1 : x < W) : bits BinOp.and IntKind.u64 x 3 = x % 4 := by
  simp only [W] at h1
  obtain ⟨x, rfl⟩ := Int.eq_ofNat_of_zero_le h0
  have e : x &&& 3 = x % 4 := Nat.and_two_pow_sub_one_eq_mod x 2
  rw [show (3 : Int) = ((3 : Nat) : Int) from rfl, u64_and_nat x 3 (by omega) (by omega), e]
  omega
end Go.Proofs.YtnphoennagmiaaaDoor
