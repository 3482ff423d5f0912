/- Texts of Ha Hw Hy Ba Bb Bt Bm Bs Bp, joined. -/
import Derived.Test.YtcdbkbcfjdpdoaaDoorG1
import Derived.Laws.BitsAllLaws
import Derived.Test.YtcdbkbcfjdpdoaaDoorProg
import Derived.BigRegion
import Derived.BigQuiet
import Derived.Laws.Externs
import Derived.Deep.Cut
namespace Go.Proofs.YtcdbkbcfjdpdoaaDoor
open Go.RowKit

/-- A word's bound, at 32 bits. -/
abbrev V : Int := 4294967296
def had (x y : Int) : Int := (x + y) % 4294967296
def hxr (x y : Int) : Int := bits .xor .u32 x y
def hrl (n : Nat) (x : Int) : Int := bits .or .u32 (x * 2 ^ n % 4294967296) (x / 2 ^ (32 - n))
theorem had_eq (x y : Int) : had x y = (x + y) % 4294967296 := rfl
theorem had_in (x y : Int) : 0 ≤ had x y ∧ had x y < V := by rw [had_eq]; simp only [V]; omega
theorem hxr_in (x y : Int) (hx : 0 ≤ x ∧ x < V) (hy : 0 ≤ y ∧ y < V) : 0 ≤ hxr x y ∧ hxr x y < V := by
  obtain ⟨x, rfl⟩ := Int.eq_ofNat_of_zero_le hx.1
  obtain ⟨y, rfl⟩ := Int.eq_ofNat_of_zero_le hy.1
  have h := Nat.xor_lt_two_pow (n := 32) (show x < 2 ^ 32 by have := hx.2; simp only [V] at this; omega) (show y < 2 ^ 32 by have := hy.2; simp only [V] at this; omega)
  unfold hxr
  rw [u32_xor_nat x y (by have := hx.2; simp only [V] at this; omega) (by have := hy.2; simp only [V] at this; omega)]
  simp only [V]
  omega
theorem hrl_in (n : Nat) (x : Int) (hx : 0 ≤ x ∧ x < V) : 0 ≤ hrl n x ∧ hrl n x < V := by
  obtain ⟨x, rfl⟩ := Int.eq_ofNat_of_zero_le hx.1
  have hx2 : x < 4294967296 := by have := hx.2; simp only [V] at this; omega
  unfold hrl
  have e1 : (x : Int) * 2 ^ n % 4294967296 = ((x * 2 ^ n % 4294967296 : Nat) : Int) := by rw [Int.natCast_emod, Int.natCast_mul, Int.natCast_pow]; rfl
  have e2 : (x : Int) / 2 ^ (32 - n) = ((x / 2 ^ (32 - n) : Nat) : Int) := by rw [Int.natCast_ediv, Int.natCast_pow]; rfl
  have i1 : x * 2 ^ n % 4294967296 < 4294967296 := Nat.mod_lt _ (by decide)
  have i2 : x / 2 ^ (32 - n) < 4294967296 := Nat.lt_of_le_of_lt (Nat.div_le_self _ _) hx2
  rw [e1, e2, u32_or_nat _ _ i1 i2]
  have h := Nat.or_lt_two_pow (n := 32) i1 i2
  simp only [V]
  omega

/-- Half a quarter round. -/
def hA (a b : Int) : Int := had a b
def hD (p : Nat) (a b d : Int) : Int := hrl p (hxr d (had a b))
def hC (p : Nat) (a b c d : Int) : Int := had c (hD p a b d)
def hB (p q : Nat) (a b c d : Int) : Int := hrl q (hxr b (hC p a b c d))
/-- A quarter round. -/
def qA (a b c d : Int) : Int := hA (hA a b) (hB 16 12 a b c d)
def qB (a b c d : Int) : Int := hB 8 7 (hA a b) (hB 16 12 a b c d) (hC 16 a b c d) (hD 16 a b d)
def qC (a b c d : Int) : Int := hC 8 (hA a b) (hB 16 12 a b c d) (hC 16 a b c d) (hD 16 a b d)
def qD (a b c d : Int) : Int := hD 8 (hA a b) (hB 16 12 a b c d) (hD 16 a b d)
theorem hA_in (a b : Int) : 0 ≤ hA a b ∧ hA a b < V := had_in _ _
theorem hD_in (p : Nat) (a b d : Int) (hd : 0 ≤ d ∧ d < V) : 0 ≤ hD p a b d ∧ hD p a b d < V := hrl_in _ _ (hxr_in _ _ hd (had_in _ _))
theorem hC_in (p : Nat) (a b c d : Int) : 0 ≤ hC p a b c d ∧ hC p a b c d < V := had_in _ _
theorem hB_in (p q : Nat) (a b c d : Int) (hb : 0 ≤ b ∧ b < V) : 0 ≤ hB p q a b c d ∧ hB p q a b c d < V := hrl_in _ _ (hxr_in _ _ hb (had_in _ _))
theorem qA_in (a b c d : Int) : 0 ≤ qA a b c d ∧ qA a b c d < V := hA_in _ _
theorem qB_in (a b c d : Int) (hb : 0 ≤ b ∧ b < V) : 0 ≤ qB a b c d ∧ qB a b c d < V := hB_in _ _ _ _ _ _ (hB_in _ _ _ _ _ _ hb)
theorem qC_in (a b c d : Int) : 0 ≤ qC a b c d ∧ qC a b c d < V := hC_in _ _ _ _ _
theorem qD_in (a b c d : Int) (hd : 0 ≤ d ∧ d < V) : 0 ≤ qD a b c d ∧ qD a b c d < V := hD_in _ _ _ _ (hD_in _ _ _ _ hd)

/-- Four words. -/
def quad (a b c d : Int) : Nat → Int
  | 0 => a
  | 1 => b
  | 2 => c
  | 3 => d
  | _ + 4 => 0
theorem quad_in {M a b c d : Int} (ha : 0 ≤ a ∧ a < M) (hb : 0 ≤ b ∧ b < M) (hc : 0 ≤ c ∧ c < M) (hd : 0 ≤ d ∧ d < M) : In M 4 (quad a b c d)
  | 0, _ => ha
  | 1, _ => hb
  | 2, _ => hc
  | 3, _ => hd
  | _ + 4, h => by omega
def hqt (x : Nat → Int) : Nat → Int := quad (qA (x 0) (x 1) (x 2) (x 3)) (qB (x 0) (x 1) (x 2) (x 3)) (qC (x 0) (x 1) (x 2) (x 3)) (qD (x 0) (x 1) (x 2) (x 3))
theorem hqt_in (x : Nat → Int) (h : In V 4 x) : In V 4 (hqt x) := quad_in (qA_in _ _ _ _) (qB_in _ _ _ _ (h 1 (by omega))) (qC_in _ _ _ _) (qD_in _ _ _ _ (h 3 (by omega)))

/-- The words that a double round turns together. -/
def pA (i : Nat) : Nat := i % 4
def pB (i : Nat) : Nat := 4 + (i + i / 4) % 4
def pC (i : Nat) : Nat := 8 + (i + 2 * (i / 4)) % 4
def pD (i : Nat) : Nat := 12 + (i + 3 * (i / 4)) % 4
def tAt (s : Nat → Int) (i : Nat) : Nat → Int :=
  upd (upd (upd (upd s (pA i) (qA (s (pA i)) (s (pB i)) (s (pC i)) (s (pD i)))) (pB i) (qB (s (pA i)) (s (pB i)) (s (pC i)) (s (pD i)))) (pC i) (qC (s (pA i)) (s (pB i)) (s (pC i)) (s (pD i)))) (pD i) (qD (s (pA i)) (s (pB i)) (s (pC i)) (s (pD i)))
theorem pA_lt (i : Nat) : pA i < 4 := Nat.mod_lt _ (by decide)
theorem pB_lt (i : Nat) : pB i < 8 := by have := Nat.mod_lt (i + i / 4) (show 4 > 0 by decide); unfold pB; omega
theorem pC_lt (i : Nat) : pC i < 12 := by have := Nat.mod_lt (i + 2 * (i / 4)) (show 4 > 0 by decide); unfold pC; omega
theorem pD_lt (i : Nat) : pD i < 16 := by have := Nat.mod_lt (i + 3 * (i / 4)) (show 4 > 0 by decide); unfold pD; omega
theorem tAt_in (s : Nat → Int) (i : Nat) (h : In V 16 s) : In V 16 (tAt s i) := by
  have a := pA_lt i
  have b := pB_lt i
  have c := pC_lt i
  have d := pD_lt i
  have e1 := qA_in (s (pA i)) (s (pB i)) (s (pC i)) (s (pD i))
  have e2 := qB_in (s (pA i)) (s (pB i)) (s (pC i)) (s (pD i)) (h _ (by omega))
  have e3 := qC_in (s (pA i)) (s (pB i)) (s (pC i)) (s (pD i))
  have e4 := qD_in (s (pA i)) (s (pB i)) (s (pC i)) (s (pD i)) (h _ (by omega))
  exact (((h.upd _ _ e1.1 e1.2).upd _ _ e2.1 e2.2).upd _ _ e3.1 e3.2).upd _ _ e4.1 e4.2
def tN (s : Nat → Int) : Nat → Nat → Int
  | 0 => s
  | i + 1 => tAt (tN s i) i
theorem tN_in (s : Nat → Int) (h : In V 16 s) : ∀ i, In V 16 (tN s i)
  | 0 => h
  | i + 1 => tAt_in _ _ (tN_in s h i)
def drN (s : Nat → Int) : Nat → Nat → Int
  | 0 => s
  | n + 1 => tN (drN s n) 8
theorem drN_in (s : Nat → Int) (h : In V 16 s) : ∀ n, In V 16 (drN s n)
  | 0 => h
  | n + 1 => tN_in _ (drN_in s h n) 8
theorem drN_first (s : Nat → Int) : ∀ n, drN s (n + 1) = drN (tN s 8) n
  | 0 => rfl
  | n + 1 => by
    show tN (drN s (n + 1)) 8 = tN (drN (tN s 8) n) 8
    rw [drN_first s n]

/-- Sixteen words. -/
def six (x0 x1 x2 x3 x4 x5 x6 x7 x8 x9 x10 x11 x12 x13 x14 x15 : Int) : Nat → Int
  | 0 => x0
  | 1 => x1
  | 2 => x2
  | 3 => x3
  | 4 => x4
  | 5 => x5
  | 6 => x6
  | 7 => x7
  | 8 => x8
  | 9 => x9
  | 10 => x10
  | 11 => x11
  | 12 => x12
  | 13 => x13
  | 14 => x14
  | 15 => x15
  | _ + 16 => 0
theorem six_in {M : Int} (x0 x1 x2 x3 x4 x5 x6 x7 x8 x9 x10 x11 x12 x13 x14 x15 : Int) (h0 : 0 ≤ x0 ∧ x0 < M) (h1 : 0 ≤ x1 ∧ x1 < M) (h2 : 0 ≤ x2 ∧ x2 < M) (h3 : 0 ≤ x3 ∧ x3 < M) (h4 : 0 ≤ x4 ∧ x4 < M) (h5 : 0 ≤ x5 ∧ x5 < M) (h6 : 0 ≤ x6 ∧ x6 < M) (h7 : 0 ≤ x7 ∧ x7 < M) (h8 : 0 ≤ x8 ∧ x8 < M) (h9 : 0 ≤ x9 ∧ x9 < M) (h10 : 0 ≤ x10 ∧ x10 < M) (h11 : 0 ≤ x11 ∧ x11 < M) (h12 : 0 ≤ x12 ∧ x12 < M) (h13 : 0 ≤ x13 ∧ x13 < M) (h14 : 0 ≤ x14 ∧ x14 < M) (h15 : 0 ≤ x15 ∧ x15 < M) : In M 16 (six x0 x1 x2 x3 x4 x5 x6 x7 x8 x9 x10 x11 x12 x13 x14 x15)
  | 0, _ => h0
  | 1, _ => h1
  | 2, _ => h2
  | 3, _ => h3
  | 4, _ => h4
  | 5, _ => h5
  | 6, _ => h6
  | 7, _ => h7
  | 8, _ => h8
  | 9, _ => h9
  | 10, _ => h10
  | 11, _ => h11
  | 12, _ => h12
  | 13, _ => h13
  | 14, _ => h14
  | 15, _ => h15
  | _ + 16, h => by omega
theorem upd_six0 (x0 x1 x2 x3 x4 x5 x6 x7 x8 x9 x10 x11 x12 x13 x14 x15 v : Int) : upd (six x0 x1 x2 x3 x4 x5 x6 x7 x8 x9 x10 x11 x12 x13 x14 x15) 0 v = six v x1 x2 x3 x4 x5 x6 x7 x8 x9 x10 x11 x12 x13 x14 x15 := by
  funext j
  match j with
  | 0 | 1 | 2 | 3 | 4 | 5 | 6 | 7 | 8 | 9 | 10 | 11 | 12 | 13 | 14 | 15 => rfl
  | j + 16 => rfl
theorem upd_six1 (x0 x1 x2 x3 x4 x5 x6 x7 x8 x9 x10 x11 x12 x13 x14 x15 v : Int) : upd (six x0 x1 x2 x3 x4 x5 x6 x7 x8 x9 x10 x11 x12 x13 x14 x15) 1 v = six x0 v x2 x3 x4 x5 x6 x7 x8 x9 x10 x11 x12 x13 x14 x15 := by
  funext j
  match j with
  | 0 | 1 | 2 | 3 | 4 | 5 | 6 | 7 | 8 | 9 | 10 | 11 | 12 | 13 | 14 | 15 => rfl
  | j + 16 => rfl
theorem upd_six2 (x0 x1 x2 x3 x4 x5 x6 x7 x8 x9 x10 x11 x12 x13 x14 x15 v : Int) : upd (six x0 x1 x2 x3 x4 x5 x6 x7 x8 x9 x10 x11 x12 x13 x14 x15) 2 v = six x0 x1 v x3 x4 x5 x6 x7 x8 x9 x10 x11 x12 x13 x14 x15 := by
  funext j
  match j with
  | 0 | 1 | 2 | 3 | 4 | 5 | 6 | 7 | 8 | 9 | 10 | 11 | 12 | 13 | 14 | 15 => rfl
  | j + 16 => rfl
theorem upd_six3 (x0 x1 x2 x3 x4 x5 x6 x7 x8 x9 x10 x11 x12 x13 x14 x15 v : Int) : upd (six x0 x1 x2 x3 x4 x5 x6 x7 x8 x9 x10 x11 x12 x13 x14 x15) 3 v = six x0 x1 x2 v x4 x5 x6 x7 x8 x9 x10 x11 x12 x13 x14 x15 := by
  funext j
  match j with
  | 0 | 1 | 2 | 3 | 4 | 5 | 6 | 7 | 8 | 9 | 10 | 11 | 12 | 13 | 14 | 15 => rfl
  | j + 16 => rfl
theorem upd_six4 (x0 x1 x2 x3 x4 x5 x6 x7 x8 x9 x10 x11 x12 x13 x14 x15 v : Int) : upd (six x0 x1 x2 x3 x4 x5 x6 x7 x8 x9 x10 x11 x12 x13 x14 x15) 4 v = six x0 x1 x2 x3 v x5 x6 x7 x8 x9 x10 x11 x12 x13 x14 x15 := by
  funext j
  match j with
  | 0 | 1 | 2 | 3 | 4 | 5 | 6 | 7 | 8 | 9 | 10 | 11 | 12 | 13 | 14 | 15 => rfl
  | j + 16 => rfl
theorem upd_six5 (x0 x1 x2 x3 x4 x5 x6 x7 x8 x9 x10 x11 x12 x13 x14 x15 v : Int) : upd (six x0 x1 x2 x3 x4 x5 x6 x7 x8 x9 x10 x11 x12 x13 x14 x15) 5 v = six x0 x1 x2 x3 x4 v x6 x7 x8 x9 x10 x11 x12 x13 x14 x15 := by
  funext j
  match j with
  | 0 | 1 | 2 | 3 | 4 | 5 | 6 | 7 | 8 | 9 | 10 | 11 | 12 | 13 | 14 | 15 => rfl
  | j + 16 => rfl
theorem upd_six6 (x0 x1 x2 x3 x4 x5 x6 x7 x8 x9 x10 x11 x12 x13 x14 x15 v : Int) : upd (six x0 x1 x2 x3 x4 x5 x6 x7 x8 x9 x10 x11 x12 x13 x14 x15) 6 v = six x0 x1 x2 x3 x4 x5 v x7 x8 x9 x10 x11 x12 x13 x14 x15 := by
  funext j
  match j with
  | 0 | 1 | 2 | 3 | 4 | 5 | 6 | 7 | 8 | 9 | 10 | 11 | 12 | 13 | 14 | 15 => rfl
  | j + 16 => rfl
theorem upd_six7 (x0 x1 x2 x3 x4 x5 x6 x7 x8 x9 x10 x11 x12 x13 x14 x15 v : Int) : upd (six x0 x1 x2 x3 x4 x5 x6 x7 x8 x9 x10 x11 x12 x13 x14 x15) 7 v = six x0 x1 x2 x3 x4 x5 x6 v x8 x9 x10 x11 x12 x13 x14 x15 := by
  funext j
  match j with
  | 0 | 1 | 2 | 3 | 4 | 5 | 6 | 7 | 8 | 9 | 10 | 11 | 12 | 13 | 14 | 15 => rfl
  | j + 16 => rfl
theorem upd_six8 (x0 x1 x2 x3 x4 x5 x6 x7 x8 x9 x10 x11 x12 x13 x14 x15 v : Int) : upd (six x0 x1 x2 x3 x4 x5 x6 x7 x8 x9 x10 x11 x12 x13 x14 x15) 8 v = six x0 x1 x2 x3 x4 x5 x6 x7 v x9 x10 x11 x12 x13 x14 x15 := by
  funext j
  match j with
  | 0 | 1 | 2 | 3 | 4 | 5 | 6 | 7 | 8 | 9 | 10 | 11 | 12 | 13 | 14 | 15 => rfl
  | j + 16 => rfl
theorem upd_six9 (x0 x1 x2 x3 x4 x5 x6 x7 x8 x9 x10 x11 x12 x13 x14 x15 v : Int) : upd (six x0 x1 x2 x3 x4 x5 x6 x7 x8 x9 x10 x11 x12 x13 x14 x15) 9 v = six x0 x1 x2 x3 x4 x5 x6 x7 x8 v x10 x11 x12 x13 x14 x15 := by
  funext j
  match j with
  | 0 | 1 | 2 | 3 | 4 | 5 | 6 | 7 | 8 | 9 | 10 | 11 | 12 | 13 | 14 | 15 => rfl
  | j + 16 => rfl
theorem upd_six10 (x0 x1 x2 x3 x4 x5 x6 x7 x8 x9 x10 x11 x12 x13 x14 x15 v : Int) : upd (six x0 x1 x2 x3 x4 x5 x6 x7 x8 x9 x10 x11 x12 x13 x14 x15) 10 v = six x0 x1 x2 x3 x4 x5 x6 x7 x8 x9 v x11 x12 x13 x14 x15 := by
  funext j
  match j with
  | 0 | 1 | 2 | 3 | 4 | 5 | 6 | 7 | 8 | 9 | 10 | 11 | 12 | 13 | 14 | 15 => rfl
  | j + 16 => rfl
theorem upd_six11 (x0 x1 x2 x3 x4 x5 x6 x7 x8 x9 x10 x11 x12 x13 x14 x15 v : Int) : upd (six x0 x1 x2 x3 x4 x5 x6 x7 x8 x9 x10 x11 x12 x13 x14 x15) 11 v = six x0 x1 x2 x3 x4 x5 x6 x7 x8 x9 x10 v x12 x13 x14 x15 := by
  funext j
  match j with
  | 0 | 1 | 2 | 3 | 4 | 5 | 6 | 7 | 8 | 9 | 10 | 11 | 12 | 13 | 14 | 15 => rfl
  | j + 16 => rfl
theorem upd_six12 (x0 x1 x2 x3 x4 x5 x6 x7 x8 x9 x10 x11 x12 x13 x14 x15 v : Int) : upd (six x0 x1 x2 x3 x4 x5 x6 x7 x8 x9 x10 x11 x12 x13 x14 x15) 12 v = six x0 x1 x2 x3 x4 x5 x6 x7 x8 x9 x10 x11 v x13 x14 x15 := by
  funext j
  match j with
  | 0 | 1 | 2 | 3 | 4 | 5 | 6 | 7 | 8 | 9 | 10 | 11 | 12 | 13 | 14 | 15 => rfl
  | j + 16 => rfl
theorem upd_six13 (x0 x1 x2 x3 x4 x5 x6 x7 x8 x9 x10 x11 x12 x13 x14 x15 v : Int) : upd (six x0 x1 x2 x3 x4 x5 x6 x7 x8 x9 x10 x11 x12 x13 x14 x15) 13 v = six x0 x1 x2 x3 x4 x5 x6 x7 x8 x9 x10 x11 x12 v x14 x15 := by
  funext j
  match j with
  | 0 | 1 | 2 | 3 | 4 | 5 | 6 | 7 | 8 | 9 | 10 | 11 | 12 | 13 | 14 | 15 => rfl
  | j + 16 => rfl
theorem upd_six14 (x0 x1 x2 x3 x4 x5 x6 x7 x8 x9 x10 x11 x12 x13 x14 x15 v : Int) : upd (six x0 x1 x2 x3 x4 x5 x6 x7 x8 x9 x10 x11 x12 x13 x14 x15) 14 v = six x0 x1 x2 x3 x4 x5 x6 x7 x8 x9 x10 x11 x12 x13 v x15 := by
  funext j
  match j with
  | 0 | 1 | 2 | 3 | 4 | 5 | 6 | 7 | 8 | 9 | 10 | 11 | 12 | 13 | 14 | 15 => rfl
  | j + 16 => rfl
theorem upd_six15 (x0 x1 x2 x3 x4 x5 x6 x7 x8 x9 x10 x11 x12 x13 x14 x15 v : Int) : upd (six x0 x1 x2 x3 x4 x5 x6 x7 x8 x9 x10 x11 x12 x13 x14 x15) 15 v = six x0 x1 x2 x3 x4 x5 x6 x7 x8 x9 x10 x11 x12 x13 x14 v := by
  funext j
  match j with
  | 0 | 1 | 2 | 3 | 4 | 5 | 6 | 7 | 8 | 9 | 10 | 11 | 12 | 13 | 14 | 15 => rfl
  | j + 16 => rfl
theorem tAt_six0 (x0 x1 x2 x3 x4 x5 x6 x7 x8 x9 x10 x11 x12 x13 x14 x15 : Int) : tAt (six x0 x1 x2 x3 x4 x5 x6 x7 x8 x9 x10 x11 x12 x13 x14 x15) 0 = six (qA x0 x4 x8 x12) x1 x2 x3 (qB x0 x4 x8 x12) x5 x6 x7 (qC x0 x4 x8 x12) x9 x10 x11 (qD x0 x4 x8 x12) x13 x14 x15 := by
  show upd (upd (upd (upd (six x0 x1 x2 x3 x4 x5 x6 x7 x8 x9 x10 x11 x12 x13 x14 x15) 0 (qA x0 x4 x8 x12)) 4 (qB x0 x4 x8 x12)) 8 (qC x0 x4 x8 x12)) 12 (qD x0 x4 x8 x12) = _
  rw [upd_six0, upd_six4, upd_six8, upd_six12]
theorem tAt_six1 (x0 x1 x2 x3 x4 x5 x6 x7 x8 x9 x10 x11 x12 x13 x14 x15 : Int) : tAt (six x0 x1 x2 x3 x4 x5 x6 x7 x8 x9 x10 x11 x12 x13 x14 x15) 1 = six x0 (qA x1 x5 x9 x13) x2 x3 x4 (qB x1 x5 x9 x13) x6 x7 x8 (qC x1 x5 x9 x13) x10 x11 x12 (qD x1 x5 x9 x13) x14 x15 := by
  show upd (upd (upd (upd (six x0 x1 x2 x3 x4 x5 x6 x7 x8 x9 x10 x11 x12 x13 x14 x15) 1 (qA x1 x5 x9 x13)) 5 (qB x1 x5 x9 x13)) 9 (qC x1 x5 x9 x13)) 13 (qD x1 x5 x9 x13) = _
  rw [upd_six1, upd_six5, upd_six9, upd_six13]
theorem tAt_six2 (x0 x1 x2 x3 x4 x5 x6 x7 x8 x9 x10 x11 x12 x13 x14 x15 : Int) : tAt (six x0 x1 x2 x3 x4 x5 x6 x7 x8 x9 x10 x11 x12 x13 x14 x15) 2 = six x0 x1 (qA x2 x6 x10 x14) x3 x4 x5 (qB x2 x6 x10 x14) x7 x8 x9 (qC x2 x6 x10 x14) x11 x12 x13 (qD x2 x6 x10 x14) x15 := by
  show upd (upd (upd (upd (six x0 x1 x2 x3 x4 x5 x6 x7 x8 x9 x10 x11 x12 x13 x14 x15) 2 (qA x2 x6 x10 x14)) 6 (qB x2 x6 x10 x14)) 10 (qC x2 x6 x10 x14)) 14 (qD x2 x6 x10 x14) = _
  rw [upd_six2, upd_six6, upd_six10, upd_six14]
theorem tAt_six3 (x0 x1 x2 x3 x4 x5 x6 x7 x8 x9 x10 x11 x12 x13 x14 x15 : Int) : tAt (six x0 x1 x2 x3 x4 x5 x6 x7 x8 x9 x10 x11 x12 x13 x14 x15) 3 = six x0 x1 x2 (qA x3 x7 x11 x15) x4 x5 x6 (qB x3 x7 x11 x15) x8 x9 x10 (qC x3 x7 x11 x15) x12 x13 x14 (qD x3 x7 x11 x15) := by
  show upd (upd (upd (upd (six x0 x1 x2 x3 x4 x5 x6 x7 x8 x9 x10 x11 x12 x13 x14 x15) 3 (qA x3 x7 x11 x15)) 7 (qB x3 x7 x11 x15)) 11 (qC x3 x7 x11 x15)) 15 (qD x3 x7 x11 x15) = _
  rw [upd_six3, upd_six7, upd_six11, upd_six15]
theorem tAt_six4 (x0 x1 x2 x3 x4 x5 x6 x7 x8 x9 x10 x11 x12 x13 x14 x15 : Int) : tAt (six x0 x1 x2 x3 x4 x5 x6 x7 x8 x9 x10 x11 x12 x13 x14 x15) 4 = six (qA x0 x5 x10 x15) x1 x2 x3 x4 (qB x0 x5 x10 x15) x6 x7 x8 x9 (qC x0 x5 x10 x15) x11 x12 x13 x14 (qD x0 x5 x10 x15) := by
  show upd (upd (upd (upd (six x0 x1 x2 x3 x4 x5 x6 x7 x8 x9 x10 x11 x12 x13 x14 x15) 0 (qA x0 x5 x10 x15)) 5 (qB x0 x5 x10 x15)) 10 (qC x0 x5 x10 x15)) 15 (qD x0 x5 x10 x15) = _
  rw [upd_six0, upd_six5, upd_six10, upd_six15]
theorem tAt_six5 (x0 x1 x2 x3 x4 x5 x6 x7 x8 x9 x10 x11 x12 x13 x14 x15 : Int) : tAt (six x0 x1 x2 x3 x4 x5 x6 x7 x8 x9 x10 x11 x12 x13 x14 x15) 5 = six x0 (qA x1 x6 x11 x12) x2 x3 x4 x5 (qB x1 x6 x11 x12) x7 x8 x9 x10 (qC x1 x6 x11 x12) (qD x1 x6 x11 x12) x13 x14 x15 := by
  show upd (upd (upd (upd (six x0 x1 x2 x3 x4 x5 x6 x7 x8 x9 x10 x11 x12 x13 x14 x15) 1 (qA x1 x6 x11 x12)) 6 (qB x1 x6 x11 x12)) 11 (qC x1 x6 x11 x12)) 12 (qD x1 x6 x11 x12) = _
  rw [upd_six1, upd_six6, upd_six11, upd_six12]
theorem tAt_six6 (x0 x1 x2 x3 x4 x5 x6 x7 x8 x9 x10 x11 x12 x13 x14 x15 : Int) : tAt (six x0 x1 x2 x3 x4 x5 x6 x7 x8 x9 x10 x11 x12 x13 x14 x15) 6 = six x0 x1 (qA x2 x7 x8 x13) x3 x4 x5 x6 (qB x2 x7 x8 x13) (qC x2 x7 x8 x13) x9 x10 x11 x12 (qD x2 x7 x8 x13) x14 x15 := by
  show upd (upd (upd (upd (six x0 x1 x2 x3 x4 x5 x6 x7 x8 x9 x10 x11 x12 x13 x14 x15) 2 (qA x2 x7 x8 x13)) 7 (qB x2 x7 x8 x13)) 8 (qC x2 x7 x8 x13)) 13 (qD x2 x7 x8 x13) = _
  rw [upd_six2, upd_six7, upd_six8, upd_six13]
theorem tAt_six7 (x0 x1 x2 x3 x4 x5 x6 x7 x8 x9 x10 x11 x12 x13 x14 x15 : Int) : tAt (six x0 x1 x2 x3 x4 x5 x6 x7 x8 x9 x10 x11 x12 x13 x14 x15) 7 = six x0 x1 x2 (qA x3 x4 x9 x14) (qB x3 x4 x9 x14) x5 x6 x7 x8 (qC x3 x4 x9 x14) x10 x11 x12 x13 (qD x3 x4 x9 x14) x15 := by
  show upd (upd (upd (upd (six x0 x1 x2 x3 x4 x5 x6 x7 x8 x9 x10 x11 x12 x13 x14 x15) 3 (qA x3 x4 x9 x14)) 4 (qB x3 x4 x9 x14)) 9 (qC x3 x4 x9 x14)) 14 (qD x3 x4 x9 x14) = _
  rw [upd_six3, upd_six4, upd_six9, upd_six14]

def forceN {α : Type} (t : Nat) (f : Nat → α) : α :=
  match t with
  | 0 => f 0
  | m + 1 => f (m + 1)
theorem forceN_eq {α : Type} (t : Nat) (f : Nat → α) : forceN t f = f t := by cases t <;> rfl
def forceI {α : Type} (t : Int) (f : Int → α) : α :=
  match t with
  | .ofNat m => forceN m fun m => f (.ofNat m)
  | .negSucc m => f (.negSucc m)
theorem forceI_eq {α : Type} (t : Int) (f : Int → α) : forceI t f = f t := by
  cases t with
  | ofNat m => exact forceN_eq m (fun m => f (.ofNat m))
  | negSucc m => rfl
/-- A double round of sixteen words, each number reckoned at once. -/
def ev8 {α : Type} (x0 x1 x2 x3 x4 x5 x6 x7 x8 x9 x10 x11 x12 x13 x14 x15 : Int) (f : Int → Int → Int → Int → Int → Int → Int → Int → Int → Int → Int → Int → Int → Int → Int → Int → α) : α :=
  forceI (had x0 x4) fun x0 => forceI (hrl 16 (hxr x12 x0)) fun x12 => forceI (had x8 x12) fun x8 => forceI (hrl 12 (hxr x4 x8)) fun x4 =>
  forceI (had x0 x4) fun x0 => forceI (hrl 8 (hxr x12 x0)) fun x12 => forceI (had x8 x12) fun x8 => forceI (hrl 7 (hxr x4 x8)) fun x4 =>
  forceI (had x1 x5) fun x1 => forceI (hrl 16 (hxr x13 x1)) fun x13 => forceI (had x9 x13) fun x9 => forceI (hrl 12 (hxr x5 x9)) fun x5 =>
  forceI (had x1 x5) fun x1 => forceI (hrl 8 (hxr x13 x1)) fun x13 => forceI (had x9 x13) fun x9 => forceI (hrl 7 (hxr x5 x9)) fun x5 =>
  forceI (had x2 x6) fun x2 => forceI (hrl 16 (hxr x14 x2)) fun x14 => forceI (had x10 x14) fun x10 => forceI (hrl 12 (hxr x6 x10)) fun x6 =>
  forceI (had x2 x6) fun x2 => forceI (hrl 8 (hxr x14 x2)) fun x14 => forceI (had x10 x14) fun x10 => forceI (hrl 7 (hxr x6 x10)) fun x6 =>
  forceI (had x3 x7) fun x3 => forceI (hrl 16 (hxr x15 x3)) fun x15 => forceI (had x11 x15) fun x11 => forceI (hrl 12 (hxr x7 x11)) fun x7 =>
  forceI (had x3 x7) fun x3 => forceI (hrl 8 (hxr x15 x3)) fun x15 => forceI (had x11 x15) fun x11 => forceI (hrl 7 (hxr x7 x11)) fun x7 =>
  forceI (had x0 x5) fun x0 => forceI (hrl 16 (hxr x15 x0)) fun x15 => forceI (had x10 x15) fun x10 => forceI (hrl 12 (hxr x5 x10)) fun x5 =>
  forceI (had x0 x5) fun x0 => forceI (hrl 8 (hxr x15 x0)) fun x15 => forceI (had x10 x15) fun x10 => forceI (hrl 7 (hxr x5 x10)) fun x5 =>
  forceI (had x1 x6) fun x1 => forceI (hrl 16 (hxr x12 x1)) fun x12 => forceI (had x11 x12) fun x11 => forceI (hrl 12 (hxr x6 x11)) fun x6 =>
  forceI (had x1 x6) fun x1 => forceI (hrl 8 (hxr x12 x1)) fun x12 => forceI (had x11 x12) fun x11 => forceI (hrl 7 (hxr x6 x11)) fun x6 =>
  forceI (had x2 x7) fun x2 => forceI (hrl 16 (hxr x13 x2)) fun x13 => forceI (had x8 x13) fun x8 => forceI (hrl 12 (hxr x7 x8)) fun x7 =>
  forceI (had x2 x7) fun x2 => forceI (hrl 8 (hxr x13 x2)) fun x13 => forceI (had x8 x13) fun x8 => forceI (hrl 7 (hxr x7 x8)) fun x7 =>
  forceI (had x3 x4) fun x3 => forceI (hrl 16 (hxr x14 x3)) fun x14 => forceI (had x9 x14) fun x9 => forceI (hrl 12 (hxr x4 x9)) fun x4 =>
  forceI (had x3 x4) fun x3 => forceI (hrl 8 (hxr x14 x3)) fun x14 => forceI (had x9 x14) fun x9 => forceI (hrl 7 (hxr x4 x9)) fun x4 =>
  f x0 x1 x2 x3 x4 x5 x6 x7 x8 x9 x10 x11 x12 x13 x14 x15
def evN : Nat → Int → Int → Int → Int → Int → Int → Int → Int → Int → Int → Int → Int → Int → Int → Int → Int → Nat → Int
  | 0, x0, x1, x2, x3, x4, x5, x6, x7, x8, x9, x10, x11, x12, x13, x14, x15 => six x0 x1 x2 x3 x4 x5 x6 x7 x8 x9 x10 x11 x12 x13 x14 x15
  | n + 1, x0, x1, x2, x3, x4, x5, x6, x7, x8, x9, x10, x11, x12, x13, x14, x15 => ev8 x0 x1 x2 x3 x4 x5 x6 x7 x8 x9 x10 x11 x12 x13 x14 x15 (evN n)
theorem evN_eq : ∀ (n : Nat) (x0 x1 x2 x3 x4 x5 x6 x7 x8 x9 x10 x11 x12 x13 x14 x15 : Int), evN n x0 x1 x2 x3 x4 x5 x6 x7 x8 x9 x10 x11 x12 x13 x14 x15 = drN (six x0 x1 x2 x3 x4 x5 x6 x7 x8 x9 x10 x11 x12 x13 x14 x15) n
  | 0, _, _, _, _, _, _, _, _, _, _, _, _, _, _, _, _ => rfl
  | n + 1, x0, x1, x2, x3, x4, x5, x6, x7, x8, x9, x10, x11, x12, x13, x14, x15 => by
    rw [drN_first]
    show ev8 x0 x1 x2 x3 x4 x5 x6 x7 x8 x9 x10 x11 x12 x13 x14 x15 (evN n) = drN (tAt (tAt (tAt (tAt (tAt (tAt (tAt (tAt (six x0 x1 x2 x3 x4 x5 x6 x7 x8 x9 x10 x11 x12 x13 x14 x15) 0) 1) 2) 3) 4) 5) 6) 7) n
    rw [tAt_six0, tAt_six1, tAt_six2, tAt_six3, tAt_six4, tAt_six5, tAt_six6, tAt_six7, ← evN_eq n]
    simp only [ev8, forceI_eq]
    rfl

/-- A word of four bytes; a word's bytes. -/
def w32 (a : Nat → Int) (o : Nat) : Int := a o + a (o + 1) * 256 + a (o + 2) * 65536 + a (o + 3) * 16777216
theorem w32_in (a : Nat → Int) (o n : Nat) (ho : o + 4 ≤ n) (h : In 256 n a) : 0 ≤ w32 a o ∧ w32 a o < V := by
  have h0 := h o (by omega)
  have h1 := h (o + 1) (by omega)
  have h2 := h (o + 2) (by omega)
  have h3 := h (o + 3) (by omega)
  unfold w32
  simp only [V]
  omega
def b32 (x : Int) : Nat → Int
  | 0 => x % 256
  | 1 => x / 256 % 256
  | 2 => x / 65536 % 256
  | 3 => x / 16777216 % 256
  | _ + 4 => 0
theorem b32_in (x : Int) : In 256 4 (b32 x)
  | 0, _ => by show 0 ≤ x % 256 ∧ x % 256 < 256; omega
  | 1, _ => by show 0 ≤ x / 256 % 256 ∧ x / 256 % 256 < 256; omega
  | 2, _ => by show 0 ≤ x / 65536 % 256 ∧ x / 65536 % 256 < 256; omega
  | 3, _ => by show 0 ≤ x / 16777216 % 256 ∧ x / 16777216 % 256 < 256; omega
  | _ + 4, h => by omega

/-- What a block is made of. -/
def hst (k : Nat → Int) (c : Int) (n : Nat → Int) : Nat → Int := six 1634760805 857760878 2036477234 1797285236 (w32 k 0) (w32 k 4) (w32 k 8) (w32 k 12) (w32 k 16) (w32 k 20) (w32 k 24) (w32 k 28) c (w32 n 0) (w32 n 4) (w32 n 8)
theorem hst_in (k : Nat → Int) (c : Int) (n : Nat → Int) (hk : In 256 32 k) (hc : 0 ≤ c ∧ c < V) (hn : In 256 12 n) : In V 16 (hst k c n) :=
  six_in _ _ _ _ _ _ _ _ _ _ _ _ _ _ _ _ (by decide) (by decide) (by decide) (by decide) (w32_in k 0 32 (by omega) hk) (w32_in k 4 32 (by omega) hk) (w32_in k 8 32 (by omega) hk) (w32_in k 12 32 (by omega) hk) (w32_in k 16 32 (by omega) hk) (w32_in k 20 32 (by omega) hk) (w32_in k 24 32 (by omega) hk) (w32_in k 28 32 (by omega) hk) hc (w32_in n 0 12 (by omega) hn) (w32_in n 4 12 (by omega) hn) (w32_in n 8 12 (by omega) hn)
/-- The words of a block, and its bytes. -/
def hwd (k : Nat → Int) (c : Int) (n : Nat → Int) (i : Nat) : Int := had (drN (hst k c n) 10 i) (hst k c n i)
def hblk (k : Nat → Int) (c : Int) (n : Nat → Int) : Nat → Int := fun j => b32 (hwd k c n (j / 4)) (j % 4)
theorem hblk_in (k : Nat → Int) (c : Int) (n : Nat → Int) (m : Nat) : In 256 m (hblk k c n) := fun j _ => b32_in _ _ (Nat.mod_lt _ (by decide))
/-- What is laid over. -/
def hxor (k : Nat → Int) (c : Int) (n : Nat → Int) (z : Nat → Int) : Nat → Int := fun j => bits .xor .u8 (z j) (hblk k ((c + ((j / 64 : Nat) : Int)) % 4294967296) n (j % 64))
theorem u8_xor_in (x y : Int) (hx : 0 ≤ x ∧ x < 256) (hy : 0 ≤ y ∧ y < 256) : 0 ≤ bits .xor .u8 x y ∧ bits .xor .u8 x y < 256 := by
  obtain ⟨x, rfl⟩ := Int.eq_ofNat_of_zero_le hx.1
  obtain ⟨y, rfl⟩ := Int.eq_ofNat_of_zero_le hy.1
  rw [u8_xor_nat x y (by omega) (by omega)]
  have h := Nat.xor_lt_two_pow (n := 8) (x := x) (y := y) (by omega) (by omega)
  omega
theorem hxor_in (k : Nat → Int) (c : Int) (n : Nat → Int) (z : Nat → Int) (m : Nat) (hz : In 256 m z) : In 256 m (hxor k c n z) := fun j hj => u8_xor_in _ _ (hz j hj) (hblk_in _ _ _ 64 _ (Nat.mod_lt _ (by decide)))
theorem or_step32 (M s : Nat) (hM : M = 2 ^ s) (hb : M * 256 ≤ 4294967296) (a x : Int) (h0 : 0 ≤ a) (h1 : a < M) (x0 : 0 ≤ x) (x1 : x < 256) :
    bits BinOp.or IntKind.u32 a (x % 4294967296 * (M : Int) % 4294967296) = a + x * (M : Int) := by
  obtain ⟨a, rfl⟩ := Int.eq_ofNat_of_zero_le h0
  obtain ⟨x, rfl⟩ := Int.eq_ofNat_of_zero_le x0
  have hx : x * M + M ≤ 256 * M := by rw [← Nat.succ_mul]; exact Nat.mul_le_mul_right M (by omega)
  have e1 : (x : Int) % 4294967296 = (x : Int) := by omega
  have e2 : (x : Int) * (M : Int) = ((x * M : Nat) : Int) := (Int.natCast_mul x M).symm
  have e3 : ((x * M : Nat) : Int) % 4294967296 = ((x * M : Nat) : Int) := by omega
  rw [e1, e2, e3, u32_or_nat a (x * M) (by omega) (by omega)]
  have h := Nat.two_pow_add_eq_or_of_lt (i := s) (b := a) (by omega) x
  rw [← hM, Nat.mul_comm M x] at h
  rw [Nat.or_comm, ← h]
  omega
theorem glued32 (x0 x1 x2 x3 : Int) (h0 : 0 ≤ x0 ∧ x0 < 256) (h1 : 0 ≤ x1 ∧ x1 < 256) (h2 : 0 ≤ x2 ∧ x2 < 256) (h3 : 0 ≤ x3 ∧ x3 < 256) :
    bits BinOp.or IntKind.u32 (bits BinOp.or IntKind.u32 (bits BinOp.or IntKind.u32 (x0 % 4294967296) (x1 % 4294967296 * 256 % 4294967296)) (x2 % 4294967296 * 65536 % 4294967296)) (x3 % 4294967296 * 16777216 % 4294967296) = x0 + x1 * 256 + x2 * 65536 + x3 * 16777216 := by
  have e0 : x0 % 4294967296 = x0 := by omega
  have e1 := or_step32 256 8 (by decide) (by decide) (x0) x1 (by omega) (by omega) h1.1 h1.2
  have e2 := or_step32 65536 16 (by decide) (by decide) (x0 + x1 * ((256 : Nat) : Int)) x2 (by omega) (by omega) h2.1 h2.2
  have e3 := or_step32 16777216 24 (by decide) (by decide) (x0 + x1 * ((256 : Nat) : Int) + x2 * ((65536 : Nat) : Int)) x3 (by omega) (by omega) h3.1 h3.2
  simp only [Int.cast_ofNat_Int] at e1 e2 e3
  rw [e0, e1, e2, e3]
end Go.Proofs.YtcdbkbcfjdpdoaaDoor

namespace Go.Proofs.YtcdbkbcfjdpdoaaDoor
open Go.RowKit

set_option maxRecDepth 10000 in
set_option maxHeartbeats 4000000 in
theorem of32_raw (B o l c : Nat) (hl : 4 ≤ l) (x0 x1 x2 x3 : Int) (h0 : 0 ≤ x0 ∧ x0 < 256) (h1 : 0 ≤ x1 ∧ x1 < 256) (h2 : 0 ≤ x2 ∧ x2 < 256) (h3 : 0 ≤ x3 ∧ x3 < 256) (w : World) (c0 : w.cell? ⟨B, o, none⟩ = some (.int .u8 x0)) (c1 : w.cell? ⟨B, o + 1, none⟩ = some (.int .u8 x1)) (c2 : w.cell? ⟨B, o + 2, none⟩ = some (.int .u8 x2)) (c3 : w.cell? ⟨B, o + 3, none⟩ = some (.int .u8 x3)) :
    Calls Tryd.prog 43 #[.slice (some ⟨B, o, none⟩) l c] w fun e w' => ∃ q, e = .returned (.int .u32 (x0 + x1 * 256 + x2 * 65536 + x3 * 16777216)) ∧ w' = w.drewN q := by
  have hg := glued32 x0 x1 x2 x3 h0 h1 h2 h3
  have HG := show Hid _ from hg
  have l0 : (0 : Int) < (l : Int) := by omega
  have l1 : (1 : Int) < (l : Int) := by omega
  have l2 : (2 : Int) < (l : Int) := by omega
  have l3 : (3 : Int) < (l : Int) := by omega
  clear hg h0 h1 h2 h3 hl
  go_enter Tryd.func43, Tryd.ntmps43
  go_wp2
  go_quiet (fail)
  go_wp2
  go_ret
  exact ⟨nq, by rw [HG.out]; rfl, rfl⟩
theorem of32_any (B o n l c : Nat) (a : Nat → Int) (hl : 4 ≤ l) (ho : o + 4 ≤ n) (ha : In 256 n a) (w : World) (h : Has w B .u8 n a) :
    Calls Tryd.prog 43 #[.slice (some ⟨B, o, none⟩) l c] w fun e w' => ∃ q, e = .returned (.int .u32 (w32 a o)) ∧ w' = w.drewN q :=
  of32_raw B o l c hl _ _ _ _ (ha o (by omega)) (ha (o + 1) (by omega)) (ha (o + 2) (by omega)) (ha (o + 3) (by omega)) w (h.cell o (by omega)) (h.cell (o + 1) (by omega)) (h.cell (o + 2) (by omega)) (h.cell (o + 3) (by omega))

set_option maxRecDepth 10000 in
set_option maxHeartbeats 4000000 in
theorem put32_raw (B o l c : Nat) (hl : 4 ≤ l) (x : Int) (y0 y1 y2 y3 : Int) (w : World) (c0 : w.cell? ⟨B, o, none⟩ = some (.int .u8 y0)) (f0 : w.frozen? ⟨B, o, none⟩ = false) (c1 : w.cell? ⟨B, o + 1, none⟩ = some (.int .u8 y1)) (f1 : w.frozen? ⟨B, o + 1, none⟩ = false) (c2 : w.cell? ⟨B, o + 2, none⟩ = some (.int .u8 y2)) (f2 : w.frozen? ⟨B, o + 2, none⟩ = false) (c3 : w.cell? ⟨B, o + 3, none⟩ = some (.int .u8 y3)) (f3 : w.frozen? ⟨B, o + 3, none⟩ = false) :
    Calls Tryd.prog 38 #[.slice (some ⟨B, o, none⟩) l c, .int .u32 x] w fun e w' => e = .returned (.tuple #[]) ∧ w' = ((((w.setCell ⟨B, o, none⟩ (.int .u8 (x % 256))).setCell ⟨B, o + 1, none⟩ (.int .u8 (x / 256 % 256))).setCell ⟨B, o + 2, none⟩ (.int .u8 (x / 65536 % 256))).setCell ⟨B, o + 3, none⟩ (.int .u8 (x / 16777216 % 256))) := by
  have l0 : (0 : Int) < (l : Int) := by omega
  have l1 : (1 : Int) < (l : Int) := by omega
  have l2 : (2 : Int) < (l : Int) := by omega
  have l3 : (3 : Int) < (l : Int) := by omega
  clear hl
  go_enter Tryd.func38, Tryd.ntmps38
  go_wp2
  go_end0
  exact ⟨rfl, rfl⟩
theorem put32_any (B o n l c : Nat) (hl : 4 ≤ l) (g : Nat → Int) (x : Int) (ho : o + 4 ≤ n) (w : World) (h : Has w B .u8 n g) :
    Calls Tryd.prog 38 #[.slice (some ⟨B, o, none⟩) l c, .int .u32 x] w fun e w' => e = .returned (.tuple #[]) ∧ w' = w.setCells B o (row .u8 4 (b32 x)) :=
  put32_raw B o l c hl x _ _ _ _ w (h.cell o (by omega)) (h.free o (by omega)) (h.cell (o + 1) (by omega)) (h.free (o + 1) (by omega)) (h.cell (o + 2) (by omega)) (h.free (o + 2) (by omega)) (h.cell (o + 3) (by omega)) (h.free (o + 3) (by omega))

set_option maxHeartbeats 1000000 in
theorem rot_any (n : Nat) (hn : n = 16 ∨ n = 12 ∨ n = 8 ∨ n = 7) (x : Int) (w : World) :
    Calls Tryd.prog 46 #[.int .u32 x, .int .i64 n] w fun e w' => e = .returned (.int .u32 (hrl n x)) ∧ w' = w := by
  rcases hn with rfl | rfl | rfl | rfl
  · have hm : bits BinOp.and IntKind.u64 16 31 = 16 := by decide +kernel
    go_enter Tryd.func46, Tryd.ntmps46
    go_wp2
    go_ret
    exact ⟨rfl, rfl⟩
  · have hm : bits BinOp.and IntKind.u64 12 31 = 12 := by decide +kernel
    go_enter Tryd.func46, Tryd.ntmps46
    go_wp2
    go_ret
    exact ⟨rfl, rfl⟩
  · have hm : bits BinOp.and IntKind.u64 8 31 = 8 := by decide +kernel
    go_enter Tryd.func46, Tryd.ntmps46
    go_wp2
    go_ret
    exact ⟨rfl, rfl⟩
  · have hm : bits BinOp.and IntKind.u64 7 31 = 7 := by decide +kernel
    go_enter Tryd.func46, Tryd.ntmps46
    go_wp2
    go_ret
    exact ⟨rfl, rfl⟩

/-- Four words as the answer. -/
theorem results_four {P : Program} {fn : Func} {tmps : Array Value} {w : World} {a b c d : Tmp} {u v x y : Value} (hr : fn.results = #[.tmp a, .tmp b, .tmp c, .tmp d])
    (ha : tmps.getD a undef = u) (hb : tmps.getD b undef = v) (hc : tmps.getD c undef = x) (hd : tmps.getD d undef = y) :
    (results fn tmps).run P w = .ok (.tuple #[u, v, x, y]) w := by
  rw [Array.getD_eq_getD_getElem?] at ha hb hc hd
  simp [results, hr, ha, hb, hc, hd]

set_option maxHeartbeats 1000000 in
theorem rotR_any (n : Int) (p : Nat) (hn : (n = -16 ∧ p = 16) ∨ (n = -12 ∧ p = 20) ∨ (n = -8 ∧ p = 24) ∨ (n = -7 ∧ p = 25)) (x : Int) (w : World) :
    Calls Tryd.prog 46 #[.int .u32 x, .int .i64 n] w fun e w' => e = .returned (.int .u32 (hrl p x)) ∧ w' = w := by
  rcases hn with ⟨rfl, rfl⟩ | ⟨rfl, rfl⟩ | ⟨rfl, rfl⟩ | ⟨rfl, rfl⟩
  · have hm : bits BinOp.and IntKind.u64 (IntKind.u64.wrap (-16)) 31 = 16 := by decide +kernel
    go_enter Tryd.func46, Tryd.ntmps46
    go_wp2
    go_ret
    exact ⟨rfl, rfl⟩
  · have hm : bits BinOp.and IntKind.u64 (IntKind.u64.wrap (-12)) 31 = 20 := by decide +kernel
    go_enter Tryd.func46, Tryd.ntmps46
    go_wp2
    go_ret
    exact ⟨rfl, rfl⟩
  · have hm : bits BinOp.and IntKind.u64 (IntKind.u64.wrap (-8)) 31 = 24 := by decide +kernel
    go_enter Tryd.func46, Tryd.ntmps46
    go_wp2
    go_ret
    exact ⟨rfl, rfl⟩
  · have hm : bits BinOp.and IntKind.u64 (IntKind.u64.wrap (-7)) 31 = 25 := by decide +kernel
    go_enter Tryd.func46, Tryd.ntmps46
    go_wp2
    go_ret
    exact ⟨rfl, rfl⟩
end Go.Proofs.YtcdbkbcfjdpdoaaDoor

namespace Go.Proofs.YtcdbkbcfjdpdoaaDoor
open Go.RowKit

/-- Number c waits for number i, by at most so many steps. -/
def depB (md : Region.Mode) (ops : Array Oper) (i : Nat) : Nat → Nat → Bool
  | 0, _ => false
  | f + 1, c => match ops[c]? with
    | none => false
    | some oc => oc.after.any fun e => Region.binds md e && (e.on == i || depB md ops i f e.on)
/-- What has come up has come up behind all that it waits for. -/
def Closed (md : Region.Mode) (ops : Array Oper) (l : Array Bool) : Prop := ∀ j oj, ops[j]? = some oj → l.getD j false = true → ∀ e ∈ oj.after, Region.binds md e = true → l.getD e.on false = true
def closedB (md : Region.Mode) (ops : Array Oper) (l : Array Bool) : Bool := (List.range ops.size).all fun j => match ops[j]? with
  | none => true
  | some oj => !l.getD j false || oj.after.all fun e => !Region.binds md e || l.getD e.on false
theorem closed_of {md : Region.Mode} {ops : Array Oper} {l : Array Bool} (h : closedB md ops l = true) : Closed md ops l := by
  intro j oj hj hl e he hb
  have hlt : j < ops.size := (Array.getElem?_eq_some_iff.1 hj).1
  have h1 := List.all_eq_true.1 h j (List.mem_range.2 hlt)
  simp only [hj, hl, Bool.not_true, Bool.false_or] at h1
  have h2 := Array.all_eq_true'.1 h1 e he
  simpa only [hb, Bool.not_true, Bool.false_or] using h2
theorem listed_mono {l : Array Bool} {i j : Nat} (h : l.getD j false = true) : (l.setIfInBounds i true).getD j false = true := by
  rw [Array.getD_eq_getD_getElem?] at h ⊢
  by_cases e : i = j
  · subst e
    cases hc : l[i]? with
    | none => rw [hc] at h; cases h
    | some b =>
      have hb := (Array.getElem?_eq_some_iff.1 hc).1
      rw [Array.getElem?_setIfInBounds_self_of_lt hb]; rfl
  · rw [Array.getElem?_setIfInBounds_ne e]; exact h
theorem Closed.next {md : Region.Mode} {ops : Array Oper} {l : Array Bool} (h : Closed md ops l) {i : Nat} (hi : i ∈ Region.ready md ops l) : Closed md ops (l.setIfInBounds i true) := by
  intro j oj hj hl e he hb
  by_cases hji : j = i
  · subst hji
    obtain ⟨_, o, ho, hall⟩ := mem_ready.1 hi
    obtain rfl : o = oj := Option.some.inj (ho.symm.trans hj)
    exact listed_mono (hall e he hb)
  · rw [getD_set_ne false (Ne.symm hji)] at hl
    exact listed_mono (h j oj hj hl e he hb)
theorem dep_listed {md : Region.Mode} {ops : Array Oper} {l : Array Bool} {i : Nat} (h : Closed md ops l) : ∀ (f c : Nat), (∀ oc, ops[c]? = some oc → ∀ e ∈ oc.after, Region.binds md e = true → l.getD e.on false = true) → depB md ops i f c = true → l.getD i false = true
  | 0, _, _, hd => by cases hd
  | f + 1, c, hc, hd => by
    unfold depB at hd
    cases ho : ops[c]? with
    | none => rw [ho] at hd; cases hd
    | some oc =>
      rw [ho] at hd
      obtain ⟨e, he, hb⟩ := Array.any_eq_true'.1 hd
      simp only [Bool.and_eq_true, Bool.or_eq_true, beq_iff_eq] at hb
      have hl := hc oc ho e he hb.1
      rcases hb.2 with h1 | h1
      · rw [← h1]; exact hl
      · exact dep_listed h f e.on (fun o2 ho2 e2 he2 hb2 => h e.on o2 ho2 hl e2 he2 hb2) h1

section
variable {P : Program} {ops : Array Oper} {Q : Exit → Act → World → Prop} {md : Region.Mode} {S : World → Prop} {c : Nat}
theorem wpAnyC_firstT {i f : Nat} {oi : Oper} {v : Value} (hi : ops[i]? = some oi) (hdep : depB md ops i f c = true) (hsel : ∀ (j : Nat) (o : Oper) cs b, ops[j]? = some o → o.op ≠ .select cs b)
    (hQ : ∀ p a w, Q (.panic p) (a.put oi.dst v) w → Q (.panic p) a w) : ∀ (n : Nat) (l : Array Bool) (a : Act) (w : World),
      Closed md ops l → (∀ j oj, ops[j]? = some oj → j ≠ i → l.getD j true = false → (∀ e ∈ oj.after, Region.binds md e = true → e.on ≠ i) → oi.apart ops oj = true) →
      l.getD c true = false → i ∈ Region.ready md ops l → YieldsIf P ops S oi v a → S w →
      wpAnyC P md ops Q S c n (l.setIfInBounds i true) (a.put oi.dst v) w → wpAnyC P md ops Q S c (n + 1) l a w := by
  have waits : ∀ (l : Array Bool) (j : Nat), Closed md ops l → i ∈ Region.ready md ops l → j ∈ Region.ready md ops l → j ≠ c := fun l j hcl hr hj e => by
    subst e
    obtain ⟨_, o, ho, hall⟩ := mem_ready.1 hj
    exact not_both (mem_ready.1 hr).1 (dep_listed hcl f j (fun oc hoc => by obtain rfl : o = oc := Option.some.inj (ho.symm.trans hoc); exact hall) hdep)
  intro n
  induction n with
  | zero =>
    intro l a w _ _ _ hr hy hS H
    refine ⟨fun h => (by rw [h] at hr; cases hr), fun j hj => ?_⟩
    by_cases hji : j = i
    · subst hji; exact hy.wpOp hi hS ⟨fun _ => hS, H⟩
    · have := ready_mono hj hji
      rw [H.1] at this
      cases this
  | succ n ih =>
    intro l a w hcl hfree hlc hr hy hS H
    refine ⟨fun h => (by rw [h] at hr; cases hr), fun j hj => ?_⟩
    by_cases hji : j = i
    · subst hji; exact hy.wpOp hi hS ⟨fun _ => hS, H⟩
    · have hjc := waits l j hcl hr hj
      have hic := waits l i hcl hr hr
      obtain ⟨hjun, oj, hoj, hall⟩ := mem_ready.1 hj
      have hnot : ∀ e ∈ oj.after, Region.binds md e = true → e.on ≠ i := fun e he hb heq => not_both (mem_ready.1 hr).1 (by rw [← heq]; exact hall e he hb)
      have h2 := wpOp_putIf hoj (hfree j oj hoj hji hjun hnot) (fun cs b => hsel i oi cs b hi) (fun cs b => hsel j oj cs b hoj) hQ hy (H.2 j (ready_mono hj hji))
      have hfree' : ∀ k ok, ops[k]? = some ok → k ≠ i → (l.setIfInBounds j true).getD k true = false → (∀ e ∈ ok.after, Region.binds md e = true → e.on ≠ i) → oi.apart ops ok = true := fun k ok hk hki hun hno => by
        refine hfree k ok hk hki ?_ hno
        by_cases hjk : j = k
        · subst hjk; exact hjun
        · rw [getD_set_ne true hjk] at hun; exact hun
      refine wpOp_mono (fun a' w' h3 => ?_) h2
      have hS' : S w' := h3.2.1 (by rw [getD_set_ne true hjc, getD_set_ne true hic]; exact hlc)
      refine ⟨fun _ => hS', ih (l.setIfInBounds j true) a' w' (hcl.next hj) hfree' (by rw [getD_set_ne true hjc]; exact hlc) (ready_mono hr (Ne.symm hji)) h3.1 hS' ?_⟩
      rw [Array.setIfInBounds_comm _ _ hji]
      exact h3.2.2
/-- One cell is loaded; number c waits for it, be it by way of others. -/
theorem cellCT {i : Nat} (f : Nat) {oi : Oper} (dst : Option Tmp) (hdst : oi.dst = dst) {n : Nat} {l : Array Bool} {a : Act} {w : World} (k : IntKind) (v : Value) (b o : Nat) (ty : TypeId) (x : Operand) (hi : ops[i]? = some oi) (hdep : depB md ops i f c = true) (hcl : closedB md ops l = true)
    (ho : oi.op = .load ty x) (hx : a.eval x = .pointer (some ⟨b, o, none⟩)) (hw : Region.wanted oi (yielded ops a.tmps) = true)
    (hs : Region.noSelect ops = true) (hf : Region.free md ops l i = true) (hl : l.getD c true = false) (hr : (Region.ready md ops l).contains i = true)
    (hQ : ∀ p a w, Q (.panic p) (a.put dst v) w → Q (.panic p) a w) (hu : P.underlying ty = some (.int k))
    (hS : S w) (hh : ∀ w, S w → w.cell? ⟨b, o, none⟩ = some v)
    (h : wpAnyC P md ops Q S c n (l.setIfInBounds i true) (a.put dst v) w) : wpAnyC P md ops Q S c (n + 1) l a w := by
  subst hdst
  refine wpAnyC_firstT hi hdep (Region.noSelect_spec hs) hQ n l a w (closed_of hcl) (Region.free_spec hi hf) hl (by simpa using hr) (.inl ⟨hw, fun w hSw => ?_⟩) hS h
  unfold execOp
  simp only [ho, hx, Instr.loadAt, Instr.sureAddr, Sem.run_bind, Sem.run_pure, Result.andThen_ok, run_loadVar_cell w b o ty k v (hh w hSw) hu]
end
end Go.Proofs.YtcdbkbcfjdpdoaaDoor

namespace Go.Proofs.YtcdbkbcfjdpdoaaDoor
open Go.RowKit

/-- Mixing four words with two. -/
def mA (a b x : Int) : Int := had (had a b) x
def mD (p : Nat) (d a : Int) : Int := hrl p (hxr d a)
def bA1 (a b x : Int) : Int := mA a b x
def bD1 (a b d x : Int) : Int := mD 16 d (bA1 a b x)
def bC1 (a b c d x : Int) : Int := had c (bD1 a b d x)
def bB1 (a b c d x : Int) : Int := mD 20 b (bC1 a b c d x)
def bA (a b c d x y : Int) : Int := mA (bA1 a b x) (bB1 a b c d x) y
def bD (a b c d x y : Int) : Int := mD 24 (bD1 a b d x) (bA a b c d x y)
def bC (a b c d x y : Int) : Int := had (bC1 a b c d x) (bD a b c d x y)
def bB (a b c d x y : Int) : Int := mD 25 (bB1 a b c d x) (bC a b c d x y)
theorem mD_in (p : Nat) (d a : Int) (hd : 0 ≤ d ∧ d < V) (ha : 0 ≤ a ∧ a < V) : 0 ≤ mD p d a ∧ mD p d a < V := hrl_in _ _ (hxr_in _ _ hd ha)
theorem bA_in (a b c d x y : Int) : 0 ≤ bA a b c d x y ∧ bA a b c d x y < V := had_in _ _
theorem bD1_in (a b d x : Int) (hd : 0 ≤ d ∧ d < V) : 0 ≤ bD1 a b d x ∧ bD1 a b d x < V := mD_in _ _ _ hd (had_in _ _)
theorem bB1_in (a b c d x : Int) (hb : 0 ≤ b ∧ b < V) : 0 ≤ bB1 a b c d x ∧ bB1 a b c d x < V := mD_in _ _ _ hb (had_in _ _)
theorem bD_in (a b c d x y : Int) (hd : 0 ≤ d ∧ d < V) : 0 ≤ bD a b c d x y ∧ bD a b c d x y < V := mD_in _ _ _ (bD1_in a b d x hd) (had_in _ _)
theorem bC_in (a b c d x y : Int) : 0 ≤ bC a b c d x y ∧ bC a b c d x y < V := had_in _ _
theorem bB_in (a b c d x y : Int) (hb : 0 ≤ b ∧ b < V) : 0 ≤ bB a b c d x y ∧ bB a b c d x y < V := mD_in _ _ _ (bB1_in a b c d x hb) (had_in _ _)
/-- Four places of a row, mixed. -/
def bMx (v : Nat → Int) (a b c d : Nat) (x y : Int) : Nat → Int :=
  upd (upd (upd (upd v a (bA (v a) (v b) (v c) (v d) x y)) b (bB (v a) (v b) (v c) (v d) x y)) c (bC (v a) (v b) (v c) (v d) x y)) d (bD (v a) (v b) (v c) (v d) x y)
theorem bMx_in (v : Nat → Int) (a b c d : Nat) (x y : Int) (hb : b < 16) (hd : d < 16) (h : In V 16 v) : In V 16 (bMx v a b c d x y) :=
  (((h.upd _ _ (bA_in _ _ _ _ _ _).1 (bA_in _ _ _ _ _ _).2).upd _ _ (bB_in _ _ _ _ _ _ (h b hb)).1 (bB_in _ _ _ _ _ _ (h b hb)).2).upd _ _ (bC_in _ _ _ _ _ _).1 (bC_in _ _ _ _ _ _).2).upd _ _ (bD_in _ _ _ _ _ _ (h d hd)).1 (bD_in _ _ _ _ _ _ (h d hd)).2
/-- The rows. -/
def sgL : List Nat := [0, 1, 2, 3, 4, 5, 6, 7, 8, 9, 10, 11, 12, 13, 14, 15, 14, 10, 4, 8, 9, 15, 13, 6, 1, 12, 0, 2, 11, 7, 5, 3, 11, 8, 12, 0, 5, 2, 15, 13, 10, 14, 3, 6, 7, 1, 9, 4, 7, 9, 3, 1, 13, 12, 11, 14, 2, 6, 5, 10, 4, 0, 15, 8, 9, 0, 5, 7, 2, 4, 10, 15, 14, 1, 11, 12, 6, 8, 3, 13, 2, 12, 6, 10, 0, 11, 8, 3, 4, 13, 7, 5, 15, 14, 1, 9, 12, 5, 1, 15, 14, 13, 4, 10, 0, 7, 6, 3, 9, 2, 8, 11, 13, 11, 7, 14, 12, 1, 3, 9, 5, 0, 15, 4, 8, 6, 2, 10, 6, 15, 14, 9, 11, 3, 0, 8, 12, 2, 13, 7, 1, 4, 10, 5, 10, 2, 8, 4, 7, 6, 1, 5, 15, 11, 9, 14, 3, 12, 13, 0]
def sg (r i : Nat) : Nat := sgL.getD (16 * r + i) 0
theorem sg_lt (r i : Nat) : sg r i < 16 := by
  unfold sg
  rw [List.getD_eq_getElem?_getD]
  cases e : sgL[16 * r + i]? with
  | none => simp
  | some x =>
    have h : ∀ x ∈ sgL, x < 16 := by decide +kernel
    simpa using h x (List.mem_of_getElem? e)
/-- One of a row's eight mixings, so many of them, so many rows. -/
def bAt (m : Nat → Int) (s : Nat → Nat) (v : Nat → Int) (i : Nat) : Nat → Int := bMx v (pA i) (pB i) (pC i) (pD i) (m (s (2 * i))) (m (s (2 * i + 1)))
def bN (m : Nat → Int) (s : Nat → Nat) (v : Nat → Int) : Nat → Nat → Int
  | 0 => v
  | i + 1 => bAt m s (bN m s v i) i
def bR (m : Nat → Int) (v : Nat → Int) : Nat → Nat → Int
  | 0 => v
  | r + 1 => bN m (sg r) (bR m v r) 8
theorem bAt_in (m : Nat → Int) (s : Nat → Nat) (v : Nat → Int) (i : Nat) (h : In V 16 v) : In V 16 (bAt m s v i) := bMx_in _ _ _ _ _ _ _ (by have := pB_lt i; omega) (by have := pD_lt i; omega) h
theorem bN_in (m : Nat → Int) (s : Nat → Nat) (v : Nat → Int) (h : In V 16 v) : ∀ i, In V 16 (bN m s v i)
  | 0 => h
  | i + 1 => bAt_in _ _ _ _ (bN_in m s v h i)
theorem bR_in (m : Nat → Int) (v : Nat → Int) (h : In V 16 v) : ∀ r, In V 16 (bR m v r)
  | 0 => h
  | r + 1 => bN_in _ _ _ (bR_in m v h r) 8
/-- The words IV; what a pressing begins with; pressing. -/
def iv : Nat → Int := bl [1779033703, 3144134277, 1013904242, 2773480762, 1359893119, 2600822924, 528734635, 1541459225]
theorem iv_in : In V 8 iv := fun j hj => by
  match j, hj with
  | 0, _ | 1, _ | 2, _ | 3, _ | 4, _ | 5, _ | 6, _ | 7, _ => decide
def bst (h : Nat → Int) (t : Int) (last : Bool) : Nat → Int := six (h 0) (h 1) (h 2) (h 3) (h 4) (h 5) (h 6) (h 7) (iv 0) (iv 1) (iv 2) (iv 3) (hxr (iv 4) (t % 4294967296)) (hxr (iv 5) (t / 4294967296 % 4294967296)) (if last then 4294967295 - iv 6 else iv 6) (iv 7)
def bpw (z : Nat → Int) : Nat → Int := fun i => w32 z (4 * i)
def bpr (h : Nat → Int) (z : Nat → Int) (t : Int) (last : Bool) : Nat → Int := fun i => hxr (hxr (h i) (bR (bpw z) (bst h t last) 10 i)) (bR (bpw z) (bst h t last) 10 (i + 8))
theorem bst_in (h : Nat → Int) (t : Int) (last : Bool) (hh : In V 8 h) : In V 16 (bst h t last) :=
  six_in _ _ _ _ _ _ _ _ _ _ _ _ _ _ _ _ (hh 0 (by omega)) (hh 1 (by omega)) (hh 2 (by omega)) (hh 3 (by omega)) (hh 4 (by omega)) (hh 5 (by omega)) (hh 6 (by omega)) (hh 7 (by omega)) (iv_in 0 (by omega)) (iv_in 1 (by omega)) (iv_in 2 (by omega)) (iv_in 3 (by omega))
    (hxr_in _ _ (iv_in 4 (by omega)) (by simp only [V]; omega)) (hxr_in _ _ (iv_in 5 (by omega)) (by simp only [V]; omega)) (by have h6 := iv_in 6 (by omega); simp only [V] at h6 ⊢; split <;> omega) (iv_in 7 (by omega))
theorem bpr_in (h z : Nat → Int) (t : Int) (last : Bool) (hh : In V 8 h) : In V 8 (bpr h z t last) := fun j hj =>
  hxr_in _ _ (hxr_in _ _ (hh j hj) (bR_in _ _ (bst_in h t last hh) 10 j (by omega))) (bR_in _ _ (bst_in h t last hh) 10 (j + 8) (by omega))
/-- A text behind its key; how many bytes it has, how many pieces. -/
def btl (kl len : Nat) : Nat := (if kl = 0 then 0 else 64) + len
def btx (kl : Nat) (key : Nat → Int) (len : Nat) (z : Nat → Int) : Nat → Int := fun j =>
  if kl = 0 then (if j < len then z j else 0) else if j < 64 then (if j < kl then key j else 0) else if j < 64 + len then z (j - 64) else 0
def bnb (kl len : Nat) : Nat := if btl kl len = 0 then 1 else (btl kl len + 63) / 64
theorem btx_in (kl : Nat) (key : Nat → Int) (len : Nat) (z : Nat → Int) (hk : In 256 kl key) (hz : In 256 len z) (j : Nat) : 0 ≤ btx kl key len z j ∧ btx kl key len z j < 256 := by
  unfold btx
  split
  · split
    · exact hz _ (by assumption)
    · omega
  · split
    · split
      · exact hk _ (by assumption)
      · omega
    · split
      · exact hz _ (by omega)
      · omega
def bh0 (kl size : Nat) : Nat → Int := upd iv 0 (hxr (hxr (hxr (iv 0) 16842752) (256 * (kl : Int))) (size : Int))
theorem bh0_in (kl size : Nat) (hk : kl ≤ 32) (hs : size ≤ 32) : In V 8 (bh0 kl size) := by
  have h := hxr_in _ _ (hxr_in _ _ (hxr_in _ _ (iv_in 0 (by omega)) (show 0 ≤ (16842752 : Int) ∧ (16842752 : Int) < V by decide)) (show 0 ≤ 256 * (kl : Int) ∧ 256 * (kl : Int) < V by simp only [V]; omega)) (show 0 ≤ (size : Int) ∧ (size : Int) < V by simp only [V]; omega)
  exact iv_in.upd _ _ h.1 h.2
def bH (kl : Nat) (key : Nat → Int) (size len : Nat) (z : Nat → Int) : Nat → Nat → Int
  | 0 => bh0 kl size
  | i + 1 => bpr (bH kl key size len z i) (fun j => btx kl key len z (64 * i + j)) ((min (64 * i + 64) (btl kl len) : Nat) : Int) (decide (i + 1 = bnb kl len))
theorem bH_in (kl : Nat) (key : Nat → Int) (size len : Nat) (z : Nat → Int) (hk : kl ≤ 32) (hs : size ≤ 32) : ∀ i, In V 8 (bH kl key size len z i)
  | 0 => bh0_in kl size hk hs
  | i + 1 => bpr_in _ _ _ _ (bH_in kl key size len z hk hs i)
/-- A text's hash. -/
def bsum (kl : Nat) (key : Nat → Int) (size len : Nat) (z : Nat → Int) : Nat → Int := fun j => b32 (bH kl key size len z (bnb kl len) (j / 4)) (j % 4)
theorem bsum_in (kl : Nat) (key : Nat → Int) (size len : Nat) (z : Nat → Int) (n : Nat) : In 256 n (bsum kl key size len z) := fun j _ => b32_in _ _ (Nat.mod_lt _ (by decide))
def bhash (len : Nat) (z : Nat → Int) : Nat → Int := bsum 0 (fun _ => 0) 32 len z
theorem bAt_six0 (m : Nat → Int) (s : Nat → Nat) (x0 x1 x2 x3 x4 x5 x6 x7 x8 x9 x10 x11 x12 x13 x14 x15 : Int) : bAt m s (six x0 x1 x2 x3 x4 x5 x6 x7 x8 x9 x10 x11 x12 x13 x14 x15) 0 = six (bA x0 x4 x8 x12 (m (s 0)) (m (s 1))) x1 x2 x3 (bB x0 x4 x8 x12 (m (s 0)) (m (s 1))) x5 x6 x7 (bC x0 x4 x8 x12 (m (s 0)) (m (s 1))) x9 x10 x11 (bD x0 x4 x8 x12 (m (s 0)) (m (s 1))) x13 x14 x15 := by
  show upd (upd (upd (upd (six x0 x1 x2 x3 x4 x5 x6 x7 x8 x9 x10 x11 x12 x13 x14 x15) 0 (bA x0 x4 x8 x12 (m (s 0)) (m (s 1)))) 4 (bB x0 x4 x8 x12 (m (s 0)) (m (s 1)))) 8 (bC x0 x4 x8 x12 (m (s 0)) (m (s 1)))) 12 (bD x0 x4 x8 x12 (m (s 0)) (m (s 1))) = _
  rw [upd_six0, upd_six4, upd_six8, upd_six12]
theorem bAt_six1 (m : Nat → Int) (s : Nat → Nat) (x0 x1 x2 x3 x4 x5 x6 x7 x8 x9 x10 x11 x12 x13 x14 x15 : Int) : bAt m s (six x0 x1 x2 x3 x4 x5 x6 x7 x8 x9 x10 x11 x12 x13 x14 x15) 1 = six x0 (bA x1 x5 x9 x13 (m (s 2)) (m (s 3))) x2 x3 x4 (bB x1 x5 x9 x13 (m (s 2)) (m (s 3))) x6 x7 x8 (bC x1 x5 x9 x13 (m (s 2)) (m (s 3))) x10 x11 x12 (bD x1 x5 x9 x13 (m (s 2)) (m (s 3))) x14 x15 := by
  show upd (upd (upd (upd (six x0 x1 x2 x3 x4 x5 x6 x7 x8 x9 x10 x11 x12 x13 x14 x15) 1 (bA x1 x5 x9 x13 (m (s 2)) (m (s 3)))) 5 (bB x1 x5 x9 x13 (m (s 2)) (m (s 3)))) 9 (bC x1 x5 x9 x13 (m (s 2)) (m (s 3)))) 13 (bD x1 x5 x9 x13 (m (s 2)) (m (s 3))) = _
  rw [upd_six1, upd_six5, upd_six9, upd_six13]
theorem bAt_six2 (m : Nat → Int) (s : Nat → Nat) (x0 x1 x2 x3 x4 x5 x6 x7 x8 x9 x10 x11 x12 x13 x14 x15 : Int) : bAt m s (six x0 x1 x2 x3 x4 x5 x6 x7 x8 x9 x10 x11 x12 x13 x14 x15) 2 = six x0 x1 (bA x2 x6 x10 x14 (m (s 4)) (m (s 5))) x3 x4 x5 (bB x2 x6 x10 x14 (m (s 4)) (m (s 5))) x7 x8 x9 (bC x2 x6 x10 x14 (m (s 4)) (m (s 5))) x11 x12 x13 (bD x2 x6 x10 x14 (m (s 4)) (m (s 5))) x15 := by
  show upd (upd (upd (upd (six x0 x1 x2 x3 x4 x5 x6 x7 x8 x9 x10 x11 x12 x13 x14 x15) 2 (bA x2 x6 x10 x14 (m (s 4)) (m (s 5)))) 6 (bB x2 x6 x10 x14 (m (s 4)) (m (s 5)))) 10 (bC x2 x6 x10 x14 (m (s 4)) (m (s 5)))) 14 (bD x2 x6 x10 x14 (m (s 4)) (m (s 5))) = _
  rw [upd_six2, upd_six6, upd_six10, upd_six14]
theorem bAt_six3 (m : Nat → Int) (s : Nat → Nat) (x0 x1 x2 x3 x4 x5 x6 x7 x8 x9 x10 x11 x12 x13 x14 x15 : Int) : bAt m s (six x0 x1 x2 x3 x4 x5 x6 x7 x8 x9 x10 x11 x12 x13 x14 x15) 3 = six x0 x1 x2 (bA x3 x7 x11 x15 (m (s 6)) (m (s 7))) x4 x5 x6 (bB x3 x7 x11 x15 (m (s 6)) (m (s 7))) x8 x9 x10 (bC x3 x7 x11 x15 (m (s 6)) (m (s 7))) x12 x13 x14 (bD x3 x7 x11 x15 (m (s 6)) (m (s 7))) := by
  show upd (upd (upd (upd (six x0 x1 x2 x3 x4 x5 x6 x7 x8 x9 x10 x11 x12 x13 x14 x15) 3 (bA x3 x7 x11 x15 (m (s 6)) (m (s 7)))) 7 (bB x3 x7 x11 x15 (m (s 6)) (m (s 7)))) 11 (bC x3 x7 x11 x15 (m (s 6)) (m (s 7)))) 15 (bD x3 x7 x11 x15 (m (s 6)) (m (s 7))) = _
  rw [upd_six3, upd_six7, upd_six11, upd_six15]
theorem bAt_six4 (m : Nat → Int) (s : Nat → Nat) (x0 x1 x2 x3 x4 x5 x6 x7 x8 x9 x10 x11 x12 x13 x14 x15 : Int) : bAt m s (six x0 x1 x2 x3 x4 x5 x6 x7 x8 x9 x10 x11 x12 x13 x14 x15) 4 = six (bA x0 x5 x10 x15 (m (s 8)) (m (s 9))) x1 x2 x3 x4 (bB x0 x5 x10 x15 (m (s 8)) (m (s 9))) x6 x7 x8 x9 (bC x0 x5 x10 x15 (m (s 8)) (m (s 9))) x11 x12 x13 x14 (bD x0 x5 x10 x15 (m (s 8)) (m (s 9))) := by
  show upd (upd (upd (upd (six x0 x1 x2 x3 x4 x5 x6 x7 x8 x9 x10 x11 x12 x13 x14 x15) 0 (bA x0 x5 x10 x15 (m (s 8)) (m (s 9)))) 5 (bB x0 x5 x10 x15 (m (s 8)) (m (s 9)))) 10 (bC x0 x5 x10 x15 (m (s 8)) (m (s 9)))) 15 (bD x0 x5 x10 x15 (m (s 8)) (m (s 9))) = _
  rw [upd_six0, upd_six5, upd_six10, upd_six15]
theorem bAt_six5 (m : Nat → Int) (s : Nat → Nat) (x0 x1 x2 x3 x4 x5 x6 x7 x8 x9 x10 x11 x12 x13 x14 x15 : Int) : bAt m s (six x0 x1 x2 x3 x4 x5 x6 x7 x8 x9 x10 x11 x12 x13 x14 x15) 5 = six x0 (bA x1 x6 x11 x12 (m (s 10)) (m (s 11))) x2 x3 x4 x5 (bB x1 x6 x11 x12 (m (s 10)) (m (s 11))) x7 x8 x9 x10 (bC x1 x6 x11 x12 (m (s 10)) (m (s 11))) (bD x1 x6 x11 x12 (m (s 10)) (m (s 11))) x13 x14 x15 := by
  show upd (upd (upd (upd (six x0 x1 x2 x3 x4 x5 x6 x7 x8 x9 x10 x11 x12 x13 x14 x15) 1 (bA x1 x6 x11 x12 (m (s 10)) (m (s 11)))) 6 (bB x1 x6 x11 x12 (m (s 10)) (m (s 11)))) 11 (bC x1 x6 x11 x12 (m (s 10)) (m (s 11)))) 12 (bD x1 x6 x11 x12 (m (s 10)) (m (s 11))) = _
  rw [upd_six1, upd_six6, upd_six11, upd_six12]
theorem bAt_six6 (m : Nat → Int) (s : Nat → Nat) (x0 x1 x2 x3 x4 x5 x6 x7 x8 x9 x10 x11 x12 x13 x14 x15 : Int) : bAt m s (six x0 x1 x2 x3 x4 x5 x6 x7 x8 x9 x10 x11 x12 x13 x14 x15) 6 = six x0 x1 (bA x2 x7 x8 x13 (m (s 12)) (m (s 13))) x3 x4 x5 x6 (bB x2 x7 x8 x13 (m (s 12)) (m (s 13))) (bC x2 x7 x8 x13 (m (s 12)) (m (s 13))) x9 x10 x11 x12 (bD x2 x7 x8 x13 (m (s 12)) (m (s 13))) x14 x15 := by
  show upd (upd (upd (upd (six x0 x1 x2 x3 x4 x5 x6 x7 x8 x9 x10 x11 x12 x13 x14 x15) 2 (bA x2 x7 x8 x13 (m (s 12)) (m (s 13)))) 7 (bB x2 x7 x8 x13 (m (s 12)) (m (s 13)))) 8 (bC x2 x7 x8 x13 (m (s 12)) (m (s 13)))) 13 (bD x2 x7 x8 x13 (m (s 12)) (m (s 13))) = _
  rw [upd_six2, upd_six7, upd_six8, upd_six13]
theorem bAt_six7 (m : Nat → Int) (s : Nat → Nat) (x0 x1 x2 x3 x4 x5 x6 x7 x8 x9 x10 x11 x12 x13 x14 x15 : Int) : bAt m s (six x0 x1 x2 x3 x4 x5 x6 x7 x8 x9 x10 x11 x12 x13 x14 x15) 7 = six x0 x1 x2 (bA x3 x4 x9 x14 (m (s 14)) (m (s 15))) (bB x3 x4 x9 x14 (m (s 14)) (m (s 15))) x5 x6 x7 x8 (bC x3 x4 x9 x14 (m (s 14)) (m (s 15))) x10 x11 x12 x13 (bD x3 x4 x9 x14 (m (s 14)) (m (s 15))) x15 := by
  show upd (upd (upd (upd (six x0 x1 x2 x3 x4 x5 x6 x7 x8 x9 x10 x11 x12 x13 x14 x15) 3 (bA x3 x4 x9 x14 (m (s 14)) (m (s 15)))) 4 (bB x3 x4 x9 x14 (m (s 14)) (m (s 15)))) 9 (bC x3 x4 x9 x14 (m (s 14)) (m (s 15)))) 14 (bD x3 x4 x9 x14 (m (s 14)) (m (s 15))) = _
  rw [upd_six3, upd_six4, upd_six9, upd_six14]
/-- A row's eight mixings, each number reckoned at once. -/
def evb8 {α : Type} (m : Nat → Int) (s : Nat → Nat) (x0 x1 x2 x3 x4 x5 x6 x7 x8 x9 x10 x11 x12 x13 x14 x15 : Int) (f : Int → Int → Int → Int → Int → Int → Int → Int → Int → Int → Int → Int → Int → Int → Int → Int → α) : α :=
  forceI (had (had x0 x4) (m (s 0))) fun x0 => forceI (hrl 16 (hxr x12 x0)) fun x12 => forceI (had x8 x12) fun x8 => forceI (hrl 20 (hxr x4 x8)) fun x4 =>
  forceI (had (had x0 x4) (m (s 1))) fun x0 => forceI (hrl 24 (hxr x12 x0)) fun x12 => forceI (had x8 x12) fun x8 => forceI (hrl 25 (hxr x4 x8)) fun x4 =>
  forceI (had (had x1 x5) (m (s 2))) fun x1 => forceI (hrl 16 (hxr x13 x1)) fun x13 => forceI (had x9 x13) fun x9 => forceI (hrl 20 (hxr x5 x9)) fun x5 =>
  forceI (had (had x1 x5) (m (s 3))) fun x1 => forceI (hrl 24 (hxr x13 x1)) fun x13 => forceI (had x9 x13) fun x9 => forceI (hrl 25 (hxr x5 x9)) fun x5 =>
  forceI (had (had x2 x6) (m (s 4))) fun x2 => forceI (hrl 16 (hxr x14 x2)) fun x14 => forceI (had x10 x14) fun x10 => forceI (hrl 20 (hxr x6 x10)) fun x6 =>
  forceI (had (had x2 x6) (m (s 5))) fun x2 => forceI (hrl 24 (hxr x14 x2)) fun x14 => forceI (had x10 x14) fun x10 => forceI (hrl 25 (hxr x6 x10)) fun x6 =>
  forceI (had (had x3 x7) (m (s 6))) fun x3 => forceI (hrl 16 (hxr x15 x3)) fun x15 => forceI (had x11 x15) fun x11 => forceI (hrl 20 (hxr x7 x11)) fun x7 =>
  forceI (had (had x3 x7) (m (s 7))) fun x3 => forceI (hrl 24 (hxr x15 x3)) fun x15 => forceI (had x11 x15) fun x11 => forceI (hrl 25 (hxr x7 x11)) fun x7 =>
  forceI (had (had x0 x5) (m (s 8))) fun x0 => forceI (hrl 16 (hxr x15 x0)) fun x15 => forceI (had x10 x15) fun x10 => forceI (hrl 20 (hxr x5 x10)) fun x5 =>
  forceI (had (had x0 x5) (m (s 9))) fun x0 => forceI (hrl 24 (hxr x15 x0)) fun x15 => forceI (had x10 x15) fun x10 => forceI (hrl 25 (hxr x5 x10)) fun x5 =>
  forceI (had (had x1 x6) (m (s 10))) fun x1 => forceI (hrl 16 (hxr x12 x1)) fun x12 => forceI (had x11 x12) fun x11 => forceI (hrl 20 (hxr x6 x11)) fun x6 =>
  forceI (had (had x1 x6) (m (s 11))) fun x1 => forceI (hrl 24 (hxr x12 x1)) fun x12 => forceI (had x11 x12) fun x11 => forceI (hrl 25 (hxr x6 x11)) fun x6 =>
  forceI (had (had x2 x7) (m (s 12))) fun x2 => forceI (hrl 16 (hxr x13 x2)) fun x13 => forceI (had x8 x13) fun x8 => forceI (hrl 20 (hxr x7 x8)) fun x7 =>
  forceI (had (had x2 x7) (m (s 13))) fun x2 => forceI (hrl 24 (hxr x13 x2)) fun x13 => forceI (had x8 x13) fun x8 => forceI (hrl 25 (hxr x7 x8)) fun x7 =>
  forceI (had (had x3 x4) (m (s 14))) fun x3 => forceI (hrl 16 (hxr x14 x3)) fun x14 => forceI (had x9 x14) fun x9 => forceI (hrl 20 (hxr x4 x9)) fun x4 =>
  forceI (had (had x3 x4) (m (s 15))) fun x3 => forceI (hrl 24 (hxr x14 x3)) fun x14 => forceI (had x9 x14) fun x9 => forceI (hrl 25 (hxr x4 x9)) fun x4 =>
  f x0 x1 x2 x3 x4 x5 x6 x7 x8 x9 x10 x11 x12 x13 x14 x15
def evF (m : Nat → Int) : Nat → Nat → Int → Int → Int → Int → Int → Int → Int → Int → Int → Int → Int → Int → Int → Int → Int → Int → Nat → Int
  | 0, _, x0, x1, x2, x3, x4, x5, x6, x7, x8, x9, x10, x11, x12, x13, x14, x15 => six x0 x1 x2 x3 x4 x5 x6 x7 x8 x9 x10 x11 x12 x13 x14 x15
  | n + 1, r, x0, x1, x2, x3, x4, x5, x6, x7, x8, x9, x10, x11, x12, x13, x14, x15 => evb8 m (sg r) x0 x1 x2 x3 x4 x5 x6 x7 x8 x9 x10 x11 x12 x13 x14 x15 (evF m n (r + 1))
/-- So many rows, from one on. -/
def bF (m : Nat → Int) : Nat → Nat → (Nat → Int) → Nat → Int
  | 0, _, v => v
  | n + 1, r, v => bF m n (r + 1) (bN m (sg r) v 8)
theorem bF_eq (m v : Nat → Int) : ∀ n r, bF m n r (bR m v r) = bR m v (r + n)
  | 0, _ => rfl
  | n + 1, r => by
    show bF m n (r + 1) (bR m v (r + 1)) = _
    rw [bF_eq m v n (r + 1), show r + 1 + n = r + (n + 1) by omega]
theorem evF_eq (m : Nat → Int) : ∀ (n r : Nat) (x0 x1 x2 x3 x4 x5 x6 x7 x8 x9 x10 x11 x12 x13 x14 x15 : Int), evF m n r x0 x1 x2 x3 x4 x5 x6 x7 x8 x9 x10 x11 x12 x13 x14 x15 = bF m n r (six x0 x1 x2 x3 x4 x5 x6 x7 x8 x9 x10 x11 x12 x13 x14 x15)
  | 0, _, _, _, _, _, _, _, _, _, _, _, _, _, _, _, _, _ => rfl
  | n + 1, r, x0, x1, x2, x3, x4, x5, x6, x7, x8, x9, x10, x11, x12, x13, x14, x15 => by
    show evb8 m (sg r) x0 x1 x2 x3 x4 x5 x6 x7 x8 x9 x10 x11 x12 x13 x14 x15 (evF m n (r + 1)) = bF m n (r + 1) (bAt m (sg r) (bAt m (sg r) (bAt m (sg r) (bAt m (sg r) (bAt m (sg r) (bAt m (sg r) (bAt m (sg r) (bAt m (sg r) (six x0 x1 x2 x3 x4 x5 x6 x7 x8 x9 x10 x11 x12 x13 x14 x15) 0) 1) 2) 3) 4) 5) 6) 7)
    rw [bAt_six0, bAt_six1, bAt_six2, bAt_six3, bAt_six4, bAt_six5, bAt_six6, bAt_six7, ← evF_eq m n (r + 1)]
    simp only [evb8, forceI_eq]
    rfl
/-- One piece, reckoned. -/
def evP (h z : Nat → Int) (t : Int) (last : Bool) : Nat → Int := fun i => hxr (hxr (h i) (evF (bpw z) 10 0 (h 0) (h 1) (h 2) (h 3) (h 4) (h 5) (h 6) (h 7) (iv 0) (iv 1) (iv 2) (iv 3) (hxr (iv 4) (t % 4294967296)) (hxr (iv 5) (t / 4294967296 % 4294967296)) (if last then 4294967295 - iv 6 else iv 6) (iv 7) i))
  (evF (bpw z) 10 0 (h 0) (h 1) (h 2) (h 3) (h 4) (h 5) (h 6) (h 7) (iv 0) (iv 1) (iv 2) (iv 3) (hxr (iv 4) (t % 4294967296)) (hxr (iv 5) (t / 4294967296 % 4294967296)) (if last then 4294967295 - iv 6 else iv 6) (iv 7) (i + 8))
theorem evP_eq (h z : Nat → Int) (t : Int) (last : Bool) : bpr h z t last = evP h z t last := by
  have e : ∀ v, bR (bpw z) v 10 = bF (bpw z) 10 0 v := fun v => (bF_eq (bpw z) v 10 0).symm
  funext i
  unfold bpr evP bst
  rw [e, evF_eq]
/-- The examples. -/
def zabc : Nat → Int := bl [97, 98, 99]
theorem hash_abc : bhash 3 zabc 0 = 0x50 ∧ bhash 3 zabc 1 = 0x8c ∧ bhash 3 zabc 30 = 0x59 ∧ bhash 3 zabc 31 = 0x82 := by
  have e : bH 0 (fun _ => 0) 32 3 zabc 1 = evP (bh0 0 32) (fun j => btx 0 (fun _ => 0) 3 zabc (64 * 0 + j)) 3 true := evP_eq _ _ _ _
  have e0 : ∀ j, bhash 3 zabc j = b32 (bH 0 (fun _ => 0) 32 3 zabc 1 (j / 4)) (j % 4) := fun _ => rfl
  rw [e0, e0, e0, e0, e]
  decide +kernel
theorem hash_none (z : Nat → Int) : bhash 0 z 0 = 0x69 ∧ bhash 0 z 1 = 0x21 ∧ bhash 0 z 31 = 0xf9 := by
  have e : bH 0 (fun _ => 0) 32 0 z 1 = evP (bh0 0 32) (fun _ => 0) 0 true := by
    rw [← evP_eq]
    show bpr (bh0 0 32) (fun j => btx 0 (fun _ => 0) 0 z (64 * 0 + j)) 0 true = _
    congr 1
  have e0 : ∀ j, bhash 0 z j = b32 (bH 0 (fun _ => 0) 32 0 z 1 (j / 4)) (j % 4) := fun _ => rfl
  rw [e0, e0, e0, e]
  decide +kernel
end Go.Proofs.YtcdbkbcfjdpdoaaDoor

namespace Go.Proofs.YtcdbkbcfjdpdoaaDoor
open Go.RowKit

/-- How many bytes Sum answers, and which error. -/
def bL (kl : Nat) (size : Int) : Nat := if size < 1 ∨ 32 < size ∨ 32 < kl then 0 else size.toNat
def bE (kl : Nat) (size : Int) : Int := if size < 1 ∨ 32 < size ∨ 32 < kl then 1 else 0
/-- A key of 64 bytes, each byte's XOR with one of the two numbers, a mac. -/
def bkk (kl : Nat) (key : Nat → Int) : Nat → Int := fun j => if kl ≤ 64 then (if j < kl then key j else 0) else if j < 32 then bhash kl key j else 0
def bxx (c : Int) (k : Nat → Int) : Nat → Int := fun j => bits .xor .u8 (k j) c
def bmac (kl : Nat) (key : Nat → Int) (len : Nat) (z : Nat → Int) : Nat → Int := bhash 96 (app (bxx 92 (bkk kl key)) 64 (bhash (64 + len) (app (bxx 54 (bkk kl key)) 64 z)))
theorem bhash_in (len : Nat) (z : Nat → Int) (n : Nat) : In 256 n (bhash len z) := bsum_in _ _ _ _ _ _
theorem bkk_in (kl : Nat) (key : Nat → Int) (hk : In 256 kl key) (n : Nat) : In 256 n (bkk kl key) := fun j _ => by
  unfold bkk
  split
  · split
    · exact hk j (by assumption)
    · omega
  · split
    · exact bhash_in kl key 32 j (by assumption)
    · omega
theorem bxx_in (c : Int) (hc : 0 ≤ c ∧ c < 256) (k : Nat → Int) (n : Nat) (hk : In 256 n k) : In 256 n (bxx c k) := fun j hj => by
  unfold bxx
  obtain ⟨x, hx⟩ := Int.eq_ofNat_of_zero_le (hk j hj).1
  obtain ⟨y, rfl⟩ := Int.eq_ofNat_of_zero_le hc.1
  have h1 := (hk j hj).2
  rw [hx] at h1 ⊢
  have h : x ^^^ y < 2 ^ 8 := Nat.xor_lt_two_pow (by omega) (by omega)
  rw [u8_xor_nat x y (by omega) (by omega)]
  omega
theorem app_in (n m : Nat) (f g : Nat → Int) (hf : In 256 n f) (hg : In 256 m g) : In 256 (n + m) (app f n g) := fun j hj => by
  unfold app
  split
  · exact hf j (by assumption)
  · exact hg _ (by omega)
/-- Hashes of texts that have the same bytes are the same. -/
theorem btx_congr (kl : Nat) (key key' : Nat → Int) (len : Nat) (z y : Nat → Int) (hk : ∀ j, j < kl → key j = key' j) (h : ∀ j, j < len → z j = y j) : btx kl key len z = btx kl key' len y := by
  funext j
  unfold btx
  by_cases e : kl = 0
  · rw [if_pos e, if_pos e]
    by_cases e1 : j < len
    · rw [if_pos e1, if_pos e1, h j e1]
    · rw [if_neg e1, if_neg e1]
  · rw [if_neg e, if_neg e]
    by_cases e1 : j < 64
    · rw [if_pos e1, if_pos e1]
      by_cases e2 : j < kl
      · rw [if_pos e2, if_pos e2, hk j e2]
      · rw [if_neg e2, if_neg e2]
    · rw [if_neg e1, if_neg e1]
      by_cases e2 : j < 64 + len
      · rw [if_pos e2, if_pos e2, h _ (by omega)]
      · rw [if_neg e2, if_neg e2]
theorem bH_congr (kl : Nat) (key key' : Nat → Int) (size len : Nat) (z y : Nat → Int) (hk : ∀ j, j < kl → key j = key' j) (h : ∀ j, j < len → z j = y j) : ∀ i, bH kl key size len z i = bH kl key' size len y i
  | 0 => rfl
  | i + 1 => by
    unfold bH
    rw [bH_congr kl key key' size len z y hk h i, btx_congr kl key key' len z y hk h]
theorem bsum_congr (kl : Nat) (key key' : Nat → Int) (size len : Nat) (z y : Nat → Int) (hk : ∀ j, j < kl → key j = key' j) (h : ∀ j, j < len → z j = y j) : bsum kl key size len z = bsum kl key' size len y := by
  funext j
  unfold bsum
  rw [bH_congr kl key key' size len z y hk h]
theorem bhash_congr (len : Nat) (z y : Nat → Int) (h : ∀ j, j < len → z j = y j) : bhash len z = bhash len y := bsum_congr _ _ _ _ _ _ _ (fun _ _ => rfl) h
theorem bmac_of (kl kl' : Nat) (key key' : Nat → Int) (len : Nat) (z : Nat → Int) (h : bkk kl key = bkk kl' key') : bmac kl key len z = bmac kl' key' len z := by
  unfold bmac
  rw [h]
theorem bmac_hash (kl : Nat) (key : Nat → Int) (hk : 64 < kl) (len : Nat) (z : Nat → Int) : bmac 32 (bhash kl key) len z = bmac kl key len z := bmac_of _ _ _ _ _ _ (by
  funext j
  unfold bkk
  rw [if_pos (by omega), if_neg (show ¬ kl ≤ 64 by omega)])
theorem bmac_pad (kl n : Nat) (key : Nat → Int) (hk : kl + n ≤ 64) (len : Nat) (z : Nat → Int) : bmac (kl + n) (app key kl (fun _ => 0)) len z = bmac kl key len z := bmac_of _ _ _ _ _ _ (by
  funext j
  unfold bkk app
  rw [if_pos hk, if_pos (show kl ≤ 64 by omega)]
  by_cases e : j < kl
  · rw [if_pos (by omega), if_pos e]
  · rw [if_neg e]
    by_cases e2 : j < kl + n
    · rw [if_pos e2]
    · rw [if_neg e2])
end Go.Proofs.YtcdbkbcfjdpdoaaDoor

namespace Go.Proofs.YtcdbkbcfjdpdoaaDoor
open Go.RowKit

/-- The words' bytes. -/
def bout (h : Nat → Int) : Nat → Int := fun j => b32 (h (j / 4)) (j % 4)
/-- How many pieces; so many of them pressed. -/
def nbt (n : Nat) : Nat := if n = 0 then 1 else (n + 63) / 64
def tH (h0 : Nat → Int) (n : Nat) (f : Nat → Int) : Nat → Nat → Int
  | 0 => h0
  | i + 1 => bpr (tH h0 n f i) (fun j => f (64 * i + j)) ((min (64 * i + 64) n : Nat) : Int) (decide (i + 1 = nbt n))
theorem tH_in (h0 : Nat → Int) (n : Nat) (f : Nat → Int) (h : In V 8 h0) : ∀ i, In V 8 (tH h0 n f i)
  | 0 => h
  | i + 1 => bpr_in _ _ _ _ (tH_in h0 n f h i)
theorem bH_tH (kl : Nat) (key : Nat → Int) (size len : Nat) (z : Nat → Int) : ∀ i, bH kl key size len z i = tH (bh0 kl size) (btl kl len) (btx kl key len z) i
  | 0 => rfl
  | i + 1 => by
    unfold bH tH
    rw [bH_tH kl key size len z i]
    rfl
theorem bsum_tH (kl : Nat) (key : Nat → Int) (size len : Nat) (z : Nat → Int) : bsum kl key size len z = bout (tH (bh0 kl size) (btl kl len) (btx kl key len z) (nbt (btl kl len))) := by
  funext j
  unfold bsum bout
  rw [bH_tH]
  rfl
/-- Words that are not looked at may differ. -/
theorem bN_congr (m m' : Nat → Int) (r : Nat) (h : ∀ i, i < 16 → m i = m' i) (v : Nat → Int) : ∀ k, bN m (sg r) v k = bN m' (sg r) v k
  | 0 => rfl
  | k + 1 => by
    unfold bN
    rw [bN_congr m m' r h v k]
    unfold bAt
    rw [h _ (sg_lt r _), h _ (sg_lt r _)]
theorem bR_congr (m m' : Nat → Int) (h : ∀ i, i < 16 → m i = m' i) (v : Nat → Int) : ∀ r, bR m v r = bR m' v r
  | 0 => rfl
  | r + 1 => by
    unfold bR
    rw [bR_congr m m' h v r, bN_congr m m' r h]
theorem bpr_congr (h z z' : Nat → Int) (t : Int) (last : Bool) (e : ∀ j, j < 64 → z j = z' j) : bpr h z t last = bpr h z' t last := by
  funext i
  unfold bpr
  rw [bR_congr (bpw z) (bpw z') (fun i hi => by unfold bpw w32; rw [e _ (by omega), e _ (by omega), e _ (by omega), e _ (by omega)])]
/-- A front, which is a whole piece or nothing, and bytes behind it. -/
def tx2 (fl : Nat) (y : Nat → Int) (len : Nat) (z : Nat → Int) : Nat → Int := fun j => if j < fl then y j else padz len z (j - fl)
theorem tx2_none (y z : Nat → Int) (j : Nat) : tx2 64 y 0 z (64 * 0 + j) = padz 64 y j := by
  unfold tx2 padz
  rw [Nat.mul_zero, Nat.zero_add]
  by_cases e : j < 64
  · rw [if_pos e, if_pos e]
  · rw [if_neg e, if_neg e, if_neg (Nat.not_lt_zero _)]
theorem btx_tx2 (kl : Nat) (key : Nat → Int) (hk : 0 < kl) (len : Nat) (z : Nat → Int) : btx kl key len z = tx2 64 (padz kl key) len z := by
  funext j
  unfold btx tx2 padz
  rw [if_neg (show kl ≠ 0 by omega)]
  by_cases e : j < 64
  · rw [if_pos e, if_pos e]
  · rw [if_neg e, if_neg e]
    by_cases e2 : j < 64 + len
    · rw [if_pos e2, if_pos (by omega)]
    · rw [if_neg e2, if_neg (by omega)]
theorem btx_tx0 (key : Nat → Int) (len : Nat) (y z : Nat → Int) : btx 0 key len z = tx2 0 y len z := by
  funext j
  unfold btx tx2 padz
  rw [if_pos rfl, if_neg (Nat.not_lt_zero j), Nat.sub_zero]
theorem bhash_tx2 (fl : Nat) (y : Nat → Int) (len : Nat) (z : Nat → Int) : bhash (fl + len) (app y fl z) = bout (tH (bh0 0 32) (fl + len) (tx2 fl y len z) (nbt (fl + len))) := by
  have e1 : btl 0 (fl + len) = fl + len := Nat.zero_add _
  have e2 : btx 0 (fun _ => 0) (fl + len) (app y fl z) = tx2 fl y len z := by
    funext j
    unfold btx tx2 padz app
    rw [if_pos rfl]
    by_cases e : j < fl
    · rw [if_pos (by omega), if_pos e, if_pos e]
    · rw [if_neg e, if_neg e]
      by_cases e3 : j < fl + len
      · rw [if_pos e3, if_pos (by omega)]
      · rw [if_neg e3, if_neg (by omega)]
  unfold bhash
  rw [bsum_tH, e1, e2]
end Go.Proofs.YtcdbkbcfjdpdoaaDoor

namespace Go.Proofs.YtcdbkbcfjdpdoaaDoor
open Go.RowKit

theorem or32_comm (x y : Int) (hx : 0 ≤ x ∧ x < V) (hy : 0 ≤ y ∧ y < V) : bits .or .u32 x y = bits .or .u32 y x := by
  obtain ⟨x, rfl⟩ := Int.eq_ofNat_of_zero_le hx.1
  obtain ⟨y, rfl⟩ := Int.eq_ofNat_of_zero_le hy.1
  simp only [V] at hx hy
  rw [u32_or_nat x y (by omega) (by omega), u32_or_nat y x (by omega) (by omega), Nat.or_comm]
set_option maxHeartbeats 1000000 in
theorem ror_any (n : Nat) (hn : n = 16 ∨ n = 12 ∨ n = 8 ∨ n = 7) (x : Int) (hx : 0 ≤ x ∧ x < V) (w : World) :
    Calls Tryd.prog 47 #[.int .u32 x, .int .i64 n] w fun e w' => ∃ q, e = .returned (.int .u32 (hrl (32 - n) x)) ∧ w' = w.drewN q := by
  rcases hn with rfl | rfl | rfl | rfl
  · have e : hrl (32 - 16) x = bits .or .u32 (x / 2 ^ 16) (x * 2 ^ 16 % 4294967296) := or32_comm _ _ (by simp only [V]; omega) (by simp only [V] at hx ⊢; omega)
    rw [e]
    go_enter Tryd.func47, Tryd.ntmps47
    go_wp2
    go_quiet (fail)
    go_wp2
    go_ret
    exact ⟨nq, rfl, rfl⟩
  · have e : hrl (32 - 12) x = bits .or .u32 (x / 2 ^ 12) (x * 2 ^ 20 % 4294967296) := or32_comm _ _ (by simp only [V]; omega) (by simp only [V] at hx ⊢; omega)
    rw [e]
    go_enter Tryd.func47, Tryd.ntmps47
    go_wp2
    go_quiet (fail)
    go_wp2
    go_ret
    exact ⟨nq, rfl, rfl⟩
  · have e : hrl (32 - 8) x = bits .or .u32 (x / 2 ^ 8) (x * 2 ^ 24 % 4294967296) := or32_comm _ _ (by simp only [V]; omega) (by simp only [V] at hx ⊢; omega)
    rw [e]
    go_enter Tryd.func47, Tryd.ntmps47
    go_wp2
    go_quiet (fail)
    go_wp2
    go_ret
    exact ⟨nq, rfl, rfl⟩
  · have e : hrl (32 - 7) x = bits .or .u32 (x / 2 ^ 7) (x * 2 ^ 25 % 4294967296) := or32_comm _ _ (by simp only [V]; omega) (by simp only [V] at hx ⊢; omega)
    rw [e]
    go_enter Tryd.func47, Tryd.ntmps47
    go_wp2
    go_quiet (fail)
    go_wp2
    go_ret
    exact ⟨nq, rfl, rfl⟩

/-- The steps of a mixing, one by one. -/
def mxA (f : Nat → Int) (a b : Nat) (x : Int) : Nat → Int := upd f a (had (had (f a) (f b)) x)
def mxD (p : Nat) (f : Nat → Int) (d a : Nat) : Nat → Int := upd f d (hrl p (hxr (f d) (f a)))
def mxC (f : Nat → Int) (c d : Nat) : Nat → Int := upd f c (had (f c) (f d))
theorem mx_all (f : Nat → Int) (a b c d : Nat) (x y : Int) (hab : a ≠ b) (hac : a ≠ c) (had_ : a ≠ d) (hbc : b ≠ c) (hbd : b ≠ d) (hcd : c ≠ d) :
    mxD 25 (mxC (mxD 24 (mxA (mxD 20 (mxC (mxD 16 (mxA f a b x) d a) c d) b c) a b y) d a) c d) b c = bMx f a b c d x y := by
  have hba := hab.symm
  have hca := hac.symm
  have hda := had_.symm
  have hcb := hbc.symm
  have hdb := hbd.symm
  have hdc := hcd.symm
  funext j
  unfold mxA mxC mxD bMx
  simp only [upd, hab, hac, had_, hbc, hbd, hcd, hba, hca, hda, hcb, hdb, hdc, if_false, if_true]
  by_cases ea : j = a
  · subst ea; simp only [hab, hac, had_, if_false, if_true]; rfl
  · by_cases eb : j = b
    · subst eb; simp only [hbc, hbd, hba, if_false, if_true]; rfl
    · by_cases ec : j = c
      · subst ec; simp only [hca, hcb, hcd, if_false, if_true]; rfl
      · by_cases ed : j = d
        · subst ed; simp only [hda, hdb, hdc, if_false, if_true]; rfl
        · simp only [ea, eb, ec, ed, if_false]
/-- The row in its block; nothing else has changed. -/
structure MI (w : World) (B : Nat) (f : Nat → Int) (w' : World) : Prop where
  has : Has w' B .u32 16 f
  lt : B < w.heap.size
  gr : w.grownBy w' (some B)
theorem MI.init {w : World} {B : Nat} {f : Nat → Int} (h : Has w B .u32 16 f) (hl : B < w.heap.size) : MI w B f w := ⟨h, hl, ⟨rfl, rfl, rfl, Nat.le_refl _, fun _ _ _ => rfl⟩⟩
theorem MI.call {w w' w'' : World} {B : Nat} {f : Nat → Int} (h : MI w B f w') (l : Below w'.heap.size w' w'') : MI w B f w'' :=
  ⟨h.has.below l (Nat.lt_of_lt_of_le h.lt h.gr.size), h.lt, ⟨l.os.trans h.gr.os, l.tape.trans h.gr.tape, l.output.trans h.gr.output, Nat.le_trans h.gr.size l.size, fun j hj hne => (l.block j (Nat.lt_of_lt_of_le hj h.gr.size)).trans (h.gr.block j hj hne)⟩⟩
theorem MI.drew {w w' : World} {B : Nat} {f : Nat → Int} (h : MI w B f w') : MI w B f w'.drew := h.call (Below.refl _ _).drew
theorem MI.drewN {w w' : World} {B : Nat} {f : Nat → Int} (h : MI w B f w') (q : Nat) : MI w B f (w'.drewN q) := h.call (below_drewN (Below.refl _ _))
theorem MI.set {w w' : World} {B : Nat} {f : Nat → Int} (h : MI w B f w') (i : Nat) (hi : i < 16) (x : Int) : MI w B (upd f i x) (w'.setCell ⟨B, i, none⟩ (.int .u32 x)) := by
  have hb : Below B w' (w'.setCell ⟨B, i, none⟩ (.int .u32 x)) := below_setAll (Below.refl B w') B (Nat.le_refl _) i [.int .u32 x]
  exact ⟨h.has.set i hi x, h.lt, ⟨hb.os.trans h.gr.os, hb.tape.trans h.gr.tape, hb.output.trans h.gr.output, Nat.le_trans h.gr.size hb.size, fun j hj hne => (heap_setCell_other w' ⟨B, i, none⟩ j _ (fun e => hne (by rw [e]))).trans (h.gr.block j hj hne)⟩⟩
theorem idxV (b cap i : Nat) (hi : i < 16) (w : World) {o : Oper} {a : Act} (x y : Operand) (ho : o.op = .indexAddr 58 x y) (hx : a.eval x = .slice (some ⟨b, 0, none⟩) 16 cap) (hy : a.eval y = .int .i64 (i : Int)) :
    (execOp a.eval o).run Tryd.prog w = .ok (.value (.pointer (some ⟨b, i, none⟩))) w := by
  have h := idxSl (P := Tryd.prog) 58 42 16 cap .i64 ⟨b, 0, none⟩ i x y Tryd.underlying58 (fun _ => by kernel_rfl) hi ho hx hy w
  rw [Addr.add_mid, Nat.zero_add] at h
  exact h

set_option maxRecDepth 10000 in
set_option maxHeartbeats 8000000 in
theorem refMix_any (B cap a b c d : Nat) (x y : Int) (f : Nat → Int) (hf : In V 16 f) (ha : a < 16) (hb : b < 16) (hc : c < 16) (hd : d < 16) (hab : a ≠ b) (hac : a ≠ c) (had_ : a ≠ d) (hbc : b ≠ c) (hbd : b ≠ d) (hcd : c ≠ d) (w : World) (hB : Has w B .u32 16 f) (hl : B < w.heap.size) :
    Calls Tryd.prog 45 #[.slice (some ⟨B, 0, none⟩) 16 cap, .int .i64 a, .int .i64 b, .int .i64 c, .int .i64 d, .int .u32 x, .int .u32 y] w fun e w' => e = .returned (.tuple #[]) ∧ MI w B (bMx f a b c d x y) w' := by
  have K := MI.init hB hl
  go_enter Tryd.func45, Tryd.ntmps45
  have F0 := show Hid (In V 16 f) from hf
  go_upto_region 0 with fail
  refine wp_region_C (S := fun w' => MI w B (f) w') 14 (by kernel_rfl) K.drew ?_
  clear K
  intro K
  generalize w.drew = v0 at K ⊢
  refine pureC (i := 0) (some 14) rfl (.slice (some ⟨B, 0, none⟩) 16 cap) rfl (by decide) rfl (fun _ => by kernel_rfl) (by kernel_rfl) (by kernel_rfl) (by kernel_rfl) (fun _ _ _ h => h) K ?_
  simp only [Act.put, List.setIfInBounds_toArray, List.set_cons_zero, List.set_cons_succ]
  refine pureC (i := 1) (some 15) rfl (.int .i64 (a : Int)) rfl (by decide) rfl (fun _ => by kernel_rfl) (by kernel_rfl) (by kernel_rfl) (by kernel_rfl) (fun _ _ _ h => h) K ?_
  simp only [Act.put, List.setIfInBounds_toArray, List.set_cons_zero, List.set_cons_succ]
  refine pureC (i := 2) (some 16) rfl (.slice (some ⟨B, 0, none⟩) 16 cap) rfl (by decide) rfl (fun _ => by kernel_rfl) (by kernel_rfl) (by kernel_rfl) (by kernel_rfl) (fun _ _ _ h => h) K ?_
  simp only [Act.put, List.setIfInBounds_toArray, List.set_cons_zero, List.set_cons_succ]
  refine pureC (i := 3) (some 17) rfl (.int .i64 (a : Int)) rfl (by decide) rfl (fun _ => by kernel_rfl) (by kernel_rfl) (by kernel_rfl) (by kernel_rfl) (fun _ _ _ h => h) K ?_
  simp only [Act.put, List.setIfInBounds_toArray, List.set_cons_zero, List.set_cons_succ]
  refine pureC (i := 4) (some 18) rfl (.pointer (some ⟨B, a, none⟩)) rfl (by decide) rfl (fun w' => idxV B cap a ha w' _ _ rfl rfl rfl) (by kernel_rfl) (by kernel_rfl) (by kernel_rfl) (fun _ _ _ h => h) K ?_
  simp only [Act.put, List.setIfInBounds_toArray, List.set_cons_zero, List.set_cons_succ]
  refine cellC (i := 5) (some 19) rfl .u32 (.int .u32 ((f) a)) B a 42 _ rfl rfl (by kernel_rfl) rfl rfl rfl (by kernel_rfl) (by kernel_rfl) (by kernel_rfl) (by kernel_rfl) (fun _ _ _ h => h) Tryd.underlying42 K (fun _ h => h.has.cell a ha) ?_
  simp only [Act.put, List.setIfInBounds_toArray, List.set_cons_zero, List.set_cons_succ]
  refine pureC (i := 6) (some 20) rfl (.slice (some ⟨B, 0, none⟩) 16 cap) rfl (by decide) rfl (fun _ => by kernel_rfl) (by kernel_rfl) (by kernel_rfl) (by kernel_rfl) (fun _ _ _ h => h) K ?_
  simp only [Act.put, List.setIfInBounds_toArray, List.set_cons_zero, List.set_cons_succ]
  refine pureC (i := 7) (some 21) rfl (.int .i64 (b : Int)) rfl (by decide) rfl (fun _ => by kernel_rfl) (by kernel_rfl) (by kernel_rfl) (by kernel_rfl) (fun _ _ _ h => h) K ?_
  simp only [Act.put, List.setIfInBounds_toArray, List.set_cons_zero, List.set_cons_succ]
  refine pureC (i := 8) (some 22) rfl (.pointer (some ⟨B, b, none⟩)) rfl (by decide) rfl (fun w' => idxV B cap b hb w' _ _ rfl rfl rfl) (by kernel_rfl) (by kernel_rfl) (by kernel_rfl) (fun _ _ _ h => h) K ?_
  simp only [Act.put, List.setIfInBounds_toArray, List.set_cons_zero, List.set_cons_succ]
  refine cellC (i := 9) (some 23) rfl .u32 (.int .u32 ((f) b)) B b 42 _ rfl rfl (by kernel_rfl) rfl rfl rfl (by kernel_rfl) (by kernel_rfl) (by kernel_rfl) (by kernel_rfl) (fun _ _ _ h => h) Tryd.underlying42 K (fun _ h => h.has.cell b hb) ?_
  simp only [Act.put, List.setIfInBounds_toArray, List.set_cons_zero, List.set_cons_succ]
  refine pureC (i := 10) (some 24) rfl (.int .u32 (had ((f) a) ((f) b))) rfl (by decide) rfl (fun w => addI .u32 _ _ _ _ _ _ _ rfl rfl rfl (IntKind.wrap_u32' _) w) (by kernel_rfl) (by kernel_rfl) (by kernel_rfl) (fun _ _ _ h => h) K ?_
  simp only [Act.put, List.setIfInBounds_toArray, List.set_cons_zero, List.set_cons_succ]
  refine pureC (i := 11) (some 25) rfl (.int .u32 x) rfl (by decide) rfl (fun _ => by kernel_rfl) (by kernel_rfl) (by kernel_rfl) (by kernel_rfl) (fun _ _ _ h => h) K ?_
  simp only [Act.put, List.setIfInBounds_toArray, List.set_cons_zero, List.set_cons_succ]
  refine pureC (i := 12) (some 26) rfl (.int .u32 (had (had ((f) a) ((f) b)) x)) rfl (by decide) rfl (fun w => addI .u32 _ _ _ _ _ _ _ rfl rfl rfl (IntKind.wrap_u32' _) w) (by kernel_rfl) (by kernel_rfl) (by kernel_rfl) (fun _ _ _ h => h) K ?_
  simp only [Act.put, List.setIfInBounds_toArray, List.set_cons_zero, List.set_cons_succ]
  refine pureC (i := 13) (some 27) rfl (.pointer (some ⟨B, a, none⟩)) rfl (by decide) rfl (fun w' => idxV B cap a ha w' _ _ rfl rfl rfl) (by kernel_rfl) (by kernel_rfl) (by kernel_rfl) (fun _ _ _ h => h) K ?_
  simp only [Act.put, List.setIfInBounds_toArray, List.set_cons_zero, List.set_cons_succ]
  refine storeC (S2 := fun _ => True) none rfl .u32 (had (had ((f) a) ((f) b)) x) B a 42 _ _ (by kernel_rfl) rfl rfl rfl rfl rfl (by rw [K.has.cell a ha]; rfl) (K.has.free a ha) (by kernel_rfl) (by kernel_rfl) ?_
  simp only [Act.put]
  refine wpAnyH_done (by kernel_rfl) ?_ _
  have F1 := show Hid (In V 16 (mxA (f) a b x)) from F0.out.upd a _ (had_in _ _).1 (had_in _ _).2
  replace K : MI w B (mxA (f) a b x) _ := K.set a ha (had (had ((f) a) ((f) b)) x)
  generalize v0.setCell ⟨B, a, none⟩ (.int .u32 (had (had ((f) a) ((f) b)) x)) = w1 at K ⊢
  go_upto_region 1 with fail
  refine wp_region_C (S := fun w' => MI w B (mxA (f) a b x) w') 13 (by kernel_rfl) K.drew ?_
  clear K
  intro K
  generalize w1.drew = v1 at K ⊢
  refine pureC (i := 0) (some 28) rfl (.slice (some ⟨B, 0, none⟩) 16 cap) rfl (by decide) rfl (fun _ => by kernel_rfl) (by kernel_rfl) (by kernel_rfl) (by kernel_rfl) (fun _ _ _ h => h) K ?_
  simp only [Act.put, List.setIfInBounds_toArray, List.set_cons_zero, List.set_cons_succ]
  refine pureC (i := 1) (some 29) rfl (.int .i64 (d : Int)) rfl (by decide) rfl (fun _ => by kernel_rfl) (by kernel_rfl) (by kernel_rfl) (by kernel_rfl) (fun _ _ _ h => h) K ?_
  simp only [Act.put, List.setIfInBounds_toArray, List.set_cons_zero, List.set_cons_succ]
  refine pureC (i := 2) (some 30) rfl (.slice (some ⟨B, 0, none⟩) 16 cap) rfl (by decide) rfl (fun _ => by kernel_rfl) (by kernel_rfl) (by kernel_rfl) (by kernel_rfl) (fun _ _ _ h => h) K ?_
  simp only [Act.put, List.setIfInBounds_toArray, List.set_cons_zero, List.set_cons_succ]
  refine pureC (i := 3) (some 31) rfl (.int .i64 (d : Int)) rfl (by decide) rfl (fun _ => by kernel_rfl) (by kernel_rfl) (by kernel_rfl) (by kernel_rfl) (fun _ _ _ h => h) K ?_
  simp only [Act.put, List.setIfInBounds_toArray, List.set_cons_zero, List.set_cons_succ]
  refine pureC (i := 4) (some 32) rfl (.pointer (some ⟨B, d, none⟩)) rfl (by decide) rfl (fun w' => idxV B cap d hd w' _ _ rfl rfl rfl) (by kernel_rfl) (by kernel_rfl) (by kernel_rfl) (fun _ _ _ h => h) K ?_
  simp only [Act.put, List.setIfInBounds_toArray, List.set_cons_zero, List.set_cons_succ]
  refine cellC (i := 5) (some 33) rfl .u32 (.int .u32 ((mxA (f) a b x) d)) B d 42 _ rfl rfl (by kernel_rfl) rfl rfl rfl (by kernel_rfl) (by kernel_rfl) (by kernel_rfl) (by kernel_rfl) (fun _ _ _ h => h) Tryd.underlying42 K (fun _ h => h.has.cell d hd) ?_
  simp only [Act.put, List.setIfInBounds_toArray, List.set_cons_zero, List.set_cons_succ]
  refine pureC (i := 6) (some 34) rfl (.slice (some ⟨B, 0, none⟩) 16 cap) rfl (by decide) rfl (fun _ => by kernel_rfl) (by kernel_rfl) (by kernel_rfl) (by kernel_rfl) (fun _ _ _ h => h) K ?_
  simp only [Act.put, List.setIfInBounds_toArray, List.set_cons_zero, List.set_cons_succ]
  refine pureC (i := 7) (some 35) rfl (.int .i64 (a : Int)) rfl (by decide) rfl (fun _ => by kernel_rfl) (by kernel_rfl) (by kernel_rfl) (by kernel_rfl) (fun _ _ _ h => h) K ?_
  simp only [Act.put, List.setIfInBounds_toArray, List.set_cons_zero, List.set_cons_succ]
  refine pureC (i := 8) (some 36) rfl (.pointer (some ⟨B, a, none⟩)) rfl (by decide) rfl (fun w' => idxV B cap a ha w' _ _ rfl rfl rfl) (by kernel_rfl) (by kernel_rfl) (by kernel_rfl) (fun _ _ _ h => h) K ?_
  simp only [Act.put, List.setIfInBounds_toArray, List.set_cons_zero, List.set_cons_succ]
  refine cellC (i := 9) (some 37) rfl .u32 (.int .u32 ((mxA (f) a b x) a)) B a 42 _ rfl rfl (by kernel_rfl) rfl rfl rfl (by kernel_rfl) (by kernel_rfl) (by kernel_rfl) (by kernel_rfl) (fun _ _ _ h => h) Tryd.underlying42 K (fun _ h => h.has.cell a ha) ?_
  simp only [Act.put, List.setIfInBounds_toArray, List.set_cons_zero, List.set_cons_succ]
  refine pureC (i := 10) (some 38) rfl (.int .u32 (hxr ((mxA (f) a b x) d) ((mxA (f) a b x) a))) rfl (by decide) rfl (fun w => xorI .u32 _ _ _ _ _ _ _ rfl rfl rfl rfl w) (by kernel_rfl) (by kernel_rfl) (by kernel_rfl) (fun _ _ _ h => h) K ?_
  simp only [Act.put, List.setIfInBounds_toArray, List.set_cons_zero, List.set_cons_succ]
  refine callMC (i := 11) (some 39) rfl (by kernel_rfl) rfl rfl (fun _ => by kernel_rfl) (ror_any 16 (by decide) _ (hxr_in _ _ (F1.out d hd) (F1.out a ha)) _) ?_
  rintro e u1 ⟨q1, rfl, rfl⟩
  replace K := K.drewN q1
  refine ⟨_, rfl, K, ?_⟩
  simp only [Act.put, List.setIfInBounds_toArray, List.set_cons_zero, List.set_cons_succ]
  refine pureC (i := 12) (some 40) rfl (.pointer (some ⟨B, d, none⟩)) rfl (by decide) rfl (fun w' => idxV B cap d hd w' _ _ rfl rfl rfl) (by kernel_rfl) (by kernel_rfl) (by kernel_rfl) (fun _ _ _ h => h) K ?_
  simp only [Act.put, List.setIfInBounds_toArray, List.set_cons_zero, List.set_cons_succ]
  refine storeC (S2 := fun _ => True) none rfl .u32 (hrl 16 (hxr ((mxA (f) a b x) d) ((mxA (f) a b x) a))) B d 42 _ _ (by kernel_rfl) rfl rfl rfl rfl rfl (by rw [K.has.cell d hd]; rfl) (K.has.free d hd) (by kernel_rfl) (by kernel_rfl) ?_
  simp only [Act.put]
  refine wpAnyH_done (by kernel_rfl) ?_ _
  have F2 := show Hid (In V 16 (mxD 16 (mxA (f) a b x) d a)) from F1.out.upd d _ (hrl_in _ _ (hxr_in _ _ (F1.out d hd) (F1.out a ha))).1 (hrl_in _ _ (hxr_in _ _ (F1.out d hd) (F1.out a ha))).2
  replace K : MI w B (mxD 16 (mxA (f) a b x) d a) _ := K.set d hd (hrl 16 (hxr ((mxA (f) a b x) d) ((mxA (f) a b x) a)))
  generalize (v1.drewN q1).setCell ⟨B, d, none⟩ (.int .u32 (hrl 16 (hxr ((mxA (f) a b x) d) ((mxA (f) a b x) a)))) = w2 at K ⊢
  go_upto_region 2 with fail
  refine wp_region_C (S := fun w' => MI w B (mxD 16 (mxA (f) a b x) d a) w') 12 (by kernel_rfl) K.drew ?_
  clear K
  intro K
  generalize w2.drew = v2 at K ⊢
  refine pureC (i := 0) (some 41) rfl (.slice (some ⟨B, 0, none⟩) 16 cap) rfl (by decide) rfl (fun _ => by kernel_rfl) (by kernel_rfl) (by kernel_rfl) (by kernel_rfl) (fun _ _ _ h => h) K ?_
  simp only [Act.put, List.setIfInBounds_toArray, List.set_cons_zero, List.set_cons_succ]
  refine pureC (i := 1) (some 42) rfl (.int .i64 (c : Int)) rfl (by decide) rfl (fun _ => by kernel_rfl) (by kernel_rfl) (by kernel_rfl) (by kernel_rfl) (fun _ _ _ h => h) K ?_
  simp only [Act.put, List.setIfInBounds_toArray, List.set_cons_zero, List.set_cons_succ]
  refine pureC (i := 2) (some 43) rfl (.slice (some ⟨B, 0, none⟩) 16 cap) rfl (by decide) rfl (fun _ => by kernel_rfl) (by kernel_rfl) (by kernel_rfl) (by kernel_rfl) (fun _ _ _ h => h) K ?_
  simp only [Act.put, List.setIfInBounds_toArray, List.set_cons_zero, List.set_cons_succ]
  refine pureC (i := 3) (some 44) rfl (.int .i64 (c : Int)) rfl (by decide) rfl (fun _ => by kernel_rfl) (by kernel_rfl) (by kernel_rfl) (by kernel_rfl) (fun _ _ _ h => h) K ?_
  simp only [Act.put, List.setIfInBounds_toArray, List.set_cons_zero, List.set_cons_succ]
  refine pureC (i := 4) (some 45) rfl (.pointer (some ⟨B, c, none⟩)) rfl (by decide) rfl (fun w' => idxV B cap c hc w' _ _ rfl rfl rfl) (by kernel_rfl) (by kernel_rfl) (by kernel_rfl) (fun _ _ _ h => h) K ?_
  simp only [Act.put, List.setIfInBounds_toArray, List.set_cons_zero, List.set_cons_succ]
  refine cellC (i := 5) (some 46) rfl .u32 (.int .u32 ((mxD 16 (mxA (f) a b x) d a) c)) B c 42 _ rfl rfl (by kernel_rfl) rfl rfl rfl (by kernel_rfl) (by kernel_rfl) (by kernel_rfl) (by kernel_rfl) (fun _ _ _ h => h) Tryd.underlying42 K (fun _ h => h.has.cell c hc) ?_
  simp only [Act.put, List.setIfInBounds_toArray, List.set_cons_zero, List.set_cons_succ]
  refine pureC (i := 6) (some 47) rfl (.slice (some ⟨B, 0, none⟩) 16 cap) rfl (by decide) rfl (fun _ => by kernel_rfl) (by kernel_rfl) (by kernel_rfl) (by kernel_rfl) (fun _ _ _ h => h) K ?_
  simp only [Act.put, List.setIfInBounds_toArray, List.set_cons_zero, List.set_cons_succ]
  refine pureC (i := 7) (some 48) rfl (.int .i64 (d : Int)) rfl (by decide) rfl (fun _ => by kernel_rfl) (by kernel_rfl) (by kernel_rfl) (by kernel_rfl) (fun _ _ _ h => h) K ?_
  simp only [Act.put, List.setIfInBounds_toArray, List.set_cons_zero, List.set_cons_succ]
  refine pureC (i := 8) (some 49) rfl (.pointer (some ⟨B, d, none⟩)) rfl (by decide) rfl (fun w' => idxV B cap d hd w' _ _ rfl rfl rfl) (by kernel_rfl) (by kernel_rfl) (by kernel_rfl) (fun _ _ _ h => h) K ?_
  simp only [Act.put, List.setIfInBounds_toArray, List.set_cons_zero, List.set_cons_succ]
  refine cellC (i := 9) (some 50) rfl .u32 (.int .u32 ((mxD 16 (mxA (f) a b x) d a) d)) B d 42 _ rfl rfl (by kernel_rfl) rfl rfl rfl (by kernel_rfl) (by kernel_rfl) (by kernel_rfl) (by kernel_rfl) (fun _ _ _ h => h) Tryd.underlying42 K (fun _ h => h.has.cell d hd) ?_
  simp only [Act.put, List.setIfInBounds_toArray, List.set_cons_zero, List.set_cons_succ]
  refine pureC (i := 10) (some 51) rfl (.int .u32 (had ((mxD 16 (mxA (f) a b x) d a) c) ((mxD 16 (mxA (f) a b x) d a) d))) rfl (by decide) rfl (fun w => addI .u32 _ _ _ _ _ _ _ rfl rfl rfl (IntKind.wrap_u32' _) w) (by kernel_rfl) (by kernel_rfl) (by kernel_rfl) (fun _ _ _ h => h) K ?_
  simp only [Act.put, List.setIfInBounds_toArray, List.set_cons_zero, List.set_cons_succ]
  refine pureC (i := 11) (some 52) rfl (.pointer (some ⟨B, c, none⟩)) rfl (by decide) rfl (fun w' => idxV B cap c hc w' _ _ rfl rfl rfl) (by kernel_rfl) (by kernel_rfl) (by kernel_rfl) (fun _ _ _ h => h) K ?_
  simp only [Act.put, List.setIfInBounds_toArray, List.set_cons_zero, List.set_cons_succ]
  refine storeC (S2 := fun _ => True) none rfl .u32 (had ((mxD 16 (mxA (f) a b x) d a) c) ((mxD 16 (mxA (f) a b x) d a) d)) B c 42 _ _ (by kernel_rfl) rfl rfl rfl rfl rfl (by rw [K.has.cell c hc]; rfl) (K.has.free c hc) (by kernel_rfl) (by kernel_rfl) ?_
  simp only [Act.put]
  refine wpAnyH_done (by kernel_rfl) ?_ _
  have F3 := show Hid (In V 16 (mxC (mxD 16 (mxA (f) a b x) d a) c d)) from F2.out.upd c _ (had_in _ _).1 (had_in _ _).2
  replace K : MI w B (mxC (mxD 16 (mxA (f) a b x) d a) c d) _ := K.set c hc (had ((mxD 16 (mxA (f) a b x) d a) c) ((mxD 16 (mxA (f) a b x) d a) d))
  generalize v2.setCell ⟨B, c, none⟩ (.int .u32 (had ((mxD 16 (mxA (f) a b x) d a) c) ((mxD 16 (mxA (f) a b x) d a) d))) = w3 at K ⊢
  go_upto_region 3 with fail
  refine wp_region_C (S := fun w' => MI w B (mxC (mxD 16 (mxA (f) a b x) d a) c d) w') 13 (by kernel_rfl) K.drew ?_
  clear K
  intro K
  generalize w3.drew = v3 at K ⊢
  refine pureC (i := 0) (some 53) rfl (.slice (some ⟨B, 0, none⟩) 16 cap) rfl (by decide) rfl (fun _ => by kernel_rfl) (by kernel_rfl) (by kernel_rfl) (by kernel_rfl) (fun _ _ _ h => h) K ?_
  simp only [Act.put, List.setIfInBounds_toArray, List.set_cons_zero, List.set_cons_succ]
  refine pureC (i := 1) (some 54) rfl (.int .i64 (b : Int)) rfl (by decide) rfl (fun _ => by kernel_rfl) (by kernel_rfl) (by kernel_rfl) (by kernel_rfl) (fun _ _ _ h => h) K ?_
  simp only [Act.put, List.setIfInBounds_toArray, List.set_cons_zero, List.set_cons_succ]
  refine pureC (i := 2) (some 55) rfl (.slice (some ⟨B, 0, none⟩) 16 cap) rfl (by decide) rfl (fun _ => by kernel_rfl) (by kernel_rfl) (by kernel_rfl) (by kernel_rfl) (fun _ _ _ h => h) K ?_
  simp only [Act.put, List.setIfInBounds_toArray, List.set_cons_zero, List.set_cons_succ]
  refine pureC (i := 3) (some 56) rfl (.int .i64 (b : Int)) rfl (by decide) rfl (fun _ => by kernel_rfl) (by kernel_rfl) (by kernel_rfl) (by kernel_rfl) (fun _ _ _ h => h) K ?_
  simp only [Act.put, List.setIfInBounds_toArray, List.set_cons_zero, List.set_cons_succ]
  refine pureC (i := 4) (some 57) rfl (.pointer (some ⟨B, b, none⟩)) rfl (by decide) rfl (fun w' => idxV B cap b hb w' _ _ rfl rfl rfl) (by kernel_rfl) (by kernel_rfl) (by kernel_rfl) (fun _ _ _ h => h) K ?_
  simp only [Act.put, List.setIfInBounds_toArray, List.set_cons_zero, List.set_cons_succ]
  refine cellC (i := 5) (some 58) rfl .u32 (.int .u32 ((mxC (mxD 16 (mxA (f) a b x) d a) c d) b)) B b 42 _ rfl rfl (by kernel_rfl) rfl rfl rfl (by kernel_rfl) (by kernel_rfl) (by kernel_rfl) (by kernel_rfl) (fun _ _ _ h => h) Tryd.underlying42 K (fun _ h => h.has.cell b hb) ?_
  simp only [Act.put, List.setIfInBounds_toArray, List.set_cons_zero, List.set_cons_succ]
  refine pureC (i := 6) (some 59) rfl (.slice (some ⟨B, 0, none⟩) 16 cap) rfl (by decide) rfl (fun _ => by kernel_rfl) (by kernel_rfl) (by kernel_rfl) (by kernel_rfl) (fun _ _ _ h => h) K ?_
  simp only [Act.put, List.setIfInBounds_toArray, List.set_cons_zero, List.set_cons_succ]
  refine pureC (i := 7) (some 60) rfl (.int .i64 (c : Int)) rfl (by decide) rfl (fun _ => by kernel_rfl) (by kernel_rfl) (by kernel_rfl) (by kernel_rfl) (fun _ _ _ h => h) K ?_
  simp only [Act.put, List.setIfInBounds_toArray, List.set_cons_zero, List.set_cons_succ]
  refine pureC (i := 8) (some 61) rfl (.pointer (some ⟨B, c, none⟩)) rfl (by decide) rfl (fun w' => idxV B cap c hc w' _ _ rfl rfl rfl) (by kernel_rfl) (by kernel_rfl) (by kernel_rfl) (fun _ _ _ h => h) K ?_
  simp only [Act.put, List.setIfInBounds_toArray, List.set_cons_zero, List.set_cons_succ]
  refine cellC (i := 9) (some 62) rfl .u32 (.int .u32 ((mxC (mxD 16 (mxA (f) a b x) d a) c d) c)) B c 42 _ rfl rfl (by kernel_rfl) rfl rfl rfl (by kernel_rfl) (by kernel_rfl) (by kernel_rfl) (by kernel_rfl) (fun _ _ _ h => h) Tryd.underlying42 K (fun _ h => h.has.cell c hc) ?_
  simp only [Act.put, List.setIfInBounds_toArray, List.set_cons_zero, List.set_cons_succ]
  refine pureC (i := 10) (some 63) rfl (.int .u32 (hxr ((mxC (mxD 16 (mxA (f) a b x) d a) c d) b) ((mxC (mxD 16 (mxA (f) a b x) d a) c d) c))) rfl (by decide) rfl (fun w => xorI .u32 _ _ _ _ _ _ _ rfl rfl rfl rfl w) (by kernel_rfl) (by kernel_rfl) (by kernel_rfl) (fun _ _ _ h => h) K ?_
  simp only [Act.put, List.setIfInBounds_toArray, List.set_cons_zero, List.set_cons_succ]
  refine callMC (i := 11) (some 64) rfl (by kernel_rfl) rfl rfl (fun _ => by kernel_rfl) (ror_any 12 (by decide) _ (hxr_in _ _ (F3.out b hb) (F3.out c hc)) _) ?_
  rintro e u3 ⟨q3, rfl, rfl⟩
  replace K := K.drewN q3
  refine ⟨_, rfl, K, ?_⟩
  simp only [Act.put, List.setIfInBounds_toArray, List.set_cons_zero, List.set_cons_succ]
  refine pureC (i := 12) (some 65) rfl (.pointer (some ⟨B, b, none⟩)) rfl (by decide) rfl (fun w' => idxV B cap b hb w' _ _ rfl rfl rfl) (by kernel_rfl) (by kernel_rfl) (by kernel_rfl) (fun _ _ _ h => h) K ?_
  simp only [Act.put, List.setIfInBounds_toArray, List.set_cons_zero, List.set_cons_succ]
  refine storeC (S2 := fun _ => True) none rfl .u32 (hrl 20 (hxr ((mxC (mxD 16 (mxA (f) a b x) d a) c d) b) ((mxC (mxD 16 (mxA (f) a b x) d a) c d) c))) B b 42 _ _ (by kernel_rfl) rfl rfl rfl rfl rfl (by rw [K.has.cell b hb]; rfl) (K.has.free b hb) (by kernel_rfl) (by kernel_rfl) ?_
  simp only [Act.put]
  refine wpAnyH_done (by kernel_rfl) ?_ _
  have F4 := show Hid (In V 16 (mxD 20 (mxC (mxD 16 (mxA (f) a b x) d a) c d) b c)) from F3.out.upd b _ (hrl_in _ _ (hxr_in _ _ (F3.out b hb) (F3.out c hc))).1 (hrl_in _ _ (hxr_in _ _ (F3.out b hb) (F3.out c hc))).2
  replace K : MI w B (mxD 20 (mxC (mxD 16 (mxA (f) a b x) d a) c d) b c) _ := K.set b hb (hrl 20 (hxr ((mxC (mxD 16 (mxA (f) a b x) d a) c d) b) ((mxC (mxD 16 (mxA (f) a b x) d a) c d) c)))
  generalize (v3.drewN q3).setCell ⟨B, b, none⟩ (.int .u32 (hrl 20 (hxr ((mxC (mxD 16 (mxA (f) a b x) d a) c d) b) ((mxC (mxD 16 (mxA (f) a b x) d a) c d) c)))) = w4 at K ⊢
  go_upto_region 4 with fail
  refine wp_region_C (S := fun w' => MI w B (mxD 20 (mxC (mxD 16 (mxA (f) a b x) d a) c d) b c) w') 14 (by kernel_rfl) K.drew ?_
  clear K
  intro K
  generalize w4.drew = v4 at K ⊢
  refine pureC (i := 0) (some 66) rfl (.slice (some ⟨B, 0, none⟩) 16 cap) rfl (by decide) rfl (fun _ => by kernel_rfl) (by kernel_rfl) (by kernel_rfl) (by kernel_rfl) (fun _ _ _ h => h) K ?_
  simp only [Act.put, List.setIfInBounds_toArray, List.set_cons_zero, List.set_cons_succ]
  refine pureC (i := 1) (some 67) rfl (.int .i64 (a : Int)) rfl (by decide) rfl (fun _ => by kernel_rfl) (by kernel_rfl) (by kernel_rfl) (by kernel_rfl) (fun _ _ _ h => h) K ?_
  simp only [Act.put, List.setIfInBounds_toArray, List.set_cons_zero, List.set_cons_succ]
  refine pureC (i := 2) (some 68) rfl (.slice (some ⟨B, 0, none⟩) 16 cap) rfl (by decide) rfl (fun _ => by kernel_rfl) (by kernel_rfl) (by kernel_rfl) (by kernel_rfl) (fun _ _ _ h => h) K ?_
  simp only [Act.put, List.setIfInBounds_toArray, List.set_cons_zero, List.set_cons_succ]
  refine pureC (i := 3) (some 69) rfl (.int .i64 (a : Int)) rfl (by decide) rfl (fun _ => by kernel_rfl) (by kernel_rfl) (by kernel_rfl) (by kernel_rfl) (fun _ _ _ h => h) K ?_
  simp only [Act.put, List.setIfInBounds_toArray, List.set_cons_zero, List.set_cons_succ]
  refine pureC (i := 4) (some 70) rfl (.pointer (some ⟨B, a, none⟩)) rfl (by decide) rfl (fun w' => idxV B cap a ha w' _ _ rfl rfl rfl) (by kernel_rfl) (by kernel_rfl) (by kernel_rfl) (fun _ _ _ h => h) K ?_
  simp only [Act.put, List.setIfInBounds_toArray, List.set_cons_zero, List.set_cons_succ]
  refine cellC (i := 5) (some 71) rfl .u32 (.int .u32 ((mxD 20 (mxC (mxD 16 (mxA (f) a b x) d a) c d) b c) a)) B a 42 _ rfl rfl (by kernel_rfl) rfl rfl rfl (by kernel_rfl) (by kernel_rfl) (by kernel_rfl) (by kernel_rfl) (fun _ _ _ h => h) Tryd.underlying42 K (fun _ h => h.has.cell a ha) ?_
  simp only [Act.put, List.setIfInBounds_toArray, List.set_cons_zero, List.set_cons_succ]
  refine pureC (i := 6) (some 72) rfl (.slice (some ⟨B, 0, none⟩) 16 cap) rfl (by decide) rfl (fun _ => by kernel_rfl) (by kernel_rfl) (by kernel_rfl) (by kernel_rfl) (fun _ _ _ h => h) K ?_
  simp only [Act.put, List.setIfInBounds_toArray, List.set_cons_zero, List.set_cons_succ]
  refine pureC (i := 7) (some 73) rfl (.int .i64 (b : Int)) rfl (by decide) rfl (fun _ => by kernel_rfl) (by kernel_rfl) (by kernel_rfl) (by kernel_rfl) (fun _ _ _ h => h) K ?_
  simp only [Act.put, List.setIfInBounds_toArray, List.set_cons_zero, List.set_cons_succ]
  refine pureC (i := 8) (some 74) rfl (.pointer (some ⟨B, b, none⟩)) rfl (by decide) rfl (fun w' => idxV B cap b hb w' _ _ rfl rfl rfl) (by kernel_rfl) (by kernel_rfl) (by kernel_rfl) (fun _ _ _ h => h) K ?_
  simp only [Act.put, List.setIfInBounds_toArray, List.set_cons_zero, List.set_cons_succ]
  refine cellC (i := 9) (some 75) rfl .u32 (.int .u32 ((mxD 20 (mxC (mxD 16 (mxA (f) a b x) d a) c d) b c) b)) B b 42 _ rfl rfl (by kernel_rfl) rfl rfl rfl (by kernel_rfl) (by kernel_rfl) (by kernel_rfl) (by kernel_rfl) (fun _ _ _ h => h) Tryd.underlying42 K (fun _ h => h.has.cell b hb) ?_
  simp only [Act.put, List.setIfInBounds_toArray, List.set_cons_zero, List.set_cons_succ]
  refine pureC (i := 10) (some 76) rfl (.int .u32 (had ((mxD 20 (mxC (mxD 16 (mxA (f) a b x) d a) c d) b c) a) ((mxD 20 (mxC (mxD 16 (mxA (f) a b x) d a) c d) b c) b))) rfl (by decide) rfl (fun w => addI .u32 _ _ _ _ _ _ _ rfl rfl rfl (IntKind.wrap_u32' _) w) (by kernel_rfl) (by kernel_rfl) (by kernel_rfl) (fun _ _ _ h => h) K ?_
  simp only [Act.put, List.setIfInBounds_toArray, List.set_cons_zero, List.set_cons_succ]
  refine pureC (i := 11) (some 77) rfl (.int .u32 y) rfl (by decide) rfl (fun _ => by kernel_rfl) (by kernel_rfl) (by kernel_rfl) (by kernel_rfl) (fun _ _ _ h => h) K ?_
  simp only [Act.put, List.setIfInBounds_toArray, List.set_cons_zero, List.set_cons_succ]
  refine pureC (i := 12) (some 78) rfl (.int .u32 (had (had ((mxD 20 (mxC (mxD 16 (mxA (f) a b x) d a) c d) b c) a) ((mxD 20 (mxC (mxD 16 (mxA (f) a b x) d a) c d) b c) b)) y)) rfl (by decide) rfl (fun w => addI .u32 _ _ _ _ _ _ _ rfl rfl rfl (IntKind.wrap_u32' _) w) (by kernel_rfl) (by kernel_rfl) (by kernel_rfl) (fun _ _ _ h => h) K ?_
  simp only [Act.put, List.setIfInBounds_toArray, List.set_cons_zero, List.set_cons_succ]
  refine pureC (i := 13) (some 79) rfl (.pointer (some ⟨B, a, none⟩)) rfl (by decide) rfl (fun w' => idxV B cap a ha w' _ _ rfl rfl rfl) (by kernel_rfl) (by kernel_rfl) (by kernel_rfl) (fun _ _ _ h => h) K ?_
  simp only [Act.put, List.setIfInBounds_toArray, List.set_cons_zero, List.set_cons_succ]
  refine storeC (S2 := fun _ => True) none rfl .u32 (had (had ((mxD 20 (mxC (mxD 16 (mxA (f) a b x) d a) c d) b c) a) ((mxD 20 (mxC (mxD 16 (mxA (f) a b x) d a) c d) b c) b)) y) B a 42 _ _ (by kernel_rfl) rfl rfl rfl rfl rfl (by rw [K.has.cell a ha]; rfl) (K.has.free a ha) (by kernel_rfl) (by kernel_rfl) ?_
  simp only [Act.put]
  refine wpAnyH_done (by kernel_rfl) ?_ _
  have F5 := show Hid (In V 16 (mxA (mxD 20 (mxC (mxD 16 (mxA (f) a b x) d a) c d) b c) a b y)) from F4.out.upd a _ (had_in _ _).1 (had_in _ _).2
  replace K : MI w B (mxA (mxD 20 (mxC (mxD 16 (mxA (f) a b x) d a) c d) b c) a b y) _ := K.set a ha (had (had ((mxD 20 (mxC (mxD 16 (mxA (f) a b x) d a) c d) b c) a) ((mxD 20 (mxC (mxD 16 (mxA (f) a b x) d a) c d) b c) b)) y)
  generalize v4.setCell ⟨B, a, none⟩ (.int .u32 (had (had ((mxD 20 (mxC (mxD 16 (mxA (f) a b x) d a) c d) b c) a) ((mxD 20 (mxC (mxD 16 (mxA (f) a b x) d a) c d) b c) b)) y)) = w5 at K ⊢
  go_upto_region 5 with fail
  refine wp_region_C (S := fun w' => MI w B (mxA (mxD 20 (mxC (mxD 16 (mxA (f) a b x) d a) c d) b c) a b y) w') 13 (by kernel_rfl) K.drew ?_
  clear K
  intro K
  generalize w5.drew = v5 at K ⊢
  refine pureC (i := 0) (some 80) rfl (.slice (some ⟨B, 0, none⟩) 16 cap) rfl (by decide) rfl (fun _ => by kernel_rfl) (by kernel_rfl) (by kernel_rfl) (by kernel_rfl) (fun _ _ _ h => h) K ?_
  simp only [Act.put, List.setIfInBounds_toArray, List.set_cons_zero, List.set_cons_succ]
  refine pureC (i := 1) (some 81) rfl (.int .i64 (d : Int)) rfl (by decide) rfl (fun _ => by kernel_rfl) (by kernel_rfl) (by kernel_rfl) (by kernel_rfl) (fun _ _ _ h => h) K ?_
  simp only [Act.put, List.setIfInBounds_toArray, List.set_cons_zero, List.set_cons_succ]
  refine pureC (i := 2) (some 82) rfl (.slice (some ⟨B, 0, none⟩) 16 cap) rfl (by decide) rfl (fun _ => by kernel_rfl) (by kernel_rfl) (by kernel_rfl) (by kernel_rfl) (fun _ _ _ h => h) K ?_
  simp only [Act.put, List.setIfInBounds_toArray, List.set_cons_zero, List.set_cons_succ]
  refine pureC (i := 3) (some 83) rfl (.int .i64 (d : Int)) rfl (by decide) rfl (fun _ => by kernel_rfl) (by kernel_rfl) (by kernel_rfl) (by kernel_rfl) (fun _ _ _ h => h) K ?_
  simp only [Act.put, List.setIfInBounds_toArray, List.set_cons_zero, List.set_cons_succ]
  refine pureC (i := 4) (some 84) rfl (.pointer (some ⟨B, d, none⟩)) rfl (by decide) rfl (fun w' => idxV B cap d hd w' _ _ rfl rfl rfl) (by kernel_rfl) (by kernel_rfl) (by kernel_rfl) (fun _ _ _ h => h) K ?_
  simp only [Act.put, List.setIfInBounds_toArray, List.set_cons_zero, List.set_cons_succ]
  refine cellC (i := 5) (some 85) rfl .u32 (.int .u32 ((mxA (mxD 20 (mxC (mxD 16 (mxA (f) a b x) d a) c d) b c) a b y) d)) B d 42 _ rfl rfl (by kernel_rfl) rfl rfl rfl (by kernel_rfl) (by kernel_rfl) (by kernel_rfl) (by kernel_rfl) (fun _ _ _ h => h) Tryd.underlying42 K (fun _ h => h.has.cell d hd) ?_
  simp only [Act.put, List.setIfInBounds_toArray, List.set_cons_zero, List.set_cons_succ]
  refine pureC (i := 6) (some 86) rfl (.slice (some ⟨B, 0, none⟩) 16 cap) rfl (by decide) rfl (fun _ => by kernel_rfl) (by kernel_rfl) (by kernel_rfl) (by kernel_rfl) (fun _ _ _ h => h) K ?_
  simp only [Act.put, List.setIfInBounds_toArray, List.set_cons_zero, List.set_cons_succ]
  refine pureC (i := 7) (some 87) rfl (.int .i64 (a : Int)) rfl (by decide) rfl (fun _ => by kernel_rfl) (by kernel_rfl) (by kernel_rfl) (by kernel_rfl) (fun _ _ _ h => h) K ?_
  simp only [Act.put, List.setIfInBounds_toArray, List.set_cons_zero, List.set_cons_succ]
  refine pureC (i := 8) (some 88) rfl (.pointer (some ⟨B, a, none⟩)) rfl (by decide) rfl (fun w' => idxV B cap a ha w' _ _ rfl rfl rfl) (by kernel_rfl) (by kernel_rfl) (by kernel_rfl) (fun _ _ _ h => h) K ?_
  simp only [Act.put, List.setIfInBounds_toArray, List.set_cons_zero, List.set_cons_succ]
  refine cellC (i := 9) (some 89) rfl .u32 (.int .u32 ((mxA (mxD 20 (mxC (mxD 16 (mxA (f) a b x) d a) c d) b c) a b y) a)) B a 42 _ rfl rfl (by kernel_rfl) rfl rfl rfl (by kernel_rfl) (by kernel_rfl) (by kernel_rfl) (by kernel_rfl) (fun _ _ _ h => h) Tryd.underlying42 K (fun _ h => h.has.cell a ha) ?_
  simp only [Act.put, List.setIfInBounds_toArray, List.set_cons_zero, List.set_cons_succ]
  refine pureC (i := 10) (some 90) rfl (.int .u32 (hxr ((mxA (mxD 20 (mxC (mxD 16 (mxA (f) a b x) d a) c d) b c) a b y) d) ((mxA (mxD 20 (mxC (mxD 16 (mxA (f) a b x) d a) c d) b c) a b y) a))) rfl (by decide) rfl (fun w => xorI .u32 _ _ _ _ _ _ _ rfl rfl rfl rfl w) (by kernel_rfl) (by kernel_rfl) (by kernel_rfl) (fun _ _ _ h => h) K ?_
  simp only [Act.put, List.setIfInBounds_toArray, List.set_cons_zero, List.set_cons_succ]
  refine callMC (i := 11) (some 91) rfl (by kernel_rfl) rfl rfl (fun _ => by kernel_rfl) (ror_any 8 (by decide) _ (hxr_in _ _ (F5.out d hd) (F5.out a ha)) _) ?_
  rintro e u5 ⟨q5, rfl, rfl⟩
  replace K := K.drewN q5
  refine ⟨_, rfl, K, ?_⟩
  simp only [Act.put, List.setIfInBounds_toArray, List.set_cons_zero, List.set_cons_succ]
  refine pureC (i := 12) (some 92) rfl (.pointer (some ⟨B, d, none⟩)) rfl (by decide) rfl (fun w' => idxV B cap d hd w' _ _ rfl rfl rfl) (by kernel_rfl) (by kernel_rfl) (by kernel_rfl) (fun _ _ _ h => h) K ?_
  simp only [Act.put, List.setIfInBounds_toArray, List.set_cons_zero, List.set_cons_succ]
  refine storeC (S2 := fun _ => True) none rfl .u32 (hrl 24 (hxr ((mxA (mxD 20 (mxC (mxD 16 (mxA (f) a b x) d a) c d) b c) a b y) d) ((mxA (mxD 20 (mxC (mxD 16 (mxA (f) a b x) d a) c d) b c) a b y) a))) B d 42 _ _ (by kernel_rfl) rfl rfl rfl rfl rfl (by rw [K.has.cell d hd]; rfl) (K.has.free d hd) (by kernel_rfl) (by kernel_rfl) ?_
  simp only [Act.put]
  refine wpAnyH_done (by kernel_rfl) ?_ _
  have F6 := show Hid (In V 16 (mxD 24 (mxA (mxD 20 (mxC (mxD 16 (mxA (f) a b x) d a) c d) b c) a b y) d a)) from F5.out.upd d _ (hrl_in _ _ (hxr_in _ _ (F5.out d hd) (F5.out a ha))).1 (hrl_in _ _ (hxr_in _ _ (F5.out d hd) (F5.out a ha))).2
  replace K : MI w B (mxD 24 (mxA (mxD 20 (mxC (mxD 16 (mxA (f) a b x) d a) c d) b c) a b y) d a) _ := K.set d hd (hrl 24 (hxr ((mxA (mxD 20 (mxC (mxD 16 (mxA (f) a b x) d a) c d) b c) a b y) d) ((mxA (mxD 20 (mxC (mxD 16 (mxA (f) a b x) d a) c d) b c) a b y) a)))
  generalize (v5.drewN q5).setCell ⟨B, d, none⟩ (.int .u32 (hrl 24 (hxr ((mxA (mxD 20 (mxC (mxD 16 (mxA (f) a b x) d a) c d) b c) a b y) d) ((mxA (mxD 20 (mxC (mxD 16 (mxA (f) a b x) d a) c d) b c) a b y) a)))) = w6 at K ⊢
  go_upto_region 6 with fail
  refine wp_region_C (S := fun w' => MI w B (mxD 24 (mxA (mxD 20 (mxC (mxD 16 (mxA (f) a b x) d a) c d) b c) a b y) d a) w') 12 (by kernel_rfl) K.drew ?_
  clear K
  intro K
  generalize w6.drew = v6 at K ⊢
  refine pureC (i := 0) (some 93) rfl (.slice (some ⟨B, 0, none⟩) 16 cap) rfl (by decide) rfl (fun _ => by kernel_rfl) (by kernel_rfl) (by kernel_rfl) (by kernel_rfl) (fun _ _ _ h => h) K ?_
  simp only [Act.put, List.setIfInBounds_toArray, List.set_cons_zero, List.set_cons_succ]
  refine pureC (i := 1) (some 94) rfl (.int .i64 (c : Int)) rfl (by decide) rfl (fun _ => by kernel_rfl) (by kernel_rfl) (by kernel_rfl) (by kernel_rfl) (fun _ _ _ h => h) K ?_
  simp only [Act.put, List.setIfInBounds_toArray, List.set_cons_zero, List.set_cons_succ]
  refine pureC (i := 2) (some 95) rfl (.slice (some ⟨B, 0, none⟩) 16 cap) rfl (by decide) rfl (fun _ => by kernel_rfl) (by kernel_rfl) (by kernel_rfl) (by kernel_rfl) (fun _ _ _ h => h) K ?_
  simp only [Act.put, List.setIfInBounds_toArray, List.set_cons_zero, List.set_cons_succ]
  refine pureC (i := 3) (some 96) rfl (.int .i64 (c : Int)) rfl (by decide) rfl (fun _ => by kernel_rfl) (by kernel_rfl) (by kernel_rfl) (by kernel_rfl) (fun _ _ _ h => h) K ?_
  simp only [Act.put, List.setIfInBounds_toArray, List.set_cons_zero, List.set_cons_succ]
  refine pureC (i := 4) (some 97) rfl (.pointer (some ⟨B, c, none⟩)) rfl (by decide) rfl (fun w' => idxV B cap c hc w' _ _ rfl rfl rfl) (by kernel_rfl) (by kernel_rfl) (by kernel_rfl) (fun _ _ _ h => h) K ?_
  simp only [Act.put, List.setIfInBounds_toArray, List.set_cons_zero, List.set_cons_succ]
  refine cellC (i := 5) (some 98) rfl .u32 (.int .u32 ((mxD 24 (mxA (mxD 20 (mxC (mxD 16 (mxA (f) a b x) d a) c d) b c) a b y) d a) c)) B c 42 _ rfl rfl (by kernel_rfl) rfl rfl rfl (by kernel_rfl) (by kernel_rfl) (by kernel_rfl) (by kernel_rfl) (fun _ _ _ h => h) Tryd.underlying42 K (fun _ h => h.has.cell c hc) ?_
  simp only [Act.put, List.setIfInBounds_toArray, List.set_cons_zero, List.set_cons_succ]
  refine pureC (i := 6) (some 99) rfl (.slice (some ⟨B, 0, none⟩) 16 cap) rfl (by decide) rfl (fun _ => by kernel_rfl) (by kernel_rfl) (by kernel_rfl) (by kernel_rfl) (fun _ _ _ h => h) K ?_
  simp only [Act.put, List.setIfInBounds_toArray, List.set_cons_zero, List.set_cons_succ]
  refine pureC (i := 7) (some 100) rfl (.int .i64 (d : Int)) rfl (by decide) rfl (fun _ => by kernel_rfl) (by kernel_rfl) (by kernel_rfl) (by kernel_rfl) (fun _ _ _ h => h) K ?_
  simp only [Act.put, List.setIfInBounds_toArray, List.set_cons_zero, List.set_cons_succ]
  refine pureC (i := 8) (some 101) rfl (.pointer (some ⟨B, d, none⟩)) rfl (by decide) rfl (fun w' => idxV B cap d hd w' _ _ rfl rfl rfl) (by kernel_rfl) (by kernel_rfl) (by kernel_rfl) (fun _ _ _ h => h) K ?_
  simp only [Act.put, List.setIfInBounds_toArray, List.set_cons_zero, List.set_cons_succ]
  refine cellC (i := 9) (some 102) rfl .u32 (.int .u32 ((mxD 24 (mxA (mxD 20 (mxC (mxD 16 (mxA (f) a b x) d a) c d) b c) a b y) d a) d)) B d 42 _ rfl rfl (by kernel_rfl) rfl rfl rfl (by kernel_rfl) (by kernel_rfl) (by kernel_rfl) (by kernel_rfl) (fun _ _ _ h => h) Tryd.underlying42 K (fun _ h => h.has.cell d hd) ?_
  simp only [Act.put, List.setIfInBounds_toArray, List.set_cons_zero, List.set_cons_succ]
  refine pureC (i := 10) (some 103) rfl (.int .u32 (had ((mxD 24 (mxA (mxD 20 (mxC (mxD 16 (mxA (f) a b x) d a) c d) b c) a b y) d a) c) ((mxD 24 (mxA (mxD 20 (mxC (mxD 16 (mxA (f) a b x) d a) c d) b c) a b y) d a) d))) rfl (by decide) rfl (fun w => addI .u32 _ _ _ _ _ _ _ rfl rfl rfl (IntKind.wrap_u32' _) w) (by kernel_rfl) (by kernel_rfl) (by kernel_rfl) (fun _ _ _ h => h) K ?_
  simp only [Act.put, List.setIfInBounds_toArray, List.set_cons_zero, List.set_cons_succ]
  refine pureC (i := 11) (some 104) rfl (.pointer (some ⟨B, c, none⟩)) rfl (by decide) rfl (fun w' => idxV B cap c hc w' _ _ rfl rfl rfl) (by kernel_rfl) (by kernel_rfl) (by kernel_rfl) (fun _ _ _ h => h) K ?_
  simp only [Act.put, List.setIfInBounds_toArray, List.set_cons_zero, List.set_cons_succ]
  refine storeC (S2 := fun _ => True) none rfl .u32 (had ((mxD 24 (mxA (mxD 20 (mxC (mxD 16 (mxA (f) a b x) d a) c d) b c) a b y) d a) c) ((mxD 24 (mxA (mxD 20 (mxC (mxD 16 (mxA (f) a b x) d a) c d) b c) a b y) d a) d)) B c 42 _ _ (by kernel_rfl) rfl rfl rfl rfl rfl (by rw [K.has.cell c hc]; rfl) (K.has.free c hc) (by kernel_rfl) (by kernel_rfl) ?_
  simp only [Act.put]
  refine wpAnyH_done (by kernel_rfl) ?_ _
  have F7 := show Hid (In V 16 (mxC (mxD 24 (mxA (mxD 20 (mxC (mxD 16 (mxA (f) a b x) d a) c d) b c) a b y) d a) c d)) from F6.out.upd c _ (had_in _ _).1 (had_in _ _).2
  replace K : MI w B (mxC (mxD 24 (mxA (mxD 20 (mxC (mxD 16 (mxA (f) a b x) d a) c d) b c) a b y) d a) c d) _ := K.set c hc (had ((mxD 24 (mxA (mxD 20 (mxC (mxD 16 (mxA (f) a b x) d a) c d) b c) a b y) d a) c) ((mxD 24 (mxA (mxD 20 (mxC (mxD 16 (mxA (f) a b x) d a) c d) b c) a b y) d a) d))
  generalize v6.setCell ⟨B, c, none⟩ (.int .u32 (had ((mxD 24 (mxA (mxD 20 (mxC (mxD 16 (mxA (f) a b x) d a) c d) b c) a b y) d a) c) ((mxD 24 (mxA (mxD 20 (mxC (mxD 16 (mxA (f) a b x) d a) c d) b c) a b y) d a) d))) = w7 at K ⊢
  go_upto_region 7 with fail
  refine wp_region_C (S := fun w' => MI w B (mxC (mxD 24 (mxA (mxD 20 (mxC (mxD 16 (mxA (f) a b x) d a) c d) b c) a b y) d a) c d) w') 13 (by kernel_rfl) K.drew ?_
  clear K
  intro K
  generalize w7.drew = v7 at K ⊢
  refine pureC (i := 0) (some 105) rfl (.slice (some ⟨B, 0, none⟩) 16 cap) rfl (by decide) rfl (fun _ => by kernel_rfl) (by kernel_rfl) (by kernel_rfl) (by kernel_rfl) (fun _ _ _ h => h) K ?_
  simp only [Act.put, List.setIfInBounds_toArray, List.set_cons_zero, List.set_cons_succ]
  refine pureC (i := 1) (some 106) rfl (.int .i64 (b : Int)) rfl (by decide) rfl (fun _ => by kernel_rfl) (by kernel_rfl) (by kernel_rfl) (by kernel_rfl) (fun _ _ _ h => h) K ?_
  simp only [Act.put, List.setIfInBounds_toArray, List.set_cons_zero, List.set_cons_succ]
  refine pureC (i := 2) (some 107) rfl (.slice (some ⟨B, 0, none⟩) 16 cap) rfl (by decide) rfl (fun _ => by kernel_rfl) (by kernel_rfl) (by kernel_rfl) (by kernel_rfl) (fun _ _ _ h => h) K ?_
  simp only [Act.put, List.setIfInBounds_toArray, List.set_cons_zero, List.set_cons_succ]
  refine pureC (i := 3) (some 108) rfl (.int .i64 (b : Int)) rfl (by decide) rfl (fun _ => by kernel_rfl) (by kernel_rfl) (by kernel_rfl) (by kernel_rfl) (fun _ _ _ h => h) K ?_
  simp only [Act.put, List.setIfInBounds_toArray, List.set_cons_zero, List.set_cons_succ]
  refine pureC (i := 4) (some 109) rfl (.pointer (some ⟨B, b, none⟩)) rfl (by decide) rfl (fun w' => idxV B cap b hb w' _ _ rfl rfl rfl) (by kernel_rfl) (by kernel_rfl) (by kernel_rfl) (fun _ _ _ h => h) K ?_
  simp only [Act.put, List.setIfInBounds_toArray, List.set_cons_zero, List.set_cons_succ]
  refine cellC (i := 5) (some 110) rfl .u32 (.int .u32 ((mxC (mxD 24 (mxA (mxD 20 (mxC (mxD 16 (mxA (f) a b x) d a) c d) b c) a b y) d a) c d) b)) B b 42 _ rfl rfl (by kernel_rfl) rfl rfl rfl (by kernel_rfl) (by kernel_rfl) (by kernel_rfl) (by kernel_rfl) (fun _ _ _ h => h) Tryd.underlying42 K (fun _ h => h.has.cell b hb) ?_
  simp only [Act.put, List.setIfInBounds_toArray, List.set_cons_zero, List.set_cons_succ]
  refine pureC (i := 6) (some 111) rfl (.slice (some ⟨B, 0, none⟩) 16 cap) rfl (by decide) rfl (fun _ => by kernel_rfl) (by kernel_rfl) (by kernel_rfl) (by kernel_rfl) (fun _ _ _ h => h) K ?_
  simp only [Act.put, List.setIfInBounds_toArray, List.set_cons_zero, List.set_cons_succ]
  refine pureC (i := 7) (some 112) rfl (.int .i64 (c : Int)) rfl (by decide) rfl (fun _ => by kernel_rfl) (by kernel_rfl) (by kernel_rfl) (by kernel_rfl) (fun _ _ _ h => h) K ?_
  simp only [Act.put, List.setIfInBounds_toArray, List.set_cons_zero, List.set_cons_succ]
  refine pureC (i := 8) (some 113) rfl (.pointer (some ⟨B, c, none⟩)) rfl (by decide) rfl (fun w' => idxV B cap c hc w' _ _ rfl rfl rfl) (by kernel_rfl) (by kernel_rfl) (by kernel_rfl) (fun _ _ _ h => h) K ?_
  simp only [Act.put, List.setIfInBounds_toArray, List.set_cons_zero, List.set_cons_succ]
  refine cellC (i := 9) (some 114) rfl .u32 (.int .u32 ((mxC (mxD 24 (mxA (mxD 20 (mxC (mxD 16 (mxA (f) a b x) d a) c d) b c) a b y) d a) c d) c)) B c 42 _ rfl rfl (by kernel_rfl) rfl rfl rfl (by kernel_rfl) (by kernel_rfl) (by kernel_rfl) (by kernel_rfl) (fun _ _ _ h => h) Tryd.underlying42 K (fun _ h => h.has.cell c hc) ?_
  simp only [Act.put, List.setIfInBounds_toArray, List.set_cons_zero, List.set_cons_succ]
  refine pureC (i := 10) (some 115) rfl (.int .u32 (hxr ((mxC (mxD 24 (mxA (mxD 20 (mxC (mxD 16 (mxA (f) a b x) d a) c d) b c) a b y) d a) c d) b) ((mxC (mxD 24 (mxA (mxD 20 (mxC (mxD 16 (mxA (f) a b x) d a) c d) b c) a b y) d a) c d) c))) rfl (by decide) rfl (fun w => xorI .u32 _ _ _ _ _ _ _ rfl rfl rfl rfl w) (by kernel_rfl) (by kernel_rfl) (by kernel_rfl) (fun _ _ _ h => h) K ?_
  simp only [Act.put, List.setIfInBounds_toArray, List.set_cons_zero, List.set_cons_succ]
  refine callMC (i := 11) (some 116) rfl (by kernel_rfl) rfl rfl (fun _ => by kernel_rfl) (ror_any 7 (by decide) _ (hxr_in _ _ (F7.out b hb) (F7.out c hc)) _) ?_
  rintro e u7 ⟨q7, rfl, rfl⟩
  replace K := K.drewN q7
  refine ⟨_, rfl, K, ?_⟩
  simp only [Act.put, List.setIfInBounds_toArray, List.set_cons_zero, List.set_cons_succ]
  refine pureC (i := 12) (some 117) rfl (.pointer (some ⟨B, b, none⟩)) rfl (by decide) rfl (fun w' => idxV B cap b hb w' _ _ rfl rfl rfl) (by kernel_rfl) (by kernel_rfl) (by kernel_rfl) (fun _ _ _ h => h) K ?_
  simp only [Act.put, List.setIfInBounds_toArray, List.set_cons_zero, List.set_cons_succ]
  refine storeC (S2 := fun _ => True) none rfl .u32 (hrl 25 (hxr ((mxC (mxD 24 (mxA (mxD 20 (mxC (mxD 16 (mxA (f) a b x) d a) c d) b c) a b y) d a) c d) b) ((mxC (mxD 24 (mxA (mxD 20 (mxC (mxD 16 (mxA (f) a b x) d a) c d) b c) a b y) d a) c d) c))) B b 42 _ _ (by kernel_rfl) rfl rfl rfl rfl rfl (by rw [K.has.cell b hb]; rfl) (K.has.free b hb) (by kernel_rfl) (by kernel_rfl) ?_
  simp only [Act.put]
  refine wpAnyH_done (by kernel_rfl) ?_ _
  have F8 := show Hid (In V 16 (mxD 25 (mxC (mxD 24 (mxA (mxD 20 (mxC (mxD 16 (mxA (f) a b x) d a) c d) b c) a b y) d a) c d) b c)) from F7.out.upd b _ (hrl_in _ _ (hxr_in _ _ (F7.out b hb) (F7.out c hc))).1 (hrl_in _ _ (hxr_in _ _ (F7.out b hb) (F7.out c hc))).2
  replace K : MI w B (mxD 25 (mxC (mxD 24 (mxA (mxD 20 (mxC (mxD 16 (mxA (f) a b x) d a) c d) b c) a b y) d a) c d) b c) _ := K.set b hb (hrl 25 (hxr ((mxC (mxD 24 (mxA (mxD 20 (mxC (mxD 16 (mxA (f) a b x) d a) c d) b c) a b y) d a) c d) b) ((mxC (mxD 24 (mxA (mxD 20 (mxC (mxD 16 (mxA (f) a b x) d a) c d) b c) a b y) d a) c d) c)))
  generalize (v7.drewN q7).setCell ⟨B, b, none⟩ (.int .u32 (hrl 25 (hxr ((mxC (mxD 24 (mxA (mxD 20 (mxC (mxD 16 (mxA (f) a b x) d a) c d) b c) a b y) d a) c d) b) ((mxC (mxD 24 (mxA (mxD 20 (mxC (mxD 16 (mxA (f) a b x) d a) c d) b c) a b y) d a) c d) c)))) = w8 at K ⊢
  rw [mx_all f a b c d x y hab hac had_ hbc hbd hcd] at K
  go_wp2
  go_end0
  exact ⟨rfl, K⟩
end Go.Proofs.YtcdbkbcfjdpdoaaDoor

namespace Go.Proofs.YtcdbkbcfjdpdoaaDoor
open Go.RowKit

set_option maxRecDepth 10000 in
theorem refStart_any (w : World) :
    Calls Tryd.prog 39 #[] w fun e w' => ∃ B, e = .returned (.slice (some ⟨B, 0, none⟩) 8 8) ∧ (w.heap.size ≤ B ∧ B < w'.heap.size ∧ Has w' B .u32 8 iv) ∧ Below w.heap.size w w' := by
  have H := Has.new w .u32 8 iv 42 w.heap.size rfl
  have hb := (Below.refl w.heap.size w).alloc (Nat.le_refl _) (.cells (row .u32 8 iv).toArray 42)
  have hz := size_new w (.cells (row .u32 8 iv).toArray 42)
  go_enter Tryd.func39, Tryd.ntmps39
  go_upto_region 1 with fail
  refine wp_region_list ?_
  refine actL (w' := w.alloc (.cells (row .u32 8 iv).toArray 42)) (.slice (some ⟨w.heap.size, 0, none⟩) 8 8) rfl (by kernel_rfl) ?_
  simp only [Act.put, List.setIfInBounds_toArray, List.set_cons_zero, List.set_cons_succ]
  refine pureL (.slice (some ⟨w.heap.size, 0, none⟩) 8 8) rfl (fun _ => by kernel_rfl) ?_
  simp only [Act.put, List.setIfInBounds_toArray, List.set_cons_zero]
  show Exit.then _ _ _ _ _
  generalize w.alloc (.cells (row .u32 8 iv).toArray 42) = w1 at H hb hz ⊢
  go_wp2
  go_ret
  exact ⟨w.heap.size, rfl, ⟨Nat.le_refl _, by omega, H⟩, hb⟩

/-- The rows, each in a block, and a block of slices of them. -/
structure SGT (w' : World) (O : Nat) (bs : Nat → Nat) : Prop where
  top : ∀ r, r < 10 → w'.cell? ⟨O, r, none⟩ = some (.slice (some ⟨bs r, 0, none⟩) 16 16)
  rows : ∀ r, r < 10 → Has w' (bs r) .i64 16 (fun i => ((sg r i : Nat) : Int)) ∧ bs r < w'.heap.size
  lt : O < w'.heap.size
theorem SGT.below {w w' : World} {O : Nat} {bs : Nat → Nat} (h : SGT w O bs) {B : Nat} (l : Below B w w') (hB : w.heap.size ≤ B) : SGT w' O bs :=
  ⟨fun r hr => by rw [l.cell (p := ⟨O, r, none⟩) (Nat.lt_of_lt_of_le h.lt hB)]; exact h.top r hr, fun r hr => ⟨(h.rows r hr).1.below l (Nat.lt_of_lt_of_le (h.rows r hr).2 hB), Nat.lt_of_lt_of_le (h.rows r hr).2 l.size⟩, Nat.lt_of_lt_of_le h.lt l.size⟩

set_option maxRecDepth 10000 in
set_option maxHeartbeats 4000000 in
theorem refRows_any (w : World) :
    Calls Tryd.prog 44 #[] w fun e w' => ∃ O bs, e = .returned (.slice (some ⟨O, 0, none⟩) 10 10) ∧ (w.heap.size ≤ O ∧ (∀ r, r < 10 → w.heap.size ≤ bs r) ∧ SGT w' O bs) ∧ Below w.heap.size w w' := by
  have K := Kr.init w
  go_enter Tryd.func44, Tryd.ntmps44
  go_upto_region 1 with fail
  refine wp_region_list ?_
  refine actL (w' := w.alloc (.cells (row .i64 16 (fun i => ((sg 0 i : Nat) : Int))).toArray 3)) (.slice (some ⟨w.heap.size, 0, none⟩) 16 16) rfl (by kernel_rfl) ?_
  simp only [Act.put, List.setIfInBounds_toArray, List.set_cons_zero, List.set_cons_succ]
  have z0 := K.size
  replace K := K.box .i64 16 (fun i => ((sg 0 i : Nat) : Int)) 3 w.heap.size rfl
  generalize w.alloc (.cells (row .i64 16 (fun i => ((sg 0 i : Nat) : Int))).toArray 3) = w0 at K ⊢
  refine actL (w' := w0.alloc (.cells (row .i64 16 (fun i => ((sg 1 i : Nat) : Int))).toArray 3)) (.slice (some ⟨w0.heap.size, 0, none⟩) 16 16) rfl (by kernel_rfl) ?_
  simp only [Act.put, List.setIfInBounds_toArray, List.set_cons_zero, List.set_cons_succ]
  have z1 := K.size
  replace K := K.box .i64 16 (fun i => ((sg 1 i : Nat) : Int)) 3 w0.heap.size rfl
  generalize w0.alloc (.cells (row .i64 16 (fun i => ((sg 1 i : Nat) : Int))).toArray 3) = w1 at K ⊢
  generalize w0.heap.size = B1 at K z1 ⊢
  refine actL (w' := w1.alloc (.cells (row .i64 16 (fun i => ((sg 2 i : Nat) : Int))).toArray 3)) (.slice (some ⟨w1.heap.size, 0, none⟩) 16 16) rfl (by kernel_rfl) ?_
  simp only [Act.put, List.setIfInBounds_toArray, List.set_cons_zero, List.set_cons_succ]
  have z2 := K.size
  replace K := K.box .i64 16 (fun i => ((sg 2 i : Nat) : Int)) 3 w1.heap.size rfl
  generalize w1.alloc (.cells (row .i64 16 (fun i => ((sg 2 i : Nat) : Int))).toArray 3) = w2 at K ⊢
  generalize w1.heap.size = B2 at K z2 ⊢
  refine actL (w' := w2.alloc (.cells (row .i64 16 (fun i => ((sg 3 i : Nat) : Int))).toArray 3)) (.slice (some ⟨w2.heap.size, 0, none⟩) 16 16) rfl (by kernel_rfl) ?_
  simp only [Act.put, List.setIfInBounds_toArray, List.set_cons_zero, List.set_cons_succ]
  have z3 := K.size
  replace K := K.box .i64 16 (fun i => ((sg 3 i : Nat) : Int)) 3 w2.heap.size rfl
  generalize w2.alloc (.cells (row .i64 16 (fun i => ((sg 3 i : Nat) : Int))).toArray 3) = w3 at K ⊢
  generalize w2.heap.size = B3 at K z3 ⊢
  refine actL (w' := w3.alloc (.cells (row .i64 16 (fun i => ((sg 4 i : Nat) : Int))).toArray 3)) (.slice (some ⟨w3.heap.size, 0, none⟩) 16 16) rfl (by kernel_rfl) ?_
  simp only [Act.put, List.setIfInBounds_toArray, List.set_cons_zero, List.set_cons_succ]
  have z4 := K.size
  replace K := K.box .i64 16 (fun i => ((sg 4 i : Nat) : Int)) 3 w3.heap.size rfl
  generalize w3.alloc (.cells (row .i64 16 (fun i => ((sg 4 i : Nat) : Int))).toArray 3) = w4 at K ⊢
  generalize w3.heap.size = B4 at K z4 ⊢
  refine actL (w' := w4.alloc (.cells (row .i64 16 (fun i => ((sg 5 i : Nat) : Int))).toArray 3)) (.slice (some ⟨w4.heap.size, 0, none⟩) 16 16) rfl (by kernel_rfl) ?_
  simp only [Act.put, List.setIfInBounds_toArray, List.set_cons_zero, List.set_cons_succ]
  have z5 := K.size
  replace K := K.box .i64 16 (fun i => ((sg 5 i : Nat) : Int)) 3 w4.heap.size rfl
  generalize w4.alloc (.cells (row .i64 16 (fun i => ((sg 5 i : Nat) : Int))).toArray 3) = w5 at K ⊢
  generalize w4.heap.size = B5 at K z5 ⊢
  refine actL (w' := w5.alloc (.cells (row .i64 16 (fun i => ((sg 6 i : Nat) : Int))).toArray 3)) (.slice (some ⟨w5.heap.size, 0, none⟩) 16 16) rfl (by kernel_rfl) ?_
  simp only [Act.put, List.setIfInBounds_toArray, List.set_cons_zero, List.set_cons_succ]
  have z6 := K.size
  replace K := K.box .i64 16 (fun i => ((sg 6 i : Nat) : Int)) 3 w5.heap.size rfl
  generalize w5.alloc (.cells (row .i64 16 (fun i => ((sg 6 i : Nat) : Int))).toArray 3) = w6 at K ⊢
  generalize w5.heap.size = B6 at K z6 ⊢
  refine actL (w' := w6.alloc (.cells (row .i64 16 (fun i => ((sg 7 i : Nat) : Int))).toArray 3)) (.slice (some ⟨w6.heap.size, 0, none⟩) 16 16) rfl (by kernel_rfl) ?_
  simp only [Act.put, List.setIfInBounds_toArray, List.set_cons_zero, List.set_cons_succ]
  have z7 := K.size
  replace K := K.box .i64 16 (fun i => ((sg 7 i : Nat) : Int)) 3 w6.heap.size rfl
  generalize w6.alloc (.cells (row .i64 16 (fun i => ((sg 7 i : Nat) : Int))).toArray 3) = w7 at K ⊢
  generalize w6.heap.size = B7 at K z7 ⊢
  refine actL (w' := w7.alloc (.cells (row .i64 16 (fun i => ((sg 8 i : Nat) : Int))).toArray 3)) (.slice (some ⟨w7.heap.size, 0, none⟩) 16 16) rfl (by kernel_rfl) ?_
  simp only [Act.put, List.setIfInBounds_toArray, List.set_cons_zero, List.set_cons_succ]
  have z8 := K.size
  replace K := K.box .i64 16 (fun i => ((sg 8 i : Nat) : Int)) 3 w7.heap.size rfl
  generalize w7.alloc (.cells (row .i64 16 (fun i => ((sg 8 i : Nat) : Int))).toArray 3) = w8 at K ⊢
  generalize w7.heap.size = B8 at K z8 ⊢
  refine actL (w' := w8.alloc (.cells (row .i64 16 (fun i => ((sg 9 i : Nat) : Int))).toArray 3)) (.slice (some ⟨w8.heap.size, 0, none⟩) 16 16) rfl (by kernel_rfl) ?_
  simp only [Act.put, List.setIfInBounds_toArray, List.set_cons_zero, List.set_cons_succ]
  have z9 := K.size
  replace K := K.box .i64 16 (fun i => ((sg 9 i : Nat) : Int)) 3 w8.heap.size rfl
  generalize w8.alloc (.cells (row .i64 16 (fun i => ((sg 9 i : Nat) : Int))).toArray 3) = w9 at K ⊢
  generalize w8.heap.size = B9 at K z9 ⊢
  refine actL (w' := w9.alloc (.cells #[.slice (some ⟨w.heap.size, 0, none⟩) 16 16, .slice (some ⟨B1, 0, none⟩) 16 16, .slice (some ⟨B2, 0, none⟩) 16 16, .slice (some ⟨B3, 0, none⟩) 16 16, .slice (some ⟨B4, 0, none⟩) 16 16, .slice (some ⟨B5, 0, none⟩) 16 16, .slice (some ⟨B6, 0, none⟩) 16 16, .slice (some ⟨B7, 0, none⟩) 16 16, .slice (some ⟨B8, 0, none⟩) 16 16, .slice (some ⟨B9, 0, none⟩) 16 16] 72)) (.slice (some ⟨w9.heap.size, 0, none⟩) 10 10) rfl (by kernel_rfl) ?_
  simp only [Act.put, List.setIfInBounds_toArray, List.set_cons_zero, List.set_cons_succ]
  refine pureL (.slice (some ⟨w9.heap.size, 0, none⟩) 10 10) rfl (fun _ => by kernel_rfl) ?_
  simp only [Act.put, List.setIfInBounds_toArray, List.set_cons_zero]
  have K2 := K.call ((Below.refl w9.heap.size w9).alloc (Nat.le_refl _) (.cells #[.slice (some ⟨w.heap.size, 0, none⟩) 16 16, .slice (some ⟨B1, 0, none⟩) 16 16, .slice (some ⟨B2, 0, none⟩) 16 16, .slice (some ⟨B3, 0, none⟩) 16 16, .slice (some ⟨B4, 0, none⟩) 16 16, .slice (some ⟨B5, 0, none⟩) 16 16, .slice (some ⟨B6, 0, none⟩) 16 16, .slice (some ⟨B7, 0, none⟩) 16 16, .slice (some ⟨B8, 0, none⟩) 16 16, .slice (some ⟨B9, 0, none⟩) 16 16] 72))
  have hc : ∀ i, (w9.alloc (.cells #[.slice (some ⟨w.heap.size, 0, none⟩) 16 16, .slice (some ⟨B1, 0, none⟩) 16 16, .slice (some ⟨B2, 0, none⟩) 16 16, .slice (some ⟨B3, 0, none⟩) 16 16, .slice (some ⟨B4, 0, none⟩) 16 16, .slice (some ⟨B5, 0, none⟩) 16 16, .slice (some ⟨B6, 0, none⟩) 16 16, .slice (some ⟨B7, 0, none⟩) 16 16, .slice (some ⟨B8, 0, none⟩) 16 16, .slice (some ⟨B9, 0, none⟩) 16 16] 72)).cell? ⟨w9.heap.size, i, none⟩ = #[.slice (some ⟨w.heap.size, 0, none⟩) 16 16, .slice (some ⟨B1, 0, none⟩) 16 16, .slice (some ⟨B2, 0, none⟩) 16 16, .slice (some ⟨B3, 0, none⟩) 16 16, .slice (some ⟨B4, 0, none⟩) 16 16, .slice (some ⟨B5, 0, none⟩) 16 16, .slice (some ⟨B6, 0, none⟩) 16 16, .slice (some ⟨B7, 0, none⟩) 16 16, .slice (some ⟨B8, 0, none⟩) 16 16, .slice (some ⟨B9, 0, none⟩) 16 16][i]? := fun i => World.cell?_alloc_at _ _ _ _ rfl
  have hz := size_new w9 (.cells #[.slice (some ⟨w.heap.size, 0, none⟩) 16 16, .slice (some ⟨B1, 0, none⟩) 16 16, .slice (some ⟨B2, 0, none⟩) 16 16, .slice (some ⟨B3, 0, none⟩) 16 16, .slice (some ⟨B4, 0, none⟩) 16 16, .slice (some ⟨B5, 0, none⟩) 16 16, .slice (some ⟨B6, 0, none⟩) 16 16, .slice (some ⟨B7, 0, none⟩) 16 16, .slice (some ⟨B8, 0, none⟩) 16 16, .slice (some ⟨B9, 0, none⟩) 16 16] 72)
  generalize w9.alloc (.cells #[.slice (some ⟨w.heap.size, 0, none⟩) 16 16, .slice (some ⟨B1, 0, none⟩) 16 16, .slice (some ⟨B2, 0, none⟩) 16 16, .slice (some ⟨B3, 0, none⟩) 16 16, .slice (some ⟨B4, 0, none⟩) 16 16, .slice (some ⟨B5, 0, none⟩) 16 16, .slice (some ⟨B6, 0, none⟩) 16 16, .slice (some ⟨B7, 0, none⟩) 16 16, .slice (some ⟨B8, 0, none⟩) 16 16, .slice (some ⟨B9, 0, none⟩) 16 16] 72) = w10 at K2 hc hz ⊢
  have hs9 := K.size
  have hb9 := K.base
  clear K
  show Exit.then _ _ _ _ _
  have hS : SGT w10 w9.heap.size (fun r => [w.heap.size, B1, B2, B3, B4, B5, B6, B7, B8, B9].getD r 0) := ⟨fun r hr => by
    rw [hc]
    match r, hr with
    | 0, _ | 1, _ | 2, _ | 3, _ | 4, _ | 5, _ | 6, _ | 7, _ | 8, _ | 9, _ => rfl, fun r hr => by
    match r, hr with
    | 0, _ => exact ⟨K2.get _ _ _ _ (List.mem_cons_of_mem _ (List.mem_cons_of_mem _ (List.mem_cons_of_mem _ (List.mem_cons_of_mem _ (List.mem_cons_of_mem _ (List.mem_cons_of_mem _ (List.mem_cons_of_mem _ (List.mem_cons_of_mem _ (List.mem_cons_of_mem _ List.mem_cons_self))))))))), by show w.heap.size < w10.heap.size; omega⟩
    | 1, _ => exact ⟨K2.get _ _ _ _ (List.mem_cons_of_mem _ (List.mem_cons_of_mem _ (List.mem_cons_of_mem _ (List.mem_cons_of_mem _ (List.mem_cons_of_mem _ (List.mem_cons_of_mem _ (List.mem_cons_of_mem _ (List.mem_cons_of_mem _ List.mem_cons_self)))))))), by show B1 < w10.heap.size; omega⟩
    | 2, _ => exact ⟨K2.get _ _ _ _ (List.mem_cons_of_mem _ (List.mem_cons_of_mem _ (List.mem_cons_of_mem _ (List.mem_cons_of_mem _ (List.mem_cons_of_mem _ (List.mem_cons_of_mem _ (List.mem_cons_of_mem _ List.mem_cons_self))))))), by show B2 < w10.heap.size; omega⟩
    | 3, _ => exact ⟨K2.get _ _ _ _ (List.mem_cons_of_mem _ (List.mem_cons_of_mem _ (List.mem_cons_of_mem _ (List.mem_cons_of_mem _ (List.mem_cons_of_mem _ (List.mem_cons_of_mem _ List.mem_cons_self)))))), by show B3 < w10.heap.size; omega⟩
    | 4, _ => exact ⟨K2.get _ _ _ _ (List.mem_cons_of_mem _ (List.mem_cons_of_mem _ (List.mem_cons_of_mem _ (List.mem_cons_of_mem _ (List.mem_cons_of_mem _ List.mem_cons_self))))), by show B4 < w10.heap.size; omega⟩
    | 5, _ => exact ⟨K2.get _ _ _ _ (List.mem_cons_of_mem _ (List.mem_cons_of_mem _ (List.mem_cons_of_mem _ (List.mem_cons_of_mem _ List.mem_cons_self)))), by show B5 < w10.heap.size; omega⟩
    | 6, _ => exact ⟨K2.get _ _ _ _ (List.mem_cons_of_mem _ (List.mem_cons_of_mem _ (List.mem_cons_of_mem _ List.mem_cons_self))), by show B6 < w10.heap.size; omega⟩
    | 7, _ => exact ⟨K2.get _ _ _ _ (List.mem_cons_of_mem _ (List.mem_cons_of_mem _ List.mem_cons_self)), by show B7 < w10.heap.size; omega⟩
    | 8, _ => exact ⟨K2.get _ _ _ _ (List.mem_cons_of_mem _ List.mem_cons_self), by show B8 < w10.heap.size; omega⟩
    | 9, _ => exact ⟨K2.get _ _ _ _ List.mem_cons_self, by show B9 < w10.heap.size; omega⟩, by omega⟩
  have hB := K2.below
  have hge : ∀ r, r < 10 → w.heap.size ≤ [w.heap.size, B1, B2, B3, B4, B5, B6, B7, B8, B9].getD r 0 := fun r hr => by
    match r, hr with
    | 0, _ => show w.heap.size ≤ w.heap.size; omega
    | 1, _ => show w.heap.size ≤ B1; omega
    | 2, _ => show w.heap.size ≤ B2; omega
    | 3, _ => show w.heap.size ≤ B3; omega
    | 4, _ => show w.heap.size ≤ B4; omega
    | 5, _ => show w.heap.size ≤ B5; omega
    | 6, _ => show w.heap.size ≤ B6; omega
    | 7, _ => show w.heap.size ≤ B7; omega
    | 8, _ => show w.heap.size ≤ B8; omega
    | 9, _ => show w.heap.size ≤ B9; omega
  clear K2 hc
  go_wp2
  go_ret
  exact ⟨w9.heap.size, _, rfl, ⟨by omega, hge, hS⟩, hB⟩
end Go.Proofs.YtcdbkbcfjdpdoaaDoor

namespace Go.Proofs.YtcdbkbcfjdpdoaaDoor
open Go.RowKit

theorem shlI {P : Program} {o : Oper} {a : Act} (k yk : IntKind) (n y r : Int) (t t' : TypeId) (x x' : Operand) (ho : o.op = .binOp .shl t x x' t') (hx : a.eval x = .int k n) (hy : a.eval x' = .int yk y) (h0 : 0 ≤ y) (hr : k.wrap (n * 2 ^ min y.toNat k.bits) = r) (w : World) : (execOp a.eval o).run P w = .ok (.value (.int k r)) w := by
  unfold execOp
  simp only [ho, hx, hy, Sem.run_bind, eqGuard_at_int, binOp_shl, shift_shl_any k yk n y h0, Sem.run_pure, Result.andThen_ok, hr]
theorem orW {P : Program} {o : Oper} {a : Act} (k : IntKind) (n n' r : Int) (t t' : TypeId) (x y : Operand) (ho : o.op = .binOp .or t x y t') (hx : a.eval x = .int k n) (hy : a.eval y = .int k n') (hr : bits .or k n n' = r) (w : World) : (execOp a.eval o).run P w = .ok (.value (.int k r)) w := by
  unfold execOp
  simp only [ho, hx, hy, Sem.run_bind, eqGuard_at_int, binOp_or, intBits_or, Sem.run_pure, Result.andThen_ok, hr]
/-- A word more. -/
theorem Own.more32 {w' : World} {base m : Nat} {f : Nat → Int} {s : Value} (h : Own w' base 42 .u32 m f s) (hm : m < 4294967296) (x : Int) (hx : f m = x) (ty : TypeId) (hb : base ≤ w'.heap.size) :
    ∃ v w'', (Builtin.append_ #[58, 58] ty #[s, .slice (some ⟨w'.heap.size, 0, none⟩) 1 1]).run Tryd.prog (w'.alloc (.cells #[.int .u32 x] 42)) = .ok v w'' ∧ Own w'' base 42 .u32 (m + 1) f v ∧ (w'.alloc (.cells #[.int .u32 x] 42)).grownBy w'' s.ownBlock := by
  have H1 := Has.new w' .u32 1 (fun _ => x) 42 w'.heap.size rfl
  obtain ⟨v, w'', hr, ho, hg, _⟩ := run_append_Own (P := Tryd.prog) (ty := ty) Tryd.underlying58 one32 (h.alloc (.cells (row .u32 1 (fun _ => x)).toArray 42)) (some ⟨w'.heap.size, 0, none⟩) 1 1 (fun _ => x) (fun j hj => ⟨_, rfl, by rw [Addr.add_mid, Nat.zero_add]; exact H1.cell j hj⟩) (fun e => by cases e) (by unfold maxLen; omega) (by omega) (by simp; omega)
  refine ⟨v, w'', hr, ho.congr fun j hj => ?_, hg⟩
  unfold app
  by_cases e : j < m
  · rw [if_pos e]
  · rw [if_neg e, ← hx, show j = m by omega]
theorem idxP (ad : Addr) (cap i : Nat) (hi : i < 64) (w : World) {o : Oper} {a : Act} (x y : Operand) (ho : o.op = .indexAddr 22 x y) (hx : a.eval x = .slice (some ad) 64 cap) (hy : a.eval y = .int .i64 (i : Int)) :
    (execOp a.eval o).run Tryd.prog w = .ok (.value (.pointer (some (ad.add i)))) w :=
  idxSl (P := Tryd.prog) 22 5 64 cap .i64 ad i x y Tryd.underlying22 (fun _ => by kernel_rfl) hi ho hx hy w
theorem bpw_glued (z : Nat → Int) (hz : In 256 64 z) (n : Nat) (hn : n < 16) :
    bits .or .u32 (bits .or .u32 (bits .or .u32 (z (4 * n) % 4294967296) (z (4 * n + 1) % 4294967296 * 256 % 4294967296)) (z (4 * n + 2) % 4294967296 * 65536 % 4294967296)) (z (4 * n + 3) % 4294967296 * 16777216 % 4294967296) = bpw z n :=
  glued32 _ _ _ _ (hz _ (by omega)) (hz _ (by omega)) (hz _ (by omega)) (hz _ (by omega))

theorem andI {P : Program} {o : Oper} {a : Act} (k : IntKind) (n n' r : Int) (t t' : TypeId) (x y : Operand) (ho : o.op = .binOp .and t x y t') (hx : a.eval x = .int k n) (hy : a.eval y = .int k n') (hr : bits .and k n n' = r) (w : World) : (execOp a.eval o).run P w = .ok (.value (.int k r)) w := by
  unfold execOp
  simp only [ho, hx, hy, Sem.run_bind, eqGuard_at_int, binOp_and, intBits_and, Sem.run_pure, Result.andThen_ok, hr]
theorem notI {P : Program} {o : Oper} {a : Act} (k : IntKind) (n r : Int) (t : TypeId) (x : Operand) (ho : o.op = .unOp .xor t x) (hx : a.eval x = .int k n) (hr : bits .xor k (if k.signed then -1 else k.max) n = r) (w : World) : (execOp a.eval o).run P w = .ok (.value (.int k r)) w := by
  unfold execOp
  simp only [ho, hx, unary_xor, intBits_xor, Sem.run_bind, Sem.run_pure, Result.andThen_ok, hr]
theorem and_low (t : Int) (ht : 0 ≤ t ∧ t < 18446744073709551616) : bits .and .u64 t 4294967295 = t % 4294967296 := by
  obtain ⟨t, rfl⟩ := Int.eq_ofNat_of_zero_le ht.1
  have h := u64_and_nat t 4294967295 (by omega) (by decide)
  have e : t &&& 4294967295 = t % 4294967296 := Nat.and_two_pow_sub_one_eq_mod t 32
  rw [e] at h
  exact h.trans (by omega)
set_option maxRecDepth 10000 in
theorem bst_of (h : Nat → Int) (t : Int) (f : Nat → Int) (last : Bool) (he : ∀ j, f j = upd (upd (app h 8 iv) 12 (hxr (iv 4) (t % 4294967296))) 13 (hxr (iv 5) (t / 4294967296 % 4294967296)) j) : ∀ j, j < 16 → (if last then upd f 14 (4294967295 - iv 6) else f) j = bst h t last j := fun j hj => by
  have e14 : bst h t last 14 = if last then 4294967295 - iv 6 else iv 6 := rfl
  have hne : j ≠ 14 → f j = bst h t last j := fun e => by
    rw [he j]
    match j, hj, e with
    | 0, _, _ | 1, _, _ | 2, _, _ | 3, _, _ | 4, _, _ | 5, _, _ | 6, _, _ | 7, _, _ | 8, _, _ | 9, _, _ | 10, _, _ | 11, _, _ | 12, _, _ | 13, _, _ | 15, _, _ => rfl
    | 14, _, e => exact absurd rfl e
    | _ + 16, hj, _ => omega
  have h14 : f 14 = iv 6 := he 14
  by_cases e : j = 14
  · subst e
    rw [e14]
    cases last
    · rw [if_neg (by decide), if_neg (by decide)]; exact h14
    · rw [if_pos rfl, if_pos rfl, upd_same]
  · cases last
    · rw [if_neg (by decide)]; exact hne e
    · rw [if_pos rfl, upd_other _ _ _ _ e]; exact hne e

/-- The words, the piece's words, the rows. -/
structure PI (z : Nat → Int) (w : World) (X M O : Nat) (bs : Nat → Nat) (f : Nat → Int) (w' : World) : Prop where
  has : Has w' X .u32 16 f
  hm : Has w' M .u32 16 (bpw z)
  sg : SGT w' O bs
  lt : X < w'.heap.size
  ltM : M < w'.heap.size
  below : Below w.heap.size w w'
theorem PI.call {z : Nat → Int} {w w' w'' : World} {X M O : Nat} {bs : Nat → Nat} {f : Nat → Int} (h : PI z w X M O bs f w') (l : Below w'.heap.size w' w'') : PI z w X M O bs f w'' :=
  ⟨h.has.below l h.lt, h.hm.below l h.ltM, h.sg.below l (Nat.le_refl _), Nat.lt_of_lt_of_le h.lt l.size, Nat.lt_of_lt_of_le h.ltM l.size, h.below.trans (l.mono h.below.size)⟩
theorem PI.drew {z : Nat → Int} {w w' : World} {X M O : Nat} {bs : Nat → Nat} {f : Nat → Int} (h : PI z w X M O bs f w') : PI z w X M O bs f w'.drew := h.call (Below.refl _ _).drew
theorem PI.mix {z : Nat → Int} {w w' w'' : World} {X M O : Nat} {bs : Nat → Nat} {f f' : Nat → Int} (h : PI z w X M O bs f w') (g : MI w' X f' w'') (hX0 : w.heap.size ≤ X) (hXM : M < X) (hXO : X < O) (hXb : ∀ r, r < 10 → X < bs r) : PI z w X M O bs f' w'' :=
  ⟨g.has, h.hm.grown g.gr h.ltM (fun e => by injection e with e; omega), ⟨fun r hr => by rw [World.cell?_of_block (a := ⟨O, r, none⟩) (g.gr.block O h.sg.lt (fun e => by injection e with e; omega))]; exact h.sg.top r hr, fun r hr => ⟨(h.sg.rows r hr).1.grown g.gr (h.sg.rows r hr).2 (fun e => by injection e with e; have := hXb r hr; omega), Nat.lt_of_lt_of_le (h.sg.rows r hr).2 g.gr.size⟩, Nat.lt_of_lt_of_le h.sg.lt g.gr.size⟩,
   Nat.lt_of_lt_of_le h.lt g.gr.size, Nat.lt_of_lt_of_le h.ltM g.gr.size, Below.grown h.below g.gr h.below.size (fun b hb => by injection hb with hb; omega)⟩
/-- The same without the words' own row. -/
structure PM (z : Nat → Int) (w : World) (M O : Nat) (bs : Nat → Nat) (w' : World) : Prop where
  hm : Has w' M .u32 16 (bpw z)
  sg : SGT w' O bs
  ltM : M < w'.heap.size
  below : Below w.heap.size w w'
theorem PI.pm {z : Nat → Int} {w w' : World} {X M O : Nat} {bs : Nat → Nat} {f : Nat → Int} (h : PI z w X M O bs f w') : PM z w M O bs w' := ⟨h.hm, h.sg, h.ltM, h.below⟩
theorem at_lo (m : Nat → Int) (s : Nat → Nat) (v : Nat → Int) (q : Nat) (hq : q < 4) : bAt m s v q = bMx v q (4 + q) (8 + q) (12 + q) (m (s (2 * q))) (m (s (2 * q + 1))) := by
  match q, hq with
  | 0, _ | 1, _ | 2, _ | 3, _ => rfl
theorem at_hi (m : Nat → Int) (s : Nat → Nat) (v : Nat → Int) (q : Nat) (hq : q < 4) : bAt m s v (4 + q) = bMx v q (4 + (q + 1) % 4) (8 + (q + 2) % 4) (12 + (q + 3) % 4) (m (s (8 + 2 * q))) (m (s (9 + 2 * q))) := by
  match q, hq with
  | 0, _ | 1, _ | 2, _ | 3, _ => rfl
theorem idxI (b i : Nat) (hi : i < 16) (w : World) {o : Oper} {a : Act} (x y : Operand) (ho : o.op = .indexAddr 72 x y) (hx : a.eval x = .slice (some ⟨b, 0, none⟩) 16 16) (hy : a.eval y = .int .i64 (i : Int)) :
    (execOp a.eval o).run Tryd.prog w = .ok (.value (.pointer (some ⟨b, i, none⟩))) w := by
  have h := idxSl (P := Tryd.prog) 72 3 16 16 .i64 ⟨b, 0, none⟩ i x y Tryd.underlying72 (fun _ => by kernel_rfl) hi ho hx hy w
  rw [Addr.add_mid, Nat.zero_add] at h
  exact h
theorem idxII (b i : Nat) (hi : i < 10) (w : World) {o : Oper} {a : Act} (x y : Operand) (ho : o.op = .indexAddr 70 x y) (hx : a.eval x = .slice (some ⟨b, 0, none⟩) 10 10) (hy : a.eval y = .int .i64 (i : Int)) :
    (execOp a.eval o).run Tryd.prog w = .ok (.value (.pointer (some ⟨b, i, none⟩))) w := by
  have h := idxSl (P := Tryd.prog) 70 72 10 10 .i64 ⟨b, 0, none⟩ i x y Tryd.underlying70 (fun _ => by kernel_rfl) hi ho hx hy w
  rw [Addr.add_mid, Nat.zero_add] at h
  exact h
theorem bloadSl {P : Program} {o : Oper} {a : Act} {w : World} (ty e : TypeId) (x : Operand) (p : Addr) (v : Value) (ho : o.op = .load ty x) (hx : a.eval x = .pointer (some p)) (hu : P.underlying ty = some (.slice e)) (hc : w.cell? p = some v) : (execOp a.eval o).run P w = .ok (.value v) w := by
  have hagg : (isAgg ty).run P w = .ok false w := by
    unfold isAgg
    rw [Sem.run_bind, run_underlying hu w]
    rfl
  have e : (loadVar ty p).run P w = .ok v w := by simp [loadVar, Sem.run_bind, hagg, hc]
  unfold execOp
  simp only [ho, hx, Instr.loadAt, Instr.sureAddr, Sem.run_bind, Sem.run_pure, Result.andThen_ok, e]

set_option maxRecDepth 10000 in
set_option maxHeartbeats 16000000 in
theorem refPress_any (h : Nat → Int) (hh : In V 8 h) (A capA : Nat) (sp : Option Addr) (capP : Nat) (z : Nat → Int) (hz : In 256 64 z) (t : Int) (ht : 0 ≤ t ∧ t < 18446744073709551616) (last : Bool) (w : World) (hA : Has w A .u32 8 h) (hAl : A < w.heap.size) (hs : Src w sp 64 z) :
    Calls Tryd.prog 40 #[.slice (some ⟨A, 0, none⟩) 8 capA, .slice sp 64 capP, .int .u64 t, .bool last] w fun e w' => ∃ O cap, e = .returned (.slice (some ⟨O, 0, none⟩) 8 cap) ∧ (w.heap.size ≤ O ∧ O < w'.heap.size ∧ Has w' O .u32 8 (bpr h z t last)) ∧ Below w.heap.size w w' := by
  obtain ⟨ad, rfl, _⟩ := hs 0 (by omega)
  have hsrc : ∀ j, j < 64 → ∀ w', Below w.heap.size w w' → w'.cell? (ad.add j) = some (.int .u8 (z j)) := fun j hj w' l => by
    obtain ⟨ad', e, hc⟩ := hs j hj
    injection e with e
    subst e
    rw [l.cell (p := ad.add j) (World.block_lt_of_cell? w _ hc)]
    exact hc
  clear hs
  go_enter Tryd.func40, Tryd.ntmps40
  go_upto_region 1 with fail
  refine wp_region_list ?_
  refine actL (w' := w.alloc (.cells #[] 42)) (.slice (some ⟨w.heap.size, 0, none⟩) 0 0) rfl (by kernel_rfl) ?_
  simp only [Act.put, List.setIfInBounds_toArray, List.set_cons_zero, List.set_cons_succ]
  refine pureL (.slice (some ⟨w.heap.size, 0, none⟩) 0 0) rfl (fun _ => by kernel_rfl) ?_
  simp only [Act.put, List.setIfInBounds_toArray, List.set_cons_zero, List.set_cons_succ]
  have K := (Below.refl w.heap.size w).alloc (Nat.le_refl _) (.cells #[] 42)
  have HO : Own (w.alloc (.cells #[] 42)) w.heap.size 42 .u32 0 (bpw z) (.slice (some ⟨w.heap.size, 0, none⟩) 0 0) := Own.lit w w.heap.size 42 .u32 0 (bpw z) (Nat.le_refl _) (by unfold maxLen; omega)
  generalize w.alloc (.cells #[] 42) = w0 at K HO ⊢
  generalize Value.slice (some ⟨w.heap.size, 0, none⟩) 0 0 = mv0 at HO ⊢
  show Exit.then _ _ _ _ _
  go_wp2
  go_loopw [9, 10] (fun mw i w' => ∃ (n : Nat) (mv : Value), n ≤ 16 ∧ i = .int .i64 ((4 * n : Nat) : Int) ∧ mv = mw ∧ Own w' w.heap.size 42 .u32 n (bpw z) mv ∧ Below w.heap.size w w') (fun _ i _ => 64 - (intOf i).toNat)
  case atStart => exact ⟨0, _, by omega, rfl, rfl, HO, K⟩
  case round =>
    clear K HO
    obtain ⟨n, mv, hn, rfl, rfl, HO, K⟩ := hrel
    have g1 : (0 : Int) ≤ ((4 * n : Nat) : Int) := by omega
    by_cases hlt : n < 16
    · have g2 : ((4 * n : Nat) : Int) < 64 := by omega
      go_upto_region 5 with fail
      refine wp_region_held_drew (S := fun w' => Below w.heap.size w w') (by kernel_rfl) K.drew ?_
      clear K
      intro K
      replace HO := HO.drew
      generalize wr.drew = w1 at K HO ⊢
      refine pureH (i := 0) (some 24) rfl mv rfl rfl (fun _ => by kernel_rfl) (by kernel_rfl) (by kernel_rfl) (by kernel_rfl) (fun _ _ _ h => h) K ?_
      simp only [Act.put, List.setIfInBounds_toArray, List.set_cons_zero, List.set_cons_succ]
      refine pureH (i := 1) (some 25) rfl (.slice (some ad) 64 capP) rfl rfl (fun _ => by kernel_rfl) (by kernel_rfl) (by kernel_rfl) (by kernel_rfl) (fun _ _ _ h => h) K ?_
      simp only [Act.put, List.setIfInBounds_toArray, List.set_cons_zero, List.set_cons_succ]
      refine pureH (i := 2) (some 26) rfl (.int .i64 ((4 * n : Nat) : Int)) rfl rfl (fun _ => by kernel_rfl) (by kernel_rfl) (by kernel_rfl) (by kernel_rfl) (fun _ _ _ h => h) K ?_
      simp only [Act.put, List.setIfInBounds_toArray, List.set_cons_zero, List.set_cons_succ]
      refine pureH (i := 3) (some 27) rfl (.pointer (some (ad.add (4 * n)))) rfl rfl (fun w' => idxP ad capP (4 * n) (by omega) w' _ _ rfl rfl rfl) (by kernel_rfl) (by kernel_rfl) (by kernel_rfl) (fun _ _ _ h => h) K ?_
      simp only [Act.put, List.setIfInBounds_toArray, List.set_cons_zero, List.set_cons_succ]
      refine cellPH (i := 4) (some 28) rfl .u8 (.int .u8 (z (4 * n))) (ad.add (4 * n)) 5 _ rfl rfl rfl rfl (by kernel_rfl) (by kernel_rfl) (by kernel_rfl) (fun _ _ _ h => h) Tryd.underlying5 K (fun w' h => hsrc _ (by omega) w' h) ?_
      simp only [Act.put, List.setIfInBounds_toArray, List.set_cons_zero, List.set_cons_succ]
      refine pureH (i := 5) (some 29) rfl (.int .u32 (z (4 * n) % 4294967296)) rfl rfl (fun w => convI .u8 .u32 _ _ _ _ _ rfl (by kernel_rfl) Tryd.underlying42 (by kernel_rfl) rfl (IntKind.wrap_u32' _) w) (by kernel_rfl) (by kernel_rfl) (by kernel_rfl) (fun _ _ _ h => h) K ?_
      simp only [Act.put, List.setIfInBounds_toArray, List.set_cons_zero, List.set_cons_succ]
      refine pureH (i := 6) (some 30) rfl (.slice (some ad) 64 capP) rfl rfl (fun _ => by kernel_rfl) (by kernel_rfl) (by kernel_rfl) (by kernel_rfl) (fun _ _ _ h => h) K ?_
      simp only [Act.put, List.setIfInBounds_toArray, List.set_cons_zero, List.set_cons_succ]
      refine pureH (i := 7) (some 31) rfl (.int .i64 ((4 * n : Nat) : Int)) rfl rfl (fun _ => by kernel_rfl) (by kernel_rfl) (by kernel_rfl) (by kernel_rfl) (fun _ _ _ h => h) K ?_
      simp only [Act.put, List.setIfInBounds_toArray, List.set_cons_zero, List.set_cons_succ]
      refine pureH (i := 8) (some 32) rfl (.int .i64 ((4 * n + 1 : Nat) : Int)) rfl rfl (fun w => addI .i64 _ _ _ _ _ _ _ rfl rfl rfl (by rw [IntKind.wrap_i64]; omega) w) (by kernel_rfl) (by kernel_rfl) (by kernel_rfl) (fun _ _ _ h => h) K ?_
      simp only [Act.put, List.setIfInBounds_toArray, List.set_cons_zero, List.set_cons_succ]
      refine pureH (i := 9) (some 33) rfl (.pointer (some (ad.add (4 * n + 1)))) rfl rfl (fun w' => idxP ad capP (4 * n + 1) (by omega) w' _ _ rfl rfl rfl) (by kernel_rfl) (by kernel_rfl) (by kernel_rfl) (fun _ _ _ h => h) K ?_
      simp only [Act.put, List.setIfInBounds_toArray, List.set_cons_zero, List.set_cons_succ]
      refine cellPH (i := 10) (some 34) rfl .u8 (.int .u8 (z (4 * n + 1))) (ad.add (4 * n + 1)) 5 _ rfl rfl rfl rfl (by kernel_rfl) (by kernel_rfl) (by kernel_rfl) (fun _ _ _ h => h) Tryd.underlying5 K (fun w' h => hsrc _ (by omega) w' h) ?_
      simp only [Act.put, List.setIfInBounds_toArray, List.set_cons_zero, List.set_cons_succ]
      refine pureH (i := 11) (some 35) rfl (.int .u32 (z (4 * n + 1) % 4294967296)) rfl rfl (fun w => convI .u8 .u32 _ _ _ _ _ rfl (by kernel_rfl) Tryd.underlying42 (by kernel_rfl) rfl (IntKind.wrap_u32' _) w) (by kernel_rfl) (by kernel_rfl) (by kernel_rfl) (fun _ _ _ h => h) K ?_
      simp only [Act.put, List.setIfInBounds_toArray, List.set_cons_zero, List.set_cons_succ]
      refine pureH (i := 12) (some 36) rfl (.int .u32 (z (4 * n + 1) % 4294967296 * 256 % 4294967296)) rfl rfl (fun w => shlI .u32 .u64 _ 8 _ _ _ _ _ rfl rfl rfl (by decide) (IntKind.wrap_u32' _) w) (by kernel_rfl) (by kernel_rfl) (by kernel_rfl) (fun _ _ _ h => h) K ?_
      simp only [Act.put, List.setIfInBounds_toArray, List.set_cons_zero, List.set_cons_succ]
      refine pureH (i := 13) (some 37) rfl (.int .u32 (bits .or .u32 (z (4 * n) % 4294967296) (z (4 * n + 1) % 4294967296 * 256 % 4294967296))) rfl rfl (fun w => orW .u32 _ _ _ _ _ _ _ rfl rfl rfl rfl w) (by kernel_rfl) (by kernel_rfl) (by kernel_rfl) (fun _ _ _ h => h) K ?_
      simp only [Act.put, List.setIfInBounds_toArray, List.set_cons_zero, List.set_cons_succ]
      refine pureH (i := 14) (some 38) rfl (.slice (some ad) 64 capP) rfl rfl (fun _ => by kernel_rfl) (by kernel_rfl) (by kernel_rfl) (by kernel_rfl) (fun _ _ _ h => h) K ?_
      simp only [Act.put, List.setIfInBounds_toArray, List.set_cons_zero, List.set_cons_succ]
      refine pureH (i := 15) (some 39) rfl (.int .i64 ((4 * n : Nat) : Int)) rfl rfl (fun _ => by kernel_rfl) (by kernel_rfl) (by kernel_rfl) (by kernel_rfl) (fun _ _ _ h => h) K ?_
      simp only [Act.put, List.setIfInBounds_toArray, List.set_cons_zero, List.set_cons_succ]
      refine pureH (i := 16) (some 40) rfl (.int .i64 ((4 * n + 2 : Nat) : Int)) rfl rfl (fun w => addI .i64 _ _ _ _ _ _ _ rfl rfl rfl (by rw [IntKind.wrap_i64]; omega) w) (by kernel_rfl) (by kernel_rfl) (by kernel_rfl) (fun _ _ _ h => h) K ?_
      simp only [Act.put, List.setIfInBounds_toArray, List.set_cons_zero, List.set_cons_succ]
      refine pureH (i := 17) (some 41) rfl (.pointer (some (ad.add (4 * n + 2)))) rfl rfl (fun w' => idxP ad capP (4 * n + 2) (by omega) w' _ _ rfl rfl rfl) (by kernel_rfl) (by kernel_rfl) (by kernel_rfl) (fun _ _ _ h => h) K ?_
      simp only [Act.put, List.setIfInBounds_toArray, List.set_cons_zero, List.set_cons_succ]
      refine cellPH (i := 18) (some 42) rfl .u8 (.int .u8 (z (4 * n + 2))) (ad.add (4 * n + 2)) 5 _ rfl rfl rfl rfl (by kernel_rfl) (by kernel_rfl) (by kernel_rfl) (fun _ _ _ h => h) Tryd.underlying5 K (fun w' h => hsrc _ (by omega) w' h) ?_
      simp only [Act.put, List.setIfInBounds_toArray, List.set_cons_zero, List.set_cons_succ]
      refine pureH (i := 19) (some 43) rfl (.int .u32 (z (4 * n + 2) % 4294967296)) rfl rfl (fun w => convI .u8 .u32 _ _ _ _ _ rfl (by kernel_rfl) Tryd.underlying42 (by kernel_rfl) rfl (IntKind.wrap_u32' _) w) (by kernel_rfl) (by kernel_rfl) (by kernel_rfl) (fun _ _ _ h => h) K ?_
      simp only [Act.put, List.setIfInBounds_toArray, List.set_cons_zero, List.set_cons_succ]
      refine pureH (i := 20) (some 44) rfl (.int .u32 (z (4 * n + 2) % 4294967296 * 65536 % 4294967296)) rfl rfl (fun w => shlI .u32 .u64 _ 16 _ _ _ _ _ rfl rfl rfl (by decide) (IntKind.wrap_u32' _) w) (by kernel_rfl) (by kernel_rfl) (by kernel_rfl) (fun _ _ _ h => h) K ?_
      simp only [Act.put, List.setIfInBounds_toArray, List.set_cons_zero, List.set_cons_succ]
      refine pureH (i := 21) (some 45) rfl (.int .u32 (bits .or .u32 (bits .or .u32 (z (4 * n) % 4294967296) (z (4 * n + 1) % 4294967296 * 256 % 4294967296)) (z (4 * n + 2) % 4294967296 * 65536 % 4294967296))) rfl rfl (fun w => orW .u32 _ _ _ _ _ _ _ rfl rfl rfl rfl w) (by kernel_rfl) (by kernel_rfl) (by kernel_rfl) (fun _ _ _ h => h) K ?_
      simp only [Act.put, List.setIfInBounds_toArray, List.set_cons_zero, List.set_cons_succ]
      refine pureH (i := 22) (some 46) rfl (.slice (some ad) 64 capP) rfl rfl (fun _ => by kernel_rfl) (by kernel_rfl) (by kernel_rfl) (by kernel_rfl) (fun _ _ _ h => h) K ?_
      simp only [Act.put, List.setIfInBounds_toArray, List.set_cons_zero, List.set_cons_succ]
      refine pureH (i := 23) (some 47) rfl (.int .i64 ((4 * n : Nat) : Int)) rfl rfl (fun _ => by kernel_rfl) (by kernel_rfl) (by kernel_rfl) (by kernel_rfl) (fun _ _ _ h => h) K ?_
      simp only [Act.put, List.setIfInBounds_toArray, List.set_cons_zero, List.set_cons_succ]
      refine pureH (i := 24) (some 48) rfl (.int .i64 ((4 * n + 3 : Nat) : Int)) rfl rfl (fun w => addI .i64 _ _ _ _ _ _ _ rfl rfl rfl (by rw [IntKind.wrap_i64]; omega) w) (by kernel_rfl) (by kernel_rfl) (by kernel_rfl) (fun _ _ _ h => h) K ?_
      simp only [Act.put, List.setIfInBounds_toArray, List.set_cons_zero, List.set_cons_succ]
      refine pureH (i := 25) (some 49) rfl (.pointer (some (ad.add (4 * n + 3)))) rfl rfl (fun w' => idxP ad capP (4 * n + 3) (by omega) w' _ _ rfl rfl rfl) (by kernel_rfl) (by kernel_rfl) (by kernel_rfl) (fun _ _ _ h => h) K ?_
      simp only [Act.put, List.setIfInBounds_toArray, List.set_cons_zero, List.set_cons_succ]
      refine cellPH (i := 26) (some 50) rfl .u8 (.int .u8 (z (4 * n + 3))) (ad.add (4 * n + 3)) 5 _ rfl rfl rfl rfl (by kernel_rfl) (by kernel_rfl) (by kernel_rfl) (fun _ _ _ h => h) Tryd.underlying5 K (fun w' h => hsrc _ (by omega) w' h) ?_
      simp only [Act.put, List.setIfInBounds_toArray, List.set_cons_zero, List.set_cons_succ]
      refine pureH (i := 27) (some 51) rfl (.int .u32 (z (4 * n + 3) % 4294967296)) rfl rfl (fun w => convI .u8 .u32 _ _ _ _ _ rfl (by kernel_rfl) Tryd.underlying42 (by kernel_rfl) rfl (IntKind.wrap_u32' _) w) (by kernel_rfl) (by kernel_rfl) (by kernel_rfl) (fun _ _ _ h => h) K ?_
      simp only [Act.put, List.setIfInBounds_toArray, List.set_cons_zero, List.set_cons_succ]
      refine pureH (i := 28) (some 52) rfl (.int .u32 (z (4 * n + 3) % 4294967296 * 16777216 % 4294967296)) rfl rfl (fun w => shlI .u32 .u64 _ 24 _ _ _ _ _ rfl rfl rfl (by decide) (IntKind.wrap_u32' _) w) (by kernel_rfl) (by kernel_rfl) (by kernel_rfl) (fun _ _ _ h => h) K ?_
      simp only [Act.put, List.setIfInBounds_toArray, List.set_cons_zero, List.set_cons_succ]
      refine pureH (i := 29) (some 53) rfl (.int .u32 (bpw z n)) rfl rfl (fun w => orW .u32 _ _ _ _ _ _ _ rfl rfl rfl (bpw_glued z hz n hlt) w) (by kernel_rfl) (by kernel_rfl) (by kernel_rfl) (fun _ _ _ h => h) K ?_
      simp only [Act.put, List.setIfInBounds_toArray, List.set_cons_zero, List.set_cons_succ]
      have hb1 := K.alloc K.size (.cells #[.int .u32 (bpw z n)] 42)
      refine actH (i := 30) (w' := w1.alloc (.cells #[.int .u32 (bpw z n)] 42)) (some 54) rfl (.slice (some ⟨w1.heap.size, 0, none⟩) 1 1) (by kernel_rfl) rfl rfl (by kernel_rfl) hb1 ?_
      simp only [Act.put, List.setIfInBounds_toArray, List.set_cons_zero, List.set_cons_succ]
      obtain ⟨v, w2, hr, ho, hg⟩ := HO.more32 (by omega) (bpw z n) rfl 58 K.size
      have hb2 := Below.grown hb1 hg (by have := K.size; simp; omega) (fun b hb => (World.ownsRow.lt HO b hb).1)
      refine actH (i := 31) (some 55) rfl v (by kernel_rfl) rfl rfl (appendOp _ _ 58 _ _ _ rfl rfl rfl hr) hb2 ?_
      simp only [Act.put, List.setIfInBounds_toArray, List.set_cons_zero, List.set_cons_succ]
      refine pureH (i := 32) (some 9) rfl v rfl rfl (fun _ => by kernel_rfl) (by kernel_rfl) (by kernel_rfl) (by kernel_rfl) (fun _ _ _ h => h) hb2 ?_
      simp only [Act.put, List.setIfInBounds_toArray, List.set_cons_zero, List.set_cons_succ]
      refine wpAnyH_done (by kernel_rfl) ?_ _
      have HS := show Hid _ from (And.intro ho hb2)
      clear K HO hr ho hg hb1 hb2
      go_wp2
      go_roundw
      case rel => first | exact ⟨n + 1, v, by omega, by go_num, rfl, HS.out⟩ | ((repeat apply Exists.intro); refine ⟨⟨n + 1, v, by omega, by go_num, rfl, HS.out⟩, rfl⟩)
      case measure => simp [intOf]; omega
    · obtain rfl : n = 16 := by omega
      clear hlt hn g1
      obtain ⟨M, capM, rfl, hM1, hM2, HM⟩ := HO.has (by omega)
      have K0 : Kr w w.heap.size [] [] wr := ⟨fun _ h => (by cases h), fun _ h => (by cases h), fun _ h => (by cases h), K.size, Nat.le_refl _, K⟩
      replace K := K0.own hM1 hM2 HM
      clear K0 HO HM
      go_upto_region 6 with fail
      refine wp_region_list ?_
      refine actL (w' := wr.alloc (.cells #[] 42)) (.slice (some ⟨wr.heap.size, 0, none⟩) 0 0) rfl (by kernel_rfl) ?_
      simp only [Act.put, List.setIfInBounds_toArray, List.set_cons_zero, List.set_cons_succ]
      refine pureL (.slice (some ⟨A, 0, none⟩) 8 capA) rfl (fun _ => by kernel_rfl) ?_
      simp only [Act.put, List.setIfInBounds_toArray, List.set_cons_zero, List.set_cons_succ]
      have K1 := K.call ((Below.refl wr.heap.size wr).alloc (Nat.le_refl _) (.cells #[] 42))
      have HA := hA.below K1.below hAl
      obtain ⟨u1, w2, hr1, ho1, hg1, _⟩ := run_append_Own (P := Tryd.prog) (ty := 58) Tryd.underlying58 one32 (show Own (wr.alloc (.cells #[] 42)) wr.heap.size 42 .u32 0 (fun _ => 0) (.slice (some ⟨wr.heap.size, 0, none⟩) 0 0) from Own.lit wr wr.heap.size 42 .u32 0 (fun _ => 0) (Nat.le_refl _) (by decide)) (some ⟨A, 0, none⟩) 8 capA h (fun j hj => ⟨_, rfl, by rw [Addr.add_mid, Nat.zero_add]; exact HA.cell j hj⟩) (fun e => by cases e) (by decide) (by decide) (by simp)
      have K2 := K1.grown hg1 (fun b hb => by injection hb with hb; simp only at hb; omega)
      refine actL u1 rfl (appendOp _ _ 58 _ _ _ rfl rfl rfl hr1) ?_
      simp only [Act.put, List.setIfInBounds_toArray, List.set_cons_zero, List.set_cons_succ]
      replace ho1 : Own w2 wr.heap.size 42 .u32 8 h u1 := ho1.congr (fun j _ => by unfold app; rw [if_neg (by omega), Nat.sub_zero])
      refine callL rfl (fun _ => by kernel_rfl) (refStart_any _) ?_
      rintro e w3 ⟨S, rfl, ⟨hS1, hS2, HS⟩, l⟩
      have K3 := K2.call l
      replace ho1 := ho1.below l
      refine ⟨_, rfl, ?_⟩
      simp only [Act.put, List.setIfInBounds_toArray, List.set_cons_zero, List.set_cons_succ]
      obtain ⟨u2, w4, hr2, ho2, hg2, _⟩ := run_append_Own (P := Tryd.prog) (ty := 58) Tryd.underlying58 one32 ho1 (some ⟨S, 0, none⟩) 8 8 iv (fun j hj => ⟨_, rfl, by rw [Addr.add_mid, Nat.zero_add]; exact HS.cell j hj⟩) (fun e => by cases e) (by decide) (by decide) K3.size
      have K4 := K3.grown hg2 (fun b hb => (World.ownsRow.lt ho1 b hb).1)
      refine actL u2 rfl (appendOp _ _ 58 _ _ _ rfl rfl rfl hr2) ?_
      simp only [Act.put, List.setIfInBounds_toArray, List.set_cons_zero, List.set_cons_succ]
      refine pureL u2 rfl (fun _ => by kernel_rfl) ?_
      simp only [Act.put, List.setIfInBounds_toArray, List.set_cons_zero, List.set_cons_succ]
      obtain ⟨X, capX, rfl, hX1, hX2, HX⟩ := ho2.has (by omega)
      replace K := K4.own hX1 hX2 HX
      have hXM : M < X := Nat.lt_of_lt_of_le hM2 hX1
      have hX0 : w.heap.size ≤ X := Nat.le_trans hM1 (Nat.le_of_lt hXM)
      clear K1 K2 K3 K4 HA hr1 hr2 ho1 ho2 hg1 hg2 HX HS hS1 hS2 l hX1 hX2 hM2
      generalize w4.heap.size = m4 at K
      show Exit.then _ _ _ _ _
      go_upto_region 7 with fail
      refine wp_region_list ?_
      refine pureL (.slice (some ⟨X, 0, none⟩) 16 capX) rfl (fun _ => by kernel_rfl) ?_
      simp only [Act.put, List.setIfInBounds_toArray, List.set_cons_zero, List.set_cons_succ]
      refine pureL (.slice (some ⟨X, 0, none⟩) 16 capX) rfl (fun _ => by kernel_rfl) ?_
      simp only [Act.put, List.setIfInBounds_toArray, List.set_cons_zero, List.set_cons_succ]
      refine pureL (.pointer (some ⟨X, 12, none⟩)) rfl (fun w' => idxW X 16 capX 12 (by decide) w' _ _ rfl rfl rfl) ?_
      simp only [Act.put, List.setIfInBounds_toArray, List.set_cons_zero, List.set_cons_succ]
      refine cellL .u32 (.int .u32 (iv 4)) X 12 42 _ rfl rfl rfl Tryd.underlying42 ((K.get _ _ _ _ List.mem_cons_self).cell 12 (by decide)) ?_
      simp only [Act.put, List.setIfInBounds_toArray, List.set_cons_zero, List.set_cons_succ]
      refine pureL (.int .u64 t) rfl (fun _ => by kernel_rfl) ?_
      simp only [Act.put, List.setIfInBounds_toArray, List.set_cons_zero, List.set_cons_succ]
      refine pureL (.int .u64 (t % 4294967296)) rfl (fun w => andI .u64 _ _ _ _ _ _ _ rfl rfl rfl (and_low t ht) w) ?_
      simp only [Act.put, List.setIfInBounds_toArray, List.set_cons_zero, List.set_cons_succ]
      refine pureL (.int .u32 (t % 4294967296)) rfl (fun w => convI .u64 .u32 _ _ _ _ _ rfl (by kernel_rfl) Tryd.underlying42 (by kernel_rfl) rfl (by rw [IntKind.wrap_u32']; omega) w) ?_
      simp only [Act.put, List.setIfInBounds_toArray, List.set_cons_zero, List.set_cons_succ]
      refine pureL (.int .u32 (hxr (iv 4) (t % 4294967296))) rfl (fun w => xorI .u32 _ _ _ _ _ _ _ rfl rfl rfl rfl w) ?_
      simp only [Act.put, List.setIfInBounds_toArray, List.set_cons_zero, List.set_cons_succ]
      refine pureL (.pointer (some ⟨X, 12, none⟩)) rfl (fun w' => idxW X 16 capX 12 (by decide) w' _ _ rfl rfl rfl) ?_
      simp only [Act.put, List.setIfInBounds_toArray, List.set_cons_zero, List.set_cons_succ]
      refine storeL .u32 (hxr (iv 4) (t % 4294967296)) X 12 42 _ _ rfl rfl rfl rfl (by rw [(K.get _ _ _ _ List.mem_cons_self).cell 12 (by decide)]; rfl) ((K.get _ _ _ _ List.mem_cons_self).free 12 (by decide)) (by kernel_rfl) ?_
      simp only [Act.put]
      replace K := K.setCell [(M, .u32, 16, bpw z)] X .u32 16 (app h 8 iv) 12 (by decide) (hxr (iv 4) (t % 4294967296)) List.mem_cons_self (fun p hp => by obtain rfl := List.mem_singleton.1 hp; exact (List.mem_cons_of_mem _ List.mem_cons_self)) (fun p hp => by obtain rfl := List.mem_singleton.1 hp; simp only; omega) hX0
      generalize w4.setCell ⟨X, 12, none⟩ (.int .u32 (hxr (iv 4) (t % 4294967296))) = w5 at K ⊢
      show Exit.then _ _ _ _ _
      go_upto_region 8 with fail
      refine wp_region_list ?_
      refine pureL (.slice (some ⟨X, 0, none⟩) 16 capX) rfl (fun _ => by kernel_rfl) ?_
      simp only [Act.put, List.setIfInBounds_toArray, List.set_cons_zero, List.set_cons_succ]
      refine pureL (.slice (some ⟨X, 0, none⟩) 16 capX) rfl (fun _ => by kernel_rfl) ?_
      simp only [Act.put, List.setIfInBounds_toArray, List.set_cons_zero, List.set_cons_succ]
      refine pureL (.pointer (some ⟨X, 13, none⟩)) rfl (fun w' => idxW X 16 capX 13 (by decide) w' _ _ rfl rfl rfl) ?_
      simp only [Act.put, List.setIfInBounds_toArray, List.set_cons_zero, List.set_cons_succ]
      refine cellL .u32 (.int .u32 (iv 5)) X 13 42 _ rfl rfl rfl Tryd.underlying42 ((K.get _ _ _ _ List.mem_cons_self).cell 13 (by decide)) ?_
      simp only [Act.put, List.setIfInBounds_toArray, List.set_cons_zero, List.set_cons_succ]
      refine pureL (.int .u64 t) rfl (fun _ => by kernel_rfl) ?_
      simp only [Act.put, List.setIfInBounds_toArray, List.set_cons_zero, List.set_cons_succ]
      refine pureL (.int .u64 (t / 4294967296)) rfl (fun w => shrI .u64 .u64 _ 32 _ _ _ _ _ rfl rfl rfl (by decide) rfl w) ?_
      simp only [Act.put, List.setIfInBounds_toArray, List.set_cons_zero, List.set_cons_succ]
      refine pureL (.int .u32 (t / 4294967296 % 4294967296)) rfl (fun w => convI .u64 .u32 _ _ _ _ _ rfl (by kernel_rfl) Tryd.underlying42 (by kernel_rfl) rfl (IntKind.wrap_u32' _) w) ?_
      simp only [Act.put, List.setIfInBounds_toArray, List.set_cons_zero, List.set_cons_succ]
      refine pureL (.int .u32 (hxr (iv 5) (t / 4294967296 % 4294967296))) rfl (fun w => xorI .u32 _ _ _ _ _ _ _ rfl rfl rfl rfl w) ?_
      simp only [Act.put, List.setIfInBounds_toArray, List.set_cons_zero, List.set_cons_succ]
      refine pureL (.pointer (some ⟨X, 13, none⟩)) rfl (fun w' => idxW X 16 capX 13 (by decide) w' _ _ rfl rfl rfl) ?_
      simp only [Act.put, List.setIfInBounds_toArray, List.set_cons_zero, List.set_cons_succ]
      refine storeL .u32 (hxr (iv 5) (t / 4294967296 % 4294967296)) X 13 42 _ _ rfl rfl rfl rfl (by rw [(K.get _ _ _ _ List.mem_cons_self).cell 13 (by decide)]; rfl) ((K.get _ _ _ _ List.mem_cons_self).free 13 (by decide)) (by kernel_rfl) ?_
      simp only [Act.put]
      replace K := K.setCell [(M, .u32, 16, bpw z)] X .u32 16 (upd (app h 8 iv) 12 (hxr (iv 4) (t % 4294967296))) 13 (by decide) (hxr (iv 5) (t / 4294967296 % 4294967296)) List.mem_cons_self (fun p hp => by obtain rfl := List.mem_singleton.1 hp; exact (List.mem_cons_of_mem _ List.mem_cons_self)) (fun p hp => by obtain rfl := List.mem_singleton.1 hp; simp only; omega) hX0
      generalize w5.setCell ⟨X, 13, none⟩ (.int .u32 (hxr (iv 5) (t / 4294967296 % 4294967296))) = w6 at K ⊢
      show Exit.then _ _ _ _ _
      have hcon := bst_of h t (upd (upd (app h 8 iv) 12 (hxr (iv 4) (t % 4294967296))) 13 (hxr (iv 5) (t / 4294967296 % 4294967296))) last (fun _ => rfl)
      cases last
      · replace K : Kr w m4 [(X, .u32, 16, bst h t false), (M, .u32, 16, bpw z)] [] w6 := ⟨fun p hp => by
          rcases List.mem_cons.1 hp with rfl | hp
          · exact ⟨(K.get _ _ _ _ List.mem_cons_self).congr hcon, (K.rows _ List.mem_cons_self).2⟩
          · exact K.rows p (List.mem_cons_of_mem _ hp), K.room, (fun p hp q hq => by cases hq), K.size, K.base, K.below⟩
        clear hcon
        go_upto_region 11 with fail
        refine wp_region_list ?_
        have hlt4 := (K.rows _ List.mem_cons_self).2
        have hs4 := K.size
        refine callL rfl (fun _ => by kernel_rfl) (refRows_any _) ?_
        rintro e w8 ⟨O, bs, rfl, ⟨hO1, hbs, hSG⟩, l⟩
        replace K := K.call l
        clear l
        refine ⟨_, rfl, ?_⟩
        simp only [Act.put, List.setIfInBounds_toArray, List.set_cons_zero, List.set_cons_succ]
        refine pureL (.slice (some ⟨O, 0, none⟩) 10 10) rfl (fun _ => by kernel_rfl) ?_
        simp only [Act.put, List.setIfInBounds_toArray, List.set_cons_zero, List.set_cons_succ]
        have P0 : PI z w X M O bs (bst h t false) w8 := ⟨K.get _ _ _ _ List.mem_cons_self, K.get _ _ _ _ (List.mem_cons_of_mem _ List.mem_cons_self), hSG, Nat.lt_of_lt_of_le (K.rows _ List.mem_cons_self).2 K.size, Nat.lt_of_lt_of_le (K.rows _ (List.mem_cons_of_mem _ List.mem_cons_self)).2 K.size, K.below⟩
        have hXO : X < O := by simp only at hlt4; omega
        have hXb : ∀ r, r < 10 → X < bs r := fun r hr => by have := hbs r hr; simp only at hlt4; omega
        have hst := bst_in h t false hh
        clear K hSG hbs hO1 hlt4 hs4
        show Exit.then _ _ _ _ _
        go_wp2
        go_loopw [13] (fun i w' => ∃ r : Nat, r ≤ 10 ∧ i = .int .i64 r ∧ PI z w X M O bs (bR (bpw z) (bst h t false) r) w') (fun i _ => 10 - (intOf i).toNat)
        case atStart => exact ⟨0, by omega, rfl, P0⟩
        case round =>
          clear P0
          obtain ⟨r, hr, rfl, P⟩ := hrel
          have g1 : (0 : Int) ≤ (r : Int) := by omega
          by_cases hlt : r < 10
          · have g2 : (r : Int) < 10 := by omega
            have hin := bR_in (bpw z) _ hst r
            go_upto_region 15 with fail
            refine wp_region_list ?_
            refine pureL (.slice (some ⟨O, 0, none⟩) 10 10) rfl (fun _ => by kernel_rfl) ?_
            simp only [Act.put, List.setIfInBounds_toArray, List.set_cons_zero, List.set_cons_succ]
            refine pureL (.int .i64 (r : Int)) rfl (fun _ => by kernel_rfl) ?_
            simp only [Act.put, List.setIfInBounds_toArray, List.set_cons_zero, List.set_cons_succ]
            refine pureL (.pointer (some ⟨O, r, none⟩)) rfl (fun w' => idxII O r hlt w' _ _ rfl rfl rfl) ?_
            simp only [Act.put, List.setIfInBounds_toArray, List.set_cons_zero, List.set_cons_succ]
            refine readL (.slice (some ⟨bs r, 0, none⟩) 16 16) rfl (bloadSl 72 3 _ ⟨O, r, none⟩ _ rfl rfl Tryd.underlying72 (P.sg.top r hlt)) ?_
            simp only [Act.put, List.setIfInBounds_toArray, List.set_cons_zero, List.set_cons_succ]
            refine pureL (.slice (some ⟨bs r, 0, none⟩) 16 16) rfl (fun _ => by kernel_rfl) ?_
            simp only [Act.put, List.setIfInBounds_toArray, List.set_cons_zero, List.set_cons_succ]
            show Exit.then _ _ _ _ _
            go_wp2
            go_loopw [15] (fun i w' => ∃ q : Nat, q ≤ 4 ∧ i = .int .i64 q ∧ PI z w X M O bs (bN (bpw z) (sg r) (bR (bpw z) (bst h t false) r) q) w') (fun i _ => 4 - (intOf i).toNat)
            case atStart => exact ⟨0, by omega, rfl, P⟩
            case round =>
              clear P
              obtain ⟨q, hq, rfl, P⟩ := hrel
              have g3 : (0 : Int) ≤ (q : Int) := by omega
              by_cases hlt2 : q < 4
              · have g4 : (q : Int) < 4 := by omega
                have hin2 := bN_in (bpw z) (sg r) _ hin (q)
                go_upto_region 19 with fail
                replace P := P.drew
                refine wp_region_held_drew (S := fun w' => PM z w M O bs w') (by kernel_rfl) P.pm ?_
                intro K
                generalize wr.drew = w9 at P K ⊢
                refine pureH (i := 0) (some 99) rfl (.slice (some ⟨X, 0, none⟩) 16 capX) rfl rfl (fun _ => by kernel_rfl) (by kernel_rfl) (by kernel_rfl) (by kernel_rfl) (fun _ _ _ h => h) K ?_
                simp only [Act.put, List.setIfInBounds_toArray, List.set_cons_zero, List.set_cons_succ]
                refine pureH (i := 1) (some 100) rfl (.int .i64 (q : Int)) rfl rfl (fun _ => by kernel_rfl) (by kernel_rfl) (by kernel_rfl) (by kernel_rfl) (fun _ _ _ h => h) K ?_
                simp only [Act.put, List.setIfInBounds_toArray, List.set_cons_zero, List.set_cons_succ]
                refine pureH (i := 2) (some 101) rfl (.int .i64 (q : Int)) rfl rfl (fun _ => by kernel_rfl) (by kernel_rfl) (by kernel_rfl) (by kernel_rfl) (fun _ _ _ h => h) K ?_
                simp only [Act.put, List.setIfInBounds_toArray, List.set_cons_zero, List.set_cons_succ]
                refine pureH (i := 3) (some 102) rfl (.int .i64 ((4 + q : Nat) : Int)) rfl rfl (fun w => addI .i64 _ _ _ _ _ _ _ rfl rfl rfl (by rw [IntKind.wrap_i64]; omega) w) (by kernel_rfl) (by kernel_rfl) (by kernel_rfl) (fun _ _ _ h => h) K ?_
                simp only [Act.put, List.setIfInBounds_toArray, List.set_cons_zero, List.set_cons_succ]
                refine pureH (i := 4) (some 103) rfl (.int .i64 (q : Int)) rfl rfl (fun _ => by kernel_rfl) (by kernel_rfl) (by kernel_rfl) (by kernel_rfl) (fun _ _ _ h => h) K ?_
                simp only [Act.put, List.setIfInBounds_toArray, List.set_cons_zero, List.set_cons_succ]
                refine pureH (i := 5) (some 104) rfl (.int .i64 ((8 + q : Nat) : Int)) rfl rfl (fun w => addI .i64 _ _ _ _ _ _ _ rfl rfl rfl (by rw [IntKind.wrap_i64]; omega) w) (by kernel_rfl) (by kernel_rfl) (by kernel_rfl) (fun _ _ _ h => h) K ?_
                simp only [Act.put, List.setIfInBounds_toArray, List.set_cons_zero, List.set_cons_succ]
                refine pureH (i := 6) (some 105) rfl (.int .i64 (q : Int)) rfl rfl (fun _ => by kernel_rfl) (by kernel_rfl) (by kernel_rfl) (by kernel_rfl) (fun _ _ _ h => h) K ?_
                simp only [Act.put, List.setIfInBounds_toArray, List.set_cons_zero, List.set_cons_succ]
                refine pureH (i := 7) (some 106) rfl (.int .i64 ((12 + q : Nat) : Int)) rfl rfl (fun w => addI .i64 _ _ _ _ _ _ _ rfl rfl rfl (by rw [IntKind.wrap_i64]; omega) w) (by kernel_rfl) (by kernel_rfl) (by kernel_rfl) (fun _ _ _ h => h) K ?_
                simp only [Act.put, List.setIfInBounds_toArray, List.set_cons_zero, List.set_cons_succ]
                refine pureH (i := 8) (some 107) rfl (.slice (some ⟨M, 0, none⟩) 16 capM) rfl rfl (fun _ => by kernel_rfl) (by kernel_rfl) (by kernel_rfl) (by kernel_rfl) (fun _ _ _ h => h) K ?_
                simp only [Act.put, List.setIfInBounds_toArray, List.set_cons_zero, List.set_cons_succ]
                refine pureH (i := 9) (some 108) rfl (.slice (some ⟨bs r, 0, none⟩) 16 16) rfl rfl (fun _ => by kernel_rfl) (by kernel_rfl) (by kernel_rfl) (by kernel_rfl) (fun _ _ _ h => h) K ?_
                simp only [Act.put, List.setIfInBounds_toArray, List.set_cons_zero, List.set_cons_succ]
                refine pureH (i := 10) (some 109) rfl (.int .i64 (q : Int)) rfl rfl (fun _ => by kernel_rfl) (by kernel_rfl) (by kernel_rfl) (by kernel_rfl) (fun _ _ _ h => h) K ?_
                simp only [Act.put, List.setIfInBounds_toArray, List.set_cons_zero, List.set_cons_succ]
                refine pureH (i := 11) (some 110) rfl (.int .i64 ((2 * q : Nat) : Int)) rfl rfl (fun w => mulI .i64 _ _ _ _ _ _ _ rfl rfl rfl (by rw [IntKind.wrap_i64]; omega) w) (by kernel_rfl) (by kernel_rfl) (by kernel_rfl) (fun _ _ _ h => h) K ?_
                simp only [Act.put, List.setIfInBounds_toArray, List.set_cons_zero, List.set_cons_succ]
                refine pureH (i := 12) (some 111) rfl (.pointer (some ⟨bs r, 2 * q, none⟩)) rfl rfl (fun w' => idxI (bs r) (2 * q) (by omega) w' _ _ rfl rfl rfl) (by kernel_rfl) (by kernel_rfl) (by kernel_rfl) (fun _ _ _ h => h) K ?_
                simp only [Act.put, List.setIfInBounds_toArray, List.set_cons_zero, List.set_cons_succ]
                refine cellH (i := 13) (some 112) rfl .i64 (.int .i64 ((sg r (2 * q) : Nat) : Int)) (bs r) (2 * q) 3 _ rfl rfl rfl rfl (by kernel_rfl) (by kernel_rfl) (by kernel_rfl) (fun _ _ _ h => h) Tryd.underlying3 K (fun _ h => (h.sg.rows r hlt).1.cell (2 * q) (by omega)) ?_
                simp only [Act.put, List.setIfInBounds_toArray, List.set_cons_zero, List.set_cons_succ]
                refine pureH (i := 14) (some 113) rfl (.pointer (some ⟨M, sg r (2 * q), none⟩)) rfl rfl (fun w' => idxW M 16 capM (sg r (2 * q)) (sg_lt _ _) w' _ _ rfl rfl rfl) (by kernel_rfl) (by kernel_rfl) (by kernel_rfl) (fun _ _ _ h => h) K ?_
                simp only [Act.put, List.setIfInBounds_toArray, List.set_cons_zero, List.set_cons_succ]
                refine cellH (i := 15) (some 114) rfl .u32 (.int .u32 (bpw z (sg r (2 * q)))) M (sg r (2 * q)) 42 _ rfl rfl rfl rfl (by kernel_rfl) (by kernel_rfl) (by kernel_rfl) (fun _ _ _ h => h) Tryd.underlying42 K (fun _ h => h.hm.cell (sg r (2 * q)) (sg_lt _ _)) ?_
                simp only [Act.put, List.setIfInBounds_toArray, List.set_cons_zero, List.set_cons_succ]
                refine pureH (i := 16) (some 115) rfl (.slice (some ⟨M, 0, none⟩) 16 capM) rfl rfl (fun _ => by kernel_rfl) (by kernel_rfl) (by kernel_rfl) (by kernel_rfl) (fun _ _ _ h => h) K ?_
                simp only [Act.put, List.setIfInBounds_toArray, List.set_cons_zero, List.set_cons_succ]
                refine pureH (i := 17) (some 116) rfl (.slice (some ⟨bs r, 0, none⟩) 16 16) rfl rfl (fun _ => by kernel_rfl) (by kernel_rfl) (by kernel_rfl) (by kernel_rfl) (fun _ _ _ h => h) K ?_
                simp only [Act.put, List.setIfInBounds_toArray, List.set_cons_zero, List.set_cons_succ]
                refine pureH (i := 18) (some 117) rfl (.int .i64 (q : Int)) rfl rfl (fun _ => by kernel_rfl) (by kernel_rfl) (by kernel_rfl) (by kernel_rfl) (fun _ _ _ h => h) K ?_
                simp only [Act.put, List.setIfInBounds_toArray, List.set_cons_zero, List.set_cons_succ]
                refine pureH (i := 19) (some 118) rfl (.int .i64 ((2 * q : Nat) : Int)) rfl rfl (fun w => mulI .i64 _ _ _ _ _ _ _ rfl rfl rfl (by rw [IntKind.wrap_i64]; omega) w) (by kernel_rfl) (by kernel_rfl) (by kernel_rfl) (fun _ _ _ h => h) K ?_
                simp only [Act.put, List.setIfInBounds_toArray, List.set_cons_zero, List.set_cons_succ]
                refine pureH (i := 20) (some 119) rfl (.int .i64 ((2 * q + 1 : Nat) : Int)) rfl rfl (fun w => addI .i64 _ _ _ _ _ _ _ rfl rfl rfl (by rw [IntKind.wrap_i64]; omega) w) (by kernel_rfl) (by kernel_rfl) (by kernel_rfl) (fun _ _ _ h => h) K ?_
                simp only [Act.put, List.setIfInBounds_toArray, List.set_cons_zero, List.set_cons_succ]
                refine pureH (i := 21) (some 120) rfl (.pointer (some ⟨bs r, 2 * q + 1, none⟩)) rfl rfl (fun w' => idxI (bs r) (2 * q + 1) (by omega) w' _ _ rfl rfl rfl) (by kernel_rfl) (by kernel_rfl) (by kernel_rfl) (fun _ _ _ h => h) K ?_
                simp only [Act.put, List.setIfInBounds_toArray, List.set_cons_zero, List.set_cons_succ]
                refine cellH (i := 22) (some 121) rfl .i64 (.int .i64 ((sg r (2 * q + 1) : Nat) : Int)) (bs r) (2 * q + 1) 3 _ rfl rfl rfl rfl (by kernel_rfl) (by kernel_rfl) (by kernel_rfl) (fun _ _ _ h => h) Tryd.underlying3 K (fun _ h => (h.sg.rows r hlt).1.cell (2 * q + 1) (by omega)) ?_
                simp only [Act.put, List.setIfInBounds_toArray, List.set_cons_zero, List.set_cons_succ]
                refine pureH (i := 23) (some 122) rfl (.pointer (some ⟨M, sg r (2 * q + 1), none⟩)) rfl rfl (fun w' => idxW M 16 capM (sg r (2 * q + 1)) (sg_lt _ _) w' _ _ rfl rfl rfl) (by kernel_rfl) (by kernel_rfl) (by kernel_rfl) (fun _ _ _ h => h) K ?_
                simp only [Act.put, List.setIfInBounds_toArray, List.set_cons_zero, List.set_cons_succ]
                refine cellH (i := 24) (some 123) rfl .u32 (.int .u32 (bpw z (sg r (2 * q + 1)))) M (sg r (2 * q + 1)) 42 _ rfl rfl rfl rfl (by kernel_rfl) (by kernel_rfl) (by kernel_rfl) (fun _ _ _ h => h) Tryd.underlying42 K (fun _ h => h.hm.cell (sg r (2 * q + 1)) (sg_lt _ _)) ?_
                simp only [Act.put, List.setIfInBounds_toArray, List.set_cons_zero, List.set_cons_succ]
                refine callH (i := 25) (some 124) rfl (by kernel_rfl) rfl rfl (fun _ => by kernel_rfl) (refMix_any X capX (q) (4 + q) (8 + q) (12 + q) (bpw z (sg r (2 * q))) (bpw z (sg r (2 * q + 1))) (bN (bpw z) (sg r) (bR (bpw z) (bst h t false) r) q) hin2 (by omega) (by omega) (by omega) (by omega) (by omega) (by omega) (by omega) (by omega) (by omega) (by omega) _ P.has P.lt) ?_
                rintro e w10 ⟨rfl, G⟩
                refine ⟨_, rfl, (P.mix G hX0 hXM hXO hXb).pm, ?_⟩
                simp only [Act.put, List.setIfInBounds_toArray, List.set_cons_zero, List.set_cons_succ]
                refine wpAnyH_done (by kernel_rfl) ?_ _
                rw [← at_lo (bpw z) (sg r) _ q hlt2] at G
                have HS := show Hid _ from P.mix G hX0 hXM hXO hXb
                clear P K G hin2
                go_wp2
                go_roundw
                case rel => first | exact ⟨q + 1, by omega, by go_num, HS.out⟩ | ((repeat apply Exists.intro); refine ⟨⟨q + 1, by omega, by go_num, HS.out⟩, rfl⟩)
                case measure => simp [intOf]; omega
              · obtain rfl : q = 4 := by omega
                clear hlt2 hq g3
                go_wp2
                go_loopw [16] (fun i w' => ∃ q : Nat, q ≤ 4 ∧ i = .int .i64 q ∧ PI z w X M O bs (bN (bpw z) (sg r) (bR (bpw z) (bst h t false) r) (4 + q)) w') (fun i _ => 4 - (intOf i).toNat)
                case atStart => exact ⟨0, by omega, rfl, P⟩
                case round =>
                  clear P
                  obtain ⟨q, hq, rfl, P⟩ := hrel
                  have g3 : (0 : Int) ≤ (q : Int) := by omega
                  by_cases hlt2 : q < 4
                  · have g4 : (q : Int) < 4 := by omega
                    have hin2 := bN_in (bpw z) (sg r) _ hin ((4 + q))
                    go_upto_region 23 with fail
                    replace P := P.drew
                    refine wp_region_held_drew (S := fun w' => PM z w M O bs w') (by kernel_rfl) P.pm ?_
                    intro K
                    generalize wr.drew = w9 at P K ⊢
                    refine pureH (i := 0) (some 129) rfl (.slice (some ⟨X, 0, none⟩) 16 capX) rfl rfl (fun _ => by kernel_rfl) (by kernel_rfl) (by kernel_rfl) (by kernel_rfl) (fun _ _ _ h => h) K ?_
                    simp only [Act.put, List.setIfInBounds_toArray, List.set_cons_zero, List.set_cons_succ]
                    refine pureH (i := 1) (some 130) rfl (.int .i64 (q : Int)) rfl rfl (fun _ => by kernel_rfl) (by kernel_rfl) (by kernel_rfl) (by kernel_rfl) (fun _ _ _ h => h) K ?_
                    simp only [Act.put, List.setIfInBounds_toArray, List.set_cons_zero, List.set_cons_succ]
                    refine pureH (i := 2) (some 131) rfl (.int .i64 (q : Int)) rfl rfl (fun _ => by kernel_rfl) (by kernel_rfl) (by kernel_rfl) (by kernel_rfl) (fun _ _ _ h => h) K ?_
                    simp only [Act.put, List.setIfInBounds_toArray, List.set_cons_zero, List.set_cons_succ]
                    refine pureH (i := 3) (some 132) rfl (.int .i64 ((q + 1 : Nat) : Int)) rfl rfl (fun w => addI .i64 _ _ _ _ _ _ _ rfl rfl rfl (by rw [IntKind.wrap_i64]; omega) w) (by kernel_rfl) (by kernel_rfl) (by kernel_rfl) (fun _ _ _ h => h) K ?_
                    simp only [Act.put, List.setIfInBounds_toArray, List.set_cons_zero, List.set_cons_succ]
                    refine pureH (i := 4) (some 133) rfl (.int .i64 (((q + 1) % 4 : Nat) : Int)) rfl rfl (fun w => remI .i64 _ _ _ _ _ _ _ rfl rfl rfl (by decide) (by rw [Int.tmod_eq_emod_of_nonneg (by omega)]; omega) w) (by kernel_rfl) (by kernel_rfl) (by kernel_rfl) (fun _ _ _ h => h) K ?_
                    simp only [Act.put, List.setIfInBounds_toArray, List.set_cons_zero, List.set_cons_succ]
                    refine pureH (i := 5) (some 134) rfl (.int .i64 ((4 + (q + 1) % 4 : Nat) : Int)) rfl rfl (fun w => addI .i64 _ _ _ _ _ _ _ rfl rfl rfl (by rw [IntKind.wrap_i64]; omega) w) (by kernel_rfl) (by kernel_rfl) (by kernel_rfl) (fun _ _ _ h => h) K ?_
                    simp only [Act.put, List.setIfInBounds_toArray, List.set_cons_zero, List.set_cons_succ]
                    refine pureH (i := 6) (some 135) rfl (.int .i64 (q : Int)) rfl rfl (fun _ => by kernel_rfl) (by kernel_rfl) (by kernel_rfl) (by kernel_rfl) (fun _ _ _ h => h) K ?_
                    simp only [Act.put, List.setIfInBounds_toArray, List.set_cons_zero, List.set_cons_succ]
                    refine pureH (i := 7) (some 136) rfl (.int .i64 ((q + 2 : Nat) : Int)) rfl rfl (fun w => addI .i64 _ _ _ _ _ _ _ rfl rfl rfl (by rw [IntKind.wrap_i64]; omega) w) (by kernel_rfl) (by kernel_rfl) (by kernel_rfl) (fun _ _ _ h => h) K ?_
                    simp only [Act.put, List.setIfInBounds_toArray, List.set_cons_zero, List.set_cons_succ]
                    refine pureH (i := 8) (some 137) rfl (.int .i64 (((q + 2) % 4 : Nat) : Int)) rfl rfl (fun w => remI .i64 _ _ _ _ _ _ _ rfl rfl rfl (by decide) (by rw [Int.tmod_eq_emod_of_nonneg (by omega)]; omega) w) (by kernel_rfl) (by kernel_rfl) (by kernel_rfl) (fun _ _ _ h => h) K ?_
                    simp only [Act.put, List.setIfInBounds_toArray, List.set_cons_zero, List.set_cons_succ]
                    refine pureH (i := 9) (some 138) rfl (.int .i64 ((8 + (q + 2) % 4 : Nat) : Int)) rfl rfl (fun w => addI .i64 _ _ _ _ _ _ _ rfl rfl rfl (by rw [IntKind.wrap_i64]; omega) w) (by kernel_rfl) (by kernel_rfl) (by kernel_rfl) (fun _ _ _ h => h) K ?_
                    simp only [Act.put, List.setIfInBounds_toArray, List.set_cons_zero, List.set_cons_succ]
                    refine pureH (i := 10) (some 139) rfl (.int .i64 (q : Int)) rfl rfl (fun _ => by kernel_rfl) (by kernel_rfl) (by kernel_rfl) (by kernel_rfl) (fun _ _ _ h => h) K ?_
                    simp only [Act.put, List.setIfInBounds_toArray, List.set_cons_zero, List.set_cons_succ]
                    refine pureH (i := 11) (some 140) rfl (.int .i64 ((q + 3 : Nat) : Int)) rfl rfl (fun w => addI .i64 _ _ _ _ _ _ _ rfl rfl rfl (by rw [IntKind.wrap_i64]; omega) w) (by kernel_rfl) (by kernel_rfl) (by kernel_rfl) (fun _ _ _ h => h) K ?_
                    simp only [Act.put, List.setIfInBounds_toArray, List.set_cons_zero, List.set_cons_succ]
                    refine pureH (i := 12) (some 141) rfl (.int .i64 (((q + 3) % 4 : Nat) : Int)) rfl rfl (fun w => remI .i64 _ _ _ _ _ _ _ rfl rfl rfl (by decide) (by rw [Int.tmod_eq_emod_of_nonneg (by omega)]; omega) w) (by kernel_rfl) (by kernel_rfl) (by kernel_rfl) (fun _ _ _ h => h) K ?_
                    simp only [Act.put, List.setIfInBounds_toArray, List.set_cons_zero, List.set_cons_succ]
                    refine pureH (i := 13) (some 142) rfl (.int .i64 ((12 + (q + 3) % 4 : Nat) : Int)) rfl rfl (fun w => addI .i64 _ _ _ _ _ _ _ rfl rfl rfl (by rw [IntKind.wrap_i64]; omega) w) (by kernel_rfl) (by kernel_rfl) (by kernel_rfl) (fun _ _ _ h => h) K ?_
                    simp only [Act.put, List.setIfInBounds_toArray, List.set_cons_zero, List.set_cons_succ]
                    refine pureH (i := 14) (some 143) rfl (.slice (some ⟨M, 0, none⟩) 16 capM) rfl rfl (fun _ => by kernel_rfl) (by kernel_rfl) (by kernel_rfl) (by kernel_rfl) (fun _ _ _ h => h) K ?_
                    simp only [Act.put, List.setIfInBounds_toArray, List.set_cons_zero, List.set_cons_succ]
                    refine pureH (i := 15) (some 144) rfl (.slice (some ⟨bs r, 0, none⟩) 16 16) rfl rfl (fun _ => by kernel_rfl) (by kernel_rfl) (by kernel_rfl) (by kernel_rfl) (fun _ _ _ h => h) K ?_
                    simp only [Act.put, List.setIfInBounds_toArray, List.set_cons_zero, List.set_cons_succ]
                    refine pureH (i := 16) (some 145) rfl (.int .i64 (q : Int)) rfl rfl (fun _ => by kernel_rfl) (by kernel_rfl) (by kernel_rfl) (by kernel_rfl) (fun _ _ _ h => h) K ?_
                    simp only [Act.put, List.setIfInBounds_toArray, List.set_cons_zero, List.set_cons_succ]
                    refine pureH (i := 17) (some 146) rfl (.int .i64 ((2 * q : Nat) : Int)) rfl rfl (fun w => mulI .i64 _ _ _ _ _ _ _ rfl rfl rfl (by rw [IntKind.wrap_i64]; omega) w) (by kernel_rfl) (by kernel_rfl) (by kernel_rfl) (fun _ _ _ h => h) K ?_
                    simp only [Act.put, List.setIfInBounds_toArray, List.set_cons_zero, List.set_cons_succ]
                    refine pureH (i := 18) (some 147) rfl (.int .i64 ((8 + 2 * q : Nat) : Int)) rfl rfl (fun w => addI .i64 _ _ _ _ _ _ _ rfl rfl rfl (by rw [IntKind.wrap_i64]; omega) w) (by kernel_rfl) (by kernel_rfl) (by kernel_rfl) (fun _ _ _ h => h) K ?_
                    simp only [Act.put, List.setIfInBounds_toArray, List.set_cons_zero, List.set_cons_succ]
                    refine pureH (i := 19) (some 148) rfl (.pointer (some ⟨bs r, 8 + 2 * q, none⟩)) rfl rfl (fun w' => idxI (bs r) (8 + 2 * q) (by omega) w' _ _ rfl rfl rfl) (by kernel_rfl) (by kernel_rfl) (by kernel_rfl) (fun _ _ _ h => h) K ?_
                    simp only [Act.put, List.setIfInBounds_toArray, List.set_cons_zero, List.set_cons_succ]
                    refine cellH (i := 20) (some 149) rfl .i64 (.int .i64 ((sg r (8 + 2 * q) : Nat) : Int)) (bs r) (8 + 2 * q) 3 _ rfl rfl rfl rfl (by kernel_rfl) (by kernel_rfl) (by kernel_rfl) (fun _ _ _ h => h) Tryd.underlying3 K (fun _ h => (h.sg.rows r hlt).1.cell (8 + 2 * q) (by omega)) ?_
                    simp only [Act.put, List.setIfInBounds_toArray, List.set_cons_zero, List.set_cons_succ]
                    refine pureH (i := 21) (some 150) rfl (.pointer (some ⟨M, sg r (8 + 2 * q), none⟩)) rfl rfl (fun w' => idxW M 16 capM (sg r (8 + 2 * q)) (sg_lt _ _) w' _ _ rfl rfl rfl) (by kernel_rfl) (by kernel_rfl) (by kernel_rfl) (fun _ _ _ h => h) K ?_
                    simp only [Act.put, List.setIfInBounds_toArray, List.set_cons_zero, List.set_cons_succ]
                    refine cellH (i := 22) (some 151) rfl .u32 (.int .u32 (bpw z (sg r (8 + 2 * q)))) M (sg r (8 + 2 * q)) 42 _ rfl rfl rfl rfl (by kernel_rfl) (by kernel_rfl) (by kernel_rfl) (fun _ _ _ h => h) Tryd.underlying42 K (fun _ h => h.hm.cell (sg r (8 + 2 * q)) (sg_lt _ _)) ?_
                    simp only [Act.put, List.setIfInBounds_toArray, List.set_cons_zero, List.set_cons_succ]
                    refine pureH (i := 23) (some 152) rfl (.slice (some ⟨M, 0, none⟩) 16 capM) rfl rfl (fun _ => by kernel_rfl) (by kernel_rfl) (by kernel_rfl) (by kernel_rfl) (fun _ _ _ h => h) K ?_
                    simp only [Act.put, List.setIfInBounds_toArray, List.set_cons_zero, List.set_cons_succ]
                    refine pureH (i := 24) (some 153) rfl (.slice (some ⟨bs r, 0, none⟩) 16 16) rfl rfl (fun _ => by kernel_rfl) (by kernel_rfl) (by kernel_rfl) (by kernel_rfl) (fun _ _ _ h => h) K ?_
                    simp only [Act.put, List.setIfInBounds_toArray, List.set_cons_zero, List.set_cons_succ]
                    refine pureH (i := 25) (some 154) rfl (.int .i64 (q : Int)) rfl rfl (fun _ => by kernel_rfl) (by kernel_rfl) (by kernel_rfl) (by kernel_rfl) (fun _ _ _ h => h) K ?_
                    simp only [Act.put, List.setIfInBounds_toArray, List.set_cons_zero, List.set_cons_succ]
                    refine pureH (i := 26) (some 155) rfl (.int .i64 ((2 * q : Nat) : Int)) rfl rfl (fun w => mulI .i64 _ _ _ _ _ _ _ rfl rfl rfl (by rw [IntKind.wrap_i64]; omega) w) (by kernel_rfl) (by kernel_rfl) (by kernel_rfl) (fun _ _ _ h => h) K ?_
                    simp only [Act.put, List.setIfInBounds_toArray, List.set_cons_zero, List.set_cons_succ]
                    refine pureH (i := 27) (some 156) rfl (.int .i64 ((9 + 2 * q : Nat) : Int)) rfl rfl (fun w => addI .i64 _ _ _ _ _ _ _ rfl rfl rfl (by rw [IntKind.wrap_i64]; omega) w) (by kernel_rfl) (by kernel_rfl) (by kernel_rfl) (fun _ _ _ h => h) K ?_
                    simp only [Act.put, List.setIfInBounds_toArray, List.set_cons_zero, List.set_cons_succ]
                    refine pureH (i := 28) (some 157) rfl (.pointer (some ⟨bs r, 9 + 2 * q, none⟩)) rfl rfl (fun w' => idxI (bs r) (9 + 2 * q) (by omega) w' _ _ rfl rfl rfl) (by kernel_rfl) (by kernel_rfl) (by kernel_rfl) (fun _ _ _ h => h) K ?_
                    simp only [Act.put, List.setIfInBounds_toArray, List.set_cons_zero, List.set_cons_succ]
                    refine cellH (i := 29) (some 158) rfl .i64 (.int .i64 ((sg r (9 + 2 * q) : Nat) : Int)) (bs r) (9 + 2 * q) 3 _ rfl rfl rfl rfl (by kernel_rfl) (by kernel_rfl) (by kernel_rfl) (fun _ _ _ h => h) Tryd.underlying3 K (fun _ h => (h.sg.rows r hlt).1.cell (9 + 2 * q) (by omega)) ?_
                    simp only [Act.put, List.setIfInBounds_toArray, List.set_cons_zero, List.set_cons_succ]
                    refine pureH (i := 30) (some 159) rfl (.pointer (some ⟨M, sg r (9 + 2 * q), none⟩)) rfl rfl (fun w' => idxW M 16 capM (sg r (9 + 2 * q)) (sg_lt _ _) w' _ _ rfl rfl rfl) (by kernel_rfl) (by kernel_rfl) (by kernel_rfl) (fun _ _ _ h => h) K ?_
                    simp only [Act.put, List.setIfInBounds_toArray, List.set_cons_zero, List.set_cons_succ]
                    refine cellH (i := 31) (some 160) rfl .u32 (.int .u32 (bpw z (sg r (9 + 2 * q)))) M (sg r (9 + 2 * q)) 42 _ rfl rfl rfl rfl (by kernel_rfl) (by kernel_rfl) (by kernel_rfl) (fun _ _ _ h => h) Tryd.underlying42 K (fun _ h => h.hm.cell (sg r (9 + 2 * q)) (sg_lt _ _)) ?_
                    simp only [Act.put, List.setIfInBounds_toArray, List.set_cons_zero, List.set_cons_succ]
                    refine callH (i := 32) (some 161) rfl (by kernel_rfl) rfl rfl (fun _ => by kernel_rfl) (refMix_any X capX (q) (4 + (q + 1) % 4) (8 + (q + 2) % 4) (12 + (q + 3) % 4) (bpw z (sg r (8 + 2 * q))) (bpw z (sg r (9 + 2 * q))) (bN (bpw z) (sg r) (bR (bpw z) (bst h t false) r) (4 + q)) hin2 (by omega) (by omega) (by omega) (by omega) (by omega) (by omega) (by omega) (by omega) (by omega) (by omega) _ P.has P.lt) ?_
                    rintro e w10 ⟨rfl, G⟩
                    refine ⟨_, rfl, (P.mix G hX0 hXM hXO hXb).pm, ?_⟩
                    simp only [Act.put, List.setIfInBounds_toArray, List.set_cons_zero, List.set_cons_succ]
                    refine wpAnyH_done (by kernel_rfl) ?_ _
                    rw [← at_hi (bpw z) (sg r) _ q hlt2] at G
                    have HS := show Hid _ from P.mix G hX0 hXM hXO hXb
                    clear P K G hin2
                    go_wp2
                    go_roundw
                    case rel => first | exact ⟨q + 1, by omega, by go_num, HS.out⟩ | ((repeat apply Exists.intro); refine ⟨⟨q + 1, by omega, by go_num, HS.out⟩, rfl⟩)
                    case measure => simp [intOf]; omega
                  · obtain rfl : q = 4 := by omega
                    have HS := show Hid (PI z w X M O bs (bR (bpw z) (bst h t false) (r + 1)) wr) from P
                    clear P hlt2 hq g3
                    go_wp2
                    go_roundw
                    case rel => first | exact ⟨r + 1, by omega, by go_num, HS.out⟩ | ((repeat apply Exists.intro); refine ⟨⟨r + 1, by omega, by go_num, HS.out⟩, rfl⟩)
                    case measure => simp [intOf]; omega
          · obtain rfl : r = 10 := by omega
            clear hlt hr g1 hXM hXO hXb
            have hbp : ∀ n, hxr (hxr (h n) (bR (bpw z) (bst h t false) 10 n)) (bR (bpw z) (bst h t false) 10 (n + 8)) = bpr h z t false n := fun _ => rfl
            generalize bR (bpw z) (bst h t false) 10 = F at P hbp
            generalize hG : bpr h z t false = G at hbp
            replace hG := show Hid _ from hG
            have K : Kr w wr.heap.size [(X, .u32, 16, F)] [] wr := ⟨fun p hp => by obtain rfl := List.mem_singleton.1 hp; exact ⟨P.has, P.lt⟩, fun _ h => (by cases h), fun _ _ _ h => (by cases h), Nat.le_refl _, P.below.size, P.below⟩
            clear P hst
            go_upto_region 24 with fail
            refine wp_region_list ?_
            refine actL (w' := wr.alloc (.cells #[] 42)) (.slice (some ⟨wr.heap.size, 0, none⟩) 0 0) rfl (by kernel_rfl) ?_
            simp only [Act.put, List.setIfInBounds_toArray, List.set_cons_zero, List.set_cons_succ]
            refine pureL (.slice (some ⟨wr.heap.size, 0, none⟩) 0 0) rfl (fun _ => by kernel_rfl) ?_
            simp only [Act.put, List.setIfInBounds_toArray, List.set_cons_zero, List.set_cons_succ]
            replace K := K.call ((Below.refl wr.heap.size wr).alloc (Nat.le_refl _) (.cells #[] 42))
            have HO : Own (wr.alloc (.cells #[] 42)) wr.heap.size 42 .u32 0 G (.slice (some ⟨wr.heap.size, 0, none⟩) 0 0) := Own.lit wr wr.heap.size 42 .u32 0 G (Nat.le_refl _) (by unfold maxLen; omega)
            generalize wr.alloc (.cells #[] 42) = w11 at K HO ⊢
            generalize Value.slice (some ⟨wr.heap.size, 0, none⟩) 0 0 = ov0 at HO ⊢
            generalize wr.heap.size = B at K HO
            show Exit.then _ _ _ _ _
            go_wp2
            go_loopw [17, 18] (fun ow i w' => ∃ (n : Nat) (ov : Value), n ≤ 8 ∧ i = .int .i64 (n : Int) ∧ ov = ow ∧ Own w' B 42 .u32 n G ov ∧ Kr w B [(X, .u32, 16, F)] [] w') (fun _ i _ => 8 - (intOf i).toNat)
            case atStart => exact ⟨0, _, by omega, rfl, rfl, HO, K⟩
            case round =>
              clear K HO
              obtain ⟨n, ov, hn, rfl, rfl, HO, K⟩ := hrel
              have g1 : (0 : Int) ≤ (n : Int) := by omega
              by_cases hlt : n < 8
              · have g2 : (n : Int) < 8 := by omega
                go_upto_region 28 with fail
                refine wp_region_held_drew (S := fun w' => Kr w B [(X, .u32, 16, F)] [] w') (by kernel_rfl) K.drew ?_
                clear K
                intro K
                replace HO := HO.drew
                generalize wr.drew = w12 at K HO ⊢
                refine pureH (i := 0) (some 167) rfl ov rfl rfl (fun _ => by kernel_rfl) (by kernel_rfl) (by kernel_rfl) (by kernel_rfl) (fun _ _ _ h => h) K ?_
                simp only [Act.put, List.setIfInBounds_toArray, List.set_cons_zero, List.set_cons_succ]
                refine pureH (i := 1) (some 168) rfl (.slice (some ⟨A, 0, none⟩) 8 capA) rfl rfl (fun _ => by kernel_rfl) (by kernel_rfl) (by kernel_rfl) (by kernel_rfl) (fun _ _ _ h => h) K ?_
                simp only [Act.put, List.setIfInBounds_toArray, List.set_cons_zero, List.set_cons_succ]
                refine pureH (i := 2) (some 169) rfl (.int .i64 (n : Int)) rfl rfl (fun _ => by kernel_rfl) (by kernel_rfl) (by kernel_rfl) (by kernel_rfl) (fun _ _ _ h => h) K ?_
                simp only [Act.put, List.setIfInBounds_toArray, List.set_cons_zero, List.set_cons_succ]
                refine pureH (i := 3) (some 170) rfl (.pointer (some ⟨A, n, none⟩)) rfl rfl (fun w' => idxW A 8 capA n hlt w' _ _ rfl rfl rfl) (by kernel_rfl) (by kernel_rfl) (by kernel_rfl) (fun _ _ _ h => h) K ?_
                simp only [Act.put, List.setIfInBounds_toArray, List.set_cons_zero, List.set_cons_succ]
                refine cellH (i := 4) (some 171) rfl .u32 (.int .u32 (h n)) A n 42 _ rfl rfl rfl rfl (by kernel_rfl) (by kernel_rfl) (by kernel_rfl) (fun _ _ _ h => h) Tryd.underlying42 K (fun _ h => (hA.below h.below hAl).cell n hlt) ?_
                simp only [Act.put, List.setIfInBounds_toArray, List.set_cons_zero, List.set_cons_succ]
                refine pureH (i := 5) (some 172) rfl (.slice (some ⟨X, 0, none⟩) 16 capX) rfl rfl (fun _ => by kernel_rfl) (by kernel_rfl) (by kernel_rfl) (by kernel_rfl) (fun _ _ _ h => h) K ?_
                simp only [Act.put, List.setIfInBounds_toArray, List.set_cons_zero, List.set_cons_succ]
                refine pureH (i := 6) (some 173) rfl (.int .i64 (n : Int)) rfl rfl (fun _ => by kernel_rfl) (by kernel_rfl) (by kernel_rfl) (by kernel_rfl) (fun _ _ _ h => h) K ?_
                simp only [Act.put, List.setIfInBounds_toArray, List.set_cons_zero, List.set_cons_succ]
                refine pureH (i := 7) (some 174) rfl (.pointer (some ⟨X, n, none⟩)) rfl rfl (fun w' => idxW X 16 capX n (by omega) w' _ _ rfl rfl rfl) (by kernel_rfl) (by kernel_rfl) (by kernel_rfl) (fun _ _ _ h => h) K ?_
                simp only [Act.put, List.setIfInBounds_toArray, List.set_cons_zero, List.set_cons_succ]
                refine cellH (i := 8) (some 175) rfl .u32 (.int .u32 (F n)) X n 42 _ rfl rfl rfl rfl (by kernel_rfl) (by kernel_rfl) (by kernel_rfl) (fun _ _ _ h => h) Tryd.underlying42 K (fun _ h => (h.get _ _ _ _ List.mem_cons_self).cell n (by omega)) ?_
                simp only [Act.put, List.setIfInBounds_toArray, List.set_cons_zero, List.set_cons_succ]
                refine pureH (i := 9) (some 176) rfl (.int .u32 (hxr (h n) (F n))) rfl rfl (fun w => xorI .u32 _ _ _ _ _ _ _ rfl rfl rfl rfl w) (by kernel_rfl) (by kernel_rfl) (by kernel_rfl) (fun _ _ _ h => h) K ?_
                simp only [Act.put, List.setIfInBounds_toArray, List.set_cons_zero, List.set_cons_succ]
                refine pureH (i := 10) (some 177) rfl (.slice (some ⟨X, 0, none⟩) 16 capX) rfl rfl (fun _ => by kernel_rfl) (by kernel_rfl) (by kernel_rfl) (by kernel_rfl) (fun _ _ _ h => h) K ?_
                simp only [Act.put, List.setIfInBounds_toArray, List.set_cons_zero, List.set_cons_succ]
                refine pureH (i := 11) (some 178) rfl (.int .i64 (n : Int)) rfl rfl (fun _ => by kernel_rfl) (by kernel_rfl) (by kernel_rfl) (by kernel_rfl) (fun _ _ _ h => h) K ?_
                simp only [Act.put, List.setIfInBounds_toArray, List.set_cons_zero, List.set_cons_succ]
                refine pureH (i := 12) (some 179) rfl (.int .i64 ((n + 8 : Nat) : Int)) rfl rfl (fun w => addI .i64 _ _ _ _ _ _ _ rfl rfl rfl (by rw [IntKind.wrap_i64]; omega) w) (by kernel_rfl) (by kernel_rfl) (by kernel_rfl) (fun _ _ _ h => h) K ?_
                simp only [Act.put, List.setIfInBounds_toArray, List.set_cons_zero, List.set_cons_succ]
                refine pureH (i := 13) (some 180) rfl (.pointer (some ⟨X, n + 8, none⟩)) rfl rfl (fun w' => idxW X 16 capX (n + 8) (by omega) w' _ _ rfl rfl rfl) (by kernel_rfl) (by kernel_rfl) (by kernel_rfl) (fun _ _ _ h => h) K ?_
                simp only [Act.put, List.setIfInBounds_toArray, List.set_cons_zero, List.set_cons_succ]
                refine cellH (i := 14) (some 181) rfl .u32 (.int .u32 (F (n + 8))) X (n + 8) 42 _ rfl rfl rfl rfl (by kernel_rfl) (by kernel_rfl) (by kernel_rfl) (fun _ _ _ h => h) Tryd.underlying42 K (fun _ h => (h.get _ _ _ _ List.mem_cons_self).cell (n + 8) (by omega)) ?_
                simp only [Act.put, List.setIfInBounds_toArray, List.set_cons_zero, List.set_cons_succ]
                refine pureH (i := 15) (some 182) rfl (.int .u32 (G n)) rfl rfl (fun w => xorI .u32 _ _ _ _ _ _ _ rfl rfl rfl (hbp n) w) (by kernel_rfl) (by kernel_rfl) (by kernel_rfl) (fun _ _ _ h => h) K ?_
                simp only [Act.put, List.setIfInBounds_toArray, List.set_cons_zero, List.set_cons_succ]
                have hb1 := K.call ((Below.refl w12.heap.size w12).alloc (Nat.le_refl _) (.cells #[.int .u32 (G n)] 42))
                refine actH (i := 16) (w' := w12.alloc (.cells #[.int .u32 (G n)] 42)) (some 183) rfl (.slice (some ⟨w12.heap.size, 0, none⟩) 1 1) (by kernel_rfl) rfl rfl (by kernel_rfl) hb1 ?_
                simp only [Act.put, List.setIfInBounds_toArray, List.set_cons_zero, List.set_cons_succ]
                obtain ⟨v, w13, hr, ho, hg⟩ := HO.more32 (by omega) (G n) rfl 58 K.size
                have hb2 := hb1.grown hg (fun b hb => (World.ownsRow.lt HO b hb).1)
                refine actH (i := 17) (some 184) rfl v (by kernel_rfl) rfl rfl (appendOp _ _ 58 _ _ _ rfl rfl rfl hr) hb2 ?_
                simp only [Act.put, List.setIfInBounds_toArray, List.set_cons_zero, List.set_cons_succ]
                refine pureH (i := 18) (some 17) rfl v rfl rfl (fun _ => by kernel_rfl) (by kernel_rfl) (by kernel_rfl) (by kernel_rfl) (fun _ _ _ h => h) hb2 ?_
                simp only [Act.put, List.setIfInBounds_toArray, List.set_cons_zero, List.set_cons_succ]
                refine wpAnyH_done (by kernel_rfl) ?_ _
                have HS := show Hid _ from (And.intro ho hb2)
                clear K HO hr ho hg hb1 hb2
                go_wp2
                go_roundw
                case rel => first | exact ⟨n + 1, v, by omega, by go_num, rfl, HS.out⟩ | ((repeat apply Exists.intro); refine ⟨⟨n + 1, v, by omega, by go_num, rfl, HS.out⟩, rfl⟩)
                case measure => simp [intOf]; omega
              · obtain rfl : n = 8 := by omega
                obtain ⟨O2, capO, rfl, hO1, hO2, HH⟩ := HO.has (by omega)
                have hB := K.below
                have hBB := K.base
                clear K HO hlt hn g1
                go_wp2
                go_ret
                exact ⟨O2, capO, rfl, ⟨by omega, hO2, by rw [hG.out]; exact HH⟩, hB⟩
      · go_upto_region 10 with fail
        refine wp_region_list ?_
        refine pureL (.slice (some ⟨X, 0, none⟩) 16 capX) rfl (fun _ => by kernel_rfl) ?_
        simp only [Act.put, List.setIfInBounds_toArray, List.set_cons_zero, List.set_cons_succ]
        refine pureL (.slice (some ⟨X, 0, none⟩) 16 capX) rfl (fun _ => by kernel_rfl) ?_
        simp only [Act.put, List.setIfInBounds_toArray, List.set_cons_zero, List.set_cons_succ]
        refine pureL (.pointer (some ⟨X, 14, none⟩)) rfl (fun w' => idxW X 16 capX 14 (by decide) w' _ _ rfl rfl rfl) ?_
        simp only [Act.put, List.setIfInBounds_toArray, List.set_cons_zero, List.set_cons_succ]
        refine cellL .u32 (.int .u32 (iv 6)) X 14 42 _ rfl rfl rfl Tryd.underlying42 ((K.get _ _ _ _ List.mem_cons_self).cell 14 (by decide)) ?_
        simp only [Act.put, List.setIfInBounds_toArray, List.set_cons_zero, List.set_cons_succ]
        refine pureL (.int .u32 (4294967295 - iv 6)) rfl (fun w => notI .u32 _ _ _ _ rfl rfl (by decide +kernel) w) ?_
        simp only [Act.put, List.setIfInBounds_toArray, List.set_cons_zero, List.set_cons_succ]
        refine pureL (.pointer (some ⟨X, 14, none⟩)) rfl (fun w' => idxW X 16 capX 14 (by decide) w' _ _ rfl rfl rfl) ?_
        simp only [Act.put, List.setIfInBounds_toArray, List.set_cons_zero, List.set_cons_succ]
        refine storeL .u32 (4294967295 - iv 6) X 14 42 _ _ rfl rfl rfl rfl (by rw [(K.get _ _ _ _ List.mem_cons_self).cell 14 (by decide)]; rfl) ((K.get _ _ _ _ List.mem_cons_self).free 14 (by decide)) (by kernel_rfl) ?_
        simp only [Act.put]
        replace K := K.setCell [(M, .u32, 16, bpw z)] X .u32 16 (upd (upd (app h 8 iv) 12 (hxr (iv 4) (t % 4294967296))) 13 (hxr (iv 5) (t / 4294967296 % 4294967296))) 14 (by decide) (4294967295 - iv 6) List.mem_cons_self (fun p hp => by obtain rfl := List.mem_singleton.1 hp; exact (List.mem_cons_of_mem _ List.mem_cons_self)) (fun p hp => by obtain rfl := List.mem_singleton.1 hp; simp only; omega) hX0
        generalize w6.setCell ⟨X, 14, none⟩ (.int .u32 (4294967295 - iv 6)) = w7 at K ⊢
        show Exit.then _ _ _ _ _
        replace K : Kr w m4 [(X, .u32, 16, bst h t true), (M, .u32, 16, bpw z)] [] w7 := ⟨fun p hp => by
          rcases List.mem_cons.1 hp with rfl | hp
          · exact ⟨(K.get _ _ _ _ List.mem_cons_self).congr hcon, (K.rows _ List.mem_cons_self).2⟩
          · exact K.rows p (List.mem_cons_of_mem _ hp), K.room, (fun p hp q hq => by cases hq), K.size, K.base, K.below⟩
        clear hcon
        go_upto_region 11 with fail
        refine wp_region_list ?_
        have hlt4 := (K.rows _ List.mem_cons_self).2
        have hs4 := K.size
        refine callL rfl (fun _ => by kernel_rfl) (refRows_any _) ?_
        rintro e w8 ⟨O, bs, rfl, ⟨hO1, hbs, hSG⟩, l⟩
        replace K := K.call l
        clear l
        refine ⟨_, rfl, ?_⟩
        simp only [Act.put, List.setIfInBounds_toArray, List.set_cons_zero, List.set_cons_succ]
        refine pureL (.slice (some ⟨O, 0, none⟩) 10 10) rfl (fun _ => by kernel_rfl) ?_
        simp only [Act.put, List.setIfInBounds_toArray, List.set_cons_zero, List.set_cons_succ]
        have P0 : PI z w X M O bs (bst h t true) w8 := ⟨K.get _ _ _ _ List.mem_cons_self, K.get _ _ _ _ (List.mem_cons_of_mem _ List.mem_cons_self), hSG, Nat.lt_of_lt_of_le (K.rows _ List.mem_cons_self).2 K.size, Nat.lt_of_lt_of_le (K.rows _ (List.mem_cons_of_mem _ List.mem_cons_self)).2 K.size, K.below⟩
        have hXO : X < O := by simp only at hlt4; omega
        have hXb : ∀ r, r < 10 → X < bs r := fun r hr => by have := hbs r hr; simp only at hlt4; omega
        have hst := bst_in h t true hh
        clear K hSG hbs hO1 hlt4 hs4
        show Exit.then _ _ _ _ _
        go_wp2
        go_loopw [13] (fun i w' => ∃ r : Nat, r ≤ 10 ∧ i = .int .i64 r ∧ PI z w X M O bs (bR (bpw z) (bst h t true) r) w') (fun i _ => 10 - (intOf i).toNat)
        case atStart => exact ⟨0, by omega, rfl, P0⟩
        case round =>
          clear P0
          obtain ⟨r, hr, rfl, P⟩ := hrel
          have g1 : (0 : Int) ≤ (r : Int) := by omega
          by_cases hlt : r < 10
          · have g2 : (r : Int) < 10 := by omega
            have hin := bR_in (bpw z) _ hst r
            go_upto_region 15 with fail
            refine wp_region_list ?_
            refine pureL (.slice (some ⟨O, 0, none⟩) 10 10) rfl (fun _ => by kernel_rfl) ?_
            simp only [Act.put, List.setIfInBounds_toArray, List.set_cons_zero, List.set_cons_succ]
            refine pureL (.int .i64 (r : Int)) rfl (fun _ => by kernel_rfl) ?_
            simp only [Act.put, List.setIfInBounds_toArray, List.set_cons_zero, List.set_cons_succ]
            refine pureL (.pointer (some ⟨O, r, none⟩)) rfl (fun w' => idxII O r hlt w' _ _ rfl rfl rfl) ?_
            simp only [Act.put, List.setIfInBounds_toArray, List.set_cons_zero, List.set_cons_succ]
            refine readL (.slice (some ⟨bs r, 0, none⟩) 16 16) rfl (bloadSl 72 3 _ ⟨O, r, none⟩ _ rfl rfl Tryd.underlying72 (P.sg.top r hlt)) ?_
            simp only [Act.put, List.setIfInBounds_toArray, List.set_cons_zero, List.set_cons_succ]
            refine pureL (.slice (some ⟨bs r, 0, none⟩) 16 16) rfl (fun _ => by kernel_rfl) ?_
            simp only [Act.put, List.setIfInBounds_toArray, List.set_cons_zero, List.set_cons_succ]
            show Exit.then _ _ _ _ _
            go_wp2
            go_loopw [15] (fun i w' => ∃ q : Nat, q ≤ 4 ∧ i = .int .i64 q ∧ PI z w X M O bs (bN (bpw z) (sg r) (bR (bpw z) (bst h t true) r) q) w') (fun i _ => 4 - (intOf i).toNat)
            case atStart => exact ⟨0, by omega, rfl, P⟩
            case round =>
              clear P
              obtain ⟨q, hq, rfl, P⟩ := hrel
              have g3 : (0 : Int) ≤ (q : Int) := by omega
              by_cases hlt2 : q < 4
              · have g4 : (q : Int) < 4 := by omega
                have hin2 := bN_in (bpw z) (sg r) _ hin (q)
                go_upto_region 19 with fail
                replace P := P.drew
                refine wp_region_held_drew (S := fun w' => PM z w M O bs w') (by kernel_rfl) P.pm ?_
                intro K
                generalize wr.drew = w9 at P K ⊢
                refine pureH (i := 0) (some 99) rfl (.slice (some ⟨X, 0, none⟩) 16 capX) rfl rfl (fun _ => by kernel_rfl) (by kernel_rfl) (by kernel_rfl) (by kernel_rfl) (fun _ _ _ h => h) K ?_
                simp only [Act.put, List.setIfInBounds_toArray, List.set_cons_zero, List.set_cons_succ]
                refine pureH (i := 1) (some 100) rfl (.int .i64 (q : Int)) rfl rfl (fun _ => by kernel_rfl) (by kernel_rfl) (by kernel_rfl) (by kernel_rfl) (fun _ _ _ h => h) K ?_
                simp only [Act.put, List.setIfInBounds_toArray, List.set_cons_zero, List.set_cons_succ]
                refine pureH (i := 2) (some 101) rfl (.int .i64 (q : Int)) rfl rfl (fun _ => by kernel_rfl) (by kernel_rfl) (by kernel_rfl) (by kernel_rfl) (fun _ _ _ h => h) K ?_
                simp only [Act.put, List.setIfInBounds_toArray, List.set_cons_zero, List.set_cons_succ]
                refine pureH (i := 3) (some 102) rfl (.int .i64 ((4 + q : Nat) : Int)) rfl rfl (fun w => addI .i64 _ _ _ _ _ _ _ rfl rfl rfl (by rw [IntKind.wrap_i64]; omega) w) (by kernel_rfl) (by kernel_rfl) (by kernel_rfl) (fun _ _ _ h => h) K ?_
                simp only [Act.put, List.setIfInBounds_toArray, List.set_cons_zero, List.set_cons_succ]
                refine pureH (i := 4) (some 103) rfl (.int .i64 (q : Int)) rfl rfl (fun _ => by kernel_rfl) (by kernel_rfl) (by kernel_rfl) (by kernel_rfl) (fun _ _ _ h => h) K ?_
                simp only [Act.put, List.setIfInBounds_toArray, List.set_cons_zero, List.set_cons_succ]
                refine pureH (i := 5) (some 104) rfl (.int .i64 ((8 + q : Nat) : Int)) rfl rfl (fun w => addI .i64 _ _ _ _ _ _ _ rfl rfl rfl (by rw [IntKind.wrap_i64]; omega) w) (by kernel_rfl) (by kernel_rfl) (by kernel_rfl) (fun _ _ _ h => h) K ?_
                simp only [Act.put, List.setIfInBounds_toArray, List.set_cons_zero, List.set_cons_succ]
                refine pureH (i := 6) (some 105) rfl (.int .i64 (q : Int)) rfl rfl (fun _ => by kernel_rfl) (by kernel_rfl) (by kernel_rfl) (by kernel_rfl) (fun _ _ _ h => h) K ?_
                simp only [Act.put, List.setIfInBounds_toArray, List.set_cons_zero, List.set_cons_succ]
                refine pureH (i := 7) (some 106) rfl (.int .i64 ((12 + q : Nat) : Int)) rfl rfl (fun w => addI .i64 _ _ _ _ _ _ _ rfl rfl rfl (by rw [IntKind.wrap_i64]; omega) w) (by kernel_rfl) (by kernel_rfl) (by kernel_rfl) (fun _ _ _ h => h) K ?_
                simp only [Act.put, List.setIfInBounds_toArray, List.set_cons_zero, List.set_cons_succ]
                refine pureH (i := 8) (some 107) rfl (.slice (some ⟨M, 0, none⟩) 16 capM) rfl rfl (fun _ => by kernel_rfl) (by kernel_rfl) (by kernel_rfl) (by kernel_rfl) (fun _ _ _ h => h) K ?_
                simp only [Act.put, List.setIfInBounds_toArray, List.set_cons_zero, List.set_cons_succ]
                refine pureH (i := 9) (some 108) rfl (.slice (some ⟨bs r, 0, none⟩) 16 16) rfl rfl (fun _ => by kernel_rfl) (by kernel_rfl) (by kernel_rfl) (by kernel_rfl) (fun _ _ _ h => h) K ?_
                simp only [Act.put, List.setIfInBounds_toArray, List.set_cons_zero, List.set_cons_succ]
                refine pureH (i := 10) (some 109) rfl (.int .i64 (q : Int)) rfl rfl (fun _ => by kernel_rfl) (by kernel_rfl) (by kernel_rfl) (by kernel_rfl) (fun _ _ _ h => h) K ?_
                simp only [Act.put, List.setIfInBounds_toArray, List.set_cons_zero, List.set_cons_succ]
                refine pureH (i := 11) (some 110) rfl (.int .i64 ((2 * q : Nat) : Int)) rfl rfl (fun w => mulI .i64 _ _ _ _ _ _ _ rfl rfl rfl (by rw [IntKind.wrap_i64]; omega) w) (by kernel_rfl) (by kernel_rfl) (by kernel_rfl) (fun _ _ _ h => h) K ?_
                simp only [Act.put, List.setIfInBounds_toArray, List.set_cons_zero, List.set_cons_succ]
                refine pureH (i := 12) (some 111) rfl (.pointer (some ⟨bs r, 2 * q, none⟩)) rfl rfl (fun w' => idxI (bs r) (2 * q) (by omega) w' _ _ rfl rfl rfl) (by kernel_rfl) (by kernel_rfl) (by kernel_rfl) (fun _ _ _ h => h) K ?_
                simp only [Act.put, List.setIfInBounds_toArray, List.set_cons_zero, List.set_cons_succ]
                refine cellH (i := 13) (some 112) rfl .i64 (.int .i64 ((sg r (2 * q) : Nat) : Int)) (bs r) (2 * q) 3 _ rfl rfl rfl rfl (by kernel_rfl) (by kernel_rfl) (by kernel_rfl) (fun _ _ _ h => h) Tryd.underlying3 K (fun _ h => (h.sg.rows r hlt).1.cell (2 * q) (by omega)) ?_
                simp only [Act.put, List.setIfInBounds_toArray, List.set_cons_zero, List.set_cons_succ]
                refine pureH (i := 14) (some 113) rfl (.pointer (some ⟨M, sg r (2 * q), none⟩)) rfl rfl (fun w' => idxW M 16 capM (sg r (2 * q)) (sg_lt _ _) w' _ _ rfl rfl rfl) (by kernel_rfl) (by kernel_rfl) (by kernel_rfl) (fun _ _ _ h => h) K ?_
                simp only [Act.put, List.setIfInBounds_toArray, List.set_cons_zero, List.set_cons_succ]
                refine cellH (i := 15) (some 114) rfl .u32 (.int .u32 (bpw z (sg r (2 * q)))) M (sg r (2 * q)) 42 _ rfl rfl rfl rfl (by kernel_rfl) (by kernel_rfl) (by kernel_rfl) (fun _ _ _ h => h) Tryd.underlying42 K (fun _ h => h.hm.cell (sg r (2 * q)) (sg_lt _ _)) ?_
                simp only [Act.put, List.setIfInBounds_toArray, List.set_cons_zero, List.set_cons_succ]
                refine pureH (i := 16) (some 115) rfl (.slice (some ⟨M, 0, none⟩) 16 capM) rfl rfl (fun _ => by kernel_rfl) (by kernel_rfl) (by kernel_rfl) (by kernel_rfl) (fun _ _ _ h => h) K ?_
                simp only [Act.put, List.setIfInBounds_toArray, List.set_cons_zero, List.set_cons_succ]
                refine pureH (i := 17) (some 116) rfl (.slice (some ⟨bs r, 0, none⟩) 16 16) rfl rfl (fun _ => by kernel_rfl) (by kernel_rfl) (by kernel_rfl) (by kernel_rfl) (fun _ _ _ h => h) K ?_
                simp only [Act.put, List.setIfInBounds_toArray, List.set_cons_zero, List.set_cons_succ]
                refine pureH (i := 18) (some 117) rfl (.int .i64 (q : Int)) rfl rfl (fun _ => by kernel_rfl) (by kernel_rfl) (by kernel_rfl) (by kernel_rfl) (fun _ _ _ h => h) K ?_
                simp only [Act.put, List.setIfInBounds_toArray, List.set_cons_zero, List.set_cons_succ]
                refine pureH (i := 19) (some 118) rfl (.int .i64 ((2 * q : Nat) : Int)) rfl rfl (fun w => mulI .i64 _ _ _ _ _ _ _ rfl rfl rfl (by rw [IntKind.wrap_i64]; omega) w) (by kernel_rfl) (by kernel_rfl) (by kernel_rfl) (fun _ _ _ h => h) K ?_
                simp only [Act.put, List.setIfInBounds_toArray, List.set_cons_zero, List.set_cons_succ]
                refine pureH (i := 20) (some 119) rfl (.int .i64 ((2 * q + 1 : Nat) : Int)) rfl rfl (fun w => addI .i64 _ _ _ _ _ _ _ rfl rfl rfl (by rw [IntKind.wrap_i64]; omega) w) (by kernel_rfl) (by kernel_rfl) (by kernel_rfl) (fun _ _ _ h => h) K ?_
                simp only [Act.put, List.setIfInBounds_toArray, List.set_cons_zero, List.set_cons_succ]
                refine pureH (i := 21) (some 120) rfl (.pointer (some ⟨bs r, 2 * q + 1, none⟩)) rfl rfl (fun w' => idxI (bs r) (2 * q + 1) (by omega) w' _ _ rfl rfl rfl) (by kernel_rfl) (by kernel_rfl) (by kernel_rfl) (fun _ _ _ h => h) K ?_
                simp only [Act.put, List.setIfInBounds_toArray, List.set_cons_zero, List.set_cons_succ]
                refine cellH (i := 22) (some 121) rfl .i64 (.int .i64 ((sg r (2 * q + 1) : Nat) : Int)) (bs r) (2 * q + 1) 3 _ rfl rfl rfl rfl (by kernel_rfl) (by kernel_rfl) (by kernel_rfl) (fun _ _ _ h => h) Tryd.underlying3 K (fun _ h => (h.sg.rows r hlt).1.cell (2 * q + 1) (by omega)) ?_
                simp only [Act.put, List.setIfInBounds_toArray, List.set_cons_zero, List.set_cons_succ]
                refine pureH (i := 23) (some 122) rfl (.pointer (some ⟨M, sg r (2 * q + 1), none⟩)) rfl rfl (fun w' => idxW M 16 capM (sg r (2 * q + 1)) (sg_lt _ _) w' _ _ rfl rfl rfl) (by kernel_rfl) (by kernel_rfl) (by kernel_rfl) (fun _ _ _ h => h) K ?_
                simp only [Act.put, List.setIfInBounds_toArray, List.set_cons_zero, List.set_cons_succ]
                refine cellH (i := 24) (some 123) rfl .u32 (.int .u32 (bpw z (sg r (2 * q + 1)))) M (sg r (2 * q + 1)) 42 _ rfl rfl rfl rfl (by kernel_rfl) (by kernel_rfl) (by kernel_rfl) (fun _ _ _ h => h) Tryd.underlying42 K (fun _ h => h.hm.cell (sg r (2 * q + 1)) (sg_lt _ _)) ?_
                simp only [Act.put, List.setIfInBounds_toArray, List.set_cons_zero, List.set_cons_succ]
                refine callH (i := 25) (some 124) rfl (by kernel_rfl) rfl rfl (fun _ => by kernel_rfl) (refMix_any X capX (q) (4 + q) (8 + q) (12 + q) (bpw z (sg r (2 * q))) (bpw z (sg r (2 * q + 1))) (bN (bpw z) (sg r) (bR (bpw z) (bst h t true) r) q) hin2 (by omega) (by omega) (by omega) (by omega) (by omega) (by omega) (by omega) (by omega) (by omega) (by omega) _ P.has P.lt) ?_
                rintro e w10 ⟨rfl, G⟩
                refine ⟨_, rfl, (P.mix G hX0 hXM hXO hXb).pm, ?_⟩
                simp only [Act.put, List.setIfInBounds_toArray, List.set_cons_zero, List.set_cons_succ]
                refine wpAnyH_done (by kernel_rfl) ?_ _
                rw [← at_lo (bpw z) (sg r) _ q hlt2] at G
                have HS := show Hid _ from P.mix G hX0 hXM hXO hXb
                clear P K G hin2
                go_wp2
                go_roundw
                case rel => first | exact ⟨q + 1, by omega, by go_num, HS.out⟩ | ((repeat apply Exists.intro); refine ⟨⟨q + 1, by omega, by go_num, HS.out⟩, rfl⟩)
                case measure => simp [intOf]; omega
              · obtain rfl : q = 4 := by omega
                clear hlt2 hq g3
                go_wp2
                go_loopw [16] (fun i w' => ∃ q : Nat, q ≤ 4 ∧ i = .int .i64 q ∧ PI z w X M O bs (bN (bpw z) (sg r) (bR (bpw z) (bst h t true) r) (4 + q)) w') (fun i _ => 4 - (intOf i).toNat)
                case atStart => exact ⟨0, by omega, rfl, P⟩
                case round =>
                  clear P
                  obtain ⟨q, hq, rfl, P⟩ := hrel
                  have g3 : (0 : Int) ≤ (q : Int) := by omega
                  by_cases hlt2 : q < 4
                  · have g4 : (q : Int) < 4 := by omega
                    have hin2 := bN_in (bpw z) (sg r) _ hin ((4 + q))
                    go_upto_region 23 with fail
                    replace P := P.drew
                    refine wp_region_held_drew (S := fun w' => PM z w M O bs w') (by kernel_rfl) P.pm ?_
                    intro K
                    generalize wr.drew = w9 at P K ⊢
                    refine pureH (i := 0) (some 129) rfl (.slice (some ⟨X, 0, none⟩) 16 capX) rfl rfl (fun _ => by kernel_rfl) (by kernel_rfl) (by kernel_rfl) (by kernel_rfl) (fun _ _ _ h => h) K ?_
                    simp only [Act.put, List.setIfInBounds_toArray, List.set_cons_zero, List.set_cons_succ]
                    refine pureH (i := 1) (some 130) rfl (.int .i64 (q : Int)) rfl rfl (fun _ => by kernel_rfl) (by kernel_rfl) (by kernel_rfl) (by kernel_rfl) (fun _ _ _ h => h) K ?_
                    simp only [Act.put, List.setIfInBounds_toArray, List.set_cons_zero, List.set_cons_succ]
                    refine pureH (i := 2) (some 131) rfl (.int .i64 (q : Int)) rfl rfl (fun _ => by kernel_rfl) (by kernel_rfl) (by kernel_rfl) (by kernel_rfl) (fun _ _ _ h => h) K ?_
                    simp only [Act.put, List.setIfInBounds_toArray, List.set_cons_zero, List.set_cons_succ]
                    refine pureH (i := 3) (some 132) rfl (.int .i64 ((q + 1 : Nat) : Int)) rfl rfl (fun w => addI .i64 _ _ _ _ _ _ _ rfl rfl rfl (by rw [IntKind.wrap_i64]; omega) w) (by kernel_rfl) (by kernel_rfl) (by kernel_rfl) (fun _ _ _ h => h) K ?_
                    simp only [Act.put, List.setIfInBounds_toArray, List.set_cons_zero, List.set_cons_succ]
                    refine pureH (i := 4) (some 133) rfl (.int .i64 (((q + 1) % 4 : Nat) : Int)) rfl rfl (fun w => remI .i64 _ _ _ _ _ _ _ rfl rfl rfl (by decide) (by rw [Int.tmod_eq_emod_of_nonneg (by omega)]; omega) w) (by kernel_rfl) (by kernel_rfl) (by kernel_rfl) (fun _ _ _ h => h) K ?_
                    simp only [Act.put, List.setIfInBounds_toArray, List.set_cons_zero, List.set_cons_succ]
                    refine pureH (i := 5) (some 134) rfl (.int .i64 ((4 + (q + 1) % 4 : Nat) : Int)) rfl rfl (fun w => addI .i64 _ _ _ _ _ _ _ rfl rfl rfl (by rw [IntKind.wrap_i64]; omega) w) (by kernel_rfl) (by kernel_rfl) (by kernel_rfl) (fun _ _ _ h => h) K ?_
                    simp only [Act.put, List.setIfInBounds_toArray, List.set_cons_zero, List.set_cons_succ]
                    refine pureH (i := 6) (some 135) rfl (.int .i64 (q : Int)) rfl rfl (fun _ => by kernel_rfl) (by kernel_rfl) (by kernel_rfl) (by kernel_rfl) (fun _ _ _ h => h) K ?_
                    simp only [Act.put, List.setIfInBounds_toArray, List.set_cons_zero, List.set_cons_succ]
                    refine pureH (i := 7) (some 136) rfl (.int .i64 ((q + 2 : Nat) : Int)) rfl rfl (fun w => addI .i64 _ _ _ _ _ _ _ rfl rfl rfl (by rw [IntKind.wrap_i64]; omega) w) (by kernel_rfl) (by kernel_rfl) (by kernel_rfl) (fun _ _ _ h => h) K ?_
                    simp only [Act.put, List.setIfInBounds_toArray, List.set_cons_zero, List.set_cons_succ]
                    refine pureH (i := 8) (some 137) rfl (.int .i64 (((q + 2) % 4 : Nat) : Int)) rfl rfl (fun w => remI .i64 _ _ _ _ _ _ _ rfl rfl rfl (by decide) (by rw [Int.tmod_eq_emod_of_nonneg (by omega)]; omega) w) (by kernel_rfl) (by kernel_rfl) (by kernel_rfl) (fun _ _ _ h => h) K ?_
                    simp only [Act.put, List.setIfInBounds_toArray, List.set_cons_zero, List.set_cons_succ]
                    refine pureH (i := 9) (some 138) rfl (.int .i64 ((8 + (q + 2) % 4 : Nat) : Int)) rfl rfl (fun w => addI .i64 _ _ _ _ _ _ _ rfl rfl rfl (by rw [IntKind.wrap_i64]; omega) w) (by kernel_rfl) (by kernel_rfl) (by kernel_rfl) (fun _ _ _ h => h) K ?_
                    simp only [Act.put, List.setIfInBounds_toArray, List.set_cons_zero, List.set_cons_succ]
                    refine pureH (i := 10) (some 139) rfl (.int .i64 (q : Int)) rfl rfl (fun _ => by kernel_rfl) (by kernel_rfl) (by kernel_rfl) (by kernel_rfl) (fun _ _ _ h => h) K ?_
                    simp only [Act.put, List.setIfInBounds_toArray, List.set_cons_zero, List.set_cons_succ]
                    refine pureH (i := 11) (some 140) rfl (.int .i64 ((q + 3 : Nat) : Int)) rfl rfl (fun w => addI .i64 _ _ _ _ _ _ _ rfl rfl rfl (by rw [IntKind.wrap_i64]; omega) w) (by kernel_rfl) (by kernel_rfl) (by kernel_rfl) (fun _ _ _ h => h) K ?_
                    simp only [Act.put, List.setIfInBounds_toArray, List.set_cons_zero, List.set_cons_succ]
                    refine pureH (i := 12) (some 141) rfl (.int .i64 (((q + 3) % 4 : Nat) : Int)) rfl rfl (fun w => remI .i64 _ _ _ _ _ _ _ rfl rfl rfl (by decide) (by rw [Int.tmod_eq_emod_of_nonneg (by omega)]; omega) w) (by kernel_rfl) (by kernel_rfl) (by kernel_rfl) (fun _ _ _ h => h) K ?_
                    simp only [Act.put, List.setIfInBounds_toArray, List.set_cons_zero, List.set_cons_succ]
                    refine pureH (i := 13) (some 142) rfl (.int .i64 ((12 + (q + 3) % 4 : Nat) : Int)) rfl rfl (fun w => addI .i64 _ _ _ _ _ _ _ rfl rfl rfl (by rw [IntKind.wrap_i64]; omega) w) (by kernel_rfl) (by kernel_rfl) (by kernel_rfl) (fun _ _ _ h => h) K ?_
                    simp only [Act.put, List.setIfInBounds_toArray, List.set_cons_zero, List.set_cons_succ]
                    refine pureH (i := 14) (some 143) rfl (.slice (some ⟨M, 0, none⟩) 16 capM) rfl rfl (fun _ => by kernel_rfl) (by kernel_rfl) (by kernel_rfl) (by kernel_rfl) (fun _ _ _ h => h) K ?_
                    simp only [Act.put, List.setIfInBounds_toArray, List.set_cons_zero, List.set_cons_succ]
                    refine pureH (i := 15) (some 144) rfl (.slice (some ⟨bs r, 0, none⟩) 16 16) rfl rfl (fun _ => by kernel_rfl) (by kernel_rfl) (by kernel_rfl) (by kernel_rfl) (fun _ _ _ h => h) K ?_
                    simp only [Act.put, List.setIfInBounds_toArray, List.set_cons_zero, List.set_cons_succ]
                    refine pureH (i := 16) (some 145) rfl (.int .i64 (q : Int)) rfl rfl (fun _ => by kernel_rfl) (by kernel_rfl) (by kernel_rfl) (by kernel_rfl) (fun _ _ _ h => h) K ?_
                    simp only [Act.put, List.setIfInBounds_toArray, List.set_cons_zero, List.set_cons_succ]
                    refine pureH (i := 17) (some 146) rfl (.int .i64 ((2 * q : Nat) : Int)) rfl rfl (fun w => mulI .i64 _ _ _ _ _ _ _ rfl rfl rfl (by rw [IntKind.wrap_i64]; omega) w) (by kernel_rfl) (by kernel_rfl) (by kernel_rfl) (fun _ _ _ h => h) K ?_
                    simp only [Act.put, List.setIfInBounds_toArray, List.set_cons_zero, List.set_cons_succ]
                    refine pureH (i := 18) (some 147) rfl (.int .i64 ((8 + 2 * q : Nat) : Int)) rfl rfl (fun w => addI .i64 _ _ _ _ _ _ _ rfl rfl rfl (by rw [IntKind.wrap_i64]; omega) w) (by kernel_rfl) (by kernel_rfl) (by kernel_rfl) (fun _ _ _ h => h) K ?_
                    simp only [Act.put, List.setIfInBounds_toArray, List.set_cons_zero, List.set_cons_succ]
                    refine pureH (i := 19) (some 148) rfl (.pointer (some ⟨bs r, 8 + 2 * q, none⟩)) rfl rfl (fun w' => idxI (bs r) (8 + 2 * q) (by omega) w' _ _ rfl rfl rfl) (by kernel_rfl) (by kernel_rfl) (by kernel_rfl) (fun _ _ _ h => h) K ?_
                    simp only [Act.put, List.setIfInBounds_toArray, List.set_cons_zero, List.set_cons_succ]
                    refine cellH (i := 20) (some 149) rfl .i64 (.int .i64 ((sg r (8 + 2 * q) : Nat) : Int)) (bs r) (8 + 2 * q) 3 _ rfl rfl rfl rfl (by kernel_rfl) (by kernel_rfl) (by kernel_rfl) (fun _ _ _ h => h) Tryd.underlying3 K (fun _ h => (h.sg.rows r hlt).1.cell (8 + 2 * q) (by omega)) ?_
                    simp only [Act.put, List.setIfInBounds_toArray, List.set_cons_zero, List.set_cons_succ]
                    refine pureH (i := 21) (some 150) rfl (.pointer (some ⟨M, sg r (8 + 2 * q), none⟩)) rfl rfl (fun w' => idxW M 16 capM (sg r (8 + 2 * q)) (sg_lt _ _) w' _ _ rfl rfl rfl) (by kernel_rfl) (by kernel_rfl) (by kernel_rfl) (fun _ _ _ h => h) K ?_
                    simp only [Act.put, List.setIfInBounds_toArray, List.set_cons_zero, List.set_cons_succ]
                    refine cellH (i := 22) (some 151) rfl .u32 (.int .u32 (bpw z (sg r (8 + 2 * q)))) M (sg r (8 + 2 * q)) 42 _ rfl rfl rfl rfl (by kernel_rfl) (by kernel_rfl) (by kernel_rfl) (fun _ _ _ h => h) Tryd.underlying42 K (fun _ h => h.hm.cell (sg r (8 + 2 * q)) (sg_lt _ _)) ?_
                    simp only [Act.put, List.setIfInBounds_toArray, List.set_cons_zero, List.set_cons_succ]
                    refine pureH (i := 23) (some 152) rfl (.slice (some ⟨M, 0, none⟩) 16 capM) rfl rfl (fun _ => by kernel_rfl) (by kernel_rfl) (by kernel_rfl) (by kernel_rfl) (fun _ _ _ h => h) K ?_
                    simp only [Act.put, List.setIfInBounds_toArray, List.set_cons_zero, List.set_cons_succ]
                    refine pureH (i := 24) (some 153) rfl (.slice (some ⟨bs r, 0, none⟩) 16 16) rfl rfl (fun _ => by kernel_rfl) (by kernel_rfl) (by kernel_rfl) (by kernel_rfl) (fun _ _ _ h => h) K ?_
                    simp only [Act.put, List.setIfInBounds_toArray, List.set_cons_zero, List.set_cons_succ]
                    refine pureH (i := 25) (some 154) rfl (.int .i64 (q : Int)) rfl rfl (fun _ => by kernel_rfl) (by kernel_rfl) (by kernel_rfl) (by kernel_rfl) (fun _ _ _ h => h) K ?_
                    simp only [Act.put, List.setIfInBounds_toArray, List.set_cons_zero, List.set_cons_succ]
                    refine pureH (i := 26) (some 155) rfl (.int .i64 ((2 * q : Nat) : Int)) rfl rfl (fun w => mulI .i64 _ _ _ _ _ _ _ rfl rfl rfl (by rw [IntKind.wrap_i64]; omega) w) (by kernel_rfl) (by kernel_rfl) (by kernel_rfl) (fun _ _ _ h => h) K ?_
                    simp only [Act.put, List.setIfInBounds_toArray, List.set_cons_zero, List.set_cons_succ]
                    refine pureH (i := 27) (some 156) rfl (.int .i64 ((9 + 2 * q : Nat) : Int)) rfl rfl (fun w => addI .i64 _ _ _ _ _ _ _ rfl rfl rfl (by rw [IntKind.wrap_i64]; omega) w) (by kernel_rfl) (by kernel_rfl) (by kernel_rfl) (fun _ _ _ h => h) K ?_
                    simp only [Act.put, List.setIfInBounds_toArray, List.set_cons_zero, List.set_cons_succ]
                    refine pureH (i := 28) (some 157) rfl (.pointer (some ⟨bs r, 9 + 2 * q, none⟩)) rfl rfl (fun w' => idxI (bs r) (9 + 2 * q) (by omega) w' _ _ rfl rfl rfl) (by kernel_rfl) (by kernel_rfl) (by kernel_rfl) (fun _ _ _ h => h) K ?_
                    simp only [Act.put, List.setIfInBounds_toArray, List.set_cons_zero, List.set_cons_succ]
                    refine cellH (i := 29) (some 158) rfl .i64 (.int .i64 ((sg r (9 + 2 * q) : Nat) : Int)) (bs r) (9 + 2 * q) 3 _ rfl rfl rfl rfl (by kernel_rfl) (by kernel_rfl) (by kernel_rfl) (fun _ _ _ h => h) Tryd.underlying3 K (fun _ h => (h.sg.rows r hlt).1.cell (9 + 2 * q) (by omega)) ?_
                    simp only [Act.put, List.setIfInBounds_toArray, List.set_cons_zero, List.set_cons_succ]
                    refine pureH (i := 30) (some 159) rfl (.pointer (some ⟨M, sg r (9 + 2 * q), none⟩)) rfl rfl (fun w' => idxW M 16 capM (sg r (9 + 2 * q)) (sg_lt _ _) w' _ _ rfl rfl rfl) (by kernel_rfl) (by kernel_rfl) (by kernel_rfl) (fun _ _ _ h => h) K ?_
                    simp only [Act.put, List.setIfInBounds_toArray, List.set_cons_zero, List.set_cons_succ]
                    refine cellH (i := 31) (some 160) rfl .u32 (.int .u32 (bpw z (sg r (9 + 2 * q)))) M (sg r (9 + 2 * q)) 42 _ rfl rfl rfl rfl (by kernel_rfl) (by kernel_rfl) (by kernel_rfl) (fun _ _ _ h => h) Tryd.underlying42 K (fun _ h => h.hm.cell (sg r (9 + 2 * q)) (sg_lt _ _)) ?_
                    simp only [Act.put, List.setIfInBounds_toArray, List.set_cons_zero, List.set_cons_succ]
                    refine callH (i := 32) (some 161) rfl (by kernel_rfl) rfl rfl (fun _ => by kernel_rfl) (refMix_any X capX (q) (4 + (q + 1) % 4) (8 + (q + 2) % 4) (12 + (q + 3) % 4) (bpw z (sg r (8 + 2 * q))) (bpw z (sg r (9 + 2 * q))) (bN (bpw z) (sg r) (bR (bpw z) (bst h t true) r) (4 + q)) hin2 (by omega) (by omega) (by omega) (by omega) (by omega) (by omega) (by omega) (by omega) (by omega) (by omega) _ P.has P.lt) ?_
                    rintro e w10 ⟨rfl, G⟩
                    refine ⟨_, rfl, (P.mix G hX0 hXM hXO hXb).pm, ?_⟩
                    simp only [Act.put, List.setIfInBounds_toArray, List.set_cons_zero, List.set_cons_succ]
                    refine wpAnyH_done (by kernel_rfl) ?_ _
                    rw [← at_hi (bpw z) (sg r) _ q hlt2] at G
                    have HS := show Hid _ from P.mix G hX0 hXM hXO hXb
                    clear P K G hin2
                    go_wp2
                    go_roundw
                    case rel => first | exact ⟨q + 1, by omega, by go_num, HS.out⟩ | ((repeat apply Exists.intro); refine ⟨⟨q + 1, by omega, by go_num, HS.out⟩, rfl⟩)
                    case measure => simp [intOf]; omega
                  · obtain rfl : q = 4 := by omega
                    have HS := show Hid (PI z w X M O bs (bR (bpw z) (bst h t true) (r + 1)) wr) from P
                    clear P hlt2 hq g3
                    go_wp2
                    go_roundw
                    case rel => first | exact ⟨r + 1, by omega, by go_num, HS.out⟩ | ((repeat apply Exists.intro); refine ⟨⟨r + 1, by omega, by go_num, HS.out⟩, rfl⟩)
                    case measure => simp [intOf]; omega
          · obtain rfl : r = 10 := by omega
            clear hlt hr g1 hXM hXO hXb
            have hbp : ∀ n, hxr (hxr (h n) (bR (bpw z) (bst h t true) 10 n)) (bR (bpw z) (bst h t true) 10 (n + 8)) = bpr h z t true n := fun _ => rfl
            generalize bR (bpw z) (bst h t true) 10 = F at P hbp
            generalize hG : bpr h z t true = G at hbp
            replace hG := show Hid _ from hG
            have K : Kr w wr.heap.size [(X, .u32, 16, F)] [] wr := ⟨fun p hp => by obtain rfl := List.mem_singleton.1 hp; exact ⟨P.has, P.lt⟩, fun _ h => (by cases h), fun _ _ _ h => (by cases h), Nat.le_refl _, P.below.size, P.below⟩
            clear P hst
            go_upto_region 24 with fail
            refine wp_region_list ?_
            refine actL (w' := wr.alloc (.cells #[] 42)) (.slice (some ⟨wr.heap.size, 0, none⟩) 0 0) rfl (by kernel_rfl) ?_
            simp only [Act.put, List.setIfInBounds_toArray, List.set_cons_zero, List.set_cons_succ]
            refine pureL (.slice (some ⟨wr.heap.size, 0, none⟩) 0 0) rfl (fun _ => by kernel_rfl) ?_
            simp only [Act.put, List.setIfInBounds_toArray, List.set_cons_zero, List.set_cons_succ]
            replace K := K.call ((Below.refl wr.heap.size wr).alloc (Nat.le_refl _) (.cells #[] 42))
            have HO : Own (wr.alloc (.cells #[] 42)) wr.heap.size 42 .u32 0 G (.slice (some ⟨wr.heap.size, 0, none⟩) 0 0) := Own.lit wr wr.heap.size 42 .u32 0 G (Nat.le_refl _) (by unfold maxLen; omega)
            generalize wr.alloc (.cells #[] 42) = w11 at K HO ⊢
            generalize Value.slice (some ⟨wr.heap.size, 0, none⟩) 0 0 = ov0 at HO ⊢
            generalize wr.heap.size = B at K HO
            show Exit.then _ _ _ _ _
            go_wp2
            go_loopw [17, 18] (fun ow i w' => ∃ (n : Nat) (ov : Value), n ≤ 8 ∧ i = .int .i64 (n : Int) ∧ ov = ow ∧ Own w' B 42 .u32 n G ov ∧ Kr w B [(X, .u32, 16, F)] [] w') (fun _ i _ => 8 - (intOf i).toNat)
            case atStart => exact ⟨0, _, by omega, rfl, rfl, HO, K⟩
            case round =>
              clear K HO
              obtain ⟨n, ov, hn, rfl, rfl, HO, K⟩ := hrel
              have g1 : (0 : Int) ≤ (n : Int) := by omega
              by_cases hlt : n < 8
              · have g2 : (n : Int) < 8 := by omega
                go_upto_region 28 with fail
                refine wp_region_held_drew (S := fun w' => Kr w B [(X, .u32, 16, F)] [] w') (by kernel_rfl) K.drew ?_
                clear K
                intro K
                replace HO := HO.drew
                generalize wr.drew = w12 at K HO ⊢
                refine pureH (i := 0) (some 167) rfl ov rfl rfl (fun _ => by kernel_rfl) (by kernel_rfl) (by kernel_rfl) (by kernel_rfl) (fun _ _ _ h => h) K ?_
                simp only [Act.put, List.setIfInBounds_toArray, List.set_cons_zero, List.set_cons_succ]
                refine pureH (i := 1) (some 168) rfl (.slice (some ⟨A, 0, none⟩) 8 capA) rfl rfl (fun _ => by kernel_rfl) (by kernel_rfl) (by kernel_rfl) (by kernel_rfl) (fun _ _ _ h => h) K ?_
                simp only [Act.put, List.setIfInBounds_toArray, List.set_cons_zero, List.set_cons_succ]
                refine pureH (i := 2) (some 169) rfl (.int .i64 (n : Int)) rfl rfl (fun _ => by kernel_rfl) (by kernel_rfl) (by kernel_rfl) (by kernel_rfl) (fun _ _ _ h => h) K ?_
                simp only [Act.put, List.setIfInBounds_toArray, List.set_cons_zero, List.set_cons_succ]
                refine pureH (i := 3) (some 170) rfl (.pointer (some ⟨A, n, none⟩)) rfl rfl (fun w' => idxW A 8 capA n hlt w' _ _ rfl rfl rfl) (by kernel_rfl) (by kernel_rfl) (by kernel_rfl) (fun _ _ _ h => h) K ?_
                simp only [Act.put, List.setIfInBounds_toArray, List.set_cons_zero, List.set_cons_succ]
                refine cellH (i := 4) (some 171) rfl .u32 (.int .u32 (h n)) A n 42 _ rfl rfl rfl rfl (by kernel_rfl) (by kernel_rfl) (by kernel_rfl) (fun _ _ _ h => h) Tryd.underlying42 K (fun _ h => (hA.below h.below hAl).cell n hlt) ?_
                simp only [Act.put, List.setIfInBounds_toArray, List.set_cons_zero, List.set_cons_succ]
                refine pureH (i := 5) (some 172) rfl (.slice (some ⟨X, 0, none⟩) 16 capX) rfl rfl (fun _ => by kernel_rfl) (by kernel_rfl) (by kernel_rfl) (by kernel_rfl) (fun _ _ _ h => h) K ?_
                simp only [Act.put, List.setIfInBounds_toArray, List.set_cons_zero, List.set_cons_succ]
                refine pureH (i := 6) (some 173) rfl (.int .i64 (n : Int)) rfl rfl (fun _ => by kernel_rfl) (by kernel_rfl) (by kernel_rfl) (by kernel_rfl) (fun _ _ _ h => h) K ?_
                simp only [Act.put, List.setIfInBounds_toArray, List.set_cons_zero, List.set_cons_succ]
                refine pureH (i := 7) (some 174) rfl (.pointer (some ⟨X, n, none⟩)) rfl rfl (fun w' => idxW X 16 capX n (by omega) w' _ _ rfl rfl rfl) (by kernel_rfl) (by kernel_rfl) (by kernel_rfl) (fun _ _ _ h => h) K ?_
                simp only [Act.put, List.setIfInBounds_toArray, List.set_cons_zero, List.set_cons_succ]
                refine cellH (i := 8) (some 175) rfl .u32 (.int .u32 (F n)) X n 42 _ rfl rfl rfl rfl (by kernel_rfl) (by kernel_rfl) (by kernel_rfl) (fun _ _ _ h => h) Tryd.underlying42 K (fun _ h => (h.get _ _ _ _ List.mem_cons_self).cell n (by omega)) ?_
                simp only [Act.put, List.setIfInBounds_toArray, List.set_cons_zero, List.set_cons_succ]
                refine pureH (i := 9) (some 176) rfl (.int .u32 (hxr (h n) (F n))) rfl rfl (fun w => xorI .u32 _ _ _ _ _ _ _ rfl rfl rfl rfl w) (by kernel_rfl) (by kernel_rfl) (by kernel_rfl) (fun _ _ _ h => h) K ?_
                simp only [Act.put, List.setIfInBounds_toArray, List.set_cons_zero, List.set_cons_succ]
                refine pureH (i := 10) (some 177) rfl (.slice (some ⟨X, 0, none⟩) 16 capX) rfl rfl (fun _ => by kernel_rfl) (by kernel_rfl) (by kernel_rfl) (by kernel_rfl) (fun _ _ _ h => h) K ?_
                simp only [Act.put, List.setIfInBounds_toArray, List.set_cons_zero, List.set_cons_succ]
                refine pureH (i := 11) (some 178) rfl (.int .i64 (n : Int)) rfl rfl (fun _ => by kernel_rfl) (by kernel_rfl) (by kernel_rfl) (by kernel_rfl) (fun _ _ _ h => h) K ?_
                simp only [Act.put, List.setIfInBounds_toArray, List.set_cons_zero, List.set_cons_succ]
                refine pureH (i := 12) (some 179) rfl (.int .i64 ((n + 8 : Nat) : Int)) rfl rfl (fun w => addI .i64 _ _ _ _ _ _ _ rfl rfl rfl (by rw [IntKind.wrap_i64]; omega) w) (by kernel_rfl) (by kernel_rfl) (by kernel_rfl) (fun _ _ _ h => h) K ?_
                simp only [Act.put, List.setIfInBounds_toArray, List.set_cons_zero, List.set_cons_succ]
                refine pureH (i := 13) (some 180) rfl (.pointer (some ⟨X, n + 8, none⟩)) rfl rfl (fun w' => idxW X 16 capX (n + 8) (by omega) w' _ _ rfl rfl rfl) (by kernel_rfl) (by kernel_rfl) (by kernel_rfl) (fun _ _ _ h => h) K ?_
                simp only [Act.put, List.setIfInBounds_toArray, List.set_cons_zero, List.set_cons_succ]
                refine cellH (i := 14) (some 181) rfl .u32 (.int .u32 (F (n + 8))) X (n + 8) 42 _ rfl rfl rfl rfl (by kernel_rfl) (by kernel_rfl) (by kernel_rfl) (fun _ _ _ h => h) Tryd.underlying42 K (fun _ h => (h.get _ _ _ _ List.mem_cons_self).cell (n + 8) (by omega)) ?_
                simp only [Act.put, List.setIfInBounds_toArray, List.set_cons_zero, List.set_cons_succ]
                refine pureH (i := 15) (some 182) rfl (.int .u32 (G n)) rfl rfl (fun w => xorI .u32 _ _ _ _ _ _ _ rfl rfl rfl (hbp n) w) (by kernel_rfl) (by kernel_rfl) (by kernel_rfl) (fun _ _ _ h => h) K ?_
                simp only [Act.put, List.setIfInBounds_toArray, List.set_cons_zero, List.set_cons_succ]
                have hb1 := K.call ((Below.refl w12.heap.size w12).alloc (Nat.le_refl _) (.cells #[.int .u32 (G n)] 42))
                refine actH (i := 16) (w' := w12.alloc (.cells #[.int .u32 (G n)] 42)) (some 183) rfl (.slice (some ⟨w12.heap.size, 0, none⟩) 1 1) (by kernel_rfl) rfl rfl (by kernel_rfl) hb1 ?_
                simp only [Act.put, List.setIfInBounds_toArray, List.set_cons_zero, List.set_cons_succ]
                obtain ⟨v, w13, hr, ho, hg⟩ := HO.more32 (by omega) (G n) rfl 58 K.size
                have hb2 := hb1.grown hg (fun b hb => (World.ownsRow.lt HO b hb).1)
                refine actH (i := 17) (some 184) rfl v (by kernel_rfl) rfl rfl (appendOp _ _ 58 _ _ _ rfl rfl rfl hr) hb2 ?_
                simp only [Act.put, List.setIfInBounds_toArray, List.set_cons_zero, List.set_cons_succ]
                refine pureH (i := 18) (some 17) rfl v rfl rfl (fun _ => by kernel_rfl) (by kernel_rfl) (by kernel_rfl) (by kernel_rfl) (fun _ _ _ h => h) hb2 ?_
                simp only [Act.put, List.setIfInBounds_toArray, List.set_cons_zero, List.set_cons_succ]
                refine wpAnyH_done (by kernel_rfl) ?_ _
                have HS := show Hid _ from (And.intro ho hb2)
                clear K HO hr ho hg hb1 hb2
                go_wp2
                go_roundw
                case rel => first | exact ⟨n + 1, v, by omega, by go_num, rfl, HS.out⟩ | ((repeat apply Exists.intro); refine ⟨⟨n + 1, v, by omega, by go_num, rfl, HS.out⟩, rfl⟩)
                case measure => simp [intOf]; omega
              · obtain rfl : n = 8 := by omega
                obtain ⟨O2, capO, rfl, hO1, hO2, HH⟩ := HO.has (by omega)
                have hB := K.below
                have hBB := K.base
                clear K HO hlt hn g1
                go_wp2
                go_ret
                exact ⟨O2, capO, rfl, ⟨by omega, hO2, by rw [hG.out]; exact HH⟩, hB⟩
end Go.Proofs.YtcdbkbcfjdpdoaaDoor
