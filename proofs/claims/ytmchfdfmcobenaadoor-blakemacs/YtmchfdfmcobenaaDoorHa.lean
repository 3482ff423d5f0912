/- Words of 32 bits: sums, XOR, turns; a quarter round, a double round, a block: plain facts on numbers. -/
import Derived.Test.YtmchfdfmcobenaaDoorPt
import Derived.Laws.BitsAllLaws
namespace Go.Proofs.YtmchfdfmcobenaaDoor
open Go.RowKit

/-- A word's bound, at 32 bits. -/
abbrev V : Int := 4294967296
def had (x y : Int) : Int := (x + y) % 4294967296
def hxr (x y : Int) : Int := bits .xor .u32 x y
def hrl (n : Nat) (x : Int) : Int := bits .or .u32 (x * 2 ^ n % 4294967296) (x / 2 ^ (32 - n))
theorem had_eq (x y : Int) : had x y = (x + y) % 4294967296 := rfl
theorem had_in (x y : Int) : 0 ≤ had x y ∧ had x y < V := by rw [had_eq]; simp only [V]; omega
theorem hxr_in (x y : Int) (hx : 0 ≤ x ∧ x < V) (hy : 0 ≤ y ∧ y < V) : 0 ≤ hxr x y ∧ hxr x y < V := by
  obtain ⟨x, rfl⟩ := Int.eq_ofNat_of_zero_le hx.1
  obtain ⟨y, rfl⟩ := Int.eq_ofNat_of_zero_le hy.1
  have h := Nat.xor_lt_two_pow (n := 32) (show x < 2 ^ 32 by have := hx.2; simp only [V] at this; omega) (show y < 2 ^ 32 by have := hy.2; simp only [V] at this; omega)
  unfold hxr
  rw [u32_xor_nat x y (by have := hx.2; simp only [V] at this; omega) (by have := hy.2; simp only [V] at this; omega)]
  simp only [V]
  omega
theorem hrl_in (n : Nat) (x : Int) (hx : 0 ≤ x ∧ x < V) : 0 ≤ hrl n x ∧ hrl n x < V := by
  obtain ⟨x, rfl⟩ := Int.eq_ofNat_of_zero_le hx.1
  have hx2 : x < 4294967296 := by have := hx.2; simp only [V] at this; omega
  unfold hrl
  have e1 : (x : Int) * 2 ^ n % 4294967296 = ((x * 2 ^ n % 4294967296 : Nat) : Int) := by rw [Int.natCast_emod, Int.natCast_mul, Int.natCast_pow]; rfl
  have e2 : (x : Int) / 2 ^ (32 - n) = ((x / 2 ^ (32 - n) : Nat) : Int) := by rw [Int.natCast_ediv, Int.natCast_pow]; rfl
  have i1 : x * 2 ^ n % 4294967296 < 4294967296 := Nat.mod_lt _ (by decide)
  have i2 : x / 2 ^ (32 - n) < 4294967296 := Nat.lt_of_le_of_lt (Nat.div_le_self _ _) hx2
  rw [e1, e2, u32_or_nat _ _ i1 i2]
  have h := Nat.or_lt_two_pow (n := 32) i1 i2
  simp only [V]
  omega

/-- Half a quarter round. -/
def hA (a b : Int) : Int := had a b
def hD (p : Nat) (a b d : Int) : Int := hrl p (hxr d (had a b))
def hC (p : Nat) (a b c d : Int) : Int := had c (hD p a b d)
def hB (p q : Nat) (a b c d : Int) : Int := hrl q (hxr b (hC p a b c d))
/-- A quarter round. -/
def qA (a b c d : Int) : Int := hA (hA a b) (hB 16 12 a b c d)
def qB (a b c d : Int) : Int := hB 8 7 (hA a b) (hB 16 12 a b c d) (hC 16 a b c d) (hD 16 a b d)
def qC (a b c d : Int) : Int := hC 8 (hA a b) (hB 16 12 a b c d) (hC 16 a b c d) (hD 16 a b d)
def qD (a b c d : Int) : Int := hD 8 (hA a b) (hB 16 12 a b c d) (hD 16 a b d)
theorem hA_in (a b : Int) : 0 ≤ hA a b ∧ hA a b < V := had_in _ _
theorem hD_in (p : Nat) (a b d : Int) (hd : 0 ≤ d ∧ d < V) : 0 ≤ hD p a b d ∧ hD p a b d < V := hrl_in _ _ (hxr_in _ _ hd (had_in _ _))
theorem hC_in (p : Nat) (a b c d : Int) : 0 ≤ hC p a b c d ∧ hC p a b c d < V := had_in _ _
theorem hB_in (p q : Nat) (a b c d : Int) (hb : 0 ≤ b ∧ b < V) : 0 ≤ hB p q a b c d ∧ hB p q a b c d < V := hrl_in _ _ (hxr_in _ _ hb (had_in _ _))
theorem qA_in (a b c d : Int) : 0 ≤ qA a b c d ∧ qA a b c d < V := hA_in _ _
theorem qB_in (a b c d : Int) (hb : 0 ≤ b ∧ b < V) : 0 ≤ qB a b c d ∧ qB a b c d < V := hB_in _ _ _ _ _ _ (hB_in _ _ _ _ _ _ hb)
theorem qC_in (a b c d : Int) : 0 ≤ qC a b c d ∧ qC a b c d < V := hC_in _ _ _ _ _
theorem qD_in (a b c d : Int) (hd : 0 ≤ d ∧ d < V) : 0 ≤ qD a b c d ∧ qD a b c d < V := hD_in _ _ _ _ (hD_in _ _ _ _ hd)

/-- Four words. -/
def quad (a b c d : Int) : Nat → Int
  | 0 => a
  | 1 => b
  | 2 => c
  | 3 => d
  | _ + 4 => 0
theorem quad_in {M a b c d : Int} (ha : 0 ≤ a ∧ a < M) (hb : 0 ≤ b ∧ b < M) (hc : 0 ≤ c ∧ c < M) (hd : 0 ≤ d ∧ d < M) : In M 4 (quad a b c d)
  | 0, _ => ha
  | 1, _ => hb
  | 2, _ => hc
  | 3, _ => hd
  | _ + 4, h => by omega
def hqt (x : Nat → Int) : Nat → Int := quad (qA (x 0) (x 1) (x 2) (x 3)) (qB (x 0) (x 1) (x 2) (x 3)) (qC (x 0) (x 1) (x 2) (x 3)) (qD (x 0) (x 1) (x 2) (x 3))
theorem hqt_in (x : Nat → Int) (h : In V 4 x) : In V 4 (hqt x) := quad_in (qA_in _ _ _ _) (qB_in _ _ _ _ (h 1 (by omega))) (qC_in _ _ _ _) (qD_in _ _ _ _ (h 3 (by omega)))

/-- The words that a double round turns together. -/
def pA (i : Nat) : Nat := i % 4
def pB (i : Nat) : Nat := 4 + (i + i / 4) % 4
def pC (i : Nat) : Nat := 8 + (i + 2 * (i / 4)) % 4
def pD (i : Nat) : Nat := 12 + (i + 3 * (i / 4)) % 4
def tAt (s : Nat → Int) (i : Nat) : Nat → Int :=
  upd (upd (upd (upd s (pA i) (qA (s (pA i)) (s (pB i)) (s (pC i)) (s (pD i)))) (pB i) (qB (s (pA i)) (s (pB i)) (s (pC i)) (s (pD i)))) (pC i) (qC (s (pA i)) (s (pB i)) (s (pC i)) (s (pD i)))) (pD i) (qD (s (pA i)) (s (pB i)) (s (pC i)) (s (pD i)))
theorem pA_lt (i : Nat) : pA i < 4 := Nat.mod_lt _ (by decide)
theorem pB_lt (i : Nat) : pB i < 8 := by have := Nat.mod_lt (i + i / 4) (show 4 > 0 by decide); unfold pB; omega
theorem pC_lt (i : Nat) : pC i < 12 := by have := Nat.mod_lt (i + 2 * (i / 4)) (show 4 > 0 by decide); unfold pC; omega
theorem pD_lt (i : Nat) : pD i < 16 := by have := Nat.mod_lt (i + 3 * (i / 4)) (show 4 > 0 by decide); unfold pD; omega
theorem tAt_in (s : Nat → Int) (i : Nat) (h : In V 16 s) : In V 16 (tAt s i) := by
  have a := pA_lt i
  have b := pB_lt i
  have c := pC_lt i
  have d := pD_lt i
  have e1 := qA_in (s (pA i)) (s (pB i)) (s (pC i)) (s (pD i))
  have e2 := qB_in (s (pA i)) (s (pB i)) (s (pC i)) (s (pD i)) (h _ (by omega))
  have e3 := qC_in (s (pA i)) (s (pB i)) (s (pC i)) (s (pD i))
  have e4 := qD_in (s (pA i)) (s (pB i)) (s (pC i)) (s (pD i)) (h _ (by omega))
  exact (((h.upd _ _ e1.1 e1.2).upd _ _ e2.1 e2.2).upd _ _ e3.1 e3.2).upd _ _ e4.1 e4.2
def tN (s : Nat → Int) : Nat → Nat → Int
  | 0 => s
  | i + 1 => tAt (tN s i) i
theorem tN_in (s : Nat → Int) (h : In V 16 s) : ∀ i, In V 16 (tN s i)
  | 0 => h
  | i + 1 => tAt_in _ _ (tN_in s h i)
def drN (s : Nat → Int) : Nat → Nat → Int
  | 0 => s
  | n + 1 => tN (drN s n) 8
theorem drN_in (s : Nat → Int) (h : In V 16 s) : ∀ n, In V 16 (drN s n)
  | 0 => h
  | n + 1 => tN_in _ (drN_in s h n) 8
theorem drN_first (s : Nat → Int) : ∀ n, drN s (n + 1) = drN (tN s 8) n
  | 0 => rfl
  | n + 1 => by
    show tN (drN s (n + 1)) 8 = tN (drN (tN s 8) n) 8
    rw [drN_first s n]

/-- Sixteen words. -/
def six (x0 x1 x2 x3 x4 x5 x6 x7 x8 x9 x10 x11 x12 x13 x14 x15 : Int) : Nat → Int
  | 0 => x0
  | 1 => x1
  | 2 => x2
  | 3 => x3
  | 4 => x4
  | 5 => x5
  | 6 => x6
  | 7 => x7
  | 8 => x8
  | 9 => x9
  | 10 => x10
  | 11 => x11
  | 12 => x12
  | 13 => x13
  | 14 => x14
  | 15 => x15
  | _ + 16 => 0
theorem six_in {M : Int} (x0 x1 x2 x3 x4 x5 x6 x7 x8 x9 x10 x11 x12 x13 x14 x15 : Int) (h0 : 0 ≤ x0 ∧ x0 < M) (h1 : 0 ≤ x1 ∧ x1 < M) (h2 : 0 ≤ x2 ∧ x2 < M) (h3 : 0 ≤ x3 ∧ x3 < M) (h4 : 0 ≤ x4 ∧ x4 < M) (h5 : 0 ≤ x5 ∧ x5 < M) (h6 : 0 ≤ x6 ∧ x6 < M) (h7 : 0 ≤ x7 ∧ x7 < M) (h8 : 0 ≤ x8 ∧ x8 < M) (h9 : 0 ≤ x9 ∧ x9 < M) (h10 : 0 ≤ x10 ∧ x10 < M) (h11 : 0 ≤ x11 ∧ x11 < M) (h12 : 0 ≤ x12 ∧ x12 < M) (h13 : 0 ≤ x13 ∧ x13 < M) (h14 : 0 ≤ x14 ∧ x14 < M) (h15 : 0 ≤ x15 ∧ x15 < M) : In M 16 (six x0 x1 x2 x3 x4 x5 x6 x7 x8 x9 x10 x11 x12 x13 x14 x15)
  | 0, _ => h0
  | 1, _ => h1
  | 2, _ => h2
  | 3, _ => h3
  | 4, _ => h4
  | 5, _ => h5
  | 6, _ => h6
  | 7, _ => h7
  | 8, _ => h8
  | 9, _ => h9
  | 10, _ => h10
  | 11, _ => h11
  | 12, _ => h12
  | 13, _ => h13
  | 14, _ => h14
  | 15, _ => h15
  | _ + 16, h => by omega
theorem upd_six0 (x0 x1 x2 x3 x4 x5 x6 x7 x8 x9 x10 x11 x12 x13 x14 x15 v : Int) : upd (six x0 x1 x2 x3 x4 x5 x6 x7 x8 x9 x10 x11 x12 x13 x14 x15) 0 v = six v x1 x2 x3 x4 x5 x6 x7 x8 x9 x10 x11 x12 x13 x14 x15 := by
  funext j
  match j with
  | 0 | 1 | 2 | 3 | 4 | 5 | 6 | 7 | 8 | 9 | 10 | 11 | 12 | 13 | 14 | 15 => rfl
  | j + 16 => rfl
theorem upd_six1 (x0 x1 x2 x3 x4 x5 x6 x7 x8 x9 x10 x11 x12 x13 x14 x15 v : Int) : upd (six x0 x1 x2 x3 x4 x5 x6 x7 x8 x9 x10 x11 x12 x13 x14 x15) 1 v = six x0 v x2 x3 x4 x5 x6 x7 x8 x9 x10 x11 x12 x13 x14 x15 := by
  funext j
  match j with
  | 0 | 1 | 2 | 3 | 4 | 5 | 6 | 7 | 8 | 9 | 10 | 11 | 12 | 13 | 14 | 15 => rfl
  | j + 16 => rfl
theorem upd_six2 (x0 x1 x2 x3 x4 x5 x6 x7 x8 x9 x10 x11 x12 x13 x14 x15 v : Int) : upd (six x0 x1 x2 x3 x4 x5 x6 x7 x8 x9 x10 x11 x12 x13 x14 x15) 2 v = six x0 x1 v x3 x4 x5 x6 x7 x8 x9 x10 x11 x12 x13 x14 x15 := by
  funext j
  match j with
  | 0 | 1 | 2 | 3 | 4 | 5 | 6 | 7 | 8 | 9 | 10 | 11 | 12 | 13 | 14 | 15 => rfl
  | j + 16 => rfl
theorem upd_six3 (x0 x1 x2 x3 x4 x5 x6 x7 x8 x9 x10 x11 x12 x13 x14 x15 v : Int) : upd (six x0 x1 x2 x3 x4 x5 x6 x7 x8 x9 x10 x11 x12 x13 x14 x15) 3 v = six x0 x1 x2 v x4 x5 x6 x7 x8 x9 x10 x11 x12 x13 x14 x15 := by
  funext j
  match j with
  | 0 | 1 | 2 | 3 | 4 | 5 | 6 | 7 | 8 | 9 | 10 | 11 | 12 | 13 | 14 | 15 => rfl
  | j + 16 => rfl
theorem upd_six4 (x0 x1 x2 x3 x4 x5 x6 x7 x8 x9 x10 x11 x12 x13 x14 x15 v : Int) : upd (six x0 x1 x2 x3 x4 x5 x6 x7 x8 x9 x10 x11 x12 x13 x14 x15) 4 v = six x0 x1 x2 x3 v x5 x6 x7 x8 x9 x10 x11 x12 x13 x14 x15 := by
  funext j
  match j with
  | 0 | 1 | 2 | 3 | 4 | 5 | 6 | 7 | 8 | 9 | 10 | 11 | 12 | 13 | 14 | 15 => rfl
  | j + 16 => rfl
theorem upd_six5 (x0 x1 x2 x3 x4 x5 x6 x7 x8 x9 x10 x11 x12 x13 x14 x15 v : Int) : upd (six x0 x1 x2 x3 x4 x5 x6 x7 x8 x9 x10 x11 x12 x13 x14 x15) 5 v = six x0 x1 x2 x3 x4 v x6 x7 x8 x9 x10 x11 x12 x13 x14 x15 := by
  funext j
  match j with
  | 0 | 1 | 2 | 3 | 4 | 5 | 6 | 7 | 8 | 9 | 10 | 11 | 12 | 13 | 14 | 15 => rfl
  | j + 16 => rfl
theorem upd_six6 (x0 x1 x2 x3 x4 x5 x6 x7 x8 x9 x10 x11 x12 x13 x14 x15 v : Int) : upd (six x0 x1 x2 x3 x4 x5 x6 x7 x8 x9 x10 x11 x12 x13 x14 x15) 6 v = six x0 x1 x2 x3 x4 x5 v x7 x8 x9 x10 x11 x12 x13 x14 x15 := by
  funext j
  match j with
  | 0 | 1 | 2 | 3 | 4 | 5 | 6 | 7 | 8 | 9 | 10 | 11 | 12 | 13 | 14 | 15 => rfl
  | j + 16 => rfl
theorem upd_six7 (x0 x1 x2 x3 x4 x5 x6 x7 x8 x9 x10 x11 x12 x13 x14 x15 v : Int) : upd (six x0 x1 x2 x3 x4 x5 x6 x7 x8 x9 x10 x11 x12 x13 x14 x15) 7 v = six x0 x1 x2 x3 x4 x5 x6 v x8 x9 x10 x11 x12 x13 x14 x15 := by
  funext j
  match j with
  | 0 | 1 | 2 | 3 | 4 | 5 | 6 | 7 | 8 | 9 | 10 | 11 | 12 | 13 | 14 | 15 => rfl
  | j + 16 => rfl
theorem upd_six8 (x0 x1 x2 x3 x4 x5 x6 x7 x8 x9 x10 x11 x12 x13 x14 x15 v : Int) : upd (six x0 x1 x2 x3 x4 x5 x6 x7 x8 x9 x10 x11 x12 x13 x14 x15) 8 v = six x0 x1 x2 x3 x4 x5 x6 x7 v x9 x10 x11 x12 x13 x14 x15 := by
  funext j
  match j with
  | 0 | 1 | 2 | 3 | 4 | 5 | 6 | 7 | 8 | 9 | 10 | 11 | 12 | 13 | 14 | 15 => rfl
  | j + 16 => rfl
theorem upd_six9 (x0 x1 x2 x3 x4 x5 x6 x7 x8 x9 x10 x11 x12 x13 x14 x15 v : Int) : upd (six x0 x1 x2 x3 x4 x5 x6 x7 x8 x9 x10 x11 x12 x13 x14 x15) 9 v = six x0 x1 x2 x3 x4 x5 x6 x7 x8 v x10 x11 x12 x13 x14 x15 := by
  funext j
  match j with
  | 0 | 1 | 2 | 3 | 4 | 5 | 6 | 7 | 8 | 9 | 10 | 11 | 12 | 13 | 14 | 15 => rfl
  | j + 16 => rfl
theorem upd_six10 (x0 x1 x2 x3 x4 x5 x6 x7 x8 x9 x10 x11 x12 x13 x14 x15 v : Int) : upd (six x0 x1 x2 x3 x4 x5 x6 x7 x8 x9 x10 x11 x12 x13 x14 x15) 10 v = six x0 x1 x2 x3 x4 x5 x6 x7 x8 x9 v x11 x12 x13 x14 x15 := by
  funext j
  match j with
  | 0 | 1 | 2 | 3 | 4 | 5 | 6 | 7 | 8 | 9 | 10 | 11 | 12 | 13 | 14 | 15 => rfl
  | j + 16 => rfl
theorem upd_six11 (x0 x1 x2 x3 x4 x5 x6 x7 x8 x9 x10 x11 x12 x13 x14 x15 v : Int) : upd (six x0 x1 x2 x3 x4 x5 x6 x7 x8 x9 x10 x11 x12 x13 x14 x15) 11 v = six x0 x1 x2 x3 x4 x5 x6 x7 x8 x9 x10 v x12 x13 x14 x15 := by
  funext j
  match j with
  | 0 | 1 | 2 | 3 | 4 | 5 | 6 | 7 | 8 | 9 | 10 | 11 | 12 | 13 | 14 | 15 => rfl
  | j + 16 => rfl
theorem upd_six12 (x0 x1 x2 x3 x4 x5 x6 x7 x8 x9 x10 x11 x12 x13 x14 x15 v : Int) : upd (six x0 x1 x2 x3 x4 x5 x6 x7 x8 x9 x10 x11 x12 x13 x14 x15) 12 v = six x0 x1 x2 x3 x4 x5 x6 x7 x8 x9 x10 x11 v x13 x14 x15 := by
  funext j
  match j with
  | 0 | 1 | 2 | 3 | 4 | 5 | 6 | 7 | 8 | 9 | 10 | 11 | 12 | 13 | 14 | 15 => rfl
  | j + 16 => rfl
theorem upd_six13 (x0 x1 x2 x3 x4 x5 x6 x7 x8 x9 x10 x11 x12 x13 x14 x15 v : Int) : upd (six x0 x1 x2 x3 x4 x5 x6 x7 x8 x9 x10 x11 x12 x13 x14 x15) 13 v = six x0 x1 x2 x3 x4 x5 x6 x7 x8 x9 x10 x11 x12 v x14 x15 := by
  funext j
  match j with
  | 0 | 1 | 2 | 3 | 4 | 5 | 6 | 7 | 8 | 9 | 10 | 11 | 12 | 13 | 14 | 15 => rfl
  | j + 16 => rfl
theorem upd_six14 (x0 x1 x2 x3 x4 x5 x6 x7 x8 x9 x10 x11 x12 x13 x14 x15 v : Int) : upd (six x0 x1 x2 x3 x4 x5 x6 x7 x8 x9 x10 x11 x12 x13 x14 x15) 14 v = six x0 x1 x2 x3 x4 x5 x6 x7 x8 x9 x10 x11 x12 x13 v x15 := by
  funext j
  match j with
  | 0 | 1 | 2 | 3 | 4 | 5 | 6 | 7 | 8 | 9 | 10 | 11 | 12 | 13 | 14 | 15 => rfl
  | j + 16 => rfl
theorem upd_six15 (x0 x1 x2 x3 x4 x5 x6 x7 x8 x9 x10 x11 x12 x13 x14 x15 v : Int) : upd (six x0 x1 x2 x3 x4 x5 x6 x7 x8 x9 x10 x11 x12 x13 x14 x15) 15 v = six x0 x1 x2 x3 x4 x5 x6 x7 x8 x9 x10 x11 x12 x13 x14 v := by
  funext j
  match j with
  | 0 | 1 | 2 | 3 | 4 | 5 | 6 | 7 | 8 | 9 | 10 | 11 | 12 | 13 | 14 | 15 => rfl
  | j + 16 => rfl
theorem tAt_six0 (x0 x1 x2 x3 x4 x5 x6 x7 x8 x9 x10 x11 x12 x13 x14 x15 : Int) : tAt (six x0 x1 x2 x3 x4 x5 x6 x7 x8 x9 x10 x11 x12 x13 x14 x15) 0 = six (qA x0 x4 x8 x12) x1 x2 x3 (qB x0 x4 x8 x12) x5 x6 x7 (qC x0 x4 x8 x12) x9 x10 x11 (qD x0 x4 x8 x12) x13 x14 x15 := by
  show upd (upd (upd (upd (six x0 x1 x2 x3 x4 x5 x6 x7 x8 x9 x10 x11 x12 x13 x14 x15) 0 (qA x0 x4 x8 x12)) 4 (qB x0 x4 x8 x12)) 8 (qC x0 x4 x8 x12)) 12 (qD x0 x4 x8 x12) = _
  rw [upd_six0, upd_six4, upd_six8, upd_six12]
theorem tAt_six1 (x0 x1 x2 x3 x4 x5 x6 x7 x8 x9 x10 x11 x12 x13 x14 x15 : Int) : tAt (six x0 x1 x2 x3 x4 x5 x6 x7 x8 x9 x10 x11 x12 x13 x14 x15) 1 = six x0 (qA x1 x5 x9 x13) x2 x3 x4 (qB x1 x5 x9 x13) x6 x7 x8 (qC x1 x5 x9 x13) x10 x11 x12 (qD x1 x5 x9 x13) x14 x15 := by
  show upd (upd (upd (upd (six x0 x1 x2 x3 x4 x5 x6 x7 x8 x9 x10 x11 x12 x13 x14 x15) 1 (qA x1 x5 x9 x13)) 5 (qB x1 x5 x9 x13)) 9 (qC x1 x5 x9 x13)) 13 (qD x1 x5 x9 x13) = _
  rw [upd_six1, upd_six5, upd_six9, upd_six13]
theorem tAt_six2 (x0 x1 x2 x3 x4 x5 x6 x7 x8 x9 x10 x11 x12 x13 x14 x15 : Int) : tAt (six x0 x1 x2 x3 x4 x5 x6 x7 x8 x9 x10 x11 x12 x13 x14 x15) 2 = six x0 x1 (qA x2 x6 x10 x14) x3 x4 x5 (qB x2 x6 x10 x14) x7 x8 x9 (qC x2 x6 x10 x14) x11 x12 x13 (qD x2 x6 x10 x14) x15 := by
  show upd (upd (upd (upd (six x0 x1 x2 x3 x4 x5 x6 x7 x8 x9 x10 x11 x12 x13 x14 x15) 2 (qA x2 x6 x10 x14)) 6 (qB x2 x6 x10 x14)) 10 (qC x2 x6 x10 x14)) 14 (qD x2 x6 x10 x14) = _
  rw [upd_six2, upd_six6, upd_six10, upd_six14]
theorem tAt_six3 (x0 x1 x2 x3 x4 x5 x6 x7 x8 x9 x10 x11 x12 x13 x14 x15 : Int) : tAt (six x0 x1 x2 x3 x4 x5 x6 x7 x8 x9 x10 x11 x12 x13 x14 x15) 3 = six x0 x1 x2 (qA x3 x7 x11 x15) x4 x5 x6 (qB x3 x7 x11 x15) x8 x9 x10 (qC x3 x7 x11 x15) x12 x13 x14 (qD x3 x7 x11 x15) := by
  show upd (upd (upd (upd (six x0 x1 x2 x3 x4 x5 x6 x7 x8 x9 x10 x11 x12 x13 x14 x15) 3 (qA x3 x7 x11 x15)) 7 (qB x3 x7 x11 x15)) 11 (qC x3 x7 x11 x15)) 15 (qD x3 x7 x11 x15) = _
  rw [upd_six3, upd_six7, upd_six11, upd_six15]
theorem tAt_six4 (x0 x1 x2 x3 x4 x5 x6 x7 x8 x9 x10 x11 x12 x13 x14 x15 : Int) : tAt (six x0 x1 x2 x3 x4 x5 x6 x7 x8 x9 x10 x11 x12 x13 x14 x15) 4 = six (qA x0 x5 x10 x15) x1 x2 x3 x4 (qB x0 x5 x10 x15) x6 x7 x8 x9 (qC x0 x5 x10 x15) x11 x12 x13 x14 (qD x0 x5 x10 x15) := by
  show upd (upd (upd (upd (six x0 x1 x2 x3 x4 x5 x6 x7 x8 x9 x10 x11 x12 x13 x14 x15) 0 (qA x0 x5 x10 x15)) 5 (qB x0 x5 x10 x15)) 10 (qC x0 x5 x10 x15)) 15 (qD x0 x5 x10 x15) = _
  rw [upd_six0, upd_six5, upd_six10, upd_six15]
theorem tAt_six5 (x0 x1 x2 x3 x4 x5 x6 x7 x8 x9 x10 x11 x12 x13 x14 x15 : Int) : tAt (six x0 x1 x2 x3 x4 x5 x6 x7 x8 x9 x10 x11 x12 x13 x14 x15) 5 = six x0 (qA x1 x6 x11 x12) x2 x3 x4 x5 (qB x1 x6 x11 x12) x7 x8 x9 x10 (qC x1 x6 x11 x12) (qD x1 x6 x11 x12) x13 x14 x15 := by
  show upd (upd (upd (upd (six x0 x1 x2 x3 x4 x5 x6 x7 x8 x9 x10 x11 x12 x13 x14 x15) 1 (qA x1 x6 x11 x12)) 6 (qB x1 x6 x11 x12)) 11 (qC x1 x6 x11 x12)) 12 (qD x1 x6 x11 x12) = _
  rw [upd_six1, upd_six6, upd_six11, upd_six12]
theorem tAt_six6 (x0 x1 x2 x3 x4 x5 x6 x7 x8 x9 x10 x11 x12 x13 x14 x15 : Int) : tAt (six x0 x1 x2 x3 x4 x5 x6 x7 x8 x9 x10 x11 x12 x13 x14 x15) 6 = six x0 x1 (qA x2 x7 x8 x13) x3 x4 x5 x6 (qB x2 x7 x8 x13) (qC x2 x7 x8 x13) x9 x10 x11 x12 (qD x2 x7 x8 x13) x14 x15 := by
  show upd (upd (upd (upd (six x0 x1 x2 x3 x4 x5 x6 x7 x8 x9 x10 x11 x12 x13 x14 x15) 2 (qA x2 x7 x8 x13)) 7 (qB x2 x7 x8 x13)) 8 (qC x2 x7 x8 x13)) 13 (qD x2 x7 x8 x13) = _
  rw [upd_six2, upd_six7, upd_six8, upd_six13]
theorem tAt_six7 (x0 x1 x2 x3 x4 x5 x6 x7 x8 x9 x10 x11 x12 x13 x14 x15 : Int) : tAt (six x0 x1 x2 x3 x4 x5 x6 x7 x8 x9 x10 x11 x12 x13 x14 x15) 7 = six x0 x1 x2 (qA x3 x4 x9 x14) (qB x3 x4 x9 x14) x5 x6 x7 x8 (qC x3 x4 x9 x14) x10 x11 x12 x13 (qD x3 x4 x9 x14) x15 := by
  show upd (upd (upd (upd (six x0 x1 x2 x3 x4 x5 x6 x7 x8 x9 x10 x11 x12 x13 x14 x15) 3 (qA x3 x4 x9 x14)) 4 (qB x3 x4 x9 x14)) 9 (qC x3 x4 x9 x14)) 14 (qD x3 x4 x9 x14) = _
  rw [upd_six3, upd_six4, upd_six9, upd_six14]

def forceN {α : Type} (t : Nat) (f : Nat → α) : α :=
  match t with
  | 0 => f 0
  | m + 1 => f (m + 1)
theorem forceN_eq {α : Type} (t : Nat) (f : Nat → α) : forceN t f = f t := by cases t <;> rfl
def forceI {α : Type} (t : Int) (f : Int → α) : α :=
  match t with
  | .ofNat m => forceN m fun m => f (.ofNat m)
  | .negSucc m => f (.negSucc m)
theorem forceI_eq {α : Type} (t : Int) (f : Int → α) : forceI t f = f t := by
  cases t with
  | ofNat m => exact forceN_eq m (fun m => f (.ofNat m))
  | negSucc m => rfl
/-- A double round of sixteen words, each number reckoned at once. -/
def ev8 {α : Type} (x0 x1 x2 x3 x4 x5 x6 x7 x8 x9 x10 x11 x12 x13 x14 x15 : Int) (f : Int → Int → Int → Int → Int → Int → Int → Int → Int → Int → Int → Int → Int → Int → Int → Int → α) : α :=
  forceI (had x0 x4) fun x0 => forceI (hrl 16 (hxr x12 x0)) fun x12 => forceI (had x8 x12) fun x8 => forceI (hrl 12 (hxr x4 x8)) fun x4 =>
  forceI (had x0 x4) fun x0 => forceI (hrl 8 (hxr x12 x0)) fun x12 => forceI (had x8 x12) fun x8 => forceI (hrl 7 (hxr x4 x8)) fun x4 =>
  forceI (had x1 x5) fun x1 => forceI (hrl 16 (hxr x13 x1)) fun x13 => forceI (had x9 x13) fun x9 => forceI (hrl 12 (hxr x5 x9)) fun x5 =>
  forceI (had x1 x5) fun x1 => forceI (hrl 8 (hxr x13 x1)) fun x13 => forceI (had x9 x13) fun x9 => forceI (hrl 7 (hxr x5 x9)) fun x5 =>
  forceI (had x2 x6) fun x2 => forceI (hrl 16 (hxr x14 x2)) fun x14 => forceI (had x10 x14) fun x10 => forceI (hrl 12 (hxr x6 x10)) fun x6 =>
  forceI (had x2 x6) fun x2 => forceI (hrl 8 (hxr x14 x2)) fun x14 => forceI (had x10 x14) fun x10 => forceI (hrl 7 (hxr x6 x10)) fun x6 =>
  forceI (had x3 x7) fun x3 => forceI (hrl 16 (hxr x15 x3)) fun x15 => forceI (had x11 x15) fun x11 => forceI (hrl 12 (hxr x7 x11)) fun x7 =>
  forceI (had x3 x7) fun x3 => forceI (hrl 8 (hxr x15 x3)) fun x15 => forceI (had x11 x15) fun x11 => forceI (hrl 7 (hxr x7 x11)) fun x7 =>
  forceI (had x0 x5) fun x0 => forceI (hrl 16 (hxr x15 x0)) fun x15 => forceI (had x10 x15) fun x10 => forceI (hrl 12 (hxr x5 x10)) fun x5 =>
  forceI (had x0 x5) fun x0 => forceI (hrl 8 (hxr x15 x0)) fun x15 => forceI (had x10 x15) fun x10 => forceI (hrl 7 (hxr x5 x10)) fun x5 =>
  forceI (had x1 x6) fun x1 => forceI (hrl 16 (hxr x12 x1)) fun x12 => forceI (had x11 x12) fun x11 => forceI (hrl 12 (hxr x6 x11)) fun x6 =>
  forceI (had x1 x6) fun x1 => forceI (hrl 8 (hxr x12 x1)) fun x12 => forceI (had x11 x12) fun x11 => forceI (hrl 7 (hxr x6 x11)) fun x6 =>
  forceI (had x2 x7) fun x2 => forceI (hrl 16 (hxr x13 x2)) fun x13 => forceI (had x8 x13) fun x8 => forceI (hrl 12 (hxr x7 x8)) fun x7 =>
  forceI (had x2 x7) fun x2 => forceI (hrl 8 (hxr x13 x2)) fun x13 => forceI (had x8 x13) fun x8 => forceI (hrl 7 (hxr x7 x8)) fun x7 =>
  forceI (had x3 x4) fun x3 => forceI (hrl 16 (hxr x14 x3)) fun x14 => forceI (had x9 x14) fun x9 => forceI (hrl 12 (hxr x4 x9)) fun x4 =>
  forceI (had x3 x4) fun x3 => forceI (hrl 8 (hxr x14 x3)) fun x14 => forceI (had x9 x14) fun x9 => forceI (hrl 7 (hxr x4 x9)) fun x4 =>
  f x0 x1 x2 x3 x4 x5 x6 x7 x8 x9 x10 x11 x12 x13 x14 x15
def evN : Nat → Int → Int → Int → Int → Int → Int → Int → Int → Int → Int → Int → Int → Int → Int → Int → Int → Nat → Int
  | 0, x0, x1, x2, x3, x4, x5, x6, x7, x8, x9, x10, x11, x12, x13, x14, x15 => six x0 x1 x2 x3 x4 x5 x6 x7 x8 x9 x10 x11 x12 x13 x14 x15
  | n + 1, x0, x1, x2, x3, x4, x5, x6, x7, x8, x9, x10, x11, x12, x13, x14, x15 => ev8 x0 x1 x2 x3 x4 x5 x6 x7 x8 x9 x10 x11 x12 x13 x14 x15 (evN n)
theorem evN_eq : ∀ (n : Nat) (x0 x1 x2 x3 x4 x5 x6 x7 x8 x9 x10 x11 x12 x13 x14 x15 : Int), evN n x0 x1 x2 x3 x4 x5 x6 x7 x8 x9 x10 x11 x12 x13 x14 x15 = drN (six x0 x1 x2 x3 x4 x5 x6 x7 x8 x9 x10 x11 x12 x13 x14 x15) n
  | 0, _, _, _, _, _, _, _, _, _, _, _, _, _, _, _, _ => rfl
  | n + 1, x0, x1, x2, x3, x4, x5, x6, x7, x8, x9, x10, x11, x12, x13, x14, x15 => by
    rw [drN_first]
    show ev8 x0 x1 x2 x3 x4 x5 x6 x7 x8 x9 x10 x11 x12 x13 x14 x15 (evN n) = drN (tAt (tAt (tAt (tAt (tAt (tAt (tAt (tAt (six x0 x1 x2 x3 x4 x5 x6 x7 x8 x9 x10 x11 x12 x13 x14 x15) 0) 1) 2) 3) 4) 5) 6) 7) n
    rw [tAt_six0, tAt_six1, tAt_six2, tAt_six3, tAt_six4, tAt_six5, tAt_six6, tAt_six7, ← evN_eq n]
    simp only [ev8, forceI_eq]
    rfl

/-- A word of four bytes; a word's bytes. -/
def w32 (a : Nat → Int) (o : Nat) : Int := a o + a (o + 1) * 256 + a (o + 2) * 65536 + a (o + 3) * 16777216
theorem w32_in (a : Nat → Int) (o n : Nat) (ho : o + 4 ≤ n) (h : In 256 n a) : 0 ≤ w32 a o ∧ w32 a o < V := by
  have h0 := h o (by omega)
  have h1 := h (o + 1) (by omega)
  have h2 := h (o + 2) (by omega)
  have h3 := h (o + 3) (by omega)
  unfold w32
  simp only [V]
  omega
def b32 (x : Int) : Nat → Int
  | 0 => x % 256
  | 1 => x / 256 % 256
  | 2 => x / 65536 % 256
  | 3 => x / 16777216 % 256
  | _ + 4 => 0
theorem b32_in (x : Int) : In 256 4 (b32 x)
  | 0, _ => by show 0 ≤ x % 256 ∧ x % 256 < 256; omega
  | 1, _ => by show 0 ≤ x / 256 % 256 ∧ x / 256 % 256 < 256; omega
  | 2, _ => by show 0 ≤ x / 65536 % 256 ∧ x / 65536 % 256 < 256; omega
  | 3, _ => by show 0 ≤ x / 16777216 % 256 ∧ x / 16777216 % 256 < 256; omega
  | _ + 4, h => by omega

/-- What a block is made of. -/
def hst (k : Nat → Int) (c : Int) (n : Nat → Int) : Nat → Int := six 1634760805 857760878 2036477234 1797285236 (w32 k 0) (w32 k 4) (w32 k 8) (w32 k 12) (w32 k 16) (w32 k 20) (w32 k 24) (w32 k 28) c (w32 n 0) (w32 n 4) (w32 n 8)
theorem hst_in (k : Nat → Int) (c : Int) (n : Nat → Int) (hk : In 256 32 k) (hc : 0 ≤ c ∧ c < V) (hn : In 256 12 n) : In V 16 (hst k c n) :=
  six_in _ _ _ _ _ _ _ _ _ _ _ _ _ _ _ _ (by decide) (by decide) (by decide) (by decide) (w32_in k 0 32 (by omega) hk) (w32_in k 4 32 (by omega) hk) (w32_in k 8 32 (by omega) hk) (w32_in k 12 32 (by omega) hk) (w32_in k 16 32 (by omega) hk) (w32_in k 20 32 (by omega) hk) (w32_in k 24 32 (by omega) hk) (w32_in k 28 32 (by omega) hk) hc (w32_in n 0 12 (by omega) hn) (w32_in n 4 12 (by omega) hn) (w32_in n 8 12 (by omega) hn)
/-- The words of a block, and its bytes. -/
def hwd (k : Nat → Int) (c : Int) (n : Nat → Int) (i : Nat) : Int := had (drN (hst k c n) 10 i) (hst k c n i)
def hblk (k : Nat → Int) (c : Int) (n : Nat → Int) : Nat → Int := fun j => b32 (hwd k c n (j / 4)) (j % 4)
theorem hblk_in (k : Nat → Int) (c : Int) (n : Nat → Int) (m : Nat) : In 256 m (hblk k c n) := fun j _ => b32_in _ _ (Nat.mod_lt _ (by decide))
/-- What is laid over. -/
def hxor (k : Nat → Int) (c : Int) (n : Nat → Int) (z : Nat → Int) : Nat → Int := fun j => bits .xor .u8 (z j) (hblk k ((c + ((j / 64 : Nat) : Int)) % 4294967296) n (j % 64))
theorem u8_xor_in (x y : Int) (hx : 0 ≤ x ∧ x < 256) (hy : 0 ≤ y ∧ y < 256) : 0 ≤ bits .xor .u8 x y ∧ bits .xor .u8 x y < 256 := by
  obtain ⟨x, rfl⟩ := Int.eq_ofNat_of_zero_le hx.1
  obtain ⟨y, rfl⟩ := Int.eq_ofNat_of_zero_le hy.1
  rw [u8_xor_nat x y (by omega) (by omega)]
  have h := Nat.xor_lt_two_pow (n := 8) (x := x) (y := y) (by omega) (by omega)
  omega
theorem hxor_in (k : Nat → Int) (c : Int) (n : Nat → Int) (z : Nat → Int) (m : Nat) (hz : In 256 m z) : In 256 m (hxor k c n z) := fun j hj => u8_xor_in _ _ (hz j hj) (hblk_in _ _ _ 64 _ (Nat.mod_lt _ (by decide)))
theorem or_step32 (M s : Nat) (hM : M = 2 ^ s) (hb : M * 256 ≤ 4294967296) (a x : Int) (h0 : 0 ≤ a) (h1 : a < M) (x0 : 0 ≤ x) (x1 : x < 256) :
    bits BinOp.or IntKind.u32 a (x % 4294967296 * (M : Int) % 4294967296) = a + x * (M : Int) := by
  obtain ⟨a, rfl⟩ := Int.eq_ofNat_of_zero_le h0
  obtain ⟨x, rfl⟩ := Int.eq_ofNat_of_zero_le x0
  have hx : x * M + M ≤ 256 * M := by rw [← Nat.succ_mul]; exact Nat.mul_le_mul_right M (by omega)
  have e1 : (x : Int) % 4294967296 = (x : Int) := by omega
  have e2 : (x : Int) * (M : Int) = ((x * M : Nat) : Int) := (Int.natCast_mul x M).symm
  have e3 : ((x * M : Nat) : Int) % 4294967296 = ((x * M : Nat) : Int) := by omega
  rw [e1, e2, e3, u32_or_nat a (x * M) (by omega) (by omega)]
  have h := Nat.two_pow_add_eq_or_of_lt (i := s) (b := a) (by omega) x
  rw [← hM, Nat.mul_comm M x] at h
  rw [Nat.or_comm, ← h]
  omega
theorem glued32 (x0 x1 x2 x3 : Int) (h0 : 0 ≤ x0 ∧ x0 < 256) (h1 : 0 ≤ x1 ∧ x1 < 256) (h2 : 0 ≤ x2 ∧ x2 < 256) (h3 : 0 ≤ x3 ∧ x3 < 256) :
    bits BinOp.or IntKind.u32 (bits BinOp.or IntKind.u32 (bits BinOp.or IntKind.u32 (x0 % 4294967296) (x1 % 4294967296 * 256 % 4294967296)) (x2 % 4294967296 * 65536 % 4294967296)) (x3 % 4294967296 * 16777216 % 4294967296) = x0 + x1 * 256 + x2 * 65536 + x3 * 16777216 := by
  have e0 : x0 % 4294967296 = x0 := by omega
  have e1 := or_step32 256 8 (by decide) (by decide) (x0) x1 (by omega) (by omega) h1.1 h1.2
  have e2 := or_step32 65536 16 (by decide) (by decide) (x0 + x1 * ((256 : Nat) : Int)) x2 (by omega) (by omega) h2.1 h2.2
  have e3 := or_step32 16777216 24 (by decide) (by decide) (x0 + x1 * ((256 : Nat) : Int) + x2 * ((65536 : Nat) : Int)) x3 (by omega) (by omega) h3.1 h3.2
  simp only [Int.cast_ofNat_Int] at e1 e2 e3
  rw [e0, e1, e2, e3]
end Go.Proofs.YtmchfdfmcobenaaDoor
