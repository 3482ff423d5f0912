/- Texts of Ha Hw Hb Hc Hd He Hf Hg, joined. -/
import Derived.Test.YteclkiabkdaklaaDoorG1
import Derived.Laws.BitsAllLaws
import Derived.Test.YteclkiabkdaklaaDoorProg
import Derived.BigRegion
import Derived.BigQuiet
import Derived.Laws.Externs
import Derived.Deep.Cut
import Derived.KernelRfl
namespace Go.Proofs.YteclkiabkdaklaaDoor
open Go.RowKit

/-- A word's bound, at 32 bits. -/
abbrev V : Int := 4294967296
def had (x y : Int) : Int := (x + y) % 4294967296
def hxr (x y : Int) : Int := bits .xor .u32 x y
def hrl (n : Nat) (x : Int) : Int := bits .or .u32 (x * 2 ^ n % 4294967296) (x / 2 ^ (32 - n))
theorem had_eq (x y : Int) : had x y = (x + y) % 4294967296 := rfl
theorem had_in (x y : Int) : 0 ≤ had x y ∧ had x y < V := by rw [had_eq]; simp only [V]; omega
theorem hxr_in (x y : Int) (hx : 0 ≤ x ∧ x < V) (hy : 0 ≤ y ∧ y < V) : 0 ≤ hxr x y ∧ hxr x y < V := by
  obtain ⟨x, rfl⟩ := Int.eq_ofNat_of_zero_le hx.1
  obtain ⟨y, rfl⟩ := Int.eq_ofNat_of_zero_le hy.1
  have h := Nat.xor_lt_two_pow (n := 32) (show x < 2 ^ 32 by have := hx.2; simp only [V] at this; omega) (show y < 2 ^ 32 by have := hy.2; simp only [V] at this; omega)
  unfold hxr
  rw [u32_xor_nat x y (by have := hx.2; simp only [V] at this; omega) (by have := hy.2; simp only [V] at this; omega)]
  simp only [V]
  omega
theorem hrl_in (n : Nat) (x : Int) (hx : 0 ≤ x ∧ x < V) : 0 ≤ hrl n x ∧ hrl n x < V := by
  obtain ⟨x, rfl⟩ := Int.eq_ofNat_of_zero_le hx.1
  have hx2 : x < 4294967296 := by have := hx.2; simp only [V] at this; omega
  unfold hrl
  have e1 : (x : Int) * 2 ^ n % 4294967296 = ((x * 2 ^ n % 4294967296 : Nat) : Int) := by rw [Int.natCast_emod, Int.natCast_mul, Int.natCast_pow]; rfl
  have e2 : (x : Int) / 2 ^ (32 - n) = ((x / 2 ^ (32 - n) : Nat) : Int) := by rw [Int.natCast_ediv, Int.natCast_pow]; rfl
  have i1 : x * 2 ^ n % 4294967296 < 4294967296 := Nat.mod_lt _ (by decide)
  have i2 : x / 2 ^ (32 - n) < 4294967296 := Nat.lt_of_le_of_lt (Nat.div_le_self _ _) hx2
  rw [e1, e2, u32_or_nat _ _ i1 i2]
  have h := Nat.or_lt_two_pow (n := 32) i1 i2
  simp only [V]
  omega

/-- Half a quarter round. -/
def hA (a b : Int) : Int := had a b
def hD (p : Nat) (a b d : Int) : Int := hrl p (hxr d (had a b))
def hC (p : Nat) (a b c d : Int) : Int := had c (hD p a b d)
def hB (p q : Nat) (a b c d : Int) : Int := hrl q (hxr b (hC p a b c d))
/-- A quarter round. -/
def qA (a b c d : Int) : Int := hA (hA a b) (hB 16 12 a b c d)
def qB (a b c d : Int) : Int := hB 8 7 (hA a b) (hB 16 12 a b c d) (hC 16 a b c d) (hD 16 a b d)
def qC (a b c d : Int) : Int := hC 8 (hA a b) (hB 16 12 a b c d) (hC 16 a b c d) (hD 16 a b d)
def qD (a b c d : Int) : Int := hD 8 (hA a b) (hB 16 12 a b c d) (hD 16 a b d)
theorem hA_in (a b : Int) : 0 ≤ hA a b ∧ hA a b < V := had_in _ _
theorem hD_in (p : Nat) (a b d : Int) (hd : 0 ≤ d ∧ d < V) : 0 ≤ hD p a b d ∧ hD p a b d < V := hrl_in _ _ (hxr_in _ _ hd (had_in _ _))
theorem hC_in (p : Nat) (a b c d : Int) : 0 ≤ hC p a b c d ∧ hC p a b c d < V := had_in _ _
theorem hB_in (p q : Nat) (a b c d : Int) (hb : 0 ≤ b ∧ b < V) : 0 ≤ hB p q a b c d ∧ hB p q a b c d < V := hrl_in _ _ (hxr_in _ _ hb (had_in _ _))
theorem qA_in (a b c d : Int) : 0 ≤ qA a b c d ∧ qA a b c d < V := hA_in _ _
theorem qB_in (a b c d : Int) (hb : 0 ≤ b ∧ b < V) : 0 ≤ qB a b c d ∧ qB a b c d < V := hB_in _ _ _ _ _ _ (hB_in _ _ _ _ _ _ hb)
theorem qC_in (a b c d : Int) : 0 ≤ qC a b c d ∧ qC a b c d < V := hC_in _ _ _ _ _
theorem qD_in (a b c d : Int) (hd : 0 ≤ d ∧ d < V) : 0 ≤ qD a b c d ∧ qD a b c d < V := hD_in _ _ _ _ (hD_in _ _ _ _ hd)

/-- Four words. -/
def quad (a b c d : Int) : Nat → Int
  | 0 => a
  | 1 => b
  | 2 => c
  | 3 => d
  | _ + 4 => 0
theorem quad_in {M a b c d : Int} (ha : 0 ≤ a ∧ a < M) (hb : 0 ≤ b ∧ b < M) (hc : 0 ≤ c ∧ c < M) (hd : 0 ≤ d ∧ d < M) : In M 4 (quad a b c d)
  | 0, _ => ha
  | 1, _ => hb
  | 2, _ => hc
  | 3, _ => hd
  | _ + 4, h => by omega
def hqt (x : Nat → Int) : Nat → Int := quad (qA (x 0) (x 1) (x 2) (x 3)) (qB (x 0) (x 1) (x 2) (x 3)) (qC (x 0) (x 1) (x 2) (x 3)) (qD (x 0) (x 1) (x 2) (x 3))
theorem hqt_in (x : Nat → Int) (h : In V 4 x) : In V 4 (hqt x) := quad_in (qA_in _ _ _ _) (qB_in _ _ _ _ (h 1 (by omega))) (qC_in _ _ _ _) (qD_in _ _ _ _ (h 3 (by omega)))

/-- The words that a double round turns together. -/
def pA (i : Nat) : Nat := i % 4
def pB (i : Nat) : Nat := 4 + (i + i / 4) % 4
def pC (i : Nat) : Nat := 8 + (i + 2 * (i / 4)) % 4
def pD (i : Nat) : Nat := 12 + (i + 3 * (i / 4)) % 4
def tAt (s : Nat → Int) (i : Nat) : Nat → Int :=
  upd (upd (upd (upd s (pA i) (qA (s (pA i)) (s (pB i)) (s (pC i)) (s (pD i)))) (pB i) (qB (s (pA i)) (s (pB i)) (s (pC i)) (s (pD i)))) (pC i) (qC (s (pA i)) (s (pB i)) (s (pC i)) (s (pD i)))) (pD i) (qD (s (pA i)) (s (pB i)) (s (pC i)) (s (pD i)))
theorem pA_lt (i : Nat) : pA i < 4 := Nat.mod_lt _ (by decide)
theorem pB_lt (i : Nat) : pB i < 8 := by have := Nat.mod_lt (i + i / 4) (show 4 > 0 by decide); unfold pB; omega
theorem pC_lt (i : Nat) : pC i < 12 := by have := Nat.mod_lt (i + 2 * (i / 4)) (show 4 > 0 by decide); unfold pC; omega
theorem pD_lt (i : Nat) : pD i < 16 := by have := Nat.mod_lt (i + 3 * (i / 4)) (show 4 > 0 by decide); unfold pD; omega
theorem tAt_in (s : Nat → Int) (i : Nat) (h : In V 16 s) : In V 16 (tAt s i) := by
  have a := pA_lt i
  have b := pB_lt i
  have c := pC_lt i
  have d := pD_lt i
  have e1 := qA_in (s (pA i)) (s (pB i)) (s (pC i)) (s (pD i))
  have e2 := qB_in (s (pA i)) (s (pB i)) (s (pC i)) (s (pD i)) (h _ (by omega))
  have e3 := qC_in (s (pA i)) (s (pB i)) (s (pC i)) (s (pD i))
  have e4 := qD_in (s (pA i)) (s (pB i)) (s (pC i)) (s (pD i)) (h _ (by omega))
  exact (((h.upd _ _ e1.1 e1.2).upd _ _ e2.1 e2.2).upd _ _ e3.1 e3.2).upd _ _ e4.1 e4.2
def tN (s : Nat → Int) : Nat → Nat → Int
  | 0 => s
  | i + 1 => tAt (tN s i) i
theorem tN_in (s : Nat → Int) (h : In V 16 s) : ∀ i, In V 16 (tN s i)
  | 0 => h
  | i + 1 => tAt_in _ _ (tN_in s h i)
def drN (s : Nat → Int) : Nat → Nat → Int
  | 0 => s
  | n + 1 => tN (drN s n) 8
theorem drN_in (s : Nat → Int) (h : In V 16 s) : ∀ n, In V 16 (drN s n)
  | 0 => h
  | n + 1 => tN_in _ (drN_in s h n) 8
theorem drN_first (s : Nat → Int) : ∀ n, drN s (n + 1) = drN (tN s 8) n
  | 0 => rfl
  | n + 1 => by
    show tN (drN s (n + 1)) 8 = tN (drN (tN s 8) n) 8
    rw [drN_first s n]

/-- Sixteen words. -/
def six (x0 x1 x2 x3 x4 x5 x6 x7 x8 x9 x10 x11 x12 x13 x14 x15 : Int) : Nat → Int
  | 0 => x0
  | 1 => x1
  | 2 => x2
  | 3 => x3
  | 4 => x4
  | 5 => x5
  | 6 => x6
  | 7 => x7
  | 8 => x8
  | 9 => x9
  | 10 => x10
  | 11 => x11
  | 12 => x12
  | 13 => x13
  | 14 => x14
  | 15 => x15
  | _ + 16 => 0
theorem six_in {M : Int} (x0 x1 x2 x3 x4 x5 x6 x7 x8 x9 x10 x11 x12 x13 x14 x15 : Int) (h0 : 0 ≤ x0 ∧ x0 < M) (h1 : 0 ≤ x1 ∧ x1 < M) (h2 : 0 ≤ x2 ∧ x2 < M) (h3 : 0 ≤ x3 ∧ x3 < M) (h4 : 0 ≤ x4 ∧ x4 < M) (h5 : 0 ≤ x5 ∧ x5 < M) (h6 : 0 ≤ x6 ∧ x6 < M) (h7 : 0 ≤ x7 ∧ x7 < M) (h8 : 0 ≤ x8 ∧ x8 < M) (h9 : 0 ≤ x9 ∧ x9 < M) (h10 : 0 ≤ x10 ∧ x10 < M) (h11 : 0 ≤ x11 ∧ x11 < M) (h12 : 0 ≤ x12 ∧ x12 < M) (h13 : 0 ≤ x13 ∧ x13 < M) (h14 : 0 ≤ x14 ∧ x14 < M) (h15 : 0 ≤ x15 ∧ x15 < M) : In M 16 (six x0 x1 x2 x3 x4 x5 x6 x7 x8 x9 x10 x11 x12 x13 x14 x15)
  | 0, _ => h0
  | 1, _ => h1
  | 2, _ => h2
  | 3, _ => h3
  | 4, _ => h4
  | 5, _ => h5
  | 6, _ => h6
  | 7, _ => h7
  | 8, _ => h8
  | 9, _ => h9
  | 10, _ => h10
  | 11, _ => h11
  | 12, _ => h12
  | 13, _ => h13
  | 14, _ => h14
  | 15, _ => h15
  | _ + 16, h => by omega
theorem upd_six0 (x0 x1 x2 x3 x4 x5 x6 x7 x8 x9 x10 x11 x12 x13 x14 x15 v : Int) : upd (six x0 x1 x2 x3 x4 x5 x6 x7 x8 x9 x10 x11 x12 x13 x14 x15) 0 v = six v x1 x2 x3 x4 x5 x6 x7 x8 x9 x10 x11 x12 x13 x14 x15 := by
  funext j
  match j with
  | 0 | 1 | 2 | 3 | 4 | 5 | 6 | 7 | 8 | 9 | 10 | 11 | 12 | 13 | 14 | 15 => rfl
  | j + 16 => rfl
theorem upd_six1 (x0 x1 x2 x3 x4 x5 x6 x7 x8 x9 x10 x11 x12 x13 x14 x15 v : Int) : upd (six x0 x1 x2 x3 x4 x5 x6 x7 x8 x9 x10 x11 x12 x13 x14 x15) 1 v = six x0 v x2 x3 x4 x5 x6 x7 x8 x9 x10 x11 x12 x13 x14 x15 := by
  funext j
  match j with
  | 0 | 1 | 2 | 3 | 4 | 5 | 6 | 7 | 8 | 9 | 10 | 11 | 12 | 13 | 14 | 15 => rfl
  | j + 16 => rfl
theorem upd_six2 (x0 x1 x2 x3 x4 x5 x6 x7 x8 x9 x10 x11 x12 x13 x14 x15 v : Int) : upd (six x0 x1 x2 x3 x4 x5 x6 x7 x8 x9 x10 x11 x12 x13 x14 x15) 2 v = six x0 x1 v x3 x4 x5 x6 x7 x8 x9 x10 x11 x12 x13 x14 x15 := by
  funext j
  match j with
  | 0 | 1 | 2 | 3 | 4 | 5 | 6 | 7 | 8 | 9 | 10 | 11 | 12 | 13 | 14 | 15 => rfl
  | j + 16 => rfl
theorem upd_six3 (x0 x1 x2 x3 x4 x5 x6 x7 x8 x9 x10 x11 x12 x13 x14 x15 v : Int) : upd (six x0 x1 x2 x3 x4 x5 x6 x7 x8 x9 x10 x11 x12 x13 x14 x15) 3 v = six x0 x1 x2 v x4 x5 x6 x7 x8 x9 x10 x11 x12 x13 x14 x15 := by
  funext j
  match j with
  | 0 | 1 | 2 | 3 | 4 | 5 | 6 | 7 | 8 | 9 | 10 | 11 | 12 | 13 | 14 | 15 => rfl
  | j + 16 => rfl
theorem upd_six4 (x0 x1 x2 x3 x4 x5 x6 x7 x8 x9 x10 x11 x12 x13 x14 x15 v : Int) : upd (six x0 x1 x2 x3 x4 x5 x6 x7 x8 x9 x10 x11 x12 x13 x14 x15) 4 v = six x0 x1 x2 x3 v x5 x6 x7 x8 x9 x10 x11 x12 x13 x14 x15 := by
  funext j
  match j with
  | 0 | 1 | 2 | 3 | 4 | 5 | 6 | 7 | 8 | 9 | 10 | 11 | 12 | 13 | 14 | 15 => rfl
  | j + 16 => rfl
theorem upd_six5 (x0 x1 x2 x3 x4 x5 x6 x7 x8 x9 x10 x11 x12 x13 x14 x15 v : Int) : upd (six x0 x1 x2 x3 x4 x5 x6 x7 x8 x9 x10 x11 x12 x13 x14 x15) 5 v = six x0 x1 x2 x3 x4 v x6 x7 x8 x9 x10 x11 x12 x13 x14 x15 := by
  funext j
  match j with
  | 0 | 1 | 2 | 3 | 4 | 5 | 6 | 7 | 8 | 9 | 10 | 11 | 12 | 13 | 14 | 15 => rfl
  | j + 16 => rfl
theorem upd_six6 (x0 x1 x2 x3 x4 x5 x6 x7 x8 x9 x10 x11 x12 x13 x14 x15 v : Int) : upd (six x0 x1 x2 x3 x4 x5 x6 x7 x8 x9 x10 x11 x12 x13 x14 x15) 6 v = six x0 x1 x2 x3 x4 x5 v x7 x8 x9 x10 x11 x12 x13 x14 x15 := by
  funext j
  match j with
  | 0 | 1 | 2 | 3 | 4 | 5 | 6 | 7 | 8 | 9 | 10 | 11 | 12 | 13 | 14 | 15 => rfl
  | j + 16 => rfl
theorem upd_six7 (x0 x1 x2 x3 x4 x5 x6 x7 x8 x9 x10 x11 x12 x13 x14 x15 v : Int) : upd (six x0 x1 x2 x3 x4 x5 x6 x7 x8 x9 x10 x11 x12 x13 x14 x15) 7 v = six x0 x1 x2 x3 x4 x5 x6 v x8 x9 x10 x11 x12 x13 x14 x15 := by
  funext j
  match j with
  | 0 | 1 | 2 | 3 | 4 | 5 | 6 | 7 | 8 | 9 | 10 | 11 | 12 | 13 | 14 | 15 => rfl
  | j + 16 => rfl
theorem upd_six8 (x0 x1 x2 x3 x4 x5 x6 x7 x8 x9 x10 x11 x12 x13 x14 x15 v : Int) : upd (six x0 x1 x2 x3 x4 x5 x6 x7 x8 x9 x10 x11 x12 x13 x14 x15) 8 v = six x0 x1 x2 x3 x4 x5 x6 x7 v x9 x10 x11 x12 x13 x14 x15 := by
  funext j
  match j with
  | 0 | 1 | 2 | 3 | 4 | 5 | 6 | 7 | 8 | 9 | 10 | 11 | 12 | 13 | 14 | 15 => rfl
  | j + 16 => rfl
theorem upd_six9 (x0 x1 x2 x3 x4 x5 x6 x7 x8 x9 x10 x11 x12 x13 x14 x15 v : Int) : upd (six x0 x1 x2 x3 x4 x5 x6 x7 x8 x9 x10 x11 x12 x13 x14 x15) 9 v = six x0 x1 x2 x3 x4 x5 x6 x7 x8 v x10 x11 x12 x13 x14 x15 := by
  funext j
  match j with
  | 0 | 1 | 2 | 3 | 4 | 5 | 6 | 7 | 8 | 9 | 10 | 11 | 12 | 13 | 14 | 15 => rfl
  | j + 16 => rfl
theorem upd_six10 (x0 x1 x2 x3 x4 x5 x6 x7 x8 x9 x10 x11 x12 x13 x14 x15 v : Int) : upd (six x0 x1 x2 x3 x4 x5 x6 x7 x8 x9 x10 x11 x12 x13 x14 x15) 10 v = six x0 x1 x2 x3 x4 x5 x6 x7 x8 x9 v x11 x12 x13 x14 x15 := by
  funext j
  match j with
  | 0 | 1 | 2 | 3 | 4 | 5 | 6 | 7 | 8 | 9 | 10 | 11 | 12 | 13 | 14 | 15 => rfl
  | j + 16 => rfl
theorem upd_six11 (x0 x1 x2 x3 x4 x5 x6 x7 x8 x9 x10 x11 x12 x13 x14 x15 v : Int) : upd (six x0 x1 x2 x3 x4 x5 x6 x7 x8 x9 x10 x11 x12 x13 x14 x15) 11 v = six x0 x1 x2 x3 x4 x5 x6 x7 x8 x9 x10 v x12 x13 x14 x15 := by
  funext j
  match j with
  | 0 | 1 | 2 | 3 | 4 | 5 | 6 | 7 | 8 | 9 | 10 | 11 | 12 | 13 | 14 | 15 => rfl
  | j + 16 => rfl
theorem upd_six12 (x0 x1 x2 x3 x4 x5 x6 x7 x8 x9 x10 x11 x12 x13 x14 x15 v : Int) : upd (six x0 x1 x2 x3 x4 x5 x6 x7 x8 x9 x10 x11 x12 x13 x14 x15) 12 v = six x0 x1 x2 x3 x4 x5 x6 x7 x8 x9 x10 x11 v x13 x14 x15 := by
  funext j
  match j with
  | 0 | 1 | 2 | 3 | 4 | 5 | 6 | 7 | 8 | 9 | 10 | 11 | 12 | 13 | 14 | 15 => rfl
  | j + 16 => rfl
theorem upd_six13 (x0 x1 x2 x3 x4 x5 x6 x7 x8 x9 x10 x11 x12 x13 x14 x15 v : Int) : upd (six x0 x1 x2 x3 x4 x5 x6 x7 x8 x9 x10 x11 x12 x13 x14 x15) 13 v = six x0 x1 x2 x3 x4 x5 x6 x7 x8 x9 x10 x11 x12 v x14 x15 := by
  funext j
  match j with
  | 0 | 1 | 2 | 3 | 4 | 5 | 6 | 7 | 8 | 9 | 10 | 11 | 12 | 13 | 14 | 15 => rfl
  | j + 16 => rfl
theorem upd_six14 (x0 x1 x2 x3 x4 x5 x6 x7 x8 x9 x10 x11 x12 x13 x14 x15 v : Int) : upd (six x0 x1 x2 x3 x4 x5 x6 x7 x8 x9 x10 x11 x12 x13 x14 x15) 14 v = six x0 x1 x2 x3 x4 x5 x6 x7 x8 x9 x10 x11 x12 x13 v x15 := by
  funext j
  match j with
  | 0 | 1 | 2 | 3 | 4 | 5 | 6 | 7 | 8 | 9 | 10 | 11 | 12 | 13 | 14 | 15 => rfl
  | j + 16 => rfl
theorem upd_six15 (x0 x1 x2 x3 x4 x5 x6 x7 x8 x9 x10 x11 x12 x13 x14 x15 v : Int) : upd (six x0 x1 x2 x3 x4 x5 x6 x7 x8 x9 x10 x11 x12 x13 x14 x15) 15 v = six x0 x1 x2 x3 x4 x5 x6 x7 x8 x9 x10 x11 x12 x13 x14 v := by
  funext j
  match j with
  | 0 | 1 | 2 | 3 | 4 | 5 | 6 | 7 | 8 | 9 | 10 | 11 | 12 | 13 | 14 | 15 => rfl
  | j + 16 => rfl
theorem tAt_six0 (x0 x1 x2 x3 x4 x5 x6 x7 x8 x9 x10 x11 x12 x13 x14 x15 : Int) : tAt (six x0 x1 x2 x3 x4 x5 x6 x7 x8 x9 x10 x11 x12 x13 x14 x15) 0 = six (qA x0 x4 x8 x12) x1 x2 x3 (qB x0 x4 x8 x12) x5 x6 x7 (qC x0 x4 x8 x12) x9 x10 x11 (qD x0 x4 x8 x12) x13 x14 x15 := by
  show upd (upd (upd (upd (six x0 x1 x2 x3 x4 x5 x6 x7 x8 x9 x10 x11 x12 x13 x14 x15) 0 (qA x0 x4 x8 x12)) 4 (qB x0 x4 x8 x12)) 8 (qC x0 x4 x8 x12)) 12 (qD x0 x4 x8 x12) = _
  rw [upd_six0, upd_six4, upd_six8, upd_six12]
theorem tAt_six1 (x0 x1 x2 x3 x4 x5 x6 x7 x8 x9 x10 x11 x12 x13 x14 x15 : Int) : tAt (six x0 x1 x2 x3 x4 x5 x6 x7 x8 x9 x10 x11 x12 x13 x14 x15) 1 = six x0 (qA x1 x5 x9 x13) x2 x3 x4 (qB x1 x5 x9 x13) x6 x7 x8 (qC x1 x5 x9 x13) x10 x11 x12 (qD x1 x5 x9 x13) x14 x15 := by
  show upd (upd (upd (upd (six x0 x1 x2 x3 x4 x5 x6 x7 x8 x9 x10 x11 x12 x13 x14 x15) 1 (qA x1 x5 x9 x13)) 5 (qB x1 x5 x9 x13)) 9 (qC x1 x5 x9 x13)) 13 (qD x1 x5 x9 x13) = _
  rw [upd_six1, upd_six5, upd_six9, upd_six13]
theorem tAt_six2 (x0 x1 x2 x3 x4 x5 x6 x7 x8 x9 x10 x11 x12 x13 x14 x15 : Int) : tAt (six x0 x1 x2 x3 x4 x5 x6 x7 x8 x9 x10 x11 x12 x13 x14 x15) 2 = six x0 x1 (qA x2 x6 x10 x14) x3 x4 x5 (qB x2 x6 x10 x14) x7 x8 x9 (qC x2 x6 x10 x14) x11 x12 x13 (qD x2 x6 x10 x14) x15 := by
  show upd (upd (upd (upd (six x0 x1 x2 x3 x4 x5 x6 x7 x8 x9 x10 x11 x12 x13 x14 x15) 2 (qA x2 x6 x10 x14)) 6 (qB x2 x6 x10 x14)) 10 (qC x2 x6 x10 x14)) 14 (qD x2 x6 x10 x14) = _
  rw [upd_six2, upd_six6, upd_six10, upd_six14]
theorem tAt_six3 (x0 x1 x2 x3 x4 x5 x6 x7 x8 x9 x10 x11 x12 x13 x14 x15 : Int) : tAt (six x0 x1 x2 x3 x4 x5 x6 x7 x8 x9 x10 x11 x12 x13 x14 x15) 3 = six x0 x1 x2 (qA x3 x7 x11 x15) x4 x5 x6 (qB x3 x7 x11 x15) x8 x9 x10 (qC x3 x7 x11 x15) x12 x13 x14 (qD x3 x7 x11 x15) := by
  show upd (upd (upd (upd (six x0 x1 x2 x3 x4 x5 x6 x7 x8 x9 x10 x11 x12 x13 x14 x15) 3 (qA x3 x7 x11 x15)) 7 (qB x3 x7 x11 x15)) 11 (qC x3 x7 x11 x15)) 15 (qD x3 x7 x11 x15) = _
  rw [upd_six3, upd_six7, upd_six11, upd_six15]
theorem tAt_six4 (x0 x1 x2 x3 x4 x5 x6 x7 x8 x9 x10 x11 x12 x13 x14 x15 : Int) : tAt (six x0 x1 x2 x3 x4 x5 x6 x7 x8 x9 x10 x11 x12 x13 x14 x15) 4 = six (qA x0 x5 x10 x15) x1 x2 x3 x4 (qB x0 x5 x10 x15) x6 x7 x8 x9 (qC x0 x5 x10 x15) x11 x12 x13 x14 (qD x0 x5 x10 x15) := by
  show upd (upd (upd (upd (six x0 x1 x2 x3 x4 x5 x6 x7 x8 x9 x10 x11 x12 x13 x14 x15) 0 (qA x0 x5 x10 x15)) 5 (qB x0 x5 x10 x15)) 10 (qC x0 x5 x10 x15)) 15 (qD x0 x5 x10 x15) = _
  rw [upd_six0, upd_six5, upd_six10, upd_six15]
theorem tAt_six5 (x0 x1 x2 x3 x4 x5 x6 x7 x8 x9 x10 x11 x12 x13 x14 x15 : Int) : tAt (six x0 x1 x2 x3 x4 x5 x6 x7 x8 x9 x10 x11 x12 x13 x14 x15) 5 = six x0 (qA x1 x6 x11 x12) x2 x3 x4 x5 (qB x1 x6 x11 x12) x7 x8 x9 x10 (qC x1 x6 x11 x12) (qD x1 x6 x11 x12) x13 x14 x15 := by
  show upd (upd (upd (upd (six x0 x1 x2 x3 x4 x5 x6 x7 x8 x9 x10 x11 x12 x13 x14 x15) 1 (qA x1 x6 x11 x12)) 6 (qB x1 x6 x11 x12)) 11 (qC x1 x6 x11 x12)) 12 (qD x1 x6 x11 x12) = _
  rw [upd_six1, upd_six6, upd_six11, upd_six12]
theorem tAt_six6 (x0 x1 x2 x3 x4 x5 x6 x7 x8 x9 x10 x11 x12 x13 x14 x15 : Int) : tAt (six x0 x1 x2 x3 x4 x5 x6 x7 x8 x9 x10 x11 x12 x13 x14 x15) 6 = six x0 x1 (qA x2 x7 x8 x13) x3 x4 x5 x6 (qB x2 x7 x8 x13) (qC x2 x7 x8 x13) x9 x10 x11 x12 (qD x2 x7 x8 x13) x14 x15 := by
  show upd (upd (upd (upd (six x0 x1 x2 x3 x4 x5 x6 x7 x8 x9 x10 x11 x12 x13 x14 x15) 2 (qA x2 x7 x8 x13)) 7 (qB x2 x7 x8 x13)) 8 (qC x2 x7 x8 x13)) 13 (qD x2 x7 x8 x13) = _
  rw [upd_six2, upd_six7, upd_six8, upd_six13]
theorem tAt_six7 (x0 x1 x2 x3 x4 x5 x6 x7 x8 x9 x10 x11 x12 x13 x14 x15 : Int) : tAt (six x0 x1 x2 x3 x4 x5 x6 x7 x8 x9 x10 x11 x12 x13 x14 x15) 7 = six x0 x1 x2 (qA x3 x4 x9 x14) (qB x3 x4 x9 x14) x5 x6 x7 x8 (qC x3 x4 x9 x14) x10 x11 x12 x13 (qD x3 x4 x9 x14) x15 := by
  show upd (upd (upd (upd (six x0 x1 x2 x3 x4 x5 x6 x7 x8 x9 x10 x11 x12 x13 x14 x15) 3 (qA x3 x4 x9 x14)) 4 (qB x3 x4 x9 x14)) 9 (qC x3 x4 x9 x14)) 14 (qD x3 x4 x9 x14) = _
  rw [upd_six3, upd_six4, upd_six9, upd_six14]

def forceN {α : Type} (t : Nat) (f : Nat → α) : α :=
  match t with
  | 0 => f 0
  | m + 1 => f (m + 1)
theorem forceN_eq {α : Type} (t : Nat) (f : Nat → α) : forceN t f = f t := by cases t <;> rfl
def forceI {α : Type} (t : Int) (f : Int → α) : α :=
  match t with
  | .ofNat m => forceN m fun m => f (.ofNat m)
  | .negSucc m => f (.negSucc m)
theorem forceI_eq {α : Type} (t : Int) (f : Int → α) : forceI t f = f t := by
  cases t with
  | ofNat m => exact forceN_eq m (fun m => f (.ofNat m))
  | negSucc m => rfl
/-- A double round of sixteen words, each number reckoned at once. -/
def ev8 {α : Type} (x0 x1 x2 x3 x4 x5 x6 x7 x8 x9 x10 x11 x12 x13 x14 x15 : Int) (f : Int → Int → Int → Int → Int → Int → Int → Int → Int → Int → Int → Int → Int → Int → Int → Int → α) : α :=
  forceI (had x0 x4) fun x0 => forceI (hrl 16 (hxr x12 x0)) fun x12 => forceI (had x8 x12) fun x8 => forceI (hrl 12 (hxr x4 x8)) fun x4 =>
  forceI (had x0 x4) fun x0 => forceI (hrl 8 (hxr x12 x0)) fun x12 => forceI (had x8 x12) fun x8 => forceI (hrl 7 (hxr x4 x8)) fun x4 =>
  forceI (had x1 x5) fun x1 => forceI (hrl 16 (hxr x13 x1)) fun x13 => forceI (had x9 x13) fun x9 => forceI (hrl 12 (hxr x5 x9)) fun x5 =>
  forceI (had x1 x5) fun x1 => forceI (hrl 8 (hxr x13 x1)) fun x13 => forceI (had x9 x13) fun x9 => forceI (hrl 7 (hxr x5 x9)) fun x5 =>
  forceI (had x2 x6) fun x2 => forceI (hrl 16 (hxr x14 x2)) fun x14 => forceI (had x10 x14) fun x10 => forceI (hrl 12 (hxr x6 x10)) fun x6 =>
  forceI (had x2 x6) fun x2 => forceI (hrl 8 (hxr x14 x2)) fun x14 => forceI (had x10 x14) fun x10 => forceI (hrl 7 (hxr x6 x10)) fun x6 =>
  forceI (had x3 x7) fun x3 => forceI (hrl 16 (hxr x15 x3)) fun x15 => forceI (had x11 x15) fun x11 => forceI (hrl 12 (hxr x7 x11)) fun x7 =>
  forceI (had x3 x7) fun x3 => forceI (hrl 8 (hxr x15 x3)) fun x15 => forceI (had x11 x15) fun x11 => forceI (hrl 7 (hxr x7 x11)) fun x7 =>
  forceI (had x0 x5) fun x0 => forceI (hrl 16 (hxr x15 x0)) fun x15 => forceI (had x10 x15) fun x10 => forceI (hrl 12 (hxr x5 x10)) fun x5 =>
  forceI (had x0 x5) fun x0 => forceI (hrl 8 (hxr x15 x0)) fun x15 => forceI (had x10 x15) fun x10 => forceI (hrl 7 (hxr x5 x10)) fun x5 =>
  forceI (had x1 x6) fun x1 => forceI (hrl 16 (hxr x12 x1)) fun x12 => forceI (had x11 x12) fun x11 => forceI (hrl 12 (hxr x6 x11)) fun x6 =>
  forceI (had x1 x6) fun x1 => forceI (hrl 8 (hxr x12 x1)) fun x12 => forceI (had x11 x12) fun x11 => forceI (hrl 7 (hxr x6 x11)) fun x6 =>
  forceI (had x2 x7) fun x2 => forceI (hrl 16 (hxr x13 x2)) fun x13 => forceI (had x8 x13) fun x8 => forceI (hrl 12 (hxr x7 x8)) fun x7 =>
  forceI (had x2 x7) fun x2 => forceI (hrl 8 (hxr x13 x2)) fun x13 => forceI (had x8 x13) fun x8 => forceI (hrl 7 (hxr x7 x8)) fun x7 =>
  forceI (had x3 x4) fun x3 => forceI (hrl 16 (hxr x14 x3)) fun x14 => forceI (had x9 x14) fun x9 => forceI (hrl 12 (hxr x4 x9)) fun x4 =>
  forceI (had x3 x4) fun x3 => forceI (hrl 8 (hxr x14 x3)) fun x14 => forceI (had x9 x14) fun x9 => forceI (hrl 7 (hxr x4 x9)) fun x4 =>
  f x0 x1 x2 x3 x4 x5 x6 x7 x8 x9 x10 x11 x12 x13 x14 x15
def evN : Nat → Int → Int → Int → Int → Int → Int → Int → Int → Int → Int → Int → Int → Int → Int → Int → Int → Nat → Int
  | 0, x0, x1, x2, x3, x4, x5, x6, x7, x8, x9, x10, x11, x12, x13, x14, x15 => six x0 x1 x2 x3 x4 x5 x6 x7 x8 x9 x10 x11 x12 x13 x14 x15
  | n + 1, x0, x1, x2, x3, x4, x5, x6, x7, x8, x9, x10, x11, x12, x13, x14, x15 => ev8 x0 x1 x2 x3 x4 x5 x6 x7 x8 x9 x10 x11 x12 x13 x14 x15 (evN n)
theorem evN_eq : ∀ (n : Nat) (x0 x1 x2 x3 x4 x5 x6 x7 x8 x9 x10 x11 x12 x13 x14 x15 : Int), evN n x0 x1 x2 x3 x4 x5 x6 x7 x8 x9 x10 x11 x12 x13 x14 x15 = drN (six x0 x1 x2 x3 x4 x5 x6 x7 x8 x9 x10 x11 x12 x13 x14 x15) n
  | 0, _, _, _, _, _, _, _, _, _, _, _, _, _, _, _, _ => rfl
  | n + 1, x0, x1, x2, x3, x4, x5, x6, x7, x8, x9, x10, x11, x12, x13, x14, x15 => by
    rw [drN_first]
    show ev8 x0 x1 x2 x3 x4 x5 x6 x7 x8 x9 x10 x11 x12 x13 x14 x15 (evN n) = drN (tAt (tAt (tAt (tAt (tAt (tAt (tAt (tAt (six x0 x1 x2 x3 x4 x5 x6 x7 x8 x9 x10 x11 x12 x13 x14 x15) 0) 1) 2) 3) 4) 5) 6) 7) n
    rw [tAt_six0, tAt_six1, tAt_six2, tAt_six3, tAt_six4, tAt_six5, tAt_six6, tAt_six7, ← evN_eq n]
    simp only [ev8, forceI_eq]
    rfl

/-- A word of four bytes; a word's bytes. -/
def w32 (a : Nat → Int) (o : Nat) : Int := a o + a (o + 1) * 256 + a (o + 2) * 65536 + a (o + 3) * 16777216
theorem w32_in (a : Nat → Int) (o n : Nat) (ho : o + 4 ≤ n) (h : In 256 n a) : 0 ≤ w32 a o ∧ w32 a o < V := by
  have h0 := h o (by omega)
  have h1 := h (o + 1) (by omega)
  have h2 := h (o + 2) (by omega)
  have h3 := h (o + 3) (by omega)
  unfold w32
  simp only [V]
  omega
def b32 (x : Int) : Nat → Int
  | 0 => x % 256
  | 1 => x / 256 % 256
  | 2 => x / 65536 % 256
  | 3 => x / 16777216 % 256
  | _ + 4 => 0
theorem b32_in (x : Int) : In 256 4 (b32 x)
  | 0, _ => by show 0 ≤ x % 256 ∧ x % 256 < 256; omega
  | 1, _ => by show 0 ≤ x / 256 % 256 ∧ x / 256 % 256 < 256; omega
  | 2, _ => by show 0 ≤ x / 65536 % 256 ∧ x / 65536 % 256 < 256; omega
  | 3, _ => by show 0 ≤ x / 16777216 % 256 ∧ x / 16777216 % 256 < 256; omega
  | _ + 4, h => by omega

/-- What a block is made of. -/
def hst (k : Nat → Int) (c : Int) (n : Nat → Int) : Nat → Int := six 1634760805 857760878 2036477234 1797285236 (w32 k 0) (w32 k 4) (w32 k 8) (w32 k 12) (w32 k 16) (w32 k 20) (w32 k 24) (w32 k 28) c (w32 n 0) (w32 n 4) (w32 n 8)
theorem hst_in (k : Nat → Int) (c : Int) (n : Nat → Int) (hk : In 256 32 k) (hc : 0 ≤ c ∧ c < V) (hn : In 256 12 n) : In V 16 (hst k c n) :=
  six_in _ _ _ _ _ _ _ _ _ _ _ _ _ _ _ _ (by decide) (by decide) (by decide) (by decide) (w32_in k 0 32 (by omega) hk) (w32_in k 4 32 (by omega) hk) (w32_in k 8 32 (by omega) hk) (w32_in k 12 32 (by omega) hk) (w32_in k 16 32 (by omega) hk) (w32_in k 20 32 (by omega) hk) (w32_in k 24 32 (by omega) hk) (w32_in k 28 32 (by omega) hk) hc (w32_in n 0 12 (by omega) hn) (w32_in n 4 12 (by omega) hn) (w32_in n 8 12 (by omega) hn)
/-- The words of a block, and its bytes. -/
def hwd (k : Nat → Int) (c : Int) (n : Nat → Int) (i : Nat) : Int := had (drN (hst k c n) 10 i) (hst k c n i)
def hblk (k : Nat → Int) (c : Int) (n : Nat → Int) : Nat → Int := fun j => b32 (hwd k c n (j / 4)) (j % 4)
theorem hblk_in (k : Nat → Int) (c : Int) (n : Nat → Int) (m : Nat) : In 256 m (hblk k c n) := fun j _ => b32_in _ _ (Nat.mod_lt _ (by decide))
/-- What is laid over. -/
def hxor (k : Nat → Int) (c : Int) (n : Nat → Int) (z : Nat → Int) : Nat → Int := fun j => bits .xor .u8 (z j) (hblk k ((c + ((j / 64 : Nat) : Int)) % 4294967296) n (j % 64))
theorem u8_xor_in (x y : Int) (hx : 0 ≤ x ∧ x < 256) (hy : 0 ≤ y ∧ y < 256) : 0 ≤ bits .xor .u8 x y ∧ bits .xor .u8 x y < 256 := by
  obtain ⟨x, rfl⟩ := Int.eq_ofNat_of_zero_le hx.1
  obtain ⟨y, rfl⟩ := Int.eq_ofNat_of_zero_le hy.1
  rw [u8_xor_nat x y (by omega) (by omega)]
  have h := Nat.xor_lt_two_pow (n := 8) (x := x) (y := y) (by omega) (by omega)
  omega
theorem hxor_in (k : Nat → Int) (c : Int) (n : Nat → Int) (z : Nat → Int) (m : Nat) (hz : In 256 m z) : In 256 m (hxor k c n z) := fun j hj => u8_xor_in _ _ (hz j hj) (hblk_in _ _ _ 64 _ (Nat.mod_lt _ (by decide)))
theorem or_step32 (M s : Nat) (hM : M = 2 ^ s) (hb : M * 256 ≤ 4294967296) (a x : Int) (h0 : 0 ≤ a) (h1 : a < M) (x0 : 0 ≤ x) (x1 : x < 256) :
    bits BinOp.or IntKind.u32 a (x % 4294967296 * (M : Int) % 4294967296) = a + x * (M : Int) := by
  obtain ⟨a, rfl⟩ := Int.eq_ofNat_of_zero_le h0
  obtain ⟨x, rfl⟩ := Int.eq_ofNat_of_zero_le x0
  have hx : x * M + M ≤ 256 * M := by rw [← Nat.succ_mul]; exact Nat.mul_le_mul_right M (by omega)
  have e1 : (x : Int) % 4294967296 = (x : Int) := by omega
  have e2 : (x : Int) * (M : Int) = ((x * M : Nat) : Int) := (Int.natCast_mul x M).symm
  have e3 : ((x * M : Nat) : Int) % 4294967296 = ((x * M : Nat) : Int) := by omega
  rw [e1, e2, e3, u32_or_nat a (x * M) (by omega) (by omega)]
  have h := Nat.two_pow_add_eq_or_of_lt (i := s) (b := a) (by omega) x
  rw [← hM, Nat.mul_comm M x] at h
  rw [Nat.or_comm, ← h]
  omega
theorem glued32 (x0 x1 x2 x3 : Int) (h0 : 0 ≤ x0 ∧ x0 < 256) (h1 : 0 ≤ x1 ∧ x1 < 256) (h2 : 0 ≤ x2 ∧ x2 < 256) (h3 : 0 ≤ x3 ∧ x3 < 256) :
    bits BinOp.or IntKind.u32 (bits BinOp.or IntKind.u32 (bits BinOp.or IntKind.u32 (x0 % 4294967296) (x1 % 4294967296 * 256 % 4294967296)) (x2 % 4294967296 * 65536 % 4294967296)) (x3 % 4294967296 * 16777216 % 4294967296) = x0 + x1 * 256 + x2 * 65536 + x3 * 16777216 := by
  have e0 : x0 % 4294967296 = x0 := by omega
  have e1 := or_step32 256 8 (by decide) (by decide) (x0) x1 (by omega) (by omega) h1.1 h1.2
  have e2 := or_step32 65536 16 (by decide) (by decide) (x0 + x1 * ((256 : Nat) : Int)) x2 (by omega) (by omega) h2.1 h2.2
  have e3 := or_step32 16777216 24 (by decide) (by decide) (x0 + x1 * ((256 : Nat) : Int) + x2 * ((65536 : Nat) : Int)) x3 (by omega) (by omega) h3.1 h3.2
  simp only [Int.cast_ofNat_Int] at e1 e2 e3
  rw [e0, e1, e2, e3]
end Go.Proofs.YteclkiabkdaklaaDoor

namespace Go.Proofs.YteclkiabkdaklaaDoor
open Go.RowKit

set_option maxRecDepth 10000 in
set_option maxHeartbeats 4000000 in
theorem of32_raw (B o l c : Nat) (hl : 4 ≤ l) (x0 x1 x2 x3 : Int) (h0 : 0 ≤ x0 ∧ x0 < 256) (h1 : 0 ≤ x1 ∧ x1 < 256) (h2 : 0 ≤ x2 ∧ x2 < 256) (h3 : 0 ≤ x3 ∧ x3 < 256) (w : World) (c0 : w.cell? ⟨B, o, none⟩ = some (.int .u8 x0)) (c1 : w.cell? ⟨B, o + 1, none⟩ = some (.int .u8 x1)) (c2 : w.cell? ⟨B, o + 2, none⟩ = some (.int .u8 x2)) (c3 : w.cell? ⟨B, o + 3, none⟩ = some (.int .u8 x3)) :
    Calls Tryd.prog 45 #[.slice (some ⟨B, o, none⟩) l c] w fun e w' => ∃ q, e = .returned (.int .u32 (x0 + x1 * 256 + x2 * 65536 + x3 * 16777216)) ∧ w' = w.drewN q := by
  have hg := glued32 x0 x1 x2 x3 h0 h1 h2 h3
  have HG := show Hid _ from hg
  have l0 : (0 : Int) < (l : Int) := by omega
  have l1 : (1 : Int) < (l : Int) := by omega
  have l2 : (2 : Int) < (l : Int) := by omega
  have l3 : (3 : Int) < (l : Int) := by omega
  clear hg h0 h1 h2 h3 hl
  go_enter Tryd.func45, Tryd.ntmps45
  go_wp2
  go_quiet (fail)
  go_wp2
  go_ret
  exact ⟨nq, by rw [HG.out]; rfl, rfl⟩
theorem of32_any (B o n l c : Nat) (a : Nat → Int) (hl : 4 ≤ l) (ho : o + 4 ≤ n) (ha : In 256 n a) (w : World) (h : Has w B .u8 n a) :
    Calls Tryd.prog 45 #[.slice (some ⟨B, o, none⟩) l c] w fun e w' => ∃ q, e = .returned (.int .u32 (w32 a o)) ∧ w' = w.drewN q :=
  of32_raw B o l c hl _ _ _ _ (ha o (by omega)) (ha (o + 1) (by omega)) (ha (o + 2) (by omega)) (ha (o + 3) (by omega)) w (h.cell o (by omega)) (h.cell (o + 1) (by omega)) (h.cell (o + 2) (by omega)) (h.cell (o + 3) (by omega))

set_option maxRecDepth 10000 in
set_option maxHeartbeats 4000000 in
theorem put32_raw (B o l c : Nat) (hl : 4 ≤ l) (x : Int) (y0 y1 y2 y3 : Int) (w : World) (c0 : w.cell? ⟨B, o, none⟩ = some (.int .u8 y0)) (f0 : w.frozen? ⟨B, o, none⟩ = false) (c1 : w.cell? ⟨B, o + 1, none⟩ = some (.int .u8 y1)) (f1 : w.frozen? ⟨B, o + 1, none⟩ = false) (c2 : w.cell? ⟨B, o + 2, none⟩ = some (.int .u8 y2)) (f2 : w.frozen? ⟨B, o + 2, none⟩ = false) (c3 : w.cell? ⟨B, o + 3, none⟩ = some (.int .u8 y3)) (f3 : w.frozen? ⟨B, o + 3, none⟩ = false) :
    Calls Tryd.prog 32 #[.slice (some ⟨B, o, none⟩) l c, .int .u32 x] w fun e w' => e = .returned (.tuple #[]) ∧ w' = ((((w.setCell ⟨B, o, none⟩ (.int .u8 (x % 256))).setCell ⟨B, o + 1, none⟩ (.int .u8 (x / 256 % 256))).setCell ⟨B, o + 2, none⟩ (.int .u8 (x / 65536 % 256))).setCell ⟨B, o + 3, none⟩ (.int .u8 (x / 16777216 % 256))) := by
  have l0 : (0 : Int) < (l : Int) := by omega
  have l1 : (1 : Int) < (l : Int) := by omega
  have l2 : (2 : Int) < (l : Int) := by omega
  have l3 : (3 : Int) < (l : Int) := by omega
  clear hl
  go_enter Tryd.func32, Tryd.ntmps32
  go_wp2
  go_end0
  exact ⟨rfl, rfl⟩
theorem put32_any (B o n l c : Nat) (hl : 4 ≤ l) (g : Nat → Int) (x : Int) (ho : o + 4 ≤ n) (w : World) (h : Has w B .u8 n g) :
    Calls Tryd.prog 32 #[.slice (some ⟨B, o, none⟩) l c, .int .u32 x] w fun e w' => e = .returned (.tuple #[]) ∧ w' = w.setCells B o (row .u8 4 (b32 x)) :=
  put32_raw B o l c hl x _ _ _ _ w (h.cell o (by omega)) (h.free o (by omega)) (h.cell (o + 1) (by omega)) (h.free (o + 1) (by omega)) (h.cell (o + 2) (by omega)) (h.free (o + 2) (by omega)) (h.cell (o + 3) (by omega)) (h.free (o + 3) (by omega))

set_option maxHeartbeats 1000000 in
theorem rot_any (n : Nat) (hn : n = 16 ∨ n = 12 ∨ n = 8 ∨ n = 7) (x : Int) (w : World) :
    Calls Tryd.prog 60 #[.int .u32 x, .int .i64 n] w fun e w' => e = .returned (.int .u32 (hrl n x)) ∧ w' = w := by
  rcases hn with rfl | rfl | rfl | rfl
  · have hm : bits BinOp.and IntKind.u64 16 31 = 16 := by decide +kernel
    go_enter Tryd.func60, Tryd.ntmps60
    go_wp2
    go_ret
    exact ⟨rfl, rfl⟩
  · have hm : bits BinOp.and IntKind.u64 12 31 = 12 := by decide +kernel
    go_enter Tryd.func60, Tryd.ntmps60
    go_wp2
    go_ret
    exact ⟨rfl, rfl⟩
  · have hm : bits BinOp.and IntKind.u64 8 31 = 8 := by decide +kernel
    go_enter Tryd.func60, Tryd.ntmps60
    go_wp2
    go_ret
    exact ⟨rfl, rfl⟩
  · have hm : bits BinOp.and IntKind.u64 7 31 = 7 := by decide +kernel
    go_enter Tryd.func60, Tryd.ntmps60
    go_wp2
    go_ret
    exact ⟨rfl, rfl⟩

/-- Four words as the answer. -/
theorem results_four {P : Program} {fn : Func} {tmps : Array Value} {w : World} {a b c d : Tmp} {u v x y : Value} (hr : fn.results = #[.tmp a, .tmp b, .tmp c, .tmp d])
    (ha : tmps.getD a undef = u) (hb : tmps.getD b undef = v) (hc : tmps.getD c undef = x) (hd : tmps.getD d undef = y) :
    (results fn tmps).run P w = .ok (.tuple #[u, v, x, y]) w := by
  rw [Array.getD_eq_getD_getElem?] at ha hb hc hd
  simp [results, hr, ha, hb, hc, hd]

set_option maxHeartbeats 1000000 in
theorem rotR_any (n : Int) (p : Nat) (hn : (n = -16 ∧ p = 16) ∨ (n = -12 ∧ p = 20) ∨ (n = -8 ∧ p = 24) ∨ (n = -7 ∧ p = 25)) (x : Int) (w : World) :
    Calls Tryd.prog 60 #[.int .u32 x, .int .i64 n] w fun e w' => e = .returned (.int .u32 (hrl p x)) ∧ w' = w := by
  rcases hn with ⟨rfl, rfl⟩ | ⟨rfl, rfl⟩ | ⟨rfl, rfl⟩ | ⟨rfl, rfl⟩
  · have hm : bits BinOp.and IntKind.u64 (IntKind.u64.wrap (-16)) 31 = 16 := by decide +kernel
    go_enter Tryd.func60, Tryd.ntmps60
    go_wp2
    go_ret
    exact ⟨rfl, rfl⟩
  · have hm : bits BinOp.and IntKind.u64 (IntKind.u64.wrap (-12)) 31 = 20 := by decide +kernel
    go_enter Tryd.func60, Tryd.ntmps60
    go_wp2
    go_ret
    exact ⟨rfl, rfl⟩
  · have hm : bits BinOp.and IntKind.u64 (IntKind.u64.wrap (-8)) 31 = 24 := by decide +kernel
    go_enter Tryd.func60, Tryd.ntmps60
    go_wp2
    go_ret
    exact ⟨rfl, rfl⟩
  · have hm : bits BinOp.and IntKind.u64 (IntKind.u64.wrap (-7)) 31 = 25 := by decide +kernel
    go_enter Tryd.func60, Tryd.ntmps60
    go_wp2
    go_ret
    exact ⟨rfl, rfl⟩
end Go.Proofs.YteclkiabkdaklaaDoor

namespace Go.Proofs.YteclkiabkdaklaaDoor
open Go.RowKit

set_option maxHeartbeats 1000000 in
theorem turn_any (a b c d : Int) (w : World) :
    Calls Tryd.prog 46 #[.int .u32 a, .int .u32 b, .int .u32 c, .int .u32 d] w fun e w' => e = .returned (.tuple #[.int .u32 (qA a b c d), .int .u32 (qB a b c d), .int .u32 (qC a b c d), .int .u32 (qD a b c d)]) ∧ w' = w := by
  go_enter Tryd.func46, Tryd.ntmps46
  go_wp2_with fail
  refine (rot_any 16 (.inl rfl) _ _).mono ?_
  rintro e w16 ⟨rfl, rfl⟩
  go_wp2_with fail
  refine (rot_any 12 (.inr (.inl rfl)) _ _).mono ?_
  rintro e w12 ⟨rfl, rfl⟩
  go_wp2_with fail
  refine (rot_any 8 (.inr (.inr (.inl rfl))) _ _).mono ?_
  rintro e w8 ⟨rfl, rfl⟩
  go_wp2_with fail
  refine (rot_any 7 (.inr (.inr (.inr rfl))) _ _).mono ?_
  rintro e w7 ⟨rfl, rfl⟩
  go_wp2_with fail
  exact bodyPost_ret (results_four Tryd.results46 rfl rfl rfl rfl) rfl ⟨by simp only [qA, qB, qC, qD, hA, hB, hC, hD, hxr, had, Int.emod_add_emod]; rfl, rfl⟩
end Go.Proofs.YteclkiabkdaklaaDoor

namespace Go.Proofs.YteclkiabkdaklaaDoor
open Go.RowKit

theorem hq_info (f : Nat → Int) : (Tryd.prog.info? 54).map (·.size) = some (row .u32 4 f).length := by rw [row_length]; kernel_rfl
theorem hq_info' (f : Nat → Int) : (Tryd.prog.info? 54).map (·.size) = some (row .u32 4 f).toArray.size := by rw [List.size_toArray]; exact hq_info f
theorem hq_there {w : World} {b : Nat} {f g : Nat → Int} (h : Has w b .u32 4 f) : w.there b 0 (row .u32 4 g).toArray.size := by rw [List.size_toArray, row_length]; exact h.there
theorem hq_zero (w : World) (t : TypeId) (b : Nat) (hb : b = w.heap.size) : Has (w.alloc (.cells #[.int .u32 0, .int .u32 0, .int .u32 0, .int .u32 0] t)) b .u32 4 (fun _ => 0) := Has.new w .u32 4 (fun _ => 0) t b hb
theorem hs_info (f : Nat → Int) : (Tryd.prog.info? 57).map (·.size) = some (row .u32 16 f).length := by rw [row_length]; kernel_rfl
theorem hs_info' (f : Nat → Int) : (Tryd.prog.info? 57).map (·.size) = some (row .u32 16 f).toArray.size := by rw [List.size_toArray]; exact hs_info f
theorem hs_there {w : World} {b : Nat} {f g : Nat → Int} (h : Has w b .u32 16 f) : w.there b 0 (row .u32 16 g).toArray.size := by rw [List.size_toArray, row_length]; exact h.there
theorem hs_zero (w : World) (t : TypeId) (b : Nat) (hb : b = w.heap.size) : Has (w.alloc (.cells #[.int .u32 0, .int .u32 0, .int .u32 0, .int .u32 0, .int .u32 0, .int .u32 0, .int .u32 0, .int .u32 0, .int .u32 0, .int .u32 0, .int .u32 0, .int .u32 0, .int .u32 0, .int .u32 0, .int .u32 0, .int .u32 0] t)) b .u32 16 (fun _ => 0) := Has.new w .u32 16 (fun _ => 0) t b hb
theorem hn_info (f : Nat → Int) : (Tryd.prog.info? 25).map (·.size) = some (row .u8 12 f).length := by rw [row_length]; kernel_rfl
theorem hn_info' (f : Nat → Int) : (Tryd.prog.info? 25).map (·.size) = some (row .u8 12 f).toArray.size := by rw [List.size_toArray]; exact hn_info f
theorem hn_there {w : World} {b : Nat} {f g : Nat → Int} (h : Has w b .u8 12 f) : w.there b 0 (row .u8 12 g).toArray.size := by rw [List.size_toArray, row_length]; exact h.there
theorem hb_info (f : Nat → Int) : (Tryd.prog.info? 43).map (·.size) = some (row .u8 64 f).length := by rw [row_length]; kernel_rfl
theorem hb_info' (f : Nat → Int) : (Tryd.prog.info? 43).map (·.size) = some (row .u8 64 f).toArray.size := by rw [List.size_toArray]; exact hb_info f
theorem hb_there {w : World} {b : Nat} {f g : Nat → Int} (h : Has w b .u8 64 f) : w.there b 0 (row .u8 64 g).toArray.size := by rw [List.size_toArray, row_length]; exact h.there
theorem hb_zero (w : World) (t : TypeId) (b : Nat) (hb : b = w.heap.size) : Has (w.alloc (.cells #[.int .u8 0, .int .u8 0, .int .u8 0, .int .u8 0, .int .u8 0, .int .u8 0, .int .u8 0, .int .u8 0, .int .u8 0, .int .u8 0, .int .u8 0, .int .u8 0, .int .u8 0, .int .u8 0, .int .u8 0, .int .u8 0, .int .u8 0, .int .u8 0, .int .u8 0, .int .u8 0, .int .u8 0, .int .u8 0, .int .u8 0, .int .u8 0, .int .u8 0, .int .u8 0, .int .u8 0, .int .u8 0, .int .u8 0, .int .u8 0, .int .u8 0, .int .u8 0, .int .u8 0, .int .u8 0, .int .u8 0, .int .u8 0, .int .u8 0, .int .u8 0, .int .u8 0, .int .u8 0, .int .u8 0, .int .u8 0, .int .u8 0, .int .u8 0, .int .u8 0, .int .u8 0, .int .u8 0, .int .u8 0, .int .u8 0, .int .u8 0, .int .u8 0, .int .u8 0, .int .u8 0, .int .u8 0, .int .u8 0, .int .u8 0, .int .u8 0, .int .u8 0, .int .u8 0, .int .u8 0, .int .u8 0, .int .u8 0, .int .u8 0, .int .u8 0] t)) b .u8 64 (fun _ => 0) := Has.new w .u8 64 (fun _ => 0) t b hb

/-- The two tables. -/
def hfst : Nat → Int := quad 1634760805 857760878 2036477234 1797285236
def plc (j : Nat) : Int := if j % 4 = 0 then (pA (j / 4) : Int) else if j % 4 = 1 then (pB (j / 4) : Int) else if j % 4 = 2 then (pC (j / 4) : Int) else (pD (j / 4) : Int)
structure HGlob (w : World) : Prop where
  first : ∀ j, j < 4 → w.cell? ⟨0, j, none⟩ = some (.int .u32 (hfst j))
  place : ∀ j, j < 32 → w.cell? ⟨1, j, none⟩ = some (.int .i64 (plc j))
  size : 4 ≤ w.heap.size
theorem HGlob.below {w w' : World} (h : HGlob w) {B : Nat} (l : Below B w w') (hB : 4 ≤ B) : HGlob w' :=
  ⟨fun j hj => by rw [l.cell (p := ⟨0, j, none⟩) (Nat.lt_of_lt_of_le (show 0 < 4 by decide) hB)]; exact h.first j hj, fun j hj => by rw [l.cell (p := ⟨1, j, none⟩) (Nat.lt_of_lt_of_le (show 1 < 4 by decide) hB)]; exact h.place j hj, by have := h.size; have := l.size; omega⟩
theorem HGlob.fr {w w' : World} {k : Nat} (h : HGlob w) (g : Fr w k w') : HGlob w' := h.below g.below h.size

end Go.Proofs.YteclkiabkdaklaaDoor

namespace Go.Proofs.YteclkiabkdaklaaDoor
open Go.RowKit

theorem HGlob.four {w : World} (h : HGlob w) (k : Nat) (hk : k < 8) : w.cell? ⟨1, k * 4, none⟩ = some (.int .i64 (pA k)) ∧ w.cell? ⟨1, k * 4 + 1, none⟩ = some (.int .i64 (pB k)) ∧ w.cell? ⟨1, k * 4 + 2, none⟩ = some (.int .i64 (pC k)) ∧ w.cell? ⟨1, k * 4 + 3, none⟩ = some (.int .i64 (pD k)) := by
  have e1 : plc (k * 4) = (pA k : Int) := by unfold plc; rw [if_pos (by omega), show k * 4 / 4 = k by omega]
  have e2 : plc (k * 4 + 1) = (pB k : Int) := by unfold plc; rw [if_neg (by omega), if_pos (by omega), show (k * 4 + 1) / 4 = k by omega]
  have e3 : plc (k * 4 + 2) = (pC k : Int) := by unfold plc; rw [if_neg (by omega), if_neg (by omega), if_pos (by omega), show (k * 4 + 2) / 4 = k by omega]
  have e4 : plc (k * 4 + 3) = (pD k : Int) := by unfold plc; rw [if_neg (by omega), if_neg (by omega), if_neg (by omega), show (k * 4 + 3) / 4 = k by omega]
  rw [← e1, ← e2, ← e3, ← e4]
  exact ⟨h.place _ (by omega), h.place _ (by omega), h.place _ (by omega), h.place _ (by omega)⟩

/-- A place among sixteen words. -/
theorem idx16 (b i : Nat) (hi : i < 16) (w : World) {o : Oper} {a : Act} (x y : Operand) (ho : o.op = .indexAddr 57 x y) (hx : a.eval x = .pointer (some ⟨b, 0, none⟩)) (hy : a.eval y = .int .i64 (i : Int)) :
    (execOp a.eval o).run Tryd.prog w = .ok (.value (.pointer (some ⟨b, i, none⟩))) w := by
  have h := idxArr (P := Tryd.prog) 57 39 16 .i64 b 0 i x y Tryd.underlying57 (fun _ => by kernel_rfl) hi ho hx hy w
  rw [Nat.zero_add] at h
  exact h

/-- Behind k of its eight turns. -/
structure HDI (s : Nat → Int) (w : World) (k : Nat) (w' : World) : Prop where
  hs : Has w' w.heap.size .u32 16 (tN s k)
  hr : Has w' (w.heap.size + 1) .u32 16 (fun _ => 0)
  fr : Fr w 2 w'
theorem HDI.drewN {s : Nat → Int} {w : World} {k q : Nat} {w' : World} (h : HDI s w k w') : HDI s w k (w'.drewN q) := ⟨⟨h.hs.cell, h.hs.free⟩, ⟨h.hr.cell, h.hr.free⟩, ⟨below_drewN h.fr.below, h.fr.size⟩⟩
theorem HDI.drew {s : Nat → Int} {w : World} {k : Nat} {w' : World} (h : HDI s w k w') : HDI s w k w'.drew := ⟨h.hs.drew, h.hr.drew, h.fr.drew⟩

set_option maxRecDepth 10000 in
set_option maxHeartbeats 4000000 in
theorem hdouble_any (s : Nat → Int) (w : World) (hg : HGlob w) :
    Calls Tryd.prog 31 #[(.agg (row .u32 16 (s)).toArray)] w fun e w' => e = .returned (.agg (row .u32 16 (tN s 8)).toArray) ∧ Below w.heap.size w w' := by
  go_enter Tryd.func31, Tryd.ntmps31
  go_wp2
  go_loopw [8] (fun i w' => ∃ k : Nat, k ≤ 8 ∧ i = .int .i64 k ∧ HDI s w k w') (fun i _ => 8 - (intOf i).toNat)
  case atStart => exact ⟨0, by omega, rfl, ⟨(Has.new w _ _ _ _ _ rfl).alloc _ (by simp), hs_zero _ _ _ (by simp), ((Fr.refl w).alloc _).alloc _⟩⟩
  case round =>
    obtain ⟨k, hk, rfl, hI⟩ := hrel
    have hG := hg.fr hI.fr
    have g1 : (0 : Int) ≤ (k : Int) := by omega
    by_cases hlt : k < 8
    · have HT := show Hid _ from (show tN s (k + 1) = tAt (tN s k) k from rfl)
      have HI := show Hid _ from fun (q : Nat) => (hI.drewN (q := q)).drew
      have g2 : (k : Int) < 8 := by omega
      obtain ⟨p1, p2, p3, p4⟩ := hG.four k hlt
      have l1 : pA k < 16 := by have := pA_lt k; omega
      have l2 : pB k < 16 := by have := pB_lt k; omega
      have l3 : pC k < 16 := by have := pC_lt k; omega
      have l4 : pD k < 16 := pD_lt k
      unfold tAt at HT
      clear hI hG hk
      generalize hA : pA k = A at *
      generalize hB : pB k = B at *
      generalize hC : pC k = C at *
      generalize hD : pD k = D at *
      clear hA hB hC hD
      go_wp2
      go_quiet (fail)
      go_upto_region 5 with fail
      have hI := HI.out nq
      clear p1 p2 p3 p4 HI
      refine wp_region_C (S := fun w' => HDI s w k w') 16 (by kernel_rfl) hI ?_
      clear hI
      intro K
      refine pureC (i := 0) (some 28) rfl (.int .i64 (A : Int)) rfl (by decide) rfl (fun _ => by kernel_rfl) (by kernel_rfl) (by kernel_rfl) (by kernel_rfl) (fun _ _ _ h => h) K ?_
      simp only [Act.put, List.setIfInBounds_toArray, List.set_cons_zero, List.set_cons_succ]
      refine pureC (i := 1) (some 29) rfl (.int .i64 (B : Int)) rfl (by decide) rfl (fun _ => by kernel_rfl) (by kernel_rfl) (by kernel_rfl) (by kernel_rfl) (fun _ _ _ h => h) K ?_
      simp only [Act.put, List.setIfInBounds_toArray, List.set_cons_zero, List.set_cons_succ]
      refine pureC (i := 2) (some 30) rfl (.int .i64 (C : Int)) rfl (by decide) rfl (fun _ => by kernel_rfl) (by kernel_rfl) (by kernel_rfl) (by kernel_rfl) (fun _ _ _ h => h) K ?_
      simp only [Act.put, List.setIfInBounds_toArray, List.set_cons_zero, List.set_cons_succ]
      refine pureC (i := 3) (some 31) rfl (.int .i64 (D : Int)) rfl (by decide) rfl (fun _ => by kernel_rfl) (by kernel_rfl) (by kernel_rfl) (by kernel_rfl) (fun _ _ _ h => h) K ?_
      simp only [Act.put, List.setIfInBounds_toArray, List.set_cons_zero, List.set_cons_succ]
      refine pureC (i := 4) (some 32) rfl (.int .i64 (A : Int)) rfl (by decide) rfl (fun _ => by kernel_rfl) (by kernel_rfl) (by kernel_rfl) (by kernel_rfl) (fun _ _ _ h => h) K ?_
      simp only [Act.put, List.setIfInBounds_toArray, List.set_cons_zero, List.set_cons_succ]
      refine pureC (i := 5) (some 33) rfl (.pointer (some ⟨w.heap.size, A, none⟩)) rfl (by decide) rfl (fun w' => idx16 w.heap.size A l1 w' _ _ rfl rfl rfl) (by kernel_rfl) (by kernel_rfl) (by kernel_rfl) (fun _ _ _ h => h) K ?_
      simp only [Act.put, List.setIfInBounds_toArray, List.set_cons_zero, List.set_cons_succ]
      refine cellC (i := 6) (some 34) rfl .u32 (.int .u32 (tN s k A)) w.heap.size A 39 _ rfl rfl (by kernel_rfl) rfl rfl rfl (by kernel_rfl) (by kernel_rfl) (by kernel_rfl) (by kernel_rfl) (fun _ _ _ h => h) Tryd.underlying39 K (fun _ h => h.hs.cell A l1) ?_
      simp only [Act.put, List.setIfInBounds_toArray, List.set_cons_zero, List.set_cons_succ]
      refine pureC (i := 7) (some 35) rfl (.int .i64 (B : Int)) rfl (by decide) rfl (fun _ => by kernel_rfl) (by kernel_rfl) (by kernel_rfl) (by kernel_rfl) (fun _ _ _ h => h) K ?_
      simp only [Act.put, List.setIfInBounds_toArray, List.set_cons_zero, List.set_cons_succ]
      refine pureC (i := 8) (some 36) rfl (.pointer (some ⟨w.heap.size, B, none⟩)) rfl (by decide) rfl (fun w' => idx16 w.heap.size B l2 w' _ _ rfl rfl rfl) (by kernel_rfl) (by kernel_rfl) (by kernel_rfl) (fun _ _ _ h => h) K ?_
      simp only [Act.put, List.setIfInBounds_toArray, List.set_cons_zero, List.set_cons_succ]
      refine cellC (i := 9) (some 37) rfl .u32 (.int .u32 (tN s k B)) w.heap.size B 39 _ rfl rfl (by kernel_rfl) rfl rfl rfl (by kernel_rfl) (by kernel_rfl) (by kernel_rfl) (by kernel_rfl) (fun _ _ _ h => h) Tryd.underlying39 K (fun _ h => h.hs.cell B l2) ?_
      simp only [Act.put, List.setIfInBounds_toArray, List.set_cons_zero, List.set_cons_succ]
      refine pureC (i := 10) (some 38) rfl (.int .i64 (C : Int)) rfl (by decide) rfl (fun _ => by kernel_rfl) (by kernel_rfl) (by kernel_rfl) (by kernel_rfl) (fun _ _ _ h => h) K ?_
      simp only [Act.put, List.setIfInBounds_toArray, List.set_cons_zero, List.set_cons_succ]
      refine pureC (i := 11) (some 39) rfl (.pointer (some ⟨w.heap.size, C, none⟩)) rfl (by decide) rfl (fun w' => idx16 w.heap.size C l3 w' _ _ rfl rfl rfl) (by kernel_rfl) (by kernel_rfl) (by kernel_rfl) (fun _ _ _ h => h) K ?_
      simp only [Act.put, List.setIfInBounds_toArray, List.set_cons_zero, List.set_cons_succ]
      refine cellC (i := 12) (some 40) rfl .u32 (.int .u32 (tN s k C)) w.heap.size C 39 _ rfl rfl (by kernel_rfl) rfl rfl rfl (by kernel_rfl) (by kernel_rfl) (by kernel_rfl) (by kernel_rfl) (fun _ _ _ h => h) Tryd.underlying39 K (fun _ h => h.hs.cell C l3) ?_
      simp only [Act.put, List.setIfInBounds_toArray, List.set_cons_zero, List.set_cons_succ]
      refine pureC (i := 13) (some 41) rfl (.int .i64 (D : Int)) rfl (by decide) rfl (fun _ => by kernel_rfl) (by kernel_rfl) (by kernel_rfl) (by kernel_rfl) (fun _ _ _ h => h) K ?_
      simp only [Act.put, List.setIfInBounds_toArray, List.set_cons_zero, List.set_cons_succ]
      refine pureC (i := 14) (some 42) rfl (.pointer (some ⟨w.heap.size, D, none⟩)) rfl (by decide) rfl (fun w' => idx16 w.heap.size D l4 w' _ _ rfl rfl rfl) (by kernel_rfl) (by kernel_rfl) (by kernel_rfl) (fun _ _ _ h => h) K ?_
      simp only [Act.put, List.setIfInBounds_toArray, List.set_cons_zero, List.set_cons_succ]
      refine cellC (i := 15) (some 43) rfl .u32 (.int .u32 (tN s k D)) w.heap.size D 39 _ rfl rfl (by kernel_rfl) rfl rfl rfl (by kernel_rfl) (by kernel_rfl) (by kernel_rfl) (by kernel_rfl) (fun _ _ _ h => h) Tryd.underlying39 K (fun _ h => h.hs.cell D l4) ?_
      simp only [Act.put, List.setIfInBounds_toArray, List.set_cons_zero, List.set_cons_succ]
      refine callC (S2 := fun _ => True) (some 44) rfl (by kernel_rfl) rfl rfl (fun _ => by kernel_rfl) (turn_any (tN s k A) (tN s k B) (tN s k C) (tN s k D) _) (by kernel_rfl) ?_
      rintro e w' ⟨rfl, rfl⟩
      refine ⟨_, rfl, ?_⟩
      simp only [Act.put, List.setIfInBounds_toArray, List.set_cons_zero, List.set_cons_succ]
      have T : True := trivial
      refine pureH (i := 17) (some 27) rfl (.tuple #[.int .u32 (qA (tN s k A) (tN s k B) (tN s k C) (tN s k D)), .int .u32 (qB (tN s k A) (tN s k B) (tN s k C) (tN s k D)), .int .u32 (qC (tN s k A) (tN s k B) (tN s k C) (tN s k D)), .int .u32 (qD (tN s k A) (tN s k B) (tN s k C) (tN s k D))]) rfl rfl (fun _ => by kernel_rfl) (by kernel_rfl) (by kernel_rfl) (by kernel_rfl) (fun _ _ _ h => h) T ?_
      simp only [Act.put, List.setIfInBounds_toArray, List.set_cons_zero, List.set_cons_succ]
      refine pureH (i := 18) (some 45) rfl (.int .u32 (qA (tN s k A) (tN s k B) (tN s k C) (tN s k D))) rfl rfl (fun _ => by kernel_rfl) (by kernel_rfl) (by kernel_rfl) (by kernel_rfl) (fun _ _ _ h => h) T ?_
      simp only [Act.put, List.setIfInBounds_toArray, List.set_cons_zero, List.set_cons_succ]
      refine pureH (i := 19) (some 46) rfl (.int .u32 (qB (tN s k A) (tN s k B) (tN s k C) (tN s k D))) rfl rfl (fun _ => by kernel_rfl) (by kernel_rfl) (by kernel_rfl) (by kernel_rfl) (fun _ _ _ h => h) T ?_
      simp only [Act.put, List.setIfInBounds_toArray, List.set_cons_zero, List.set_cons_succ]
      refine pureH (i := 20) (some 47) rfl (.int .u32 (qC (tN s k A) (tN s k B) (tN s k C) (tN s k D))) rfl rfl (fun _ => by kernel_rfl) (by kernel_rfl) (by kernel_rfl) (by kernel_rfl) (fun _ _ _ h => h) T ?_
      simp only [Act.put, List.setIfInBounds_toArray, List.set_cons_zero, List.set_cons_succ]
      refine pureH (i := 21) (some 48) rfl (.int .u32 (qD (tN s k A) (tN s k B) (tN s k C) (tN s k D))) rfl rfl (fun _ => by kernel_rfl) (by kernel_rfl) (by kernel_rfl) (by kernel_rfl) (fun _ _ _ h => h) T ?_
      simp only [Act.put, List.setIfInBounds_toArray, List.set_cons_zero, List.set_cons_succ]
      have h0 := K.hs
      have r0 := K.hr
      have f0 := K.fr
      clear K
      refine pureH (i := 22) (some 49) rfl (.pointer (some ⟨w.heap.size, A, none⟩)) rfl rfl (fun w' => idx16 w.heap.size A l1 w' _ _ rfl rfl rfl) (by kernel_rfl) (by kernel_rfl) (by kernel_rfl) (fun _ _ _ h => h) T ?_
      simp only [Act.put, List.setIfInBounds_toArray, List.set_cons_zero, List.set_cons_succ]
      refine storeH (i := 23) none rfl .u32 (qA (tN s k A) (tN s k B) (tN s k C) (tN s k D)) w.heap.size A 39 _ _ (by kernel_rfl) rfl rfl rfl rfl rfl (by rw [h0.cell A l1]; rfl) (h0.free A l1) (by kernel_rfl) T ?_
      simp only [Act.put]
      have h1 := h0.set A l1 (qA (tN s k A) (tN s k B) (tN s k C) (tN s k D))
      have r1 := r0.set_other ⟨w.heap.size, A, none⟩ (.int .u32 (qA (tN s k A) (tN s k B) (tN s k C) (tN s k D))) (by simp)
      have f1 := f0.set ⟨w.heap.size, A, none⟩ (.int .u32 (qA (tN s k A) (tN s k B) (tN s k C) (tN s k D))) (by simp)
      clear h0 r0 f0
      refine pureH (i := 24) (some 50) rfl (.pointer (some ⟨w.heap.size, B, none⟩)) rfl rfl (fun w' => idx16 w.heap.size B l2 w' _ _ rfl rfl rfl) (by kernel_rfl) (by kernel_rfl) (by kernel_rfl) (fun _ _ _ h => h) T ?_
      simp only [Act.put, List.setIfInBounds_toArray, List.set_cons_zero, List.set_cons_succ]
      refine storeH (i := 25) none rfl .u32 (qB (tN s k A) (tN s k B) (tN s k C) (tN s k D)) w.heap.size B 39 _ _ (by kernel_rfl) rfl rfl rfl rfl rfl (by rw [h1.cell B l2]; rfl) (h1.free B l2) (by kernel_rfl) T ?_
      simp only [Act.put]
      have h2 := h1.set B l2 (qB (tN s k A) (tN s k B) (tN s k C) (tN s k D))
      have r2 := r1.set_other ⟨w.heap.size, B, none⟩ (.int .u32 (qB (tN s k A) (tN s k B) (tN s k C) (tN s k D))) (by simp)
      have f2 := f1.set ⟨w.heap.size, B, none⟩ (.int .u32 (qB (tN s k A) (tN s k B) (tN s k C) (tN s k D))) (by simp)
      clear h1 r1 f1
      refine pureH (i := 26) (some 51) rfl (.pointer (some ⟨w.heap.size, C, none⟩)) rfl rfl (fun w' => idx16 w.heap.size C l3 w' _ _ rfl rfl rfl) (by kernel_rfl) (by kernel_rfl) (by kernel_rfl) (fun _ _ _ h => h) T ?_
      simp only [Act.put, List.setIfInBounds_toArray, List.set_cons_zero, List.set_cons_succ]
      refine storeH (i := 27) none rfl .u32 (qC (tN s k A) (tN s k B) (tN s k C) (tN s k D)) w.heap.size C 39 _ _ (by kernel_rfl) rfl rfl rfl rfl rfl (by rw [h2.cell C l3]; rfl) (h2.free C l3) (by kernel_rfl) T ?_
      simp only [Act.put]
      have h3 := h2.set C l3 (qC (tN s k A) (tN s k B) (tN s k C) (tN s k D))
      have r3 := r2.set_other ⟨w.heap.size, C, none⟩ (.int .u32 (qC (tN s k A) (tN s k B) (tN s k C) (tN s k D))) (by simp)
      have f3 := f2.set ⟨w.heap.size, C, none⟩ (.int .u32 (qC (tN s k A) (tN s k B) (tN s k C) (tN s k D))) (by simp)
      clear h2 r2 f2
      refine pureH (i := 28) (some 52) rfl (.pointer (some ⟨w.heap.size, D, none⟩)) rfl rfl (fun w' => idx16 w.heap.size D l4 w' _ _ rfl rfl rfl) (by kernel_rfl) (by kernel_rfl) (by kernel_rfl) (fun _ _ _ h => h) T ?_
      simp only [Act.put, List.setIfInBounds_toArray, List.set_cons_zero, List.set_cons_succ]
      refine storeH (i := 29) none rfl .u32 (qD (tN s k A) (tN s k B) (tN s k C) (tN s k D)) w.heap.size D 39 _ _ (by kernel_rfl) rfl rfl rfl rfl rfl (by rw [h3.cell D l4]; rfl) (h3.free D l4) (by kernel_rfl) T ?_
      simp only [Act.put]
      have h4 := h3.set D l4 (qD (tN s k A) (tN s k B) (tN s k C) (tN s k D))
      have r4 := r3.set_other ⟨w.heap.size, D, none⟩ (.int .u32 (qD (tN s k A) (tN s k B) (tN s k C) (tN s k D))) (by simp)
      have f4 := f3.set ⟨w.heap.size, D, none⟩ (.int .u32 (qD (tN s k A) (tN s k B) (tN s k C) (tN s k D))) (by simp)
      clear h3 r3 f3
      refine wpAnyH_done (by kernel_rfl) ?_ _
      rw [← HT.out] at h4
      have HS := show Hid _ from (HDI.mk h4 r4 f4)
      clear h4 r4 f4 T l1 l2 l3 l4
      go_wp2
      go_roundw
      case rel => exact ⟨k + 1, by omega, by go_num, HS.out⟩
      case measure => simp [intOf]; omega
    · obtain rfl : k = 8 := by omega
      have hs := hI.hs
      have hz := hI.hr
      have hB := (hI.fr.setAll (w.heap.size + 1) (by omega) (row .u32 16 (tN s 8))).below
      clear hI hlt hk hG
      generalize hf : tN s 8 = f at *
      go_wp2_with (first | (refine wpList_load_mid rfl 57 _ rfl (w.heap.size) 0 rfl (row .u32 16 (f)) _ (Has.range (hs)) Tryd.underlying57 rfl (hs_info _) ?_) | (refine wpList_store_mid rfl 57 _ _ rfl (w.heap.size + 1) 0 (row .u32 16 (f)).toArray rfl rfl (hs_there (hz)) (hs_info' _) (all_oneCell_toArray (row_one _ _ _)) ?_))
      exact bodyPost_ret (v := (.agg (row .u32 16 (f)).toArray)) (results_row Tryd.results31 rfl (Has.all hz.there .u32 _).range Tryd.underlying57 rfl (hs_info _)) rfl ⟨by rw [hf], hB⟩
end Go.Proofs.YteclkiabkdaklaaDoor

namespace Go.Proofs.YteclkiabkdaklaaDoor
open Go.RowKit

theorem hcut_key (b k : Nat) (hk : k < 8) (w : World) : (Instr.sliceAt 23 (.pointer (some ⟨b, 0, none⟩)) (some (.int .i64 (4 * (k : Int)))) none none).run Tryd.prog w = .ok (.slice (some ⟨b, 4 * k, none⟩) (32 - 4 * k) (32 - 4 * k)) w := by
  have hl : Tryd.prog.arrayLen 23 = 32 := by kernel_rfl
  have hs : ∀ w, (sizeOf (Tryd.prog.elem 23)).run Tryd.prog w = .ok 1 w := fun w => by kernel_rfl
  rw [run_sliceAt_array_l w 23 ⟨b, 0, none⟩ (by kernel_rfl) .i64 _ (by omega) (by rw [hl]; omega), hs, hl]
  simp only [Result.andThen, slicedAt]
  have e1 : (4 * (k : Int)).toNat = 4 * k := by omega
  rw [e1, if_neg (by omega), Addr.add_mid, Nat.zero_add, Nat.mul_one]
theorem hcut_non (b k : Nat) (hk : k < 3) (w : World) : (Instr.sliceAt 25 (.pointer (some ⟨b, 0, none⟩)) (some (.int .i64 (4 * (k : Int)))) none none).run Tryd.prog w = .ok (.slice (some ⟨b, 4 * k, none⟩) (12 - 4 * k) (12 - 4 * k)) w := by
  have hl : Tryd.prog.arrayLen 25 = 12 := by kernel_rfl
  have hs : ∀ w, (sizeOf (Tryd.prog.elem 25)).run Tryd.prog w = .ok 1 w := fun w => by kernel_rfl
  rw [run_sliceAt_array_l w 25 ⟨b, 0, none⟩ (by kernel_rfl) .i64 _ (by omega) (by rw [hl]; omega), hs, hl]
  simp only [Result.andThen, slicedAt]
  have e1 : (4 * (k : Int)).toNat = 4 * k := by omega
  rw [e1, if_neg (by omega), Addr.add_mid, Nat.zero_add, Nat.mul_one]

/-- The first m words are made. -/
structure HBI (k : Nat → Int) (c : Int) (n : Nat → Int) (w : World) (m : Nat) (f : Nat → Int) (w' : World) : Prop where
  done : ∀ j, j < m → f j = hst k c n j
  hk : Has w' w.heap.size .u8 32 k
  hn : Has w' (w.heap.size + 1) .u8 12 n
  hr : Has w' (w.heap.size + 1 + 1) .u32 16 (fun _ => 0)
  hs : Has w' (w.heap.size + 1 + 1 + 1) .u32 16 f
  fr : Fr w 4 w'
theorem HBI.drewN {k : Nat → Int} {c : Int} {n : Nat → Int} {w : World} {m : Nat} {f : Nat → Int} {w' : World} (h : HBI k c n w m f w') (q : Nat) : HBI k c n w m f (w'.drewN q) :=
  ⟨h.done, ⟨h.hk.cell, h.hk.free⟩, ⟨h.hn.cell, h.hn.free⟩, ⟨h.hr.cell, h.hr.free⟩, ⟨h.hs.cell, h.hs.free⟩, ⟨below_drewN h.fr.below, h.fr.size⟩⟩
theorem HBI.step {k : Nat → Int} {c : Int} {n : Nat → Int} {w : World} {m : Nat} {f : Nat → Int} {w' : World} (h : HBI k c n w m f w') (hm : m < 16) (v : Int) (hv : hst k c n m = v) : HBI k c n w (m + 1) (upd f m v) (w'.setCell ⟨w.heap.size + 1 + 1 + 1, m, none⟩ (.int .u32 v)) := by
  refine ⟨fun j hj => ?_, h.hk.set_other _ _ (by simp; omega), h.hn.set_other _ _ (by simp; omega), h.hr.set_other _ _ (by simp), h.hs.set m hm v, h.fr.set _ _ (by simp; omega)⟩
  by_cases e : j = m
  · subst e; rw [upd_same, hv]
  · rw [upd_other _ _ _ _ e]; exact h.done j (by omega)
theorem hst_first (k : Nat → Int) (c : Int) (n : Nat → Int) (j : Nat) (hj : j < 4) : hst k c n j = hfst j := by
  match j, hj with
  | 0, _ | 1, _ | 2, _ | 3, _ => rfl
theorem hst_key (k : Nat → Int) (c : Int) (n : Nat → Int) (j : Nat) (hj : j < 8) : hst k c n (4 + j) = w32 k (4 * j) := by
  match j, hj with
  | 0, _ | 1, _ | 2, _ | 3, _ | 4, _ | 5, _ | 6, _ | 7, _ => rfl
theorem hst_non (k : Nat → Int) (c : Int) (n : Nat → Int) (j : Nat) (hj : j < 3) : hst k c n (13 + j) = w32 n (4 * j) := by
  match j, hj with
  | 0, _ | 1, _ | 2, _ => rfl

set_option maxRecDepth 10000 in
set_option maxHeartbeats 4000000 in
theorem hbegin_any (k : Nat → Int) (c : Int) (n : Nat → Int) (hk : In 256 32 k) (hn : In 256 12 n) (w : World) (hg : HGlob w) :
    Calls Tryd.prog 30 #[(.agg (row .u8 32 (k)).toArray), .int .u32 c, (.agg (row .u8 12 (n)).toArray)] w fun e w' => e = .returned (.agg (row .u32 16 (hst k c n)).toArray) ∧ Below w.heap.size w w' := by
  go_enter Tryd.func30, Tryd.ntmps30
  go_wp2
  go_loopw [11] (fun i w' => ∃ (m : Nat) (f : Nat → Int), m ≤ 4 ∧ i = .int .i64 m ∧ HBI k c n w m f w') (fun i _ => 4 - (intOf i).toNat)
  case atStart => exact ⟨0, fun _ => 0, by omega, rfl, ⟨fun j hj => by omega, (((Has.new w _ _ _ _ _ rfl).alloc _ (by simp)).alloc _ (by simp; omega)).alloc _ (by simp; omega), ((Has.new _ _ _ _ _ _ (by simp)).alloc _ (by simp)).alloc _ (by simp), (hs_zero _ _ _ (by simp)).alloc _ (by simp), hs_zero _ _ _ (by simp), ((((Fr.refl w).alloc _).alloc _).alloc _).alloc _⟩⟩
  case round =>
    obtain ⟨m, f, hm, rfl, hI⟩ := hrel
    have g1 : (0 : Int) ≤ (m : Int) := by omega
    by_cases hlt : m < 4
    · have HS := show Hid _ from hI.step (by omega) _ (hst_first k c n m hlt)
      have g2 : (m : Int) < 4 := by omega
      have g3 : (m : Int) < 16 := by omega
      have p1 := (hg.fr hI.fr).first m hlt
      have c1 := hI.hs.cell m (by omega)
      have f1 := hI.hs.free m (by omega)
      clear hI hm
      generalize f m = y at *
      generalize hfst m = z at *
      go_wp2
      go_roundw
      case rel => exact ⟨m + 1, _, by omega, by go_num, HS.out⟩
      case measure => simp [intOf]; omega
    · obtain rfl : m = 4 := by omega
      clear hlt hm g1
      go_wp2
      go_loopw [20] (fun i w' => ∃ (m : Nat) (f : Nat → Int), m ≤ 8 ∧ i = .int .i64 m ∧ HBI k c n w (4 + m) f w') (fun i _ => 8 - (intOf i).toNat)
      case atStart => exact ⟨0, f, by omega, rfl, hI⟩
      case round =>
        obtain ⟨m, f, hm, rfl, hI⟩ := hrel
        have g1 : (0 : Int) ≤ (m : Int) := by omega
        by_cases hlt : m < 8
        · have hcut := hcut_key w.heap.size m hlt
          have HC := show Hid _ from of32_any w.heap.size (4 * m) 32 (32 - 4 * m) (32 - 4 * m) k (by omega) (by omega) hk wr hI.hk
          have HS := show Hid _ from fun q => (hI.drewN q).step (by omega) _ (hst_key k c n m hlt)
          have g2 : (m : Int) < 8 := by omega
          have g3 : (0 : Int) ≤ 4 + (m : Int) := by omega
          have g4 : 4 + (m : Int) < 16 := by omega
          have g5 : (4 + (m : Int)).toNat = 4 + m := by omega
          have cn : ∀ q, (wr.drewN q).cell? ⟨w.heap.size + 1 + 1 + 1, 4 + m, none⟩ = some (.int .u32 (f (4 + m))) := fun q => hI.hs.cell (4 + m) (by omega)
          have fn : ∀ q, (wr.drewN q).frozen? ⟨w.heap.size + 1 + 1 + 1, 4 + m, none⟩ = false := fun q => hI.hs.free (4 + m) (by omega)
          clear hI hm
          generalize f (4 + m) = y at *
          generalize w32 k (4 * m) = z at *
          go_wp2_with fail
          refine Calls.mono HC.out ?_
          rintro e w' ⟨q, rfl, rfl⟩
          have cn' := cn q
          have fn' := fn q
          have HT := show Hid _ from HS.out q
          clear HC HS cn fn hcut
          generalize wr.drewN q = w2 at *
          go_wp2
          go_roundw
          case rel => first | exact ⟨m + 1, _, by omega, by go_num, HT.out⟩ | ((repeat apply Exists.intro); refine ⟨⟨m + 1, _, by omega, ?_, HT.out⟩, rfl⟩ <;> first | rfl | go_num)
          case measure => simp [intOf]; omega
        · obtain rfl : m = 8 := by omega
          have hI2 := hI.step (by omega) c rfl
          have c1 := hI.hs.cell 12 (by omega)
          have f1 := hI.hs.free 12 (by omega)
          clear hlt hm g1 hI
          generalize f 12 = y at *
          go_wp2
          go_loopw [33] (fun i w' => ∃ (m : Nat) (f : Nat → Int), m ≤ 3 ∧ i = .int .i64 m ∧ HBI k c n w (13 + m) f w') (fun i _ => 3 - (intOf i).toNat)
          case atStart => exact ⟨0, _, by omega, rfl, hI2⟩
          case round =>
            obtain ⟨m, f, hm, rfl, hI⟩ := hrel
            have g1 : (0 : Int) ≤ (m : Int) := by omega
            clear hI2 c1 f1
            by_cases hlt : m < 3
            · have hcut := hcut_non (w.heap.size + 1) m hlt
              have HC := show Hid _ from of32_any (w.heap.size + 1) (4 * m) 12 (12 - 4 * m) (12 - 4 * m) n (by omega) (by omega) hn wr hI.hn
              have HS := show Hid _ from fun q => (hI.drewN q).step (by omega) _ (hst_non k c n m hlt)
              have g2 : (m : Int) < 3 := by omega
              have g3 : (0 : Int) ≤ 13 + (m : Int) := by omega
              have g4 : 13 + (m : Int) < 16 := by omega
              have g5 : (13 + (m : Int)).toNat = 13 + m := by omega
              have cn : ∀ q, (wr.drewN q).cell? ⟨w.heap.size + 1 + 1 + 1, 13 + m, none⟩ = some (.int .u32 (f (13 + m))) := fun q => hI.hs.cell (13 + m) (by omega)
              have fn : ∀ q, (wr.drewN q).frozen? ⟨w.heap.size + 1 + 1 + 1, 13 + m, none⟩ = false := fun q => hI.hs.free (13 + m) (by omega)
              clear hI hm
              generalize f (13 + m) = y at *
              generalize w32 n (4 * m) = z at *
              go_wp2_with fail
              refine Calls.mono HC.out ?_
              rintro e w' ⟨q, rfl, rfl⟩
              have cn' := cn q
              have fn' := fn q
              have HT := show Hid _ from HS.out q
              clear HC HS cn fn hcut
              generalize wr.drewN q = w2 at *
              go_wp2
              go_roundw
              case rel => first | exact ⟨m + 1, _, by omega, by go_num, HT.out⟩ | ((repeat apply Exists.intro); refine ⟨⟨m + 1, _, by omega, ?_, HT.out⟩, rfl⟩ <;> first | rfl | go_num)
              case measure => simp [intOf]; omega
            · obtain rfl : m = 3 := by omega
              have hs := hI.hs.congr (g := hst k c n) (fun j hj => hI.done j hj)
              have hz := hI.hr
              have hB := (hI.fr.setAll (w.heap.size + 1 + 1) (by omega) (row .u32 16 (hst k c n))).below
              clear hI hlt hm g1
              generalize hf : hst k c n = g at *
              go_wp2_with (first | (refine wpList_load_mid rfl 57 _ rfl (w.heap.size + 1 + 1 + 1) 0 rfl (row .u32 16 (g)) _ (Has.range (hs)) Tryd.underlying57 rfl (hs_info _) ?_) | (refine wpList_store_mid rfl 57 _ _ rfl (w.heap.size + 1 + 1) 0 (row .u32 16 (g)).toArray rfl rfl (hs_there (hz)) (hs_info' _) (all_oneCell_toArray (row_one _ _ _)) ?_))
              exact bodyPost_ret (v := (.agg (row .u32 16 (g)).toArray)) (results_row Tryd.results30 rfl (Has.all hz.there .u32 _).range Tryd.underlying57 rfl (hs_info _)) rfl ⟨by rw [hf], hB⟩
end Go.Proofs.YteclkiabkdaklaaDoor

namespace Go.Proofs.YteclkiabkdaklaaDoor
open Go.RowKit

theorem hcut_64 (b k : Nat) (hk : k < 16) (w : World) : (Instr.sliceAt 43 (.pointer (some ⟨b, 0, none⟩)) (some (.int .i64 (4 * (k : Int)))) none none).run Tryd.prog w = .ok (.slice (some ⟨b, 4 * k, none⟩) (64 - 4 * k) (64 - 4 * k)) w := by
  have hl : Tryd.prog.arrayLen 43 = 64 := by kernel_rfl
  have hs : ∀ w, (sizeOf (Tryd.prog.elem 43)).run Tryd.prog w = .ok 1 w := fun w => by kernel_rfl
  rw [run_sliceAt_array_l w 43 ⟨b, 0, none⟩ (by kernel_rfl) .i64 _ (by omega) (by rw [hl]; omega), hs, hl]
  simp only [Result.andThen, slicedAt]
  have e1 : (4 * (k : Int)).toNat = 4 * k := by omega
  rw [e1, if_neg (by omega), Addr.add_mid, Nat.zero_add, Nat.mul_one]
/-- The first i words' bytes are written. -/
def HO (k : Nat → Int) (c : Int) (n : Nat → Int) (O i : Nat) (g : Nat → Int) (w' : World) : Prop := Has w' O .u8 64 g ∧ ∀ j, j < 4 * i → g j = hblk k c n j
theorem over_hblk {k : Nat → Int} {c : Int} {n : Nat → Int} {i : Nat} {g : Nat → Int} (h : ∀ j, j < 4 * i → g j = hblk k c n j) (j : Nat) (hj : j < 4 * (i + 1)) : over g (4 * i) 4 (b32 (hwd k c n i)) j = hblk k c n j := by
  unfold over
  by_cases e : 4 * i ≤ j ∧ j < 4 * i + 4
  · rw [if_pos e]
    unfold hblk
    rw [show j / 4 = i by omega, show j % 4 = j - 4 * i by omega]
  · rw [if_neg e]; exact h j (by omega)

set_option maxRecDepth 10000 in
set_option maxHeartbeats 4000000 in
theorem hblock_any (k : Nat → Int) (c : Int) (n : Nat → Int) (hk : In 256 32 k) (hn : In 256 12 n) (w : World) (hg : HGlob w) :
    Calls Tryd.prog 19 #[(.agg (row .u8 32 (k)).toArray), .int .u32 c, (.agg (row .u8 12 (n)).toArray)] w fun e w' => e = .returned (.agg (row .u8 64 (hblk k c n)).toArray) ∧ Below w.heap.size w w' := by
  have K := Kr.init w
  replace K := K.box .u8 32 k 23 w.heap.size rfl
  replace K := K.box .u8 12 n 25 (w.heap.size + 1) (by simp)
  replace K := K.make 64 #[.int .u8 0, .int .u8 0, .int .u8 0, .int .u8 0, .int .u8 0, .int .u8 0, .int .u8 0, .int .u8 0, .int .u8 0, .int .u8 0, .int .u8 0, .int .u8 0, .int .u8 0, .int .u8 0, .int .u8 0, .int .u8 0, .int .u8 0, .int .u8 0, .int .u8 0, .int .u8 0, .int .u8 0, .int .u8 0, .int .u8 0, .int .u8 0, .int .u8 0, .int .u8 0, .int .u8 0, .int .u8 0, .int .u8 0, .int .u8 0, .int .u8 0, .int .u8 0, .int .u8 0, .int .u8 0, .int .u8 0, .int .u8 0, .int .u8 0, .int .u8 0, .int .u8 0, .int .u8 0, .int .u8 0, .int .u8 0, .int .u8 0, .int .u8 0, .int .u8 0, .int .u8 0, .int .u8 0, .int .u8 0, .int .u8 0, .int .u8 0, .int .u8 0, .int .u8 0, .int .u8 0, .int .u8 0, .int .u8 0, .int .u8 0, .int .u8 0, .int .u8 0, .int .u8 0, .int .u8 0, .int .u8 0, .int .u8 0, .int .u8 0, .int .u8 0] 43 (w.heap.size + 1 + 1) (by simp) (hb_zero _ _ _ (by simp)).there
  go_enter Tryd.func19, Tryd.ntmps19
  go_upto_region 1 with fail
  generalize (((w.alloc (.cells (row .u8 32 k).toArray 23)).alloc (.cells (row .u8 12 n).toArray 25)).alloc (.cells #[.int .u8 0, .int .u8 0, .int .u8 0, .int .u8 0, .int .u8 0, .int .u8 0, .int .u8 0, .int .u8 0, .int .u8 0, .int .u8 0, .int .u8 0, .int .u8 0, .int .u8 0, .int .u8 0, .int .u8 0, .int .u8 0, .int .u8 0, .int .u8 0, .int .u8 0, .int .u8 0, .int .u8 0, .int .u8 0, .int .u8 0, .int .u8 0, .int .u8 0, .int .u8 0, .int .u8 0, .int .u8 0, .int .u8 0, .int .u8 0, .int .u8 0, .int .u8 0, .int .u8 0, .int .u8 0, .int .u8 0, .int .u8 0, .int .u8 0, .int .u8 0, .int .u8 0, .int .u8 0, .int .u8 0, .int .u8 0, .int .u8 0, .int .u8 0, .int .u8 0, .int .u8 0, .int .u8 0, .int .u8 0, .int .u8 0, .int .u8 0, .int .u8 0, .int .u8 0, .int .u8 0, .int .u8 0, .int .u8 0, .int .u8 0, .int .u8 0, .int .u8 0, .int .u8 0, .int .u8 0, .int .u8 0, .int .u8 0, .int .u8 0, .int .u8 0] 43)) = w0 at K ⊢
  refine wp_region_list ?_
  refine rowKL .u8 32 k w.heap.size 0 23 _ _ rfl rfl rfl Tryd.underlying23 rfl (key_info _) (K.get _ _ _ _ (List.mem_cons_of_mem _ List.mem_cons_self)).range ?_
  simp only [Act.put, List.setIfInBounds_toArray, List.set_cons_zero, List.set_cons_succ]
  refine pureL (.int .u32 c) rfl (fun _ => by kernel_rfl) ?_
  simp only [Act.put, List.setIfInBounds_toArray, List.set_cons_zero, List.set_cons_succ]
  refine rowKL .u8 12 n (w.heap.size + 1) 0 25 _ _ rfl rfl rfl Tryd.underlying25 rfl (hn_info _) (K.get _ _ _ _ List.mem_cons_self).range ?_
  simp only [Act.put, List.setIfInBounds_toArray, List.set_cons_zero, List.set_cons_succ]
  refine callL rfl (fun _ => by kernel_rfl) (hbegin_any k c n hk hn _ (hg.below K.below hg.size)) ?_
  rintro e w1 ⟨rfl, l⟩
  replace K := K.call l
  clear l
  refine ⟨_, rfl, ?_⟩
  simp only [Act.put, List.setIfInBounds_toArray, List.set_cons_zero, List.set_cons_succ]
  refine allocL #[.int .u32 0, .int .u32 0, .int .u32 0, .int .u32 0, .int .u32 0, .int .u32 0, .int .u32 0, .int .u32 0, .int .u32 0, .int .u32 0, .int .u32 0, .int .u32 0, .int .u32 0, .int .u32 0, .int .u32 0, .int .u32 0] 57 rfl (fun _ => by kernel_rfl) ?_
  simp only [Act.put, List.setIfInBounds_toArray, List.set_cons_zero, List.set_cons_succ]
  refine storesL .u32 16 (hst k c n) w1.heap.size 57 _ _ rfl rfl rfl rfl (room_of (hs_zero _ _ _ rfl).there) (hs_info' _) ?_
  simp only [Act.put]
  have z1 := K.size
  replace K := K.fresh .u32 16 (hst k c n) #[.int .u32 0, .int .u32 0, .int .u32 0, .int .u32 0, .int .u32 0, .int .u32 0, .int .u32 0, .int .u32 0, .int .u32 0, .int .u32 0, .int .u32 0, .int .u32 0, .int .u32 0, .int .u32 0, .int .u32 0, .int .u32 0] 57 (hs_zero _ _ _ rfl).there
  generalize ((w1.alloc (.cells #[.int .u32 0, .int .u32 0, .int .u32 0, .int .u32 0, .int .u32 0, .int .u32 0, .int .u32 0, .int .u32 0, .int .u32 0, .int .u32 0, .int .u32 0, .int .u32 0, .int .u32 0, .int .u32 0, .int .u32 0, .int .u32 0] 57)).setCells w1.heap.size 0 (row .u32 16 (hst k c n))) = w2 at K ⊢
  generalize w1.heap.size = B at *
  clear w1 w0
  show Exit.then _ _ _ _ _
  go_upto_region 2 with fail
  refine wp_region_list ?_
  refine rowKL .u32 16 (hst k c n) B 0 57 _ _ rfl rfl rfl Tryd.underlying57 rfl (hs_info _) (K.get _ _ _ _ List.mem_cons_self).range ?_
  simp only [Act.put, List.setIfInBounds_toArray, List.set_cons_zero, List.set_cons_succ]
  refine allocL #[.int .u32 0, .int .u32 0, .int .u32 0, .int .u32 0, .int .u32 0, .int .u32 0, .int .u32 0, .int .u32 0, .int .u32 0, .int .u32 0, .int .u32 0, .int .u32 0, .int .u32 0, .int .u32 0, .int .u32 0, .int .u32 0] 57 rfl (fun _ => by kernel_rfl) ?_
  simp only [Act.put, List.setIfInBounds_toArray, List.set_cons_zero, List.set_cons_succ]
  refine storesL .u32 16 (hst k c n) w2.heap.size 57 _ _ rfl rfl rfl rfl (room_of (hs_zero _ _ _ rfl).there) (hs_info' _) ?_
  simp only [Act.put]
  have z2 := K.size
  replace K := K.fresh .u32 16 (hst k c n) #[.int .u32 0, .int .u32 0, .int .u32 0, .int .u32 0, .int .u32 0, .int .u32 0, .int .u32 0, .int .u32 0, .int .u32 0, .int .u32 0, .int .u32 0, .int .u32 0, .int .u32 0, .int .u32 0, .int .u32 0, .int .u32 0] 57 (hs_zero _ _ _ rfl).there
  generalize ((w2.alloc (.cells #[.int .u32 0, .int .u32 0, .int .u32 0, .int .u32 0, .int .u32 0, .int .u32 0, .int .u32 0, .int .u32 0, .int .u32 0, .int .u32 0, .int .u32 0, .int .u32 0, .int .u32 0, .int .u32 0, .int .u32 0, .int .u32 0] 57)).setCells w2.heap.size 0 (row .u32 16 (hst k c n))) = w3 at K ⊢
  generalize w2.heap.size = S at *
  clear w2
  show Exit.then _ _ _ _ _
  replace K := K.sub [(S, .u32, 16, hst k c n), (B, .u32, 16, hst k c n)] (fun p hp => by
    rcases List.mem_cons.1 hp with rfl | hp
    · exact List.mem_cons_self
    · rcases List.mem_cons.1 hp with rfl | hp
      · exact List.mem_cons_of_mem _ List.mem_cons_self
      · cases hp)
  go_wp2
  go_loopw [16] (fun i w' => ∃ t : Nat, t ≤ 10 ∧ i = .int .i64 t ∧ Kr w (S + 1) [(S, .u32, 16, drN (hst k c n) t), (B, .u32, 16, hst k c n)] [(w.heap.size + 1 + 1, 64)] w') (fun i _ => 10 - (intOf i).toNat)
  case atStart => exact ⟨0, by omega, rfl, K⟩
  case round =>
    clear K
    obtain ⟨t, ht, rfl, K⟩ := hrel
    have g1 : (0 : Int) ≤ (t : Int) := by omega
    by_cases hlt : t < 10
    · have g2 : (t : Int) < 10 := by omega
      go_upto_region 5 with fail
      refine wp_region_list ?_
      refine rowKL .u32 16 (drN (hst k c n) t) S 0 57 _ _ rfl rfl rfl Tryd.underlying57 rfl (hs_info _) (K.get _ _ _ _ List.mem_cons_self).range ?_
      simp only [Act.put, List.setIfInBounds_toArray, List.set_cons_zero, List.set_cons_succ]
      refine callL rfl (fun _ => by kernel_rfl) (hdouble_any (drN (hst k c n) t) _ (hg.below K.below hg.size)) ?_
      rintro e w4 ⟨rfl, l⟩
      replace K := K.call l
      clear l
      refine ⟨_, rfl, ?_⟩
      simp only [Act.put, List.setIfInBounds_toArray, List.set_cons_zero, List.set_cons_succ]
      refine storesL .u32 16 (tN (drN (hst k c n) t) 8) S 57 _ _ rfl rfl rfl rfl (hs_there (K.get _ _ _ _ List.mem_cons_self)) (hs_info' _) ?_
      simp only [Act.put]
      have HS := show Hid _ from K.set [(B, .u32, 16, hst k c n)] S .u32 16 (drN (hst k c n) t) (drN (hst k c n) (t + 1)) List.mem_cons_self (fun p hp => List.mem_cons_of_mem _ hp) (fun p hp => by obtain rfl := List.mem_singleton.1 hp; simp only; omega) (by have := K.base; omega)
      clear K
      show Exit.inBlock _ _ _ _ _
      go_wp2
      go_roundw
      case rel => exact ⟨t + 1, by omega, by go_num, HS.out⟩
      case measure => simp [intOf]; omega
    · obtain rfl : t = 10 := by omega
      clear ht hlt g1
      go_upto_region 8 with fail
      have z3 := K.size
      have H := hb_zero wr 43 wr.heap.size rfl
      replace K := K.make 64 #[.int .u8 0, .int .u8 0, .int .u8 0, .int .u8 0, .int .u8 0, .int .u8 0, .int .u8 0, .int .u8 0, .int .u8 0, .int .u8 0, .int .u8 0, .int .u8 0, .int .u8 0, .int .u8 0, .int .u8 0, .int .u8 0, .int .u8 0, .int .u8 0, .int .u8 0, .int .u8 0, .int .u8 0, .int .u8 0, .int .u8 0, .int .u8 0, .int .u8 0, .int .u8 0, .int .u8 0, .int .u8 0, .int .u8 0, .int .u8 0, .int .u8 0, .int .u8 0, .int .u8 0, .int .u8 0, .int .u8 0, .int .u8 0, .int .u8 0, .int .u8 0, .int .u8 0, .int .u8 0, .int .u8 0, .int .u8 0, .int .u8 0, .int .u8 0, .int .u8 0, .int .u8 0, .int .u8 0, .int .u8 0, .int .u8 0, .int .u8 0, .int .u8 0, .int .u8 0, .int .u8 0, .int .u8 0, .int .u8 0, .int .u8 0, .int .u8 0, .int .u8 0, .int .u8 0, .int .u8 0, .int .u8 0, .int .u8 0, .int .u8 0, .int .u8 0] 43 wr.heap.size rfl H.there
      generalize wr.alloc (.cells #[.int .u8 0, .int .u8 0, .int .u8 0, .int .u8 0, .int .u8 0, .int .u8 0, .int .u8 0, .int .u8 0, .int .u8 0, .int .u8 0, .int .u8 0, .int .u8 0, .int .u8 0, .int .u8 0, .int .u8 0, .int .u8 0, .int .u8 0, .int .u8 0, .int .u8 0, .int .u8 0, .int .u8 0, .int .u8 0, .int .u8 0, .int .u8 0, .int .u8 0, .int .u8 0, .int .u8 0, .int .u8 0, .int .u8 0, .int .u8 0, .int .u8 0, .int .u8 0, .int .u8 0, .int .u8 0, .int .u8 0, .int .u8 0, .int .u8 0, .int .u8 0, .int .u8 0, .int .u8 0, .int .u8 0, .int .u8 0, .int .u8 0, .int .u8 0, .int .u8 0, .int .u8 0, .int .u8 0, .int .u8 0, .int .u8 0, .int .u8 0, .int .u8 0, .int .u8 0, .int .u8 0, .int .u8 0, .int .u8 0, .int .u8 0, .int .u8 0, .int .u8 0, .int .u8 0, .int .u8 0, .int .u8 0, .int .u8 0, .int .u8 0, .int .u8 0] 43) = w5 at K H ⊢
      generalize wr.heap.size = O at *
      have H0 : HO k c n O 0 (fun _ => 0) w5 := ⟨H, fun j hj => by omega⟩
      clear H
      go_wp2
      go_loopw [21] (fun i w' => ∃ (i' : Nat) (g : Nat → Int), i' ≤ 16 ∧ i = .int .i64 i' ∧ Kr w (O + 1) [(S, .u32, 16, drN (hst k c n) 10), (B, .u32, 16, hst k c n)] [(O, 64), (w.heap.size + 1 + 1, 64)] w' ∧ HO k c n O i' g w') (fun i _ => 16 - (intOf i).toNat)
      case atStart => exact ⟨0, _, by omega, rfl, K, H0⟩
      case round =>
        clear K H0
        obtain ⟨i, g, hi, rfl, K, H, hd⟩ := hrel
        have g1 : (0 : Int) ≤ (i : Int) := by omega
        by_cases hlt : i < 16
        · have g2 : (i : Int) < 16 := by omega
          have HD := show Hid _ from fun j hj => over_hblk hd j hj
          clear hd
          go_upto_region 11 with fail
          refine wp_region_held_drew (S := fun w' => Kr w (O + 1) [(S, .u32, 16, drN (hst k c n) 10), (B, .u32, 16, hst k c n)] [(O, 64), (w.heap.size + 1 + 1, 64)] w') (by kernel_rfl) K.drew ?_
          clear K
          intro K
          replace H := H.drew
          refine pureH (i := 0) (some 24) rfl (.int .i64 (i : Int)) rfl rfl (fun _ => by kernel_rfl) (by kernel_rfl) (by kernel_rfl) (by kernel_rfl) (fun _ _ _ h => h) K ?_
          simp only [Act.put, List.setIfInBounds_toArray, List.set_cons_zero, List.set_cons_succ]
          refine pureH (i := 1) (some 25) rfl (.int .i64 (4 * (i : Int))) rfl rfl (fun w => mulI .i64 4 (i : Int) _ _ _ _ _ rfl rfl rfl (by rw [IntKind.wrap_i64]; omega) w) (by kernel_rfl) (by kernel_rfl) (by kernel_rfl) (fun _ _ _ h => h) K ?_
          simp only [Act.put, List.setIfInBounds_toArray, List.set_cons_zero, List.set_cons_succ]
          refine pureH (i := 2) (some 26) rfl (.slice (some ⟨O, 4 * i, none⟩) (64 - 4 * i) (64 - 4 * i)) rfl rfl (fun w => cutOp _ _ _ _ _ _ rfl rfl rfl (hcut_64 O i hlt w)) (by kernel_rfl) (by kernel_rfl) (by kernel_rfl) (fun _ _ _ h => h) K ?_
          simp only [Act.put, List.setIfInBounds_toArray, List.set_cons_zero, List.set_cons_succ]
          refine pureH (i := 3) (some 27) rfl (.int .i64 (i : Int)) rfl rfl (fun _ => by kernel_rfl) (by kernel_rfl) (by kernel_rfl) (by kernel_rfl) (fun _ _ _ h => h) K ?_
          simp only [Act.put, List.setIfInBounds_toArray, List.set_cons_zero, List.set_cons_succ]
          refine pureH (i := 4) (some 28) rfl (.pointer (some ⟨S, i, none⟩)) rfl rfl (fun w => idx16 S i hlt w _ _ rfl rfl rfl) (by kernel_rfl) (by kernel_rfl) (by kernel_rfl) (fun _ _ _ h => h) K ?_
          simp only [Act.put, List.setIfInBounds_toArray, List.set_cons_zero, List.set_cons_succ]
          refine cellH (i := 5) (some 29) rfl .u32 (.int .u32 (drN (hst k c n) 10 i)) S i 39 _ rfl rfl rfl rfl (by kernel_rfl) (by kernel_rfl) (by kernel_rfl) (fun _ _ _ h => h) Tryd.underlying39 K (fun _ h => (h.get _ _ _ _ List.mem_cons_self).cell i hlt) ?_
          simp only [Act.put, List.setIfInBounds_toArray, List.set_cons_zero, List.set_cons_succ]
          refine pureH (i := 6) (some 30) rfl (.int .i64 (i : Int)) rfl rfl (fun _ => by kernel_rfl) (by kernel_rfl) (by kernel_rfl) (by kernel_rfl) (fun _ _ _ h => h) K ?_
          simp only [Act.put, List.setIfInBounds_toArray, List.set_cons_zero, List.set_cons_succ]
          refine pureH (i := 7) (some 31) rfl (.pointer (some ⟨B, i, none⟩)) rfl rfl (fun w => idx16 B i hlt w _ _ rfl rfl rfl) (by kernel_rfl) (by kernel_rfl) (by kernel_rfl) (fun _ _ _ h => h) K ?_
          simp only [Act.put, List.setIfInBounds_toArray, List.set_cons_zero, List.set_cons_succ]
          refine cellH (i := 8) (some 32) rfl .u32 (.int .u32 (hst k c n i)) B i 39 _ rfl rfl rfl rfl (by kernel_rfl) (by kernel_rfl) (by kernel_rfl) (fun _ _ _ h => h) Tryd.underlying39 K (fun _ h => (h.get _ _ _ _ (List.mem_cons_of_mem _ List.mem_cons_self)).cell i hlt) ?_
          simp only [Act.put, List.setIfInBounds_toArray, List.set_cons_zero, List.set_cons_succ]
          refine pureH (i := 9) (some 33) rfl (.int .u32 (hwd k c n i)) rfl rfl (fun w => addI .u32 (drN (hst k c n) 10 i) (hst k c n i) _ _ _ _ _ rfl rfl rfl (by rw [IntKind.wrap_u32']; rfl) w) (by kernel_rfl) (by kernel_rfl) (by kernel_rfl) (fun _ _ _ h => h) K ?_
          simp only [Act.put, List.setIfInBounds_toArray, List.set_cons_zero, List.set_cons_succ]
          refine callH (i := 10) (some 34) rfl (by kernel_rfl) rfl rfl (fun _ => by kernel_rfl) (put32_any O (4 * i) 64 (64 - 4 * i) (64 - 4 * i) (by omega) g (hwd k c n i) (by omega) _ H) ?_
          rintro e w' ⟨rfl, rfl⟩
          replace K := K.poke O 64 List.mem_cons_self (4 * i) (row .u8 4 (b32 (hwd k c n i)))
          replace H := H.part (4 * i) 4 (by omega) (b32 (hwd k c n i))
          refine ⟨_, rfl, K, ?_⟩
          simp only [Act.put, List.setIfInBounds_toArray, List.set_cons_zero, List.set_cons_succ]
          refine wpAnyH_done (by kernel_rfl) ?_ _
          have HS := show Hid _ from (And.intro K (show HO k c n O (i + 1) _ _ from ⟨H, HD.out⟩))
          clear K H HD
          generalize (wr.drew.setCells O (4 * i) (row .u8 4 (b32 (hwd k c n i)))) = w6 at *
          go_wp2
          go_roundw
          case rel => first | exact ⟨i + 1, _, by omega, by go_num, HS.out⟩ | ((repeat apply Exists.intro); refine ⟨⟨i + 1, _, by omega, ?_, HS.out⟩, rfl⟩ <;> first | rfl | go_num)
          case measure => simp [intOf]; omega
        · obtain rfl : i = 16 := by omega
          have h1 := H.congr (g := hblk k c n) (fun j hj => hd j (by omega))
          have hz := (K.room _ (List.mem_cons_of_mem _ List.mem_cons_self)).1
          have hB := (K.fill _ _ (List.mem_cons_of_mem _ List.mem_cons_self) (row .u8 64 (hblk k c n))).below
          clear K H hd hlt hi g1
          generalize hf : hblk k c n = f at *
          go_wp2_with (first | (refine wpList_load_mid rfl 43 _ rfl (O) 0 rfl (row .u8 64 (f)) _ (Has.range (h1)) Tryd.underlying43 rfl (hb_info _) ?_) | (refine wpList_store_mid rfl 43 _ _ rfl (w.heap.size + 1 + 1) 0 (row .u8 64 f).toArray rfl rfl (room_of hz) (hb_info' _) (all_oneCell_toArray (row_one _ _ _)) ?_))
          exact bodyPost_ret (v := (.agg (row .u8 64 (f)).toArray)) (results_row Tryd.results19 rfl (Has.all hz .u8 _).range Tryd.underlying43 rfl (hb_info _)) rfl ⟨by first | rfl | rw [hf], hB⟩
end Go.Proofs.YteclkiabkdaklaaDoor

namespace Go.Proofs.YteclkiabkdaklaaDoor
open Go.RowKit

theorem idx64 (b i : Nat) (hi : i < 64) (w : World) {o : Oper} {a : Act} (x y : Operand) (ho : o.op = .indexAddr 43 x y) (hx : a.eval x = .pointer (some ⟨b, 0, none⟩)) (hy : a.eval y = .int .i64 (i : Int)) :
    (execOp a.eval o).run Tryd.prog w = .ok (.value (.pointer (some ⟨b, i, none⟩))) w := by
  have h := idxArr (P := Tryd.prog) 43 5 64 .i64 b 0 i x y Tryd.underlying43 (fun _ => by kernel_rfl) hi ho hx hy w
  rw [Nat.zero_add] at h
  exact h

/-- The first m bytes are laid over. -/
def HX (k : Nat → Int) (c : Int) (n : Nat → Int) (z : Nat → Int) (O len m : Nat) (g : Nat → Int) (w' : World) : Prop := Has w' O .u8 len g ∧ ∀ j, j < m → g j = hxor k c n z j

set_option maxRecDepth 10000 in
set_option maxHeartbeats 4000000 in
theorem hxor_any (k : Nat → Int) (c : Int) (n : Nat → Int) (hk : In 256 32 k) (hn : In 256 12 n) (hc : 0 ≤ c ∧ c < V) (sp : Option Addr) (len cap : Nat) (hlen : len ≤ 140737488355328) (z : Nat → Int) (w : World) (hg : HGlob w) (hs : Src w sp len z) :
    Calls Tryd.prog 14 #[(.agg (row .u8 32 (k)).toArray), .int .u32 c, (.agg (row .u8 12 (n)).toArray), .slice sp len cap] w fun e w' => ∃ B, e = .returned (.slice (some ⟨B, 0, none⟩) len len) ∧ (w.heap.size ≤ B ∧ B < w'.heap.size ∧ Has w' B .u8 len (hxor k c n z)) ∧ Below w.heap.size w w' := by
  have K := Kr.init w
  replace K := K.box .u8 32 k 23 w.heap.size rfl
  replace K := K.box .u8 12 n 25 (w.heap.size + 1) (by simp)
  go_enter Tryd.func14, Tryd.ntmps14
  go_upto_region 1 with fail
  generalize ((w.alloc (.cells (row .u8 32 k).toArray 23)).alloc (.cells (row .u8 12 n).toArray 25)) = w0 at K ⊢
  refine wp_region_list ?_
  refine pureL (.slice sp len cap) rfl (fun _ => by kernel_rfl) ?_
  simp only [Act.put, List.setIfInBounds_toArray, List.set_cons_zero, List.set_cons_succ]
  refine pureL (.int .i64 (len : Int)) rfl (fun w => lenS _ 26 5 sp len cap rfl Tryd.underlying26 rfl w) ?_
  simp only [Act.put, List.setIfInBounds_toArray, List.set_cons_zero, List.set_cons_succ]
  refine actL (.slice (some ⟨w0.heap.size, 0, none⟩) len len) rfl (makeOp _ _ _ _ _ _ rfl rfl rfl (made8 len (by omega) w0)) ?_
  simp only [Act.put, List.setIfInBounds_toArray, List.set_cons_zero, List.set_cons_succ]
  refine pureL (.slice (some ⟨w0.heap.size, 0, none⟩) len len) rfl (fun _ => by kernel_rfl) ?_
  simp only [Act.put, List.setIfInBounds_toArray, List.set_cons_zero, List.set_cons_succ]
  have z0 := K.size
  have H := Has.new w0 .u8 len (fun _ => 0) 5 w0.heap.size rfl
  replace K := K.make len _ 5 w0.heap.size rfl H.there
  have HI := show HX k c n z w0.heap.size len 0 (fun _ => 0) _ from ⟨H, fun j hj => by omega⟩
  clear H
  generalize (w0.alloc (.cells (row .u8 len (fun _ => 0)).toArray 5)) = w1 at K HI ⊢
  generalize w0.heap.size = O at *
  show Exit.then _ _ _ _ _
  go_wp2
  go_loopw [1, 10] (fun cv i w' => ∃ (t : Nat) (g : Nat → Int), 64 * t < len + 64 ∧ i = .int .i64 (64 * (t : Int)) ∧ cv = .int .u32 ((c + (t : Int)) % 4294967296) ∧ Kr w (O + 1) [(w.heap.size + 1, .u8, 12, n), (w.heap.size, .u8, 32, k)] [(O, len)] w' ∧ HX k c n z O len (min (64 * t) len) g w') (fun _ i _ => len + 64 - (intOf i).toNat)
  case atStart => exact ⟨0, _, by omega, rfl, by rw [show (c + ((0 : Nat) : Int)) % 4294967296 = c by simp only [V] at hc; omega], K, by rw [show min (64 * 0) len = 0 by omega]; exact HI⟩
  case round =>
    clear K HI
    obtain ⟨t, g, ht, rfl, rfl, K, H, hd⟩ := hrel
    obtain ⟨C, hC⟩ : ∃ C, (c + (t : Int)) % 4294967296 = C := ⟨_, rfl⟩
    rw [hC]
    have g1 : (0 : Int) ≤ 64 * (t : Int) := by omega
    by_cases hlt : 64 * t < len
    · have g2 : 64 * (t : Int) < (len : Int) := by omega
      have HCn := show Hid _ from hC
      clear hC
      go_upto_region 5 with fail
      refine wp_region_list ?_
      refine rowKL .u8 32 k w.heap.size 0 23 _ _ rfl rfl rfl Tryd.underlying23 rfl (key_info _) (K.get _ _ _ _ (List.mem_cons_of_mem _ List.mem_cons_self)).range ?_
      simp only [Act.put, List.setIfInBounds_toArray, List.set_cons_zero, List.set_cons_succ]
      refine pureL (.int .u32 C) rfl (fun _ => by kernel_rfl) ?_
      simp only [Act.put, List.setIfInBounds_toArray, List.set_cons_zero, List.set_cons_succ]
      refine rowKL .u8 12 n (w.heap.size + 1) 0 25 _ _ rfl rfl rfl Tryd.underlying25 rfl (hn_info _) (K.get _ _ _ _ List.mem_cons_self).range ?_
      simp only [Act.put, List.setIfInBounds_toArray, List.set_cons_zero, List.set_cons_succ]
      refine callL rfl (fun _ => by kernel_rfl) (hblock_any k C n hk hn _ (hg.below K.below hg.size)) ?_
      rintro e w2 ⟨rfl, l⟩
      have hO := (K.room (O, len) List.mem_cons_self).2.1
      have hsz := K.size
      replace H := H.below l (by omega)
      replace K := K.call l
      clear l
      refine ⟨_, rfl, ?_⟩
      simp only [Act.put, List.setIfInBounds_toArray, List.set_cons_zero, List.set_cons_succ]
      refine allocL #[.int .u8 0, .int .u8 0, .int .u8 0, .int .u8 0, .int .u8 0, .int .u8 0, .int .u8 0, .int .u8 0, .int .u8 0, .int .u8 0, .int .u8 0, .int .u8 0, .int .u8 0, .int .u8 0, .int .u8 0, .int .u8 0, .int .u8 0, .int .u8 0, .int .u8 0, .int .u8 0, .int .u8 0, .int .u8 0, .int .u8 0, .int .u8 0, .int .u8 0, .int .u8 0, .int .u8 0, .int .u8 0, .int .u8 0, .int .u8 0, .int .u8 0, .int .u8 0, .int .u8 0, .int .u8 0, .int .u8 0, .int .u8 0, .int .u8 0, .int .u8 0, .int .u8 0, .int .u8 0, .int .u8 0, .int .u8 0, .int .u8 0, .int .u8 0, .int .u8 0, .int .u8 0, .int .u8 0, .int .u8 0, .int .u8 0, .int .u8 0, .int .u8 0, .int .u8 0, .int .u8 0, .int .u8 0, .int .u8 0, .int .u8 0, .int .u8 0, .int .u8 0, .int .u8 0, .int .u8 0, .int .u8 0, .int .u8 0, .int .u8 0, .int .u8 0] 43 rfl (fun _ => by kernel_rfl) ?_
      simp only [Act.put, List.setIfInBounds_toArray, List.set_cons_zero, List.set_cons_succ]
      refine storesL .u8 64 (hblk k C n) w2.heap.size 43 _ _ rfl rfl rfl rfl (room_of (hb_zero _ _ _ rfl).there) (hb_info' _) ?_
      simp only [Act.put]
      have z2 := K.size
      replace H := (H.alloc (.cells #[.int .u8 0, .int .u8 0, .int .u8 0, .int .u8 0, .int .u8 0, .int .u8 0, .int .u8 0, .int .u8 0, .int .u8 0, .int .u8 0, .int .u8 0, .int .u8 0, .int .u8 0, .int .u8 0, .int .u8 0, .int .u8 0, .int .u8 0, .int .u8 0, .int .u8 0, .int .u8 0, .int .u8 0, .int .u8 0, .int .u8 0, .int .u8 0, .int .u8 0, .int .u8 0, .int .u8 0, .int .u8 0, .int .u8 0, .int .u8 0, .int .u8 0, .int .u8 0, .int .u8 0, .int .u8 0, .int .u8 0, .int .u8 0, .int .u8 0, .int .u8 0, .int .u8 0, .int .u8 0, .int .u8 0, .int .u8 0, .int .u8 0, .int .u8 0, .int .u8 0, .int .u8 0, .int .u8 0, .int .u8 0, .int .u8 0, .int .u8 0, .int .u8 0, .int .u8 0, .int .u8 0, .int .u8 0, .int .u8 0, .int .u8 0, .int .u8 0, .int .u8 0, .int .u8 0, .int .u8 0, .int .u8 0, .int .u8 0, .int .u8 0, .int .u8 0] 43) (by omega)).setAll_other w2.heap.size (by omega) 0 (row .u8 64 (hblk k C n))
      replace K := K.fresh .u8 64 (hblk k C n) #[.int .u8 0, .int .u8 0, .int .u8 0, .int .u8 0, .int .u8 0, .int .u8 0, .int .u8 0, .int .u8 0, .int .u8 0, .int .u8 0, .int .u8 0, .int .u8 0, .int .u8 0, .int .u8 0, .int .u8 0, .int .u8 0, .int .u8 0, .int .u8 0, .int .u8 0, .int .u8 0, .int .u8 0, .int .u8 0, .int .u8 0, .int .u8 0, .int .u8 0, .int .u8 0, .int .u8 0, .int .u8 0, .int .u8 0, .int .u8 0, .int .u8 0, .int .u8 0, .int .u8 0, .int .u8 0, .int .u8 0, .int .u8 0, .int .u8 0, .int .u8 0, .int .u8 0, .int .u8 0, .int .u8 0, .int .u8 0, .int .u8 0, .int .u8 0, .int .u8 0, .int .u8 0, .int .u8 0, .int .u8 0, .int .u8 0, .int .u8 0, .int .u8 0, .int .u8 0, .int .u8 0, .int .u8 0, .int .u8 0, .int .u8 0, .int .u8 0, .int .u8 0, .int .u8 0, .int .u8 0, .int .u8 0, .int .u8 0, .int .u8 0, .int .u8 0] 43 (hb_zero _ _ _ rfl).there
      generalize ((w2.alloc (.cells #[.int .u8 0, .int .u8 0, .int .u8 0, .int .u8 0, .int .u8 0, .int .u8 0, .int .u8 0, .int .u8 0, .int .u8 0, .int .u8 0, .int .u8 0, .int .u8 0, .int .u8 0, .int .u8 0, .int .u8 0, .int .u8 0, .int .u8 0, .int .u8 0, .int .u8 0, .int .u8 0, .int .u8 0, .int .u8 0, .int .u8 0, .int .u8 0, .int .u8 0, .int .u8 0, .int .u8 0, .int .u8 0, .int .u8 0, .int .u8 0, .int .u8 0, .int .u8 0, .int .u8 0, .int .u8 0, .int .u8 0, .int .u8 0, .int .u8 0, .int .u8 0, .int .u8 0, .int .u8 0, .int .u8 0, .int .u8 0, .int .u8 0, .int .u8 0, .int .u8 0, .int .u8 0, .int .u8 0, .int .u8 0, .int .u8 0, .int .u8 0, .int .u8 0, .int .u8 0, .int .u8 0, .int .u8 0, .int .u8 0, .int .u8 0, .int .u8 0, .int .u8 0, .int .u8 0, .int .u8 0, .int .u8 0, .int .u8 0, .int .u8 0, .int .u8 0] 43)).setCells w2.heap.size 0 (row .u8 64 (hblk k C n))) = w3 at K H ⊢
      generalize w2.heap.size = D at *
      clear w2 hsz
      have HX0 := show HX k c n z O len (64 * t) g w3 from ⟨H, fun j hj => hd j (by omega)⟩
      clear H hd
      show Exit.then _ _ _ _ _
      go_wp2
      go_loopw [12] (fun i w' => ∃ (i' : Nat) (g : Nat → Int), 64 * t ≤ i' ∧ i' ≤ min (64 * t + 64) len ∧ i = .int .i64 (i' : Int) ∧ Kr w (D + 1) [(D, .u8, 64, hblk k C n), (w.heap.size + 1, .u8, 12, n), (w.heap.size, .u8, 32, k)] [(O, len)] w' ∧ HX k c n z O len i' g w') (fun i _ => len + 64 - (intOf i).toNat)
      case atStart => exact ⟨64 * t, g, by omega, by omega, by go_num, K, HX0⟩
      case round =>
        clear K HX0
        obtain ⟨i, g, hi0, hi1, rfl, K, H, hd⟩ := hrel
        have g3 : (0 : Int) ≤ (i : Int) := by omega
        obtain ⟨M, hM⟩ : ∃ M : Nat, M = min (64 * t + 64) len := ⟨_, rfl⟩
        have hm : (if (len : Int) < 64 * (t : Int) + 64 then (len : Int) else 64 * (t : Int) + 64) = (M : Int) := by rw [hM]; split <;> omega
        go_upto_region 7 with fail
        refine wp_region_list ?_
        refine pureL (.int .i64 (i : Int)) rfl (fun _ => by kernel_rfl) ?_
        simp only [Act.put, List.setIfInBounds_toArray, List.set_cons_zero, List.set_cons_succ]
        refine pureL (.int .i64 (64 * (t : Int))) rfl (fun _ => by kernel_rfl) ?_
        simp only [Act.put, List.setIfInBounds_toArray, List.set_cons_zero, List.set_cons_succ]
        refine pureL (.int .i64 (64 * (t : Int) + 64)) rfl (fun w => addI .i64 (64 * (t : Int)) 64 _ _ _ _ _ rfl rfl rfl (by rw [IntKind.wrap_i64]; omega) w) ?_
        simp only [Act.put, List.setIfInBounds_toArray, List.set_cons_zero, List.set_cons_succ]
        refine pureL (.slice sp len cap) rfl (fun _ => by kernel_rfl) ?_
        simp only [Act.put, List.setIfInBounds_toArray, List.set_cons_zero, List.set_cons_succ]
        refine pureL (.int .i64 (len : Int)) rfl (fun w => lenS _ 26 5 sp len cap rfl Tryd.underlying26 rfl w) ?_
        simp only [Act.put, List.setIfInBounds_toArray, List.set_cons_zero, List.set_cons_succ]
        refine pureL (.int .i64 (M : Int)) rfl (fun w => minI .i64 .i64 _ _ _ _ _ _ _ rfl rfl rfl hm w) ?_
        simp only [Act.put, List.setIfInBounds_toArray, List.set_cons_zero, List.set_cons_succ]
        refine pureL (.bool (decide ((i : Int) < (M : Int)))) rfl (fun w => lssI .i64 _ _ _ _ _ _ rfl rfl rfl _ rfl w) ?_
        simp only [Act.put, List.setIfInBounds_toArray, List.set_cons_zero, List.set_cons_succ]
        show Exit.then _ _ _ _ _
        by_cases hlt2 : i < M
        · have e2 : decide ((i : Int) < (M : Int)) = true := by simp; omega
          rw [e2]
          have hil : i < len := by omega
          have hit : i - 64 * t < 64 := by omega
          obtain ⟨ad, rfl, ca⟩ := hs i hil
          go_upto_region 9 with fail
          have hv : bits .xor .u8 (z i) (hblk k C n (i - 64 * t)) = hxor k c n z i := by
            unfold hxor
            rw [show i / 64 = t by omega, show i % 64 = i - 64 * t by omega, HCn.out]
          have H2 := show Hid _ from hd
          clear hd
          refine wp_region_held_drew (S := fun w' => Kr w (D + 1) [(D, .u8, 64, hblk k C n), (w.heap.size + 1, .u8, 12, n), (w.heap.size, .u8, 32, k)] [(O, len)] w') (by kernel_rfl) K.drew ?_
          clear K
          intro K
          replace H := H.drew
          refine pureH (i := 0) (some 36) rfl (.slice (some ⟨O, 0, none⟩) len len) rfl rfl (fun _ => by kernel_rfl) (by kernel_rfl) (by kernel_rfl) (by kernel_rfl) (fun _ _ _ h => h) K ?_
          simp only [Act.put, List.setIfInBounds_toArray, List.set_cons_zero, List.set_cons_succ]
          refine pureH (i := 1) (some 37) rfl (.int .i64 (i : Int)) rfl rfl (fun _ => by kernel_rfl) (by kernel_rfl) (by kernel_rfl) (by kernel_rfl) (fun _ _ _ h => h) K ?_
          simp only [Act.put, List.setIfInBounds_toArray, List.set_cons_zero, List.set_cons_succ]
          refine pureH (i := 2) (some 38) rfl (.slice (some ad) len cap) rfl rfl (fun _ => by kernel_rfl) (by kernel_rfl) (by kernel_rfl) (by kernel_rfl) (fun _ _ _ h => h) K ?_
          simp only [Act.put, List.setIfInBounds_toArray, List.set_cons_zero, List.set_cons_succ]
          refine pureH (i := 3) (some 39) rfl (.int .i64 (i : Int)) rfl rfl (fun _ => by kernel_rfl) (by kernel_rfl) (by kernel_rfl) (by kernel_rfl) (fun _ _ _ h => h) K ?_
          simp only [Act.put, List.setIfInBounds_toArray, List.set_cons_zero, List.set_cons_succ]
          refine pureH (i := 4) (some 40) rfl (.pointer (some (ad.add i))) rfl rfl (fun w => idxSl 26 5 len cap .i64 ad i _ _ Tryd.underlying26 (fun _ => by kernel_rfl) hil rfl rfl rfl w) (by kernel_rfl) (by kernel_rfl) (by kernel_rfl) (fun _ _ _ h => h) K ?_
          simp only [Act.put, List.setIfInBounds_toArray, List.set_cons_zero, List.set_cons_succ]
          refine cellPH (i := 5) (some 41) rfl .u8 (.int .u8 (z i)) (ad.add i) 5 _ rfl rfl rfl rfl (by kernel_rfl) (by kernel_rfl) (by kernel_rfl) (fun _ _ _ h => h) Tryd.underlying5 K (fun w' h => by rw [h.below.cell (World.block_lt_of_cell? w _ ca)]; exact ca) ?_
          simp only [Act.put, List.setIfInBounds_toArray, List.set_cons_zero, List.set_cons_succ]
          refine pureH (i := 6) (some 42) rfl (.int .i64 (i : Int)) rfl rfl (fun _ => by kernel_rfl) (by kernel_rfl) (by kernel_rfl) (by kernel_rfl) (fun _ _ _ h => h) K ?_
          simp only [Act.put, List.setIfInBounds_toArray, List.set_cons_zero, List.set_cons_succ]
          refine pureH (i := 7) (some 43) rfl (.int .i64 (64 * (t : Int))) rfl rfl (fun _ => by kernel_rfl) (by kernel_rfl) (by kernel_rfl) (by kernel_rfl) (fun _ _ _ h => h) K ?_
          simp only [Act.put, List.setIfInBounds_toArray, List.set_cons_zero, List.set_cons_succ]
          refine pureH (i := 8) (some 44) rfl (.int .i64 ((i - 64 * t : Nat) : Int)) rfl rfl (fun w => subI .i64 (i : Int) (64 * (t : Int)) _ _ _ _ _ rfl rfl rfl (by rw [IntKind.wrap_i64]; omega) w) (by kernel_rfl) (by kernel_rfl) (by kernel_rfl) (fun _ _ _ h => h) K ?_
          simp only [Act.put, List.setIfInBounds_toArray, List.set_cons_zero, List.set_cons_succ]
          refine pureH (i := 9) (some 45) rfl (.pointer (some ⟨D, i - 64 * t, none⟩)) rfl rfl (fun w => idx64 D (i - 64 * t) hit w _ _ rfl rfl rfl) (by kernel_rfl) (by kernel_rfl) (by kernel_rfl) (fun _ _ _ h => h) K ?_
          simp only [Act.put, List.setIfInBounds_toArray, List.set_cons_zero, List.set_cons_succ]
          refine cellH (i := 10) (some 46) rfl .u8 (.int .u8 (hblk k C n (i - 64 * t))) D (i - 64 * t) 5 _ rfl rfl rfl rfl (by kernel_rfl) (by kernel_rfl) (by kernel_rfl) (fun _ _ _ h => h) Tryd.underlying5 K (fun _ h => (h.get _ _ _ _ List.mem_cons_self).cell (i - 64 * t) hit) ?_
          simp only [Act.put, List.setIfInBounds_toArray, List.set_cons_zero, List.set_cons_succ]
          refine pureH (i := 11) (some 47) rfl (.int .u8 (hxor k c n z i)) rfl rfl (fun w => xorI .u8 _ _ _ _ _ _ _ rfl rfl rfl hv w) (by kernel_rfl) (by kernel_rfl) (by kernel_rfl) (fun _ _ _ h => h) K ?_
          simp only [Act.put, List.setIfInBounds_toArray, List.set_cons_zero, List.set_cons_succ]
          refine pureH (i := 12) (some 48) rfl (.pointer (some ⟨O, i, none⟩)) rfl rfl (fun w => idxO O len len i hil w _ _ rfl rfl rfl) (by kernel_rfl) (by kernel_rfl) (by kernel_rfl) (fun _ _ _ h => h) K ?_
          simp only [Act.put, List.setIfInBounds_toArray, List.set_cons_zero, List.set_cons_succ]
          refine storeH (i := 13) none rfl .u8 (hxor k c n z i) O i 5 _ _ (by kernel_rfl) rfl rfl rfl rfl rfl (by rw [H.cell i hil]; rfl) (H.free i hil) (by kernel_rfl) (K.poke O len List.mem_cons_self i [.int .u8 (hxor k c n z i)]) ?_
          replace K := K.poke O len List.mem_cons_self i [.int .u8 (hxor k c n z i)]
          replace H := H.set i hil (hxor k c n z i)
          simp only [Act.put]
          refine wpAnyH_done (by kernel_rfl) ?_ _
          have HS := show Hid _ from (And.intro K (show HX k c n z O len (i + 1) _ _ from ⟨H, fun j hj => by
            by_cases e : j = i
            · subst e; rw [upd_same]
            · rw [upd_other _ _ _ _ e]; exact H2.out j (by omega)⟩))
          clear K H H2 hv ca hs e2
          go_wp2
          go_roundw
          case rel => first | exact ⟨i + 1, _, by omega, by omega, by go_num, HS.out⟩ | ((repeat apply Exists.intro); refine ⟨⟨i + 1, _, by omega, by omega, ?_, HS.out⟩, rfl⟩ <;> first | rfl | go_num)
          case measure => simp [intOf]; omega
        · have e2 : decide ((i : Int) < (M : Int)) = false := by simp; omega
          rw [e2]
          obtain rfl : i = M := by omega
          have K0 := K.back [(w.heap.size + 1, .u8, 12, n), (w.heap.size, .u8, 32, k)] (O + 1) (fun p hp => List.mem_cons_of_mem _ hp) (fun p hp => by
            rcases List.mem_cons.1 hp with rfl | hp
            · simp only; omega
            · obtain rfl := List.mem_singleton.1 hp; simp only; omega) (fun q hq => by obtain rfl := List.mem_singleton.1 hq; simp only; omega) (by omega) (by omega)
          have HS := show Hid _ from (And.intro K0 (show HX k c n z O len (min (64 * (t + 1)) len) g wr from ⟨H, fun j hj => hd j (by omega)⟩))
          have HC2 := show Hid _ from (show (C + 1) % 4294967296 = (c + ((t + 1 : Nat) : Int)) % 4294967296 by rw [← HCn.out]; omega)
          clear K K0 H hd HCn hs hlt2 hM hm
          go_wp2
          go_roundw
          case rel => first | exact ⟨t + 1, g, by omega, by go_num, by rw [HC2.out], HS.out⟩ | ((repeat apply Exists.intro); refine ⟨⟨t + 1, g, by omega, ?_, ?_, HS.out⟩, rfl⟩ <;> first | rfl | go_num | rw [HC2.out])
          case measure => simp [intOf]; omega
    · obtain ⟨e1, hall⟩ : min (64 * t) len = len ∧ len ≤ 64 * t := by omega
      rw [e1] at hd
      have HS := show Hid _ from (H.congr (g := hxor k c n z) (fun j hj => hd j hj))
      have hlo := (K.room (O, len) List.mem_cons_self).2
      have hsz := K.size
      have hbl := K.below
      have g2 : ¬ 64 * (t : Int) < (len : Int) := by omega
      clear K H hd hlt hC
      go_wp2
      go_ret
      exact ⟨O, rfl, ⟨hlo.2, by omega, HS.out⟩, hbl⟩
end Go.Proofs.YteclkiabkdaklaaDoor
