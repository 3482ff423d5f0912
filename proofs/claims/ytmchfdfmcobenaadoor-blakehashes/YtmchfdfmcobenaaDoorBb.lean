/- HMAC over BLAKE2s as plain facts; what Sum answers where it refuses; no program stands in this. -/
import Derived.Test.YtmchfdfmcobenaaDoorBa
import Derived.Test.YtmchfdfmcobenaaDoorOw
namespace Go.Proofs.YtmchfdfmcobenaaDoor
open Go.RowKit

/-- How many bytes Sum answers, and which error. -/
def bL (kl : Nat) (size : Int) : Nat := if size < 1 ∨ 32 < size ∨ 32 < kl then 0 else size.toNat
def bE (kl : Nat) (size : Int) : Int := if size < 1 ∨ 32 < size ∨ 32 < kl then 1 else 0
/-- A key of 64 bytes, each byte's XOR with one of the two numbers, a mac. -/
def bkk (kl : Nat) (key : Nat → Int) : Nat → Int := fun j => if kl ≤ 64 then (if j < kl then key j else 0) else if j < 32 then bhash kl key j else 0
def bxx (c : Int) (k : Nat → Int) : Nat → Int := fun j => bits .xor .u8 (k j) c
def bmac (kl : Nat) (key : Nat → Int) (len : Nat) (z : Nat → Int) : Nat → Int := bhash 96 (app (bxx 92 (bkk kl key)) 64 (bhash (64 + len) (app (bxx 54 (bkk kl key)) 64 z)))
theorem bhash_in (len : Nat) (z : Nat → Int) (n : Nat) : In 256 n (bhash len z) := bsum_in _ _ _ _ _ _
theorem bkk_in (kl : Nat) (key : Nat → Int) (hk : In 256 kl key) (n : Nat) : In 256 n (bkk kl key) := fun j _ => by
  unfold bkk
  split
  · split
    · exact hk j (by assumption)
    · omega
  · split
    · exact bhash_in kl key 32 j (by assumption)
    · omega
theorem bxx_in (c : Int) (hc : 0 ≤ c ∧ c < 256) (k : Nat → Int) (n : Nat) (hk : In 256 n k) : In 256 n (bxx c k) := fun j hj => by
  unfold bxx
  obtain ⟨x, hx⟩ := Int.eq_ofNat_of_zero_le (hk j hj).1
  obtain ⟨y, rfl⟩ := Int.eq_ofNat_of_zero_le hc.1
  have h1 := (hk j hj).2
  rw [hx] at h1 ⊢
  have h : x ^^^ y < 2 ^ 8 := Nat.xor_lt_two_pow (by omega) (by omega)
  rw [u8_xor_nat x y (by omega) (by omega)]
  omega
theorem app_in (n m : Nat) (f g : Nat → Int) (hf : In 256 n f) (hg : In 256 m g) : In 256 (n + m) (app f n g) := fun j hj => by
  unfold app
  split
  · exact hf j (by assumption)
  · exact hg _ (by omega)
/-- Hashes of texts that have the same bytes are the same. -/
theorem btx_congr (kl : Nat) (key key' : Nat → Int) (len : Nat) (z y : Nat → Int) (hk : ∀ j, j < kl → key j = key' j) (h : ∀ j, j < len → z j = y j) : btx kl key len z = btx kl key' len y := by
  funext j
  unfold btx
  by_cases e : kl = 0
  · rw [if_pos e, if_pos e]
    by_cases e1 : j < len
    · rw [if_pos e1, if_pos e1, h j e1]
    · rw [if_neg e1, if_neg e1]
  · rw [if_neg e, if_neg e]
    by_cases e1 : j < 64
    · rw [if_pos e1, if_pos e1]
      by_cases e2 : j < kl
      · rw [if_pos e2, if_pos e2, hk j e2]
      · rw [if_neg e2, if_neg e2]
    · rw [if_neg e1, if_neg e1]
      by_cases e2 : j < 64 + len
      · rw [if_pos e2, if_pos e2, h _ (by omega)]
      · rw [if_neg e2, if_neg e2]
theorem bH_congr (kl : Nat) (key key' : Nat → Int) (size len : Nat) (z y : Nat → Int) (hk : ∀ j, j < kl → key j = key' j) (h : ∀ j, j < len → z j = y j) : ∀ i, bH kl key size len z i = bH kl key' size len y i
  | 0 => rfl
  | i + 1 => by
    unfold bH
    rw [bH_congr kl key key' size len z y hk h i, btx_congr kl key key' len z y hk h]
theorem bsum_congr (kl : Nat) (key key' : Nat → Int) (size len : Nat) (z y : Nat → Int) (hk : ∀ j, j < kl → key j = key' j) (h : ∀ j, j < len → z j = y j) : bsum kl key size len z = bsum kl key' size len y := by
  funext j
  unfold bsum
  rw [bH_congr kl key key' size len z y hk h]
theorem bhash_congr (len : Nat) (z y : Nat → Int) (h : ∀ j, j < len → z j = y j) : bhash len z = bhash len y := bsum_congr _ _ _ _ _ _ _ (fun _ _ => rfl) h
theorem bmac_of (kl kl' : Nat) (key key' : Nat → Int) (len : Nat) (z : Nat → Int) (h : bkk kl key = bkk kl' key') : bmac kl key len z = bmac kl' key' len z := by
  unfold bmac
  rw [h]
theorem bmac_hash (kl : Nat) (key : Nat → Int) (hk : 64 < kl) (len : Nat) (z : Nat → Int) : bmac 32 (bhash kl key) len z = bmac kl key len z := bmac_of _ _ _ _ _ _ (by
  funext j
  unfold bkk
  rw [if_pos (by omega), if_neg (show ¬ kl ≤ 64 by omega)])
theorem bmac_pad (kl n : Nat) (key : Nat → Int) (hk : kl + n ≤ 64) (len : Nat) (z : Nat → Int) : bmac (kl + n) (app key kl (fun _ => 0)) len z = bmac kl key len z := bmac_of _ _ _ _ _ _ (by
  funext j
  unfold bkk app
  rw [if_pos hk, if_pos (show kl ≤ 64 by omega)]
  by_cases e : j < kl
  · rw [if_pos (by omega), if_pos e]
  · rw [if_neg e]
    by_cases e2 : j < kl + n
    · rw [if_pos e2]
    · rw [if_neg e2])
end Go.Proofs.YtmchfdfmcobenaaDoor
