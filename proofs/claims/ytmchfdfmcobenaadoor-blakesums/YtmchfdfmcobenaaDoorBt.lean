/- A text pressed piece by piece: plain facts; no program stands in this. -/
import Derived.Test.YtmchfdfmcobenaaDoorBb
namespace Go.Proofs.YtmchfdfmcobenaaDoor
open Go.RowKit

/-- At most so many bytes, with noughts behind. -/
def padz (len : Nat) (z : Nat → Int) : Nat → Int := fun j => if j < len then z j else 0
theorem padz_in (len : Nat) (z : Nat → Int) (hz : In 256 len z) (n : Nat) : In 256 n (padz len z) := fun j _ => by
  unfold padz
  split
  · exact hz j (by assumption)
  · omega
/-- The words' bytes. -/
def bout (h : Nat → Int) : Nat → Int := fun j => b32 (h (j / 4)) (j % 4)
/-- How many pieces; so many of them pressed. -/
def nbt (n : Nat) : Nat := if n = 0 then 1 else (n + 63) / 64
def tH (h0 : Nat → Int) (n : Nat) (f : Nat → Int) : Nat → Nat → Int
  | 0 => h0
  | i + 1 => bpr (tH h0 n f i) (fun j => f (64 * i + j)) ((min (64 * i + 64) n : Nat) : Int) (decide (i + 1 = nbt n))
theorem tH_in (h0 : Nat → Int) (n : Nat) (f : Nat → Int) (h : In V 8 h0) : ∀ i, In V 8 (tH h0 n f i)
  | 0 => h
  | i + 1 => bpr_in _ _ _ _ (tH_in h0 n f h i)
theorem bH_tH (kl : Nat) (key : Nat → Int) (size len : Nat) (z : Nat → Int) : ∀ i, bH kl key size len z i = tH (bh0 kl size) (btl kl len) (btx kl key len z) i
  | 0 => rfl
  | i + 1 => by
    unfold bH tH
    rw [bH_tH kl key size len z i]
    rfl
theorem bsum_tH (kl : Nat) (key : Nat → Int) (size len : Nat) (z : Nat → Int) : bsum kl key size len z = bout (tH (bh0 kl size) (btl kl len) (btx kl key len z) (nbt (btl kl len))) := by
  funext j
  unfold bsum bout
  rw [bH_tH]
  rfl
/-- Words that are not looked at may differ. -/
theorem bN_congr (m m' : Nat → Int) (r : Nat) (h : ∀ i, i < 16 → m i = m' i) (v : Nat → Int) : ∀ k, bN m (sg r) v k = bN m' (sg r) v k
  | 0 => rfl
  | k + 1 => by
    unfold bN
    rw [bN_congr m m' r h v k]
    unfold bAt
    rw [h _ (sg_lt r _), h _ (sg_lt r _)]
theorem bR_congr (m m' : Nat → Int) (h : ∀ i, i < 16 → m i = m' i) (v : Nat → Int) : ∀ r, bR m v r = bR m' v r
  | 0 => rfl
  | r + 1 => by
    unfold bR
    rw [bR_congr m m' h v r, bN_congr m m' r h]
theorem bpr_congr (h z z' : Nat → Int) (t : Int) (last : Bool) (e : ∀ j, j < 64 → z j = z' j) : bpr h z t last = bpr h z' t last := by
  funext i
  unfold bpr
  rw [bR_congr (bpw z) (bpw z') (fun i hi => by unfold bpw w32; rw [e _ (by omega), e _ (by omega), e _ (by omega), e _ (by omega)])]
/-- A front, which is a whole piece or nothing, and bytes behind it. -/
def tx2 (fl : Nat) (y : Nat → Int) (len : Nat) (z : Nat → Int) : Nat → Int := fun j => if j < fl then y j else padz len z (j - fl)
theorem tx2_none (y z : Nat → Int) (j : Nat) : tx2 64 y 0 z (64 * 0 + j) = padz 64 y j := by
  unfold tx2 padz
  rw [Nat.mul_zero, Nat.zero_add]
  by_cases e : j < 64
  · rw [if_pos e, if_pos e]
  · rw [if_neg e, if_neg e, if_neg (Nat.not_lt_zero _)]
theorem btx_tx2 (kl : Nat) (key : Nat → Int) (hk : 0 < kl) (len : Nat) (z : Nat → Int) : btx kl key len z = tx2 64 (padz kl key) len z := by
  funext j
  unfold btx tx2 padz
  rw [if_neg (show kl ≠ 0 by omega)]
  by_cases e : j < 64
  · rw [if_pos e, if_pos e]
  · rw [if_neg e, if_neg e]
    by_cases e2 : j < 64 + len
    · rw [if_pos e2, if_pos (by omega)]
    · rw [if_neg e2, if_neg (by omega)]
theorem btx_tx0 (key : Nat → Int) (len : Nat) (y z : Nat → Int) : btx 0 key len z = tx2 0 y len z := by
  funext j
  unfold btx tx2 padz
  rw [if_pos rfl, if_neg (Nat.not_lt_zero j), Nat.sub_zero]
theorem bhash_tx2 (fl : Nat) (y : Nat → Int) (len : Nat) (z : Nat → Int) : bhash (fl + len) (app y fl z) = bout (tH (bh0 0 32) (fl + len) (tx2 fl y len z) (nbt (fl + len))) := by
  have e1 : btl 0 (fl + len) = fl + len := Nat.zero_add _
  have e2 : btx 0 (fun _ => 0) (fl + len) (app y fl z) = tx2 fl y len z := by
    funext j
    unfold btx tx2 padz app
    rw [if_pos rfl]
    by_cases e : j < fl
    · rw [if_pos (by omega), if_pos e, if_pos e]
    · rw [if_neg e, if_neg e]
      by_cases e3 : j < fl + len
      · rw [if_pos e3, if_pos (by omega)]
      · rw [if_neg e3, if_neg (by omega)]
  unfold bhash
  rw [bsum_tH, e1, e2]
end Go.Proofs.YtmchfdfmcobenaaDoor
