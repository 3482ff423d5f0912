/- A text's tag: its pieces, what they come to, plain facts. -/
import Derived.Test.YtnphoennagmiaaaDoorCw
import Derived.Test.YtnphoennagmiaaaDoorCb
import Derived.Test.YtnphoennagmiaaaDoorCz
namespace Go.Proofs.YtnphoennagmiaaaDoor
open Go.RowKit

/-- How many bytes the piece number i has; the piece; how many there are. -/
def pcN (len i : Nat) : Nat := min (len - 16 * i) 16
def piece (len : Nat) (z : Nat → Int) (i : Nat) : Nat → Int := blk (pcN len i) (fun j => z (16 * i + j))
def npc (len : Nat) : Nat := (len + 15) / 16
theorem piece_in (len : Nat) (z : Nat → Int) (i : Nat) (hz : In 256 len z) : In 256 17 (piece len z i) := blk_in _ _ fun j hj => hz _ (by unfold pcN at hj; omega)
/-- What so many pieces come to. -/
def acc (r : Int) (len : Nat) (z : Nat → Int) : Nat → Int
  | 0 => 0
  | i + 1 => ((acc r len z i + val 256 (piece len z i) 17) * r) % Q
/-- The number to multiply by, and the number to add, of a key; the tag's number. -/
def pR (k : Nat → Int) : Int := val 256 (trimT k) 16
def pS (k : Nat → Int) : Int := val 256 (fun j => k (16 + j)) 16
def ptag (k : Nat → Int) (len : Nat) (z : Nat → Int) : Int := (acc (pR k) len z (npc len) % Q + pS k) % 340282366920938463463374607431768211456
/-- The number to multiply by, in 17 bytes. -/
def byB (f : Nat → Int) : Nat → Int := fun j => if j < 16 then f j else 0
theorem byB_in (f : Nat → Int) (h : In 256 16 f) : In 256 17 (byB f) := fun j _ => by
  unfold byB
  split
  · exact h j (by assumption)
  · omega
theorem byB_val (f : Nat → Int) : val 256 (byB f) 17 = val 256 f 16 := by
  have e1 : val 256 (byB f) 17 = val 256 (byB f) 16 + 256 ^ 16 * byB f 16 := rfl
  have e2 : byB f 16 = 0 := by unfold byB; rw [if_neg (by omega)]
  rw [e1, e2, Int.mul_zero, Int.add_zero]
  exact val_congr 256 16 fun j hj => by unfold byB; rw [if_pos hj]
/-- A step, as the program and the document take it. -/
theorem acc_step {r : Int} {len : Nat} {z : Nat → Int} {i : Nat} {x y p : Int} (hx : x = (acc r len z i + val 256 (piece len z i) 17) % Q) (hp : p = r) (hy : y = (x * p) % Q) : y = acc r len z (i + 1) := by
  rw [hy, hx, hp]
  show _ = ((acc r len z i + val 256 (piece len z i) 17) * r) % Q
  rw [Int.mul_emod, Int.emod_emod_of_dvd _ (Int.dvd_refl Q), ← Int.mul_emod]
end Go.Proofs.YtnphoennagmiaaaDoor
