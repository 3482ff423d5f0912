/- The tables that the program's BLAKE2s reads. -/
import Derived.Test.YtmchfdfmcobenaaDoorBa
import Derived.Test.YtmchfdfmcobenaaDoorProg
namespace Go.Proofs.YtmchfdfmcobenaaDoor
open Go.RowKit

def bplc (j : Nat) : Int := if j % 4 = 0 then (pA (j / 4) : Int) else if j % 4 = 1 then (pB (j / 4) : Int) else if j % 4 = 2 then (pC (j / 4) : Int) else (pD (j / 4) : Int)
structure BGlob (w : World) : Prop where
  first : ∀ j, j < 8 → w.cell? ⟨0, j, none⟩ = some (.int .u32 (iv j))
  order : ∀ j, j < 160 → w.cell? ⟨2, j, none⟩ = some (.int .u8 (sgL.getD j 0 : Nat))
  place : ∀ j, j < 32 → w.cell? ⟨1, j, none⟩ = some (.int .u8 (bplc j))
  size : 3 ≤ w.heap.size
theorem BGlob.below {w w' : World} (h : BGlob w) {B : Nat} (l : Below B w w') (hB : 3 ≤ B) : BGlob w' :=
  ⟨fun j hj => by rw [l.cell (p := ⟨0, j, none⟩) (Nat.lt_of_lt_of_le (show 0 < 3 by decide) hB)]; exact h.first j hj, fun j hj => by rw [l.cell (p := ⟨2, j, none⟩) (Nat.lt_of_lt_of_le (show 2 < 3 by decide) hB)]; exact h.order j hj, fun j hj => by rw [l.cell (p := ⟨1, j, none⟩) (Nat.lt_of_lt_of_le (show 1 < 3 by decide) hB)]; exact h.place j hj, Nat.le_trans h.size l.size⟩
theorem BGlob.four {w : World} (h : BGlob w) (k : Nat) (hk : k < 8) : w.cell? ⟨1, k * 4, none⟩ = some (.int .u8 (pA k)) ∧ w.cell? ⟨1, k * 4 + 1, none⟩ = some (.int .u8 (pB k)) ∧ w.cell? ⟨1, k * 4 + 2, none⟩ = some (.int .u8 (pC k)) ∧ w.cell? ⟨1, k * 4 + 3, none⟩ = some (.int .u8 (pD k)) := by
  have e1 : bplc (k * 4) = (pA k : Int) := by unfold bplc; rw [if_pos (by omega), show k * 4 / 4 = k by omega]
  have e2 : bplc (k * 4 + 1) = (pB k : Int) := by unfold bplc; rw [if_neg (by omega), if_pos (by omega), show (k * 4 + 1) / 4 = k by omega]
  have e3 : bplc (k * 4 + 2) = (pC k : Int) := by unfold bplc; rw [if_neg (by omega), if_neg (by omega), if_pos (by omega), show (k * 4 + 2) / 4 = k by omega]
  have e4 : bplc (k * 4 + 3) = (pD k : Int) := by unfold bplc; rw [if_neg (by omega), if_neg (by omega), if_neg (by omega), show (k * 4 + 3) / 4 = k by omega]
  rw [← e1, ← e2, ← e3, ← e4]
  exact ⟨h.place _ (by omega), h.place _ (by omega), h.place _ (by omega), h.place _ (by omega)⟩
theorem BGlob.sg {w : World} (h : BGlob w) (r i : Nat) (hr : r < 10) (hi : i < 16) : w.cell? ⟨2, r * 16 + i, none⟩ = some (.int .u8 (sg r i)) := by
  have e : (sgL.getD (r * 16 + i) 0 : Nat) = Go.Proofs.YtmchfdfmcobenaaDoor.sg r i := by unfold Go.Proofs.YtmchfdfmcobenaaDoor.sg; rw [Nat.mul_comm]
  rw [← e]
  exact h.order _ (by omega)
end Go.Proofs.YtmchfdfmcobenaaDoor
