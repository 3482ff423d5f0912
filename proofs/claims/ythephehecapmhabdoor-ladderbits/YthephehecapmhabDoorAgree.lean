/- Two who take each other's public key share the same: by the sums of points. -/
import Derived.Test.YthephehecapmhabDoorEx
namespace Go.Proofs.YthephehecapmhabDoor
open Go.RowKit

/-- A number below 2^255 has no highest bit. -/
theorem mask_small (f : Nat → Int) (hf : In 256 32 f) (h : val 256 f 32 < 57896044618658097711785492504343953926634992332820282019728792003956564819968) : ∀ j, j < 32 → mask f j = f j := by
  have h31 : f 31 < 128 := by
    have e : val 256 f 32 = val 256 f 31 + 256 ^ 31 * f 31 := rfl
    have b := val_in 256 (by decide) f 31 (fun j hj => hf j (by omega))
    rw [e, show (256 : Int) ^ 31 = 452312848583266388373324160190187140051835877600158453279131187530910662656 by decide] at h
    omega
  intro j hj
  unfold mask
  by_cases e : j = 31
  · subst e
    have := (hf 31 (by omega)).1
    rw [upd_same]
    omega
  · rw [upd_other _ _ _ _ e]
theorem mask_kz (f : Nat → Int) (x : Fin QN) (hf : In 256 32 f) (h : val 256 f 32 = (x.val : Int)) : kz (mask f) = x := by
  have hx := x.isLt
  unfold kz
  rw [val_congr 256 32 (mask_small f hf (by rw [h]; simp only [QN] at hx; omega)), h, fz_of]
theorem nine_kz : kz (mask (one 9)) = Ed.aff inz base := by
  rw [base_aff]
  exact kz_of _ 9 _ (by decide +kernel) rfl
theorem tm_nine (k : Nat → Int) : tm k (one 9) = Ed.out inz (Ed.run cz (Ed.aff inz base) (kbit (trim k)) 255) := by
  unfold tm
  rw [nine_kz]
theorem tm_of (k f : Nat → Int) (x : Fin QN) (hf : In 256 32 f) (h : val 256 f 32 = (x.val : Int)) : tm k f = Ed.out inz (Ed.run cz x (kbit (trim k)) 255) := by
  unfold tm
  rw [mask_kz f x hf h]
theorem tm_agrees (a b f g : Nat → Int) (hf : In 256 32 f) (ef : val 256 f 32 = ((tm b (one 9)).val : Int)) (hg : In 256 32 g) (eg : val 256 g 32 = ((tm a (one 9)).val : Int)) : tm a f = tm b g := by
  rw [tm_of a f _ hf ef, tm_of b g _ hg eg, tm_nine, tm_nine]
  exact fld.agrees inz_zero cz_con base_on _ _ (trim_bit0 a) (trim_bit0 b)
end Go.Proofs.YthephehecapmhabDoor
