/- What bits.Add64 and Sub64 come to. -/
import Derived.Test.YtnphoennagmiaaaDoorProg
import Derived.Test.YtnphoennagmiaaaDoorBase
import Derived.Laws.Externs
import Derived.KernelRfl
import Derived.BigRegion
namespace Go.Proofs.YtnphoennagmiaaaDoor
open Go.RowKit

/-- A word's bound. -/
abbrev W : Int := 18446744073709551616

def aLo (x y c : Int) : Int := (x + y + c) % 18446744073709551616
def aHi (x y c : Int) : Int := (x + y + c) / 18446744073709551616
theorem add64 (x y c : Int) (hx : 0 ≤ x) (hy : 0 ≤ y) (hc0 : 0 ≤ c) (hc : c ≤ 1) (w : World) : (callFunc 37 #[.int .u64 x, .int .u64 y, .int .u64 c]).run Tryd.prog w =
    .ok (.value (.tuple #[.int .u64 (aLo x y c), .int .u64 (aHi x y c)])) w := by
  rw [run_callFunc_extern Tryd.func37 (by kernel_rfl) (by kernel_rfl) (by kernel_rfl) (e := add64Entry) (by kernel_rfl), run_add64 x y c hx hy hc0 hc]
  rfl

def sLo (x y c : Int) : Int := (x - y - c) % 18446744073709551616
def sHi (x y c : Int) : Int := if x < y + c then 1 else 0
/-- The model's own entry for bits.Sub64, by its place. -/
def subEntry : Array Value → Sem Value := (Extern.MathBitsCarry.rows.getLast (by simp [Extern.MathBitsCarry.rows])).2
theorem run_subEntry (x y b : Nat) (hb : b ≤ 1) (w : World) :
    (subEntry #[.int .u64 x, .int .u64 y, .int .u64 b]).run Tryd.prog w =
      .ok (.tuple #[.int .u64 (((x + 18446744073709551616 - y - b) % 18446744073709551616 : Nat) : Int), .int .u64 ((if x < y + b then 1 else 0 : Nat) : Int)]) w := by
  have : b = 0 ∨ b = 1 := by omega
  rcases this with rfl | rfl <;> rfl
theorem sub64 (x y c : Int) (hx : 0 ≤ x) (hy : 0 ≤ y) (hy' : y < 18446744073709551616) (hc0 : 0 ≤ c) (hc : c ≤ 1) (w : World) : (callFunc 38 #[.int .u64 x, .int .u64 y, .int .u64 c]).run Tryd.prog w =
    .ok (.value (.tuple #[.int .u64 (sLo x y c), .int .u64 (sHi x y c)])) w := by
  obtain ⟨x, rfl⟩ := Int.eq_ofNat_of_zero_le hx
  obtain ⟨y, rfl⟩ := Int.eq_ofNat_of_zero_le hy
  obtain ⟨c, rfl⟩ := Int.eq_ofNat_of_zero_le hc0
  have e1 : (((x + 18446744073709551616 - y - c) % 18446744073709551616 : Nat) : Int) = sLo x y c := by unfold sLo; omega
  have e2 : ((if x < y + c then 1 else 0 : Nat) : Int) = sHi x y c := by unfold sHi; split <;> split <;> omega
  rw [run_callFunc_extern Tryd.func38 (by kernel_rfl) (by kernel_rfl) (by kernel_rfl) (e := subEntry) (by kernel_rfl), run_subEntry x y c (by omega), e1, e2]
  rfl

end Go.Proofs.YtnphoennagmiaaaDoor
