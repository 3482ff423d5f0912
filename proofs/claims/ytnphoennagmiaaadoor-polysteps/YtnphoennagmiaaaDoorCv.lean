/- Small things that the statements' walks want: bytes in a list, one cell of a row written anew, '==' on numbers. -/
import Derived.Test.YtnphoennagmiaaaDoorCw
import Derived.Test.YtnphoennagmiaaaDoorCb
import Derived.Test.YtnphoennagmiaaaDoorGn
import Derived.Lib.SlBytesConst
namespace Go.Proofs.YtnphoennagmiaaaDoor
open Go.RowKit

/-- The last byte of least bytes is 3 at most. -/
theorem top_byte {f : Nat → Int} {x : Int} (h : In 256 17 f) (e : val 256 f 17 = x % Q) : f 16 ≤ 3 := by
  have v := big_val f
  have i0 := val_in 256 (by decide) f 8 (fun j hj => h j (by omega))
  have i1 := val_in 256 (by decide) (fun j => f (8 + j)) 8 (fun j hj => h (8 + j) (by omega))
  have q : x % Q < Q := Int.emod_lt_of_pos _ (by decide)
  rw [e] at v
  simp only [Q] at *
  omega
end Go.Proofs.YtnphoennagmiaaaDoor
