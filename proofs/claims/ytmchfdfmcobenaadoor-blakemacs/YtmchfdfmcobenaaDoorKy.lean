/- The shape of 32 bytes. -/
import Derived.Test.YtmchfdfmcobenaaDoorProg
import Derived.Test.YtmchfdfmcobenaaDoorBase
import Derived.KernelRfl
namespace Go.Proofs.YtmchfdfmcobenaaDoor
open Go.RowKit

theorem key_info (f : Nat → Int) : (Tryd.prog.info? 29).map (·.size) = some (row .u8 32 f).length := by rw [row_length]; kernel_rfl
theorem key_info' (f : Nat → Int) : (Tryd.prog.info? 29).map (·.size) = some (row .u8 32 f).toArray.size := by rw [List.size_toArray]; exact key_info f
theorem key_there {w : World} {b : Nat} {f g : Nat → Int} (h : Has w b .u8 32 f) : w.there b 0 (row .u8 32 g).toArray.size := by rw [List.size_toArray, row_length]; exact h.there
theorem key_zero (w : World) (t : TypeId) (b : Nat) (hb : b = w.heap.size) : Has (w.alloc (.cells #[.int .u8 0, .int .u8 0, .int .u8 0, .int .u8 0, .int .u8 0, .int .u8 0, .int .u8 0, .int .u8 0, .int .u8 0, .int .u8 0, .int .u8 0, .int .u8 0, .int .u8 0, .int .u8 0, .int .u8 0, .int .u8 0, .int .u8 0, .int .u8 0, .int .u8 0, .int .u8 0, .int .u8 0, .int .u8 0, .int .u8 0, .int .u8 0, .int .u8 0, .int .u8 0, .int .u8 0, .int .u8 0, .int .u8 0, .int .u8 0, .int .u8 0, .int .u8 0] t)) b .u8 32 (fun _ => 0) := Has.new w .u8 32 (fun _ => 0) t b hb
end Go.Proofs.YtmchfdfmcobenaaDoor
