/- A word's eight bytes, written. -/
import Derived.Test.YtnphoennagmiaaaDoorWd
namespace Go.Proofs.YtnphoennagmiaaaDoor
open Go.RowKit

set_option maxRecDepth 10000 in
set_option maxHeartbeats 4000000 in
theorem put_raw (B o c : Nat) (x : Int) (y0 y1 y2 y3 y4 y5 y6 y7 : Int) (w : World) (c0 : w.cell? ⟨B, o, none⟩ = some (.int .u8 y0)) (f0 : w.frozen? ⟨B, o, none⟩ = false) (c1 : w.cell? ⟨B, o + 1, none⟩ = some (.int .u8 y1)) (f1 : w.frozen? ⟨B, o + 1, none⟩ = false) (c2 : w.cell? ⟨B, o + 2, none⟩ = some (.int .u8 y2)) (f2 : w.frozen? ⟨B, o + 2, none⟩ = false) (c3 : w.cell? ⟨B, o + 3, none⟩ = some (.int .u8 y3)) (f3 : w.frozen? ⟨B, o + 3, none⟩ = false) (c4 : w.cell? ⟨B, o + 4, none⟩ = some (.int .u8 y4)) (f4 : w.frozen? ⟨B, o + 4, none⟩ = false) (c5 : w.cell? ⟨B, o + 5, none⟩ = some (.int .u8 y5)) (f5 : w.frozen? ⟨B, o + 5, none⟩ = false) (c6 : w.cell? ⟨B, o + 6, none⟩ = some (.int .u8 y6)) (f6 : w.frozen? ⟨B, o + 6, none⟩ = false) (c7 : w.cell? ⟨B, o + 7, none⟩ = some (.int .u8 y7)) (f7 : w.frozen? ⟨B, o + 7, none⟩ = false) :
    Calls Tryd.prog 41 #[.slice (some ⟨B, o, none⟩) 8 c, .int .u64 x] w fun e w' => e = .returned (.tuple #[]) ∧ w' = ((((((((w.setCell ⟨B, o, none⟩ (.int .u8 (x % 256))).setCell ⟨B, o + 1, none⟩ (.int .u8 (x / 256 % 256))).setCell ⟨B, o + 2, none⟩ (.int .u8 (x / 65536 % 256))).setCell ⟨B, o + 3, none⟩ (.int .u8 (x / 16777216 % 256))).setCell ⟨B, o + 4, none⟩ (.int .u8 (x / 4294967296 % 256))).setCell ⟨B, o + 5, none⟩ (.int .u8 (x / 1099511627776 % 256))).setCell ⟨B, o + 6, none⟩ (.int .u8 (x / 281474976710656 % 256))).setCell ⟨B, o + 7, none⟩ (.int .u8 (x / 72057594037927936 % 256))) := by
  go_enter Tryd.func41, Tryd.ntmps41
  go_wp2
  go_end0
  exact ⟨rfl, rfl⟩
end Go.Proofs.YtnphoennagmiaaaDoor
