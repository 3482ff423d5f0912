/- A word of eight bytes. -/
import Derived.Test.YtjddngedifgneacDoorWd
import Derived.Deep.QuietTactic
import Derived.BigQuiet
namespace Go.Proofs.YtjddngedifgneacDoor
open Go.RowKit

theorem below_drewN {B : Nat} {w w' : World} (h : Below B w w') {n : Nat} : Below B w (w'.drewN n) := ⟨h.os, h.tape, h.output, h.size, h.block⟩

set_option maxRecDepth 10000 in
set_option maxHeartbeats 4000000 in
theorem of_same (B o c : Nat) (x0 x1 x2 x3 x4 x5 x6 x7 : Int) (h0 : 0 ≤ x0 ∧ x0 < 256) (h1 : 0 ≤ x1 ∧ x1 < 256) (h2 : 0 ≤ x2 ∧ x2 < 256) (h3 : 0 ≤ x3 ∧ x3 < 256) (h4 : 0 ≤ x4 ∧ x4 < 256) (h5 : 0 ≤ x5 ∧ x5 < 256) (h6 : 0 ≤ x6 ∧ x6 < 256) (h7 : 0 ≤ x7 ∧ x7 < 256) (w : World) (c0 : w.cell? ⟨B, o, none⟩ = some (.int .u8 x0)) (c1 : w.cell? ⟨B, o + 1, none⟩ = some (.int .u8 x1)) (c2 : w.cell? ⟨B, o + 2, none⟩ = some (.int .u8 x2)) (c3 : w.cell? ⟨B, o + 3, none⟩ = some (.int .u8 x3)) (c4 : w.cell? ⟨B, o + 4, none⟩ = some (.int .u8 x4)) (c5 : w.cell? ⟨B, o + 5, none⟩ = some (.int .u8 x5)) (c6 : w.cell? ⟨B, o + 6, none⟩ = some (.int .u8 x6)) (c7 : w.cell? ⟨B, o + 7, none⟩ = some (.int .u8 x7)) :
    Calls Tryd.prog 27 #[.slice (some ⟨B, o, none⟩) 8 c] w fun e w' => ∃ q, e = .returned (.int .u64 (x0 + x1 * 256 + x2 * 65536 + x3 * 16777216 + x4 * 4294967296 + x5 * 1099511627776 + x6 * 281474976710656 + x7 * 72057594037927936)) ∧ w' = w.drewN q := by
  have hg := glued x0 x1 x2 x3 x4 x5 x6 x7 h0 h1 h2 h3 h4 h5 h6 h7
  have HG := show Hid _ from hg
  clear hg h0 h1 h2 h3 h4 h5 h6 h7
  go_enter Tryd.func27, Tryd.ntmps27
  go_wp2
  go_quiet (fail)
  go_wp2
  go_ret
  exact ⟨nq, by rw [HG.out]; rfl, rfl⟩

theorem of_raw (B o c : Nat) (x0 x1 x2 x3 x4 x5 x6 x7 : Int) (h0 : 0 ≤ x0 ∧ x0 < 256) (h1 : 0 ≤ x1 ∧ x1 < 256) (h2 : 0 ≤ x2 ∧ x2 < 256) (h3 : 0 ≤ x3 ∧ x3 < 256) (h4 : 0 ≤ x4 ∧ x4 < 256) (h5 : 0 ≤ x5 ∧ x5 < 256) (h6 : 0 ≤ x6 ∧ x6 < 256) (h7 : 0 ≤ x7 ∧ x7 < 256) (w : World) (c0 : w.cell? ⟨B, o, none⟩ = some (.int .u8 x0)) (c1 : w.cell? ⟨B, o + 1, none⟩ = some (.int .u8 x1)) (c2 : w.cell? ⟨B, o + 2, none⟩ = some (.int .u8 x2)) (c3 : w.cell? ⟨B, o + 3, none⟩ = some (.int .u8 x3)) (c4 : w.cell? ⟨B, o + 4, none⟩ = some (.int .u8 x4)) (c5 : w.cell? ⟨B, o + 5, none⟩ = some (.int .u8 x5)) (c6 : w.cell? ⟨B, o + 6, none⟩ = some (.int .u8 x6)) (c7 : w.cell? ⟨B, o + 7, none⟩ = some (.int .u8 x7)) :
    Calls Tryd.prog 27 #[.slice (some ⟨B, o, none⟩) 8 c] w fun e w' => e = .returned (.int .u64 (x0 + x1 * 256 + x2 * 65536 + x3 * 16777216 + x4 * 4294967296 + x5 * 1099511627776 + x6 * 281474976710656 + x7 * 72057594037927936)) ∧ Below w.heap.size w w' :=
  (of_same B o c x0 x1 x2 x3 x4 x5 x6 x7 h0 h1 h2 h3 h4 h5 h6 h7 w c0 c1 c2 c3 c4 c5 c6 c7).mono fun _ _ ⟨_, he, hw⟩ => ⟨he, by rw [hw]; exact (below_drewN (Below.refl _ _))⟩
end Go.Proofs.YtjddngedifgneacDoor
