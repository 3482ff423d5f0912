/- Words of four bytes, their bytes, turns to the left and to the right: what the program's own functions come to. -/
import Derived.Test.YtmchfdfmcobenaaDoorProg
import Derived.Test.YtmchfdfmcobenaaDoorHa
import Derived.Test.YtmchfdfmcobenaaDoorStep
import Derived.BigRegion
import Derived.BigQuiet
import Derived.Laws.Externs
namespace Go.Proofs.YtmchfdfmcobenaaDoor
open Go.RowKit

set_option maxRecDepth 10000 in
set_option maxHeartbeats 4000000 in
theorem of32_raw (B o l c : Nat) (hl : 4 ≤ l) (x0 x1 x2 x3 : Int) (h0 : 0 ≤ x0 ∧ x0 < 256) (h1 : 0 ≤ x1 ∧ x1 < 256) (h2 : 0 ≤ x2 ∧ x2 < 256) (h3 : 0 ≤ x3 ∧ x3 < 256) (w : World) (c0 : w.cell? ⟨B, o, none⟩ = some (.int .u8 x0)) (c1 : w.cell? ⟨B, o + 1, none⟩ = some (.int .u8 x1)) (c2 : w.cell? ⟨B, o + 2, none⟩ = some (.int .u8 x2)) (c3 : w.cell? ⟨B, o + 3, none⟩ = some (.int .u8 x3)) :
    Calls Tryd.prog 31 #[.slice (some ⟨B, o, none⟩) l c] w fun e w' => ∃ q, e = .returned (.int .u32 (x0 + x1 * 256 + x2 * 65536 + x3 * 16777216)) ∧ w' = w.drewN q := by
  have hg := glued32 x0 x1 x2 x3 h0 h1 h2 h3
  have HG := show Hid _ from hg
  have l0 : (0 : Int) < (l : Int) := by omega
  have l1 : (1 : Int) < (l : Int) := by omega
  have l2 : (2 : Int) < (l : Int) := by omega
  have l3 : (3 : Int) < (l : Int) := by omega
  clear hg h0 h1 h2 h3 hl
  go_enter Tryd.func31, Tryd.ntmps31
  go_wp2
  go_quiet (fail)
  go_wp2
  go_ret
  exact ⟨nq, by rw [HG.out]; rfl, rfl⟩
theorem of32_any (B o n l c : Nat) (a : Nat → Int) (hl : 4 ≤ l) (ho : o + 4 ≤ n) (ha : In 256 n a) (w : World) (h : Has w B .u8 n a) :
    Calls Tryd.prog 31 #[.slice (some ⟨B, o, none⟩) l c] w fun e w' => ∃ q, e = .returned (.int .u32 (w32 a o)) ∧ w' = w.drewN q :=
  of32_raw B o l c hl _ _ _ _ (ha o (by omega)) (ha (o + 1) (by omega)) (ha (o + 2) (by omega)) (ha (o + 3) (by omega)) w (h.cell o (by omega)) (h.cell (o + 1) (by omega)) (h.cell (o + 2) (by omega)) (h.cell (o + 3) (by omega))

set_option maxRecDepth 10000 in
set_option maxHeartbeats 4000000 in
theorem put32_raw (B o l c : Nat) (hl : 4 ≤ l) (x : Int) (y0 y1 y2 y3 : Int) (w : World) (c0 : w.cell? ⟨B, o, none⟩ = some (.int .u8 y0)) (f0 : w.frozen? ⟨B, o, none⟩ = false) (c1 : w.cell? ⟨B, o + 1, none⟩ = some (.int .u8 y1)) (f1 : w.frozen? ⟨B, o + 1, none⟩ = false) (c2 : w.cell? ⟨B, o + 2, none⟩ = some (.int .u8 y2)) (f2 : w.frozen? ⟨B, o + 2, none⟩ = false) (c3 : w.cell? ⟨B, o + 3, none⟩ = some (.int .u8 y3)) (f3 : w.frozen? ⟨B, o + 3, none⟩ = false) :
    Calls Tryd.prog 26 #[.slice (some ⟨B, o, none⟩) l c, .int .u32 x] w fun e w' => e = .returned (.tuple #[]) ∧ w' = ((((w.setCell ⟨B, o, none⟩ (.int .u8 (x % 256))).setCell ⟨B, o + 1, none⟩ (.int .u8 (x / 256 % 256))).setCell ⟨B, o + 2, none⟩ (.int .u8 (x / 65536 % 256))).setCell ⟨B, o + 3, none⟩ (.int .u8 (x / 16777216 % 256))) := by
  have l0 : (0 : Int) < (l : Int) := by omega
  have l1 : (1 : Int) < (l : Int) := by omega
  have l2 : (2 : Int) < (l : Int) := by omega
  have l3 : (3 : Int) < (l : Int) := by omega
  clear hl
  go_enter Tryd.func26, Tryd.ntmps26
  go_wp2
  go_end0
  exact ⟨rfl, rfl⟩
theorem put32_any (B o n l c : Nat) (hl : 4 ≤ l) (g : Nat → Int) (x : Int) (ho : o + 4 ≤ n) (w : World) (h : Has w B .u8 n g) :
    Calls Tryd.prog 26 #[.slice (some ⟨B, o, none⟩) l c, .int .u32 x] w fun e w' => e = .returned (.tuple #[]) ∧ w' = w.setCells B o (row .u8 4 (b32 x)) :=
  put32_raw B o l c hl x _ _ _ _ w (h.cell o (by omega)) (h.free o (by omega)) (h.cell (o + 1) (by omega)) (h.free (o + 1) (by omega)) (h.cell (o + 2) (by omega)) (h.free (o + 2) (by omega)) (h.cell (o + 3) (by omega)) (h.free (o + 3) (by omega))

set_option maxHeartbeats 1000000 in
theorem rot_any (n : Nat) (hn : n = 16 ∨ n = 12 ∨ n = 8 ∨ n = 7) (x : Int) (w : World) :
    Calls Tryd.prog 33 #[.int .u32 x, .int .i64 n] w fun e w' => e = .returned (.int .u32 (hrl n x)) ∧ w' = w := by
  rcases hn with rfl | rfl | rfl | rfl
  · have hm : bits BinOp.and IntKind.u64 16 31 = 16 := by decide +kernel
    go_enter Tryd.func33, Tryd.ntmps33
    go_wp2
    go_ret
    exact ⟨rfl, rfl⟩
  · have hm : bits BinOp.and IntKind.u64 12 31 = 12 := by decide +kernel
    go_enter Tryd.func33, Tryd.ntmps33
    go_wp2
    go_ret
    exact ⟨rfl, rfl⟩
  · have hm : bits BinOp.and IntKind.u64 8 31 = 8 := by decide +kernel
    go_enter Tryd.func33, Tryd.ntmps33
    go_wp2
    go_ret
    exact ⟨rfl, rfl⟩
  · have hm : bits BinOp.and IntKind.u64 7 31 = 7 := by decide +kernel
    go_enter Tryd.func33, Tryd.ntmps33
    go_wp2
    go_ret
    exact ⟨rfl, rfl⟩

/-- Four words as the answer. -/
theorem results_four {P : Program} {fn : Func} {tmps : Array Value} {w : World} {a b c d : Tmp} {u v x y : Value} (hr : fn.results = #[.tmp a, .tmp b, .tmp c, .tmp d])
    (ha : tmps.getD a undef = u) (hb : tmps.getD b undef = v) (hc : tmps.getD c undef = x) (hd : tmps.getD d undef = y) :
    (results fn tmps).run P w = .ok (.tuple #[u, v, x, y]) w := by
  rw [Array.getD_eq_getD_getElem?] at ha hb hc hd
  simp [results, hr, ha, hb, hc, hd]

set_option maxHeartbeats 1000000 in
theorem rotR_any (n : Int) (p : Nat) (hn : (n = -16 ∧ p = 16) ∨ (n = -12 ∧ p = 20) ∨ (n = -8 ∧ p = 24) ∨ (n = -7 ∧ p = 25)) (x : Int) (w : World) :
    Calls Tryd.prog 33 #[.int .u32 x, .int .i64 n] w fun e w' => e = .returned (.int .u32 (hrl p x)) ∧ w' = w := by
  rcases hn with ⟨rfl, rfl⟩ | ⟨rfl, rfl⟩ | ⟨rfl, rfl⟩ | ⟨rfl, rfl⟩
  · have hm : bits BinOp.and IntKind.u64 (IntKind.u64.wrap (-16)) 31 = 16 := by decide +kernel
    go_enter Tryd.func33, Tryd.ntmps33
    go_wp2
    go_ret
    exact ⟨rfl, rfl⟩
  · have hm : bits BinOp.and IntKind.u64 (IntKind.u64.wrap (-12)) 31 = 20 := by decide +kernel
    go_enter Tryd.func33, Tryd.ntmps33
    go_wp2
    go_ret
    exact ⟨rfl, rfl⟩
  · have hm : bits BinOp.and IntKind.u64 (IntKind.u64.wrap (-8)) 31 = 24 := by decide +kernel
    go_enter Tryd.func33, Tryd.ntmps33
    go_wp2
    go_ret
    exact ⟨rfl, rfl⟩
  · have hm : bits BinOp.and IntKind.u64 (IntKind.u64.wrap (-7)) 31 = 25 := by decide +kernel
    go_enter Tryd.func33, Tryd.ntmps33
    go_wp2
    go_ret
    exact ⟨rfl, rfl⟩
end Go.Proofs.YtmchfdfmcobenaaDoor
