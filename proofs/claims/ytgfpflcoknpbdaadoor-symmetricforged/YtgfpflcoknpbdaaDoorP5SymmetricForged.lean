/- Texts of Hw Hb Ky Hc Hd He Hf Mk Hg Er, joined. -/
import Derived.Test.YtgfpflcoknpbdaaDoorProg
import Derived.Test.YtgfpflcoknpbdaaDoorP4SymmetricForged
import Derived.Test.YtgfpflcoknpbdaaDoorP1SymmetricForged
import Derived.BigRegion
import Derived.BigQuiet
import Derived.Laws.Externs
import Derived.KernelRfl
import Derived.Deep.Cut
import Derived.Laws.MakeOwn
import Derived.Laws.StructEq
import Derived.Laws.Small
set_option maxRecDepth 20000
set_option maxHeartbeats 64000000
namespace Go.Proofs.YtgfpflcoknpbdaaDoor
open Go.RowKit
theorem of32_raw (B o l c : Nat) (hl : 4 ≤ l) (x0 x1 x2 x3 : Int) (h0 : 0 ≤ x0 ∧ x0 < 256) (h1 : 0 ≤ x1 ∧ x1 < 256) (h2 : 0 ≤ x2 ∧ x2 < 256) (h3 : 0 ≤ x3 ∧ x3 < 256) (w : World) (c0 : w.cell? ⟨B, o, none⟩ = some (.int .u8 x0)) (c1 : w.cell? ⟨B, o + 1, none⟩ = some (.int .u8 x1)) (c2 : w.cell? ⟨B, o + 2, none⟩ = some (.int .u8 x2)) (c3 : w.cell? ⟨B, o + 3, none⟩ = some (.int .u8 x3)) :
    Calls Tryd.prog 51 #[.slice (some ⟨B, o, none⟩) l c] w fun e w' => ∃ q, e = .returned (.int .u32 (x0 + x1 * 256 + x2 * 65536 + x3 * 16777216)) ∧ w' = w.drewN q := by
  have hg := glued32 x0 x1 x2 x3 h0 h1 h2 h3
  have HG := show Hid _ from hg
  have l0 : (0 : Int) < (l : Int) := by omega
  have l1 : (1 : Int) < (l : Int) := by omega
  have l2 : (2 : Int) < (l : Int) := by omega
  have l3 : (3 : Int) < (l : Int) := by omega
  clear hg h0 h1 h2 h3 hl
  go_enter Tryd.func51, Tryd.ntmps51
  go_wp2
  go_quiet (fail)
  go_wp2
  go_ret
  exact ⟨nq, by rw [HG.out]; rfl, rfl⟩
theorem of32_any (B o n l c : Nat) (a : Nat → Int) (hl : 4 ≤ l) (ho : o + 4 ≤ n) (ha : In 256 n a) (w : World) (h : Has w B .u8 n a) :
    Calls Tryd.prog 51 #[.slice (some ⟨B, o, none⟩) l c] w fun e w' => ∃ q, e = .returned (.int .u32 (w32 a o)) ∧ w' = w.drewN q :=
  of32_raw B o l c hl _ _ _ _ (ha o (by omega)) (ha (o + 1) (by omega)) (ha (o + 2) (by omega)) (ha (o + 3) (by omega)) w (h.cell o (by omega)) (h.cell (o + 1) (by omega)) (h.cell (o + 2) (by omega)) (h.cell (o + 3) (by omega))
theorem put32_raw (B o l c : Nat) (hl : 4 ≤ l) (x : Int) (y0 y1 y2 y3 : Int) (w : World) (c0 : w.cell? ⟨B, o, none⟩ = some (.int .u8 y0)) (f0 : w.frozen? ⟨B, o, none⟩ = false) (c1 : w.cell? ⟨B, o + 1, none⟩ = some (.int .u8 y1)) (f1 : w.frozen? ⟨B, o + 1, none⟩ = false) (c2 : w.cell? ⟨B, o + 2, none⟩ = some (.int .u8 y2)) (f2 : w.frozen? ⟨B, o + 2, none⟩ = false) (c3 : w.cell? ⟨B, o + 3, none⟩ = some (.int .u8 y3)) (f3 : w.frozen? ⟨B, o + 3, none⟩ = false) :
    Calls Tryd.prog 40 #[.slice (some ⟨B, o, none⟩) l c, .int .u32 x] w fun e w' => e = .returned (.tuple #[]) ∧ w' = ((((w.setCell ⟨B, o, none⟩ (.int .u8 (x % 256))).setCell ⟨B, o + 1, none⟩ (.int .u8 (x / 256 % 256))).setCell ⟨B, o + 2, none⟩ (.int .u8 (x / 65536 % 256))).setCell ⟨B, o + 3, none⟩ (.int .u8 (x / 16777216 % 256))) := by
  have l0 : (0 : Int) < (l : Int) := by omega
  have l1 : (1 : Int) < (l : Int) := by omega
  have l2 : (2 : Int) < (l : Int) := by omega
  have l3 : (3 : Int) < (l : Int) := by omega
  clear hl
  go_enter Tryd.func40, Tryd.ntmps40
  go_wp2
  go_end0
  exact ⟨rfl, rfl⟩
theorem put32_any (B o n l c : Nat) (hl : 4 ≤ l) (g : Nat → Int) (x : Int) (ho : o + 4 ≤ n) (w : World) (h : Has w B .u8 n g) :
    Calls Tryd.prog 40 #[.slice (some ⟨B, o, none⟩) l c, .int .u32 x] w fun e w' => e = .returned (.tuple #[]) ∧ w' = w.setCells B o (row .u8 4 (b32 x)) :=
  put32_raw B o l c hl x _ _ _ _ w (h.cell o (by omega)) (h.free o (by omega)) (h.cell (o + 1) (by omega)) (h.free (o + 1) (by omega)) (h.cell (o + 2) (by omega)) (h.free (o + 2) (by omega)) (h.cell (o + 3) (by omega)) (h.free (o + 3) (by omega))
theorem rot_any (n : Nat) (hn : n = 16 ∨ n = 12 ∨ n = 8 ∨ n = 7) (x : Int) (w : World) :
    Calls Tryd.prog 63 #[.int .u32 x, .int .i64 n] w fun e w' => e = .returned (.int .u32 (hrl n x)) ∧ w' = w := by
  rcases hn with rfl | rfl | rfl | rfl
  · have hm : bits BinOp.and IntKind.u64 16 31 = 16 := by decide +kernel
    go_enter Tryd.func63, Tryd.ntmps63
    go_wp2
    go_ret
    exact ⟨rfl, rfl⟩
  · have hm : bits BinOp.and IntKind.u64 12 31 = 12 := by decide +kernel
    go_enter Tryd.func63, Tryd.ntmps63
    go_wp2
    go_ret
    exact ⟨rfl, rfl⟩
  · have hm : bits BinOp.and IntKind.u64 8 31 = 8 := by decide +kernel
    go_enter Tryd.func63, Tryd.ntmps63
    go_wp2
    go_ret
    exact ⟨rfl, rfl⟩
  · have hm : bits BinOp.and IntKind.u64 7 31 = 7 := by decide +kernel
    go_enter Tryd.func63, Tryd.ntmps63
    go_wp2
    go_ret
    exact ⟨rfl, rfl⟩
theorem results_four {P : Program} {fn : Func} {tmps : Array Value} {w : World} {a b c d : Tmp} {u v x y : Value} (hr : fn.results = #[.tmp a, .tmp b, .tmp c, .tmp d])
    (ha : tmps.getD a undef = u) (hb : tmps.getD b undef = v) (hc : tmps.getD c undef = x) (hd : tmps.getD d undef = y) :
    (results fn tmps).run P w = .ok (.tuple #[u, v, x, y]) w := by
  rw [Array.getD_eq_getD_getElem?] at ha hb hc hd
  simp [results, hr, ha, hb, hc, hd]
theorem rotR_any (n : Int) (p : Nat) (hn : (n = -16 ∧ p = 16) ∨ (n = -12 ∧ p = 20) ∨ (n = -8 ∧ p = 24) ∨ (n = -7 ∧ p = 25)) (x : Int) (w : World) :
    Calls Tryd.prog 63 #[.int .u32 x, .int .i64 n] w fun e w' => e = .returned (.int .u32 (hrl p x)) ∧ w' = w := by
  rcases hn with ⟨rfl, rfl⟩ | ⟨rfl, rfl⟩ | ⟨rfl, rfl⟩ | ⟨rfl, rfl⟩
  · have hm : bits BinOp.and IntKind.u64 (IntKind.u64.wrap (-16)) 31 = 16 := by decide +kernel
    go_enter Tryd.func63, Tryd.ntmps63
    go_wp2
    go_ret
    exact ⟨rfl, rfl⟩
  · have hm : bits BinOp.and IntKind.u64 (IntKind.u64.wrap (-12)) 31 = 20 := by decide +kernel
    go_enter Tryd.func63, Tryd.ntmps63
    go_wp2
    go_ret
    exact ⟨rfl, rfl⟩
  · have hm : bits BinOp.and IntKind.u64 (IntKind.u64.wrap (-8)) 31 = 24 := by decide +kernel
    go_enter Tryd.func63, Tryd.ntmps63
    go_wp2
    go_ret
    exact ⟨rfl, rfl⟩
  · have hm : bits BinOp.and IntKind.u64 (IntKind.u64.wrap (-7)) 31 = 25 := by decide +kernel
    go_enter Tryd.func63, Tryd.ntmps63
    go_wp2
    go_ret
    exact ⟨rfl, rfl⟩
theorem turn_any (a b c d : Int) (w : World) :
    Calls Tryd.prog 62 #[.int .u32 a, .int .u32 b, .int .u32 c, .int .u32 d] w fun e w' => e = .returned (.tuple #[.int .u32 (qA a b c d), .int .u32 (qB a b c d), .int .u32 (qC a b c d), .int .u32 (qD a b c d)]) ∧ w' = w := by
  go_enter Tryd.func62, Tryd.ntmps62
  go_wp2_with fail
  refine (rot_any 16 (.inl rfl) _ _).mono ?_
  rintro e w16 ⟨rfl, rfl⟩
  go_wp2_with fail
  refine (rot_any 12 (.inr (.inl rfl)) _ _).mono ?_
  rintro e w12 ⟨rfl, rfl⟩
  go_wp2_with fail
  refine (rot_any 8 (.inr (.inr (.inl rfl))) _ _).mono ?_
  rintro e w8 ⟨rfl, rfl⟩
  go_wp2_with fail
  refine (rot_any 7 (.inr (.inr (.inr rfl))) _ _).mono ?_
  rintro e w7 ⟨rfl, rfl⟩
  go_wp2_with fail
  exact bodyPost_ret (results_four Tryd.results62 rfl rfl rfl rfl) rfl ⟨by simp only [qA, qB, qC, qD, hA, hB, hC, hD, hxr, had, Int.emod_add_emod]; rfl, rfl⟩
theorem key_info (f : Nat → Int) : (Tryd.prog.info? 36).map (·.size) = some (row .u8 32 f).length := by rw [row_length]; kernel_rfl
theorem key_info' (f : Nat → Int) : (Tryd.prog.info? 36).map (·.size) = some (row .u8 32 f).toArray.size := by rw [List.size_toArray]; exact key_info f
theorem key_zero (w : World) (t : TypeId) (b : Nat) (hb : b = w.heap.size) : Has (w.alloc (.cells zu8_32 t)) b .u8 32 (fun _ => 0) := Has.new w .u8 32 (fun _ => 0) t b hb
theorem hs_info (f : Nat → Int) : (Tryd.prog.info? 85).map (·.size) = some (row .u32 16 f).length := by rw [row_length]; kernel_rfl
theorem hs_info' (f : Nat → Int) : (Tryd.prog.info? 85).map (·.size) = some (row .u32 16 f).toArray.size := by rw [List.size_toArray]; exact hs_info f
theorem hs_there {w : World} {b : Nat} {f g : Nat → Int} (h : Has w b .u32 16 f) : w.there b 0 (row .u32 16 g).toArray.size := by rw [List.size_toArray, row_length]; exact h.there
theorem hs_zero (w : World) (t : TypeId) (b : Nat) (hb : b = w.heap.size) : Has (w.alloc (.cells zu32_16 t)) b .u32 16 (fun _ => 0) := Has.new w .u32 16 (fun _ => 0) t b hb
theorem hn_info (f : Nat → Int) : (Tryd.prog.info? 52).map (·.size) = some (row .u8 12 f).length := by rw [row_length]; kernel_rfl
theorem hb_info (f : Nat → Int) : (Tryd.prog.info? 70).map (·.size) = some (row .u8 64 f).length := by rw [row_length]; kernel_rfl
theorem hb_info' (f : Nat → Int) : (Tryd.prog.info? 70).map (·.size) = some (row .u8 64 f).toArray.size := by rw [List.size_toArray]; exact hb_info f
theorem hb_zero (w : World) (t : TypeId) (b : Nat) (hb : b = w.heap.size) : Has (w.alloc (.cells zu8_64 t)) b .u8 64 (fun _ => 0) := Has.new w .u8 64 (fun _ => 0) t b hb
def hfst : Nat → Int := quad 1634760805 857760878 2036477234 1797285236
def plc (j : Nat) : Int := if j % 4 = 0 then (pA (j / 4) : Int) else if j % 4 = 1 then (pB (j / 4) : Int) else if j % 4 = 2 then (pC (j / 4) : Int) else (pD (j / 4) : Int)
structure HGlob (w : World) : Prop where
  first : ∀ j, j < 4 → w.cell? ⟨3, j, none⟩ = some (.int .u32 (hfst j))
  place : ∀ j, j < 32 → w.cell? ⟨4, j, none⟩ = some (.int .i64 (plc j))
  size : 7 ≤ w.heap.size
theorem HGlob.below {w w' : World} (h : HGlob w) {B : Nat} (l : Below B w w') (hB : 7 ≤ B) : HGlob w' :=
  ⟨fun j hj => by rw [l.cell (p := ⟨3, j, none⟩) (Nat.lt_of_lt_of_le (show 3 < 7 by decide) hB)]; exact h.first j hj, fun j hj => by rw [l.cell (p := ⟨4, j, none⟩) (Nat.lt_of_lt_of_le (show 4 < 7 by decide) hB)]; exact h.place j hj, by have := h.size; have := l.size; omega⟩
theorem HGlob.fr {w w' : World} {k : Nat} (h : HGlob w) (g : Fr w k w') : HGlob w' := h.below g.below h.size
theorem HGlob.four {w : World} (h : HGlob w) (k : Nat) (hk : k < 8) : w.cell? ⟨4, k * 4, none⟩ = some (.int .i64 (pA k)) ∧ w.cell? ⟨4, k * 4 + 1, none⟩ = some (.int .i64 (pB k)) ∧ w.cell? ⟨4, k * 4 + 2, none⟩ = some (.int .i64 (pC k)) ∧ w.cell? ⟨4, k * 4 + 3, none⟩ = some (.int .i64 (pD k)) := by
  have e1 : plc (k * 4) = (pA k : Int) := by unfold plc; rw [if_pos (by omega), show k * 4 / 4 = k by omega]
  have e2 : plc (k * 4 + 1) = (pB k : Int) := by unfold plc; rw [if_neg (by omega), if_pos (by omega), show (k * 4 + 1) / 4 = k by omega]
  have e3 : plc (k * 4 + 2) = (pC k : Int) := by unfold plc; rw [if_neg (by omega), if_neg (by omega), if_pos (by omega), show (k * 4 + 2) / 4 = k by omega]
  have e4 : plc (k * 4 + 3) = (pD k : Int) := by unfold plc; rw [if_neg (by omega), if_neg (by omega), if_neg (by omega), show (k * 4 + 3) / 4 = k by omega]
  rw [← e1, ← e2, ← e3, ← e4]
  exact ⟨h.place _ (by omega), h.place _ (by omega), h.place _ (by omega), h.place _ (by omega)⟩
theorem idx16 (b i : Nat) (hi : i < 16) (w : World) {o : Oper} {a : Act} (x y : Operand) (ho : o.op = .indexAddr 85 x y) (hx : a.eval x = .pointer (some ⟨b, 0, none⟩)) (hy : a.eval y = .int .i64 (i : Int)) :
    (execOp a.eval o).run Tryd.prog w = .ok (.value (.pointer (some ⟨b, i, none⟩))) w := by
  have h := idxArr (P := Tryd.prog) 85 62 16 .i64 b 0 i x y Tryd.underlying85 (fun _ => by kernel_rfl) hi ho hx hy w
  rw [Nat.zero_add] at h
  exact h
structure HDI (s : Nat → Int) (w : World) (k : Nat) (w' : World) : Prop where
  hs : Has w' w.heap.size .u32 16 (htN s k)
  hr : Has w' (w.heap.size + 1) .u32 16 (fun _ => 0)
  fr : Fr w 2 w'
theorem HDI.drewN {s : Nat → Int} {w : World} {k q : Nat} {w' : World} (h : HDI s w k w') : HDI s w k (w'.drewN q) := ⟨⟨h.hs.cell, h.hs.free⟩, ⟨h.hr.cell, h.hr.free⟩, ⟨below_drewN h.fr.below, h.fr.size⟩⟩
theorem HDI.drew {s : Nat → Int} {w : World} {k : Nat} {w' : World} (h : HDI s w k w') : HDI s w k w'.drew := ⟨h.hs.drew, h.hr.drew, h.fr.drew⟩
theorem hdouble_any (s : Nat → Int) (w : World) (hg : HGlob w) :
    Calls Tryd.prog 48 #[(.agg (row .u32 16 (s)).toArray)] w fun e w' => e = .returned (.agg (row .u32 16 (htN s 8)).toArray) ∧ Below w.heap.size w w' := by
  go_enter Tryd.func48, Tryd.ntmps48
  go_wp2
  go_loopw [8] (fun i w' => ∃ k : Nat, k ≤ 8 ∧ i = .int .i64 k ∧ HDI s w k w') (fun i _ => 8 - (intOf i).toNat)
  case atStart => exact ⟨0, by omega, rfl, ⟨(Has.new w _ _ _ _ _ rfl).alloc _ (by simp), hs_zero _ _ _ (by simp), ((Fr.refl w).alloc _).alloc _⟩⟩
  case round =>
    obtain ⟨k, hk, rfl, hI⟩ := hrel
    have hG := hg.fr hI.fr
    have g1 : (0 : Int) ≤ (k : Int) := by omega
    by_cases hlt : k < 8
    · have HT := show Hid _ from (show htN s (k + 1) = tAt (htN s k) k from rfl)
      have HI := show Hid _ from fun (q : Nat) => (hI.drewN (q := q)).drew
      have g2 : (k : Int) < 8 := by omega
      obtain ⟨p1, p2, p3, p4⟩ := hG.four k hlt
      have l1 : pA k < 16 := by have := pA_lt k; omega
      have l2 : pB k < 16 := by have := pB_lt k; omega
      have l3 : pC k < 16 := by have := pC_lt k; omega
      have l4 : pD k < 16 := pD_lt k
      unfold tAt at HT
      clear hI hG hk
      generalize hA : pA k = A at *
      generalize hB : pB k = B at *
      generalize hC : pC k = C at *
      generalize hD : pD k = D at *
      clear hA hB hC hD
      go_wp2
      go_quiet (fail)
      go_upto_region 5 with fail
      have hI := HI.out nq
      clear p1 p2 p3 p4 HI
      refine wp_region_C (S := fun w' => HDI s w k w') 16 (by kernel_rfl) hI ?_
      clear hI
      intro K
      refine pureCg (i := 0) (some 28) rfl (.int .i64 (A : Int)) rfl (by decide) rfl (fun _ => by kernel_rfl) K ?_
      simp only [aP, lI, l0, lS]
      refine pureCg (i := 1) (some 29) rfl (.int .i64 (B : Int)) rfl (by decide) rfl (fun _ => by kernel_rfl) K ?_
      simp only [aP, lI, l0, lS]
      refine pureCg (i := 2) (some 30) rfl (.int .i64 (C : Int)) rfl (by decide) rfl (fun _ => by kernel_rfl) K ?_
      simp only [aP, lI, l0, lS]
      refine pureCg (i := 3) (some 31) rfl (.int .i64 (D : Int)) rfl (by decide) rfl (fun _ => by kernel_rfl) K ?_
      simp only [aP, lI, l0, lS]
      refine pureCg (i := 4) (some 32) rfl (.int .i64 (A : Int)) rfl (by decide) rfl (fun _ => by kernel_rfl) K ?_
      simp only [aP, lI, l0, lS]
      refine pureCg (i := 5) (some 33) rfl (.pointer (some ⟨w.heap.size, A, none⟩)) rfl (by decide) rfl (fun w' => idx16 w.heap.size A l1 w' _ _ rfl rfl rfl) K ?_
      simp only [aP, lI, l0, lS]
      refine cellC (i := 6) (some 34) rfl .u32 (.int .u32 (htN s k A)) w.heap.size A 62 _ rfl rfl (by kernel_rfl) rfl rfl rfl (by kernel_rfl) (by kernel_rfl) (by kernel_rfl) (by kernel_rfl) (fun _ _ _ h => h) Tryd.underlying62 K (fun _ h => h.hs.cell A l1) ?_
      simp only [aP, lI, l0, lS]
      refine pureCg (i := 7) (some 35) rfl (.int .i64 (B : Int)) rfl (by decide) rfl (fun _ => by kernel_rfl) K ?_
      simp only [aP, lI, l0, lS]
      refine pureCg (i := 8) (some 36) rfl (.pointer (some ⟨w.heap.size, B, none⟩)) rfl (by decide) rfl (fun w' => idx16 w.heap.size B l2 w' _ _ rfl rfl rfl) K ?_
      simp only [aP, lI, l0, lS]
      refine cellC (i := 9) (some 37) rfl .u32 (.int .u32 (htN s k B)) w.heap.size B 62 _ rfl rfl (by kernel_rfl) rfl rfl rfl (by kernel_rfl) (by kernel_rfl) (by kernel_rfl) (by kernel_rfl) (fun _ _ _ h => h) Tryd.underlying62 K (fun _ h => h.hs.cell B l2) ?_
      simp only [aP, lI, l0, lS]
      refine pureCg (i := 10) (some 38) rfl (.int .i64 (C : Int)) rfl (by decide) rfl (fun _ => by kernel_rfl) K ?_
      simp only [aP, lI, l0, lS]
      refine pureCg (i := 11) (some 39) rfl (.pointer (some ⟨w.heap.size, C, none⟩)) rfl (by decide) rfl (fun w' => idx16 w.heap.size C l3 w' _ _ rfl rfl rfl) K ?_
      simp only [aP, lI, l0, lS]
      refine cellC (i := 12) (some 40) rfl .u32 (.int .u32 (htN s k C)) w.heap.size C 62 _ rfl rfl (by kernel_rfl) rfl rfl rfl (by kernel_rfl) (by kernel_rfl) (by kernel_rfl) (by kernel_rfl) (fun _ _ _ h => h) Tryd.underlying62 K (fun _ h => h.hs.cell C l3) ?_
      simp only [aP, lI, l0, lS]
      refine pureCg (i := 13) (some 41) rfl (.int .i64 (D : Int)) rfl (by decide) rfl (fun _ => by kernel_rfl) K ?_
      simp only [aP, lI, l0, lS]
      refine pureCg (i := 14) (some 42) rfl (.pointer (some ⟨w.heap.size, D, none⟩)) rfl (by decide) rfl (fun w' => idx16 w.heap.size D l4 w' _ _ rfl rfl rfl) K ?_
      simp only [aP, lI, l0, lS]
      refine cellC (i := 15) (some 43) rfl .u32 (.int .u32 (htN s k D)) w.heap.size D 62 _ rfl rfl (by kernel_rfl) rfl rfl rfl (by kernel_rfl) (by kernel_rfl) (by kernel_rfl) (by kernel_rfl) (fun _ _ _ h => h) Tryd.underlying62 K (fun _ h => h.hs.cell D l4) ?_
      simp only [aP, lI, l0, lS]
      refine callC (S2 := fun _ => True) (some 44) rfl (by kernel_rfl) rfl rfl (fun _ => by kernel_rfl) (turn_any (htN s k A) (htN s k B) (htN s k C) (htN s k D) _) (by kernel_rfl) ?_
      rintro e w' ⟨rfl, rfl⟩
      refine ⟨_, rfl, ?_⟩
      simp only [aP, lI, l0, lS]
      have T : True := trivial
      refine pureHg (i := 17) (some 27) rfl (.tuple #[.int .u32 (qA (htN s k A) (htN s k B) (htN s k C) (htN s k D)), .int .u32 (qB (htN s k A) (htN s k B) (htN s k C) (htN s k D)), .int .u32 (qC (htN s k A) (htN s k B) (htN s k C) (htN s k D)), .int .u32 (qD (htN s k A) (htN s k B) (htN s k C) (htN s k D))]) rfl rfl (fun _ => by kernel_rfl) T ?_
      simp only [aP, lI, l0, lS]
      refine pureHg (i := 18) (some 45) rfl (.int .u32 (qA (htN s k A) (htN s k B) (htN s k C) (htN s k D))) rfl rfl (fun _ => by kernel_rfl) T ?_
      simp only [aP, lI, l0, lS]
      refine pureHg (i := 19) (some 46) rfl (.int .u32 (qB (htN s k A) (htN s k B) (htN s k C) (htN s k D))) rfl rfl (fun _ => by kernel_rfl) T ?_
      simp only [aP, lI, l0, lS]
      refine pureHg (i := 20) (some 47) rfl (.int .u32 (qC (htN s k A) (htN s k B) (htN s k C) (htN s k D))) rfl rfl (fun _ => by kernel_rfl) T ?_
      simp only [aP, lI, l0, lS]
      refine pureHg (i := 21) (some 48) rfl (.int .u32 (qD (htN s k A) (htN s k B) (htN s k C) (htN s k D))) rfl rfl (fun _ => by kernel_rfl) T ?_
      simp only [aP, lI, l0, lS]
      have h0 := K.hs
      have r0 := K.hr
      have f0 := K.fr
      clear K
      refine pureHg (i := 22) (some 49) rfl (.pointer (some ⟨w.heap.size, A, none⟩)) rfl rfl (fun w' => idx16 w.heap.size A l1 w' _ _ rfl rfl rfl) T ?_
      simp only [aP, lI, l0, lS]
      refine storeH (i := 23) none rfl .u32 (qA (htN s k A) (htN s k B) (htN s k C) (htN s k D)) w.heap.size A 62 _ _ (by kernel_rfl) rfl rfl rfl rfl rfl (by rw [h0.cell A l1]; rfl) (h0.free A l1) (by kernel_rfl) T ?_
      simp only [Act.put]
      have h1 := h0.set A l1 (qA (htN s k A) (htN s k B) (htN s k C) (htN s k D))
      have r1 := r0.set_other ⟨w.heap.size, A, none⟩ (.int .u32 (qA (htN s k A) (htN s k B) (htN s k C) (htN s k D))) (by simp)
      have f1 := f0.set ⟨w.heap.size, A, none⟩ (.int .u32 (qA (htN s k A) (htN s k B) (htN s k C) (htN s k D))) (by simp)
      clear h0 r0 f0
      refine pureHg (i := 24) (some 50) rfl (.pointer (some ⟨w.heap.size, B, none⟩)) rfl rfl (fun w' => idx16 w.heap.size B l2 w' _ _ rfl rfl rfl) T ?_
      simp only [aP, lI, l0, lS]
      refine storeH (i := 25) none rfl .u32 (qB (htN s k A) (htN s k B) (htN s k C) (htN s k D)) w.heap.size B 62 _ _ (by kernel_rfl) rfl rfl rfl rfl rfl (by rw [h1.cell B l2]; rfl) (h1.free B l2) (by kernel_rfl) T ?_
      simp only [Act.put]
      have h2 := h1.set B l2 (qB (htN s k A) (htN s k B) (htN s k C) (htN s k D))
      have r2 := r1.set_other ⟨w.heap.size, B, none⟩ (.int .u32 (qB (htN s k A) (htN s k B) (htN s k C) (htN s k D))) (by simp)
      have f2 := f1.set ⟨w.heap.size, B, none⟩ (.int .u32 (qB (htN s k A) (htN s k B) (htN s k C) (htN s k D))) (by simp)
      clear h1 r1 f1
      refine pureHg (i := 26) (some 51) rfl (.pointer (some ⟨w.heap.size, C, none⟩)) rfl rfl (fun w' => idx16 w.heap.size C l3 w' _ _ rfl rfl rfl) T ?_
      simp only [aP, lI, l0, lS]
      refine storeH (i := 27) none rfl .u32 (qC (htN s k A) (htN s k B) (htN s k C) (htN s k D)) w.heap.size C 62 _ _ (by kernel_rfl) rfl rfl rfl rfl rfl (by rw [h2.cell C l3]; rfl) (h2.free C l3) (by kernel_rfl) T ?_
      simp only [Act.put]
      have h3 := h2.set C l3 (qC (htN s k A) (htN s k B) (htN s k C) (htN s k D))
      have r3 := r2.set_other ⟨w.heap.size, C, none⟩ (.int .u32 (qC (htN s k A) (htN s k B) (htN s k C) (htN s k D))) (by simp)
      have f3 := f2.set ⟨w.heap.size, C, none⟩ (.int .u32 (qC (htN s k A) (htN s k B) (htN s k C) (htN s k D))) (by simp)
      clear h2 r2 f2
      refine pureHg (i := 28) (some 52) rfl (.pointer (some ⟨w.heap.size, D, none⟩)) rfl rfl (fun w' => idx16 w.heap.size D l4 w' _ _ rfl rfl rfl) T ?_
      simp only [aP, lI, l0, lS]
      refine storeH (i := 29) none rfl .u32 (qD (htN s k A) (htN s k B) (htN s k C) (htN s k D)) w.heap.size D 62 _ _ (by kernel_rfl) rfl rfl rfl rfl rfl (by rw [h3.cell D l4]; rfl) (h3.free D l4) (by kernel_rfl) T ?_
      simp only [Act.put]
      have h4 := h3.set D l4 (qD (htN s k A) (htN s k B) (htN s k C) (htN s k D))
      have r4 := r3.set_other ⟨w.heap.size, D, none⟩ (.int .u32 (qD (htN s k A) (htN s k B) (htN s k C) (htN s k D))) (by simp)
      have f4 := f3.set ⟨w.heap.size, D, none⟩ (.int .u32 (qD (htN s k A) (htN s k B) (htN s k C) (htN s k D))) (by simp)
      clear h3 r3 f3
      refine wpAnyH_done (by kernel_rfl) ?_ _
      rw [← HT.out] at h4
      have HS := show Hid _ from (HDI.mk h4 r4 f4)
      clear h4 r4 f4 T l1 l2 l3 l4
      go_wp2
      go_roundw
      case rel => exact ⟨k + 1, by omega, by go_num, HS.out⟩
      case measure => simp [intOf]; omega
    · obtain rfl : k = 8 := by omega
      have hs := hI.hs
      have hz := hI.hr
      have hB := (hI.fr.setAll (w.heap.size + 1) (by omega) (row .u32 16 (htN s 8))).below
      clear hI hlt hk hG
      generalize hf : htN s 8 = f at *
      go_wp2_with (first | (refine wpList_load_mid rfl 85 _ rfl (w.heap.size) 0 rfl (row .u32 16 (f)) _ (Has.range (hs)) Tryd.underlying85 rfl (hs_info _) ?_) | (refine wpList_store_mid rfl 85 _ _ rfl (w.heap.size + 1) 0 (row .u32 16 (f)).toArray rfl rfl (hs_there (hz)) (hs_info' _) (all_oneCell_toArray (row_one _ _ _)) ?_))
      exact bodyPost_ret (v := (.agg (row .u32 16 (f)).toArray)) (results_row Tryd.results48 rfl (Has.all hz.there .u32 _).range Tryd.underlying85 rfl (hs_info _)) rfl ⟨by rw [hf], hB⟩
theorem hcut_key (b k : Nat) (hk : k < 8) (w : World) : (Instr.sliceAt 36 (.pointer (some ⟨b, 0, none⟩)) (some (.int .i64 (4 * (k : Int)))) none none).run Tryd.prog w = .ok (.slice (some ⟨b, 4 * k, none⟩) (32 - 4 * k) (32 - 4 * k)) w := by
  have hl : Tryd.prog.arrayLen 36 = 32 := by kernel_rfl
  have hs : ∀ w, (sizeOf (Tryd.prog.elem 36)).run Tryd.prog w = .ok 1 w := fun w => by kernel_rfl
  rw [run_sliceAt_array_l w 36 ⟨b, 0, none⟩ (by kernel_rfl) .i64 _ (by omega) (by rw [hl]; omega), hs, hl]
  simp only [Result.andThen, slicedAt]
  have e1 : (4 * (k : Int)).toNat = 4 * k := by omega
  rw [e1, if_neg (by omega), Addr.add_mid, Nat.zero_add, Nat.mul_one]
theorem hcut_non (b k : Nat) (hk : k < 3) (w : World) : (Instr.sliceAt 52 (.pointer (some ⟨b, 0, none⟩)) (some (.int .i64 (4 * (k : Int)))) none none).run Tryd.prog w = .ok (.slice (some ⟨b, 4 * k, none⟩) (12 - 4 * k) (12 - 4 * k)) w := by
  have hl : Tryd.prog.arrayLen 52 = 12 := by kernel_rfl
  have hs : ∀ w, (sizeOf (Tryd.prog.elem 52)).run Tryd.prog w = .ok 1 w := fun w => by kernel_rfl
  rw [run_sliceAt_array_l w 52 ⟨b, 0, none⟩ (by kernel_rfl) .i64 _ (by omega) (by rw [hl]; omega), hs, hl]
  simp only [Result.andThen, slicedAt]
  have e1 : (4 * (k : Int)).toNat = 4 * k := by omega
  rw [e1, if_neg (by omega), Addr.add_mid, Nat.zero_add, Nat.mul_one]
structure HBI (k : Nat → Int) (c : Int) (n : Nat → Int) (w : World) (m : Nat) (f : Nat → Int) (w' : World) : Prop where
  done : ∀ j, j < m → f j = hst k c n j
  hk : Has w' w.heap.size .u8 32 k
  hn : Has w' (w.heap.size + 1) .u8 12 n
  hr : Has w' (w.heap.size + 1 + 1) .u32 16 (fun _ => 0)
  hs : Has w' (w.heap.size + 1 + 1 + 1) .u32 16 f
  fr : Fr w 4 w'
theorem HBI.drewN {k : Nat → Int} {c : Int} {n : Nat → Int} {w : World} {m : Nat} {f : Nat → Int} {w' : World} (h : HBI k c n w m f w') (q : Nat) : HBI k c n w m f (w'.drewN q) :=
  ⟨h.done, ⟨h.hk.cell, h.hk.free⟩, ⟨h.hn.cell, h.hn.free⟩, ⟨h.hr.cell, h.hr.free⟩, ⟨h.hs.cell, h.hs.free⟩, ⟨below_drewN h.fr.below, h.fr.size⟩⟩
theorem HBI.step {k : Nat → Int} {c : Int} {n : Nat → Int} {w : World} {m : Nat} {f : Nat → Int} {w' : World} (h : HBI k c n w m f w') (hm : m < 16) (v : Int) (hv : hst k c n m = v) : HBI k c n w (m + 1) (upd f m v) (w'.setCell ⟨w.heap.size + 1 + 1 + 1, m, none⟩ (.int .u32 v)) := by
  refine ⟨fun j hj => ?_, h.hk.set_other _ _ (by simp; omega), h.hn.set_other _ _ (by simp; omega), h.hr.set_other _ _ (by simp), h.hs.set m hm v, h.fr.set _ _ (by simp; omega)⟩
  by_cases e : j = m
  · subst e; rw [upd_same, hv]
  · rw [upd_other _ _ _ _ e]; exact h.done j (by omega)
theorem hst_first (k : Nat → Int) (c : Int) (n : Nat → Int) (j : Nat) (hj : j < 4) : hst k c n j = hfst j := by
  match j, hj with
  | 0, _ | 1, _ | 2, _ | 3, _ => rfl
theorem hst_key (k : Nat → Int) (c : Int) (n : Nat → Int) (j : Nat) (hj : j < 8) : hst k c n (4 + j) = w32 k (4 * j) := by
  match j, hj with
  | 0, _ | 1, _ | 2, _ | 3, _ | 4, _ | 5, _ | 6, _ | 7, _ => rfl
theorem hst_non (k : Nat → Int) (c : Int) (n : Nat → Int) (j : Nat) (hj : j < 3) : hst k c n (13 + j) = w32 n (4 * j) := by
  match j, hj with
  | 0, _ | 1, _ | 2, _ => rfl
theorem hbegin_any (k : Nat → Int) (c : Int) (n : Nat → Int) (hk : In 256 32 k) (hn : In 256 12 n) (w : World) (hg : HGlob w) :
    Calls Tryd.prog 47 #[(.agg (row .u8 32 (k)).toArray), .int .u32 c, (.agg (row .u8 12 (n)).toArray)] w fun e w' => e = .returned (.agg (row .u32 16 (hst k c n)).toArray) ∧ Below w.heap.size w w' := by
  go_enter Tryd.func47, Tryd.ntmps47
  go_wp2
  go_loopw [11] (fun i w' => ∃ (m : Nat) (f : Nat → Int), m ≤ 4 ∧ i = .int .i64 m ∧ HBI k c n w m f w') (fun i _ => 4 - (intOf i).toNat)
  case atStart => exact ⟨0, fun _ => 0, by omega, rfl, ⟨fun j hj => by omega, (((Has.new w _ _ _ _ _ rfl).alloc _ (by simp)).alloc _ (by simp; omega)).alloc _ (by simp; omega), ((Has.new _ _ _ _ _ _ (by simp)).alloc _ (by simp)).alloc _ (by simp), (hs_zero _ _ _ (by simp)).alloc _ (by simp), hs_zero _ _ _ (by simp), ((((Fr.refl w).alloc _).alloc _).alloc _).alloc _⟩⟩
  case round =>
    obtain ⟨m, f, hm, rfl, hI⟩ := hrel
    have g1 : (0 : Int) ≤ (m : Int) := by omega
    by_cases hlt : m < 4
    · have HS := show Hid _ from hI.step (by omega) _ (hst_first k c n m hlt)
      have g2 : (m : Int) < 4 := by omega
      have g3 : (m : Int) < 16 := by omega
      have p1 := (hg.fr hI.fr).first m hlt
      have c1 := hI.hs.cell m (by omega)
      have f1 := hI.hs.free m (by omega)
      clear hI hm
      generalize f m = y at *
      generalize hfst m = z at *
      go_wp2
      go_roundw
      case rel => exact ⟨m + 1, _, by omega, by go_num, HS.out⟩
      case measure => simp [intOf]; omega
    · obtain rfl : m = 4 := by omega
      clear hlt hm g1
      go_wp2
      go_loopw [20] (fun i w' => ∃ (m : Nat) (f : Nat → Int), m ≤ 8 ∧ i = .int .i64 m ∧ HBI k c n w (4 + m) f w') (fun i _ => 8 - (intOf i).toNat)
      case atStart => exact ⟨0, f, by omega, rfl, hI⟩
      case round =>
        obtain ⟨m, f, hm, rfl, hI⟩ := hrel
        have g1 : (0 : Int) ≤ (m : Int) := by omega
        by_cases hlt : m < 8
        · have hcut := hcut_key w.heap.size m hlt
          have HC := show Hid _ from of32_any w.heap.size (4 * m) 32 (32 - 4 * m) (32 - 4 * m) k (by omega) (by omega) hk wr hI.hk
          have HS := show Hid _ from fun q => (hI.drewN q).step (by omega) _ (hst_key k c n m hlt)
          have g2 : (m : Int) < 8 := by omega
          have g3 : (0 : Int) ≤ 4 + (m : Int) := by omega
          have g4 : 4 + (m : Int) < 16 := by omega
          have g5 : (4 + (m : Int)).toNat = 4 + m := by omega
          have cn : ∀ q, (wr.drewN q).cell? ⟨w.heap.size + 1 + 1 + 1, 4 + m, none⟩ = some (.int .u32 (f (4 + m))) := fun q => hI.hs.cell (4 + m) (by omega)
          have fn : ∀ q, (wr.drewN q).frozen? ⟨w.heap.size + 1 + 1 + 1, 4 + m, none⟩ = false := fun q => hI.hs.free (4 + m) (by omega)
          clear hI hm
          generalize f (4 + m) = y at *
          generalize w32 k (4 * m) = z at *
          go_wp2_with fail
          refine Calls.mono HC.out ?_
          rintro e w' ⟨q, rfl, rfl⟩
          have cn' := cn q
          have fn' := fn q
          have HT := show Hid _ from HS.out q
          clear HC HS cn fn hcut
          generalize wr.drewN q = w2 at *
          go_wp2
          go_roundw
          case rel => first | exact ⟨m + 1, _, by omega, by go_num, HT.out⟩ | ((repeat apply Exists.intro); refine ⟨⟨m + 1, _, by omega, ?_, HT.out⟩, rfl⟩ <;> first | rfl | go_num)
          case measure => simp [intOf]; omega
        · obtain rfl : m = 8 := by omega
          have hI2 := hI.step (by omega) c rfl
          have c1 := hI.hs.cell 12 (by omega)
          have f1 := hI.hs.free 12 (by omega)
          clear hlt hm g1 hI
          generalize f 12 = y at *
          go_wp2
          go_loopw [33] (fun i w' => ∃ (m : Nat) (f : Nat → Int), m ≤ 3 ∧ i = .int .i64 m ∧ HBI k c n w (13 + m) f w') (fun i _ => 3 - (intOf i).toNat)
          case atStart => exact ⟨0, _, by omega, rfl, hI2⟩
          case round =>
            obtain ⟨m, f, hm, rfl, hI⟩ := hrel
            have g1 : (0 : Int) ≤ (m : Int) := by omega
            clear hI2 c1 f1
            by_cases hlt : m < 3
            · have hcut := hcut_non (w.heap.size + 1) m hlt
              have HC := show Hid _ from of32_any (w.heap.size + 1) (4 * m) 12 (12 - 4 * m) (12 - 4 * m) n (by omega) (by omega) hn wr hI.hn
              have HS := show Hid _ from fun q => (hI.drewN q).step (by omega) _ (hst_non k c n m hlt)
              have g2 : (m : Int) < 3 := by omega
              have g3 : (0 : Int) ≤ 13 + (m : Int) := by omega
              have g4 : 13 + (m : Int) < 16 := by omega
              have g5 : (13 + (m : Int)).toNat = 13 + m := by omega
              have cn : ∀ q, (wr.drewN q).cell? ⟨w.heap.size + 1 + 1 + 1, 13 + m, none⟩ = some (.int .u32 (f (13 + m))) := fun q => hI.hs.cell (13 + m) (by omega)
              have fn : ∀ q, (wr.drewN q).frozen? ⟨w.heap.size + 1 + 1 + 1, 13 + m, none⟩ = false := fun q => hI.hs.free (13 + m) (by omega)
              clear hI hm
              generalize f (13 + m) = y at *
              generalize w32 n (4 * m) = z at *
              go_wp2_with fail
              refine Calls.mono HC.out ?_
              rintro e w' ⟨q, rfl, rfl⟩
              have cn' := cn q
              have fn' := fn q
              have HT := show Hid _ from HS.out q
              clear HC HS cn fn hcut
              generalize wr.drewN q = w2 at *
              go_wp2
              go_roundw
              case rel => first | exact ⟨m + 1, _, by omega, by go_num, HT.out⟩ | ((repeat apply Exists.intro); refine ⟨⟨m + 1, _, by omega, ?_, HT.out⟩, rfl⟩ <;> first | rfl | go_num)
              case measure => simp [intOf]; omega
            · obtain rfl : m = 3 := by omega
              have hs := hI.hs.congr (g := hst k c n) (fun j hj => hI.done j hj)
              have hz := hI.hr
              have hB := (hI.fr.setAll (w.heap.size + 1 + 1) (by omega) (row .u32 16 (hst k c n))).below
              clear hI hlt hm g1
              generalize hf : hst k c n = g at *
              go_wp2_with (first | (refine wpList_load_mid rfl 85 _ rfl (w.heap.size + 1 + 1 + 1) 0 rfl (row .u32 16 (g)) _ (Has.range (hs)) Tryd.underlying85 rfl (hs_info _) ?_) | (refine wpList_store_mid rfl 85 _ _ rfl (w.heap.size + 1 + 1) 0 (row .u32 16 (g)).toArray rfl rfl (hs_there (hz)) (hs_info' _) (all_oneCell_toArray (row_one _ _ _)) ?_))
              exact bodyPost_ret (v := (.agg (row .u32 16 (g)).toArray)) (results_row Tryd.results47 rfl (Has.all hz.there .u32 _).range Tryd.underlying85 rfl (hs_info _)) rfl ⟨by rw [hf], hB⟩
theorem hcut_64 (b k : Nat) (hk : k < 16) (w : World) : (Instr.sliceAt 70 (.pointer (some ⟨b, 0, none⟩)) (some (.int .i64 (4 * (k : Int)))) none none).run Tryd.prog w = .ok (.slice (some ⟨b, 4 * k, none⟩) (64 - 4 * k) (64 - 4 * k)) w := by
  have hl : Tryd.prog.arrayLen 70 = 64 := by kernel_rfl
  have hs : ∀ w, (sizeOf (Tryd.prog.elem 70)).run Tryd.prog w = .ok 1 w := fun w => by kernel_rfl
  rw [run_sliceAt_array_l w 70 ⟨b, 0, none⟩ (by kernel_rfl) .i64 _ (by omega) (by rw [hl]; omega), hs, hl]
  simp only [Result.andThen, slicedAt]
  have e1 : (4 * (k : Int)).toNat = 4 * k := by omega
  rw [e1, if_neg (by omega), Addr.add_mid, Nat.zero_add, Nat.mul_one]
def HO (k : Nat → Int) (c : Int) (n : Nat → Int) (O i : Nat) (g : Nat → Int) (w' : World) : Prop := Has w' O .u8 64 g ∧ ∀ j, j < 4 * i → g j = hblk k c n j
theorem over_hblk {k : Nat → Int} {c : Int} {n : Nat → Int} {i : Nat} {g : Nat → Int} (h : ∀ j, j < 4 * i → g j = hblk k c n j) (j : Nat) (hj : j < 4 * (i + 1)) : over g (4 * i) 4 (b32 (hwd k c n i)) j = hblk k c n j := by
  unfold over
  by_cases e : 4 * i ≤ j ∧ j < 4 * i + 4
  · rw [if_pos e]
    unfold hblk
    rw [show j / 4 = i by omega, show j % 4 = j - 4 * i by omega]
  · rw [if_neg e]; exact h j (by omega)
theorem hblock_any (k : Nat → Int) (c : Int) (n : Nat → Int) (hk : In 256 32 k) (hn : In 256 12 n) (w : World) (hg : HGlob w) :
    Calls Tryd.prog 36 #[(.agg (row .u8 32 (k)).toArray), .int .u32 c, (.agg (row .u8 12 (n)).toArray)] w fun e w' => e = .returned (.agg (row .u8 64 (hblk k c n)).toArray) ∧ Below w.heap.size w w' := by
  have K := Kr.init w
  replace K := K.box .u8 32 k 36 w.heap.size rfl
  replace K := K.box .u8 12 n 52 (w.heap.size + 1) (by simp)
  replace K := K.make 64 zu8_64 70 (w.heap.size + 1 + 1) (by simp) (hb_zero _ _ _ (by simp)).there
  go_enter Tryd.func36, Tryd.ntmps36
  go_upto_region 1 with fail
  generalize (((w.alloc (.cells (row .u8 32 k).toArray 36)).alloc (.cells (row .u8 12 n).toArray 52)).alloc (.cells zu8_64 70)) = w0 at K ⊢
  refine wp_region_list ?_
  refine rowKL .u8 32 k w.heap.size 0 36 _ _ rfl rfl rfl Tryd.underlying36 rfl (key_info _) (K.get _ _ _ _ (mT _ mS)).range ?_
  simp only [aP, lI, l0, lS]
  refine pureL (.int .u32 c) rfl (fun _ => by kernel_rfl) ?_
  simp only [aP, lI, l0, lS]
  refine rowKL .u8 12 n (w.heap.size + 1) 0 52 _ _ rfl rfl rfl Tryd.underlying52 rfl (hn_info _) (K.get _ _ _ _ mS).range ?_
  simp only [aP, lI, l0, lS]
  refine callL rfl (fun _ => by kernel_rfl) (hbegin_any k c n hk hn _ (hg.below K.below hg.size)) ?_
  rintro e w1 ⟨rfl, l⟩
  replace K := K.call l
  clear l
  refine ⟨_, rfl, ?_⟩
  simp only [aP, lI, l0, lS]
  refine allocL zu32_16 85 rfl (fun _ => by kernel_rfl) ?_
  simp only [aP, lI, l0, lS]
  refine storesL .u32 16 (hst k c n) w1.heap.size 85 _ _ rfl rfl rfl rfl (room_of (hs_zero _ _ _ rfl).there) (hs_info' _) ?_
  simp only [Act.put]
  have z1 := K.size
  replace K := K.fresh .u32 16 (hst k c n) zu32_16 85 (hs_zero _ _ _ rfl).there
  generalize ((w1.alloc (.cells zu32_16 85)).setCells w1.heap.size 0 (row .u32 16 (hst k c n))) = w2 at K ⊢
  generalize w1.heap.size = B at *
  clear w1 w0
  show Exit.then _ _ _ _ _
  go_upto_region 2 with fail
  refine wp_region_list ?_
  refine rowKL .u32 16 (hst k c n) B 0 85 _ _ rfl rfl rfl Tryd.underlying85 rfl (hs_info _) (K.get _ _ _ _ mS).range ?_
  simp only [aP, lI, l0, lS]
  refine allocL zu32_16 85 rfl (fun _ => by kernel_rfl) ?_
  simp only [aP, lI, l0, lS]
  refine storesL .u32 16 (hst k c n) w2.heap.size 85 _ _ rfl rfl rfl rfl (room_of (hs_zero _ _ _ rfl).there) (hs_info' _) ?_
  simp only [Act.put]
  have z2 := K.size
  replace K := K.fresh .u32 16 (hst k c n) zu32_16 85 (hs_zero _ _ _ rfl).there
  generalize ((w2.alloc (.cells zu32_16 85)).setCells w2.heap.size 0 (row .u32 16 (hst k c n))) = w3 at K ⊢
  generalize w2.heap.size = S at *
  clear w2
  show Exit.then _ _ _ _ _
  replace K := K.sub [(S, .u32, 16, hst k c n), (B, .u32, 16, hst k c n)] (fun p hp => by
    rcases List.mem_cons.1 hp with rfl | hp
    · exact mS
    · rcases List.mem_cons.1 hp with rfl | hp
      · exact mT _ mS
      · cases hp)
  go_wp2
  go_loopw [16] (fun i w' => ∃ t : Nat, t ≤ 10 ∧ i = .int .i64 t ∧ Kr w (S + 1) [(S, .u32, 16, drN (hst k c n) t), (B, .u32, 16, hst k c n)] [(w.heap.size + 1 + 1, 64)] w') (fun i _ => 10 - (intOf i).toNat)
  case atStart => exact ⟨0, by omega, rfl, K⟩
  case round =>
    clear K
    obtain ⟨t, ht, rfl, K⟩ := hrel
    have g1 : (0 : Int) ≤ (t : Int) := by omega
    by_cases hlt : t < 10
    · have g2 : (t : Int) < 10 := by omega
      go_upto_region 5 with fail
      refine wp_region_list ?_
      refine rowKL .u32 16 (drN (hst k c n) t) S 0 85 _ _ rfl rfl rfl Tryd.underlying85 rfl (hs_info _) (K.get _ _ _ _ mS).range ?_
      simp only [aP, lI, l0, lS]
      refine callL rfl (fun _ => by kernel_rfl) (hdouble_any (drN (hst k c n) t) _ (hg.below K.below hg.size)) ?_
      rintro e w4 ⟨rfl, l⟩
      replace K := K.call l
      clear l
      refine ⟨_, rfl, ?_⟩
      simp only [aP, lI, l0, lS]
      refine storesL .u32 16 (htN (drN (hst k c n) t) 8) S 85 _ _ rfl rfl rfl rfl (hs_there (K.get _ _ _ _ mS)) (hs_info' _) ?_
      simp only [Act.put]
      have HS := show Hid _ from K.set [(B, .u32, 16, hst k c n)] S .u32 16 (drN (hst k c n) t) (drN (hst k c n) (t + 1)) mS (fun p hp => mT _ hp) (fun p hp => by obtain rfl := List.mem_singleton.1 hp; simp only; omega) (by have := K.base; omega)
      clear K
      show Exit.inBlock _ _ _ _ _
      go_wp2
      go_roundw
      case rel => exact ⟨t + 1, by omega, by go_num, HS.out⟩
      case measure => simp [intOf]; omega
    · obtain rfl : t = 10 := by omega
      clear ht hlt g1
      go_upto_region 8 with fail
      have z3 := K.size
      have H := hb_zero wr 70 wr.heap.size rfl
      replace K := K.make 64 zu8_64 70 wr.heap.size rfl H.there
      generalize wr.alloc (.cells zu8_64 70) = w5 at K H ⊢
      generalize wr.heap.size = O at *
      have H0 : HO k c n O 0 (fun _ => 0) w5 := ⟨H, fun j hj => by omega⟩
      clear H
      go_wp2
      go_loopw [21] (fun i w' => ∃ (i' : Nat) (g : Nat → Int), i' ≤ 16 ∧ i = .int .i64 i' ∧ Kr w (O + 1) [(S, .u32, 16, drN (hst k c n) 10), (B, .u32, 16, hst k c n)] [(O, 64), (w.heap.size + 1 + 1, 64)] w' ∧ HO k c n O i' g w') (fun i _ => 16 - (intOf i).toNat)
      case atStart => exact ⟨0, _, by omega, rfl, K, H0⟩
      case round =>
        clear K H0
        obtain ⟨i, g, hi, rfl, K, H, hd⟩ := hrel
        have g1 : (0 : Int) ≤ (i : Int) := by omega
        by_cases hlt : i < 16
        · have g2 : (i : Int) < 16 := by omega
          have HD := show Hid _ from fun j hj => over_hblk hd j hj
          clear hd
          go_upto_region 11 with fail
          refine wp_region_held_drew (S := fun w' => Kr w (O + 1) [(S, .u32, 16, drN (hst k c n) 10), (B, .u32, 16, hst k c n)] [(O, 64), (w.heap.size + 1 + 1, 64)] w') (by kernel_rfl) K.drew ?_
          clear K
          intro K
          replace H := H.drew
          refine pureHg (i := 0) (some 24) rfl (.int .i64 (i : Int)) rfl rfl (fun _ => by kernel_rfl) K ?_
          simp only [aP, lI, l0, lS]
          refine pureHg (i := 1) (some 25) rfl (.int .i64 (4 * (i : Int))) rfl rfl (fun w => mulI .i64 4 (i : Int) _ _ _ _ _ rfl rfl rfl (by rw [IntKind.wrap_i64]; omega) w) K ?_
          simp only [aP, lI, l0, lS]
          refine pureHg (i := 2) (some 26) rfl (.slice (some ⟨O, 4 * i, none⟩) (64 - 4 * i) (64 - 4 * i)) rfl rfl (fun w => cutOp _ _ _ _ _ _ rfl rfl rfl (hcut_64 O i hlt w)) K ?_
          simp only [aP, lI, l0, lS]
          refine pureHg (i := 3) (some 27) rfl (.int .i64 (i : Int)) rfl rfl (fun _ => by kernel_rfl) K ?_
          simp only [aP, lI, l0, lS]
          refine pureHg (i := 4) (some 28) rfl (.pointer (some ⟨S, i, none⟩)) rfl rfl (fun w => idx16 S i hlt w _ _ rfl rfl rfl) K ?_
          simp only [aP, lI, l0, lS]
          refine cellH (i := 5) (some 29) rfl .u32 (.int .u32 (drN (hst k c n) 10 i)) S i 62 _ rfl rfl rfl rfl (by kernel_rfl) (by kernel_rfl) (by kernel_rfl) (fun _ _ _ h => h) Tryd.underlying62 K (fun _ h => (h.get _ _ _ _ mS).cell i hlt) ?_
          simp only [aP, lI, l0, lS]
          refine pureHg (i := 6) (some 30) rfl (.int .i64 (i : Int)) rfl rfl (fun _ => by kernel_rfl) K ?_
          simp only [aP, lI, l0, lS]
          refine pureHg (i := 7) (some 31) rfl (.pointer (some ⟨B, i, none⟩)) rfl rfl (fun w => idx16 B i hlt w _ _ rfl rfl rfl) K ?_
          simp only [aP, lI, l0, lS]
          refine cellH (i := 8) (some 32) rfl .u32 (.int .u32 (hst k c n i)) B i 62 _ rfl rfl rfl rfl (by kernel_rfl) (by kernel_rfl) (by kernel_rfl) (fun _ _ _ h => h) Tryd.underlying62 K (fun _ h => (h.get _ _ _ _ (mT _ mS)).cell i hlt) ?_
          simp only [aP, lI, l0, lS]
          refine pureHg (i := 9) (some 33) rfl (.int .u32 (hwd k c n i)) rfl rfl (fun w => addI .u32 (drN (hst k c n) 10 i) (hst k c n i) _ _ _ _ _ rfl rfl rfl (by rw [IntKind.wrap_u32']; rfl) w) K ?_
          simp only [aP, lI, l0, lS]
          refine callH (i := 10) (some 34) rfl (by kernel_rfl) rfl rfl (fun _ => by kernel_rfl) (put32_any O (4 * i) 64 (64 - 4 * i) (64 - 4 * i) (by omega) g (hwd k c n i) (by omega) _ H) ?_
          rintro e w' ⟨rfl, rfl⟩
          replace K := K.poke O 64 mS (4 * i) (row .u8 4 (b32 (hwd k c n i)))
          replace H := H.part (4 * i) 4 (by omega) (b32 (hwd k c n i))
          refine ⟨_, rfl, K, ?_⟩
          simp only [aP, lI, l0, lS]
          refine wpAnyH_done (by kernel_rfl) ?_ _
          have HS := show Hid _ from (And.intro K (show HO k c n O (i + 1) _ _ from ⟨H, HD.out⟩))
          clear K H HD
          generalize (wr.drew.setCells O (4 * i) (row .u8 4 (b32 (hwd k c n i)))) = w6 at *
          go_wp2
          go_roundw
          case rel => first | exact ⟨i + 1, _, by omega, by go_num, HS.out⟩ | ((repeat apply Exists.intro); refine ⟨⟨i + 1, _, by omega, ?_, HS.out⟩, rfl⟩ <;> first | rfl | go_num)
          case measure => simp [intOf]; omega
        · obtain rfl : i = 16 := by omega
          have h1 := H.congr (g := hblk k c n) (fun j hj => hd j (by omega))
          have hz := (K.room _ (mT _ mS)).1
          have hB := (K.fill _ _ (mT _ mS) (row .u8 64 (hblk k c n))).below
          clear K H hd hlt hi g1
          generalize hf : hblk k c n = f at *
          go_wp2_with (first | (refine wpList_load_mid rfl 70 _ rfl (O) 0 rfl (row .u8 64 (f)) _ (Has.range (h1)) Tryd.underlying70 rfl (hb_info _) ?_) | (refine wpList_store_mid rfl 70 _ _ rfl (w.heap.size + 1 + 1) 0 (row .u8 64 f).toArray rfl rfl (room_of hz) (hb_info' _) (all_oneCell_toArray (row_one _ _ _)) ?_))
          exact bodyPost_ret (v := (.agg (row .u8 64 (f)).toArray)) (results_row Tryd.results36 rfl (Has.all hz .u8 _).range Tryd.underlying70 rfl (hb_info _)) rfl ⟨by first | rfl | rw [hf], hB⟩
theorem made8 (n : Nat) (hn : n ≤ 281474976710656) (w : World) : (Instr.makeSlice 27 (.int .i64 (n : Int)) (.int .i64 (n : Int))).run Tryd.prog w = .ok (.slice (some ⟨w.heap.size, 0, none⟩) n n) (w.alloc (.cells (row .u8 n (fun _ => 0)).toArray 5)) := by
  have h0 : (Tryd.prog.info? 5).map (fun i => (i.zero, i.bytes, i.size)) = some (some (.int .u8 0), 1, 1) := by kernel_rfl
  obtain ⟨i, hi, he⟩ := Option.map_eq_some_iff.1 h0
  simp only [Prod.mk.injEq] at he
  obtain ⟨h1, h2, h3⟩ := he
  rw [run_make w 27 5 i _ Tryd.underlying27 hi h1 .i64 .i64 n n (by omega) (by omega) (by rw [h2]; omega) (by omega), h3]
  simp only [Int.toNat_natCast, Nat.mul_one]
  have e : madeCells (Value.int .u8 0).cells n = (row .u8 n (fun _ => 0)).toArray := by
    refine Array.toList_inj.1 ?_
    unfold madeCells row
    simp [Value.cells, Nat.mod_one]
  rw [e]
theorem makeOp {P : Program} {o : Oper} {a : Act} {w w' : World} (t : TypeId) (x y : Operand) (p q v : Value) (ho : o.op = .makeSlice t x y) (hx : a.eval x = p) (hy : a.eval y = q) (hr : (Instr.makeSlice t p q).run P w = .ok v w') :
    (execOp a.eval o).run P w = .ok (.value v) w' := by
  unfold execOp
  simp only [ho, hx, hy, Sem.run_bind, hr, Result.andThen_ok, Sem.run_pure]
theorem one8 : One Tryd.prog 5 .u8 1 := ⟨by kernel_rfl⟩
theorem idxO (b len cap i : Nat) (hi : i < len) (w : World) {o : Oper} {a : Act} (x y : Operand) (ho : o.op = .indexAddr 27 x y) (hx : a.eval x = .slice (some ⟨b, 0, none⟩) len cap) (hy : a.eval y = .int .i64 (i : Int)) :
    (execOp a.eval o).run Tryd.prog w = .ok (.value (.pointer (some ⟨b, i, none⟩))) w := by
  have h := idxSl (P := Tryd.prog) 27 5 len cap .i64 ⟨b, 0, none⟩ i x y Tryd.underlying27 (fun _ => by kernel_rfl) hi ho hx hy w
  rw [Addr.add_mid, Nat.zero_add] at h
  exact h
theorem idx64 (b i : Nat) (hi : i < 64) (w : World) {o : Oper} {a : Act} (x y : Operand) (ho : o.op = .indexAddr 70 x y) (hx : a.eval x = .pointer (some ⟨b, 0, none⟩)) (hy : a.eval y = .int .i64 (i : Int)) :
    (execOp a.eval o).run Tryd.prog w = .ok (.value (.pointer (some ⟨b, i, none⟩))) w := by
  have h := idxArr (P := Tryd.prog) 70 5 64 .i64 b 0 i x y Tryd.underlying70 (fun _ => by kernel_rfl) hi ho hx hy w
  rw [Nat.zero_add] at h
  exact h
def HX (k : Nat → Int) (c : Int) (n : Nat → Int) (z : Nat → Int) (O len m : Nat) (g : Nat → Int) (w' : World) : Prop := Has w' O .u8 len g ∧ ∀ j, j < m → g j = hxor k c n z j
theorem hxor_any (k : Nat → Int) (c : Int) (n : Nat → Int) (hk : In 256 32 k) (hn : In 256 12 n) (hc : 0 ≤ c ∧ c < V) (sp : Option Addr) (len cap : Nat) (hlen : len ≤ 140737488355328) (z : Nat → Int) (w : World) (hg : HGlob w) (hs : Src w sp len z) :
    Calls Tryd.prog 27 #[(.agg (row .u8 32 (k)).toArray), .int .u32 c, (.agg (row .u8 12 (n)).toArray), .slice sp len cap] w fun e w' => ∃ B, e = .returned (.slice (some ⟨B, 0, none⟩) len len) ∧ (w.heap.size ≤ B ∧ B < w'.heap.size ∧ Has w' B .u8 len (hxor k c n z)) ∧ Below w.heap.size w w' := by
  have K := Kr.init w
  replace K := K.box .u8 32 k 36 w.heap.size rfl
  replace K := K.box .u8 12 n 52 (w.heap.size + 1) (by simp)
  go_enter Tryd.func27, Tryd.ntmps27
  go_upto_region 1 with fail
  generalize ((w.alloc (.cells (row .u8 32 k).toArray 36)).alloc (.cells (row .u8 12 n).toArray 52)) = w0 at K ⊢
  refine wp_region_list ?_
  refine pureL (.slice sp len cap) rfl (fun _ => by kernel_rfl) ?_
  simp only [aP, lI, l0, lS]
  refine pureL (.int .i64 (len : Int)) rfl (fun w => lenS _ 27 5 sp len cap rfl Tryd.underlying27 rfl w) ?_
  simp only [aP, lI, l0, lS]
  refine actL (.slice (some ⟨w0.heap.size, 0, none⟩) len len) rfl (makeOp _ _ _ _ _ _ rfl rfl rfl (made8 len (by omega) w0)) ?_
  simp only [aP, lI, l0, lS]
  refine pureL (.slice (some ⟨w0.heap.size, 0, none⟩) len len) rfl (fun _ => by kernel_rfl) ?_
  simp only [aP, lI, l0, lS]
  have z0 := K.size
  have H := Has.new w0 .u8 len (fun _ => 0) 5 w0.heap.size rfl
  replace K := K.make len _ 5 w0.heap.size rfl H.there
  have HI := show HX k c n z w0.heap.size len 0 (fun _ => 0) _ from ⟨H, fun j hj => by omega⟩
  clear H
  generalize (w0.alloc (.cells (row .u8 len (fun _ => 0)).toArray 5)) = w1 at K HI ⊢
  generalize w0.heap.size = O at *
  show Exit.then _ _ _ _ _
  go_wp2
  go_loopw [1, 10] (fun cv i w' => ∃ (t : Nat) (g : Nat → Int), 64 * t < len + 64 ∧ i = .int .i64 (64 * (t : Int)) ∧ cv = .int .u32 ((c + (t : Int)) % 4294967296) ∧ Kr w (O + 1) [(w.heap.size + 1, .u8, 12, n), (w.heap.size, .u8, 32, k)] [(O, len)] w' ∧ HX k c n z O len (min (64 * t) len) g w') (fun _ i _ => len + 64 - (intOf i).toNat)
  case atStart => exact ⟨0, _, by omega, rfl, by rw [show (c + ((0 : Nat) : Int)) % 4294967296 = c by simp only [V] at hc; omega], K, by rw [show min (64 * 0) len = 0 by omega]; exact HI⟩
  case round =>
    clear K HI
    obtain ⟨t, g, ht, rfl, rfl, K, H, hd⟩ := hrel
    obtain ⟨C, hC⟩ : ∃ C, (c + (t : Int)) % 4294967296 = C := ⟨_, rfl⟩
    rw [hC]
    have g1 : (0 : Int) ≤ 64 * (t : Int) := by omega
    by_cases hlt : 64 * t < len
    · have g2 : 64 * (t : Int) < (len : Int) := by omega
      have HCn := show Hid _ from hC
      clear hC
      go_upto_region 5 with fail
      refine wp_region_list ?_
      refine rowKL .u8 32 k w.heap.size 0 36 _ _ rfl rfl rfl Tryd.underlying36 rfl (key_info _) (K.get _ _ _ _ (mT _ mS)).range ?_
      simp only [aP, lI, l0, lS]
      refine pureL (.int .u32 C) rfl (fun _ => by kernel_rfl) ?_
      simp only [aP, lI, l0, lS]
      refine rowKL .u8 12 n (w.heap.size + 1) 0 52 _ _ rfl rfl rfl Tryd.underlying52 rfl (hn_info _) (K.get _ _ _ _ mS).range ?_
      simp only [aP, lI, l0, lS]
      refine callL rfl (fun _ => by kernel_rfl) (hblock_any k C n hk hn _ (hg.below K.below hg.size)) ?_
      rintro e w2 ⟨rfl, l⟩
      have hO := (K.room (O, len) mS).2.1
      have hsz := K.size
      replace H := H.below l (by omega)
      replace K := K.call l
      clear l
      refine ⟨_, rfl, ?_⟩
      simp only [aP, lI, l0, lS]
      refine allocL zu8_64 70 rfl (fun _ => by kernel_rfl) ?_
      simp only [aP, lI, l0, lS]
      refine storesL .u8 64 (hblk k C n) w2.heap.size 70 _ _ rfl rfl rfl rfl (room_of (hb_zero _ _ _ rfl).there) (hb_info' _) ?_
      simp only [Act.put]
      have z2 := K.size
      replace H := (H.alloc (.cells zu8_64 70) (by omega)).setAll_other w2.heap.size (by omega) 0 (row .u8 64 (hblk k C n))
      replace K := K.fresh .u8 64 (hblk k C n) zu8_64 70 (hb_zero _ _ _ rfl).there
      generalize ((w2.alloc (.cells zu8_64 70)).setCells w2.heap.size 0 (row .u8 64 (hblk k C n))) = w3 at K H ⊢
      generalize w2.heap.size = D at *
      clear w2 hsz
      have HX0 := show HX k c n z O len (64 * t) g w3 from ⟨H, fun j hj => hd j (by omega)⟩
      clear H hd
      show Exit.then _ _ _ _ _
      go_wp2
      go_loopw [12] (fun i w' => ∃ (i' : Nat) (g : Nat → Int), 64 * t ≤ i' ∧ i' ≤ min (64 * t + 64) len ∧ i = .int .i64 (i' : Int) ∧ Kr w (D + 1) [(D, .u8, 64, hblk k C n), (w.heap.size + 1, .u8, 12, n), (w.heap.size, .u8, 32, k)] [(O, len)] w' ∧ HX k c n z O len i' g w') (fun i _ => len + 64 - (intOf i).toNat)
      case atStart => exact ⟨64 * t, g, by omega, by omega, by go_num, K, HX0⟩
      case round =>
        clear K HX0
        obtain ⟨i, g, hi0, hi1, rfl, K, H, hd⟩ := hrel
        have g3 : (0 : Int) ≤ (i : Int) := by omega
        obtain ⟨M, hM⟩ : ∃ M : Nat, M = min (64 * t + 64) len := ⟨_, rfl⟩
        have hm : (if (len : Int) < 64 * (t : Int) + 64 then (len : Int) else 64 * (t : Int) + 64) = (M : Int) := by rw [hM]; split <;> omega
        go_upto_region 7 with fail
        refine wp_region_list ?_
        refine pureL (.int .i64 (i : Int)) rfl (fun _ => by kernel_rfl) ?_
        simp only [aP, lI, l0, lS]
        refine pureL (.int .i64 (64 * (t : Int))) rfl (fun _ => by kernel_rfl) ?_
        simp only [aP, lI, l0, lS]
        refine pureL (.int .i64 (64 * (t : Int) + 64)) rfl (fun w => addI .i64 (64 * (t : Int)) 64 _ _ _ _ _ rfl rfl rfl (by rw [IntKind.wrap_i64]; omega) w) ?_
        simp only [aP, lI, l0, lS]
        refine pureL (.slice sp len cap) rfl (fun _ => by kernel_rfl) ?_
        simp only [aP, lI, l0, lS]
        refine pureL (.int .i64 (len : Int)) rfl (fun w => lenS _ 27 5 sp len cap rfl Tryd.underlying27 rfl w) ?_
        simp only [aP, lI, l0, lS]
        refine pureL (.int .i64 (M : Int)) rfl (fun w => minI .i64 .i64 _ _ _ _ _ _ _ rfl rfl rfl hm w) ?_
        simp only [aP, lI, l0, lS]
        refine pureL (.bool (decide ((i : Int) < (M : Int)))) rfl (fun w => lssI .i64 _ _ _ _ _ _ rfl rfl rfl _ rfl w) ?_
        simp only [aP, lI, l0, lS]
        show Exit.then _ _ _ _ _
        by_cases hlt2 : i < M
        · have e2 : decide ((i : Int) < (M : Int)) = true := by simp; omega
          rw [e2]
          have hil : i < len := by omega
          have hit : i - 64 * t < 64 := by omega
          obtain ⟨ad, rfl, ca⟩ := hs i hil
          go_upto_region 9 with fail
          have hv : bits .xor .u8 (z i) (hblk k C n (i - 64 * t)) = hxor k c n z i := by
            unfold hxor
            rw [show i / 64 = t by omega, show i % 64 = i - 64 * t by omega, HCn.out]
          have H2 := show Hid _ from hd
          clear hd
          refine wp_region_held_drew (S := fun w' => Kr w (D + 1) [(D, .u8, 64, hblk k C n), (w.heap.size + 1, .u8, 12, n), (w.heap.size, .u8, 32, k)] [(O, len)] w') (by kernel_rfl) K.drew ?_
          clear K
          intro K
          replace H := H.drew
          refine pureHg (i := 0) (some 36) rfl (.slice (some ⟨O, 0, none⟩) len len) rfl rfl (fun _ => by kernel_rfl) K ?_
          simp only [aP, lI, l0, lS]
          refine pureHg (i := 1) (some 37) rfl (.int .i64 (i : Int)) rfl rfl (fun _ => by kernel_rfl) K ?_
          simp only [aP, lI, l0, lS]
          refine pureHg (i := 2) (some 38) rfl (.slice (some ad) len cap) rfl rfl (fun _ => by kernel_rfl) K ?_
          simp only [aP, lI, l0, lS]
          refine pureHg (i := 3) (some 39) rfl (.int .i64 (i : Int)) rfl rfl (fun _ => by kernel_rfl) K ?_
          simp only [aP, lI, l0, lS]
          refine pureHg (i := 4) (some 40) rfl (.pointer (some (ad.add i))) rfl rfl (fun w => idxSl 27 5 len cap .i64 ad i _ _ Tryd.underlying27 (fun _ => by kernel_rfl) hil rfl rfl rfl w) K ?_
          simp only [aP, lI, l0, lS]
          refine cellPH (i := 5) (some 41) rfl .u8 (.int .u8 (z i)) (ad.add i) 5 _ rfl rfl rfl rfl (by kernel_rfl) (by kernel_rfl) (by kernel_rfl) (fun _ _ _ h => h) Tryd.underlying5 K (fun w' h => by rw [h.below.cell (World.block_lt_of_cell? w _ ca)]; exact ca) ?_
          simp only [aP, lI, l0, lS]
          refine pureHg (i := 6) (some 42) rfl (.int .i64 (i : Int)) rfl rfl (fun _ => by kernel_rfl) K ?_
          simp only [aP, lI, l0, lS]
          refine pureHg (i := 7) (some 43) rfl (.int .i64 (64 * (t : Int))) rfl rfl (fun _ => by kernel_rfl) K ?_
          simp only [aP, lI, l0, lS]
          refine pureHg (i := 8) (some 44) rfl (.int .i64 ((i - 64 * t : Nat) : Int)) rfl rfl (fun w => subI .i64 (i : Int) (64 * (t : Int)) _ _ _ _ _ rfl rfl rfl (by rw [IntKind.wrap_i64]; omega) w) K ?_
          simp only [aP, lI, l0, lS]
          refine pureHg (i := 9) (some 45) rfl (.pointer (some ⟨D, i - 64 * t, none⟩)) rfl rfl (fun w => idx64 D (i - 64 * t) hit w _ _ rfl rfl rfl) K ?_
          simp only [aP, lI, l0, lS]
          refine cellH (i := 10) (some 46) rfl .u8 (.int .u8 (hblk k C n (i - 64 * t))) D (i - 64 * t) 5 _ rfl rfl rfl rfl (by kernel_rfl) (by kernel_rfl) (by kernel_rfl) (fun _ _ _ h => h) Tryd.underlying5 K (fun _ h => (h.get _ _ _ _ mS).cell (i - 64 * t) hit) ?_
          simp only [aP, lI, l0, lS]
          refine pureHg (i := 11) (some 47) rfl (.int .u8 (hxor k c n z i)) rfl rfl (fun w => xorI .u8 _ _ _ _ _ _ _ rfl rfl rfl hv w) K ?_
          simp only [aP, lI, l0, lS]
          refine pureHg (i := 12) (some 48) rfl (.pointer (some ⟨O, i, none⟩)) rfl rfl (fun w => idxO O len len i hil w _ _ rfl rfl rfl) K ?_
          simp only [aP, lI, l0, lS]
          refine storeH (i := 13) none rfl .u8 (hxor k c n z i) O i 5 _ _ (by kernel_rfl) rfl rfl rfl rfl rfl (by rw [H.cell i hil]; rfl) (H.free i hil) (by kernel_rfl) (K.poke O len mS i [.int .u8 (hxor k c n z i)]) ?_
          replace K := K.poke O len mS i [.int .u8 (hxor k c n z i)]
          replace H := H.set i hil (hxor k c n z i)
          simp only [Act.put]
          refine wpAnyH_done (by kernel_rfl) ?_ _
          have HS := show Hid _ from (And.intro K (show HX k c n z O len (i + 1) _ _ from ⟨H, fun j hj => by
            by_cases e : j = i
            · subst e; rw [upd_same]
            · rw [upd_other _ _ _ _ e]; exact H2.out j (by omega)⟩))
          clear K H H2 hv ca hs e2
          go_wp2
          go_roundw
          case rel => first | exact ⟨i + 1, _, by omega, by omega, by go_num, HS.out⟩ | ((repeat apply Exists.intro); refine ⟨⟨i + 1, _, by omega, by omega, ?_, HS.out⟩, rfl⟩ <;> first | rfl | go_num)
          case measure => simp [intOf]; omega
        · have e2 : decide ((i : Int) < (M : Int)) = false := by simp; omega
          rw [e2]
          obtain rfl : i = M := by omega
          have K0 := K.back [(w.heap.size + 1, .u8, 12, n), (w.heap.size, .u8, 32, k)] (O + 1) (fun p hp => mT _ hp) (fun p hp => by
            rcases List.mem_cons.1 hp with rfl | hp
            · simp only; omega
            · obtain rfl := List.mem_singleton.1 hp; simp only; omega) (fun q hq => by obtain rfl := List.mem_singleton.1 hq; simp only; omega) (by omega) (by omega)
          have HS := show Hid _ from (And.intro K0 (show HX k c n z O len (min (64 * (t + 1)) len) g wr from ⟨H, fun j hj => hd j (by omega)⟩))
          have HC2 := show Hid _ from (show (C + 1) % 4294967296 = (c + ((t + 1 : Nat) : Int)) % 4294967296 by rw [← HCn.out]; omega)
          clear K K0 H hd HCn hs hlt2 hM hm
          go_wp2
          go_roundw
          case rel => first | exact ⟨t + 1, g, by omega, by go_num, by rw [HC2.out], HS.out⟩ | ((repeat apply Exists.intro); refine ⟨⟨t + 1, g, by omega, ?_, ?_, HS.out⟩, rfl⟩ <;> first | rfl | go_num | rw [HC2.out])
          case measure => simp [intOf]; omega
    · obtain ⟨e1, hall⟩ : min (64 * t) len = len ∧ len ≤ 64 * t := by omega
      rw [e1] at hd
      have HS := show Hid _ from (H.congr (g := hxor k c n z) (fun j hj => hd j hj))
      have hlo := (K.room (O, len) mS).2
      have hsz := K.size
      have hbl := K.below
      have g2 : ¬ 64 * (t : Int) < (len : Int) := by omega
      clear K H hd hlt hC
      go_wp2
      go_ret
      exact ⟨O, rfl, ⟨hlo.2, by omega, HS.out⟩, hbl⟩
theorem run_equalIn_row {P : Program} (w : World) (d : Nat) (t e : TypeId) (n : Nat) (k : IntKind) (ht : P.underlying t = some (.array n e)) (he : P.underlying e = some (.int k)) (hsz : ∀ w, (sizeOf e).run P w = .ok 1 w) (f : Nat → Int) :
    (Op.equalIn (d + 2) t (.agg (row k n f).toArray) (.agg (row k n f).toArray)).run P w = .ok true w := by
  rw [Op.equalIn]
  simp only [Sem.run_bind, run_underlying ht, Result.andThen_ok, hsz, Std.Legacy.Range.forIn_eq_forIn_range', Std.Legacy.Range.size, Nat.sub_zero, Nat.add_sub_cancel, Nat.div_one]
  have hl : ∀ i ∈ List.range' 0 n 1, i < n := fun i hi => by simpa using (List.mem_range'_1.1 hi).2
  generalize List.range' 0 n 1 = l at hl ⊢
  induction l with
  | nil => simp
  | cons i l ih =>
    have hi : i < n := hl i (by simp)
    have px : (part e (row k n f).toArray (i * 1)).run P w = .ok (.int k (f i)) w := by
      simp [part, isAgg, run_underlying he, row_get k n f i hi]
    have pe : (Op.equalIn (d + 1) e (.int k (f i)) (.int k (f i))).run P w = .ok true w := by
      rw [run_equalIn_int w d e k k _ _ he, beq_self_eq_true]
    simp only [List.forIn_cons, Sem.run_bind, px, pe, Result.andThen_ok, Bool.not_true, Bool.false_eq_true, if_false, Sem.run_pure]
    exact ih fun j hj => hl j (by simp [hj])
theorem eqlRow {P : Program} {o : Oper} {a : Act} (n : Nat) (k : IntKind) (f g : Nat → Int) (t e t' : TypeId) (x y : Operand) (ho : o.op = .binOp .eql t x y t') (hx : a.eval x = .agg (row k n f).toArray) (hy : a.eval y = .agg (row k n g).toArray)
    (ht : P.underlying t = some (.array n e)) (he : P.underlying e = some (.int k)) (hsz : ∀ w, (sizeOf e).run P w = .ok 1 w) (hm : P.eqGuardType P.depth t = false) (h : ∀ j, j < n → f j = g j) (w : World) :
    (execOp a.eval o).run P w = .ok (.value (.bool true)) w := by
  rw [← row_congr k n h] at hy
  have e1 : (binOp .eql t (.agg (row k n f).toArray) (.agg (row k n f).toArray)).run P w = .ok (.bool true) w := by
    rw [run_eql_struct, run_equalIn_row w 9998 t e n k ht he hsz f]
    rfl
  unfold execOp
  simp only [ho, hx, hy, Sem.run_bind, run_eqGuard_agg w .eql t x y _ _ hm, Result.andThen_ok, e1, Sem.run_pure]
end Go.Proofs.YtgfpflcoknpbdaaDoor
