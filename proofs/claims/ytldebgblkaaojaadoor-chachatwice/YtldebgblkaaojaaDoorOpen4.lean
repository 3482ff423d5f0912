/- How the arguments of stage 4's statements and the two tables are opened and read again. -/
import Derived.Test.YtldebgblkaaojaaDoorRows
import Derived.Test.YtldebgblkaaojaaDoorHc
import Derived.Test.YtldebgblkaaojaaDoorLw
import Derived.Test.YtldebgblkaaojaaDoorOpn
namespace Go.Proofs.YtldebgblkaaojaaDoor
open Go.ChangeShapes Go.WideShapes Go.ChangeAt Go.WideMaps Go.WideElems Go.RowKit

theorem own : ownKnob Tryd.prog.godebug = none := by kernel_rfl
theorem cellsByte : Tryd.prog.cellsOf 5 = 1 := by kernel_rfl
theorem cellsW32 : Tryd.prog.cellsOf 22 = 1 := by kernel_rfl
theorem cellsInt : Tryd.prog.cellsOf 3 = 1 := by kernel_rfl
theorem cellsQ : Tryd.prog.cellsOf 23 = 4 := by kernel_rfl
theorem cellsKey : Tryd.prog.cellsOf 28 = 32 := by kernel_rfl
theorem cellsNon : Tryd.prog.cellsOf 30 = 12 := by kernel_rfl
theorem cellsStm : Tryd.prog.cellsOf 35 = 45 := by kernel_rfl
theorem cells4 : Tryd.prog.cellsOf 53 = 4 := by kernel_rfl
theorem cells84 : Tryd.prog.cellsOf 54 = 32 := by kernel_rfl
theorem gFirst : Tryd.prog.globalNamed "sheave/chacha.first" = some 0 := by kernel_rfl
theorem gPlaces : Tryd.prog.globalNamed "sheave/chacha.places" = some 1 := by kernel_rfl
theorem tFirst : (Tryd.prog.globals[0]?).map (·.type) = some 23 := by kernel_rfl
theorem tPlaces : (Tryd.prog.globals[1]?).map (·.type) = some 54 := by kernel_rfl

section
variable {H : Type} {enc : TypeId × Value → H} {w : World} {base : Nat} {sp : Nat → Bool} {held : Bool}
def litS (k : Nat → Int) (c : Int) (n : Nat → Int) : DataW H := .agg [litR .u8 32 k, .lit (.int .u32 c), litR .u8 12 n]
/-- A stream, opened. -/
theorem open_stm {r : Reach} {b0 : Nat} {v : Value} {d : DataW H} {p : List MemPlace} (hv : Value.okWide Tryd.prog w r b0 35 v) (h : DataW.Trod enc Tryd.prog w base sp held 35 v d p) :
    ∃ (k : Nat → Int) (c : Int) (n : Nat → Int), In 256 32 k ∧ In 256 12 n ∧ (0 ≤ c ∧ c < V) ∧ v = .agg (strm k c n).toArray ∧ d = litS k c n ∧ p = [] := by
  simp only [Value.okWide, Tryd.underlying35] at hv
  obtain ⟨cs, rfl, _, _⟩ := hv
  obtain ⟨fuel, hf⟩ := h
  obtain ⟨y0, y1, y2, m, hx, hl, h0, h1, h2⟩ := Deep.trod_struct3 Tryd.underlying35 hf
  rw [cellsStm] at hl
  obtain ⟨k, hk, ek, rfl⟩ := open_row Tryd.underlying28 Tryd.underlying5 cellsKey cellsByte h0
  obtain ⟨c, ec, rfl, hc⟩ := DataW.trod_int Tryd.underlying22 h1
  obtain ⟨n, hn, en, rfl⟩ := open_row Tryd.underlying30 Tryd.underlying5 cellsNon cellsByte h2
  simp only [cellsKey, cellsW32, cellsNon] at ek ec en
  simp only [Prod.mk.injEq, List.append_nil] at hx
  have hl' : cs.toList.length = 45 := hl
  refine ⟨k, c, n, fun j hj => wf_u8.1 (hk j hj), fun j hj => wf_u8.1 (hn j hj), wf_u32.1 hc, ?_, hx.1, hx.2⟩
  congr 1
  refine Array.toList_inj.1 ?_
  have e0 : (Value.agg cs).cells.toList = cs.toList := rfl
  rw [e0] at ek ec en
  have a1 : cs.toList = cs.toList.take 32 ++ cs.toList.drop 32 := (List.take_append_drop 32 _).symm
  have a2 : cs.toList.drop 32 = (cs.toList.drop 32).take 1 ++ (cs.toList.drop 32).drop 1 := (List.take_append_drop 1 _).symm
  have a3 : (cs.toList.drop 33).take 12 = cs.toList.drop 33 := List.take_of_length_le (by rw [List.length_drop, hl']; decide)
  have b0 : cs.toList.take 32 = row .u8 32 k := by rw [← ek]; simp
  have b1 : (cs.toList.drop 32).take 1 = [.int .u32 c] := ec
  have b2 : (cs.toList.drop 32).drop 1 = row .u8 12 n := by rw [List.drop_drop, ← en, a3]
  rw [a1, a2, b0, b1, b2]
  rfl
theorem shut_stm (k : Nat → Int) (c : Int) (n : Nat → Int) (hk : In 256 32 k) (hn : In 256 12 n) (hc : 0 ≤ c ∧ c < V) : DataW.Trod enc Tryd.prog w base sp held 35 (.agg (strm k c n).toArray) (litS k c n) [] := by
  have e0 := shut_row (enc := enc) (P := Tryd.prog) (w := w) (base := base) (sp := sp) (held := held) Tryd.underlying28 Tryd.underlying5 cellsKey cellsByte k (fun j hj => wf_u8.2 (hk j hj))
  have e1 := trod_int_mk (enc := enc) (P := Tryd.prog) (w := w) (base := base) (spare := sp) (held := held) 1 Tryd.underlying22 (wf_u32.2 hc)
  have e2 := shut_row (enc := enc) (P := Tryd.prog) (w := w) (base := base) (sp := sp) (held := held) Tryd.underlying30 Tryd.underlying5 cellsNon cellsByte n (fun j hj => wf_u8.2 (hn j hj))
  have l32 : (row .u8 32 k).length = 32 := row_length _ _ _
  have l12 : (row .u8 12 n).length = 12 := row_length _ _ _
  refine ⟨3, ?_⟩
  show DataW.trod enc Tryd.prog w base sp held (2 + 1) 35 (strm k c n) = _
  refine Deep.trod_struct3_mk (y0 := (litR .u8 32 k, [])) (y1 := (.lit (.int .u32 c), [])) (y2 := (litR .u8 12 n, [])) Tryd.underlying35 ?_ ?_ ?_ ?_
  · rw [cellsStm]; unfold strm; rw [List.length_append, List.length_cons, l32, l12]
  · simp only [cellsKey, List.drop_zero]
    unfold strm
    rw [List.take_left' l32]
    exact e0
  · simp only [cellsW32]
    unfold strm
    rw [List.drop_left' l32, List.take_succ_cons, List.take_zero]
    exact e1
  · simp only [cellsNon]
    have e3 : (strm k c n).drop 33 = row .u8 12 n := by
      unfold strm
      rw [show (33 : Nat) = 32 + 1 from rfl, ← List.drop_drop, List.drop_left' l32, List.drop_succ_cons, List.drop_zero]
    rw [e3, List.take_of_length_le (by rw [l12]; exact Nat.le_refl _)]
    exact e2
end

/-- What the cards' rows list. -/
def laidH {H : Type} : List (String × DataW H) := [("sheave/chacha.first", Rows.laid_sheave_chacha_first), ("sheave/chacha.places", Rows.laid_sheave_chacha_places)]
theorem litR_inj {H : Type} {k : IntKind} {n : Nat} {f g : Nat → Int} (h : (litR k n f : DataW H) = litR k n g) (j : Nat) (hj : j < n) : f j = g j := by
  unfold litR at h
  injection h with h
  have e := congrArg (fun l => l[j]?) h
  simp only [List.getElem?_map, List.getElem?_range hj, Option.map_some, Option.some.injEq] at e
  injection e with e
  injection e
/-- The table of places, opened: eight rows of four. -/
theorem open_places {H : Type} {enc : TypeId × Value → H} {w : World} {base : Nat} {sp : Nat → Bool} {held : Bool} {fuel : Nat} {cs : Array Value} {q : List MemPlace} {d : DataW H} (hd : d = .agg ((List.range 8).map fun i => litR .i64 4 (fun j => plc (4 * i + j))))
    (h : DataW.trod enc Tryd.prog w base sp held fuel 54 cs.toList = some (d, q)) : ∀ j, j < 32 → cs.toList[j]? = some (.int .i64 (plc j)) := by
  obtain ⟨xs, m, _, hx, hl, hn, hel⟩ := DataW.trod_array Tryd.underlying54 h
  intro j hj
  have hi : j / 4 < 8 := by omega
  have e := hel (j / 4) hi
  rw [cells4] at e
  rw [cells84] at hl
  have hxi : j / 4 < xs.length := by omega
  rw [List.getElem?_eq_getElem hxi] at e
  obtain ⟨f, _, e1, e2⟩ := open_row Tryd.underlying53 Tryd.underlying3 cells4 cellsInt e
  simp only [Prod.mk.injEq] at hx
  rw [hd] at hx
  have hx1 : ((List.range 8).map fun i => (litR .i64 4 (fun j => plc (4 * i + j)) : DataW H)) = xs.map (·.1) := by
    have := hx.1
    injection this
  have e6 : (xs.map (·.1))[j / 4]? = some (litR .i64 4 f) := by rw [List.getElem?_map, List.getElem?_eq_getElem hxi, e2]; rfl
  rw [← hx1, List.getElem?_map, List.getElem?_range hi] at e6
  simp only [Option.map_some, Option.some.injEq] at e6
  have e7 := litR_inj e6 (j % 4) (Nat.mod_lt _ (by decide))
  have e8 : ((cs.toList.drop (j / 4 * 4)).take 4)[j % 4]? = some (.int .i64 (f (j % 4))) := by rw [e1]; exact row_get _ _ _ _ (Nat.mod_lt _ (by decide))
  rw [List.getElem?_take, if_pos (Nat.mod_lt _ (by decide)), List.getElem?_drop, show j / 4 * 4 + j % 4 = j by omega] at e8
  rw [e8, ← e7, show 4 * (j / 4) + j % 4 = j by omega]

theorem glob_of_laidH {W : World} (h : laidMetH Tryd.prog laidH W) : HGlob W := by
  rw [MakeChecks.laidMetH_plain _ _ _ (by kernel_rfl)] at h
  obtain ⟨ps, ⟨g0, t0, cs0, f0, p0, q0, hg0, ht0, hv0, hd0, ⟨g1, t1, cs1, f1, p1, q1, hg1, ht1, hv1, hd1, _, _⟩, _⟩, _, _⟩ := h
  obtain rfl := Option.some.inj (gFirst.symm.trans hg0)
  obtain rfl := Option.some.inj (gPlaces.symm.trans hg1)
  obtain rfl := Option.some.inj (tFirst.symm.trans ht0)
  obtain rfl := Option.some.inj (tPlaces.symm.trans ht1)
  obtain ⟨f, _, e1, e2⟩ := open_row Tryd.underlying23 Tryd.underlying22 cellsQ cellsW32 hd0
  simp only [Prod.mk.injEq] at e2
  have ef := litR_inj (show (litR .u32 4 hfst : DataW _) = litR .u32 4 f from e2.1)
  have b := open_places (by rfl) hd1
  have c0 : ∀ j, j < 4 → W.cell? ⟨0, j, none⟩ = some (.int .u32 (hfst j)) := fun j hj => by
    rw [World.var?_cell hg0 hv0 j, ef j hj]
    have := row_get .u32 4 f j hj
    rw [← e1] at this
    simpa using this
  have c1 : ∀ j, j < 32 → W.cell? ⟨1, j, none⟩ = some (.int .i64 (plc j)) := fun j hj => by
    rw [World.var?_cell hg1 hv1 j]; simpa using b j hj
  have s0 := World.block_lt_of_cell? W _ (c0 0 (by omega))
  have s1 := World.block_lt_of_cell? W _ (c1 0 (by omega))
  exact ⟨c0, c1, by dsimp only at s0 s1; omega⟩

/-- The door's own heap meets the condition: three closed facts. -/
theorem door_metH (os : Os) (args : Array Value) : laidMetH Tryd.prog laidH ((World.doorLaid Tryd.prog 19 os).forCall (fun _ _ => 0) ⟨#[], args, []⟩).memory :=
  laidMetH_of_parts3 (fuel := 8) (laidMet_of_run' 8 (by kernel_rfl) (by kernel_rfl)) (by kernel_rfl) (by kernel_rfl)

/-- Noughts, for the one start that is shown to fit. -/
def qNought : Value := .agg #[.int .u32 0, .int .u32 0, .int .u32 0, .int .u32 0]
def keyNought : Value := .agg #[.int .u8 0, .int .u8 0, .int .u8 0, .int .u8 0, .int .u8 0, .int .u8 0, .int .u8 0, .int .u8 0, .int .u8 0, .int .u8 0, .int .u8 0, .int .u8 0, .int .u8 0, .int .u8 0, .int .u8 0, .int .u8 0, .int .u8 0, .int .u8 0, .int .u8 0, .int .u8 0, .int .u8 0, .int .u8 0, .int .u8 0, .int .u8 0, .int .u8 0, .int .u8 0, .int .u8 0, .int .u8 0, .int .u8 0, .int .u8 0, .int .u8 0, .int .u8 0]
def nonNought : Value := .agg #[.int .u8 0, .int .u8 0, .int .u8 0, .int .u8 0, .int .u8 0, .int .u8 0, .int .u8 0, .int .u8 0, .int .u8 0, .int .u8 0, .int .u8 0, .int .u8 0]
def stmNought : Value := .agg #[.int .u8 0, .int .u8 0, .int .u8 0, .int .u8 0, .int .u8 0, .int .u8 0, .int .u8 0, .int .u8 0, .int .u8 0, .int .u8 0, .int .u8 0, .int .u8 0, .int .u8 0, .int .u8 0, .int .u8 0, .int .u8 0, .int .u8 0, .int .u8 0, .int .u8 0, .int .u8 0, .int .u8 0, .int .u8 0, .int .u8 0, .int .u8 0, .int .u8 0, .int .u8 0, .int .u8 0, .int .u8 0, .int .u8 0, .int .u8 0, .int .u8 0, .int .u8 0, .int .u32 0, .int .u8 0, .int .u8 0, .int .u8 0, .int .u8 0, .int .u8 0, .int .u8 0, .int .u8 0, .int .u8 0, .int .u8 0, .int .u8 0, .int .u8 0, .int .u8 0]
end Go.Proofs.YtldebgblkaaojaaDoor
