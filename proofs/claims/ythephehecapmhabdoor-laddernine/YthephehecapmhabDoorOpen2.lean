/- How the statements' arguments, 32 bytes each, and the three tables are opened and read again. -/
import Derived.Test.YthephehecapmhabDoorRows
import Derived.Test.YthephehecapmhabDoorLeast
import Derived.Test.YthephehecapmhabDoorStep
import Derived.Test.YthephehecapmhabDoorTrim
import Derived.ProofKit
import Derived.LaidMore
import Derived.OpenShut
import Derived.Stop.Joined
namespace Go.Proofs.YthephehecapmhabDoor
open Go.ChangeShapes Go.WideShapes Go.ChangeAt Go.WideMaps Go.WideElems Go.RowKit

theorem own : ownKnob Tryd.prog.godebug = none := by kernel_rfl
theorem gPrime : Tryd.prog.globalNamed "sheave/curve.prime" = some 2 := by kernel_rfl
theorem gPower : Tryd.prog.globalNamed "sheave/curve.power" = some 1 := by kernel_rfl
theorem tPrime : (Tryd.prog.globals[2]?).map (·.type) = some 46 := by kernel_rfl
theorem tPower : (Tryd.prog.globals[1]?).map (·.type) = some 46 := by kernel_rfl
theorem gTrims : Tryd.prog.globalNamed "sheave/ladder.trims" = some 0 := by kernel_rfl
theorem tTrims : (Tryd.prog.globals[0]?).map (·.type) = some 38 := by kernel_rfl
theorem cellsTrims : Tryd.prog.cellsOf 38 = 6 := by kernel_rfl
theorem cellsTrim : Tryd.prog.cellsOf 37 = 3 := by kernel_rfl
theorem cellsInt : Tryd.prog.cellsOf 3 = 1 := by kernel_rfl
theorem cellsKey : Tryd.prog.cellsOf 23 = 32 := by kernel_rfl
theorem cellsByte : Tryd.prog.cellsOf 5 = 1 := by kernel_rfl
theorem cellsNum : Tryd.prog.cellsOf 46 = 4 := by kernel_rfl
theorem cellsWord : Tryd.prog.cellsOf 44 = 1 := by kernel_rfl

/-- A number, if it is one. -/
def intOfCell : Option Value → Int
  | some (.int _ n) => n
  | _ => 0

theorem mapM_all {α β : Type} (g : α → Option β) (h : α → β) : ∀ l : List α, (∀ i ∈ l, g i = some (h i)) → l.mapM g = some (l.map h)
  | [], _ => rfl
  | x :: l, hh => by
    rw [List.mapM_cons, hh x (by simp), mapM_all g h l (fun i hi => hh i (by simp [hi]))]
    rfl

/-- What a key reads as. -/
def litsOf {H : Type} (f : Nat → Int) : DataW H := .agg ((List.range 32).map fun j => .lit (.int .u8 (f j)))

theorem wf_byte {n : Int} (h : (Lit.int .u8 n).wf = true) : 0 ≤ n ∧ n < 256 := by
  simp [Lit.wf, IntKind.min, IntKind.max, IntKind.signed, IntKind.bits] at h
  omega
theorem byte_wf {n : Int} (h : 0 ≤ n ∧ n < 256) : (Lit.int .u8 n).wf = true := by
  simp [Lit.wf, IntKind.min, IntKind.max, IntKind.signed, IntKind.bits]
  omega

theorem open_key {H : Type} {enc : TypeId × Value → H} {W : World} {base : Nat} {sp : Nat → Bool} {held : Bool} {r : Reach} {b0 : Nat} {v : Value} {d : DataW H} {p : List MemPlace}
    (hv : Value.okWide Tryd.prog W r b0 23 v) (h : DataW.Trod enc Tryd.prog W base sp held 23 v d p) :
    ∃ f : Nat → Int, In 256 32 f ∧ v = (.agg (row .u8 32 (f)).toArray) ∧ d = litsOf f ∧ p = [] := by
  simp only [Value.okWide, Tryd.underlying23] at hv
  obtain ⟨cs, rfl, hsz, _⟩ := hv
  rw [cellsKey] at hsz
  obtain ⟨fuel, hf⟩ := h
  obtain ⟨xs, m, _, hx, hl, hn, hel⟩ := DataW.trod_array Tryd.underlying23 hf
  have hcell : ∀ i, i < 32 → ∃ n, cs.toList[i]? = some (.int .u8 n) ∧ xs[i]? = some (.lit (.int .u8 n), []) ∧ (Lit.int .u8 n).wf = true := by
    intro i hi
    have e := hel i hi
    rw [cellsByte, Nat.mul_one] at e
    have hxi : i < xs.length := by omega
    rw [List.getElem?_eq_getElem hxi] at e
    obtain ⟨n, e1, e2, e3⟩ := DataW.trod_int Tryd.underlying5 e
    refine ⟨n, ?_, by rw [List.getElem?_eq_getElem hxi, e2], e3⟩
    have hci : i < cs.toList.length := by simpa [hsz] using hi
    have e4 : ((Value.agg cs).cells.toList.drop i).take 1 = [cs.toList[i]] := by
      show (cs.toList.drop i).take 1 = _
      rw [List.drop_eq_getElem_cons hci]; simp
    rw [e4] at e1
    rw [List.getElem?_eq_getElem hci]
    simpa using e1
  refine ⟨fun i => intOfCell cs.toList[i]?, fun i hi => ?_, ?_, ?_, ?_⟩
  · obtain ⟨n, e1, _, e3⟩ := hcell i hi
    dsimp only
    rw [e1]; exact wf_byte e3
  · congr 1
    refine Array.toList_inj.1 ?_
    refine List.ext_getElem? fun i => ?_
    by_cases hi : i < 32
    · obtain ⟨n, e1, _, _⟩ := hcell i hi
      rw [row_get .u8 32 _ i hi, e1]; rfl
    · rw [List.getElem?_eq_none (by simp [hsz]; omega), List.getElem?_eq_none (by rw [row_length]; omega)]
  · simp only [Prod.mk.injEq] at hx
    rw [hx.1]
    unfold litsOf
    congr 1
    refine List.ext_getElem? fun i => ?_
    by_cases hi : i < 32
    · obtain ⟨n, e1, e2, _⟩ := hcell i hi
      rw [List.getElem?_map, e2, List.getElem?_map, List.getElem?_range hi]
      simp only [Option.map_some]
      rw [e1]
      rfl
    · rw [List.getElem?_eq_none (by simp [hn]; omega), List.getElem?_eq_none (by simp; omega)]
  · simp only [Prod.mk.injEq] at hx
    rw [hx.2]
    refine List.flatMap_eq_nil_iff.2 fun x hx' => ?_
    obtain ⟨i, hi⟩ := List.mem_iff_getElem?.1 hx'
    have hi32 : i < 32 := by
      have := (List.getElem?_eq_some_iff.1 hi).1
      omega
    obtain ⟨n, _, e2, _⟩ := hcell i hi32
    rw [e2] at hi
    rw [← Option.some.inj hi]

theorem shut_key {H : Type} (enc : TypeId × Value → H) (W : World) (base : Nat) (sp : Nat → Bool) (held : Bool) (f : Nat → Int) (hf : In 256 32 f) : DataW.Trod enc Tryd.prog W base sp held 23 (.agg (row .u8 32 (f)).toArray) (litsOf f) [] := by
  refine ⟨2, ?_⟩
  show DataW.trod enc Tryd.prog W base sp held (1 + 1) 23 (row .u8 32 f) = _
  unfold DataW.trod
  rw [Tryd.underlying23]
  simp only [row_length, cellsKey, if_true, cellsByte, Nat.mul_one]
  rw [mapM_all _ (fun i => ((.lit (.int .u8 (f i)) : DataW H), ([] : List MemPlace))) (List.range 32) (fun i hi => ?_)]
  · simp only [Option.map_some, List.map_map, litsOf]
    congr 2
  · have hi' := List.mem_range.1 hi
    have e : ((row .u8 32 f).drop i).take 1 = [.int .u8 (f i)] := by
      have hl : i < (row .u8 32 f).length := by rw [row_length]; exact hi'
      rw [List.drop_eq_getElem_cons hl]
      have := row_get .u8 32 f i hi'
      rw [List.getElem?_eq_getElem hl] at this
      simp [Option.some.inj this]
    rw [e]
    simp [DataW.trod, Tryd.underlying5, byte_wf (hf i hi')]

/-- A listed number, opened: its cells are its words. -/
theorem open_words {H : Type} {enc : TypeId × Value → H} {W : World} {base : Nat} {sp : Nat → Bool} {held : Bool} {fuel : Nat} {cs : Array Value} {f : Nat → Int} {q : List MemPlace} {d : DataW H} (hd : d = .agg ((List.range 4).map fun j => .lit (.int .u64 (f j))))
    (h : DataW.trod enc Tryd.prog W base sp held fuel 46 cs.toList = some (d, q)) : ∀ j, j < 4 → cs.toList[j]? = some (.int .u64 (f j)) := by
  obtain ⟨xs, m, _, hx, hl, hn, hel⟩ := DataW.trod_array Tryd.underlying46 h
  intro i hi
  have e := hel i hi
  rw [cellsWord, Nat.mul_one] at e
  rw [cellsNum] at hl
  have hxi : i < xs.length := by omega
  rw [List.getElem?_eq_getElem hxi] at e
  obtain ⟨n, e1, e2, _⟩ := DataW.trod_int Tryd.underlying44 e
  have hci : i < cs.toList.length := by omega
  have e4 : (cs.toList.drop i).take 1 = [cs.toList[i]] := by
    rw [List.drop_eq_getElem_cons hci]; simp
  rw [e4] at e1
  rw [List.getElem?_eq_getElem hci]
  have e5 : cs.toList[i] = .int .u64 n := by simpa using e1
  simp only [Prod.mk.injEq] at hx
  rw [hd] at hx
  have hx1 : ((List.range 4).map fun j => (.lit (.int .u64 (f j)) : DataW H)) = xs.map (·.1) := by
    have := hx.1
    injection this
  have e6 : (xs.map (·.1))[i]? = some (.lit (.int .u64 n)) := by rw [List.getElem?_map, List.getElem?_eq_getElem hxi, e2]; rfl
  rw [← hx1, List.getElem?_map, List.getElem?_range hi] at e6
  have e7 : f i = n := by
    simp only [Option.map_some, Option.some.injEq] at e6
    injection e6 with e6
    injection e6
  rw [e5, e7]

/-- One row of the table of trims, opened. -/
theorem open_trim {H : Type} {enc : TypeId × Value → H} {W : World} {base : Nat} {sp : Nat → Bool} {held : Bool} {fuel : Nat} {c0 c1 c2 : Value} {a k s : Int} {x : DataW H × List MemPlace} (hd : x.1 = .agg [.lit (.int .i64 a), .lit (.int .u8 k), .lit (.int .u8 s)])
    (h : DataW.trod enc Tryd.prog W base sp held fuel 37 [c0, c1, c2] = some x) : c0 = .int .i64 a ∧ c1 = .int .u8 k ∧ c2 = .int .u8 s := by
  obtain ⟨ys, m, _, hx, _, hn, hel⟩ := DataW.trod_struct Tryd.underlying37 h
  have h0 := hel 0 _ rfl
  have h1 := hel 1 _ rfl
  have h2 := hel 2 _ rfl
  simp [cellsInt, cellsByte] at h0 h1 h2
  match ys, hn with
  | [y0, y1, y2], _ =>
    obtain ⟨n0, e0, z0, _⟩ := DataW.trod_int Tryd.underlying3 h0
    obtain ⟨n1, e1, z1, _⟩ := DataW.trod_int Tryd.underlying5 h1
    obtain ⟨n2, e2, z2, _⟩ := DataW.trod_int Tryd.underlying5 h2
    rw [hx, z0, z1, z2] at hd
    simp only [List.map_cons, List.map_nil, DataW.agg.injEq, List.cons.injEq, DataW.lit.injEq, Lit.int.injEq, true_and, and_true] at hd
    obtain ⟨rfl, rfl, rfl⟩ := hd
    simp only [List.cons.injEq, and_true] at e0 e1 e2
    exact ⟨e0, e1, e2⟩
theorem open_trims {H : Type} {enc : TypeId × Value → H} {W : World} {base : Nat} {sp : Nat → Bool} {held : Bool} {fuel : Nat} {cs : Array Value} {q : List MemPlace}
    (h : DataW.trod enc Tryd.prog W base sp held fuel 38 cs.toList = some (Rows.laid_sheave_ladder_trims, q)) :
    cs.toList = [.int .i64 0, .int .u8 248, .int .u8 0, .int .i64 31, .int .u8 127, .int .u8 64] := by
  obtain ⟨xs, m, _, hx, hl, hn, hel⟩ := DataW.trod_array Tryd.underlying38 h
  rw [cellsTrims] at hl
  have h0 := hel 0 (by omega)
  have h1 := hel 1 (by omega)
  rw [cellsTrim] at h0 h1
  generalize cs.toList = l at *
  match l, hl, xs, hn with
  | [c0, c1, c2, c3, c4, c5], _, [x0, x1], _ =>
    simp only [Prod.mk.injEq, Rows.laid_sheave_ladder_trims, List.map_cons, List.map_nil, DataW.agg.injEq, List.cons.injEq, and_true] at hx
    obtain ⟨rfl, rfl, rfl⟩ := open_trim hx.1.1.symm h0
    obtain ⟨rfl, rfl, rfl⟩ := open_trim hx.1.2.symm h1
    rfl

/-- What the cards' rows list. -/
def laidThree {H : Type} : List (String × DataW H) := [("sheave/curve.prime", Rows.laid_sheave_curve_prime), ("sheave/curve.power", Rows.laid_sheave_curve_power), ("sheave/ladder.trims", Rows.laid_sheave_ladder_trims)]

theorem glob_of_laid {W : World} (h : laidMetH Tryd.prog laidThree W) : Glob W ∧ Trs W := by
  rw [MakeChecks.laidMetH_plain _ _ _ (by kernel_rfl)] at h
  obtain ⟨ps, ⟨g0, t0, cs0, f0, p0, q0, hg0, ht0, hv0, hd0, ⟨g1, t1, cs1, f1, p1, q1, hg1, ht1, hv1, hd1, ⟨g2, t2, cs2, f2, p2, q2, hg2, ht2, hv2, hd2, _, _⟩, _⟩, _⟩, _, _⟩ := h
  obtain rfl := Option.some.inj (gPrime.symm.trans hg0)
  obtain rfl := Option.some.inj (gPower.symm.trans hg1)
  obtain rfl := Option.some.inj (gTrims.symm.trans hg2)
  obtain rfl := Option.some.inj (tPrime.symm.trans ht0)
  obtain rfl := Option.some.inj (tPower.symm.trans ht1)
  obtain rfl := Option.some.inj (tTrims.symm.trans ht2)
  have a := open_words (f := pW) (by rfl) hd0
  have b := open_words (f := eW) (by rfl) hd1
  have c := open_trims hd2
  have c0 : ∀ j, j < 4 → W.cell? ⟨2, j, none⟩ = some (.int .u64 (pW j)) := fun j hj => by
    rw [World.var?_cell hg0 hv0 j]; simpa using a j hj
  have c1 : ∀ j, j < 4 → W.cell? ⟨1, j, none⟩ = some (.int .u64 (eW j)) := fun j hj => by
    rw [World.var?_cell hg1 hv1 j]; simpa using b j hj
  have c2 : ∀ j, W.cell? ⟨0, j, none⟩ = cs2.toList[j]? := fun j => by
    rw [World.var?_cell hg2 hv2 j]; simp
  rw [c] at c2
  have s0 := World.block_lt_of_cell? W _ (c0 0 (by omega))
  have s1 := World.block_lt_of_cell? W _ (c1 0 (by omega))
  have s2 := World.block_lt_of_cell? W _ (c2 0)
  exact ⟨⟨c0, c1, by dsimp only at s0 s1 s2; omega⟩, ⟨c2 0, c2 1, c2 2, c2 3, c2 4, c2 5⟩⟩

/-- The door's own heap meets the condition: three closed facts. -/
theorem door_met (os : Os) (args : Array Value) : laidMetH Tryd.prog laidThree ((World.doorLaid Tryd.prog 28 os).forCall (fun _ _ => 0) ⟨#[], args, []⟩).memory :=
  laidMetH_of_parts3 (fuel := 8) (laidMet_of_run' 8 (by kernel_rfl) (by kernel_rfl)) (by kernel_rfl) (by kernel_rfl)

/-- Noughts, for the one start that is shown to fit. -/
def keyNought : Value := .agg #[.int .u8 0, .int .u8 0, .int .u8 0, .int .u8 0, .int .u8 0, .int .u8 0, .int .u8 0, .int .u8 0, .int .u8 0, .int .u8 0, .int .u8 0, .int .u8 0, .int .u8 0, .int .u8 0, .int .u8 0, .int .u8 0, .int .u8 0, .int .u8 0, .int .u8 0, .int .u8 0, .int .u8 0, .int .u8 0, .int .u8 0, .int .u8 0, .int .u8 0, .int .u8 0, .int .u8 0, .int .u8 0, .int .u8 0, .int .u8 0, .int .u8 0, .int .u8 0]

end Go.Proofs.YthephehecapmhabDoor
