/- A table of rows of numbers, opened; no program stands in this. -/
import Derived.Test.YtmchfdfmcobenaaDoorOpn
namespace Go.Proofs.YtmchfdfmcobenaaDoor
open Go.ChangeShapes Go.WideShapes Go.ChangeAt Go.WideMaps Go.WideElems Go.RowKit

theorem open_table {H : Type} {enc : TypeId × Value → H} {P : Program} {w : World} {base : Nat} {sp : Nat → Bool} {held : Bool} {fuel : Nat} {cs : List Value} {q : List MemPlace} {d : DataW H} {t r e : TypeId} {k : IntKind} {n m : Nat} (hu : P.underlying t = some (.array n r)) (hr : P.underlying r = some (.array m e)) (he : P.underlying e = some (.int k)) (cr : P.cellsOf r = m) (ce : P.cellsOf e = 1) (hm : 0 < m)
    (g : Nat → Int) (hd : d = .agg ((List.range n).map fun i => litR k m (fun j => g (m * i + j)))) (h : DataW.trod enc P w base sp held fuel t cs = some (d, q)) : ∀ j, j < n * m → cs[j]? = some (.int k (g j)) := by
  obtain ⟨xs, _, _, hx, _, hn, hel⟩ := DataW.trod_array hu h
  intro j hj
  have hi : j / m < n := (Nat.div_lt_iff_lt_mul hm).2 hj
  have hjm : j % m < m := Nat.mod_lt _ hm
  have hdm : j / m * m + j % m = j := Nat.div_add_mod' j m
  have e1 := hel (j / m) hi
  rw [cr] at e1
  have hxi : j / m < xs.length := by rw [hn]; exact hi
  rw [List.getElem?_eq_getElem hxi] at e1
  obtain ⟨f, _, e2, e3⟩ := open_row hr he cr ce e1
  simp only [Prod.mk.injEq] at hx
  rw [hd] at hx
  have hx1 : ((List.range n).map fun i => (litR k m (fun j => g (m * i + j)) : DataW H)) = xs.map (·.1) := by
    have := hx.1
    injection this
  have e6 : (xs.map (·.1))[j / m]? = some (litR k m f) := by rw [List.getElem?_map, List.getElem?_eq_getElem hxi, e3]; rfl
  rw [← hx1, List.getElem?_map, List.getElem?_range hi] at e6
  simp only [Option.map_some, Option.some.injEq] at e6
  have e7 := litR_inj e6 (j % m) hjm
  have e8 : ((cs.drop (j / m * m)).take m)[j % m]? = some (.int k (f (j % m))) := by rw [e2]; exact row_get _ _ _ _ hjm
  rw [List.getElem?_take, if_pos hjm, List.getElem?_drop, hdm] at e8
  rw [e8, ← e7, Nat.mul_comm m, hdm]
end Go.Proofs.YtmchfdfmcobenaaDoor
