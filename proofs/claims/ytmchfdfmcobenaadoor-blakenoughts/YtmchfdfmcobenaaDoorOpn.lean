/- How arrays of numbers are opened and read again; no program stands in this. -/
import Derived.Test.YtmchfdfmcobenaaDoorBase
import Derived.ProofKit
import Derived.LaidMore
import Derived.OpenShut
import Derived.SizedLaws
import Derived.Deep.Strs
import Derived.Stop.Joined
namespace Go.Proofs.YtmchfdfmcobenaaDoor
open Go.ChangeShapes Go.WideShapes Go.ChangeAt Go.WideMaps Go.WideElems Go.RowKit

/-- A number, if it is one. -/
def intAt : Option Value → Int
  | some (.int _ n) => n
  | _ => 0
theorem mapM_every {α β : Type} (g : α → Option β) (h : α → β) : ∀ l : List α, (∀ i ∈ l, g i = some (h i)) → l.mapM g = some (l.map h)
  | [], _ => rfl
  | x :: l, hh => by
    rw [List.mapM_cons, hh x (by simp), mapM_every g h l (fun i hi => hh i (by simp [hi]))]
    rfl
/-- What a row of numbers reads as. -/
def litR {H : Type} (k : IntKind) (n : Nat) (f : Nat → Int) : DataW H := .agg ((List.range n).map fun j => .lit (.int k (f j)))
section
variable {H : Type} {enc : TypeId × Value → H} {P : Program} {w : World} {base : Nat} {sp : Nat → Bool} {held : Bool}
theorem open_row {t e : TypeId} {n : Nat} {k : IntKind} (hu : P.underlying t = some (.array n e)) (he : P.underlying e = some (.int k)) (hct : P.cellsOf t = n) (hce : P.cellsOf e = 1) {fuel : Nat} {cs : List Value} {x : DataW H × List MemPlace}
    (h : DataW.trod enc P w base sp held fuel t cs = some x) : ∃ f : Nat → Int, (∀ j, j < n → (Lit.int k (f j)).wf = true) ∧ cs = row k n f ∧ x = (litR k n f, []) := by
  obtain ⟨xs, m, _, hx, hl, hn, hel⟩ := DataW.trod_array hu h
  rw [hct] at hl
  have hcell : ∀ i, i < n → ∃ v, cs[i]? = some (.int k v) ∧ xs[i]? = some (.lit (.int k v), []) ∧ (Lit.int k v).wf = true := by
    intro i hi
    have e1 := hel i hi
    rw [hce, Nat.mul_one] at e1
    have hxi : i < xs.length := by omega
    rw [List.getElem?_eq_getElem hxi] at e1
    obtain ⟨v, e2, e3, e4⟩ := DataW.trod_int he e1
    refine ⟨v, ?_, by rw [List.getElem?_eq_getElem hxi, e3], e4⟩
    have hci : i < cs.length := by omega
    have e5 : (cs.drop i).take 1 = [cs[i]] := by rw [List.drop_eq_getElem_cons hci, List.take_succ_cons, List.take_zero]
    rw [e5] at e2
    rw [List.getElem?_eq_getElem hci]
    simpa using e2
  refine ⟨fun i => intAt cs[i]?, fun i hi => ?_, ?_, ?_⟩
  · obtain ⟨v, e1, _, e3⟩ := hcell i hi
    dsimp only
    rw [e1]; exact e3
  · refine List.ext_getElem? fun i => ?_
    by_cases hi : i < n
    · obtain ⟨v, e1, _, _⟩ := hcell i hi
      rw [row_get k n _ i hi, e1]; rfl
    · rw [List.getElem?_eq_none (by omega), List.getElem?_eq_none (by rw [row_length]; omega)]
  · rw [hx]
    congr 1
    · unfold litR
      congr 1
      refine List.ext_getElem? fun i => ?_
      by_cases hi : i < n
      · obtain ⟨v, e1, e2, _⟩ := hcell i hi
        rw [List.getElem?_map, e2, List.getElem?_map, List.getElem?_range hi]
        simp only [Option.map_some]
        rw [e1]
        rfl
      · rw [List.getElem?_eq_none (by simp [hn]; omega), List.getElem?_eq_none (by simp; omega)]
    · refine List.flatMap_eq_nil_iff.2 fun y hy => ?_
      obtain ⟨i, hi⟩ := List.mem_iff_getElem?.1 hy
      have hin : i < n := by have := (List.getElem?_eq_some_iff.1 hi).1; omega
      obtain ⟨v, _, e2, _⟩ := hcell i hin
      rw [e2] at hi
      rw [← Option.some.inj hi]
theorem shut_row {t e : TypeId} {n : Nat} {k : IntKind} (hu : P.underlying t = some (.array n e)) (he : P.underlying e = some (.int k)) (hct : P.cellsOf t = n) (hce : P.cellsOf e = 1) (f : Nat → Int) (hf : ∀ j, j < n → (Lit.int k (f j)).wf = true) :
    DataW.trod enc P w base sp held 2 t (row k n f) = some (litR k n f, []) := by
  show DataW.trod enc P w base sp held (1 + 1) t (row k n f) = _
  unfold DataW.trod
  rw [hu]
  simp only [row_length, hct, if_true, hce, Nat.mul_one]
  rw [mapM_every _ (fun i => ((.lit (.int k (f i)) : DataW H), ([] : List MemPlace))) (List.range n) (fun i hi => ?_)]
  · simp only [Option.map_some, List.map_map, litR]
    congr 2
    exact List.flatMap_eq_nil_iff.2 fun y hy => by
      obtain ⟨i, _, rfl⟩ := List.mem_map.1 hy
      rfl
  · have hi' := List.mem_range.1 hi
    have e1 : ((row k n f).drop i).take 1 = [.int k (f i)] := by
      have hl : i < (row k n f).length := by rw [row_length]; exact hi'
      rw [List.drop_eq_getElem_cons hl]
      have := row_get k n f i hi'
      rw [List.getElem?_eq_getElem hl] at this
      simp [Option.some.inj this]
    rw [e1]
    simp [DataW.trod, he, hf i hi']
theorem open_array {t e : TypeId} {n : Nat} {k : IntKind} (hu : P.underlying t = some (.array n e)) (he : P.underlying e = some (.int k)) (hct : P.cellsOf t = n) (hce : P.cellsOf e = 1) {r : Reach} {b0 : Nat} {v : Value} {d : DataW H} {p : List MemPlace}
    (hv : Value.okWide P w r b0 t v) (h : DataW.Trod enc P w base sp held t v d p) : ∃ f : Nat → Int, (∀ j, j < n → (Lit.int k (f j)).wf = true) ∧ v = .agg (row k n f).toArray ∧ d = litR k n f ∧ p = [] := by
  simp only [Value.okWide, hu] at hv
  obtain ⟨cs, rfl, _, _⟩ := hv
  obtain ⟨fuel, hf⟩ := h
  obtain ⟨f, h1, h2, h3⟩ := open_row hu he hct hce hf
  simp only [Prod.mk.injEq] at h3
  refine ⟨f, h1, ?_, h3.1, h3.2⟩
  congr 1
  exact Array.toList_inj.1 h2
theorem shut_array {t e : TypeId} {n : Nat} {k : IntKind} (hu : P.underlying t = some (.array n e)) (he : P.underlying e = some (.int k)) (hct : P.cellsOf t = n) (hce : P.cellsOf e = 1) (f : Nat → Int) (hf : ∀ j, j < n → (Lit.int k (f j)).wf = true) :
    DataW.Trod enc P w base sp held t (.agg (row k n f).toArray) (litR k n f) [] := ⟨2, shut_row hu he hct hce f hf⟩
end
theorem wf_u8 {n : Int} : (Lit.int .u8 n).wf = true ↔ 0 ≤ n ∧ n < 256 := by
  simp [Lit.wf, IntKind.min, IntKind.max, IntKind.signed, IntKind.bits]
  omega
theorem wf_u32 {n : Int} : (Lit.int .u32 n).wf = true ↔ 0 ≤ n ∧ n < 4294967296 := by
  simp [Lit.wf, IntKind.min, IntKind.max, IntKind.signed, IntKind.bits]
  omega
theorem wf_i64 {n : Int} : (Lit.int .i64 n).wf = true ↔ -9223372036854775808 ≤ n ∧ n ≤ 9223372036854775807 := by
  simp [Lit.wf, IntKind.min, IntKind.max, IntKind.signed, IntKind.bits]

/-- A slice of bytes that came in, opened; it reads as before in every later memory. -/
theorem open_bytes {H : Type} {enc : TypeId × Value → H} {P : Program} {W : World} {t e : TypeId} (hu : P.underlying t = some (.slice e)) (he : P.underlying e = some (.int .u8)) (hce : P.cellsOf e = 1) {r : Reach} {b0 : Nat} {v : Value} {d : DataW H} {p : List MemPlace}
    (hv : Value.okWide P W r b0 t v) (h : DataW.Trod enc P W 0 (fun _ => true) true t v d p) :
    ∃ (sp : Option Addr) (len cap : Nat) (z : Nat → Int), v = .slice sp len cap ∧ (∀ j, j < len → 0 ≤ z j ∧ z j < 256) ∧ (∀ j, j < len → ∃ ad, sp = some ad ∧ W.cell? (ad.add j) = some (.int .u8 (z j))) ∧ len ≤ cap ∧ (sp = none → cap = 0) ∧
      (len = 0 ∨ ∃ elems spare, d = .slice elems spare ∧ len ≤ elems.length + spare.length) ∧ ∀ W', Below W.heap.size W W' → DataW.Trod enc P W' 0 (fun b => decide (b < W.heap.size)) true t v d p := by
  obtain ⟨sp, len, cap, rfl⟩ := okWide_slice hu hv
  obtain ⟨fuel, hf⟩ := h
  rcases open_ints hu he hce hf with ⟨hcs, hx⟩ | ⟨ad, len', cap', zs, hcs, _, hle, hmax, hall, hx, hcell, hwf⟩
  · simp [Value.cells] at hcs
    obtain ⟨rfl, rfl, rfl⟩ := hcs
    simp only [Prod.mk.injEq] at hx
    obtain ⟨rfl, rfl⟩ := hx
    exact ⟨none, 0, 0, fun _ => 0, rfl, fun j hj => by omega, fun j hj => by omega, Nat.le_refl _, fun _ => rfl, .inl rfl, fun W' _ => shut_slice_nil hu⟩
  · simp [Value.cells] at hcs
    obtain ⟨rfl, rfl, rfl⟩ := hcs
    simp only [Prod.mk.injEq] at hx
    obtain ⟨rfl, rfl⟩ := hx
    simp only [if_true] at hall
    refine ⟨some ad, len, cap, fun j => zs.getD j 0, rfl, fun j hj => ?_, fun j hj => ⟨ad, rfl, hcell j (by omega)⟩, hle, fun e => (by cases e), .inr ⟨_, _, rfl, ?_⟩, fun W' hlow => ?_⟩
    · have hj' : j < zs.length := by omega
      refine wf_u8.1 (hwf _ ?_)
      have e : zs.getD j 0 = zs[j] := by simp [List.getD, hj']
      show zs.getD j 0 ∈ zs
      rw [e]
      exact List.getElem_mem hj'
    · simp only [lits, List.length_map, List.length_take, List.length_drop]
      omega
    · have hcell' : ∀ i, i < zs.length → W'.cell? (ad.add i) = some (.int .u8 (zs.getD i 0)) := fun i hi => by
        rw [hlow.cell (p := ad.add i) (World.block_lt_of_cell? W _ (hcell i hi))]
        exact hcell i hi
      have hz' : zs.length = (if (fun b => decide (b < W.heap.size)) ad.block then cap else len) := by
        by_cases h0 : 0 < zs.length
        · have hb := World.block_lt_of_cell? W _ (hcell 0 h0)
          rw [block_add] at hb
          simp [hb, hall]
        · split <;> omega
      exact ⟨2, shut_ints (enc := enc) (w := W') (base := 0) (spare := fun b => decide (b < W.heap.size)) (held := true) (a := ad) (len := len) (cap := cap) (zs := zs) 0 hu he hce (Nat.zero_le _) hle hmax hz' hcell' hwf⟩
/-- A slice that is read is within reach. -/
theorem reach_len {H : Type} {P : Program} {ts : List TypeId} {ds : List (DataW H)} (h : (DataW.weightsEach P ts ds).all (· ≤ reachBytes) = true) {j : Nat} {t e : TypeId} {d : DataW H} {len : Nat} (ht : ts[j]? = some t) (hj : ds[j]? = some d) (hu : P.underlying t = some (.slice e)) (hb : P.bytesOf e = 1)
    (hd : len = 0 ∨ ∃ elems spare, d = .slice elems spare ∧ len ≤ elems.length + spare.length) : len ≤ 140737488351232 := by
  rcases hd with rfl | ⟨elems, spare, rfl, hle⟩
  · omega
  · have := sized_slice h ht hj hu
    rw [hb] at this
    simp only [reachBytes] at this
    omega
theorem litR_inj {H : Type} {k : IntKind} {n : Nat} {f g : Nat → Int} (h : (litR k n f : DataW H) = litR k n g) (j : Nat) (hj : j < n) : f j = g j := by
  unfold litR at h
  injection h with h
  have e := congrArg (fun l => l[j]?) h
  simp only [List.getElem?_map, List.getElem?_range hj, Option.map_some, Option.some.injEq] at e
  injection e with e
  injection e
end Go.Proofs.YtmchfdfmcobenaaDoor
