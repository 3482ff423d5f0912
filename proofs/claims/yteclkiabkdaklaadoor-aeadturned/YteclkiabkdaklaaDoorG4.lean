/- Texts of Opn Tb Dg Rd Re Rf Rc Ra Rm Rl Rt Rb Pa Pr Pd Pm Ps, joined. -/
import Derived.Test.YteclkiabkdaklaaDoorG1
import Derived.ProofKit
import Derived.LaidMore
import Derived.OpenShut
import Derived.SizedLaws
import Derived.Deep.Strs
import Derived.Stop.Joined
import Derived.Test.YteclkiabkdaklaaDoorG3
import Derived.BigRegion
import Derived.Deep.Cut
import Derived.Deep.QuietTactic
import Derived.BigQuiet
namespace Go.Proofs.YteclkiabkdaklaaDoor
open Go.ChangeShapes Go.WideShapes Go.ChangeAt Go.WideMaps Go.WideElems Go.RowKit

/-- A number, if it is one. -/
def intAt : Option Value → Int
  | some (.int _ n) => n
  | _ => 0
theorem mapM_every {α β : Type} (g : α → Option β) (h : α → β) : ∀ l : List α, (∀ i ∈ l, g i = some (h i)) → l.mapM g = some (l.map h)
  | [], _ => rfl
  | x :: l, hh => by
    rw [List.mapM_cons, hh x (by simp), mapM_every g h l (fun i hi => hh i (by simp [hi]))]
    rfl
/-- What a row of numbers reads as. -/
def litR {H : Type} (k : IntKind) (n : Nat) (f : Nat → Int) : DataW H := .agg ((List.range n).map fun j => .lit (.int k (f j)))
section
variable {H : Type} {enc : TypeId × Value → H} {P : Program} {w : World} {base : Nat} {sp : Nat → Bool} {held : Bool}
theorem open_row {t e : TypeId} {n : Nat} {k : IntKind} (hu : P.underlying t = some (.array n e)) (he : P.underlying e = some (.int k)) (hct : P.cellsOf t = n) (hce : P.cellsOf e = 1) {fuel : Nat} {cs : List Value} {x : DataW H × List MemPlace}
    (h : DataW.trod enc P w base sp held fuel t cs = some x) : ∃ f : Nat → Int, (∀ j, j < n → (Lit.int k (f j)).wf = true) ∧ cs = row k n f ∧ x = (litR k n f, []) := by
  obtain ⟨xs, m, _, hx, hl, hn, hel⟩ := DataW.trod_array hu h
  rw [hct] at hl
  have hcell : ∀ i, i < n → ∃ v, cs[i]? = some (.int k v) ∧ xs[i]? = some (.lit (.int k v), []) ∧ (Lit.int k v).wf = true := by
    intro i hi
    have e1 := hel i hi
    rw [hce, Nat.mul_one] at e1
    have hxi : i < xs.length := by omega
    rw [List.getElem?_eq_getElem hxi] at e1
    obtain ⟨v, e2, e3, e4⟩ := DataW.trod_int he e1
    refine ⟨v, ?_, by rw [List.getElem?_eq_getElem hxi, e3], e4⟩
    have hci : i < cs.length := by omega
    have e5 : (cs.drop i).take 1 = [cs[i]] := by rw [List.drop_eq_getElem_cons hci, List.take_succ_cons, List.take_zero]
    rw [e5] at e2
    rw [List.getElem?_eq_getElem hci]
    simpa using e2
  refine ⟨fun i => intAt cs[i]?, fun i hi => ?_, ?_, ?_⟩
  · obtain ⟨v, e1, _, e3⟩ := hcell i hi
    dsimp only
    rw [e1]; exact e3
  · refine List.ext_getElem? fun i => ?_
    by_cases hi : i < n
    · obtain ⟨v, e1, _, _⟩ := hcell i hi
      rw [row_get k n _ i hi, e1]; rfl
    · rw [List.getElem?_eq_none (by omega), List.getElem?_eq_none (by rw [row_length]; omega)]
  · rw [hx]
    congr 1
    · unfold litR
      congr 1
      refine List.ext_getElem? fun i => ?_
      by_cases hi : i < n
      · obtain ⟨v, e1, e2, _⟩ := hcell i hi
        rw [List.getElem?_map, e2, List.getElem?_map, List.getElem?_range hi]
        simp only [Option.map_some]
        rw [e1]
        rfl
      · rw [List.getElem?_eq_none (by simp [hn]; omega), List.getElem?_eq_none (by simp; omega)]
    · refine List.flatMap_eq_nil_iff.2 fun y hy => ?_
      obtain ⟨i, hi⟩ := List.mem_iff_getElem?.1 hy
      have hin : i < n := by have := (List.getElem?_eq_some_iff.1 hi).1; omega
      obtain ⟨v, _, e2, _⟩ := hcell i hin
      rw [e2] at hi
      rw [← Option.some.inj hi]
theorem shut_row {t e : TypeId} {n : Nat} {k : IntKind} (hu : P.underlying t = some (.array n e)) (he : P.underlying e = some (.int k)) (hct : P.cellsOf t = n) (hce : P.cellsOf e = 1) (f : Nat → Int) (hf : ∀ j, j < n → (Lit.int k (f j)).wf = true) :
    DataW.trod enc P w base sp held 2 t (row k n f) = some (litR k n f, []) := by
  show DataW.trod enc P w base sp held (1 + 1) t (row k n f) = _
  unfold DataW.trod
  rw [hu]
  simp only [row_length, hct, if_true, hce, Nat.mul_one]
  rw [mapM_every _ (fun i => ((.lit (.int k (f i)) : DataW H), ([] : List MemPlace))) (List.range n) (fun i hi => ?_)]
  · simp only [Option.map_some, List.map_map, litR]
    congr 2
    exact List.flatMap_eq_nil_iff.2 fun y hy => by
      obtain ⟨i, _, rfl⟩ := List.mem_map.1 hy
      rfl
  · have hi' := List.mem_range.1 hi
    have e1 : ((row k n f).drop i).take 1 = [.int k (f i)] := by
      have hl : i < (row k n f).length := by rw [row_length]; exact hi'
      rw [List.drop_eq_getElem_cons hl]
      have := row_get k n f i hi'
      rw [List.getElem?_eq_getElem hl] at this
      simp [Option.some.inj this]
    rw [e1]
    simp [DataW.trod, he, hf i hi']
theorem open_array {t e : TypeId} {n : Nat} {k : IntKind} (hu : P.underlying t = some (.array n e)) (he : P.underlying e = some (.int k)) (hct : P.cellsOf t = n) (hce : P.cellsOf e = 1) {r : Reach} {b0 : Nat} {v : Value} {d : DataW H} {p : List MemPlace}
    (hv : Value.okWide P w r b0 t v) (h : DataW.Trod enc P w base sp held t v d p) : ∃ f : Nat → Int, (∀ j, j < n → (Lit.int k (f j)).wf = true) ∧ v = .agg (row k n f).toArray ∧ d = litR k n f ∧ p = [] := by
  simp only [Value.okWide, hu] at hv
  obtain ⟨cs, rfl, _, _⟩ := hv
  obtain ⟨fuel, hf⟩ := h
  obtain ⟨f, h1, h2, h3⟩ := open_row hu he hct hce hf
  simp only [Prod.mk.injEq] at h3
  refine ⟨f, h1, ?_, h3.1, h3.2⟩
  congr 1
  exact Array.toList_inj.1 h2
theorem shut_array {t e : TypeId} {n : Nat} {k : IntKind} (hu : P.underlying t = some (.array n e)) (he : P.underlying e = some (.int k)) (hct : P.cellsOf t = n) (hce : P.cellsOf e = 1) (f : Nat → Int) (hf : ∀ j, j < n → (Lit.int k (f j)).wf = true) :
    DataW.Trod enc P w base sp held t (.agg (row k n f).toArray) (litR k n f) [] := ⟨2, shut_row hu he hct hce f hf⟩
end
theorem wf_u8 {n : Int} : (Lit.int .u8 n).wf = true ↔ 0 ≤ n ∧ n < 256 := by
  simp [Lit.wf, IntKind.min, IntKind.max, IntKind.signed, IntKind.bits]
  omega
theorem wf_u32 {n : Int} : (Lit.int .u32 n).wf = true ↔ 0 ≤ n ∧ n < 4294967296 := by
  simp [Lit.wf, IntKind.min, IntKind.max, IntKind.signed, IntKind.bits]
  omega
theorem wf_i64 {n : Int} : (Lit.int .i64 n).wf = true ↔ -9223372036854775808 ≤ n ∧ n ≤ 9223372036854775807 := by
  simp [Lit.wf, IntKind.min, IntKind.max, IntKind.signed, IntKind.bits]

/-- A slice of bytes that came in, opened; it reads as before in every later memory. -/
theorem open_bytes {H : Type} {enc : TypeId × Value → H} {P : Program} {W : World} {t e : TypeId} (hu : P.underlying t = some (.slice e)) (he : P.underlying e = some (.int .u8)) (hce : P.cellsOf e = 1) {r : Reach} {b0 : Nat} {v : Value} {d : DataW H} {p : List MemPlace}
    (hv : Value.okWide P W r b0 t v) (h : DataW.Trod enc P W 0 (fun _ => true) true t v d p) :
    ∃ (sp : Option Addr) (len cap : Nat) (z : Nat → Int), v = .slice sp len cap ∧ (∀ j, j < len → 0 ≤ z j ∧ z j < 256) ∧ (∀ j, j < len → ∃ ad, sp = some ad ∧ W.cell? (ad.add j) = some (.int .u8 (z j))) ∧ len ≤ cap ∧ (sp = none → cap = 0) ∧
      (len = 0 ∨ ∃ elems spare, d = .slice elems spare ∧ len ≤ elems.length + spare.length) ∧ ∀ W', Below W.heap.size W W' → DataW.Trod enc P W' 0 (fun b => decide (b < W.heap.size)) true t v d p := by
  obtain ⟨sp, len, cap, rfl⟩ := okWide_slice hu hv
  obtain ⟨fuel, hf⟩ := h
  rcases open_ints hu he hce hf with ⟨hcs, hx⟩ | ⟨ad, len', cap', zs, hcs, _, hle, hmax, hall, hx, hcell, hwf⟩
  · simp [Value.cells] at hcs
    obtain ⟨rfl, rfl, rfl⟩ := hcs
    simp only [Prod.mk.injEq] at hx
    obtain ⟨rfl, rfl⟩ := hx
    exact ⟨none, 0, 0, fun _ => 0, rfl, fun j hj => by omega, fun j hj => by omega, Nat.le_refl _, fun _ => rfl, .inl rfl, fun W' _ => shut_slice_nil hu⟩
  · simp [Value.cells] at hcs
    obtain ⟨rfl, rfl, rfl⟩ := hcs
    simp only [Prod.mk.injEq] at hx
    obtain ⟨rfl, rfl⟩ := hx
    simp only [if_true] at hall
    refine ⟨some ad, len, cap, fun j => zs.getD j 0, rfl, fun j hj => ?_, fun j hj => ⟨ad, rfl, hcell j (by omega)⟩, hle, fun e => (by cases e), .inr ⟨_, _, rfl, ?_⟩, fun W' hlow => ?_⟩
    · have hj' : j < zs.length := by omega
      refine wf_u8.1 (hwf _ ?_)
      have e : zs.getD j 0 = zs[j] := by simp [List.getD, hj']
      show zs.getD j 0 ∈ zs
      rw [e]
      exact List.getElem_mem hj'
    · simp only [lits, List.length_map, List.length_take, List.length_drop]
      omega
    · have hcell' : ∀ i, i < zs.length → W'.cell? (ad.add i) = some (.int .u8 (zs.getD i 0)) := fun i hi => by
        rw [hlow.cell (p := ad.add i) (World.block_lt_of_cell? W _ (hcell i hi))]
        exact hcell i hi
      have hz' : zs.length = (if (fun b => decide (b < W.heap.size)) ad.block then cap else len) := by
        by_cases h0 : 0 < zs.length
        · have hb := World.block_lt_of_cell? W _ (hcell 0 h0)
          rw [block_add] at hb
          simp [hb, hall]
        · split <;> omega
      exact ⟨2, shut_ints (enc := enc) (w := W') (base := 0) (spare := fun b => decide (b < W.heap.size)) (held := true) (a := ad) (len := len) (cap := cap) (zs := zs) 0 hu he hce (Nat.zero_le _) hle hmax hz' hcell' hwf⟩
/-- A slice that is read is within reach. -/
theorem reach_len {H : Type} {P : Program} {ts : List TypeId} {ds : List (DataW H)} (h : (DataW.weightsEach P ts ds).all (· ≤ reachBytes) = true) {j : Nat} {t e : TypeId} {d : DataW H} {len : Nat} (ht : ts[j]? = some t) (hj : ds[j]? = some d) (hu : P.underlying t = some (.slice e)) (hb : P.bytesOf e = 1)
    (hd : len = 0 ∨ ∃ elems spare, d = .slice elems spare ∧ len ≤ elems.length + spare.length) : len ≤ 140737488351232 := by
  rcases hd with rfl | ⟨elems, spare, rfl, hle⟩
  · omega
  · have := sized_slice h ht hj hu
    rw [hb] at this
    simp only [reachBytes] at this
    omega
theorem litR_inj {H : Type} {k : IntKind} {n : Nat} {f g : Nat → Int} (h : (litR k n f : DataW H) = litR k n g) (j : Nat) (hj : j < n) : f j = g j := by
  unfold litR at h
  injection h with h
  have e := congrArg (fun l => l[j]?) h
  simp only [List.getElem?_map, List.getElem?_range hj, Option.map_some, Option.some.injEq] at e
  injection e with e
  injection e
end Go.Proofs.YteclkiabkdaklaaDoor

namespace Go.Proofs.YteclkiabkdaklaaDoor
open Go.ChangeShapes Go.WideShapes Go.ChangeAt Go.WideMaps Go.WideElems Go.RowKit

theorem open_table {H : Type} {enc : TypeId × Value → H} {P : Program} {w : World} {base : Nat} {sp : Nat → Bool} {held : Bool} {fuel : Nat} {cs : List Value} {q : List MemPlace} {d : DataW H} {t r e : TypeId} {k : IntKind} {n m : Nat} (hu : P.underlying t = some (.array n r)) (hr : P.underlying r = some (.array m e)) (he : P.underlying e = some (.int k)) (cr : P.cellsOf r = m) (ce : P.cellsOf e = 1) (hm : 0 < m)
    (g : Nat → Int) (hd : d = .agg ((List.range n).map fun i => litR k m (fun j => g (m * i + j)))) (h : DataW.trod enc P w base sp held fuel t cs = some (d, q)) : ∀ j, j < n * m → cs[j]? = some (.int k (g j)) := by
  obtain ⟨xs, _, _, hx, _, hn, hel⟩ := DataW.trod_array hu h
  intro j hj
  have hi : j / m < n := (Nat.div_lt_iff_lt_mul hm).2 hj
  have hjm : j % m < m := Nat.mod_lt _ hm
  have hdm : j / m * m + j % m = j := Nat.div_add_mod' j m
  have e1 := hel (j / m) hi
  rw [cr] at e1
  have hxi : j / m < xs.length := by rw [hn]; exact hi
  rw [List.getElem?_eq_getElem hxi] at e1
  obtain ⟨f, _, e2, e3⟩ := open_row hr he cr ce e1
  simp only [Prod.mk.injEq] at hx
  rw [hd] at hx
  have hx1 : ((List.range n).map fun i => (litR k m (fun j => g (m * i + j)) : DataW H)) = xs.map (·.1) := by
    have := hx.1
    injection this
  have e6 : (xs.map (·.1))[j / m]? = some (litR k m f) := by rw [List.getElem?_map, List.getElem?_eq_getElem hxi, e3]; rfl
  rw [← hx1, List.getElem?_map, List.getElem?_range hi] at e6
  simp only [Option.map_some, Option.some.injEq] at e6
  have e7 := litR_inj e6 (j % m) hjm
  have e8 : ((cs.drop (j / m * m)).take m)[j % m]? = some (.int k (f (j % m))) := by rw [e2]; exact row_get _ _ _ _ hjm
  rw [List.getElem?_take, if_pos hjm, List.getElem?_drop, hdm] at e8
  rw [e8, ← e7, Nat.mul_comm m, hdm]
end Go.Proofs.YteclkiabkdaklaaDoor

namespace Go.Proofs.YteclkiabkdaklaaDoor
open Go.RowKit

/-- The digit number j of s bits. -/
def dgN (s A j : Nat) : Nat := A / 2 ^ (s * j) % 2 ^ s
def dg (s A : Nat) : Nat → Int := fun j => ((dgN s A j : Nat) : Int)
theorem dgN_lt (s A j : Nat) : dgN s A j < 2 ^ s := Nat.mod_lt _ (Nat.two_pow_pos s)
theorem dg_in (s A n : Nat) (M : Int) (hM : M = ((2 ^ s : Nat) : Int)) : In M n (dg s A) := fun j _ => by
  have := dgN_lt s A j
  unfold dg
  omega
theorem bit_dg (s A i : Nat) (hs : 0 < s) : dgN s A (i / s) / 2 ^ (i % s) % 2 = A / 2 ^ i % 2 := by
  have h1 := Nat.mod_lt i hs
  have h2 : s * (i / s) + i % s = i := Nat.div_add_mod i s
  unfold dgN
  rw [← Nat.toNat_testBit, ← Nat.toNat_testBit, Nat.testBit_mod_two_pow, Nat.testBit_div_two_pow, decide_eq_true h1, Bool.true_and, Nat.add_comm, h2]
theorem dgN_step (s A i j : Nat) (hs : 0 < s) : dgN s (A % 2 ^ (i + 1)) j = dgN s (A % 2 ^ i) j + (if j = i / s then 2 ^ (i % s) * (A / 2 ^ i % 2) else 0) := by
  have hr := Nat.mod_lt i hs
  have hi : s * (i / s) + i % s = i := Nat.div_add_mod i s
  have hX : A % 2 ^ i < 2 ^ i := Nat.mod_lt _ (Nat.two_pow_pos i)
  have hb : A / 2 ^ i % 2 < 2 := Nat.mod_lt _ (by decide)
  rw [Nat.mod_pow_succ]
  unfold dgN
  generalize A % 2 ^ i = X at *
  generalize A / 2 ^ i % 2 = b at *
  rcases Nat.lt_trichotomy j (i / s) with h | h | h
  · rw [if_neg (by omega), Nat.add_zero]
    obtain ⟨q, hq⟩ : ∃ q, i / s = j + 1 + q := ⟨i / s - (j + 1), by omega⟩
    have e : 2 ^ i * b = 2 ^ (s * j) * (2 ^ s * (2 ^ (s * q + i % s) * b)) := by
      have e1 : i = s * j + (s + (s * q + i % s)) := by
        have e2 : s * (j + 1 + q) = s * j + s + s * q := by rw [Nat.mul_add, Nat.mul_add, Nat.mul_one]
        rw [hq, e2] at hi
        omega
      conv => lhs; rw [e1]
      rw [Nat.pow_add, Nat.pow_add 2 s, Nat.mul_assoc, Nat.mul_assoc]
    rw [e, Nat.add_mul_div_left _ _ (Nat.two_pow_pos _), Nat.add_mul_mod_self_left]
  · rw [if_pos h]
    have e : 2 ^ i * b = 2 ^ (s * j) * (2 ^ (i % s) * b) := by
      conv => lhs; rw [← hi, ← h]
      rw [Nat.pow_add, Nat.mul_assoc]
    have hx : X / 2 ^ (s * j) < 2 ^ (i % s) := by
      rw [Nat.div_lt_iff_lt_mul (Nat.two_pow_pos _), ← Nat.pow_add, Nat.add_comm, h, hi]
      exact hX
    have hs2 : 2 ^ (i % s) + 2 ^ (i % s) ≤ 2 ^ s := by
      rw [← Nat.two_mul, Nat.mul_comm, ← Nat.pow_succ]
      exact Nat.pow_le_pow_right (by decide) (by omega)
    have hy : 2 ^ (i % s) * b ≤ 2 ^ (i % s) := by
      have := Nat.mul_le_mul_left (2 ^ (i % s)) (show b ≤ 1 by omega)
      omega
    rw [e, Nat.add_mul_div_left _ _ (Nat.two_pow_pos _), Nat.mod_eq_of_lt (a := X / 2 ^ (s * j) + 2 ^ (i % s) * b) (by omega), Nat.mod_eq_of_lt (a := X / 2 ^ (s * j)) (by omega)]
  · rw [if_neg (by omega), Nat.add_zero]
    have hle : i + 1 ≤ s * j := by
      have e2 : s * (i / s + 1) ≤ s * j := Nat.mul_le_mul_left s h
      rw [Nat.mul_add, Nat.mul_one] at e2
      omega
    have hp : 2 ^ (i + 1) ≤ 2 ^ (s * j) := Nat.pow_le_pow_right (by decide) hle
    rw [Nat.pow_succ] at hp
    have hy : 2 ^ i * b ≤ 2 ^ i := by
      have := Nat.mul_le_mul_left (2 ^ i) (show b ≤ 1 by omega)
      omega
    rw [Nat.div_eq_of_lt (by omega), Nat.div_eq_of_lt (by omega)]
theorem dgN_zero (s j : Nat) : dgN s 0 j = 0 := by unfold dgN; simp
theorem dg_nought (s A j : Nat) : dg s (A % 2 ^ 0) j = 0 := by unfold dg; rw [Nat.pow_zero, Nat.mod_one, dgN_zero]; rfl
theorem val_dgs (s A : Nat) (M : Int) (hM : M = ((2 ^ s : Nat) : Int)) : ∀ n, val M (dg s A) n = ((A % 2 ^ (s * n) : Nat) : Int)
  | 0 => by simp [val, Nat.mod_one]
  | n + 1 => by
    simp only [val]
    rw [val_dgs s A M hM n, hM, ← Int.natCast_pow, ← Nat.pow_mul, Nat.mul_add, Nat.mul_one, Nat.pow_add, Nat.mod_mul]
    unfold dg dgN
    rw [Int.natCast_add, Int.natCast_mul]
/-- A row of digits is the digits of its number. -/
theorem dg_of_val (s n : Nat) (M : Int) (hM : M = ((2 ^ s : Nat) : Int)) (f : Nat → Int) (hf : In M n f) : ∀ j, j < n → f j = dg s (val M f n).toNat j := by
  have hp : (0 : Int) < M := by have := Nat.two_pow_pos s; omega
  have hb := val_in M hp f n hf
  refine val_inj M hp f _ n hf (dg_in s _ n M hM) ?_
  rw [val_dgs s _ M hM n, Nat.mod_eq_of_lt]
  · omega
  · have e : M ^ n = ((2 ^ (s * n) : Nat) : Int) := by rw [hM, ← Int.natCast_pow, ← Nat.pow_mul]
    rw [e] at hb
    omega
/-- What is or'ed to a number that has no bit there is added. -/
theorem or_add (x y s : Nat) (hx : x < 2 ^ s) : x ||| (2 ^ s * y) = x + 2 ^ s * y := by
  rw [Nat.or_comm, ← Nat.two_pow_add_eq_or_of_lt hx y, Nat.add_comm]
end Go.Proofs.YteclkiabkdaklaaDoor

namespace Go.Proofs.YteclkiabkdaklaaDoor
open Go.RowKit

theorem made6_zero (w : World) (t : TypeId) (b : Nat) (hb : b = w.heap.size) : Has (w.alloc (.cells #[.int .i64 0, .int .i64 0, .int .i64 0, .int .i64 0, .int .i64 0, .int .i64 0] t)) b .i64 6 (fun _ => 0) := Has.new w .i64 6 (fun _ => 0) t b hb
theorem made6 (w : World) : (Instr.makeSlice 73 (.int .i64 6) (.int .i64 6)).run Tryd.prog w = .ok (.slice (some ⟨w.heap.size, 0, none⟩) 6 6) (w.alloc (.cells #[.int .i64 0, .int .i64 0, .int .i64 0, .int .i64 0, .int .i64 0, .int .i64 0] 3)) := by kernel_rfl

/-- The number of 17 bytes. -/
def nb (a : Nat → Int) : Nat := (val 256 a 17).toNat
theorem nb_val (a : Nat → Int) (ha : In 256 17 a) : ((nb a : Nat) : Int) = val 256 a 17 := by
  have := val_in 256 (by decide) a 17 ha
  unfold nb
  omega
theorem nb_lt (a : Nat → Int) (ha : In 256 17 a) : nb a < 2 ^ 136 := by
  have := val_in 256 (by decide) a 17 ha
  rw [show (256 : Int) ^ 17 = 87112285931760246646623899502532662132736 from by decide] at this
  unfold nb
  omega
theorem nb_dg (a : Nat → Int) (ha : In 256 17 a) (j : Nat) (hj : j < 17) : a j = dg 8 (nb a) j := dg_of_val 8 17 256 (by decide) a ha j hj

structure DI (a : Nat → Int) (w : World) (k : Nat) (w' : World) : Prop where
  ha : Has w' w.heap.size .u8 17 a
  ht : Has w' (w.heap.size + 1) .i64 6 (dg 26 (nb a % 2 ^ k))
  fr : Fr w 2 w'
/-- A bit of a number, as the text takes it from a byte. -/
theorem bit8 (a : Nat → Int) (ha : In 256 17 a) (k : Nat) (hk : k < 136) : a (k / 8) / 2 ^ (k % 8) % 2 = ((nb a / 2 ^ k % 2 : Nat) : Int) := by
  rw [nb_dg a ha (k / 8) (by omega), ← bit_dg 8 (nb a) k (by decide)]
  unfold dg
  rw [Int.natCast_emod, Int.natCast_ediv, Int.natCast_pow]
  rfl
theorem dg_up (s A i j : Nat) (hs : 0 < s) (x : Int) (hx : x = dg s (A % 2 ^ i) (i / s) + ((A / 2 ^ i % 2 : Nat) : Int) * ((2 ^ (i % s) : Nat) : Int)) : upd (dg s (A % 2 ^ i)) (i / s) x j = dg s (A % 2 ^ (i + 1)) j := by
  have e := dgN_step s A i j hs
  by_cases c : j = i / s
  · subst c
    rw [upd_same, hx]
    rw [if_pos rfl] at e
    unfold dg
    rw [e, Int.natCast_add, Int.natCast_mul, Int.mul_comm]
  · rw [upd_other _ _ _ _ c]
    rw [if_neg c] at e
    unfold dg
    rw [e, Nat.add_zero]
theorem DI.step {a : Nat → Int} {w : World} {k : Nat} {w' : World} (h : DI a w k w') (hk : k < 136) (x : Int) (hx : x = dg 26 (nb a % 2 ^ k) (k / 26) + ((nb a / 2 ^ k % 2 : Nat) : Int) * ((2 ^ (k % 26) : Nat) : Int)) :
    DI a w (k + 1) ((w'.setCell ⟨w.heap.size + 1, k / 26, none⟩ (.int .i64 x)).drew) :=
  ⟨(h.ha.set_other _ _ (by simp)).drew, (Has.congr (h.ht.set (k / 26) (by omega) x) fun j _ => dg_up 26 (nb a) k j (by decide) x hx).drew, (h.fr.set _ _ (by simp)).drew⟩
theorem and_one8 : ∀ x : Fin 256, bits BinOp.and IntKind.u8 (x.val : Int) 1 = (x.val : Int) % 2 := by decide +kernel
theorem and1 (x : Int) (h : 0 ≤ x ∧ x < 256) : bits BinOp.and IntKind.u8 x 1 = x % 2 := by
  obtain ⟨n, rfl⟩ := Int.eq_ofNat_of_zero_le h.1
  exact and_one8 ⟨n, by omega⟩
theorem shr_in (x : Int) (h : 0 ≤ x ∧ x < 256) (q : Nat) : 0 ≤ x / 2 ^ q ∧ x / 2 ^ q < 256 := by
  obtain ⟨n, rfl⟩ := Int.eq_ofNat_of_zero_le h.1
  have e : (n : Int) / 2 ^ q = ((n / 2 ^ q : Nat) : Int) := by rw [Int.natCast_ediv, Int.natCast_pow]; rfl
  have := Nat.div_le_self n (2 ^ q)
  rw [e]
  generalize n / 2 ^ q = y at *
  omega
/-- What is added to a digit. -/
theorem digit_sum (d : Nat) (hd : d < 2 ^ 26) (x : Int) (h : 0 ≤ x ∧ x < 256) (b : Nat) (q r : Nat) (hb : x / 2 ^ q % 2 = (b : Int)) (hr : r < 26) :
    wrap64 ((d : Int) + wrap64 (wrap64 (bits BinOp.and IntKind.u8 (x / 2 ^ q) 1) * 2 ^ r)) = (d : Int) + (b : Int) * ((2 ^ r : Nat) : Int) := by
  have i := shr_in x h q
  rw [and1 _ i, hb]
  have hb2 : b < 2 := by omega
  have hp : 2 ^ r ≤ 2 ^ 25 := Nat.pow_le_pow_right (by decide) (by omega)
  have e : (2 : Int) ^ r = ((2 ^ r : Nat) : Int) := by rw [Int.natCast_pow]; rfl
  rw [e]
  generalize 2 ^ r = p at *
  have hc : b = 0 ∨ b = 1 := by omega
  unfold wrap64
  rcases hc with rfl | rfl <;> omega

set_option maxRecDepth 10000 in
set_option maxHeartbeats 4000000 in
theorem digits_any (a : Nat → Int) (ha : In 256 17 a) (w : World) :
    Calls Tryd.prog 57 #[(.agg (row .u8 17 (a)).toArray)] w fun e w' => ∃ B : Nat, e = .returned (.slice (some ⟨B, 0, none⟩) 6 6) ∧ (w.heap.size ≤ B ∧ B < w'.heap.size ∧ Has w' B .i64 6 (dg 26 (nb a))) ∧ Below w.heap.size w w' := by
  have hmk := made6
  go_enter Tryd.func57, Tryd.ntmps57
  go_wp2
  go_loopw [4] (fun i w' => ∃ k : Nat, k ≤ 136 ∧ i = .int .i64 k ∧ DI a w k w') (fun i _ => 136 - (intOf i).toNat)
  case atStart => exact ⟨0, by omega, rfl, ⟨(Has.new w _ _ _ _ _ rfl).alloc _ (by simp), (made6_zero _ _ _ (by simp)).congr (fun j _ => (dg_nought 26 (nb a) j).symm), ((Fr.refl w).alloc _).alloc _⟩⟩
  case round =>
    obtain ⟨k, hk, rfl, hI⟩ := hrel
    clear hmk
    by_cases hlt : k < 136
    · have HS := show Hid _ from fun x hx => hI.step hlt x hx
      have c1 := hI.ha.cell (k / 8) (by omega)
      have c2 := hI.ht.cell (k / 26) (by omega)
      have f1 := hI.ht.free (k / 26) (by omega)
      have i1 := ha (k / 8) (by omega)
      have i2 := dgN_lt 26 (nb a % 2 ^ k) (k / 26)
      have hb := bit8 a ha k hlt
      have g1 : (0 : Int) ≤ (k : Int) := by omega
      have g2 : (k : Int) < 136 := by omega
      have g3 : ((k : Int) / 8).toNat = k / 8 := by omega
      have g4 : ((k : Int) / 26).toNat = k / 26 := by omega
      have g5 : ((k : Int) % 8).toNat = k % 8 := by omega
      have g6 : ((k : Int) % 26).toNat = k % 26 := by omega
      have HE := show Hid _ from digit_sum (dgN 26 (nb a % 2 ^ k) (k / 26)) i2 (a (k / 8)) i1 (nb a / 2 ^ k % 2) (k % 8) (k % 26) hb (Nat.mod_lt _ (by decide))
      clear hI hb i2
      generalize a (k / 8) = x at *
      go_wp2
      go_region
      go_wp2
      go_roundw
      case rel => exact ⟨k + 1, by omega, by go_num, HS.out _ HE.out⟩
      case measure => simp [intOf]; omega
    · obtain rfl : k = 136 := by omega
      have hd := hI.ht.congr (g := dg 26 (nb a)) (fun j _ => by rw [Nat.mod_eq_of_lt (nb_lt a ha)])
      go_wp2
      go_ret
      exact ⟨_, rfl, ⟨by omega, by have := hI.fr.size; omega, hd⟩, hI.fr.below⟩
end Go.Proofs.YteclkiabkdaklaaDoor

namespace Go.Proofs.YteclkiabkdaklaaDoor
open Go.RowKit

/-- A digit's bound. -/
abbrev D : Int := 67108864
theorem D5 : D ^ 5 = 1361129467683753853853498429727072845824 := by decide

/-- What stands from the fifth digit on counts five times. -/
def addU (f : Nat → Int) (k : Nat) : Nat → Int := fun j => (if j < k ∧ j < 5 then f j else 0) + (if j + 5 < k then 5 * f (j + 5) else 0)
theorem addU_low (f : Nat → Int) (k : Nat) (hk : k < 5) : ∀ j, upd (addU f k) k (addU f k k + f k) j = addU f (k + 1) j := fun j => by
  unfold upd addU
  by_cases e : j = k
  · subst e
    simp [hk]
    omega
  · rw [if_neg e]
    by_cases c : j < k
    · have c2 : j < k + 1 := by omega
      have c3 : ¬ j + 5 < k := by omega
      have c4 : ¬ j + 5 < k + 1 := by omega
      simp [c, c2, c3, c4]
    · have c2 : ¬ j < k + 1 := by omega
      have c3 : ¬ j + 5 < k := by omega
      have c4 : ¬ j + 5 < k + 1 := by omega
      simp [c, c2, c3, c4]
theorem addU_high (f : Nat → Int) (k : Nat) (hk : 5 ≤ k) : ∀ j, upd (addU f k) (k - 5) (addU f k (k - 5) + 5 * f k) j = addU f (k + 1) j := fun j => by
  unfold upd addU
  by_cases e : j = k - 5
  · subst e
    have c0 : ¬ k - 5 + 5 < k := by omega
    have c1 : k - 5 + 5 < k + 1 := by omega
    have c2 : k - 5 + 5 = k := by omega
    have c3 : k - 5 < k := by omega
    have c4 : k - 5 < k + 1 := by omega
    rw [if_pos rfl, if_neg c0, if_pos c1, c2, Int.add_zero]
    by_cases c5 : k - 5 < 5
    · rw [if_pos ⟨c3, c5⟩, if_pos ⟨c4, c5⟩]
    · rw [if_neg (fun h => c5 h.2), if_neg (fun h => c5 h.2)]
  · rw [if_neg e]
    have c1 : (j < k ∧ j < 5) ↔ (j < k + 1 ∧ j < 5) := by omega
    have c2 : (j + 5 < k) ↔ (j + 5 < k + 1) := by omega
    simp only [c1, c2]
theorem addU_in (f : Nat → Int) (n k : Nat) (M : Int) (hn : 0 < n) (hf : ∀ j, j < n → 0 ≤ f j ∧ f j ≤ M) (hk : k ≤ n) (j : Nat) : 0 ≤ addU f k j ∧ addU f k j ≤ 6 * M := by
  unfold addU
  have hM := hf 0 (by omega)
  by_cases c1 : j < k ∧ j < 5
  · have a := hf j (by omega)
    by_cases c2 : j + 5 < k
    · have b := hf (j + 5) (by omega)
      rw [if_pos c1, if_pos c2]; omega
    · rw [if_pos c1, if_neg c2]; omega
  · by_cases c2 : j + 5 < k
    · have b := hf (j + 5) (by omega)
      rw [if_neg c1, if_pos c2]; omega
    · rw [if_neg c1, if_neg c2]; omega
theorem fold_mod (l h : Int) : (l + 5 * h) % Q = (l + 1361129467683753853853498429727072845824 * h) % Q := by simp only [Q]; omega
theorem addU_val6 (f : Nat → Int) : val D (addU f 6) 5 % Q = val D f 6 % Q := by
  have e : val D (addU f 6) 5 = val D f 5 + 5 * f 5 := by
    simp [val, addU]
    simp only [D]
    omega
  have e2 : val D f 6 = val D f 5 + D ^ 5 * f 5 := rfl
  rw [e, e2, D5, fold_mod]
theorem addU_val11 (f : Nat → Int) : val D (addU f 11) 6 % Q = val D f 11 % Q := by
  have e : val D (addU f 11) 6 = val D f 5 + 5 * val D (fun j => f (5 + j)) 6 := by
    simp [val, addU]
    simp only [D]
    omega
  have e2 := val_split D f 5 6
  rw [show (5 + 6 : Nat) = 11 from rfl, D5] at e2
  rw [e, e2, fold_mod]

/-- The number in a block, as the world has it. -/
def num (B : Nat) (w : World) : Int := val D (fun j => match w.cell? ⟨B, j, none⟩ with | some (.int _ n) => n | _ => 0) 5
theorem num_eq {w : World} {B : Nat} {f : Nat → Int} (h : Has w B .i64 5 f) : num B w = val D f 5 := val_congr D 5 fun j hj => by rw [h.cell j (by omega)]
def mu2 (B : Nat) (r : Value) (w : World) : Nat := 2 * (num B w).toNat + (if 0 < intOf r then 1 else 0)

/-- The digits lie in their block, room for the answer in another. -/
structure RS (f : Nat → Int) (w w' : World) : Prop where
  hd : Has w' (w.heap.size + 1) .i64 5 f
  hr : Has w' w.heap.size .u8 17 (fun _ => 0)
  fr : Fr w 2 w'
theorem RS.set {f : Nat → Int} {w w' : World} (h : RS f w w') (k : Nat) (hk : k < 5) (x : Int) : RS (upd f k x) w (w'.setCell ⟨w.heap.size + 1, k, none⟩ (.int .i64 x)) :=
  ⟨h.hd.set k hk x, h.hr.set_other _ _ (by simp), h.fr.set _ _ (by simp)⟩

/-- Ahead of the while loop's rounds. -/
structure RA (v : Int) (n B : Nat) (f : Nat → Int) (w w' : World) : Prop where
  cs : n = 5 ∨ n = 6 ∨ n = 11
  big : ∀ j, j < n → 0 ≤ f j ∧ f j ≤ (if n = 11 then 72057594037927936 else if n = 6 then 432345564227567616 else 2594073385365405696)
  eq : val D f n % Q = v % Q
  ht : Has w' B .i64 n f
  hB : B < w'.heap.size
  ne : B ≠ w.heap.size ∧ B ≠ w.heap.size + 1
  rs : RS (fun _ => 0) w w'

/-- Behind k rounds of the loop that folds. -/
structure UI (n B U : Nat) (f : Nat → Int) (m k : Nat) (w w' : World) : Prop where
  ht : Has w' B .i64 n f
  hu : Has w' U .i64 m (addU f k)
  hB : B < w'.heap.size
  hU : U < w'.heap.size
  rs : RS (fun _ => 0) w w'
theorem UI.low {n B U : Nat} {f : Nat → Int} {m k : Nat} {w w' : World} (h : UI n B U f m k w w') (hk : k < 5) (hm : 5 ≤ m) (hne : U ≠ B) (hlo : w.heap.size + 2 ≤ U) :
    UI n B U f m (k + 1) w ((w'.setCell ⟨U, k, none⟩ (.int .i64 (addU f k k + f k))).drew) :=
  ⟨(h.ht.set_other _ _ (by simpa using hne)).drew, (Has.congr (h.hu.set k (by omega) _) fun j _ => addU_low f k hk j).drew, by have := h.hB; simpa using this, by have := h.hU; simpa using this, ⟨(h.rs.hd.set_other _ _ (by simp; omega)).drew, (h.rs.hr.set_other _ _ (by simp; omega)).drew, (h.rs.fr.set _ _ (by simp; omega)).drew⟩⟩
theorem UI.high {n B U : Nat} {f : Nat → Int} {m k : Nat} {w w' : World} (h : UI n B U f m k w w') (hk : 5 ≤ k) (hkm : k - 5 < m) (hne : U ≠ B) (hlo : w.heap.size + 2 ≤ U) :
    UI n B U f m (k + 1) w ((w'.setCell ⟨U, k - 5, none⟩ (.int .i64 (addU f k (k - 5) + 5 * f k))).drew) :=
  ⟨(h.ht.set_other _ _ (by simpa using hne)).drew, (Has.congr (h.hu.set (k - 5) hkm _) fun j _ => addU_high f k hk j).drew, by have := h.hB; simpa using this, by have := h.hU; simpa using this, ⟨(h.rs.hd.set_other _ _ (by simp; omega)).drew, (h.rs.hr.set_other _ _ (by simp; omega)).drew, (h.rs.fr.set _ _ (by simp; omega)).drew⟩⟩

/-- Behind k rounds of the loop that copies. -/
structure CI (B : Nat) (f : Nat → Int) (k : Nat) (g : Nat → Int) (w w' : World) : Prop where
  done : ∀ j, j < k → g j = f j
  ht : Has w' B .i64 5 f
  rs : RS g w w'
theorem CI.step {B : Nat} {f : Nat → Int} {k : Nat} {g : Nat → Int} {w w' : World} (h : CI B f k g w w') (hk : k < 5) (ne : B ≠ w.heap.size + 1) : CI B f (k + 1) (upd g k (f k)) w (w'.setCell ⟨w.heap.size + 1, k, none⟩ (.int .i64 (f k))) := by
  refine ⟨fun j hj => ?_, h.ht.set_other _ _ (by simp; omega), h.rs.set k hk _⟩
  by_cases e : j = k
  · subst e; rw [upd_same]
  · rw [upd_other _ _ _ _ e]; exact h.done j (by omega)

structure R2 (v : Int) (r : Int) (f : Nat → Int) (w w' : World) : Prop where
  r0 : 0 ≤ r
  big : ∀ j, j < 5 → 0 ≤ f j ∧ f j ≤ 2594073385365405696
  eq : val D f 5 % Q = v % Q
  inn : r = 0 → In D 5 f
  rs : RS f w w'
structure R3 (f : Nat → Int) (k : Nat) (r : Int) (g : Nat → Int) (w w' : World) : Prop where
  r0 : 0 ≤ r
  r1 : r ≤ 137438953472
  done : ∀ j, j < k → 0 ≤ g j ∧ g j < 67108864
  rest : ∀ j, k ≤ j → g j = f j
  eq : val D g k + D ^ k * r = val D f k
  rs : RS g w w'
theorem R3.step {f : Nat → Int} {k : Nat} {r : Int} {g : Nat → Int} {w w' : World} (h : R3 f k r g w w') (hk : k < 5) (hf : ∀ j, j < 5 → 0 ≤ f j ∧ f j ≤ 2594073385365405696) :
    R3 f (k + 1) ((r + g k) / 67108864) (upd g k ((r + g k) % 67108864)) w (w'.setCell ⟨w.heap.size + 1, k, none⟩ (.int .i64 ((r + g k) % 67108864))) := by
  have r0 := h.r0; have r1 := h.r1
  have e0 := h.rest k (Nat.le_refl k)
  have b := hf k hk
  rw [← e0] at b
  refine ⟨by omega, by omega, fun j hj => ?_, fun j hj => ?_, ?_, h.rs.set k (by omega) _⟩
  · by_cases e : j = k
    · subst e; rw [upd_same]; omega
    · rw [upd_other _ _ _ _ e]; exact h.done j (by omega)
  · rw [upd_other _ _ _ _ (by omega)]; exact h.rest j (by omega)
  · rw [val_succ, val_succ, val_upd _ _ _ _ _ (Nat.le_refl k), upd_same, Int.pow_succ, Int.mul_assoc, ← e0]
    have e1 : D ^ k * ((r + g k) % 67108864) + D ^ k * (D * ((r + g k) / 67108864)) = D ^ k * r + D ^ k * g k := by
      rw [← Int.mul_add, ← Int.mul_add]
      congr 1
      simp only [D]
      omega
    have e2 := h.eq
    omega
theorem R3.next {v : Int} {f : Nat → Int} {r r0 : Int} {g : Nat → Int} {w w0 w' : World} (h : R3 f 5 r g w w') (h2 : R2 v r0 f w w0) :
    R2 v r (upd g 0 (g 0 + 5 * r)) w (w'.setCell ⟨w.heap.size + 1, 0, none⟩ (.int .i64 (g 0 + 5 * r))) := by
  have a0 := h.r0; have a1 := h.r1
  have d0 := h.done 0 (by omega)
  refine ⟨a0, fun j hj => ?_, ?_, fun hr => ?_, h.rs.set 0 (by omega) _⟩
  · by_cases e : j = 0
    · subst e; rw [upd_same]; omega
    · rw [upd_other _ _ _ _ e]; have := h.done j hj; omega
  · rw [val_upd_in D g 0 _ 5 (by omega), ← h2.eq, ← h.eq, D5, Int.pow_zero, Int.one_mul, Int.one_mul]
    simp only [Q]
    omega
  · subst hr
    have e : upd g 0 (g 0 + 5 * 0) = g := by funext j; unfold upd; split <;> simp_all
    rw [e]
    exact fun j hj => h.done j hj
theorem R3.less {v : Int} {f : Nat → Int} {r r0 : Int} {g : Nat → Int} {w w0 w' : World} (h : R3 f 5 r g w w') (h2 : R2 v r0 f w w0) (hr : 0 < r0) :
    mu2 (w.heap.size + 1) (.int .i64 r) (w'.setCell ⟨w.heap.size + 1, 0, none⟩ (.int .i64 (g 0 + 5 * r))) < mu2 (w.heap.size + 1) (.int .i64 r0) w0 := by
  have e := h.eq
  have a0 := h.r0
  have b := val_in D (by decide) g 5 h.done
  have n1 := num_eq (h.next h2).rs.hd
  have n2 := num_eq h2.rs.hd
  rw [val_upd_in D g 0 _ 5 (by omega), Int.pow_zero, Int.one_mul, Int.one_mul] at n1
  rw [D5] at e b
  show 2 * (num _ _).toNat + (if 0 < r then 1 else 0) < 2 * (num _ w0).toNat + (if 0 < r0 then 1 else 0)
  rw [n1, n2, if_pos hr]
  by_cases h0 : r = 0
  · subst h0; rw [if_neg (by omega)]; omega
  · rw [if_pos (by omega)]; omega

theorem v5 (f : Nat → Int) : val D f 5 = f 0 + 67108864 * f 1 + 4503599627370496 * f 2 + 302231454903657293676544 * f 3 + 20282409603651670423947251286016 * f 4 := by
  simp only [val, D]; omega
/-- When the number is at least 2^130 - 5. -/
theorem top_yes {f : Nat → Int} (h0 : 67108859 ≤ f 0) (hf : In D 5 f) (h1 : f 1 = 67108863) (h2 : f 2 = 67108863) (h3 : f 3 = 67108863) (h4 : f 4 = 67108863) : val D f 5 = Q + (f 0 - 67108859) ∧ f 0 - 67108859 < 5 := by
  have := hf 0 (by omega)
  rw [v5, h1, h2, h3, h4]
  simp only [Q, D] at *
  omega
theorem top_no {f : Nat → Int} (hf : In D 5 f) (h : ¬ (67108859 ≤ f 0 ∧ f 1 = 67108863 ∧ f 2 = 67108863 ∧ f 3 = 67108863 ∧ f 4 = 67108863)) : val D f 5 < Q := by
  have i0 := hf 0 (by omega)
  have i1 := hf 1 (by omega)
  have i2 := hf 2 (by omega)
  have i3 := hf 3 (by omega)
  have i4 := hf 4 (by omega)
  rw [v5]
  simp only [Q, D] at *
  generalize f 0 = x0 at *
  generalize f 1 = x1 at *
  generalize f 2 = x2 at *
  generalize f 3 = x3 at *
  generalize f 4 = x4 at *
  omega

/-- Behind k rounds of writing the bits. -/
structure R6 (V : Nat) (k : Nat) (dB O : Nat) (w w' : World) : Prop where
  ho : Has w' O .u8 17 (dg 8 (V % 2 ^ k))
  hg : Has w' dB .i64 5 (dg 26 V)
  hr : Has w' w.heap.size .u8 17 (fun _ => 0)
  fr : Fr w 2 w'
theorem R6.step {V k dB O : Nat} {w w' : World} (h : R6 V k dB O w w') (hk : k < 130) (hO : w.heap.size < O) (hne : O ≠ dB) (x : Int) (hx : x = dg 8 (V % 2 ^ k) (k / 8) + ((V / 2 ^ k % 2 : Nat) : Int) * ((2 ^ (k % 8) : Nat) : Int)) :
    R6 V (k + 1) dB O w ((w'.setCell ⟨O, k / 8, none⟩ (.int .u8 x)).drew) :=
  ⟨(Has.congr (h.ho.set (k / 8) (by omega) x) fun j _ => dg_up 8 V k j (by decide) x hx).drew, (h.hg.set_other _ _ (by simpa using hne)).drew, (h.hr.set_other _ _ (by simp; omega)).drew, (h.fr.set _ _ (by simp; omega)).drew⟩
end Go.Proofs.YteclkiabkdaklaaDoor

namespace Go.Proofs.YteclkiabkdaklaaDoor
open Go.RowKit

theorem made5_zero (w : World) (t : TypeId) (b : Nat) (hb : b = w.heap.size) : Has (w.alloc (.cells #[.int .i64 0, .int .i64 0, .int .i64 0, .int .i64 0, .int .i64 0] t)) b .i64 5 (fun _ => 0) := Has.new w .i64 5 (fun _ => 0) t b hb
theorem made5 (w : World) : (Instr.makeSlice 73 (.int .i64 5) (.int .i64 5)).run Tryd.prog w = .ok (.slice (some ⟨w.heap.size, 0, none⟩) 5 5) (w.alloc (.cells #[.int .i64 0, .int .i64 0, .int .i64 0, .int .i64 0, .int .i64 0] 3)) := by kernel_rfl
def oneI (x : Int) : Nat → Int
  | 0 => x
  | _ + 1 => 0
theorem oneI_dg (V : Nat) (h : V < 2 ^ 26) : ∀ j, oneI (V : Int) j = dg 26 V j
  | 0 => by show (V : Int) = ((V / 2 ^ (26 * 0) % 2 ^ 26 : Nat) : Int); rw [Nat.mul_zero, Nat.pow_zero, Nat.div_one, Nat.mod_eq_of_lt h]
  | j + 1 => by
    show (0 : Int) = ((V / 2 ^ (26 * (j + 1)) % 2 ^ 26 : Nat) : Int)
    rw [Nat.div_eq_of_lt (Nat.lt_of_lt_of_le h (Nat.pow_le_pow_right (by decide) (by omega)))]
    rfl
theorem and1_i64 (y : Nat) (h : y < 2 ^ 26) : bits BinOp.and IntKind.i64 (y : Int) 1 = ((y % 2 : Nat) : Int) := by
  show IntKind.i64.wrap ((BitVec.ofInt 64 (y : Int) &&& BitVec.ofInt 64 ((1 : Nat) : Int)).toNat : Int) = _
  rw [BitVec.toNat_and, ofInt_u64 y (by omega), ofInt_u64 1 (by omega), Nat.and_one_is_mod, IntKind.wrap_i64]
  omega
theorem dg_top (s A i : Nat) : dgN s (A % 2 ^ i) (i / s) < 2 ^ (i % s) := by
  have hX : A % 2 ^ i < 2 ^ i := Nat.mod_lt _ (Nat.two_pow_pos i)
  have hi : s * (i / s) + i % s = i := Nat.div_add_mod i s
  unfold dgN
  refine Nat.lt_of_le_of_lt (Nat.mod_le _ _) ?_
  rw [Nat.div_lt_iff_lt_mul (Nat.two_pow_pos _), ← Nat.pow_add, Nat.add_comm, hi]
  exact hX
theorem bit_or (V k : Nat) : bits BinOp.or IntKind.u8 (dg 8 (V % 2 ^ k) (k / 8)) (bits BinOp.and IntKind.i64 (dg 26 V (k / 26) / 2 ^ (k % 26)) 1 % 256 * 2 ^ (k % 8) % 256) = dg 8 (V % 2 ^ k) (k / 8) + ((V / 2 ^ k % 2 : Nat) : Int) * ((2 ^ (k % 8) : Nat) : Int) := by
  have hx := dg_top 8 V k
  have hb := bit_dg 26 V k (by decide)
  have hy := dgN_lt 26 V (k / 26)
  have hp : 2 ^ (k % 8) ≤ 2 ^ 7 := Nat.pow_le_pow_right (by decide) (by omega)
  have e1 : dg 26 V (k / 26) / 2 ^ (k % 26) = ((dgN 26 V (k / 26) / 2 ^ (k % 26) : Nat) : Int) := by
    unfold dg
    rw [Int.natCast_ediv, Int.natCast_pow]
    rfl
  have hq := Nat.div_le_self (dgN 26 V (k / 26)) (2 ^ (k % 26))
  have e3 : (2 : Int) ^ (k % 8) = ((2 ^ (k % 8) : Nat) : Int) := by rw [Int.natCast_pow]; rfl
  have hor := or_add (dgN 8 (V % 2 ^ k) (k / 8)) (V / 2 ^ k % 2) (k % 8) hx
  have hb2 : V / 2 ^ k % 2 < 2 := Nat.mod_lt _ (by decide)
  rw [e1, e3]
  unfold dg
  generalize dgN 8 (V % 2 ^ k) (k / 8) = x at *
  generalize dgN 26 V (k / 26) / 2 ^ (k % 26) = y at *
  generalize dgN 26 V (k / 26) = y0 at *
  generalize V / 2 ^ k % 2 = b at *
  generalize 2 ^ (k % 8) = p at *
  have e2 : bits BinOp.and IntKind.i64 (y : Int) 1 = (b : Int) := by rw [and1_i64 y (by omega), hb]
  rw [e2]
  have hc : b = 0 ∨ b = 1 := by omega
  have e4 : (b : Int) % 256 * (p : Int) % 256 = ((p * b : Nat) : Int) := by rcases hc with rfl | rfl <;> simp <;> omega
  have hpb : p * b < 256 := by rcases hc with rfl | rfl <;> omega
  rw [e4, u8_or_nat x (p * b) (by omega) hpb, hor, Int.natCast_add, Int.natCast_mul, Int.mul_comm (p : Int)]
/-- How long a slice is. -/
def lenV : Value → Nat
  | .slice _ l _ => l
  | _ => 0

set_option maxRecDepth 20000 in
set_option maxHeartbeats 16000000 in
theorem reduce_any (n B : Nat) (f : Nat → Int) (w : World) (hn : n = 6 ∨ n = 11) (hf : ∀ j, j < n → 0 ≤ f j ∧ f j ≤ 72057594037927936) (hB : B < w.heap.size) (ht : Has w B .i64 n f) :
    Calls Tryd.prog 58 #[.slice (some ⟨B, 0, none⟩) n n] w fun e w' => ∃ g : Nat → Int, e = .returned (.agg (row .u8 17 (g)).toArray) ∧ (In 256 17 g ∧ val 256 g 17 = val D f n % Q) ∧ Below w.heap.size w w' := by
  have h0 : RA (val D f n) n B f w ((w.alloc (.cells #[.int .u8 0, .int .u8 0, .int .u8 0, .int .u8 0, .int .u8 0, .int .u8 0, .int .u8 0, .int .u8 0, .int .u8 0, .int .u8 0, .int .u8 0, .int .u8 0, .int .u8 0, .int .u8 0, .int .u8 0, .int .u8 0, .int .u8 0] 63)).alloc (.cells #[.int .i64 0, .int .i64 0, .int .i64 0, .int .i64 0, .int .i64 0] 3)) :=
    ⟨by omega, fun j hj => by have := hf j hj; rcases hn with rfl | rfl <;> simp <;> omega, rfl, (ht.alloc _ hB).alloc _ (by simp; omega), by simp; omega, by omega, ⟨made5_zero _ _ _ (by simp), (big_zero _ _ _ rfl).alloc _ (by simp), ((Fr.refl w).alloc _).alloc _⟩⟩
  have hm5 := made5
  have hm6 := made6
  clear ht hf hn hB
  go_enter Tryd.func58, Tryd.ntmps58
  go_wp2
  go_loopw [0] (fun t w' => ∃ (n' B' : Nat) (f' : Nat → Int), t = .slice (some ⟨B', 0, none⟩) n' n' ∧ RA (val D f n) n' B' f' w w') (fun t _ => lenV t)
  case atStart => exact ⟨n, B, f, rfl, h0⟩
  case round =>
    obtain ⟨n', B', f', rfl, hI⟩ := hrel
    clear h0
    by_cases h11 : n' = 11
    · subst h11
      have g0 : B' < wr.heap.size := hI.hB
      obtain ⟨wo, rfl⟩ : ∃ wo : World, wo = wr := ⟨_, rfl⟩
      have hbig : ∀ j, j < 11 → 0 ≤ f' j ∧ f' j ≤ 72057594037927936 := hI.big
      have hU0 : UI 11 B' wo.heap.size f' 6 0 w (wo.alloc (.cells #[.int .i64 0, .int .i64 0, .int .i64 0, .int .i64 0, .int .i64 0, .int .i64 0] 3)) :=
        ⟨hI.ht.alloc _ g0, (made6_zero _ _ _ rfl).congr (fun j _ => by unfold addU; simp), by simp; omega, by simp, ⟨hI.rs.hd.alloc _ (by have := hI.rs.fr.size; omega), hI.rs.hr.alloc _ (by have := hI.rs.fr.size; omega), ⟨(hI.rs.fr.alloc _).below, by have := hI.rs.fr.size; simp; omega⟩⟩⟩
      have heq : val D (addU f' 11) 6 % Q = val D f n % Q := (addU_val11 f').trans hI.eq
      have hlo : w.heap.size + 2 ≤ wo.heap.size := hI.rs.fr.size
      have hne : wo.heap.size ≠ B' := by omega
      have HQ := show Hid _ from heq
      have HB := show Hid _ from hbig
      clear hI heq hbig
      go_wp2
      generalize wo.alloc (.cells #[.int .i64 0, .int .i64 0, .int .i64 0, .int .i64 0, .int .i64 0, .int .i64 0] 3) = w2 at *
      generalize wo.heap.size = U at *
      go_loopw [5] (fun i w' => ∃ k : Nat, k ≤ 11 ∧ i = .int .i64 k ∧ UI 11 B' U f' 6 k w w') (fun i _ => 11 - (intOf i).toNat)
      case atStart => exact ⟨0, by omega, rfl, hU0⟩
      case round =>
        obtain ⟨k, hk, rfl, hI⟩ := hrel
        clear hU0
        by_cases hlt : k < 11
        · have b1 := HB.out k hlt
          have g1 : (0 : Int) ≤ (k : Int) := by omega
          have g2 : (k : Int) < 11 := by omega
          have c1 := hI.ht.cell k hlt
          by_cases hlo5 : k < 5
          · have HS := show Hid _ from hI.low hlo5 (by omega) hne hlo
            have b2 := addU_in f' 11 k 72057594037927936 (by omega) HB.out (by omega) k
            have c2 := hI.hu.cell k (by omega)
            have f1 := hI.hu.free k (by omega)
            have g3 : (k : Int) < 5 := by omega
            have g4 : (k : Int) < 6 := by omega
            clear hI
            generalize addU f' k k = x at *
            generalize f' k = y at *
            obtain ⟨x0, x1⟩ := b2
            obtain ⟨y0, y1⟩ := b1
            go_wp2
            go_region
            go_wp2
            go_roundw
            case rel => exact ⟨k + 1, by omega, by go_num, HS.out⟩
            case measure => simp [intOf]; omega
          · have HS := show Hid _ from hI.high (by omega) (by omega) hne hlo
            have b2 := addU_in f' 11 k 72057594037927936 (by omega) HB.out (by omega) (k - 5)
            have c2 := hI.hu.cell (k - 5) (by omega)
            have f1 := hI.hu.free (k - 5) (by omega)
            have g3 : ¬ (k : Int) < 5 := by omega
            have g4 : (k : Int) - 5 < 6 := by omega
            have g5 : (0 : Int) ≤ (k : Int) - 5 := by omega
            have g6 : ((k : Int) - 5).toNat = k - 5 := by omega
            clear hI
            generalize addU f' k (k - 5) = x at *
            generalize f' k = y at *
            obtain ⟨x0, x1⟩ := b2
            obtain ⟨y0, y1⟩ := b1
            go_wp2
            go_region
            go_wp2
            go_roundw
            case rel => exact ⟨k + 1, by omega, by go_num, HS.out⟩
            case measure => simp [intOf]; omega
        · obtain rfl : k = 11 := by omega
          have HN := show Hid (RA (val D f n) 6 U (addU f' 11) w wr) from ⟨by omega, fun j _ => by have := addU_in f' 11 11 72057594037927936 (by omega) HB.out (Nat.le_refl _) j; simp; omega, HQ.out, hI.hu, hI.hU, by omega, hI.rs⟩
          clear hI hlt hk
          go_wp2
          go_roundw
          case rel => exact ⟨6, U, _, rfl, HN.out⟩
          case measure => simp [lenV]
    · by_cases h6 : n' = 6
      · subst h6
        clear h11
        have g0 : B' < wr.heap.size := hI.hB
        obtain ⟨wo, rfl⟩ : ∃ wo : World, wo = wr := ⟨_, rfl⟩
        have hbig : ∀ j, j < 6 → 0 ≤ f' j ∧ f' j ≤ 432345564227567616 := hI.big
        have hU0 : UI 6 B' wo.heap.size f' 5 0 w (wo.alloc (.cells #[.int .i64 0, .int .i64 0, .int .i64 0, .int .i64 0, .int .i64 0] 3)) :=
          ⟨hI.ht.alloc _ g0, (made5_zero _ _ _ rfl).congr (fun j _ => by unfold addU; simp), by simp; omega, by simp, ⟨hI.rs.hd.alloc _ (by have := hI.rs.fr.size; omega), hI.rs.hr.alloc _ (by have := hI.rs.fr.size; omega), ⟨(hI.rs.fr.alloc _).below, by have := hI.rs.fr.size; simp; omega⟩⟩⟩
        have heq : val D (addU f' 6) 5 % Q = val D f n % Q := (addU_val6 f').trans hI.eq
        have hlo : w.heap.size + 2 ≤ wo.heap.size := hI.rs.fr.size
        have hne : wo.heap.size ≠ B' := by omega
        have HQ := show Hid _ from heq
        have HB := show Hid _ from hbig
        clear hI heq hbig
        go_wp2
        generalize wo.alloc (.cells #[.int .i64 0, .int .i64 0, .int .i64 0, .int .i64 0, .int .i64 0] 3) = w2 at *
        generalize wo.heap.size = U at *
        go_loopw [5] (fun i w' => ∃ k : Nat, k ≤ 6 ∧ i = .int .i64 k ∧ UI 6 B' U f' 5 k w w') (fun i _ => 6 - (intOf i).toNat)
        case atStart => exact ⟨0, by omega, rfl, hU0⟩
        case round =>
          obtain ⟨k, hk, rfl, hI⟩ := hrel
          clear hU0
          by_cases hlt : k < 6
          · have b1 := HB.out k hlt
            have g1 : (0 : Int) ≤ (k : Int) := by omega
            have g2 : (k : Int) < 6 := by omega
            have c1 := hI.ht.cell k hlt
            by_cases hlo5 : k < 5
            · have HS := show Hid _ from hI.low hlo5 (by omega) hne hlo
              have b2 := addU_in f' 6 k 432345564227567616 (by omega) HB.out (by omega) k
              have c2 := hI.hu.cell k (by omega)
              have f1 := hI.hu.free k (by omega)
              have g3 : (k : Int) < 5 := by omega
              have g4 : (k : Int) < 5 := by omega
              clear hI
              generalize addU f' k k = x at *
              generalize f' k = y at *
              obtain ⟨x0, x1⟩ := b2
              obtain ⟨y0, y1⟩ := b1
              go_wp2
              go_region
              go_wp2
              go_roundw
              case rel => exact ⟨k + 1, by omega, by go_num, HS.out⟩
              case measure => simp [intOf]; omega
            · have HS := show Hid _ from hI.high (by omega) (by omega) hne hlo
              have b2 := addU_in f' 6 k 432345564227567616 (by omega) HB.out (by omega) (k - 5)
              have c2 := hI.hu.cell (k - 5) (by omega)
              have f1 := hI.hu.free (k - 5) (by omega)
              have g3 : ¬ (k : Int) < 5 := by omega
              have g4 : (k : Int) - 5 < 5 := by omega
              have g5 : (0 : Int) ≤ (k : Int) - 5 := by omega
              have g6 : ((k : Int) - 5).toNat = k - 5 := by omega
              clear hI
              generalize addU f' k (k - 5) = x at *
              generalize f' k = y at *
              obtain ⟨x0, x1⟩ := b2
              obtain ⟨y0, y1⟩ := b1
              go_wp2
              go_region
              go_wp2
              go_roundw
              case rel => exact ⟨k + 1, by omega, by go_num, HS.out⟩
              case measure => simp [intOf]; omega
          · obtain rfl : k = 6 := by omega
            have HN := show Hid (RA (val D f n) 5 U (addU f' 6) w wr) from ⟨by omega, fun j _ => by have := addU_in f' 6 6 432345564227567616 (by omega) HB.out (Nat.le_refl _) j; simp; omega, HQ.out, hI.hu, hI.hU, by omega, hI.rs⟩
            clear hI hlt hk
            go_wp2
            go_roundw
            case rel => exact ⟨5, U, _, rfl, HN.out⟩
            case measure => simp [lenV]
      · obtain rfl : n' = 5 := by have := hI.cs; omega
        clear h11 h6 hm5 hm6
        have hne := hI.ne.2
        have hC : CI B' f' 0 (fun _ => 0) w wr := ⟨fun j hj => by omega, hI.ht, hI.rs⟩
        have hbig : ∀ j, j < 5 → 0 ≤ f' j ∧ f' j ≤ 2594073385365405696 := hI.big
        have HB := show Hid _ from hbig
        have HQ := show Hid _ from hI.eq
        clear hI hbig
        go_wp2
        obtain ⟨w1, rfl⟩ : ∃ w1 : World, w1 = wr := ⟨_, rfl⟩
        go_loopw [6] (fun i w' => ∃ (k : Nat) (g : Nat → Int), k ≤ 5 ∧ i = .int .i64 k ∧ CI B' f' k g w w') (fun i _ => 5 - (intOf i).toNat)
        case atStart => exact ⟨0, _, by omega, rfl, hC⟩
        case round =>
          obtain ⟨k, g, hk, rfl, hI⟩ := hrel
          clear hC
          by_cases hlt : k < 5
          · have HS := show Hid _ from hI.step hlt hne
            have c1 := hI.ht.cell k hlt
            have c2 := hI.rs.hd.cell k hlt
            have f1 := hI.rs.hd.free k hlt
            have g1 : (0 : Int) ≤ (k : Int) := by omega
            have g2 : (k : Int) < 5 := by omega
            clear hI
            generalize g k = x at *
            generalize f' k = y at *
            go_wp2
            go_roundw
            case rel => exact ⟨k + 1, _, by omega, by go_num, HS.out⟩
            case measure => simp [intOf]; omega
          · obtain rfl : k = 5 := by omega
            have h2 : R2 (val D f n) 1 g w wr := ⟨by decide, fun j hj => by rw [hI.done j hj]; exact HB.out j hj, by rw [val_congr D 5 (f := g) (g := f') (fun j hj => hI.done j hj)]; exact HQ.out, fun h => (by cases h), hI.rs⟩
            clear hI hlt hk HB HQ
            go_wp2
            obtain ⟨w2, rfl⟩ : ∃ w2 : World, w2 = wr := ⟨_, rfl⟩
            go_loopw [7] (fun r w' => ∃ (rv : Int) (f2 : Nat → Int), r = .int .i64 rv ∧ R2 (val D f n) rv f2 w w') (fun r w' => mu2 (w.heap.size + 1) r w')
            case atStart => exact ⟨1, _, rfl, h2⟩
            case round =>
              obtain ⟨rv, f2, rfl, hI⟩ := hrel
              clear h2
              by_cases hpos : 0 < rv
              · obtain ⟨w3, rfl⟩ : ∃ w3 : World, w3 = wr := ⟨_, rfl⟩
                have q1 : rv > 0 := hpos
                go_wp2
                go_loopw [7, 8] (fun r i w' => ∃ (k : Nat) (rk : Int) (g : Nat → Int), k ≤ 5 ∧ i = .int .i64 k ∧ r = .int .i64 rk ∧ R3 f2 k rk g w w') (fun _ i _ => 5 - (intOf i).toNat)
                case atStart => exact ⟨0, 0, f2, by omega, rfl, rfl, ⟨by omega, by omega, fun j hj => by omega, fun _ _ => rfl, by simp [val], hI.rs⟩⟩
                case round =>
                  obtain ⟨k, rk, g, hk, rfl, rfl, h3⟩ := hrel
                  by_cases hlt : k < 5
                  · have HS := show Hid _ from h3.step hlt hI.big
                    have c1 := h3.rs.hd.cell k (by omega)
                    have f1 := h3.rs.hd.free k (by omega)
                    have a0 := h3.r0
                    have a1 := h3.r1
                    have i1 : 0 ≤ g k ∧ g k ≤ 2594073385365405696 := by rw [h3.rest k (Nat.le_refl k)]; exact hI.big k hlt
                    have g1 : (0 : Int) ≤ (k : Int) := by omega
                    have g2 : (k : Int) < 5 := by omega
                    have HI := show Hid _ from hI
                    clear h3 hI
                    generalize g k = x at *
                    obtain ⟨x0, x1⟩ := i1
                    go_wp2
                    go_roundw
                    case rel => exact ⟨k + 1, _, _, by omega, by go_num, rfl, HS.out⟩
                    case measure => simp [intOf]; omega
                  · obtain rfl : k = 5 := by omega
                    have HN := show Hid _ from h3.next hI
                    have HL := show Hid _ from h3.less hI hpos
                    have c1 := h3.rs.hd.cell 0 (by omega)
                    have f1 := h3.rs.hd.free 0 (by omega)
                    have a0 := h3.r0
                    have a1 := h3.r1
                    have i1 := h3.done 0 (by omega)
                    clear h3 hI hlt hk
                    generalize g 0 = x at *
                    obtain ⟨x0, x1⟩ := i1
                    go_wp2
                    go_roundw
                    case rel => exact ⟨rk, _, rfl, HN.out⟩
                    case measure => exact HL.out
              · obtain rfl : rv = 0 := by have := hI.r0; omega
                have hin := hI.inn rfl
                have c0 := hI.rs.hd.cell 0 (by omega)
                have c1 := hI.rs.hd.cell 1 (by omega)
                have c2 := hI.rs.hd.cell 2 (by omega)
                have c3 := hI.rs.hd.cell 3 (by omega)
                have c4 := hI.rs.hd.cell 4 (by omega)
                have i0 := hin 0 (by omega)
                by_cases hy : 67108859 ≤ f2 0 ∧ f2 1 = 67108863 ∧ f2 2 = 67108863 ∧ f2 3 = 67108863 ∧ f2 4 = 67108863
                · obtain ⟨y0, y1, y2, y3, y4⟩ := hy
                  obtain ⟨t1, t2⟩ := top_yes y0 hin y1 y2 y3 y4
                  rw [y1] at c1
                  rw [y2] at c2
                  rw [y3] at c3
                  rw [y4] at c4
                  clear hpos
                  have i01 : f2 0 < 67108864 := i0.2
                  clear i0
                  have hz := hI.rs.hr.alloc (.cells #[.int .i64 (f2 0 - 67108859), .int .i64 0, .int .i64 0, .int .i64 0, .int .i64 0] 3) (by have := hI.rs.fr.size; omega)
                  have hF : Fr w 2 (wr.alloc (.cells #[.int .i64 (f2 0 - 67108859), .int .i64 0, .int .i64 0, .int .i64 0, .int .i64 0] 3)) := ⟨(hI.rs.fr.alloc _).below, by have := hI.rs.fr.size; simp; omega⟩
                  have hdB : wr.heap.size < (wr.alloc (.cells #[.int .i64 (f2 0 - 67108859), .int .i64 0, .int .i64 0, .int .i64 0, .int .i64 0] 3)).heap.size := by simp
                  obtain ⟨V, hVe⟩ := Int.eq_ofNat_of_zero_le (show 0 ≤ f2 0 - 67108859 by omega)
                  have hG : Has (wr.alloc (.cells #[.int .i64 (f2 0 - 67108859), .int .i64 0, .int .i64 0, .int .i64 0, .int .i64 0] 3)) wr.heap.size .i64 5 (dg 26 V) := (Has.new wr .i64 5 (oneI (f2 0 - 67108859)) 3 _ rfl).congr (fun j _ => by rw [hVe]; exact oneI_dg V (by omega) j)
                  have hV : V < 2 ^ 130 ∧ (V : Int) = val D f n % Q := ⟨by omega, by have e := hI.eq; rw [t1] at e; rw [← e]; simp only [Q]; omega⟩
                  clear hin hI t1 t2 y1 y2 y3 y4 hVe
                  go_upto_region 27 with fail
                  clear c0 c1 c2 c3 c4 y0 i01
                  generalize wr.alloc (.cells #[.int .i64 (f2 0 - 67108859), .int .i64 0, .int .i64 0, .int .i64 0, .int .i64 0] 3) = wz at *
                  generalize wr.heap.size = dB at *
                  have o0 := big_zero wz 63 wz.heap.size rfl
                  have hO : w.heap.size < wz.heap.size := by have := hF.size; omega
                  have hne2 : wz.heap.size ≠ dB := by omega
                  have r0 : R6 V 0 (dB) wz.heap.size w ((wz.alloc (.cells #[.int .u8 0, .int .u8 0, .int .u8 0, .int .u8 0, .int .u8 0, .int .u8 0, .int .u8 0, .int .u8 0, .int .u8 0, .int .u8 0, .int .u8 0, .int .u8 0, .int .u8 0, .int .u8 0, .int .u8 0, .int .u8 0, .int .u8 0] 63)).setCells wz.heap.size 0 (row .u8 17 (fun _ => 0))) :=
                    ⟨(Has.all o0.there .u8 (fun _ => 0)).congr (fun j _ => (dg_nought 8 V j).symm), (hG.alloc _ (by omega)).setAll_other _ hne2 0 _, (hz.alloc _ (by omega)).setAll_other _ (by omega) 0 _, ⟨below_setAll (hF.alloc _).below _ (by omega) 0 _, by rw [size_setAll]; have := hF.size; simp; omega⟩⟩
                  have tok : True := trivial
                  clear hz hG hF
                  go_wp2_with (have _t := tok; refine wpList_store_mid rfl 63 _ _ rfl (wz.heap.size) 0 (row .u8 17 (fun _ => 0)).toArray rfl rfl (big_there (o0)) (big_info' _) (all_oneCell_toArray (row_one _ _ _)) ?_; clear tok)
                  generalize ((wz.alloc (.cells #[.int .u8 0, .int .u8 0, .int .u8 0, .int .u8 0, .int .u8 0, .int .u8 0, .int .u8 0, .int .u8 0, .int .u8 0, .int .u8 0, .int .u8 0, .int .u8 0, .int .u8 0, .int .u8 0, .int .u8 0, .int .u8 0, .int .u8 0] 63)).setCells wz.heap.size 0 (row .u8 17 (fun _ => 0))) = wo at *
                  clear o0
                  generalize wz.heap.size = O at *
                  go_loopw [10] (fun i w' => ∃ k : Nat, k ≤ 130 ∧ i = .int .i64 k ∧ R6 V k (dB) O w w') (fun i _ => 130 - (intOf i).toNat)
                  case atStart => exact ⟨0, by omega, rfl, r0⟩
                  case round =>
                    obtain ⟨k, hk, rfl, hI⟩ := hrel
                    clear r0
                    by_cases hlt : k < 130
                    · have HS := show Hid _ from fun x hx => hI.step hlt hO hne2 x hx
                      have d1 := hI.ho.cell (k / 8) (by omega)
                      have e1 := hI.ho.free (k / 8) (by omega)
                      have d2 := hI.hg.cell (k / 26) (by omega)
                      have HE := show Hid _ from bit_or V k
                      have g1 : (0 : Int) ≤ (k : Int) := by omega
                      have g2 : (k : Int) < 130 := by omega
                      have g3 : ((k : Int) / 8).toNat = k / 8 := by omega
                      have g4 : ((k : Int) / 26).toNat = k / 26 := by omega
                      have g5 : ((k : Int) % 8).toNat = k % 8 := by omega
                      have g6 : ((k : Int) % 26).toNat = k % 26 := by omega
                      clear hI
                      generalize dg 8 (V % 2 ^ k) (k / 8) = x at *
                      generalize dg 26 V (k / 26) = y at *
                      go_wp2
                      go_region
                      go_wp2
                      go_roundw
                      case rel => exact ⟨k + 1, by omega, by go_num, HS.out _ HE.out⟩
                      case measure => simp [intOf]; omega
                    · obtain rfl : k = 130 := by omega
                      have ho := hI.ho.congr (g := dg 8 V) (fun j _ => by rw [Nat.mod_eq_of_lt hV.1])
                      have hz := hI.hr
                      have hE : In 256 17 (dg 8 V) ∧ val 256 (dg 8 V) 17 = val D f n % Q := ⟨dg_in 8 V 17 256 (by decide), by rw [val_dgs 8 V 256 (by decide) 17, Nat.mod_eq_of_lt (Nat.lt_of_lt_of_le hV.1 (Nat.pow_le_pow_right (by decide) (by decide)))]; exact hV.2⟩
                      have HE := show Hid _ from hE
                      have hW := below_setAll hI.fr.below w.heap.size (Nat.le_refl _) 0 (row .u8 17 (dg 8 V))
                      clear hE hlt hk hI
                      generalize dg 8 V = g at *
                      go_wp2_with (first | (refine wpList_load_mid rfl 63 _ rfl (O) 0 rfl (row .u8 17 (g)) _ (Has.range (ho)) Tryd.underlying63 rfl (big_info _) ?_) | (refine wpList_store_mid rfl 63 _ _ rfl (w.heap.size) 0 (row .u8 17 (g)).toArray rfl rfl (big_there (hz)) (big_info' _) (all_oneCell_toArray (row_one _ _ _)) ?_))
                      exact bodyPost_ret (v := (.agg (row .u8 17 (g)).toArray)) (results_row Tryd.results58 rfl (Has.all hz.there .u8 g).range Tryd.underlying63 rfl (big_info g)) rfl ⟨g, rfl, HE.out, hW⟩
                · have hlt2 := top_no hin hy
                  have hpos2 := val_in D (by decide) f2 5 hin
                  obtain ⟨V, hVe⟩ := Int.eq_ofNat_of_zero_le hpos2.1
                  have hV : V < 2 ^ 130 ∧ (V : Int) = val D f n % Q := ⟨by rw [hVe] at hlt2; simp only [Q] at hlt2; omega, by rw [← hI.eq, hVe, Int.emod_eq_of_lt (by omega) (by rw [← hVe]; exact hlt2)]⟩
                  have hG : Has wr (w.heap.size + 1) .i64 5 (dg 26 V) := hI.rs.hd.congr (fun j hj => by rw [dg_of_val 26 5 D (by decide) f2 hin j hj, hVe]; rfl)
                  have hz := hI.rs.hr
                  have hF := hI.rs.fr
                  have hdB : w.heap.size + 1 < wr.heap.size := by have := hF.size; omega
                  clear hI hin hlt2 hpos2 hVe
                  have hcs : f2 4 ≠ 67108863 ∨ (f2 4 = 67108863 ∧ (f2 3 ≠ 67108863 ∨ (f2 3 = 67108863 ∧ (f2 2 ≠ 67108863 ∨ (f2 2 = 67108863 ∧ (f2 1 ≠ 67108863 ∨ (f2 1 = 67108863 ∧ f2 0 < 67108859))))))) := by omega
                  clear hy hpos i0
                  rcases hcs with q | ⟨q4, q | ⟨q3, q | ⟨q2, q | ⟨q1, q⟩⟩⟩⟩
                  · have hq : (f2 4 == 67108863) = false := by simp [q]
                    go_upto_region 27 with fail
                    clear c0 c1 c2 c3 c4 q hq
                    have o0 := big_zero wr 63 wr.heap.size rfl
                    have hO : w.heap.size < wr.heap.size := by have := hF.size; omega
                    have hne2 : wr.heap.size ≠ w.heap.size + 1 := by omega
                    have r0 : R6 V 0 (w.heap.size + 1) wr.heap.size w ((wr.alloc (.cells #[.int .u8 0, .int .u8 0, .int .u8 0, .int .u8 0, .int .u8 0, .int .u8 0, .int .u8 0, .int .u8 0, .int .u8 0, .int .u8 0, .int .u8 0, .int .u8 0, .int .u8 0, .int .u8 0, .int .u8 0, .int .u8 0, .int .u8 0] 63)).setCells wr.heap.size 0 (row .u8 17 (fun _ => 0))) :=
                      ⟨(Has.all o0.there .u8 (fun _ => 0)).congr (fun j _ => (dg_nought 8 V j).symm), (hG.alloc _ (by omega)).setAll_other _ hne2 0 _, (hz.alloc _ (by omega)).setAll_other _ (by omega) 0 _, ⟨below_setAll (hF.alloc _).below _ (by omega) 0 _, by rw [size_setAll]; have := hF.size; simp; omega⟩⟩
                    have tok : True := trivial
                    clear hz hG hF
                    go_wp2_with (have _t := tok; refine wpList_store_mid rfl 63 _ _ rfl (wr.heap.size) 0 (row .u8 17 (fun _ => 0)).toArray rfl rfl (big_there (o0)) (big_info' _) (all_oneCell_toArray (row_one _ _ _)) ?_; clear tok)
                    generalize ((wr.alloc (.cells #[.int .u8 0, .int .u8 0, .int .u8 0, .int .u8 0, .int .u8 0, .int .u8 0, .int .u8 0, .int .u8 0, .int .u8 0, .int .u8 0, .int .u8 0, .int .u8 0, .int .u8 0, .int .u8 0, .int .u8 0, .int .u8 0, .int .u8 0] 63)).setCells wr.heap.size 0 (row .u8 17 (fun _ => 0))) = wo at *
                    clear o0
                    generalize wr.heap.size = O at *
                    go_loopw [10] (fun i w' => ∃ k : Nat, k ≤ 130 ∧ i = .int .i64 k ∧ R6 V k (w.heap.size + 1) O w w') (fun i _ => 130 - (intOf i).toNat)
                    case atStart => exact ⟨0, by omega, rfl, r0⟩
                    case round =>
                      obtain ⟨k, hk, rfl, hI⟩ := hrel
                      clear r0
                      by_cases hlt : k < 130
                      · have HS := show Hid _ from fun x hx => hI.step hlt hO hne2 x hx
                        have d1 := hI.ho.cell (k / 8) (by omega)
                        have e1 := hI.ho.free (k / 8) (by omega)
                        have d2 := hI.hg.cell (k / 26) (by omega)
                        have HE := show Hid _ from bit_or V k
                        have g1 : (0 : Int) ≤ (k : Int) := by omega
                        have g2 : (k : Int) < 130 := by omega
                        have g3 : ((k : Int) / 8).toNat = k / 8 := by omega
                        have g4 : ((k : Int) / 26).toNat = k / 26 := by omega
                        have g5 : ((k : Int) % 8).toNat = k % 8 := by omega
                        have g6 : ((k : Int) % 26).toNat = k % 26 := by omega
                        clear hI
                        generalize dg 8 (V % 2 ^ k) (k / 8) = x at *
                        generalize dg 26 V (k / 26) = y at *
                        go_wp2
                        go_region
                        go_wp2
                        go_roundw
                        case rel => exact ⟨k + 1, by omega, by go_num, HS.out _ HE.out⟩
                        case measure => simp [intOf]; omega
                      · obtain rfl : k = 130 := by omega
                        have ho := hI.ho.congr (g := dg 8 V) (fun j _ => by rw [Nat.mod_eq_of_lt hV.1])
                        have hz := hI.hr
                        have hE : In 256 17 (dg 8 V) ∧ val 256 (dg 8 V) 17 = val D f n % Q := ⟨dg_in 8 V 17 256 (by decide), by rw [val_dgs 8 V 256 (by decide) 17, Nat.mod_eq_of_lt (Nat.lt_of_lt_of_le hV.1 (Nat.pow_le_pow_right (by decide) (by decide)))]; exact hV.2⟩
                        have HE := show Hid _ from hE
                        have hW := below_setAll hI.fr.below w.heap.size (Nat.le_refl _) 0 (row .u8 17 (dg 8 V))
                        clear hE hlt hk hI
                        generalize dg 8 V = g at *
                        go_wp2_with (first | (refine wpList_load_mid rfl 63 _ rfl (O) 0 rfl (row .u8 17 (g)) _ (Has.range (ho)) Tryd.underlying63 rfl (big_info _) ?_) | (refine wpList_store_mid rfl 63 _ _ rfl (w.heap.size) 0 (row .u8 17 (g)).toArray rfl rfl (big_there (hz)) (big_info' _) (all_oneCell_toArray (row_one _ _ _)) ?_))
                        exact bodyPost_ret (v := (.agg (row .u8 17 (g)).toArray)) (results_row Tryd.results58 rfl (Has.all hz.there .u8 g).range Tryd.underlying63 rfl (big_info g)) rfl ⟨g, rfl, HE.out, hW⟩
                  · rw [q4] at c4
                    have hq : (f2 3 == 67108863) = false := by simp [q]
                    go_upto_region 27 with fail
                    clear c0 c1 c2 c3 c4 q hq q4
                    have o0 := big_zero wr 63 wr.heap.size rfl
                    have hO : w.heap.size < wr.heap.size := by have := hF.size; omega
                    have hne2 : wr.heap.size ≠ w.heap.size + 1 := by omega
                    have r0 : R6 V 0 (w.heap.size + 1) wr.heap.size w ((wr.alloc (.cells #[.int .u8 0, .int .u8 0, .int .u8 0, .int .u8 0, .int .u8 0, .int .u8 0, .int .u8 0, .int .u8 0, .int .u8 0, .int .u8 0, .int .u8 0, .int .u8 0, .int .u8 0, .int .u8 0, .int .u8 0, .int .u8 0, .int .u8 0] 63)).setCells wr.heap.size 0 (row .u8 17 (fun _ => 0))) :=
                      ⟨(Has.all o0.there .u8 (fun _ => 0)).congr (fun j _ => (dg_nought 8 V j).symm), (hG.alloc _ (by omega)).setAll_other _ hne2 0 _, (hz.alloc _ (by omega)).setAll_other _ (by omega) 0 _, ⟨below_setAll (hF.alloc _).below _ (by omega) 0 _, by rw [size_setAll]; have := hF.size; simp; omega⟩⟩
                    have tok : True := trivial
                    clear hz hG hF
                    go_wp2_with (have _t := tok; refine wpList_store_mid rfl 63 _ _ rfl (wr.heap.size) 0 (row .u8 17 (fun _ => 0)).toArray rfl rfl (big_there (o0)) (big_info' _) (all_oneCell_toArray (row_one _ _ _)) ?_; clear tok)
                    generalize ((wr.alloc (.cells #[.int .u8 0, .int .u8 0, .int .u8 0, .int .u8 0, .int .u8 0, .int .u8 0, .int .u8 0, .int .u8 0, .int .u8 0, .int .u8 0, .int .u8 0, .int .u8 0, .int .u8 0, .int .u8 0, .int .u8 0, .int .u8 0, .int .u8 0] 63)).setCells wr.heap.size 0 (row .u8 17 (fun _ => 0))) = wo at *
                    clear o0
                    generalize wr.heap.size = O at *
                    go_loopw [10] (fun i w' => ∃ k : Nat, k ≤ 130 ∧ i = .int .i64 k ∧ R6 V k (w.heap.size + 1) O w w') (fun i _ => 130 - (intOf i).toNat)
                    case atStart => exact ⟨0, by omega, rfl, r0⟩
                    case round =>
                      obtain ⟨k, hk, rfl, hI⟩ := hrel
                      clear r0
                      by_cases hlt : k < 130
                      · have HS := show Hid _ from fun x hx => hI.step hlt hO hne2 x hx
                        have d1 := hI.ho.cell (k / 8) (by omega)
                        have e1 := hI.ho.free (k / 8) (by omega)
                        have d2 := hI.hg.cell (k / 26) (by omega)
                        have HE := show Hid _ from bit_or V k
                        have g1 : (0 : Int) ≤ (k : Int) := by omega
                        have g2 : (k : Int) < 130 := by omega
                        have g3 : ((k : Int) / 8).toNat = k / 8 := by omega
                        have g4 : ((k : Int) / 26).toNat = k / 26 := by omega
                        have g5 : ((k : Int) % 8).toNat = k % 8 := by omega
                        have g6 : ((k : Int) % 26).toNat = k % 26 := by omega
                        clear hI
                        generalize dg 8 (V % 2 ^ k) (k / 8) = x at *
                        generalize dg 26 V (k / 26) = y at *
                        go_wp2
                        go_region
                        go_wp2
                        go_roundw
                        case rel => exact ⟨k + 1, by omega, by go_num, HS.out _ HE.out⟩
                        case measure => simp [intOf]; omega
                      · obtain rfl : k = 130 := by omega
                        have ho := hI.ho.congr (g := dg 8 V) (fun j _ => by rw [Nat.mod_eq_of_lt hV.1])
                        have hz := hI.hr
                        have hE : In 256 17 (dg 8 V) ∧ val 256 (dg 8 V) 17 = val D f n % Q := ⟨dg_in 8 V 17 256 (by decide), by rw [val_dgs 8 V 256 (by decide) 17, Nat.mod_eq_of_lt (Nat.lt_of_lt_of_le hV.1 (Nat.pow_le_pow_right (by decide) (by decide)))]; exact hV.2⟩
                        have HE := show Hid _ from hE
                        have hW := below_setAll hI.fr.below w.heap.size (Nat.le_refl _) 0 (row .u8 17 (dg 8 V))
                        clear hE hlt hk hI
                        generalize dg 8 V = g at *
                        go_wp2_with (first | (refine wpList_load_mid rfl 63 _ rfl (O) 0 rfl (row .u8 17 (g)) _ (Has.range (ho)) Tryd.underlying63 rfl (big_info _) ?_) | (refine wpList_store_mid rfl 63 _ _ rfl (w.heap.size) 0 (row .u8 17 (g)).toArray rfl rfl (big_there (hz)) (big_info' _) (all_oneCell_toArray (row_one _ _ _)) ?_))
                        exact bodyPost_ret (v := (.agg (row .u8 17 (g)).toArray)) (results_row Tryd.results58 rfl (Has.all hz.there .u8 g).range Tryd.underlying63 rfl (big_info g)) rfl ⟨g, rfl, HE.out, hW⟩
                  · rw [q4] at c4
                    rw [q3] at c3
                    have hq : (f2 2 == 67108863) = false := by simp [q]
                    go_upto_region 27 with fail
                    clear c0 c1 c2 c3 c4 q hq q4 q3
                    have o0 := big_zero wr 63 wr.heap.size rfl
                    have hO : w.heap.size < wr.heap.size := by have := hF.size; omega
                    have hne2 : wr.heap.size ≠ w.heap.size + 1 := by omega
                    have r0 : R6 V 0 (w.heap.size + 1) wr.heap.size w ((wr.alloc (.cells #[.int .u8 0, .int .u8 0, .int .u8 0, .int .u8 0, .int .u8 0, .int .u8 0, .int .u8 0, .int .u8 0, .int .u8 0, .int .u8 0, .int .u8 0, .int .u8 0, .int .u8 0, .int .u8 0, .int .u8 0, .int .u8 0, .int .u8 0] 63)).setCells wr.heap.size 0 (row .u8 17 (fun _ => 0))) :=
                      ⟨(Has.all o0.there .u8 (fun _ => 0)).congr (fun j _ => (dg_nought 8 V j).symm), (hG.alloc _ (by omega)).setAll_other _ hne2 0 _, (hz.alloc _ (by omega)).setAll_other _ (by omega) 0 _, ⟨below_setAll (hF.alloc _).below _ (by omega) 0 _, by rw [size_setAll]; have := hF.size; simp; omega⟩⟩
                    have tok : True := trivial
                    clear hz hG hF
                    go_wp2_with (have _t := tok; refine wpList_store_mid rfl 63 _ _ rfl (wr.heap.size) 0 (row .u8 17 (fun _ => 0)).toArray rfl rfl (big_there (o0)) (big_info' _) (all_oneCell_toArray (row_one _ _ _)) ?_; clear tok)
                    generalize ((wr.alloc (.cells #[.int .u8 0, .int .u8 0, .int .u8 0, .int .u8 0, .int .u8 0, .int .u8 0, .int .u8 0, .int .u8 0, .int .u8 0, .int .u8 0, .int .u8 0, .int .u8 0, .int .u8 0, .int .u8 0, .int .u8 0, .int .u8 0, .int .u8 0] 63)).setCells wr.heap.size 0 (row .u8 17 (fun _ => 0))) = wo at *
                    clear o0
                    generalize wr.heap.size = O at *
                    go_loopw [10] (fun i w' => ∃ k : Nat, k ≤ 130 ∧ i = .int .i64 k ∧ R6 V k (w.heap.size + 1) O w w') (fun i _ => 130 - (intOf i).toNat)
                    case atStart => exact ⟨0, by omega, rfl, r0⟩
                    case round =>
                      obtain ⟨k, hk, rfl, hI⟩ := hrel
                      clear r0
                      by_cases hlt : k < 130
                      · have HS := show Hid _ from fun x hx => hI.step hlt hO hne2 x hx
                        have d1 := hI.ho.cell (k / 8) (by omega)
                        have e1 := hI.ho.free (k / 8) (by omega)
                        have d2 := hI.hg.cell (k / 26) (by omega)
                        have HE := show Hid _ from bit_or V k
                        have g1 : (0 : Int) ≤ (k : Int) := by omega
                        have g2 : (k : Int) < 130 := by omega
                        have g3 : ((k : Int) / 8).toNat = k / 8 := by omega
                        have g4 : ((k : Int) / 26).toNat = k / 26 := by omega
                        have g5 : ((k : Int) % 8).toNat = k % 8 := by omega
                        have g6 : ((k : Int) % 26).toNat = k % 26 := by omega
                        clear hI
                        generalize dg 8 (V % 2 ^ k) (k / 8) = x at *
                        generalize dg 26 V (k / 26) = y at *
                        go_wp2
                        go_region
                        go_wp2
                        go_roundw
                        case rel => exact ⟨k + 1, by omega, by go_num, HS.out _ HE.out⟩
                        case measure => simp [intOf]; omega
                      · obtain rfl : k = 130 := by omega
                        have ho := hI.ho.congr (g := dg 8 V) (fun j _ => by rw [Nat.mod_eq_of_lt hV.1])
                        have hz := hI.hr
                        have hE : In 256 17 (dg 8 V) ∧ val 256 (dg 8 V) 17 = val D f n % Q := ⟨dg_in 8 V 17 256 (by decide), by rw [val_dgs 8 V 256 (by decide) 17, Nat.mod_eq_of_lt (Nat.lt_of_lt_of_le hV.1 (Nat.pow_le_pow_right (by decide) (by decide)))]; exact hV.2⟩
                        have HE := show Hid _ from hE
                        have hW := below_setAll hI.fr.below w.heap.size (Nat.le_refl _) 0 (row .u8 17 (dg 8 V))
                        clear hE hlt hk hI
                        generalize dg 8 V = g at *
                        go_wp2_with (first | (refine wpList_load_mid rfl 63 _ rfl (O) 0 rfl (row .u8 17 (g)) _ (Has.range (ho)) Tryd.underlying63 rfl (big_info _) ?_) | (refine wpList_store_mid rfl 63 _ _ rfl (w.heap.size) 0 (row .u8 17 (g)).toArray rfl rfl (big_there (hz)) (big_info' _) (all_oneCell_toArray (row_one _ _ _)) ?_))
                        exact bodyPost_ret (v := (.agg (row .u8 17 (g)).toArray)) (results_row Tryd.results58 rfl (Has.all hz.there .u8 g).range Tryd.underlying63 rfl (big_info g)) rfl ⟨g, rfl, HE.out, hW⟩
                  · rw [q4] at c4
                    rw [q3] at c3
                    rw [q2] at c2
                    have hq : (f2 1 == 67108863) = false := by simp [q]
                    go_upto_region 27 with fail
                    clear c0 c1 c2 c3 c4 q hq q4 q3 q2
                    have o0 := big_zero wr 63 wr.heap.size rfl
                    have hO : w.heap.size < wr.heap.size := by have := hF.size; omega
                    have hne2 : wr.heap.size ≠ w.heap.size + 1 := by omega
                    have r0 : R6 V 0 (w.heap.size + 1) wr.heap.size w ((wr.alloc (.cells #[.int .u8 0, .int .u8 0, .int .u8 0, .int .u8 0, .int .u8 0, .int .u8 0, .int .u8 0, .int .u8 0, .int .u8 0, .int .u8 0, .int .u8 0, .int .u8 0, .int .u8 0, .int .u8 0, .int .u8 0, .int .u8 0, .int .u8 0] 63)).setCells wr.heap.size 0 (row .u8 17 (fun _ => 0))) :=
                      ⟨(Has.all o0.there .u8 (fun _ => 0)).congr (fun j _ => (dg_nought 8 V j).symm), (hG.alloc _ (by omega)).setAll_other _ hne2 0 _, (hz.alloc _ (by omega)).setAll_other _ (by omega) 0 _, ⟨below_setAll (hF.alloc _).below _ (by omega) 0 _, by rw [size_setAll]; have := hF.size; simp; omega⟩⟩
                    have tok : True := trivial
                    clear hz hG hF
                    go_wp2_with (have _t := tok; refine wpList_store_mid rfl 63 _ _ rfl (wr.heap.size) 0 (row .u8 17 (fun _ => 0)).toArray rfl rfl (big_there (o0)) (big_info' _) (all_oneCell_toArray (row_one _ _ _)) ?_; clear tok)
                    generalize ((wr.alloc (.cells #[.int .u8 0, .int .u8 0, .int .u8 0, .int .u8 0, .int .u8 0, .int .u8 0, .int .u8 0, .int .u8 0, .int .u8 0, .int .u8 0, .int .u8 0, .int .u8 0, .int .u8 0, .int .u8 0, .int .u8 0, .int .u8 0, .int .u8 0] 63)).setCells wr.heap.size 0 (row .u8 17 (fun _ => 0))) = wo at *
                    clear o0
                    generalize wr.heap.size = O at *
                    go_loopw [10] (fun i w' => ∃ k : Nat, k ≤ 130 ∧ i = .int .i64 k ∧ R6 V k (w.heap.size + 1) O w w') (fun i _ => 130 - (intOf i).toNat)
                    case atStart => exact ⟨0, by omega, rfl, r0⟩
                    case round =>
                      obtain ⟨k, hk, rfl, hI⟩ := hrel
                      clear r0
                      by_cases hlt : k < 130
                      · have HS := show Hid _ from fun x hx => hI.step hlt hO hne2 x hx
                        have d1 := hI.ho.cell (k / 8) (by omega)
                        have e1 := hI.ho.free (k / 8) (by omega)
                        have d2 := hI.hg.cell (k / 26) (by omega)
                        have HE := show Hid _ from bit_or V k
                        have g1 : (0 : Int) ≤ (k : Int) := by omega
                        have g2 : (k : Int) < 130 := by omega
                        have g3 : ((k : Int) / 8).toNat = k / 8 := by omega
                        have g4 : ((k : Int) / 26).toNat = k / 26 := by omega
                        have g5 : ((k : Int) % 8).toNat = k % 8 := by omega
                        have g6 : ((k : Int) % 26).toNat = k % 26 := by omega
                        clear hI
                        generalize dg 8 (V % 2 ^ k) (k / 8) = x at *
                        generalize dg 26 V (k / 26) = y at *
                        go_wp2
                        go_region
                        go_wp2
                        go_roundw
                        case rel => exact ⟨k + 1, by omega, by go_num, HS.out _ HE.out⟩
                        case measure => simp [intOf]; omega
                      · obtain rfl : k = 130 := by omega
                        have ho := hI.ho.congr (g := dg 8 V) (fun j _ => by rw [Nat.mod_eq_of_lt hV.1])
                        have hz := hI.hr
                        have hE : In 256 17 (dg 8 V) ∧ val 256 (dg 8 V) 17 = val D f n % Q := ⟨dg_in 8 V 17 256 (by decide), by rw [val_dgs 8 V 256 (by decide) 17, Nat.mod_eq_of_lt (Nat.lt_of_lt_of_le hV.1 (Nat.pow_le_pow_right (by decide) (by decide)))]; exact hV.2⟩
                        have HE := show Hid _ from hE
                        have hW := below_setAll hI.fr.below w.heap.size (Nat.le_refl _) 0 (row .u8 17 (dg 8 V))
                        clear hE hlt hk hI
                        generalize dg 8 V = g at *
                        go_wp2_with (first | (refine wpList_load_mid rfl 63 _ rfl (O) 0 rfl (row .u8 17 (g)) _ (Has.range (ho)) Tryd.underlying63 rfl (big_info _) ?_) | (refine wpList_store_mid rfl 63 _ _ rfl (w.heap.size) 0 (row .u8 17 (g)).toArray rfl rfl (big_there (hz)) (big_info' _) (all_oneCell_toArray (row_one _ _ _)) ?_))
                        exact bodyPost_ret (v := (.agg (row .u8 17 (g)).toArray)) (results_row Tryd.results58 rfl (Has.all hz.there .u8 g).range Tryd.underlying63 rfl (big_info g)) rfl ⟨g, rfl, HE.out, hW⟩
                  · rw [q4] at c4
                    rw [q3] at c3
                    rw [q2] at c2
                    rw [q1] at c1
                    have hq : ¬ 67108859 ≤ f2 0 := by omega
                    go_upto_region 27 with fail
                    clear c0 c1 c2 c3 c4 q hq q4 q3 q2 q1
                    have o0 := big_zero wr 63 wr.heap.size rfl
                    have hO : w.heap.size < wr.heap.size := by have := hF.size; omega
                    have hne2 : wr.heap.size ≠ w.heap.size + 1 := by omega
                    have r0 : R6 V 0 (w.heap.size + 1) wr.heap.size w ((wr.alloc (.cells #[.int .u8 0, .int .u8 0, .int .u8 0, .int .u8 0, .int .u8 0, .int .u8 0, .int .u8 0, .int .u8 0, .int .u8 0, .int .u8 0, .int .u8 0, .int .u8 0, .int .u8 0, .int .u8 0, .int .u8 0, .int .u8 0, .int .u8 0] 63)).setCells wr.heap.size 0 (row .u8 17 (fun _ => 0))) :=
                      ⟨(Has.all o0.there .u8 (fun _ => 0)).congr (fun j _ => (dg_nought 8 V j).symm), (hG.alloc _ (by omega)).setAll_other _ hne2 0 _, (hz.alloc _ (by omega)).setAll_other _ (by omega) 0 _, ⟨below_setAll (hF.alloc _).below _ (by omega) 0 _, by rw [size_setAll]; have := hF.size; simp; omega⟩⟩
                    have tok : True := trivial
                    clear hz hG hF
                    go_wp2_with (have _t := tok; refine wpList_store_mid rfl 63 _ _ rfl (wr.heap.size) 0 (row .u8 17 (fun _ => 0)).toArray rfl rfl (big_there (o0)) (big_info' _) (all_oneCell_toArray (row_one _ _ _)) ?_; clear tok)
                    generalize ((wr.alloc (.cells #[.int .u8 0, .int .u8 0, .int .u8 0, .int .u8 0, .int .u8 0, .int .u8 0, .int .u8 0, .int .u8 0, .int .u8 0, .int .u8 0, .int .u8 0, .int .u8 0, .int .u8 0, .int .u8 0, .int .u8 0, .int .u8 0, .int .u8 0] 63)).setCells wr.heap.size 0 (row .u8 17 (fun _ => 0))) = wo at *
                    clear o0
                    generalize wr.heap.size = O at *
                    go_loopw [10] (fun i w' => ∃ k : Nat, k ≤ 130 ∧ i = .int .i64 k ∧ R6 V k (w.heap.size + 1) O w w') (fun i _ => 130 - (intOf i).toNat)
                    case atStart => exact ⟨0, by omega, rfl, r0⟩
                    case round =>
                      obtain ⟨k, hk, rfl, hI⟩ := hrel
                      clear r0
                      by_cases hlt : k < 130
                      · have HS := show Hid _ from fun x hx => hI.step hlt hO hne2 x hx
                        have d1 := hI.ho.cell (k / 8) (by omega)
                        have e1 := hI.ho.free (k / 8) (by omega)
                        have d2 := hI.hg.cell (k / 26) (by omega)
                        have HE := show Hid _ from bit_or V k
                        have g1 : (0 : Int) ≤ (k : Int) := by omega
                        have g2 : (k : Int) < 130 := by omega
                        have g3 : ((k : Int) / 8).toNat = k / 8 := by omega
                        have g4 : ((k : Int) / 26).toNat = k / 26 := by omega
                        have g5 : ((k : Int) % 8).toNat = k % 8 := by omega
                        have g6 : ((k : Int) % 26).toNat = k % 26 := by omega
                        clear hI
                        generalize dg 8 (V % 2 ^ k) (k / 8) = x at *
                        generalize dg 26 V (k / 26) = y at *
                        go_wp2
                        go_region
                        go_wp2
                        go_roundw
                        case rel => exact ⟨k + 1, by omega, by go_num, HS.out _ HE.out⟩
                        case measure => simp [intOf]; omega
                      · obtain rfl : k = 130 := by omega
                        have ho := hI.ho.congr (g := dg 8 V) (fun j _ => by rw [Nat.mod_eq_of_lt hV.1])
                        have hz := hI.hr
                        have hE : In 256 17 (dg 8 V) ∧ val 256 (dg 8 V) 17 = val D f n % Q := ⟨dg_in 8 V 17 256 (by decide), by rw [val_dgs 8 V 256 (by decide) 17, Nat.mod_eq_of_lt (Nat.lt_of_lt_of_le hV.1 (Nat.pow_le_pow_right (by decide) (by decide)))]; exact hV.2⟩
                        have HE := show Hid _ from hE
                        have hW := below_setAll hI.fr.below w.heap.size (Nat.le_refl _) 0 (row .u8 17 (dg 8 V))
                        clear hE hlt hk hI
                        generalize dg 8 V = g at *
                        go_wp2_with (first | (refine wpList_load_mid rfl 63 _ rfl (O) 0 rfl (row .u8 17 (g)) _ (Has.range (ho)) Tryd.underlying63 rfl (big_info _) ?_) | (refine wpList_store_mid rfl 63 _ _ rfl (w.heap.size) 0 (row .u8 17 (g)).toArray rfl rfl (big_there (hz)) (big_info' _) (all_oneCell_toArray (row_one _ _ _)) ?_))
                        exact bodyPost_ret (v := (.agg (row .u8 17 (g)).toArray)) (results_row Tryd.results58 rfl (Has.all hz.there .u8 g).range Tryd.underlying63 rfl (big_info g)) rfl ⟨g, rfl, HE.out, hW⟩
end Go.Proofs.YteclkiabkdaklaaDoor

namespace Go.Proofs.YteclkiabkdaklaaDoor
open Go.RowKit

theorem dig_bound (N : Nat) : ∀ j, 0 ≤ dg 26 N j ∧ dg 26 N j < 67108864 := fun j => by
  have := dgN_lt 26 N j
  unfold dg
  omega
theorem dig_val (a : Nat → Int) (ha : In 256 17 a) : val D (dg 26 (nb a)) 6 = val 256 a 17 := by
  rw [val_dgs 26 (nb a) D (by decide) 6, Nat.mod_eq_of_lt (Nat.lt_of_lt_of_le (nb_lt a ha) (Nat.pow_le_pow_right (by decide) (by decide))), nb_val a ha]

set_option maxHeartbeats 2000000 in
theorem refCanon_any (a : Nat → Int) (ha : In 256 17 a) (w : World) :
    Calls Tryd.prog 59 #[(.agg (row .u8 17 (a)).toArray)] w fun e w' => ∃ f : Nat → Int, e = .returned (.agg (row .u8 17 (f)).toArray) ∧ (In 256 17 f ∧ val 256 f 17 = val 256 a 17 % Q) ∧ Below w.heap.size w w' := by
  have a0 : Has ((w.alloc (.cells (row .u8 17 a).toArray 63)).alloc (.cells #[.int .u8 0, .int .u8 0, .int .u8 0, .int .u8 0, .int .u8 0, .int .u8 0, .int .u8 0, .int .u8 0, .int .u8 0, .int .u8 0, .int .u8 0, .int .u8 0, .int .u8 0, .int .u8 0, .int .u8 0, .int .u8 0, .int .u8 0] 63)) w.heap.size .u8 17 a := (Has.new w _ _ _ _ _ rfl).alloc _ (by simp)
  have z0 : Has ((w.alloc (.cells (row .u8 17 a).toArray 63)).alloc (.cells #[.int .u8 0, .int .u8 0, .int .u8 0, .int .u8 0, .int .u8 0, .int .u8 0, .int .u8 0, .int .u8 0, .int .u8 0, .int .u8 0, .int .u8 0, .int .u8 0, .int .u8 0, .int .u8 0, .int .u8 0, .int .u8 0, .int .u8 0] 63)) (w.heap.size + 1) .u8 17 (fun _ => 0) := big_zero _ _ _ (by simp)
  have g0 : Fr w 2 ((w.alloc (.cells (row .u8 17 a).toArray 63)).alloc (.cells #[.int .u8 0, .int .u8 0, .int .u8 0, .int .u8 0, .int .u8 0, .int .u8 0, .int .u8 0, .int .u8 0, .int .u8 0, .int .u8 0, .int .u8 0, .int .u8 0, .int .u8 0, .int .u8 0, .int .u8 0, .int .u8 0, .int .u8 0] 63)) := ((Fr.refl w).alloc _).alloc _
  go_enter Tryd.func59, Tryd.ntmps59
  go_wp2_with (refine wpList_load_mid rfl 63 _ rfl (w.heap.size) 0 rfl (row .u8 17 (a)) _ (Has.range (a0)) Tryd.underlying63 rfl (big_info _) ?_)
  refine (digits_any a ha _).mono ?_
  rintro e w1 ⟨B, rfl, hB, l1⟩
  have g1 := g0.call l1
  have z1 := z0.call g0 l1 (by omega)
  go_wp2_with fail
  refine (reduce_any 6 B (dg 26 (nb a)) _ (Or.inl rfl) (fun j _ => by have := dig_bound (nb a) j; omega) hB.2.1 hB.2.2).mono ?_
  rintro e w2 ⟨f, rfl, s2, l2⟩
  have z2 := z1.call g1 l2 (by omega)
  have hE : In 256 17 f ∧ val 256 f 17 = val 256 a 17 % Q := ⟨s2.1, by rw [s2.2, dig_val a ha]⟩
  have HE := show Hid _ from hE
  have hL := ((g1.call l2).setAll (w.heap.size + 1) (by omega) (row .u8 17 f)).below
  clear hE s2 hB
  go_wp2_with (refine wpList_store_mid rfl 63 _ _ rfl (w.heap.size + 1) 0 (row .u8 17 (f)).toArray rfl rfl (big_there (z2)) (big_info' _) (all_oneCell_toArray (row_one _ _ _)) ?_)
  exact bodyPost_ret (v := (.agg (row .u8 17 (f)).toArray)) (results_row Tryd.results59 rfl (Has.all z2.there .u8 f).range Tryd.underlying63 rfl (big_info f)) rfl ⟨f, rfl, HE.out, hL⟩

/-- Two numbers in variables of the call's own, and room for the answer. -/
structure Two (a b : Nat → Int) (w w' : World) : Prop where
  ha : Has w' w.heap.size .u8 17 a
  hb : Has w' (w.heap.size + 1) .u8 17 b
  hr : w'.there (w.heap.size + 1 + 1) 0 17
  fr : Fr w 3 w'
theorem Two.call {a b : Nat → Int} {w w' w'' : World} (h : Two a b w w') (l : Below w'.heap.size w' w'') : Two a b w w'' :=
  ⟨h.ha.call h.fr l (by omega), h.hb.call h.fr l (by omega), there_below h.hr l (by have := h.fr.size; omega), h.fr.call l⟩
theorem Two.new (a b : Nat → Int) (w : World) : Two a b w (((w.alloc (.cells (row .u8 17 a).toArray 63)).alloc (.cells (row .u8 17 b).toArray 63)).alloc (.cells #[.int .u8 0, .int .u8 0, .int .u8 0, .int .u8 0, .int .u8 0, .int .u8 0, .int .u8 0, .int .u8 0, .int .u8 0, .int .u8 0, .int .u8 0, .int .u8 0, .int .u8 0, .int .u8 0, .int .u8 0, .int .u8 0, .int .u8 0] 63)) :=
  ⟨((Has.new w _ _ _ _ _ rfl).alloc _ (by simp)).alloc _ (by simp; omega), (Has.new _ _ _ _ _ _ (by simp)).alloc _ (by simp), (big_zero _ _ _ (by simp)).there, (((Fr.refl w).alloc _).alloc _).alloc _⟩
theorem big_there' {w : World} {b : Nat} {g : Nat → Int} (h : w.there b 0 17) : w.there b 0 (row .u8 17 g).toArray.size := by rw [List.size_toArray, row_length]; exact h
end Go.Proofs.YteclkiabkdaklaaDoor

namespace Go.Proofs.YteclkiabkdaklaaDoor
open Go.RowKit

/-- The digits of two numbers, the first k added. -/
def addTo (a b : Nat → Int) (k : Nat) : Nat → Int := fun j => if j < k then dg 26 (nb a) j + dg 26 (nb b) j else dg 26 (nb a) j
theorem addTo_step (a b : Nat → Int) (k : Nat) : ∀ j, upd (addTo a b k) k (addTo a b k k + dg 26 (nb b) k) j = addTo a b (k + 1) j := fun j => by
  unfold upd addTo
  by_cases e : j = k
  · subst e; simp
  · rw [if_neg e]
    by_cases h : j < k
    · rw [if_pos h, if_pos (by omega)]
    · rw [if_neg h, if_neg (by omega)]
theorem addTo_bound (a b : Nat → Int) (k j : Nat) : 0 ≤ addTo a b k j ∧ addTo a b k j < 134217728 := by
  have h1 := dig_bound (nb a) j
  have h2 := dig_bound (nb b) j
  unfold addTo
  split <;> omega
theorem addTo_val (a b : Nat → Int) (ha : In 256 17 a) (hb : In 256 17 b) : val D (addTo a b 6) 6 = val 256 a 17 + val 256 b 17 := by
  rw [← dig_val a ha, ← dig_val b hb]
  simp [val, addTo]
  simp only [D]
  omega

structure TU (f g : Nat → Int) (B1 B2 : Nat) (w w' : World) : Prop where
  h1 : Has w' B1 .i64 6 f
  h2 : Has w' B2 .i64 6 g
  hr : w'.there (w.heap.size + 1 + 1) 0 17
  fr : Fr w 3 w'
  hi : B1 < w'.heap.size
theorem TU.set {a b : Nat → Int} {B1 B2 : Nat} {w w' : World} {k : Nat} (h : TU (addTo a b k) (dg 26 (nb b)) B1 B2 w w') (lo : w.heap.size + 3 ≤ B1) (ne : B1 ≠ B2) (hk : k < 6) : TU (addTo a b (k + 1)) (dg 26 (nb b)) B1 B2 w ((w'.setCell ⟨B1, k, none⟩ (.int .i64 (addTo a b k k + dg 26 (nb b) k))).drew) := by
  refine ⟨(Has.congr (h.h1.set k hk _) fun j _ => addTo_step a b k j).drew, (h.h2.set_other _ _ (by simpa using ne)).drew, fun j hj => ?_, (h.fr.set _ _ (by simp; omega)).drew, by have := h.hi; simpa using this⟩
  have hne : (⟨B1, k, none⟩ : Addr) ≠ ⟨w.heap.size + 1 + 1, 0 + j, none⟩ := by intro h'; injection h'; omega
  show ((w'.setCell _ _).cell? _).isSome = true ∧ (w'.setCell _ _).frozen? _ = false
  rw [World.cell?_setCell_other _ _ _ _ hne, World.frozen?_setCell]; exact h.hr j hj

set_option maxRecDepth 10000 in
set_option maxHeartbeats 4000000 in
theorem refAdd_any (a b : Nat → Int) (ha : In 256 17 a) (hb : In 256 17 b) (w : World) :
    Calls Tryd.prog 42 #[(.agg (row .u8 17 (a)).toArray), (.agg (row .u8 17 (b)).toArray)] w fun e w' => ∃ f : Nat → Int, e = .returned (.agg (row .u8 17 (f)).toArray) ∧ (In 256 17 f ∧ val 256 f 17 = (val 256 a 17 + val 256 b 17) % Q) ∧ Below w.heap.size w w' := by
  have t0 := Two.new a b w
  have a0 := t0.ha
  go_enter Tryd.func42, Tryd.ntmps42
  go_wp2_with (refine wpList_load_mid rfl 63 _ rfl (w.heap.size) 0 rfl (row .u8 17 (a)) _ (Has.range (a0)) Tryd.underlying63 rfl (big_info _) ?_)
  refine (digits_any a ha _).mono ?_
  rintro e w1 ⟨B1, rfl, h1, l1⟩
  have t1 := t0.call l1
  have lo1 : w.heap.size + 3 ≤ B1 := by have := h1.1; simp at this; omega
  have b1 := t1.hb
  clear t0 a0 l1
  go_wp2_with (refine wpList_load_mid rfl 63 _ rfl (w.heap.size + 1) 0 rfl (row .u8 17 (b)) _ (Has.range (b1)) Tryd.underlying63 rfl (big_info _) ?_)
  refine (digits_any b hb _).mono ?_
  rintro e w2 ⟨B2, rfl, h2, l2⟩
  have t2 := t1.call l2
  have ne : B1 ≠ B2 := by have := h1.2.1; have := h2.1; omega
  have tu : TU (addTo a b 0) (dg 26 (nb b)) B1 B2 w w2 := ⟨(h1.2.2.below l2 h1.2.1).congr (fun j _ => by unfold addTo; simp), h2.2.2, t2.hr, t2.fr, by have := h1.2.1; have := l2.size; omega⟩
  clear t1 t2 b1 h1 h2 l2
  go_wp2
  go_loopw [7] (fun i w' => ∃ k : Nat, k ≤ 6 ∧ i = .int .i64 k ∧ TU (addTo a b k) (dg 26 (nb b)) B1 B2 w w') (fun i _ => 6 - (intOf i).toNat)
  case atStart => exact ⟨0, by omega, rfl, tu⟩
  case round =>
    obtain ⟨k, hk, rfl, hI⟩ := hrel
    clear tu
    by_cases hlt : k < 6
    · have HS := show Hid _ from hI.set lo1 ne hlt
      have c1 := hI.h1.cell k (by omega)
      have c2 := hI.h2.cell k (by omega)
      have f1 := hI.h1.free k (by omega)
      have i1 := addTo_bound a b k k
      have i2 := dig_bound (nb b) k
      have g1 : (0 : Int) ≤ (k : Int) := by omega
      have g2 : (k : Int) < 6 := by omega
      clear hI
      generalize addTo a b k k = x at *
      generalize dg 26 (nb b) k = y at *
      obtain ⟨x0, x1⟩ := i1
      obtain ⟨y0, y1⟩ := i2
      go_wp2
      go_region
      go_wp2
      go_roundw
      case rel => exact ⟨k + 1, by omega, by go_num, HS.out⟩
      case measure => simp [intOf]; omega
    · obtain rfl : k = 6 := by omega
      clear hlt hk
      go_wp2_with fail
      refine (reduce_any 6 B1 (addTo a b 6) _ (Or.inl rfl) (fun j _ => by have := addTo_bound a b 6 j; omega) hI.hi hI.h1).mono ?_
      rintro e w3 ⟨f, rfl, s3, l3⟩
      have hz := there_below hI.hr l3 (by have := hI.fr.size; omega)
      have hE : In 256 17 f ∧ val 256 f 17 = (val 256 a 17 + val 256 b 17) % Q := ⟨s3.1, by rw [s3.2, addTo_val a b ha hb]⟩
      have HE := show Hid _ from hE
      have hL := ((hI.fr.call l3).setAll (w.heap.size + 1 + 1) (by omega) (row .u8 17 f)).below
      clear hE s3 hI l3
      go_wp2_with (refine wpList_store_mid rfl 63 _ _ rfl (w.heap.size + 1 + 1) 0 (row .u8 17 f).toArray rfl rfl (big_there' hz) (big_info' _) (all_oneCell_toArray (row_one _ _ _)) ?_)
      exact bodyPost_ret (v := (.agg (row .u8 17 (f)).toArray)) (results_row Tryd.results42 rfl (Has.all hz .u8 f).range Tryd.underlying63 rfl (big_info f)) rfl ⟨f, rfl, HE.out, hL⟩
end Go.Proofs.YteclkiabkdaklaaDoor

namespace Go.Proofs.YteclkiabkdaklaaDoor
open Go.RowKit

theorem made11_zero (w : World) (t : TypeId) (b : Nat) (hb : b = w.heap.size) : Has (w.alloc (.cells #[.int .i64 0, .int .i64 0, .int .i64 0, .int .i64 0, .int .i64 0, .int .i64 0, .int .i64 0, .int .i64 0, .int .i64 0, .int .i64 0, .int .i64 0] t)) b .i64 11 (fun _ => 0) := Has.new w .i64 11 (fun _ => 0) t b hb
theorem made11 (w : World) : (Instr.makeSlice 73 (.int .i64 11) (.int .i64 11)).run Tryd.prog w = .ok (.slice (some ⟨w.heap.size, 0, none⟩) 11 11) (w.alloc (.cells #[.int .i64 0, .int .i64 0, .int .i64 0, .int .i64 0, .int .i64 0, .int .i64 0, .int .i64 0, .int .i64 0, .int .i64 0, .int .i64 0, .int .i64 0] 3)) := by kernel_rfl

/-- Behind i rows, and k places of the next one. -/
structure MU (a b : Nat → Int) (i k : Nat) (f : Nat → Int) (B1 B2 B3 : Nat) (w w' : World) : Prop where
  eq : val D f 11 = val D (dg 26 (nb a)) i * val D (dg 26 (nb b)) 6 + D ^ i * dg 26 (nb a) i * val D (dg 26 (nb b)) k
  big : ∀ j, j < 11 → 0 ≤ f j ∧ f j ≤ (i : Int) * 4503599627370496 + (if i ≤ j ∧ j < i + k then 4503599627370496 else 0)
  h1 : Has w' B1 .i64 6 (dg 26 (nb a))
  h2 : Has w' B2 .i64 6 (dg 26 (nb b))
  h3 : Has w' B3 .i64 11 f
  hr : w'.there (w.heap.size + 1 + 1) 0 17
  fr : Fr w 3 w'
  hi : B3 < w'.heap.size

theorem mul_le {x y : Int} (x0 : 0 ≤ x) (x1 : x < 67108864) (y0 : 0 ≤ y) (y1 : y < 67108864) : 0 ≤ x * y ∧ x * y ≤ 4503599493152769 :=
  ⟨Int.mul_nonneg x0 y0, Int.mul_le_mul (show x ≤ 67108863 by omega) (show y ≤ 67108863 by omega) y0 (by omega)⟩

theorem MU.step {a b : Nat → Int} {i k : Nat} {f : Nat → Int} {B1 B2 B3 : Nat} {w w' : World} (h : MU a b i k f B1 B2 B3 w w') (lo : w.heap.size + 3 ≤ B3) (n1 : B3 ≠ B1) (n2 : B3 ≠ B2) (hi : i < 6) (hk : k < 6) :
    MU a b i (k + 1) (upd f (i + k) (f (i + k) + dg 26 (nb a) i * dg 26 (nb b) k)) B1 B2 B3 w ((w'.setCell ⟨B3, i + k, none⟩ (.int .i64 (f (i + k) + dg 26 (nb a) i * dg 26 (nb b) k))).drew) := by
  have da := dig_bound (nb a) i
  have db := dig_bound (nb b) k
  have hp := mul_le da.1 da.2 db.1 db.2
  refine ⟨?_, fun j hj => ?_, (h.h1.set_other _ _ (by simpa using n1)).drew, (h.h2.set_other _ _ (by simpa using n2)).drew, (h.h3.set _ (by omega) _).drew, fun j hj => ?_, (h.fr.set _ _ (by simp; omega)).drew, by have := h.hi; simpa using this⟩
  · rw [val_upd_in D f (i + k) _ 11 (by omega), val_succ D (dg 26 (nb b)) k, h.eq]
    have e1 : D ^ i * dg 26 (nb a) i * (D ^ k * dg 26 (nb b) k) = D ^ (i + k) * (dg 26 (nb a) i * dg 26 (nb b) k) := by rw [Int.pow_add, Int.mul_assoc, Int.mul_left_comm (dg 26 (nb a) i), ← Int.mul_assoc]
    rw [Int.mul_add (D ^ (i + k)), Int.mul_add (D ^ i * dg 26 (nb a) i), e1]
    omega
  · have bj := h.big j hj
    by_cases e : j = i + k
    · subst e
      rw [upd_same]
      rw [if_neg (by omega)] at bj
      rw [if_pos (by omega)]
      omega
    · rw [upd_other _ _ _ _ e]
      by_cases c : i ≤ j ∧ j < i + k
      · rw [if_pos c] at bj; rw [if_pos (by omega)]; exact bj
      · rw [if_neg c] at bj; rw [if_neg (by omega)]; exact bj
  · have hne : (⟨B3, i + k, none⟩ : Addr) ≠ ⟨w.heap.size + 1 + 1, 0 + j, none⟩ := by intro h'; injection h'; omega
    show ((w'.setCell _ _).cell? _).isSome = true ∧ (w'.setCell _ _).frozen? _ = false
    rw [World.cell?_setCell_other _ _ _ _ hne, World.frozen?_setCell]; exact h.hr j hj
theorem MU.next {a b : Nat → Int} {i : Nat} {f : Nat → Int} {B1 B2 B3 : Nat} {w w' : World} (h : MU a b i 6 f B1 B2 B3 w w') : MU a b (i + 1) 0 f B1 B2 B3 w w' := by
  refine ⟨?_, fun j hj => ?_, h.h1, h.h2, h.h3, h.hr, h.fr, h.hi⟩
  · rw [h.eq, val_succ D (dg 26 (nb a)) i, Int.add_mul, show val D (dg 26 (nb b)) 0 = 0 from rfl, Int.mul_zero, Int.add_zero]
  · have bj := h.big j hj
    rw [if_neg (by omega)]
    have e : ((i + 1 : Nat) : Int) * 4503599627370496 = (i : Int) * 4503599627370496 + 4503599627370496 := by omega
    rw [e]
    split at bj <;> omega

set_option maxRecDepth 10000 in
set_option maxHeartbeats 4000000 in
theorem refMul_any (a b : Nat → Int) (ha : In 256 17 a) (hb : In 256 17 b) (w : World) :
    Calls Tryd.prog 41 #[(.agg (row .u8 17 (a)).toArray), (.agg (row .u8 17 (b)).toArray)] w fun e w' => ∃ f : Nat → Int, e = .returned (.agg (row .u8 17 (f)).toArray) ∧ (In 256 17 f ∧ val 256 f 17 = (val 256 a 17 * val 256 b 17) % Q) ∧ Below w.heap.size w w' := by
  have t0 := Two.new a b w
  have a0 := t0.ha
  have hmk := made11
  go_enter Tryd.func41, Tryd.ntmps41
  go_wp2_with (refine wpList_load_mid rfl 63 _ rfl (w.heap.size) 0 rfl (row .u8 17 (a)) _ (Has.range (a0)) Tryd.underlying63 rfl (big_info _) ?_)
  refine (digits_any a ha _).mono ?_
  rintro e w1 ⟨B1, rfl, h1, l1⟩
  have t1 := t0.call l1
  have lo1 : w.heap.size + 3 ≤ B1 := by have := h1.1; simp at this; omega
  have b1 := t1.hb
  clear t0 a0 l1
  go_wp2_with (refine wpList_load_mid rfl 63 _ rfl (w.heap.size + 1) 0 rfl (row .u8 17 (b)) _ (Has.range (b1)) Tryd.underlying63 rfl (big_info _) ?_)
  refine (digits_any b hb _).mono ?_
  rintro e w2 ⟨B2, rfl, h2, l2⟩
  have t2 := t1.call l2
  have x1 := h1.2.2.below l2 h1.2.1
  have hi1 : B1 < w2.heap.size := by have := h1.2.1; have := l2.size; omega
  have hi2 := h2.2.1
  have x2 := h2.2.2
  have mu0 : MU a b 0 0 (fun _ => 0) B1 B2 w2.heap.size w (w2.alloc (.cells #[.int .i64 0, .int .i64 0, .int .i64 0, .int .i64 0, .int .i64 0, .int .i64 0, .int .i64 0, .int .i64 0, .int .i64 0, .int .i64 0, .int .i64 0] 3)) := by
    refine ⟨by rw [show val D (dg 26 (nb a)) 0 = 0 from rfl, show val D (dg 26 (nb b)) 0 = 0 from rfl, Int.zero_mul, Int.mul_zero]; exact val_zero D 11, fun j _ => by simp, x1.alloc _ hi1, x2.alloc _ hi2, made11_zero _ _ _ rfl, ?_, t2.fr.alloc _ |>.below |> (fun b => ⟨b, by have := t2.fr.size; simp; omega⟩), by simp⟩
    have := there_below (w' := w2.alloc (.cells #[.int .i64 0, .int .i64 0, .int .i64 0, .int .i64 0, .int .i64 0, .int .i64 0, .int .i64 0, .int .i64 0, .int .i64 0, .int .i64 0, .int .i64 0] 3)) t2.hr ((Below.refl w2.heap.size w2).alloc (Nat.le_refl _) _) (by have := t2.fr.size; omega)
    exact this
  have lo3 : w.heap.size + 3 ≤ w2.heap.size := t2.fr.size
  have n1 : w2.heap.size ≠ B1 := by omega
  have n2 : w2.heap.size ≠ B2 := by omega
  clear t1 t2 b1 h1 h2 l2 x1 x2 hi1 hi2 lo1
  go_wp2
  clear hmk
  generalize w2.heap.size = B3 at *
  generalize w2.alloc (.cells #[.int .i64 0, .int .i64 0, .int .i64 0, .int .i64 0, .int .i64 0, .int .i64 0, .int .i64 0, .int .i64 0, .int .i64 0, .int .i64 0, .int .i64 0] 3) = w3 at *
  go_loopw [8] (fun i w' => ∃ (m : Nat) (f : Nat → Int), m ≤ 6 ∧ i = .int .i64 m ∧ MU a b m 0 f B1 B2 B3 w w') (fun i _ => 6 - (intOf i).toNat)
  case atStart => exact ⟨0, _, by omega, rfl, mu0⟩
  case round =>
    obtain ⟨m, f0, hm, rfl, hO⟩ := hrel
    clear mu0
    by_cases hlt : m < 6
    · obtain ⟨wo, rfl⟩ : ∃ wo : World, wo = wr := ⟨_, rfl⟩
      have g1 : (0 : Int) ≤ (m : Int) := by omega
      have g2 : (m : Int) < 6 := by omega
      go_wp2
      go_loopw [9] (fun i w' => ∃ (k : Nat) (f : Nat → Int), k ≤ 6 ∧ i = .int .i64 k ∧ MU a b m k f B1 B2 B3 w w') (fun i _ => 6 - (intOf i).toNat)
      case atStart => exact ⟨0, f0, by omega, rfl, hO⟩
      case round =>
        obtain ⟨k, f, hk, rfl, hI⟩ := hrel
        clear hO
        by_cases hlt2 : k < 6
        · have HS := show Hid _ from hI.step lo3 n1 n2 hlt hlt2
          have c1 := hI.h1.cell m (by omega)
          have c2 := hI.h2.cell k (by omega)
          have c3 := hI.h3.cell (m + k) (by omega)
          have f1 := hI.h3.free (m + k) (by omega)
          have ix := dig_bound (nb a) m
          have iy := dig_bound (nb b) k
          have ip := mul_le ix.1 ix.2 iy.1 iy.2
          have iz := hI.big (m + k) (by omega)
          rw [if_neg (by omega)] at iz
          have iz1 : f (m + k) ≤ 27021597764222976 := by omega
          have iz0 := iz.1
          have g3 : (0 : Int) ≤ (k : Int) := by omega
          have g4 : (k : Int) < 6 := by omega
          have g7 : ((m : Int) + (k : Int)).toNat = m + k := by omega
          clear hI iz ix iy
          generalize dg 26 (nb a) m = x at *
          generalize dg 26 (nb b) k = y at *
          generalize f (m + k) = z at *
          obtain ⟨p0, p1⟩ := ip
          go_wp2
          go_region
          go_wp2
          go_roundw
          case rel => exact ⟨k + 1, _, by omega, by go_num, HS.out⟩
          case measure => simp [intOf]; omega
        · obtain rfl : k = 6 := by omega
          have hN := hI.next
          clear hI hlt2 hk
          go_wp2
          go_roundw
          case rel => exact ⟨m + 1, _, by omega, by go_num, hN⟩
          case measure => simp [intOf]; omega
    · obtain rfl : m = 6 := by omega
      clear hlt hm
      go_wp2_with fail
      refine (reduce_any 11 B3 f0 _ (Or.inr rfl) (fun j hj => by have := hO.big j hj; rw [if_neg (by omega)] at this; omega) hO.hi hO.h3).mono ?_
      rintro e w4 ⟨g, rfl, s3, l3⟩
      have hz := there_below hO.hr l3 (by have := hO.fr.size; omega)
      have hE : In 256 17 g ∧ val 256 g 17 = (val 256 a 17 * val 256 b 17) % Q := ⟨s3.1, by
        rw [s3.2, hO.eq, dig_val a ha, dig_val b hb, show val D (dg 26 (nb b)) 0 = 0 from rfl, Int.mul_zero, Int.add_zero]⟩
      have HE := show Hid _ from hE
      have hL := ((hO.fr.call l3).setAll (w.heap.size + 1 + 1) (by omega) (row .u8 17 g)).below
      clear hE s3 hO l3
      go_wp2_with (refine wpList_store_mid rfl 63 _ _ rfl (w.heap.size + 1 + 1) 0 (row .u8 17 g).toArray rfl rfl (big_there' hz) (big_info' _) (all_oneCell_toArray (row_one _ _ _)) ?_)
      exact bodyPost_ret (v := (.agg (row .u8 17 (g)).toArray)) (results_row Tryd.results41 rfl (Has.all hz .u8 g).range Tryd.underlying63 rfl (big_info g)) rfl ⟨g, rfl, HE.out, hL⟩
end Go.Proofs.YteclkiabkdaklaaDoor

namespace Go.Proofs.YteclkiabkdaklaaDoor
open Go.RowKit

/-- Behind k rounds of adding byte by byte. -/
structure LI (x s : Nat → Int) (X O : Nat) (k : Nat) (f : Nat → Int) (w w' : World) : Prop where
  done : ∀ j, j < k → f j = summ x s j
  hx : Has w' X .u8 17 x
  hs : Has w' (w.heap.size + 1) .u8 16 s
  ho : Has w' O .u8 16 f
  hr : w'.there (w.heap.size + 1 + 1) 0 16
  fr : Fr w 3 w'
theorem LI.step {x s : Nat → Int} {X O k : Nat} {f : Nat → Int} {w w' : World} (h : LI x s X O k f w w') (hk : k < 16) (lo : w.heap.size + 3 ≤ O) (ne : O ≠ X) : LI x s X O (k + 1) (upd f k (summ x s k)) w (w'.setCell ⟨O, k, none⟩ (.int .u8 (summ x s k))) := by
  refine ⟨fun j hj => ?_, h.hx.set_other _ _ (by simpa using ne), h.hs.set_other _ _ (by simp; omega), h.ho.set k hk _, fun j hj => ?_, h.fr.set _ _ (by simp; omega)⟩
  · by_cases e : j = k
    · subst e; rw [upd_same]
    · rw [upd_other _ _ _ _ e]; exact h.done j (by omega)
  · have hne : (⟨O, k, none⟩ : Addr) ≠ ⟨w.heap.size + 1 + 1, 0 + j, none⟩ := by intro h'; injection h'; omega
    show ((w'.setCell _ _).cell? _).isSome = true ∧ (w'.setCell _ _).frozen? _ = false
    rw [World.cell?_setCell_other _ _ _ _ hne, World.frozen?_setCell]; exact h.hr j hj
theorem LI.drewN {x s : Nat → Int} {X O k : Nat} {f : Nat → Int} {w w' : World} (h : LI x s X O k f w w') {q : Nat} : LI x s X O k f w (w'.drewN q) :=
  ⟨h.done, ⟨h.hx.cell, h.hx.free⟩, ⟨h.hs.cell, h.hs.free⟩, ⟨h.ho.cell, h.ho.free⟩, h.hr, ⟨below_drewN h.fr.below, h.fr.size⟩⟩

set_option maxRecDepth 10000 in
set_option maxHeartbeats 4000000 in
theorem refLow_any (a s : Nat → Int) (ha : In 256 17 a) (hs : In 256 16 s) (w : World) :
    Calls Tryd.prog 43 #[(.agg (row .u8 17 (a)).toArray), (.agg (row .u8 16 (s)).toArray)] w fun e w' => ∃ f : Nat → Int, e = .returned (.agg (row .u8 16 (f)).toArray) ∧ (In 256 16 f ∧ val 256 f 16 = (val 256 a 17 % Q + val 256 s 16) % 340282366920938463463374607431768211456) ∧ Below w.heap.size w w' := by
  have K := Kr.init w
  replace K := K.box .u8 17 a 63 w.heap.size rfl
  replace K := K.box .u8 16 s 36 (w.heap.size + 1) (by simp)
  replace K := K.make 16 #[.int .u8 0, .int .u8 0, .int .u8 0, .int .u8 0, .int .u8 0, .int .u8 0, .int .u8 0, .int .u8 0, .int .u8 0, .int .u8 0, .int .u8 0, .int .u8 0, .int .u8 0, .int .u8 0, .int .u8 0, .int .u8 0] 36 (w.heap.size + 1 + 1) (by simp) (tag_zero _ _ _ (by simp)).there
  go_enter Tryd.func43, Tryd.ntmps43
  go_upto_region 1 with fail
  generalize (((w.alloc (.cells (row .u8 17 a).toArray 63)).alloc (.cells (row .u8 16 s).toArray 36)).alloc (.cells #[.int .u8 0, .int .u8 0, .int .u8 0, .int .u8 0, .int .u8 0, .int .u8 0, .int .u8 0, .int .u8 0, .int .u8 0, .int .u8 0, .int .u8 0, .int .u8 0, .int .u8 0, .int .u8 0, .int .u8 0, .int .u8 0] 36)) = w0 at K ⊢
  refine wp_region_list ?_
  refine rowKL .u8 17 a w.heap.size 0 63 _ _ rfl rfl rfl Tryd.underlying63 rfl (big_info _) (K.get _ _ _ _ (List.mem_cons_of_mem _ List.mem_cons_self)).range ?_
  simp only [Act.put, List.setIfInBounds_toArray, List.set_cons_zero, List.set_cons_succ]
  refine callL rfl (fun _ => by kernel_rfl) (refCanon_any a ha _) ?_
  rintro e w1 ⟨x, rfl, sx, l⟩
  replace K := K.call l
  clear l
  refine ⟨_, rfl, ?_⟩
  simp only [Act.put, List.setIfInBounds_toArray, List.set_cons_zero, List.set_cons_succ]
  refine allocL #[.int .u8 0, .int .u8 0, .int .u8 0, .int .u8 0, .int .u8 0, .int .u8 0, .int .u8 0, .int .u8 0, .int .u8 0, .int .u8 0, .int .u8 0, .int .u8 0, .int .u8 0, .int .u8 0, .int .u8 0, .int .u8 0, .int .u8 0] 63 rfl (fun _ => by kernel_rfl) ?_
  simp only [Act.put, List.setIfInBounds_toArray, List.set_cons_zero, List.set_cons_succ]
  refine storesL .u8 17 x w1.heap.size 63 _ _ rfl rfl rfl rfl (room_of (big_zero _ _ _ rfl).there) (big_info' _) ?_
  simp only [Act.put]
  have s1 := K.size
  replace K := K.fresh .u8 17 x #[.int .u8 0, .int .u8 0, .int .u8 0, .int .u8 0, .int .u8 0, .int .u8 0, .int .u8 0, .int .u8 0, .int .u8 0, .int .u8 0, .int .u8 0, .int .u8 0, .int .u8 0, .int .u8 0, .int .u8 0, .int .u8 0, .int .u8 0] 63 (big_zero _ _ _ rfl).there
  generalize ((w1.alloc (.cells #[.int .u8 0, .int .u8 0, .int .u8 0, .int .u8 0, .int .u8 0, .int .u8 0, .int .u8 0, .int .u8 0, .int .u8 0, .int .u8 0, .int .u8 0, .int .u8 0, .int .u8 0, .int .u8 0, .int .u8 0, .int .u8 0, .int .u8 0] 63)).setCells w1.heap.size 0 (row .u8 17 x)) = w2 at K ⊢
  generalize w1.heap.size = X at *
  show Exit.then _ _ _ _ _
  go_upto_region 2 with fail
  refine wp_region_list ?_
  refine pureL (.agg (row .u8 16 (fun _ => 0)).toArray) rfl (fun _ => by kernel_rfl) ?_
  simp only [Act.put, List.setIfInBounds_toArray, List.set_cons_zero, List.set_cons_succ]
  refine allocL #[.int .u8 0, .int .u8 0, .int .u8 0, .int .u8 0, .int .u8 0, .int .u8 0, .int .u8 0, .int .u8 0, .int .u8 0, .int .u8 0, .int .u8 0, .int .u8 0, .int .u8 0, .int .u8 0, .int .u8 0, .int .u8 0] 36 rfl (fun _ => by kernel_rfl) ?_
  simp only [Act.put, List.setIfInBounds_toArray, List.set_cons_zero, List.set_cons_succ]
  refine storesL .u8 16 (fun _ => 0) w2.heap.size 36 _ _ rfl rfl rfl rfl (room_of (tag_zero _ _ _ rfl).there) (tag_info' _) ?_
  simp only [Act.put]
  have s2 := K.size
  replace K := K.fresh .u8 16 (fun _ => 0) #[.int .u8 0, .int .u8 0, .int .u8 0, .int .u8 0, .int .u8 0, .int .u8 0, .int .u8 0, .int .u8 0, .int .u8 0, .int .u8 0, .int .u8 0, .int .u8 0, .int .u8 0, .int .u8 0, .int .u8 0, .int .u8 0] 36 (tag_zero _ _ _ rfl).there
  generalize ((w2.alloc (.cells #[.int .u8 0, .int .u8 0, .int .u8 0, .int .u8 0, .int .u8 0, .int .u8 0, .int .u8 0, .int .u8 0, .int .u8 0, .int .u8 0, .int .u8 0, .int .u8 0, .int .u8 0, .int .u8 0, .int .u8 0, .int .u8 0] 36)).setCells w2.heap.size 0 (row .u8 16 (fun _ => 0))) = w3 at K ⊢
  generalize w2.heap.size = O at *
  show Exit.then _ _ _ _ _
  have hI0 : LI x s X O 0 (fun _ => 0) w w3 := ⟨fun j hj => by omega, K.get _ _ _ _ (List.mem_cons_of_mem _ List.mem_cons_self), K.get _ _ _ _ (List.mem_cons_of_mem _ (List.mem_cons_of_mem _ List.mem_cons_self)), K.get _ _ _ _ List.mem_cons_self, (K.room _ List.mem_cons_self).1, ⟨K.below, by have := K.size; omega⟩⟩
  have lo : w.heap.size + 3 ≤ O := by omega
  have ne : O ≠ X := by omega
  have hcr := carr_in x s 16 (fun j hj => sx.1 j (by omega)) hs
  have hx := fun j (hj : j < 16) => sx.1 j (by omega)
  have HC := show Hid _ from hcr
  have HX := show Hid _ from And.intro hx hs
  have HV := show Hid _ from sx
  clear K hcr hx sx s1 s2
  go_wp2
  go_loopw [7, 8] (fun r i w' => ∃ (k : Nat) (f : Nat → Int), k ≤ 16 ∧ i = .int .i64 k ∧ r = .int .i64 (carr x s k) ∧ LI x s X O k f w w') (fun _ i _ => 16 - (intOf i).toNat)
  case atStart => exact ⟨0, _, by omega, rfl, rfl, hI0⟩
  case round =>
    obtain ⟨k, f, hk, rfl, rfl, hI⟩ := hrel
    clear hI0
    by_cases hlt : k < 16
    · have c1 := hI.hx.cell k (by omega)
      have c2 := hI.hs.cell k hlt
      obtain ⟨r0, r1⟩ := HC.out k (by omega)
      obtain ⟨x0, x1⟩ := HX.out.1 k hlt
      obtain ⟨y0, y1⟩ := HX.out.2 k hlt
      have g1 : (0 : Int) ≤ (k : Int) := by omega
      have g2 : (k : Int) < 16 := by omega
      have g3 : (k : Int) < 17 := by omega
      have HS := show Hid _ from fun q => (hI.drewN (q := q)).step hlt lo ne
      have HN := show Hid (carr x s (k + 1) = (carr x s k + x k + s k) / 256) from rfl
      have HM := show Hid (summ x s k = (carr x s k + x k + s k) % 256) from rfl
      have c3 := hI.ho.cell k hlt
      have f3 := hI.ho.free k hlt
      clear hI
      generalize summ x s k = d at *
      generalize carr x s k = r at *
      generalize x k = u at *
      generalize s k = y at *
      generalize f k = z at *
      have v1 : IntKind.i64.wrap (r + u) = r + u := by rw [IntKind.wrap_i64]; omega
      have v2 : IntKind.i64.wrap (r + u + y) = r + u + y := by rw [IntKind.wrap_i64]; omega
      go_wp2
      go_quiet (fail)
      have c4 : (wr.drewN nq).cell? ⟨O, k, none⟩ = some (.int .u8 z) := c3
      have f4 : (wr.drewN nq).frozen? ⟨O, k, none⟩ = false := f3
      have HT := show Hid _ from HS.out nq
      clear HS c1 c2 c3 f3
      generalize wr.drewN nq = w4 at *
      go_wp2
      go_roundw
      case rel => exact ⟨k + 1, _, by omega, by go_num, by rw [HN.out], by have h := HT.out; rw [HM.out] at h; exact h⟩
      case measure => simp [intOf]; omega
    · obtain rfl : k = 16 := by omega
      have ho := hI.ho
      have hz := hI.hr
      have hE : In 256 16 f ∧ val 256 f 16 = (val 256 a 17 % Q + val 256 s 16) % 340282366920938463463374607431768211456 := by
        have hd : In 256 16 (summ x s) := fun j _ => by unfold summ; omega
        refine ⟨fun j hj => by rw [hI.done j hj]; exact hd j hj, ?_⟩
        rw [val_congr 256 16 (f := f) (g := summ x s) (fun j hj => hI.done j hj), ← HV.out.2]
        have v := summ_val x s 16
        have i := val_in 256 (by decide) (summ x s) 16 hd
        have e := low_val x HV.out.1
        rw [show (256 : Int) ^ 16 = 340282366920938463463374607431768211456 from by decide] at v i
        omega
      have HE := show Hid _ from hE
      have hL := (hI.fr.setAll (w.heap.size + 1 + 1) (by omega) (row .u8 16 f)).below
      clear hE hI hlt hk
      go_wp2_with (first | (refine wpList_load_mid rfl 36 _ rfl (O) 0 rfl (row .u8 16 (f)) _ (Has.range (ho)) Tryd.underlying36 rfl (tag_info _) ?_) | (refine wpList_store_mid rfl 36 _ _ rfl (w.heap.size + 1 + 1) 0 (row .u8 16 f).toArray rfl rfl (room_of hz) (tag_info' _) (all_oneCell_toArray (row_one _ _ _)) ?_))
      exact bodyPost_ret (v := (.agg (row .u8 16 (f)).toArray)) (results_row Tryd.results43 rfl (Has.all hz .u8 f).range Tryd.underlying36 rfl (tag_info f)) rfl ⟨f, rfl, HE.out, hL⟩
end Go.Proofs.YteclkiabkdaklaaDoor

namespace Go.Proofs.YteclkiabkdaklaaDoor
open Go.RowKit

set_option maxHeartbeats 4000000 in
theorem refTrim_any (r : Nat → Int) (hr : In 256 16 r) (w : World) :
    Calls Tryd.prog 39 #[(.agg (row .u8 16 (r)).toArray)] w fun e w' => e = .returned (.agg (row .u8 16 (trimT r)).toArray) ∧ Below w.heap.size w w' := by
  go_enter Tryd.func39, Tryd.ntmps39
  go_wp2
  go_loopw [3] (fun i w' => ∃ (k : Nat) (f : Nat → Int), k ≤ 16 ∧ i = .int .i64 k ∧ TInv r (trimT r) w k f w') (fun i _ => 16 - (intOf i).toNat)
  case atStart => exact ⟨0, r, by omega, rfl, ⟨fun j hj => by omega, fun _ _ => rfl, (Has.new w _ _ _ _ _ rfl).alloc _ (by simp), tag_zero _ _ _ (by simp), ((Fr.refl w).alloc _).alloc _⟩⟩
  case round =>
    obtain ⟨k, f, hk, rfl, hI⟩ := hrel
    by_cases hlt : k < 16
    · have hx := hr k hlt
      have ef := hI.rest k (Nat.le_refl k)
      have c1 := hI.ha.cell k hlt
      have f1 := hI.ha.free k hlt
      have g1 : (0 : Int) ≤ (k : Int) := by omega
      have g2 : (k : Int) < 16 := by omega
      by_cases h3 : k % 4 = 3
      · have e2 : trimT r k = r k % 16 := by unfold trimT; rw [if_pos h3]
        have hb := and15 (r k) hx
        have hS := hI.step hlt
        rw [e2] at hS
        rw [ef] at c1
        have HS := show Hid _ from hS
        have t1 : (k : Int) % 4 = 3 := by omega
        clear hI hS e2 ef
        generalize r k = x at *
        go_wp2
        go_roundw
        case rel => exact ⟨k + 1, _, by omega, by go_num, HS.out⟩
        case measure => simp [intOf]; omega
      · by_cases h0 : k % 4 = 0 ∧ 0 < k
        · have e2 : trimT r k = r k / 4 * 4 := by unfold trimT; rw [if_neg h3, if_pos h0]
          have hb := and252 (r k) hx
          have hS := hI.step hlt
          rw [e2] at hS
          rw [ef] at c1
          have HS := show Hid _ from hS
          have t1 : (k : Int) % 4 = 0 := by omega
          have t2 : (k : Int) > 0 := by omega
          clear hI hS e2 ef
          generalize r k = x at *
          go_wp2
          go_roundw
          case rel => exact ⟨k + 1, _, by omega, by go_num, HS.out⟩
          case measure => simp [intOf]; omega
        · have e2 : trimT r k = r k := by unfold trimT; rw [if_neg h3, if_neg h0]
          have HS := show Hid _ from hI.skip e2
          clear hI e2 ef c1 f1
          by_cases hz : k = 0
          · subst hz
            go_wp2
            go_roundw
            case rel => exact ⟨1, _, by omega, by go_num, HS.out⟩
            case measure => simp [intOf]
          · have t1 : (k : Int) % 4 ≠ 3 := by omega
            have t2 : (k : Int) % 4 ≠ 0 := by omega
            have t3 : ((k : Int) % 4 == 3) = false := by simp [t1]
            have t4 : ((k : Int) % 4 == 0) = false := by simp [t2]
            clear t1 t2
            go_wp2
            go_roundw
            case rel => exact ⟨k + 1, _, by omega, by go_num, HS.out⟩
            case measure => simp [intOf]; omega
    · obtain rfl : k = 16 := by omega
      have ha := hI.ha.congr (g := trimT r) (fun j hj => hI.done j hj)
      have hz := hI.hr
      have hB := (hI.fr.setAll (w.heap.size + 1) (by omega) (row .u8 16 (trimT r))).below
      clear hI hlt hk
      go_wp2_with (first | (refine wpList_load_mid rfl 36 _ rfl (w.heap.size) 0 rfl (row .u8 16 (trimT r)) _ (Has.range (ha)) Tryd.underlying36 rfl (tag_info _) ?_) | (refine wpList_store_mid rfl 36 _ _ rfl (w.heap.size + 1) 0 (row .u8 16 (trimT r)).toArray rfl rfl (tag_there (hz)) (tag_info' _) (all_oneCell_toArray (row_one _ _ _)) ?_))
      exact bodyPost_ret (v := (.agg (row .u8 16 (trimT r)).toArray)) (results_row Tryd.results39 rfl (Has.all hz.there .u8 _).range Tryd.underlying36 rfl (tag_info _)) rfl ⟨rfl, hB⟩
end Go.Proofs.YteclkiabkdaklaaDoor

namespace Go.Proofs.YteclkiabkdaklaaDoor
open Go.RowKit

set_option maxRecDepth 10000 in
set_option maxHeartbeats 2000000 in
theorem refBlock_long (sp : Option Addr) (len cap : Nat) (z : Nat → Int) (hlen : 16 < len) (w : World) :
    Calls Tryd.prog 40 #[.slice sp len cap] w fun e w' => e = .returned (.tuple #[(.agg (row .u8 17 (blk len z)).toArray), .int .i64 (blkE len)]) ∧ Below w.heap.size w w' := by
  have eb : (row .u8 17 (blk len z)) = row .u8 17 (fun _ => 0) := row_congr _ _ fun j _ => by unfold blk; rw [if_neg (by omega)]
  have ee : blkE len = 2 := by unfold blkE; rw [if_neg (by omega)]
  rw [eb, ee]
  have z0 : Has ((w.alloc (.cells #[.int .u8 0, .int .u8 0, .int .u8 0, .int .u8 0, .int .u8 0, .int .u8 0, .int .u8 0, .int .u8 0, .int .u8 0, .int .u8 0, .int .u8 0, .int .u8 0, .int .u8 0, .int .u8 0, .int .u8 0, .int .u8 0, .int .u8 0] 63)).alloc (.cells #[.int .u8 0, .int .u8 0, .int .u8 0, .int .u8 0, .int .u8 0, .int .u8 0, .int .u8 0, .int .u8 0, .int .u8 0, .int .u8 0, .int .u8 0, .int .u8 0, .int .u8 0, .int .u8 0, .int .u8 0, .int .u8 0, .int .u8 0] 63)) w.heap.size .u8 17 (fun _ => 0) := (big_zero _ _ _ rfl).alloc _ (by simp)
  have o0 : Has ((w.alloc (.cells #[.int .u8 0, .int .u8 0, .int .u8 0, .int .u8 0, .int .u8 0, .int .u8 0, .int .u8 0, .int .u8 0, .int .u8 0, .int .u8 0, .int .u8 0, .int .u8 0, .int .u8 0, .int .u8 0, .int .u8 0, .int .u8 0, .int .u8 0] 63)).alloc (.cells #[.int .u8 0, .int .u8 0, .int .u8 0, .int .u8 0, .int .u8 0, .int .u8 0, .int .u8 0, .int .u8 0, .int .u8 0, .int .u8 0, .int .u8 0, .int .u8 0, .int .u8 0, .int .u8 0, .int .u8 0, .int .u8 0, .int .u8 0] 63)) (w.heap.size + 1) .u8 17 (fun _ => 0) := big_zero _ _ _ (by simp)
  have g0 : Fr w 2 ((w.alloc (.cells #[.int .u8 0, .int .u8 0, .int .u8 0, .int .u8 0, .int .u8 0, .int .u8 0, .int .u8 0, .int .u8 0, .int .u8 0, .int .u8 0, .int .u8 0, .int .u8 0, .int .u8 0, .int .u8 0, .int .u8 0, .int .u8 0, .int .u8 0] 63)).alloc (.cells #[.int .u8 0, .int .u8 0, .int .u8 0, .int .u8 0, .int .u8 0, .int .u8 0, .int .u8 0, .int .u8 0, .int .u8 0, .int .u8 0, .int .u8 0, .int .u8 0, .int .u8 0, .int .u8 0, .int .u8 0, .int .u8 0, .int .u8 0] 63)) := ((Fr.refl w).alloc _).alloc _
  have z1 := z0.setAll_other (w.heap.size + 1) (by omega) 0 (row .u8 17 (fun _ => 0))
  have o1 := Has.all o0.there .u8 (fun _ => 0)
  have g1 := g0.setAll (w.heap.size + 1) (by omega) (row .u8 17 (fun _ => 0))
  have hB := (g1.setAll w.heap.size (Nat.le_refl _) (row .u8 17 (fun _ => 0))).below
  have hl : (len : Int) > 16 := by omega
  clear eb ee g0 g1 hlen z0
  go_enter Tryd.func40, Tryd.ntmps40
  have tok : True := trivial
  go_upto_region 2 with (have _t := tok; refine wpList_store_mid rfl 63 _ _ rfl (w.heap.size + 1) 0 (row .u8 17 (fun _ => 0)).toArray rfl rfl (big_there (o0)) (big_info' _) (all_oneCell_toArray (row_one _ _ _)) ?_; clear tok)
  generalize (((w.alloc (.cells #[.int .u8 0, .int .u8 0, .int .u8 0, .int .u8 0, .int .u8 0, .int .u8 0, .int .u8 0, .int .u8 0, .int .u8 0, .int .u8 0, .int .u8 0, .int .u8 0, .int .u8 0, .int .u8 0, .int .u8 0, .int .u8 0, .int .u8 0] 63)).alloc (.cells #[.int .u8 0, .int .u8 0, .int .u8 0, .int .u8 0, .int .u8 0, .int .u8 0, .int .u8 0, .int .u8 0, .int .u8 0, .int .u8 0, .int .u8 0, .int .u8 0, .int .u8 0, .int .u8 0, .int .u8 0, .int .u8 0, .int .u8 0] 63)).setCells (w.heap.size + 1) 0 (row .u8 17 (fun _ => 0))) = w2 at *
  clear o0
  go_wp2_with (first | (refine wpList_load_mid rfl 63 _ rfl (w.heap.size + 1) 0 rfl (row .u8 17 (fun _ => 0)) _ (Has.range (o1)) Tryd.underlying63 rfl (big_info _) ?_) | (refine wpList_store_mid rfl 63 _ _ rfl (w.heap.size) 0 (row .u8 17 (fun _ => 0)).toArray rfl rfl (big_there (z1)) (big_info' _) (all_oneCell_toArray (row_one _ _ _)) ?_))
  exact bodyPost_ret (v := .tuple #[(.agg (row .u8 17 (fun _ => 0)).toArray), .int .i64 2]) (results_row_tmp Tryd.results40 rfl rfl (Has.all z1.there .u8 _).range Tryd.underlying63 rfl (big_info _)) rfl ⟨rfl, hB⟩

/-- Behind k rounds of copying byte by byte. -/
structure BI (sp : Option Addr) (len : Nat) (z : Nat → Int) (w : World) (k : Nat) (f : Nat → Int) (w' : World) : Prop where
  done : ∀ j, j < k → f j = z j
  rest : ∀ j, k ≤ j → f j = 0
  src : Src w' sp len z
  ho : Has w' (w.heap.size + 1) .u8 17 f
  hr : Has w' w.heap.size .u8 17 (fun _ => 0)
  fr : Fr w 2 w'
theorem BI.step {sp : Option Addr} {len : Nat} {z : Nat → Int} {w : World} {k : Nat} {f : Nat → Int} {w' : World} (h : BI sp len z w k f w') (hk : k < 17) (hs : Src w sp len z) : BI sp len z w (k + 1) (upd f k (z k)) (w'.setCell ⟨w.heap.size + 1, k, none⟩ (.int .u8 (z k))) := by
  have hf := h.fr.set ⟨w.heap.size + 1, k, none⟩ (.int .u8 (z k)) (by simp)
  refine ⟨fun j hj => ?_, fun j hj => ?_, hs.below hf.below (Nat.le_refl _), h.ho.set k hk _, h.hr.set_other _ _ (by simp), hf⟩
  · by_cases e : j = k
    · subst e; rw [upd_same]
    · rw [upd_other _ _ _ _ e]; exact h.done j (by omega)
  · rw [upd_other _ _ _ _ (by omega)]; exact h.rest j (by omega)

set_option maxRecDepth 10000 in
set_option maxHeartbeats 2000000 in
theorem refBlock_short (sp : Option Addr) (len cap : Nat) (z : Nat → Int) (hlen : len ≤ 16) (w : World) (hs : Src w sp len z) :
    Calls Tryd.prog 40 #[.slice sp len cap] w fun e w' => e = .returned (.tuple #[(.agg (row .u8 17 (blk len z)).toArray), .int .i64 (blkE len)]) ∧ Below w.heap.size w w' := by
  have ee : blkE len = 0 := by unfold blkE; rw [if_pos hlen]
  rw [ee]
  have z0 : Has ((w.alloc (.cells #[.int .u8 0, .int .u8 0, .int .u8 0, .int .u8 0, .int .u8 0, .int .u8 0, .int .u8 0, .int .u8 0, .int .u8 0, .int .u8 0, .int .u8 0, .int .u8 0, .int .u8 0, .int .u8 0, .int .u8 0, .int .u8 0, .int .u8 0] 63)).alloc (.cells #[.int .u8 0, .int .u8 0, .int .u8 0, .int .u8 0, .int .u8 0, .int .u8 0, .int .u8 0, .int .u8 0, .int .u8 0, .int .u8 0, .int .u8 0, .int .u8 0, .int .u8 0, .int .u8 0, .int .u8 0, .int .u8 0, .int .u8 0] 63)) w.heap.size .u8 17 (fun _ => 0) := (big_zero _ _ _ rfl).alloc _ (by simp)
  have o0 : Has ((w.alloc (.cells #[.int .u8 0, .int .u8 0, .int .u8 0, .int .u8 0, .int .u8 0, .int .u8 0, .int .u8 0, .int .u8 0, .int .u8 0, .int .u8 0, .int .u8 0, .int .u8 0, .int .u8 0, .int .u8 0, .int .u8 0, .int .u8 0, .int .u8 0] 63)).alloc (.cells #[.int .u8 0, .int .u8 0, .int .u8 0, .int .u8 0, .int .u8 0, .int .u8 0, .int .u8 0, .int .u8 0, .int .u8 0, .int .u8 0, .int .u8 0, .int .u8 0, .int .u8 0, .int .u8 0, .int .u8 0, .int .u8 0, .int .u8 0] 63)) (w.heap.size + 1) .u8 17 (fun _ => 0) := big_zero _ _ _ (by simp)
  have g0 : Fr w 2 ((w.alloc (.cells #[.int .u8 0, .int .u8 0, .int .u8 0, .int .u8 0, .int .u8 0, .int .u8 0, .int .u8 0, .int .u8 0, .int .u8 0, .int .u8 0, .int .u8 0, .int .u8 0, .int .u8 0, .int .u8 0, .int .u8 0, .int .u8 0, .int .u8 0] 63)).alloc (.cells #[.int .u8 0, .int .u8 0, .int .u8 0, .int .u8 0, .int .u8 0, .int .u8 0, .int .u8 0, .int .u8 0, .int .u8 0, .int .u8 0, .int .u8 0, .int .u8 0, .int .u8 0, .int .u8 0, .int .u8 0, .int .u8 0, .int .u8 0] 63)) := ((Fr.refl w).alloc _).alloc _
  have g1 := g0.setAll (w.heap.size + 1) (by omega) (row .u8 17 (fun _ => 0))
  have hI0 : BI sp len z w 0 (fun _ => 0) (((w.alloc (.cells #[.int .u8 0, .int .u8 0, .int .u8 0, .int .u8 0, .int .u8 0, .int .u8 0, .int .u8 0, .int .u8 0, .int .u8 0, .int .u8 0, .int .u8 0, .int .u8 0, .int .u8 0, .int .u8 0, .int .u8 0, .int .u8 0, .int .u8 0] 63)).alloc (.cells #[.int .u8 0, .int .u8 0, .int .u8 0, .int .u8 0, .int .u8 0, .int .u8 0, .int .u8 0, .int .u8 0, .int .u8 0, .int .u8 0, .int .u8 0, .int .u8 0, .int .u8 0, .int .u8 0, .int .u8 0, .int .u8 0, .int .u8 0] 63)).setCells (w.heap.size + 1) 0 (row .u8 17 (fun _ => 0))) := ⟨fun j hj => by omega, fun _ _ => rfl, hs.below g1.below (Nat.le_refl _), Has.all o0.there .u8 (fun _ => 0), z0.setAll_other (w.heap.size + 1) (by omega) 0 _, g1⟩
  have hl : ¬ (len : Int) > 16 := by omega
  clear ee g0 g1 z0
  go_enter Tryd.func40, Tryd.ntmps40
  have tok : True := trivial
  go_upto_region 2 with (have _t := tok; refine wpList_store_mid rfl 63 _ _ rfl (w.heap.size + 1) 0 (row .u8 17 (fun _ => 0)).toArray rfl rfl (big_there (o0)) (big_info' _) (all_oneCell_toArray (row_one _ _ _)) ?_; clear tok)
  generalize (((w.alloc (.cells #[.int .u8 0, .int .u8 0, .int .u8 0, .int .u8 0, .int .u8 0, .int .u8 0, .int .u8 0, .int .u8 0, .int .u8 0, .int .u8 0, .int .u8 0, .int .u8 0, .int .u8 0, .int .u8 0, .int .u8 0, .int .u8 0, .int .u8 0] 63)).alloc (.cells #[.int .u8 0, .int .u8 0, .int .u8 0, .int .u8 0, .int .u8 0, .int .u8 0, .int .u8 0, .int .u8 0, .int .u8 0, .int .u8 0, .int .u8 0, .int .u8 0, .int .u8 0, .int .u8 0, .int .u8 0, .int .u8 0, .int .u8 0] 63)).setCells (w.heap.size + 1) 0 (row .u8 17 (fun _ => 0))) = w2 at *
  clear o0
  go_wp2
  go_loopw [5] (fun i w' => ∃ (k : Nat) (f : Nat → Int), k ≤ len ∧ i = .int .i64 k ∧ BI sp len z w k f w') (fun i _ => len - (intOf i).toNat)
  case atStart => exact ⟨0, _, by omega, rfl, hI0⟩
  case round =>
    obtain ⟨k, f, hk, rfl, hI⟩ := hrel
    clear hI0
    have g1 : (0 : Int) ≤ (k : Int) := by omega
    by_cases hlt : k < len
    · obtain ⟨ad, rfl, c1⟩ := hI.src k hlt
      have HS := show Hid _ from hI.step (by omega) hs
      have c2 := hI.ho.cell k (by omega)
      have f2 := hI.ho.free k (by omega)
      have g2 : (k : Int) < (len : Int) := by omega
      have g3 : (k : Int) < 17 := by omega
      have HW := show Hid _ from hs
      clear hI hs
      generalize f k = y at *
      generalize z k = x at *
      go_wp2
      go_roundw
      case rel => exact ⟨k + 1, _, by omega, by go_num, HS.out⟩
      case measure => simp [intOf]; omega
    · obtain rfl : k = len := by omega
      have c2 := hI.ho.cell k (by omega)
      have f2 := hI.ho.free k (by omega)
      have g3 : (k : Int) < 17 := by omega
      have hb := (hI.ho.set k (by omega) 1).congr (g := blk k z) (fun j hj => by
        unfold blk
        rw [if_pos hlen]
        by_cases e : j = k
        · subst e; rw [upd_same, if_neg (by omega), if_pos rfl]
        · rw [upd_other _ _ _ _ e]
          by_cases e2 : j < k
          · rw [if_pos e2]; exact hI.done j e2
          · rw [if_neg e2, if_neg e]; exact hI.rest j (by omega))
      have hz := hI.hr.set_other ⟨w.heap.size + 1, k, none⟩ (.int .u8 1) (by simp)
      have hB := ((hI.fr.set ⟨w.heap.size + 1, k, none⟩ (.int .u8 1) (by simp)).setAll w.heap.size (Nat.le_refl _) (row .u8 17 (blk k z))).below
      clear hI hs
      generalize f k = y at *
      go_upto_region 9 with fail
      generalize wr.setCell ⟨w.heap.size + 1, k, none⟩ (.int .u8 1) = w3 at *
      clear c2 f2 g3 hlen hl
      generalize hj : blk k z = g at *
      go_wp2_with (first | (refine wpList_load_mid rfl 63 _ rfl (w.heap.size + 1) 0 rfl (row .u8 17 (g)) _ (Has.range (hb)) Tryd.underlying63 rfl (big_info _) ?_) | (refine wpList_store_mid rfl 63 _ _ rfl (w.heap.size) 0 (row .u8 17 (g)).toArray rfl rfl (big_there (hz)) (big_info' _) (all_oneCell_toArray (row_one _ _ _)) ?_))
      exact bodyPost_ret (v := .tuple #[(.agg (row .u8 17 (g)).toArray), .int .i64 0]) (results_row_tmp Tryd.results40 rfl rfl (Has.all hz.there .u8 _).range Tryd.underlying63 rfl (big_info _)) rfl ⟨by rw [hj], hB⟩

theorem refBlock_any (sp : Option Addr) (len cap : Nat) (z : Nat → Int) (w : World) (hs : Src w sp len z) :
    Calls Tryd.prog 40 #[.slice sp len cap] w fun e w' => e = .returned (.tuple #[(.agg (row .u8 17 (blk len z)).toArray), .int .i64 (blkE len)]) ∧ Below w.heap.size w w' := by
  by_cases h : len ≤ 16
  · exact refBlock_short sp len cap z h w hs
  · exact refBlock_long sp len cap z (by omega) w
end Go.Proofs.YteclkiabkdaklaaDoor

namespace Go.Proofs.YteclkiabkdaklaaDoor
open Go.RowKit

/-- How many bytes the piece number i has; the piece; how many there are. -/
def pcN (len i : Nat) : Nat := min (len - 16 * i) 16
def piece (len : Nat) (z : Nat → Int) (i : Nat) : Nat → Int := blk (pcN len i) (fun j => z (16 * i + j))
def npc (len : Nat) : Nat := (len + 15) / 16
theorem piece_in (len : Nat) (z : Nat → Int) (i : Nat) (hz : In 256 len z) : In 256 17 (piece len z i) := blk_in _ _ fun j hj => hz _ (by unfold pcN at hj; omega)
/-- What so many pieces come to. -/
def acc (r : Int) (len : Nat) (z : Nat → Int) : Nat → Int
  | 0 => 0
  | i + 1 => ((acc r len z i + val 256 (piece len z i) 17) * r) % Q
/-- The number to multiply by, and the number to add, of a key; the tag's number. -/
def pR (k : Nat → Int) : Int := val 256 (trimT k) 16
def pS (k : Nat → Int) : Int := val 256 (fun j => k (16 + j)) 16
def ptag (k : Nat → Int) (len : Nat) (z : Nat → Int) : Int := (acc (pR k) len z (npc len) % Q + pS k) % 340282366920938463463374607431768211456
/-- The number to multiply by, in 17 bytes. -/
def byB (f : Nat → Int) : Nat → Int := fun j => if j < 16 then f j else 0
theorem byB_in (f : Nat → Int) (h : In 256 16 f) : In 256 17 (byB f) := fun j _ => by
  unfold byB
  split
  · exact h j (by assumption)
  · omega
theorem byB_val (f : Nat → Int) : val 256 (byB f) 17 = val 256 f 16 := by
  have e1 : val 256 (byB f) 17 = val 256 (byB f) 16 + 256 ^ 16 * byB f 16 := rfl
  have e2 : byB f 16 = 0 := by unfold byB; rw [if_neg (by omega)]
  rw [e1, e2, Int.mul_zero, Int.add_zero]
  exact val_congr 256 16 fun j hj => by unfold byB; rw [if_pos hj]
/-- A step, as the program and the document take it. -/
theorem acc_step {r : Int} {len : Nat} {z : Nat → Int} {i : Nat} {x y p : Int} (hx : x = (acc r len z i + val 256 (piece len z i) 17) % Q) (hp : p = r) (hy : y = (x * p) % Q) : y = acc r len z (i + 1) := by
  rw [hy, hx, hp]
  show _ = ((acc r len z i + val 256 (piece len z i) 17) * r) % Q
  rw [Int.mul_emod, Int.emod_emod_of_dvd _ (Int.dvd_refl Q), ← Int.mul_emod]
end Go.Proofs.YteclkiabkdaklaaDoor

namespace Go.Proofs.YteclkiabkdaklaaDoor
open Go.RowKit

theorem idxTag (b i : Nat) (hi : i < 16) (w : World) {o : Oper} {a : Act} (x y : Operand) (ho : o.op = .indexAddr 36 x y) (hx : a.eval x = .pointer (some ⟨b, 0, none⟩)) (hy : a.eval y = .int .i64 (i : Int)) :
    (execOp a.eval o).run Tryd.prog w = .ok (.value (.pointer (some ⟨b, i, none⟩))) w := by
  have h := idxArr (P := Tryd.prog) 36 5 16 .i64 b 0 i x y Tryd.underlying36 (fun _ => by kernel_rfl) hi ho hx hy w
  rw [Nat.zero_add] at h
  exact h
theorem idxBig (b i : Nat) (hi : i < 17) (w : World) {o : Oper} {a : Act} (x y : Operand) (ho : o.op = .indexAddr 63 x y) (hx : a.eval x = .pointer (some ⟨b, 0, none⟩)) (hy : a.eval y = .int .i64 (i : Int)) :
    (execOp a.eval o).run Tryd.prog w = .ok (.value (.pointer (some ⟨b, i, none⟩))) w := by
  have h := idxArr (P := Tryd.prog) 63 5 17 .i64 b 0 i x y Tryd.underlying63 (fun _ => by kernel_rfl) hi ho hx hy w
  rw [Nat.zero_add] at h
  exact h
theorem idxKy (b i : Nat) (hi : i < 32) (w : World) {o : Oper} {a : Act} (x y : Operand) (ho : o.op = .indexAddr 23 x y) (hx : a.eval x = .pointer (some ⟨b, 0, none⟩)) (hy : a.eval y = .int .i64 (i : Int)) :
    (execOp a.eval o).run Tryd.prog w = .ok (.value (.pointer (some ⟨b, i, none⟩))) w := by
  have h := idxArr (P := Tryd.prog) 23 5 32 .i64 b 0 i x y Tryd.underlying23 (fun _ => by kernel_rfl) hi ho hx hy w
  rw [Nat.zero_add] at h
  exact h

set_option maxRecDepth 10000 in
set_option maxHeartbeats 8000000 in
theorem refSum_any (k : Nat → Int) (hk : In 256 32 k) (sp : Option Addr) (len cap : Nat) (hlen : len ≤ 281474976710656) (hcap : len ≤ cap) (z : Nat → Int) (hz : In 256 len z) (w : World) (hs : Src w sp len z) :
    Calls Tryd.prog 27 #[(.agg (row .u8 32 (k)).toArray), .slice sp len cap] w fun e w' => ∃ f : Nat → Int, e = .returned (.agg (row .u8 16 (f)).toArray) ∧ (In 256 16 f ∧ val 256 f 16 = ptag k len z) ∧ Below w.heap.size w w' := by
  have hk1 : In 256 16 k := fun j hj => hk j (by omega)
  have hk2 : In 256 16 (fun j => k (16 + j)) := fun j hj => hk (16 + j) (by omega)
  have K := Kr.init w
  replace K := K.box .u8 32 k 23 w.heap.size rfl
  replace K := K.make 16 #[.int .u8 0, .int .u8 0, .int .u8 0, .int .u8 0, .int .u8 0, .int .u8 0, .int .u8 0, .int .u8 0, .int .u8 0, .int .u8 0, .int .u8 0, .int .u8 0, .int .u8 0, .int .u8 0, .int .u8 0, .int .u8 0] 36 (w.heap.size + 1) (by simp) (tag_zero _ _ _ (by simp)).there
  go_enter Tryd.func27, Tryd.ntmps27
  go_upto_region 1 with fail
  generalize ((w.alloc (.cells (row .u8 32 k).toArray 23)).alloc (.cells #[.int .u8 0, .int .u8 0, .int .u8 0, .int .u8 0, .int .u8 0, .int .u8 0, .int .u8 0, .int .u8 0, .int .u8 0, .int .u8 0, .int .u8 0, .int .u8 0, .int .u8 0, .int .u8 0, .int .u8 0, .int .u8 0] 36)) = w0 at K ⊢
  refine wp_region_list ?_
  refine pureL (.agg (row .u8 16 (fun _ => 0)).toArray) rfl (fun _ => by kernel_rfl) ?_
  simp only [Act.put, List.setIfInBounds_toArray, List.set_cons_zero, List.set_cons_succ]
  refine allocL #[.int .u8 0, .int .u8 0, .int .u8 0, .int .u8 0, .int .u8 0, .int .u8 0, .int .u8 0, .int .u8 0, .int .u8 0, .int .u8 0, .int .u8 0, .int .u8 0, .int .u8 0, .int .u8 0, .int .u8 0, .int .u8 0] 36 rfl (fun _ => by kernel_rfl) ?_
  simp only [Act.put, List.setIfInBounds_toArray, List.set_cons_zero, List.set_cons_succ]
  refine storesL .u8 16 (fun _ => 0) w0.heap.size 36 _ _ rfl rfl rfl rfl (room_of (tag_zero _ _ _ rfl).there) (tag_info' _) ?_
  simp only [Act.put]
  have zR := K.size
  replace K := K.fresh .u8 16 (fun _ => 0) #[.int .u8 0, .int .u8 0, .int .u8 0, .int .u8 0, .int .u8 0, .int .u8 0, .int .u8 0, .int .u8 0, .int .u8 0, .int .u8 0, .int .u8 0, .int .u8 0, .int .u8 0, .int .u8 0, .int .u8 0, .int .u8 0] 36 (tag_zero _ _ _ rfl).there
  generalize ((w0.alloc (.cells #[.int .u8 0, .int .u8 0, .int .u8 0, .int .u8 0, .int .u8 0, .int .u8 0, .int .u8 0, .int .u8 0, .int .u8 0, .int .u8 0, .int .u8 0, .int .u8 0, .int .u8 0, .int .u8 0, .int .u8 0, .int .u8 0] 36)).setCells w0.heap.size 0 (row .u8 16 (fun _ => 0))) = w1 at K ⊢
  generalize w0.heap.size = R at *
  show Exit.then _ _ _ _ _
  go_upto_region 2 with fail
  refine wp_region_list ?_
  refine pureL (.agg (row .u8 16 (fun _ => 0)).toArray) rfl (fun _ => by kernel_rfl) ?_
  simp only [Act.put, List.setIfInBounds_toArray, List.set_cons_zero, List.set_cons_succ]
  refine allocL #[.int .u8 0, .int .u8 0, .int .u8 0, .int .u8 0, .int .u8 0, .int .u8 0, .int .u8 0, .int .u8 0, .int .u8 0, .int .u8 0, .int .u8 0, .int .u8 0, .int .u8 0, .int .u8 0, .int .u8 0, .int .u8 0] 36 rfl (fun _ => by kernel_rfl) ?_
  simp only [Act.put, List.setIfInBounds_toArray, List.set_cons_zero, List.set_cons_succ]
  refine storesL .u8 16 (fun _ => 0) w1.heap.size 36 _ _ rfl rfl rfl rfl (room_of (tag_zero _ _ _ rfl).there) (tag_info' _) ?_
  simp only [Act.put]
  have zS := K.size
  replace K := K.fresh .u8 16 (fun _ => 0) #[.int .u8 0, .int .u8 0, .int .u8 0, .int .u8 0, .int .u8 0, .int .u8 0, .int .u8 0, .int .u8 0, .int .u8 0, .int .u8 0, .int .u8 0, .int .u8 0, .int .u8 0, .int .u8 0, .int .u8 0, .int .u8 0] 36 (tag_zero _ _ _ rfl).there
  generalize ((w1.alloc (.cells #[.int .u8 0, .int .u8 0, .int .u8 0, .int .u8 0, .int .u8 0, .int .u8 0, .int .u8 0, .int .u8 0, .int .u8 0, .int .u8 0, .int .u8 0, .int .u8 0, .int .u8 0, .int .u8 0, .int .u8 0, .int .u8 0] 36)).setCells w1.heap.size 0 (row .u8 16 (fun _ => 0))) = w2 at K ⊢
  generalize w1.heap.size = S at *
  show Exit.then _ _ _ _ _
  go_wp2
  go_loopw [7] (fun i w' => ∃ (m : Nat) (f g : Nat → Int), m ≤ 16 ∧ i = .int .i64 m ∧ Kr w (S + 1) [(S, .u8, 16, g), (R, .u8, 16, f), (w.heap.size, .u8, 32, k)] [(w.heap.size + 1, 16)] w' ∧ (∀ j, j < m → f j = k j) ∧ ∀ j, j < m → g j = k (16 + j)) (fun i _ => 16 - (intOf i).toNat)
  case atStart => exact ⟨0, _, _, by omega, rfl, K, fun j hj => by omega, fun j hj => by omega⟩
  case round =>
    clear K
    obtain ⟨m, f, g, hm, rfl, K, hf, hg⟩ := hrel
    have g1 : (0 : Int) ≤ (m : Int) := by omega
    by_cases hlt : m < 16
    · have g2 : (m : Int) < 16 := by omega
      have hlt2 : 16 + m < 32 := by omega
      go_upto_region 6 with fail
      refine wp_region_list ?_
      refine pureL (.int .i64 (m : Int)) rfl (fun _ => by kernel_rfl) ?_
      simp only [Act.put, List.setIfInBounds_toArray, List.set_cons_zero, List.set_cons_succ]
      refine pureL (.int .i64 (m : Int)) rfl (fun _ => by kernel_rfl) ?_
      simp only [Act.put, List.setIfInBounds_toArray, List.set_cons_zero, List.set_cons_succ]
      refine pureL (.pointer (some ⟨w.heap.size, m, none⟩)) rfl (fun w' => idxKy w.heap.size m (by omega) w' _ _ rfl rfl rfl) ?_
      simp only [Act.put, List.setIfInBounds_toArray, List.set_cons_zero, List.set_cons_succ]
      refine cellL .u8 (.int .u8 (k m)) w.heap.size m 5 _ rfl rfl rfl Tryd.underlying5 ((K.get _ _ _ _ (List.mem_cons_of_mem _ (List.mem_cons_of_mem _ List.mem_cons_self))).cell m (by omega)) ?_
      simp only [Act.put, List.setIfInBounds_toArray, List.set_cons_zero, List.set_cons_succ]
      refine pureL (.pointer (some ⟨R, m, none⟩)) rfl (fun w' => idxTag R m hlt w' _ _ rfl rfl rfl) ?_
      simp only [Act.put, List.setIfInBounds_toArray, List.set_cons_zero, List.set_cons_succ]
      refine storeL .u8 (k m) R m 5 _ _ rfl rfl rfl rfl (by rw [(K.get _ _ _ _ (List.mem_cons_of_mem _ List.mem_cons_self)).cell _ hlt]; rfl) ((K.get _ _ _ _ (List.mem_cons_of_mem _ List.mem_cons_self)).free _ hlt) (by kernel_rfl) ?_
      simp only [Act.put]
      replace K := K.setCell [(S, .u8, 16, g), (w.heap.size, .u8, 32, k)] R .u8 16 f m hlt (k m) (List.mem_cons_of_mem _ List.mem_cons_self) (fun p hp => by rcases List.mem_cons.1 hp with rfl | hp; exact List.mem_cons_self; obtain rfl := List.mem_singleton.1 hp; exact (List.mem_cons_of_mem _ (List.mem_cons_of_mem _ List.mem_cons_self))) (fun p hp => by rcases List.mem_cons.1 hp with rfl | hp; simp only; omega; obtain rfl := List.mem_singleton.1 hp; simp only; omega) (by omega)
      generalize wr.setCell ⟨R, m, none⟩ (.int .u8 (k m)) = w4 at K ⊢
      show Exit.then _ _ _ _ _
      go_upto_region 7 with fail
      refine wp_region_list ?_
      refine pureL (.int .i64 (m : Int)) rfl (fun _ => by kernel_rfl) ?_
      simp only [Act.put, List.setIfInBounds_toArray, List.set_cons_zero, List.set_cons_succ]
      refine pureL (.int .i64 (m : Int)) rfl (fun _ => by kernel_rfl) ?_
      simp only [Act.put, List.setIfInBounds_toArray, List.set_cons_zero, List.set_cons_succ]
      refine pureL (.int .i64 ((16 + m : Nat) : Int)) rfl (fun w => addI .i64 16 (m : Int) _ _ _ _ _ rfl rfl rfl (by rw [IntKind.wrap_i64]; omega) w) ?_
      simp only [Act.put, List.setIfInBounds_toArray, List.set_cons_zero, List.set_cons_succ]
      refine pureL (.pointer (some ⟨w.heap.size, 16 + m, none⟩)) rfl (fun w' => idxKy w.heap.size (16 + m) hlt2 w' _ _ rfl rfl rfl) ?_
      simp only [Act.put, List.setIfInBounds_toArray, List.set_cons_zero, List.set_cons_succ]
      refine cellL .u8 (.int .u8 (k (16 + m))) w.heap.size (16 + m) 5 _ rfl rfl rfl Tryd.underlying5 ((K.get _ _ _ _ (List.mem_cons_of_mem _ (List.mem_cons_of_mem _ List.mem_cons_self))).cell (16 + m) hlt2) ?_
      simp only [Act.put, List.setIfInBounds_toArray, List.set_cons_zero, List.set_cons_succ]
      refine pureL (.pointer (some ⟨S, m, none⟩)) rfl (fun w' => idxTag S m hlt w' _ _ rfl rfl rfl) ?_
      simp only [Act.put, List.setIfInBounds_toArray, List.set_cons_zero, List.set_cons_succ]
      refine storeL .u8 (k (16 + m)) S m 5 _ _ rfl rfl rfl rfl (by rw [(K.get _ _ _ _ (List.mem_cons_of_mem _ List.mem_cons_self)).cell _ hlt]; rfl) ((K.get _ _ _ _ (List.mem_cons_of_mem _ List.mem_cons_self)).free _ hlt) (by kernel_rfl) ?_
      simp only [Act.put]
      replace K := K.setCell [(R, .u8, 16, upd f m (k m)), (w.heap.size, .u8, 32, k)] S .u8 16 g m hlt (k (16 + m)) (List.mem_cons_of_mem _ List.mem_cons_self) (fun p hp => by rcases List.mem_cons.1 hp with rfl | hp; exact List.mem_cons_self; obtain rfl := List.mem_singleton.1 hp; exact (List.mem_cons_of_mem _ (List.mem_cons_of_mem _ List.mem_cons_self))) (fun p hp => by rcases List.mem_cons.1 hp with rfl | hp; simp only; omega; obtain rfl := List.mem_singleton.1 hp; simp only; omega) (by omega)
      generalize w4.setCell ⟨S, m, none⟩ (.int .u8 (k (16 + m))) = w5 at K ⊢
      have HS := show Hid _ from (And.intro K (And.intro (show ∀ j, j < m + 1 → upd f m (k m) j = k j from fun j hj => by
        by_cases e : j = m
        · subst e; rw [upd_same]
        · rw [upd_other _ _ _ _ e]; exact hf j (by omega)) (show ∀ j, j < m + 1 → upd g m (k (16 + m)) j = k (16 + j) from fun j hj => by
        by_cases e : j = m
        · subst e; rw [upd_same]
        · rw [upd_other _ _ _ _ e]; exact hg j (by omega))))
      clear K hf hg
      show Exit.inBlock _ _ _ _ _
      go_wp2
      go_roundw
      case rel => first | exact ⟨m + 1, _, _, by omega, by go_num, HS.out⟩ | ((repeat apply Exists.intro); refine ⟨⟨m + 1, _, _, by omega, by go_num, HS.out⟩, rfl⟩)
      case measure => simp [intOf]; omega
    · obtain rfl : m = 16 := by omega
      clear hlt hm g1
      go_upto_region 8 with fail
      refine wp_region_list ?_
      refine rowKL .u8 16 (f) (R) 0 36 _ _ rfl rfl rfl Tryd.underlying36 rfl (tag_info _) ((K.get _ _ _ _ (List.mem_cons_of_mem _ List.mem_cons_self)).range) ?_
      simp only [Act.put, List.setIfInBounds_toArray, List.set_cons_zero, List.set_cons_succ]
      refine callL rfl (fun _ => by kernel_rfl) (refTrim_any f (fun j hj => by rw [hf j hj]; exact hk1 j hj) _) ?_
      rintro e w4 ⟨rfl, l⟩
      replace K := K.call l
      clear l
      refine ⟨_, rfl, ?_⟩
      simp only [Act.put, List.setIfInBounds_toArray, List.set_cons_zero, List.set_cons_succ]
      refine storesL .u8 16 (trimT f) R 36 _ _ rfl rfl rfl rfl (tag_there (K.get _ _ _ _ (List.mem_cons_of_mem _ List.mem_cons_self))) (tag_info' _) ?_
      simp only [Act.put]
      replace K := K.set [(S, .u8, 16, g), (w.heap.size, .u8, 32, k)] R .u8 16 f (trimT f) (List.mem_cons_of_mem _ List.mem_cons_self) (fun p hp => by rcases List.mem_cons.1 hp with rfl | hp; exact List.mem_cons_self; obtain rfl := List.mem_singleton.1 hp; exact (List.mem_cons_of_mem _ (List.mem_cons_of_mem _ List.mem_cons_self))) (fun p hp => by rcases List.mem_cons.1 hp with rfl | hp; simp only; omega; obtain rfl := List.mem_singleton.1 hp; simp only; omega) (by omega)
      generalize w4.setCells R 0 (row .u8 16 (trimT f)) = w5 at K ⊢
      have hS := (K.get _ _ _ _ (List.mem_cons_of_mem _ List.mem_cons_self)).congr (g := fun j => k (16 + j)) (fun j hj => hg j hj)
      have hR := (K.get _ _ _ _ List.mem_cons_self).congr (g := trimT k) (fun j hj => by unfold trimT; rw [hf j hj])
      replace K : Kr w (S + 1) [(R, .u8, 16, trimT k), (S, .u8, 16, fun j => k (16 + j))] [(w.heap.size + 1, 16)] w5 := ⟨fun p hp => by
        rcases List.mem_cons.1 hp with rfl | hp
        · exact ⟨hR, (K.rows _ List.mem_cons_self).2⟩
        · obtain rfl := List.mem_singleton.1 hp; exact ⟨hS, (K.rows _ (List.mem_cons_of_mem _ List.mem_cons_self)).2⟩, K.room, (fun p hp q hq => by
        rcases List.mem_cons.1 hp with rfl | hp
        · exact K.apart _ List.mem_cons_self q hq
        · obtain rfl := List.mem_singleton.1 hp; exact K.apart _ (List.mem_cons_of_mem _ List.mem_cons_self) q hq), K.size, K.base, K.below⟩
      clear hS hR hf hg
      show Exit.then _ _ _ _ _
      go_upto_region 9 with fail
      refine wp_region_list ?_
      refine pureL (.agg (row .u8 17 (fun _ => 0)).toArray) rfl (fun _ => by kernel_rfl) ?_
      simp only [Act.put, List.setIfInBounds_toArray, List.set_cons_zero, List.set_cons_succ]
      refine allocL #[.int .u8 0, .int .u8 0, .int .u8 0, .int .u8 0, .int .u8 0, .int .u8 0, .int .u8 0, .int .u8 0, .int .u8 0, .int .u8 0, .int .u8 0, .int .u8 0, .int .u8 0, .int .u8 0, .int .u8 0, .int .u8 0, .int .u8 0] 63 rfl (fun _ => by kernel_rfl) ?_
      simp only [Act.put, List.setIfInBounds_toArray, List.set_cons_zero, List.set_cons_succ]
      refine storesL .u8 17 (fun _ => 0) w5.heap.size 63 _ _ rfl rfl rfl rfl (room_of (big_zero _ _ _ rfl).there) (big_info' _) ?_
      simp only [Act.put]
      have zY := K.size
      replace K := K.fresh .u8 17 (fun _ => 0) #[.int .u8 0, .int .u8 0, .int .u8 0, .int .u8 0, .int .u8 0, .int .u8 0, .int .u8 0, .int .u8 0, .int .u8 0, .int .u8 0, .int .u8 0, .int .u8 0, .int .u8 0, .int .u8 0, .int .u8 0, .int .u8 0, .int .u8 0] 63 (big_zero _ _ _ rfl).there
      generalize ((w5.alloc (.cells #[.int .u8 0, .int .u8 0, .int .u8 0, .int .u8 0, .int .u8 0, .int .u8 0, .int .u8 0, .int .u8 0, .int .u8 0, .int .u8 0, .int .u8 0, .int .u8 0, .int .u8 0, .int .u8 0, .int .u8 0, .int .u8 0, .int .u8 0] 63)).setCells w5.heap.size 0 (row .u8 17 (fun _ => 0))) = w6 at K ⊢
      generalize w5.heap.size = Y at *
      show Exit.then _ _ _ _ _
      go_wp2
      go_loopw [9] (fun i w' => ∃ (m : Nat) (y : Nat → Int), m ≤ 16 ∧ i = .int .i64 m ∧ Kr w (Y + 1) [(Y, .u8, 17, y), (R, .u8, 16, trimT k), (S, .u8, 16, fun j => k (16 + j))] [(w.heap.size + 1, 16)] w' ∧ (∀ j, j < m → y j = trimT k j) ∧ ∀ j, m ≤ j → y j = 0) (fun i _ => 16 - (intOf i).toNat)
      case atStart => exact ⟨0, _, by omega, rfl, K, fun j hj => by omega, fun _ _ => rfl⟩
      case round =>
        clear K
        obtain ⟨m, y, hm, rfl, K, hy, hy0⟩ := hrel
        have g1 : (0 : Int) ≤ (m : Int) := by omega
        by_cases hlt : m < 16
        · have g2 : (m : Int) < 16 := by omega
          have hlt2 : m < 17 := by omega
          go_upto_region 13 with fail
          refine wp_region_list ?_
          refine pureL (.int .i64 (m : Int)) rfl (fun _ => by kernel_rfl) ?_
          simp only [Act.put, List.setIfInBounds_toArray, List.set_cons_zero, List.set_cons_succ]
          refine pureL (.int .i64 (m : Int)) rfl (fun _ => by kernel_rfl) ?_
          simp only [Act.put, List.setIfInBounds_toArray, List.set_cons_zero, List.set_cons_succ]
          refine pureL (.pointer (some ⟨R, m, none⟩)) rfl (fun w' => idxTag R m hlt w' _ _ rfl rfl rfl) ?_
          simp only [Act.put, List.setIfInBounds_toArray, List.set_cons_zero, List.set_cons_succ]
          refine cellL .u8 (.int .u8 (trimT k m)) R m 5 _ rfl rfl rfl Tryd.underlying5 ((K.get _ _ _ _ (List.mem_cons_of_mem _ List.mem_cons_self)).cell m hlt) ?_
          simp only [Act.put, List.setIfInBounds_toArray, List.set_cons_zero, List.set_cons_succ]
          refine pureL (.pointer (some ⟨Y, m, none⟩)) rfl (fun w' => idxBig Y m hlt2 w' _ _ rfl rfl rfl) ?_
          simp only [Act.put, List.setIfInBounds_toArray, List.set_cons_zero, List.set_cons_succ]
          refine storeL .u8 (trimT k m) Y m 5 _ _ rfl rfl rfl rfl (by rw [(K.get _ _ _ _ List.mem_cons_self).cell _ hlt2]; rfl) ((K.get _ _ _ _ List.mem_cons_self).free _ hlt2) (by kernel_rfl) ?_
          simp only [Act.put]
          replace K := K.setCell [(R, .u8, 16, trimT k), (S, .u8, 16, fun j => k (16 + j))] Y .u8 17 y m hlt2 (trimT k m) List.mem_cons_self (fun p hp => List.mem_cons_of_mem _ hp) (fun p hp => by rcases List.mem_cons.1 hp with rfl | hp; simp only; omega; obtain rfl := List.mem_singleton.1 hp; simp only; omega) (by omega)
          generalize wr.setCell ⟨Y, m, none⟩ (.int .u8 (trimT k m)) = w8 at K ⊢
          have HS := show Hid _ from (And.intro K (And.intro (show ∀ j, j < m + 1 → upd y m (trimT k m) j = trimT k j from fun j hj => by
            by_cases e : j = m
            · subst e; rw [upd_same]
            · rw [upd_other _ _ _ _ e]; exact hy j (by omega)) (show ∀ j, m + 1 ≤ j → upd y m (trimT k m) j = 0 from fun j hj => by
            rw [upd_other _ _ _ _ (by omega)]; exact hy0 j (by omega))))
          clear K hy hy0
          show Exit.inBlock _ _ _ _ _
          go_wp2
          go_roundw
          case rel => first | exact ⟨m + 1, _, by omega, by go_num, HS.out⟩ | ((repeat apply Exists.intro); refine ⟨⟨m + 1, _, by omega, by go_num, HS.out⟩, rfl⟩)
          case measure => simp [intOf]; omega
        · obtain rfl : m = 16 := by omega
          clear hlt hm g1
          have hY := (K.get _ _ _ _ List.mem_cons_self).congr (g := byB (trimT k)) (fun j hj => by
            unfold byB
            by_cases e : j < 16
            · rw [if_pos e]; exact hy j e
            · rw [if_neg e]; exact hy0 j (by omega))
          replace K : Kr w (Y + 1) [(Y, .u8, 17, byB (trimT k)), (S, .u8, 16, fun j => k (16 + j))] [(w.heap.size + 1, 16)] wr := ⟨fun p hp => by
            rcases List.mem_cons.1 hp with rfl | hp
            · exact ⟨hY, (K.rows _ List.mem_cons_self).2⟩
            · obtain rfl := List.mem_singleton.1 hp; exact K.rows _ (List.mem_cons_of_mem _ (List.mem_cons_of_mem _ List.mem_cons_self)), K.room, (fun p hp q hq => by
            rcases List.mem_cons.1 hp with rfl | hp
            · exact K.apart _ List.mem_cons_self q hq
            · obtain rfl := List.mem_singleton.1 hp; exact K.apart _ (List.mem_cons_of_mem _ (List.mem_cons_of_mem _ List.mem_cons_self)) q hq), K.size, K.base, K.below⟩
          clear hY hy hy0
          go_upto_region 14 with fail
          refine wp_region_list ?_
          refine pureL (.agg (row .u8 17 (fun _ => 0)).toArray) rfl (fun _ => by kernel_rfl) ?_
          simp only [Act.put, List.setIfInBounds_toArray, List.set_cons_zero, List.set_cons_succ]
          refine allocL #[.int .u8 0, .int .u8 0, .int .u8 0, .int .u8 0, .int .u8 0, .int .u8 0, .int .u8 0, .int .u8 0, .int .u8 0, .int .u8 0, .int .u8 0, .int .u8 0, .int .u8 0, .int .u8 0, .int .u8 0, .int .u8 0, .int .u8 0] 63 rfl (fun _ => by kernel_rfl) ?_
          simp only [Act.put, List.setIfInBounds_toArray, List.set_cons_zero, List.set_cons_succ]
          refine storesL .u8 17 (fun _ => 0) wr.heap.size 63 _ _ rfl rfl rfl rfl (room_of (big_zero _ _ _ rfl).there) (big_info' _) ?_
          simp only [Act.put]
          have zX := K.size
          replace K := K.fresh .u8 17 (fun _ => 0) #[.int .u8 0, .int .u8 0, .int .u8 0, .int .u8 0, .int .u8 0, .int .u8 0, .int .u8 0, .int .u8 0, .int .u8 0, .int .u8 0, .int .u8 0, .int .u8 0, .int .u8 0, .int .u8 0, .int .u8 0, .int .u8 0, .int .u8 0] 63 (big_zero _ _ _ rfl).there
          generalize ((wr.alloc (.cells #[.int .u8 0, .int .u8 0, .int .u8 0, .int .u8 0, .int .u8 0, .int .u8 0, .int .u8 0, .int .u8 0, .int .u8 0, .int .u8 0, .int .u8 0, .int .u8 0, .int .u8 0, .int .u8 0, .int .u8 0, .int .u8 0, .int .u8 0] 63)).setCells wr.heap.size 0 (row .u8 17 (fun _ => 0))) = w8 at K ⊢
          generalize wr.heap.size = X at *
          show Exit.then _ _ _ _ _
          go_wp2
          go_loopw [11] (fun i w' => ∃ (t : Nat) (a : Nat → Int), 16 * t < len + 16 ∧ i = .int .i64 (16 * (t : Int)) ∧ Kr w (X + 1) [(X, .u8, 17, a), (Y, .u8, 17, byB (trimT k)), (S, .u8, 16, fun j => k (16 + j))] [(w.heap.size + 1, 16)] w' ∧ In 256 17 a ∧ val 256 a 17 = acc (pR k) len z t) (fun i _ => len + 16 - (intOf i).toNat)
          case atStart => exact ⟨0, _, by omega, rfl, K, fun _ _ => ⟨Int.le_refl 0, (by decide : (0 : Int) < 256)⟩, by show val 256 (fun _ => 0) 17 = 0; decide⟩
          case round =>
            clear K
            obtain ⟨t, a, ht, rfl, K, ha, hv⟩ := hrel
            have g1 : (0 : Int) ≤ 16 * (t : Int) := by omega
            by_cases hlt : 16 * t < len
            · have g2 : 16 * (t : Int) < (len : Int) := by omega
              obtain ⟨M, hM⟩ : ∃ M : Nat, M = min (16 * t + 16) len := ⟨_, rfl⟩
              have hm : (if (len : Int) < 16 * (t : Int) + 16 then (len : Int) else 16 * (t : Int) + 16) = (M : Int) := by rw [hM]; split <;> omega
              obtain ⟨sq, hq1, hq2⟩ := cut_lh (P := Tryd.prog) (t := 26) (by kernel_rfl) (fun _ => by kernel_rfl) sp len cap (16 * t) M (by omega) (by omega) hcap
              have hpc : M - 16 * t = pcN len t := by unfold pcN; omega
              rw [hpc] at hq1 hq2
              have ec : ((16 * t : Nat) : Int) = 16 * (t : Int) := by omega
              rw [ec] at hq1
              go_upto_region 18 with fail
              refine wp_region_list ?_
              refine pureL (.slice sp len cap) rfl (fun _ => by kernel_rfl) ?_
              simp only [Act.put, List.setIfInBounds_toArray, List.set_cons_zero, List.set_cons_succ]
              refine pureL (.int .i64 (16 * (t : Int))) rfl (fun _ => by kernel_rfl) ?_
              simp only [Act.put, List.setIfInBounds_toArray, List.set_cons_zero, List.set_cons_succ]
              refine pureL (.int .i64 (16 * (t : Int))) rfl (fun _ => by kernel_rfl) ?_
              simp only [Act.put, List.setIfInBounds_toArray, List.set_cons_zero, List.set_cons_succ]
              refine pureL (.int .i64 (16 * (t : Int) + 16)) rfl (fun w => addI .i64 _ _ _ _ _ _ _ rfl rfl rfl (by rw [IntKind.wrap_i64]; omega) w) ?_
              simp only [Act.put, List.setIfInBounds_toArray, List.set_cons_zero, List.set_cons_succ]
              refine pureL (.slice sp len cap) rfl (fun _ => by kernel_rfl) ?_
              simp only [Act.put, List.setIfInBounds_toArray, List.set_cons_zero, List.set_cons_succ]
              refine pureL (.int .i64 (len : Int)) rfl (fun w => lenS _ 26 5 sp len cap rfl Tryd.underlying26 rfl w) ?_
              simp only [Act.put, List.setIfInBounds_toArray, List.set_cons_zero, List.set_cons_succ]
              refine pureL (.int .i64 (M : Int)) rfl (fun w => minI .i64 .i64 _ _ _ _ _ _ _ rfl rfl rfl hm w) ?_
              simp only [Act.put, List.setIfInBounds_toArray, List.set_cons_zero, List.set_cons_succ]
              refine pureL (.slice sq (pcN len t) (cap - 16 * t)) rfl (fun w => cutLHop _ _ _ _ _ _ _ _ rfl rfl rfl rfl (hq1 w)) ?_
              simp only [Act.put, List.setIfInBounds_toArray, List.set_cons_zero, List.set_cons_succ]
              refine callL rfl (fun _ => by kernel_rfl) (refBlock_any sq (pcN len t) (cap - 16 * t) (fun j => z (16 * t + j)) _ ((hq2 _ _ hs).below K.below (Nat.le_refl _))) ?_
              rintro e w9 ⟨rfl, l⟩
              replace K := K.call l
              clear l
              refine ⟨_, rfl, ?_⟩
              simp only [Act.put, List.setIfInBounds_toArray, List.set_cons_zero, List.set_cons_succ]
              refine pureL (.tuple #[.agg (row .u8 17 (piece len z t)).toArray, .int .i64 (blkE (pcN len t))]) rfl (fun _ => by kernel_rfl) ?_
              simp only [Act.put, List.setIfInBounds_toArray, List.set_cons_zero, List.set_cons_succ]
              refine pureL (.agg (row .u8 17 (piece len z t)).toArray) rfl (fun _ => by kernel_rfl) ?_
              simp only [Act.put, List.setIfInBounds_toArray, List.set_cons_zero, List.set_cons_succ]
              refine pureL (.int .i64 (blkE (pcN len t))) rfl (fun _ => by kernel_rfl) ?_
              simp only [Act.put, List.setIfInBounds_toArray, List.set_cons_zero, List.set_cons_succ]
              refine allocL #[.int .u8 0, .int .u8 0, .int .u8 0, .int .u8 0, .int .u8 0, .int .u8 0, .int .u8 0, .int .u8 0, .int .u8 0, .int .u8 0, .int .u8 0, .int .u8 0, .int .u8 0, .int .u8 0, .int .u8 0, .int .u8 0, .int .u8 0] 63 rfl (fun _ => by kernel_rfl) ?_
              simp only [Act.put, List.setIfInBounds_toArray, List.set_cons_zero, List.set_cons_succ]
              refine storesL .u8 17 (piece len z t) w9.heap.size 63 _ _ rfl rfl rfl rfl (room_of (big_zero _ _ _ rfl).there) (big_info' _) ?_
              simp only [Act.put]
              have zG := K.size
              replace K := K.fresh .u8 17 (piece len z t) #[.int .u8 0, .int .u8 0, .int .u8 0, .int .u8 0, .int .u8 0, .int .u8 0, .int .u8 0, .int .u8 0, .int .u8 0, .int .u8 0, .int .u8 0, .int .u8 0, .int .u8 0, .int .u8 0, .int .u8 0, .int .u8 0, .int .u8 0] 63 (big_zero _ _ _ rfl).there
              generalize ((w9.alloc (.cells #[.int .u8 0, .int .u8 0, .int .u8 0, .int .u8 0, .int .u8 0, .int .u8 0, .int .u8 0, .int .u8 0, .int .u8 0, .int .u8 0, .int .u8 0, .int .u8 0, .int .u8 0, .int .u8 0, .int .u8 0, .int .u8 0, .int .u8 0] 63)).setCells w9.heap.size 0 (row .u8 17 (piece len z t))) = w10 at K ⊢
              generalize w9.heap.size = G at *
              refine pureL (.int .i64 (blkE (pcN len t))) rfl (fun _ => by kernel_rfl) ?_
              simp only [Act.put, List.setIfInBounds_toArray, List.set_cons_zero, List.set_cons_succ]
              show Exit.then _ _ _ _ _
              clear hm hM hq1 hq2 hpc ec
              go_upto_region 19 with fail
              refine wp_region_C (S := fun w' => Kr w (G + 1) [(G, .u8, 17, piece len z t), (X, .u8, 17, a), (Y, .u8, 17, byB (trimT k)), (S, .u8, 16, fun j => k (16 + j))] [(w.heap.size + 1, 16)] w') 5 (by kernel_rfl) K.drew ?_
              clear K
              intro K
              refine rowC (i := 0) (some 62) rfl .u8 17 (a) (X) 0 63 _ _ rfl rfl (by kernel_rfl) rfl rfl rfl (by kernel_rfl) (by kernel_rfl) (by kernel_rfl) (by kernel_rfl) (fun _ _ _ h => h) Tryd.underlying63 rfl (big_info _) K (fun _ h => (h.get _ _ _ _ (List.mem_cons_of_mem _ List.mem_cons_self)).range) ?_
              simp only [Act.put, List.setIfInBounds_toArray, List.set_cons_zero, List.set_cons_succ]
              refine rowC (i := 1) (some 63) rfl .u8 17 (piece len z t) (G) 0 63 _ _ rfl rfl (by kernel_rfl) rfl rfl rfl (by kernel_rfl) (by kernel_rfl) (by kernel_rfl) (by kernel_rfl) (fun _ _ _ h => h) Tryd.underlying63 rfl (big_info _) K (fun _ h => (h.get _ _ _ _ List.mem_cons_self).range) ?_
              simp only [Act.put, List.setIfInBounds_toArray, List.set_cons_zero, List.set_cons_succ]
              refine rowC (i := 3) (some 65) rfl .u8 17 (byB (trimT k)) (Y) 0 63 _ _ rfl rfl (by kernel_rfl) rfl rfl rfl (by kernel_rfl) (by kernel_rfl) (by kernel_rfl) (by kernel_rfl) (fun _ _ _ h => h) Tryd.underlying63 rfl (big_info _) K (fun _ h => (h.get _ _ _ _ (List.mem_cons_of_mem _ (List.mem_cons_of_mem _ List.mem_cons_self))).range) ?_
              simp only [Act.put, List.setIfInBounds_toArray, List.set_cons_zero, List.set_cons_succ]
              refine callMC (i := 2) (some 64) rfl (by kernel_rfl) rfl rfl (fun _ => by kernel_rfl) (refAdd_any a (piece len z t) ha (piece_in len z t hz) _) ?_
              rintro e w11 ⟨f1, rfl, s1, l⟩
              replace K := K.call l
              clear l
              refine ⟨_, rfl, K, ?_⟩
              simp only [Act.put, List.setIfInBounds_toArray, List.set_cons_zero, List.set_cons_succ]
              refine callMC (i := 4) (some 66) rfl (by kernel_rfl) rfl rfl (fun _ => by kernel_rfl) (refMul_any f1 (byB (trimT k)) s1.1 (byB_in _ (trimT_in k hk1)) _) ?_
              rintro e w12 ⟨f2, rfl, s2, l⟩
              replace K := K.call l
              clear l
              refine ⟨_, rfl, K, ?_⟩
              simp only [Act.put, List.setIfInBounds_toArray, List.set_cons_zero, List.set_cons_succ]
              refine storesC (S2 := fun _ => True) none rfl .u8 17 f2 X 63 _ _ (by kernel_rfl) rfl rfl rfl rfl rfl (big_there (K.get _ _ _ _ (List.mem_cons_of_mem _ List.mem_cons_self))) (big_info' _) (by kernel_rfl) ?_
              simp only [Act.put]
              refine wpAnyH_done (by kernel_rfl) ?_ _
              have hv2 : val 256 f2 17 = acc (pR k) len z (t + 1) := acc_step (by rw [s1.2, hv]) (byB_val (trimT k)) s2.2
              replace K := K.set [(G, .u8, 17, piece len z t), (Y, .u8, 17, byB (trimT k)), (S, .u8, 16, fun j => k (16 + j))] X .u8 17 a f2 (List.mem_cons_of_mem _ List.mem_cons_self) (fun p hp => by rcases List.mem_cons.1 hp with rfl | hp; exact List.mem_cons_self; rcases List.mem_cons.1 hp with rfl | hp; exact (List.mem_cons_of_mem _ (List.mem_cons_of_mem _ List.mem_cons_self)); obtain rfl := List.mem_singleton.1 hp; exact (List.mem_cons_of_mem _ (List.mem_cons_of_mem _ (List.mem_cons_of_mem _ List.mem_cons_self)))) (fun p hp => by rcases List.mem_cons.1 hp with rfl | hp; simp only; omega; rcases List.mem_cons.1 hp with rfl | hp; simp only; omega; obtain rfl := List.mem_singleton.1 hp; simp only; omega) (by omega)
              replace K := K.back [(X, .u8, 17, f2), (Y, .u8, 17, byB (trimT k)), (S, .u8, 16, fun j => k (16 + j))] (X + 1) (fun p hp => by rcases List.mem_cons.1 hp with rfl | hp; exact List.mem_cons_self; rcases List.mem_cons.1 hp with rfl | hp; exact (List.mem_cons_of_mem _ (List.mem_cons_of_mem _ List.mem_cons_self)); obtain rfl := List.mem_singleton.1 hp; exact (List.mem_cons_of_mem _ (List.mem_cons_of_mem _ (List.mem_cons_of_mem _ List.mem_cons_self)))) (fun p hp => by rcases List.mem_cons.1 hp with rfl | hp; simp only; omega; rcases List.mem_cons.1 hp with rfl | hp; simp only; omega; obtain rfl := List.mem_singleton.1 hp; simp only; omega) (fun q hq => by obtain rfl := List.mem_singleton.1 hq; simp only; omega) (by omega) (by omega)
              have HS := show Hid _ from (And.intro K (And.intro s2.1 hv2))
              clear K s1 s2 hv hv2 ha
              generalize w12.setCells X 0 (row .u8 17 f2) = w13 at HS ⊢
              go_wp2
              go_roundw
              case rel => first | exact ⟨t + 1, f2, by omega, by go_num, HS.out⟩ | ((repeat apply Exists.intro); refine ⟨⟨t + 1, f2, by omega, by go_num, HS.out⟩, rfl⟩)
              case measure => simp [intOf]; omega
            · obtain rfl : t = npc len := by unfold npc; omega
              go_upto_region 20 with fail
              refine wp_region_list ?_
              refine rowKL .u8 17 (a) (X) 0 63 _ _ rfl rfl rfl Tryd.underlying63 rfl (big_info _) ((K.get _ _ _ _ List.mem_cons_self).range) ?_
              simp only [Act.put, List.setIfInBounds_toArray, List.set_cons_zero, List.set_cons_succ]
              refine rowKL .u8 16 (fun j => k (16 + j)) (S) 0 36 _ _ rfl rfl rfl Tryd.underlying36 rfl (tag_info _) ((K.get _ _ _ _ (List.mem_cons_of_mem _ (List.mem_cons_of_mem _ List.mem_cons_self))).range) ?_
              simp only [Act.put, List.setIfInBounds_toArray, List.set_cons_zero, List.set_cons_succ]
              refine callL rfl (fun _ => by kernel_rfl) (refLow_any a (fun j => k (16 + j)) ha hk2 _) ?_
              rintro e w9 ⟨f, rfl, s1, l⟩
              replace K := K.call l
              clear l
              refine ⟨_, rfl, ?_⟩
              simp only [Act.put, List.setIfInBounds_toArray, List.set_cons_zero, List.set_cons_succ]
              have hz' := (K.room _ List.mem_cons_self).1
              refine storesL .u8 16 f (w.heap.size + 1) 36 _ _ rfl rfl rfl rfl (room_of hz') (tag_info' _) ?_
              simp only [Act.put]
              have hB := (K.fill _ _ List.mem_cons_self (row .u8 16 f)).below
              have HE := show Hid _ from (And.intro s1.1 (show val 256 f 16 = ptag k len z by rw [s1.2, hv]; rfl))
              clear K s1 hv ha hlt ht g1
              show Exit.then _ _ _ _ _
              go_wp2
              exact bodyPost_ret (v := (.agg (row .u8 16 (f)).toArray)) (results_row Tryd.results27 rfl (Has.all hz' .u8 f).range Tryd.underlying36 rfl (tag_info f)) rfl ⟨f, rfl, HE.out, hB⟩
end Go.Proofs.YteclkiabkdaklaaDoor

namespace Go.Proofs.YteclkiabkdaklaaDoor
open Go.RowKit

def SumOK : Prop := ∀ (k : Nat → Int), In 256 32 k → ∀ (sp : Option Addr) (len cap : Nat), len ≤ 281474976710656 → len ≤ cap → ∀ z : Nat → Int, In 256 len z → ∀ w : World, Glob w → Src w sp len z →
    Calls Tryd.prog 21 #[(.agg (row .u8 32 (k)).toArray), .slice sp len cap] w fun e w' => ∃ f : Nat → Int, e = .returned (.agg (row .u8 16 (f)).toArray) ∧ (In 256 16 f ∧ val 256 f 16 = ptag k len z) ∧ Below w.heap.size w w'
def SameOK : Prop := ∀ a b : Nat → Int, In 256 16 a → In 256 16 b → ∀ w : World, Glob w →
    Calls Tryd.prog 17 #[(.agg (row .u8 16 (a)).toArray), (.agg (row .u8 16 (b)).toArray)] w fun e w' => e = .returned (.bool (decide (val 256 a 16 = val 256 b 16))) ∧ Below w.heap.size w w'
/-- Rows, and one slice that stands. -/
structure KS (w : World) (m : Nat) (l : List (Nat × IntKind × Nat × (Nat → Int))) (R : List (Nat × Nat)) (sp : Option Addr) (len : Nat) (z : Nat → Int) (w' : World) : Prop where
  kr : Kr w m l R w'
  src : Src w' sp len z
section
variable {w w' w'' : World} {m : Nat} {l : List (Nat × IntKind × Nat × (Nat → Int))} {R : List (Nat × Nat)} {sp : Option Addr} {len : Nat} {z : Nat → Int}
theorem KS.call (h : KS w m l R sp len z w') (b : Below w'.heap.size w' w'') : KS w m l R sp len z w'' := ⟨h.kr.call b, h.src.below b (Nat.le_refl _)⟩
theorem KS.drew (h : KS w m l R sp len z w') : KS w m l R sp len z w'.drew := h.call (Below.refl _ _).drew
end
end Go.Proofs.YteclkiabkdaklaaDoor

namespace Go.Proofs.YteclkiabkdaklaaDoor
open Go.RowKit

theorem Kr.congr {w w' : World} {m : Nat} {l : List (Nat × IntKind × Nat × (Nat → Int))} {R : List (Nat × Nat)} {b : Nat} {k : IntKind} {n : Nat} {f : Nat → Int} (h : Kr w m ((b, k, n, f) :: l) R w') (g : Nat → Int) (e : ∀ j, j < n → f j = g j) : Kr w m ((b, k, n, g) :: l) R w' :=
  ⟨fun p hp => by
    rcases List.mem_cons.1 hp with rfl | hp
    · exact ⟨(h.get _ _ _ _ List.mem_cons_self).congr e, (h.rows _ List.mem_cons_self).2⟩
    · exact h.rows p (List.mem_cons_of_mem _ hp), h.room, fun p hp q hq => by
    rcases List.mem_cons.1 hp with rfl | hp
    · exact h.apart _ List.mem_cons_self q hq
    · exact h.apart p (List.mem_cons_of_mem _ hp) q hq, h.size, h.base, h.below⟩

theorem pS_in (k : Nat → Int) (hk : In 256 32 k) : 0 ≤ pS k ∧ pS k < 340282366920938463463374607431768211456 := val_in 256 (by decide) (fun j => k (16 + j)) 16 (fun j hj => hk (16 + j) (by omega))
theorem acc_congr {r r' : Int} {len : Nat} {z y : Nat → Int} (hr : r = r') (hz : ∀ j, j < len → z j = y j) : ∀ i, acc r len z i = acc r' len y i
  | 0 => rfl
  | i + 1 => by
    have hp : val 256 (piece len z i) 17 = val 256 (piece len y i) 17 := val_congr 256 17 fun j _ => by
      unfold piece blk
      split
      · split
        · exact hz _ (by unfold pcN at *; omega)
        · rfl
      · rfl
    show ((acc r len z i + val 256 (piece len z i) 17) * r) % Q = ((acc r' len y i + val 256 (piece len y i) 17) * r') % Q
    rw [acc_congr hr hz i, hp, hr]
/-- Of no bytes: the second half. -/
theorem ptag_none (k : Nat → Int) (hk : In 256 32 k) (z : Nat → Int) : ptag k 0 z = val 256 (fun j => k (16 + j)) 16 := by
  have h := pS_in k hk
  have e : ptag k 0 z = (0 + pS k) % 340282366920938463463374607431768211456 := rfl
  rw [e, Int.zero_add, Int.emod_eq_of_lt h.1 h.2]
  rfl
/-- A key whose first half is trimmed. -/
def oth (k : Nat → Int) : Nat → Int := fun j => if j < 16 then trimT k j else k j
theorem oth_in (k : Nat → Int) (hk : In 256 32 k) : In 256 32 (oth k) := fun j hj => by
  unfold oth
  split
  · exact trimT_in k (fun i hi => hk i (by omega)) j (by assumption)
  · exact hk j hj
theorem ptag_oth (k : Nat → Int) (len : Nat) (z : Nat → Int) : ptag (oth k) len z = ptag k len z := by
  have e1 : pR (oth k) = pR k := val_congr 256 16 fun j hj => by
    have : trimT (oth k) j = trimT (trimT k) j := by
      have e : oth k j = trimT k j := by unfold oth; rw [if_pos hj]
      simp only [trimT, e]
    rw [this, trimT_twice]
  have e2 : pS (oth k) = pS k := val_congr 256 16 fun j _ => by
    show oth k (16 + j) = k (16 + j)
    unfold oth; rw [if_neg (by omega)]
  unfold ptag
  rw [acc_congr e1 (fun _ _ => rfl), e2]
/-- A key whose second half is noughts. -/
def bar (k : Nat → Int) : Nat → Int := fun j => if j < 16 then k j else 0
theorem bar_in (k : Nat → Int) (hk : In 256 32 k) : In 256 32 (bar k) := fun j hj => by
  unfold bar
  split
  · exact hk j hj
  · omega
theorem bar_R (k : Nat → Int) : pR (bar k) = pR k := val_congr 256 16 fun j hj => by
  have e : bar k j = k j := by unfold bar; rw [if_pos hj]
  simp only [trimT, e]
theorem val_noughts (n : Nat) : val 256 (fun _ => 0) n = 0 := by
  induction n with
  | zero => rfl
  | succ n ih =>
    have e : val 256 (fun _ => 0) (n + 1) = val 256 (fun _ => 0) n + 256 ^ n * 0 := rfl
    rw [e, ih]; rfl
theorem bar_S (k : Nat → Int) : pS (bar k) = 0 := by
  have e : pS (bar k) = val 256 (fun _ => 0) 16 := val_congr 256 16 fun j _ => by
    show bar k (16 + j) = 0
    unfold bar; rw [if_neg (by omega)]
  rw [e]; decide
theorem ptag_halves (k : Nat → Int) (len : Nat) (z : Nat → Int) (x : Int) (hx : x = ptag (bar k) len z) : (x % Q + val 256 (fun j => k (16 + j)) 16) % 340282366920938463463374607431768211456 = ptag k len z := by
  have e : ptag k len z = (acc (pR k) len z (npc len) % Q + val 256 (fun j => k (16 + j)) 16) % 340282366920938463463374607431768211456 := rfl
  have e2 : ptag (bar k) len z = (acc (pR k) len z (npc len) % Q + 0) % 340282366920938463463374607431768211456 := by
    unfold ptag
    rw [acc_congr (bar_R k) (fun _ _ => rfl), bar_S]
  rw [hx, e, e2]
  generalize acc (pR k) len z (npc len) % Q = A
  generalize val 256 (fun j => k (16 + j)) 16 = s
  unfold Q
  omega
/-- One piece, two pieces. -/
theorem ptag_one (k f z : Nat → Int) (a : Int) (ha : a = (val 256 (blk 16 f) 17 * val 256 (byB (trimT k)) 17) % Q) : ptag (bar k) (16 + 0) (app f 16 z) = (a % Q + val 256 (fun _ => 0) 16) % 340282366920938463463374607431768211456 := by
  have hp : val 256 (piece (16 + 0) (app f 16 z) 0) 17 = val 256 (blk 16 f) 17 := val_congr 256 17 fun j _ => by
    show blk 16 (fun j => app f 16 z (16 * 0 + j)) j = blk 16 f j
    unfold blk app
    split
    · split
      · show (if 16 * 0 + j < 16 then f (16 * 0 + j) else z (16 * 0 + j - 16)) = f j
        rw [if_pos (by omega), show 16 * 0 + j = j by omega]
      · rfl
    · rfl
  have e : ptag (bar k) (16 + 0) (app f 16 z) = (((0 + val 256 (piece (16 + 0) (app f 16 z) 0) 17) * pR (bar k)) % Q % Q + pS (bar k)) % 340282366920938463463374607431768211456 := rfl
  rw [e, hp, bar_S, bar_R, val_noughts, ha, byB_val, Int.zero_add]
  rfl
theorem ptag_two (k f z : Nat → Int) (n : Nat) (h0 : 0 < n) (hn : n ≤ 16) (a s a2 : Int) (ha : a = (val 256 (blk 16 f) 17 * val 256 (byB (trimT k)) 17) % Q) (hs : s = (a + val 256 (blk n z) 17) % Q) (h2 : a2 = (s * val 256 (byB (trimT k)) 17) % Q) :
    ptag (bar k) (16 + n) (app f 16 z) = (a2 % Q + val 256 (fun _ => 0) 16) % 340282366920938463463374607431768211456 := by
  have en : npc (16 + n) = 2 := by unfold npc; omega
  have q0 : pcN (16 + n) 0 = 16 := by unfold pcN; omega
  have q1 : pcN (16 + n) 1 = n := by unfold pcN; omega
  have hp0 : val 256 (piece (16 + n) (app f 16 z) 0) 17 = val 256 (blk 16 f) 17 := val_congr 256 17 fun j _ => by
    unfold piece
    rw [q0]
    unfold blk app
    split
    · split
      · show (if 16 * 0 + j < 16 then f (16 * 0 + j) else z (16 * 0 + j - 16)) = f j
        rw [if_pos (by omega), show 16 * 0 + j = j by omega]
      · rfl
    · rfl
  have hp1 : val 256 (piece (16 + n) (app f 16 z) 1) 17 = val 256 (blk n z) 17 := val_congr 256 17 fun j _ => by
    unfold piece
    rw [q1]
    unfold blk app
    split
    · split
      · show (if 16 * 1 + j < 16 then f (16 * 1 + j) else z (16 * 1 + j - 16)) = z j
        rw [if_neg (by omega), show 16 * 1 + j - 16 = j by omega]
      · rfl
    · omega
  have e1 : a = acc (pR (bar k)) (16 + n) (app f 16 z) 1 := by
    show a = ((0 + val 256 (piece (16 + n) (app f 16 z) 0) 17) * pR (bar k)) % Q
    rw [hp0, bar_R, ha, byB_val, Int.zero_add]
    rfl
  have e2 : a2 = acc (pR (bar k)) (16 + n) (app f 16 z) 2 := acc_step (by rw [hs, hp1, e1]) (by rw [byB_val, bar_R]; rfl) h2
  unfold ptag
  rw [en, ← e2, bar_S, val_noughts]
end Go.Proofs.YteclkiabkdaklaaDoor

namespace Go.Proofs.YteclkiabkdaklaaDoor
open Go.RowKit

/-- Part of a row, as a range. -/
theorem Has.mid {w : World} {b : Nat} {k : IntKind} {n : Nat} {f : Nat → Int} (h : Has w b k n f) (o m : Nat) (ho : o + m ≤ n) : w.rangeAt b o (row k m (fun j => f (o + j))) := fun j v hv => by
  obtain ⟨hj, rfl⟩ := row_get_some hv
  exact h.cell (o + j) (by omega)

set_option maxRecDepth 10000 in
set_option maxHeartbeats 8000000 in
theorem pfactor_any (r : Nat → Int) (hr : In 256 16 r) (w : World) (hg : Glob w) :
    Calls Tryd.prog 33 #[(.agg (row .u8 16 (r)).toArray)] w fun e w' => e = .returned (.agg (row .u8 17 (byB (trimT r))).toArray) ∧ Below w.heap.size w w' := by
  have K := Kr.init w
  replace K := K.box .u8 16 r 36 (w.heap.size) rfl
  replace K := K.make 17 #[.int .u8 0, .int .u8 0, .int .u8 0, .int .u8 0, .int .u8 0, .int .u8 0, .int .u8 0, .int .u8 0, .int .u8 0, .int .u8 0, .int .u8 0, .int .u8 0, .int .u8 0, .int .u8 0, .int .u8 0, .int .u8 0, .int .u8 0] 63 (w.heap.size + 1) (by simp) (big_zero _ _ _ (by simp)).there
  go_enter Tryd.func33, Tryd.ntmps33
  go_upto_region 1 with fail
  generalize ((w.alloc (.cells (row .u8 16 r).toArray 36)).alloc (.cells #[.int .u8 0, .int .u8 0, .int .u8 0, .int .u8 0, .int .u8 0, .int .u8 0, .int .u8 0, .int .u8 0, .int .u8 0, .int .u8 0, .int .u8 0, .int .u8 0, .int .u8 0, .int .u8 0, .int .u8 0, .int .u8 0, .int .u8 0] 63)) = w0 at K ⊢
  refine wp_region_list ?_
  refine rowKL .u8 16 (r) (w.heap.size) 0 36 _ _ rfl rfl rfl Tryd.underlying36 rfl (tag_info _) ((K.get _ _ _ _ List.mem_cons_self).range) ?_
  simp only [Act.put, List.setIfInBounds_toArray, List.set_cons_zero, List.set_cons_succ]
  refine callL rfl (fun _ => by kernel_rfl) (ctrim_any r hr _ (hg.below K.below hg.size)) ?_
  rintro e w1 ⟨rfl, l⟩
  replace K := K.call l
  clear l
  refine ⟨_, rfl, ?_⟩
  simp only [Act.put, List.setIfInBounds_toArray, List.set_cons_zero, List.set_cons_succ]
  refine storesL .u8 16 (trimT r) (w.heap.size) 36 _ _ rfl rfl rfl rfl (tag_there (K.get _ _ _ _ List.mem_cons_self)) (tag_info' _) ?_
  simp only [Act.put]
  replace K := K.set [] (w.heap.size) .u8 16 r (trimT r) List.mem_cons_self (fun _ hp => by cases hp) (fun _ hp => by cases hp) (Nat.le_refl _)
  generalize w1.setCells (w.heap.size) 0 (row .u8 16 (trimT r)) = w2 at K ⊢
  show Exit.then _ _ _ _ _
  go_upto_region 2 with fail
  have zX := K.size
  replace K := K.boxO .u8 17 (fun _ => 0) (.cells #[.int .u8 0, .int .u8 0, .int .u8 0, .int .u8 0, .int .u8 0, .int .u8 0, .int .u8 0, .int .u8 0, .int .u8 0, .int .u8 0, .int .u8 0, .int .u8 0, .int .u8 0, .int .u8 0, .int .u8 0, .int .u8 0, .int .u8 0] 63) w2.heap.size rfl (big_zero _ _ _ rfl)
  go_upto_region 3 with fail
  generalize hw : w2.alloc (.cells #[.int .u8 0, .int .u8 0, .int .u8 0, .int .u8 0, .int .u8 0, .int .u8 0, .int .u8 0, .int .u8 0, .int .u8 0, .int .u8 0, .int .u8 0, .int .u8 0, .int .u8 0, .int .u8 0, .int .u8 0, .int .u8 0, .int .u8 0] 63) = w3 at K ⊢
  clear hw
  generalize w2.heap.size = X at *
  have HR := K.get _ _ _ _ List.mem_cons_self
  replace K := K.loose [(w.heap.size, .u8, 16, trimT r)] X .u8 17 (fun _ => 0) List.mem_cons_self (fun p hp => by obtain rfl := List.mem_singleton.1 hp; exact (List.mem_cons_of_mem _ List.mem_cons_self)) (fun p hp => by obtain rfl := List.mem_singleton.1 hp; simp only; omega) (by omega)
  refine wp_region_held_drew (S := fun w' => Kr w (X + 1) [(w.heap.size, .u8, 16, trimT r)] [(X, 17), (w.heap.size + 1, 17)] w') (by kernel_rfl) K.drew ?_
  clear K
  intro K
  replace HR := HR.drew
  generalize w3.drew = w4 at K HR ⊢
  refine pureH (i := 0) (some 6) rfl (.slice (some ⟨X, 0, none⟩) 17 17) rfl rfl (fun _ => by kernel_rfl) (by kernel_rfl) (by kernel_rfl) (by kernel_rfl) (fun _ _ _ h => h) K ?_
  simp only [Act.put, List.setIfInBounds_toArray, List.set_cons_zero, List.set_cons_succ]
  refine pureH (i := 1) (some 7) rfl (.slice (some ⟨w.heap.size, 0, none⟩) 16 16) rfl rfl (fun _ => by kernel_rfl) (by kernel_rfl) (by kernel_rfl) (by kernel_rfl) (fun _ _ _ h => h) K ?_
  simp only [Act.put, List.setIfInBounds_toArray, List.set_cons_zero, List.set_cons_succ]
  refine actH (i := 2) (some 8) rfl (.int .i64 ((16 : Nat) : Int)) (by kernel_rfl) rfl rfl (run_copy_src _ _ 26 26 5 rfl Tryd.underlying26 (by kernel_rfl) X 17 17 16 16 17 (some ⟨w.heap.size, 0, none⟩) (trimT r) rfl rfl (by decide) (by decide) HR.there (K.get _ _ _ _ List.mem_cons_self).src0) (K.fill X 17 List.mem_cons_self (row .u8 16 (trimT r))) ?_
  simp only [Act.put, List.setIfInBounds_toArray, List.set_cons_zero, List.set_cons_succ]
  refine wpAnyH_done (by kernel_rfl) ?_ _
  replace K := K.fill X 17 List.mem_cons_self (row .u8 16 (trimT r))
  replace HR := (HR.part 0 16 (by decide) (trimT r)).congr (g := byB (trimT r)) (fun j hj => by
    unfold over byB
    by_cases e : j < 16
    · rw [if_pos (by omega), if_pos e, Nat.sub_zero]
    · rw [if_neg (by omega), if_neg e])
  generalize w4.setCells X 0 (row .u8 16 (trimT r)) = w5 at K HR ⊢
  go_upto_region 4 with fail
  have hz := (K.room _ (List.mem_cons_of_mem _ List.mem_cons_self)).1
  have hB := (K.fill _ _ (List.mem_cons_of_mem _ List.mem_cons_self) (row .u8 17 (byB (trimT r)))).below
  clear K
  generalize hj : byB (trimT r) = f at *
  go_wp2_with (first | (refine wpList_load_mid rfl 63 _ rfl (X) 0 rfl (row .u8 17 (f)) _ (Has.range (HR)) Tryd.underlying63 rfl (big_info _) ?_) | (refine wpList_store_mid rfl 63 _ _ rfl (w.heap.size + 1) 0 (row .u8 17 f).toArray rfl rfl (room_of hz) (big_info' _) (all_oneCell_toArray (row_one _ _ _)) ?_))
  exact bodyPost_ret (v := (.agg (row .u8 17 (f)).toArray)) (results_row Tryd.results33 rfl (Has.all hz .u8 f).range Tryd.underlying63 rfl (big_info f)) rfl ⟨rfl, hB⟩

set_option maxRecDepth 10000 in
set_option maxHeartbeats 8000000 in
theorem pnumber_any (sp : Option Addr) (len cap : Nat) (z : Nat → Int) (w : World) (hs : Src w sp len z) :
    Calls Tryd.prog 36 #[.slice sp len cap] w fun e w' => e = .returned (.agg (row .u8 17 (blk len z)).toArray) ∧ Below w.heap.size w w' := by
  have K := Kr.init w
  replace K := K.make 17 #[.int .u8 0, .int .u8 0, .int .u8 0, .int .u8 0, .int .u8 0, .int .u8 0, .int .u8 0, .int .u8 0, .int .u8 0, .int .u8 0, .int .u8 0, .int .u8 0, .int .u8 0, .int .u8 0, .int .u8 0, .int .u8 0, .int .u8 0] 63 (w.heap.size) rfl (big_zero _ _ _ rfl).there
  go_enter Tryd.func36, Tryd.ntmps36
  go_upto_region 1 with fail
  generalize (w.alloc (.cells #[.int .u8 0, .int .u8 0, .int .u8 0, .int .u8 0, .int .u8 0, .int .u8 0, .int .u8 0, .int .u8 0, .int .u8 0, .int .u8 0, .int .u8 0, .int .u8 0, .int .u8 0, .int .u8 0, .int .u8 0, .int .u8 0, .int .u8 0] 63)) = w0 at K ⊢
  refine wp_region_list ?_
  refine pureL (.slice sp len cap) rfl (fun _ => by kernel_rfl) ?_
  simp only [Act.put, List.setIfInBounds_toArray, List.set_cons_zero, List.set_cons_succ]
  refine callL rfl (fun _ => by kernel_rfl) (cblock_any sp len cap z _ (hs.below K.below (Nat.le_refl _))) ?_
  rintro e w1 ⟨rfl, l⟩
  replace K := K.call l
  clear l
  refine ⟨_, rfl, ?_⟩
  simp only [Act.put, List.setIfInBounds_toArray, List.set_cons_zero, List.set_cons_succ]
  refine pureL (.tuple #[.agg (row .u8 17 (blk len z)).toArray, .int .i64 (blkE len)]) rfl (fun _ => by kernel_rfl) ?_
  simp only [Act.put, List.setIfInBounds_toArray, List.set_cons_zero, List.set_cons_succ]
  refine pureL (.agg (row .u8 17 (blk len z)).toArray) rfl (fun _ => by kernel_rfl) ?_
  simp only [Act.put, List.setIfInBounds_toArray, List.set_cons_zero, List.set_cons_succ]
  refine pureL (.int .i64 (blkE len)) rfl (fun _ => by kernel_rfl) ?_
  simp only [Act.put, List.setIfInBounds_toArray, List.set_cons_zero, List.set_cons_succ]
  refine allocL #[.int .u8 0, .int .u8 0, .int .u8 0, .int .u8 0, .int .u8 0, .int .u8 0, .int .u8 0, .int .u8 0, .int .u8 0, .int .u8 0, .int .u8 0, .int .u8 0, .int .u8 0, .int .u8 0, .int .u8 0, .int .u8 0, .int .u8 0] 63 rfl (fun _ => by kernel_rfl) ?_
  simp only [Act.put, List.setIfInBounds_toArray, List.set_cons_zero, List.set_cons_succ]
  refine storesL .u8 17 (blk len z) w1.heap.size 63 _ _ rfl rfl rfl rfl (room_of (big_zero _ _ _ rfl).there) (big_info' _) ?_
  simp only [Act.put]
  have zG := K.size
  replace K := K.fresh .u8 17 (blk len z) #[.int .u8 0, .int .u8 0, .int .u8 0, .int .u8 0, .int .u8 0, .int .u8 0, .int .u8 0, .int .u8 0, .int .u8 0, .int .u8 0, .int .u8 0, .int .u8 0, .int .u8 0, .int .u8 0, .int .u8 0, .int .u8 0, .int .u8 0] 63 (big_zero _ _ _ rfl).there
  generalize ((w1.alloc (.cells #[.int .u8 0, .int .u8 0, .int .u8 0, .int .u8 0, .int .u8 0, .int .u8 0, .int .u8 0, .int .u8 0, .int .u8 0, .int .u8 0, .int .u8 0, .int .u8 0, .int .u8 0, .int .u8 0, .int .u8 0, .int .u8 0, .int .u8 0] 63)).setCells w1.heap.size 0 (row .u8 17 (blk len z))) = w2 at K ⊢
  generalize w1.heap.size = G at *
  refine pureL (.int .i64 (blkE len)) rfl (fun _ => by kernel_rfl) ?_
  simp only [Act.put, List.setIfInBounds_toArray, List.set_cons_zero, List.set_cons_succ]
  show Exit.then _ _ _ _ _
  go_upto_region 2 with fail
  have HR := K.get _ _ _ _ List.mem_cons_self
  have hz := (K.room _ List.mem_cons_self).1
  have hB := (K.fill _ _ List.mem_cons_self (row .u8 17 (blk len z))).below
  clear K hs
  generalize hj : blk len z = f at *
  go_wp2_with (first | (refine wpList_load_mid rfl 63 _ rfl (G) 0 rfl (row .u8 17 (f)) _ (Has.range (HR)) Tryd.underlying63 rfl (big_info _) ?_) | (refine wpList_store_mid rfl 63 _ _ rfl (w.heap.size) 0 (row .u8 17 f).toArray rfl rfl (room_of hz) (big_info' _) (all_oneCell_toArray (row_one _ _ _)) ?_))
  exact bodyPost_ret (v := (.agg (row .u8 17 (f)).toArray)) (results_row Tryd.results36 rfl (Has.all hz .u8 f).range Tryd.underlying63 rfl (big_info f)) rfl ⟨rfl, hB⟩

set_option maxRecDepth 10000 in
set_option maxHeartbeats 8000000 in
theorem psum_any : SumOK := by
  intro k hk sp len cap hlen hcap z hz w hg hs
  have hk1 : In 256 16 k := fun j hj => hk j (by omega)
  have hk2 : In 256 16 (fun j => k (16 + j)) := fun j hj => hk (16 + j) (by omega)
  have K := Kr.init w
  replace K := K.box .u8 32 k 23 (w.heap.size) rfl
  replace K := K.make 16 #[.int .u8 0, .int .u8 0, .int .u8 0, .int .u8 0, .int .u8 0, .int .u8 0, .int .u8 0, .int .u8 0, .int .u8 0, .int .u8 0, .int .u8 0, .int .u8 0, .int .u8 0, .int .u8 0, .int .u8 0, .int .u8 0] 36 (w.heap.size + 1) (by simp) (tag_zero _ _ _ (by simp)).there
  go_enter Tryd.func21, Tryd.ntmps21
  go_upto_region 1 with fail
  generalize ((w.alloc (.cells (row .u8 32 k).toArray 23)).alloc (.cells #[.int .u8 0, .int .u8 0, .int .u8 0, .int .u8 0, .int .u8 0, .int .u8 0, .int .u8 0, .int .u8 0, .int .u8 0, .int .u8 0, .int .u8 0, .int .u8 0, .int .u8 0, .int .u8 0, .int .u8 0, .int .u8 0] 36)) = w0 at K ⊢
  refine wp_region_list ?_
  refine pureL (.slice (some ⟨w.heap.size, 0, none⟩) 16 32) rfl (fun _ => by kernel_rfl) ?_
  simp only [Act.put, List.setIfInBounds_toArray, List.set_cons_zero, List.set_cons_succ]
  refine pureL (.pointer (some ⟨w.heap.size, 0, none⟩)) rfl (fun _ => by kernel_rfl) ?_
  simp only [Act.put, List.setIfInBounds_toArray, List.set_cons_zero, List.set_cons_succ]
  refine rowKL .u8 16 k (w.heap.size) 0 36 _ _ rfl rfl rfl Tryd.underlying36 rfl (tag_info _) (by have h := (K.get _ _ _ _ List.mem_cons_self).mid 0 16 (by decide); simpa using h) ?_
  simp only [Act.put, List.setIfInBounds_toArray, List.set_cons_zero, List.set_cons_succ]
  refine callL rfl (fun _ => by kernel_rfl) (pfactor_any k hk1 _ (hg.below K.below hg.size)) ?_
  rintro e w1 ⟨rfl, l⟩
  replace K := K.call l
  clear l
  refine ⟨_, rfl, ?_⟩
  simp only [Act.put, List.setIfInBounds_toArray, List.set_cons_zero, List.set_cons_succ]
  refine allocL #[.int .u8 0, .int .u8 0, .int .u8 0, .int .u8 0, .int .u8 0, .int .u8 0, .int .u8 0, .int .u8 0, .int .u8 0, .int .u8 0, .int .u8 0, .int .u8 0, .int .u8 0, .int .u8 0, .int .u8 0, .int .u8 0, .int .u8 0] 63 rfl (fun _ => by kernel_rfl) ?_
  simp only [Act.put, List.setIfInBounds_toArray, List.set_cons_zero, List.set_cons_succ]
  refine storesL .u8 17 (byB (trimT k)) w1.heap.size 63 _ _ rfl rfl rfl rfl (room_of (big_zero _ _ _ rfl).there) (big_info' _) ?_
  simp only [Act.put]
  have zT := K.size
  replace K := K.fresh .u8 17 (byB (trimT k)) #[.int .u8 0, .int .u8 0, .int .u8 0, .int .u8 0, .int .u8 0, .int .u8 0, .int .u8 0, .int .u8 0, .int .u8 0, .int .u8 0, .int .u8 0, .int .u8 0, .int .u8 0, .int .u8 0, .int .u8 0, .int .u8 0, .int .u8 0] 63 (big_zero _ _ _ rfl).there
  generalize ((w1.alloc (.cells #[.int .u8 0, .int .u8 0, .int .u8 0, .int .u8 0, .int .u8 0, .int .u8 0, .int .u8 0, .int .u8 0, .int .u8 0, .int .u8 0, .int .u8 0, .int .u8 0, .int .u8 0, .int .u8 0, .int .u8 0, .int .u8 0, .int .u8 0] 63)).setCells w1.heap.size 0 (row .u8 17 (byB (trimT k)))) = w2 at K ⊢
  generalize w1.heap.size = T at *
  show Exit.then _ _ _ _ _
  go_upto_region 2 with fail
  have zX := K.size
  replace K := K.boxO .u8 17 (fun _ => 0) (.cells #[.int .u8 0, .int .u8 0, .int .u8 0, .int .u8 0, .int .u8 0, .int .u8 0, .int .u8 0, .int .u8 0, .int .u8 0, .int .u8 0, .int .u8 0, .int .u8 0, .int .u8 0, .int .u8 0, .int .u8 0, .int .u8 0, .int .u8 0] 63) w2.heap.size rfl (big_zero _ _ _ rfl)
  go_upto_region 3 with fail
  generalize hw : w2.alloc (.cells #[.int .u8 0, .int .u8 0, .int .u8 0, .int .u8 0, .int .u8 0, .int .u8 0, .int .u8 0, .int .u8 0, .int .u8 0, .int .u8 0, .int .u8 0, .int .u8 0, .int .u8 0, .int .u8 0, .int .u8 0, .int .u8 0, .int .u8 0] 63) = w5 at K ⊢
  clear hw
  generalize w2.heap.size = X at *
  go_wp2
  go_loopw [7] (fun i w' => ∃ (t : Nat) (a : Nat → Int), 16 * t < len + 16 ∧ i = .int .i64 (16 * (t : Int)) ∧ Kr w (X + 1) [(X, .u8, 17, a), (T, .u8, 17, byB (trimT k)), (w.heap.size, .u8, 32, k)] [(w.heap.size + 1, 16)] w' ∧ In 256 17 a ∧ val 256 a 17 = acc (pR k) len z t) (fun i _ => len + 16 - (intOf i).toNat)
  case atStart => exact ⟨0, _, by omega, rfl, K, fun _ _ => ⟨Int.le_refl 0, (by decide : (0 : Int) < 256)⟩, by show val 256 (fun _ => 0) 17 = 0; decide⟩
  case round =>
    clear K
    obtain ⟨t, a, ht, rfl, K, ha, hv⟩ := hrel
    have g1 : (0 : Int) ≤ 16 * (t : Int) := by omega
    by_cases hlt : 16 * t < len
    · have g2 : 16 * (t : Int) < (len : Int) := by omega
      obtain ⟨M, hM⟩ : ∃ M : Nat, M = min (16 * t + 16) len := ⟨_, rfl⟩
      have hm : (if (len : Int) < 16 * (t : Int) + 16 then (len : Int) else 16 * (t : Int) + 16) = (M : Int) := by rw [hM]; split <;> omega
      obtain ⟨sq, hq1, hq2⟩ := cut_lh (P := Tryd.prog) (t := 26) (by kernel_rfl) (fun _ => by kernel_rfl) sp len cap (16 * t) M (by omega) (by omega) hcap
      have hpc : M - 16 * t = pcN len t := by unfold pcN; omega
      rw [hpc] at hq1 hq2
      have ec : ((16 * t : Nat) : Int) = 16 * (t : Int) := by omega
      rw [ec] at hq1
      go_upto_region 6 with fail
      refine wp_region_C (S := fun w' => Kr w (X + 1) [(X, .u8, 17, a), (T, .u8, 17, byB (trimT k)), (w.heap.size, .u8, 32, k)] [(w.heap.size + 1, 16)] w') 13 (by kernel_rfl) K.drew ?_
      clear K
      intro K
      refine rowC (i := 0) (some 18) rfl .u8 17 (a) (X) 0 63 _ _ rfl rfl (by kernel_rfl) rfl rfl rfl (by kernel_rfl) (by kernel_rfl) (by kernel_rfl) (by kernel_rfl) (fun _ _ _ h => h) Tryd.underlying63 rfl (big_info _) K (fun _ h => (h.get _ _ _ _ List.mem_cons_self).range) ?_
      simp only [Act.put, List.setIfInBounds_toArray, List.set_cons_zero, List.set_cons_succ]
      refine pureC (i := 1) (some 19) rfl (.slice sp len cap) rfl (by decide) rfl (fun _ => by kernel_rfl) (by kernel_rfl) (by kernel_rfl) (by kernel_rfl) (fun _ _ _ h => h) K ?_
      simp only [Act.put, List.setIfInBounds_toArray, List.set_cons_zero, List.set_cons_succ]
      refine pureC (i := 2) (some 20) rfl (.int .i64 (16 * (t : Int))) rfl (by decide) rfl (fun _ => by kernel_rfl) (by kernel_rfl) (by kernel_rfl) (by kernel_rfl) (fun _ _ _ h => h) K ?_
      simp only [Act.put, List.setIfInBounds_toArray, List.set_cons_zero, List.set_cons_succ]
      refine pureC (i := 3) (some 21) rfl (.int .i64 (16 * (t : Int))) rfl (by decide) rfl (fun _ => by kernel_rfl) (by kernel_rfl) (by kernel_rfl) (by kernel_rfl) (fun _ _ _ h => h) K ?_
      simp only [Act.put, List.setIfInBounds_toArray, List.set_cons_zero, List.set_cons_succ]
      refine pureC (i := 4) (some 22) rfl (.int .i64 (16 * (t : Int) + 16)) rfl (by decide) rfl (fun w => addI .i64 _ _ _ _ _ _ _ rfl rfl rfl (by rw [IntKind.wrap_i64]; omega) w) (by kernel_rfl) (by kernel_rfl) (by kernel_rfl) (fun _ _ _ h => h) K ?_
      simp only [Act.put, List.setIfInBounds_toArray, List.set_cons_zero, List.set_cons_succ]
      refine pureC (i := 5) (some 23) rfl (.slice sp len cap) rfl (by decide) rfl (fun _ => by kernel_rfl) (by kernel_rfl) (by kernel_rfl) (by kernel_rfl) (fun _ _ _ h => h) K ?_
      simp only [Act.put, List.setIfInBounds_toArray, List.set_cons_zero, List.set_cons_succ]
      refine rowC (i := 11) (some 29) rfl .u8 17 (byB (trimT k)) (T) 0 63 _ _ rfl rfl (by kernel_rfl) rfl rfl rfl (by kernel_rfl) (by kernel_rfl) (by kernel_rfl) (by kernel_rfl) (fun _ _ _ h => h) Tryd.underlying63 rfl (big_info _) K (fun _ h => (h.get _ _ _ _ (List.mem_cons_of_mem _ List.mem_cons_self)).range) ?_
      simp only [Act.put, List.setIfInBounds_toArray, List.set_cons_zero, List.set_cons_succ]
      refine pureC (i := 6) (some 24) rfl (.int .i64 (len : Int)) rfl (by decide) rfl (fun w => lenS _ 26 5 sp len cap rfl Tryd.underlying26 rfl w) (by kernel_rfl) (by kernel_rfl) (by kernel_rfl) (fun _ _ _ h => h) K ?_
      simp only [Act.put, List.setIfInBounds_toArray, List.set_cons_zero, List.set_cons_succ]
      refine pureC (i := 7) (some 25) rfl (.int .i64 (M : Int)) rfl (by decide) rfl (fun w => minI .i64 .i64 _ _ _ _ _ _ _ rfl rfl rfl hm w) (by kernel_rfl) (by kernel_rfl) (by kernel_rfl) (fun _ _ _ h => h) K ?_
      simp only [Act.put, List.setIfInBounds_toArray, List.set_cons_zero, List.set_cons_succ]
      refine pureC (i := 8) (some 26) rfl (.slice sq (pcN len t) (cap - 16 * t)) rfl (by decide) rfl (fun w => cutLHop _ _ _ _ _ _ _ _ rfl rfl rfl rfl (hq1 w)) (by kernel_rfl) (by kernel_rfl) (by kernel_rfl) (fun _ _ _ h => h) K ?_
      simp only [Act.put, List.setIfInBounds_toArray, List.set_cons_zero, List.set_cons_succ]
      refine callMC (i := 9) (some 27) rfl (by kernel_rfl) rfl rfl (fun _ => by kernel_rfl) (pnumber_any sq (pcN len t) (cap - 16 * t) (fun j => z (16 * t + j)) _ ((hq2 _ _ hs).below K.below (Nat.le_refl _))) ?_
      rintro e w9 ⟨rfl, l⟩
      replace K := K.call l
      clear l
      refine ⟨_, rfl, K, ?_⟩
      simp only [Act.put, List.setIfInBounds_toArray, List.set_cons_zero, List.set_cons_succ]
      refine callMC (i := 10) (some 28) rfl (by kernel_rfl) rfl rfl (fun _ => by kernel_rfl) (cadd_any a (piece len z t) ha (piece_in len z t hz) _ (hg.below K.below hg.size)) ?_
      rintro e w11 ⟨f1, rfl, s1, l⟩
      replace K := K.call l
      clear l
      refine ⟨_, rfl, K, ?_⟩
      simp only [Act.put, List.setIfInBounds_toArray, List.set_cons_zero, List.set_cons_succ]
      refine callMC (i := 12) (some 30) rfl (by kernel_rfl) rfl rfl (fun _ => by kernel_rfl) (cmul_any f1 (byB (trimT k)) s1.1 (byB_in _ (trimT_in k hk1)) _ (hg.below K.below hg.size)) ?_
      rintro e w12 ⟨f2, rfl, s2, l⟩
      replace K := K.call l
      clear l
      refine ⟨_, rfl, K, ?_⟩
      simp only [Act.put, List.setIfInBounds_toArray, List.set_cons_zero, List.set_cons_succ]
      refine storesC (S2 := fun _ => True) none rfl .u8 17 f2 X 63 _ _ (by kernel_rfl) rfl rfl rfl rfl rfl (big_there (K.get _ _ _ _ List.mem_cons_self)) (big_info' _) (by kernel_rfl) ?_
      simp only [Act.put]
      refine wpAnyH_done (by kernel_rfl) ?_ _
      have hv2 : val 256 f2 17 = acc (pR k) len z (t + 1) := acc_step (by rw [s1.2, hv]) (byB_val (trimT k)) s2.2
      replace K := K.set [(T, .u8, 17, byB (trimT k)), (w.heap.size, .u8, 32, k)] X .u8 17 a f2 List.mem_cons_self (fun p hp => by rcases List.mem_cons.1 hp with rfl | hp; exact (List.mem_cons_of_mem _ List.mem_cons_self); obtain rfl := List.mem_singleton.1 hp; exact (List.mem_cons_of_mem _ (List.mem_cons_of_mem _ List.mem_cons_self))) (fun p hp => by rcases List.mem_cons.1 hp with rfl | hp; simp only; omega; obtain rfl := List.mem_singleton.1 hp; simp only; omega) (by omega)
      have HS := show Hid _ from (And.intro K (And.intro s2.1 hv2))
      clear K s1 s2 hv hv2 ha hm hM hq1 hq2 hpc ec
      generalize w12.setCells X 0 (row .u8 17 f2) = w13 at HS ⊢
      go_wp2
      go_roundw
      case rel => first | exact ⟨t + 1, f2, by omega, by go_num, HS.out⟩ | ((repeat apply Exists.intro); refine ⟨⟨t + 1, f2, by omega, by go_num, HS.out⟩, rfl⟩)
      case measure => simp [intOf]; omega
    · obtain rfl : t = npc len := by unfold npc; omega
      go_upto_region 7 with fail
      refine wp_region_C (S := fun w' => Kr w (X + 1) [(X, .u8, 17, a), (T, .u8, 17, byB (trimT k)), (w.heap.size, .u8, 32, k)] [(w.heap.size + 1, 16)] w') 5 (by kernel_rfl) K.drew ?_
      clear K
      intro K
      refine rowC (i := 0) (some 31) rfl .u8 17 (a) (X) 0 63 _ _ rfl rfl (by kernel_rfl) rfl rfl rfl (by kernel_rfl) (by kernel_rfl) (by kernel_rfl) (by kernel_rfl) (fun _ _ _ h => h) Tryd.underlying63 rfl (big_info _) K (fun _ h => (h.get _ _ _ _ List.mem_cons_self).range) ?_
      simp only [Act.put, List.setIfInBounds_toArray, List.set_cons_zero, List.set_cons_succ]
      refine pureC (i := 1) (some 32) rfl (.slice (some ⟨w.heap.size, 16, none⟩) 16 16) rfl (by decide) rfl (fun _ => by kernel_rfl) (by kernel_rfl) (by kernel_rfl) (by kernel_rfl) (fun _ _ _ h => h) K ?_
      simp only [Act.put, List.setIfInBounds_toArray, List.set_cons_zero, List.set_cons_succ]
      refine pureC (i := 2) (some 33) rfl (.pointer (some ⟨w.heap.size, 16, none⟩)) rfl (by decide) rfl (fun _ => by kernel_rfl) (by kernel_rfl) (by kernel_rfl) (by kernel_rfl) (fun _ _ _ h => h) K ?_
      simp only [Act.put, List.setIfInBounds_toArray, List.set_cons_zero, List.set_cons_succ]
      refine rowC (i := 3) (some 34) rfl .u8 16 (fun j => k (16 + j)) (w.heap.size) 16 36 _ _ rfl rfl (by kernel_rfl) rfl rfl rfl (by kernel_rfl) (by kernel_rfl) (by kernel_rfl) (by kernel_rfl) (fun _ _ _ h => h) Tryd.underlying36 rfl (tag_info _) K (fun _ h => (h.get _ _ _ _ (List.mem_cons_of_mem _ (List.mem_cons_of_mem _ List.mem_cons_self))).mid 16 16 (by decide)) ?_
      simp only [Act.put, List.setIfInBounds_toArray, List.set_cons_zero, List.set_cons_succ]
      refine callMC (i := 4) (some 35) rfl (by kernel_rfl) rfl rfl (fun _ => by kernel_rfl) (clow_any a (fun j => k (16 + j)) ha hk2 _ (hg.below K.below hg.size)) ?_
      rintro e w9 ⟨f, rfl, s1, l⟩
      replace K := K.call l
      clear l
      refine ⟨_, rfl, K, ?_⟩
      simp only [Act.put, List.setIfInBounds_toArray, List.set_cons_zero, List.set_cons_succ]
      have hz' := (K.room _ List.mem_cons_self).1
      refine storesC (S2 := fun _ => True) none rfl .u8 16 f (w.heap.size + 1) 36 _ _ (by kernel_rfl) rfl rfl rfl rfl rfl (room_of hz') (tag_info' _) (by kernel_rfl) ?_
      simp only [Act.put]
      refine wpAnyH_done (by kernel_rfl) ?_ _
      have hB := (K.fill _ _ List.mem_cons_self (row .u8 16 f)).below
      have HE := show Hid _ from (And.intro s1.1 (show val 256 f 16 = ptag k len z by rw [s1.2, hv]; rfl))
      clear K s1 hv ha hlt ht g1
      go_wp2
      exact bodyPost_ret (v := (.agg (row .u8 16 (f)).toArray)) (results_row Tryd.results21 rfl (Has.all hz' .u8 f).range Tryd.underlying36 rfl (tag_info f)) rfl ⟨f, rfl, HE.out, hB⟩

theorem or_byte (d x y : Int) (hd : 0 ≤ d ∧ d < 256) (hx : 0 ≤ x ∧ x < 256) (hy : 0 ≤ y ∧ y < 256) :
    (0 ≤ bits .or .u8 d (bits .xor .u8 x y) ∧ bits .or .u8 d (bits .xor .u8 x y) < 256) ∧ (bits .or .u8 d (bits .xor .u8 x y) = 0 ↔ d = 0 ∧ x = y) := by
  obtain ⟨d, rfl⟩ := Int.eq_ofNat_of_zero_le hd.1
  obtain ⟨x, rfl⟩ := Int.eq_ofNat_of_zero_le hx.1
  obtain ⟨y, rfl⟩ := Int.eq_ofNat_of_zero_le hy.1
  have h1 : x ^^^ y < 2 ^ 8 := Nat.xor_lt_two_pow (by omega) (by omega)
  have h2 : d ||| (x ^^^ y) < 2 ^ 8 := Nat.or_lt_two_pow (by omega) h1
  rw [u8_xor_nat x y (by omega) (by omega), u8_or_nat d _ (by omega) (by omega)]
  refine ⟨by omega, ?_⟩
  have e : ((d ||| (x ^^^ y) : Nat) : Int) = 0 ↔ d ||| (x ^^^ y) = 0 := by omega
  have e2 : x ^^^ y = 0 ↔ x = y := by
    constructor
    · intro h
      have h' : x ^^^ (x ^^^ y) = x := by rw [h, Nat.xor_zero]
      rw [← Nat.xor_assoc, Nat.xor_self, Nat.zero_xor] at h'
      exact h'.symm
    · intro h; rw [h, Nat.xor_self]
  rw [e, Nat.or_eq_zero_iff, e2]
  omega
theorem orI {P : Program} {o : Oper} {a : Act} (k : IntKind) (n n' r : Int) (t t' : TypeId) (x y : Operand) (ho : o.op = .binOp .or t x y t') (hx : a.eval x = .int k n) (hy : a.eval y = .int k n') (hr : bits .or k n n' = r) (w : World) : (execOp a.eval o).run P w = .ok (.value (.int k r)) w := by
  unfold execOp
  simp only [ho, hx, hy, Sem.run_bind, eqGuard_at_int, binOp_or, intBits_or, Sem.run_pure, Result.andThen_ok, hr]
theorem same_iff (a b : Nat → Int) (ha : In 256 16 a) (hb : In 256 16 b) (d : Int) (h : d = 0 ↔ ∀ j, j < 16 → a j = b j) : (d == 0) = decide (val 256 a 16 = val 256 b 16) := by
  have e : d = 0 ↔ val 256 a 16 = val 256 b 16 := h.trans ⟨fun h => val_congr 256 16 h, fun h => val_inj 256 (by decide) a b 16 ha hb h⟩
  by_cases hd : d = 0
  · rw [decide_eq_true (e.1 hd), hd]; rfl
  · rw [decide_eq_false (fun h => hd (e.2 h))]; simpa using hd

set_option maxRecDepth 10000 in
set_option maxHeartbeats 8000000 in
theorem psame_any : SameOK := by
  intro a b ha hb w _
  have K := ((Kr.init w).box .u8 16 a 36 (w.heap.size) rfl).box .u8 16 b 36 (w.heap.size + 1) (by simp)
  go_enter Tryd.func17, Tryd.ntmps17
  go_upto_region 1 with fail
  generalize ((w.alloc (.cells (row .u8 16 a).toArray 36)).alloc (.cells (row .u8 16 b).toArray 36)) = w0 at K ⊢
  go_wp2
  go_loopw [5, 7] (fun so i w' => ∃ (m : Nat) (d : Int), m ≤ 16 ∧ i = .int .i64 m ∧ so = .int .u8 d ∧ Kr w (w.heap.size + 1 + 1) [(w.heap.size + 1, .u8, 16, b), (w.heap.size, .u8, 16, a)] [] w' ∧ (0 ≤ d ∧ d < 256) ∧ (d = 0 ↔ ∀ j, j < m → a j = b j)) (fun _ i _ => 16 - (intOf i).toNat)
  case atStart => exact ⟨0, 0, by omega, rfl, rfl, K, by omega, by simp⟩
  case round =>
    clear K
    obtain ⟨m, d, hm, rfl, rfl, K, hd, hz⟩ := hrel
    have g1 : (0 : Int) ≤ (m : Int) := by omega
    by_cases hlt : m < 16
    · have g2 : (m : Int) < 16 := by omega
      go_upto_region 5 with fail
      refine wp_region_held_drew (S := fun w' => Kr w (w.heap.size + 1 + 1) [(w.heap.size + 1, .u8, 16, b), (w.heap.size, .u8, 16, a)] [] w') (by kernel_rfl) K.drew ?_
      clear K
      intro K
      generalize wr.drew = w1 at K ⊢
      refine pureH (i := 0) (some 10) rfl (.int .u8 d) rfl rfl (fun _ => by kernel_rfl) (by kernel_rfl) (by kernel_rfl) (by kernel_rfl) (fun _ _ _ h => h) K ?_
      simp only [Act.put, List.setIfInBounds_toArray, List.set_cons_zero, List.set_cons_succ]
      refine pureH (i := 1) (some 11) rfl (.int .i64 (m : Int)) rfl rfl (fun _ => by kernel_rfl) (by kernel_rfl) (by kernel_rfl) (by kernel_rfl) (fun _ _ _ h => h) K ?_
      simp only [Act.put, List.setIfInBounds_toArray, List.set_cons_zero, List.set_cons_succ]
      refine pureH (i := 2) (some 12) rfl (.pointer (some ⟨w.heap.size, m, none⟩)) rfl rfl (fun w' => idxTag (w.heap.size) m hlt w' _ _ rfl rfl rfl) (by kernel_rfl) (by kernel_rfl) (by kernel_rfl) (fun _ _ _ h => h) K ?_
      simp only [Act.put, List.setIfInBounds_toArray, List.set_cons_zero, List.set_cons_succ]
      refine cellH (i := 3) (some 13) rfl .u8 (.int .u8 (a m)) (w.heap.size) m 5 _ rfl rfl rfl rfl (by kernel_rfl) (by kernel_rfl) (by kernel_rfl) (fun _ _ _ h => h) Tryd.underlying5 K (fun _ h => (h.get _ _ _ _ (List.mem_cons_of_mem _ List.mem_cons_self)).cell m hlt) ?_
      simp only [Act.put, List.setIfInBounds_toArray, List.set_cons_zero, List.set_cons_succ]
      refine pureH (i := 4) (some 14) rfl (.int .i64 (m : Int)) rfl rfl (fun _ => by kernel_rfl) (by kernel_rfl) (by kernel_rfl) (by kernel_rfl) (fun _ _ _ h => h) K ?_
      simp only [Act.put, List.setIfInBounds_toArray, List.set_cons_zero, List.set_cons_succ]
      refine pureH (i := 5) (some 15) rfl (.pointer (some ⟨w.heap.size + 1, m, none⟩)) rfl rfl (fun w' => idxTag (w.heap.size + 1) m hlt w' _ _ rfl rfl rfl) (by kernel_rfl) (by kernel_rfl) (by kernel_rfl) (fun _ _ _ h => h) K ?_
      simp only [Act.put, List.setIfInBounds_toArray, List.set_cons_zero, List.set_cons_succ]
      refine cellH (i := 6) (some 16) rfl .u8 (.int .u8 (b m)) (w.heap.size + 1) m 5 _ rfl rfl rfl rfl (by kernel_rfl) (by kernel_rfl) (by kernel_rfl) (fun _ _ _ h => h) Tryd.underlying5 K (fun _ h => (h.get _ _ _ _ List.mem_cons_self).cell m hlt) ?_
      simp only [Act.put, List.setIfInBounds_toArray, List.set_cons_zero, List.set_cons_succ]
      refine pureH (i := 7) (some 17) rfl (.int .u8 (bits .xor .u8 (a m) (b m))) rfl rfl (fun w => xorI .u8 _ _ _ _ _ _ _ rfl rfl rfl rfl w) (by kernel_rfl) (by kernel_rfl) (by kernel_rfl) (fun _ _ _ h => h) K ?_
      simp only [Act.put, List.setIfInBounds_toArray, List.set_cons_zero, List.set_cons_succ]
      refine pureH (i := 8) (some 18) rfl (.int .u8 (bits .or .u8 d (bits .xor .u8 (a m) (b m)))) rfl rfl (fun w => orI .u8 _ _ _ _ _ _ _ rfl rfl rfl rfl w) (by kernel_rfl) (by kernel_rfl) (by kernel_rfl) (fun _ _ _ h => h) K ?_
      simp only [Act.put, List.setIfInBounds_toArray, List.set_cons_zero, List.set_cons_succ]
      refine pureH (i := 9) (some 5) rfl (.int .u8 (bits .or .u8 d (bits .xor .u8 (a m) (b m)))) rfl rfl (fun _ => by kernel_rfl) (by kernel_rfl) (by kernel_rfl) (by kernel_rfl) (fun _ _ _ h => h) K ?_
      simp only [Act.put, List.setIfInBounds_toArray, List.set_cons_zero, List.set_cons_succ]
      refine wpAnyH_done (by kernel_rfl) ?_ _
      have ho := or_byte d (a m) (b m) hd (ha m hlt) (hb m hlt)
      have HS := show Hid _ from (And.intro K (And.intro ho.1 (show bits .or .u8 d (bits .xor .u8 (a m) (b m)) = 0 ↔ ∀ j, j < m + 1 → a j = b j from by
        rw [ho.2, hz]
        constructor
        · intro h j hj
          by_cases e : j = m
          · subst e; exact h.2
          · exact h.1 j (by omega)
        · intro h
          exact ⟨fun j hj => h j (by omega), h m (by omega)⟩)))
      clear K hz ho
      generalize bits .or .u8 d (bits .xor .u8 (a m) (b m)) = d2 at HS ⊢
      go_wp2
      go_roundw
      case rel => first | exact ⟨m + 1, d2, by omega, by go_num, rfl, HS.out⟩ | ((repeat apply Exists.intro); refine ⟨⟨m + 1, d2, by omega, by go_num, rfl, HS.out⟩, rfl⟩)
      case measure => simp [intOf]; omega
    · obtain rfl : m = 16 := by omega
      clear hlt hm g1
      have hr := same_iff a b ha hb d hz
      have hB := K.below
      clear K hz
      go_upto_region 7 with fail
      refine wp_region_list ?_
      refine pureL (.int .u8 d) rfl (fun _ => by kernel_rfl) ?_
      simp only [Act.put, List.setIfInBounds_toArray, List.set_cons_zero, List.set_cons_succ]
      refine pureL (.bool (decide (val 256 a 16 = val 256 b 16))) rfl (fun w => eqlI .u8 _ _ _ _ _ _ rfl rfl rfl _ hr w) ?_
      simp only [Act.put, List.setIfInBounds_toArray, List.set_cons_zero, List.set_cons_succ]
      refine pureL (.bool (decide (val 256 a 16 = val 256 b 16))) rfl (fun _ => by kernel_rfl) ?_
      simp only [Act.put, List.setIfInBounds_toArray, List.set_cons_zero, List.set_cons_succ]
      show Exit.then _ _ _ _ _
      go_wp2
      go_ret
      exact ⟨rfl, hB⟩
end Go.Proofs.YteclkiabkdaklaaDoor
