/- Texts of Yg Yh, joined. -/
import Derived.Test.YtgfpflcoknpbdaaDoorP1SymmetricAgrees
import Derived.Test.YtgfpflcoknpbdaaDoorP8SymmetricAgrees
import Derived.Test.YtgfpflcoknpbdaaDoorP6SymmetricAgrees
set_option maxRecDepth 20000
set_option maxHeartbeats 64000000
namespace Go.Proofs.YtgfpflcoknpbdaaDoor
open Go.RowKit
def kdn (c : Int) (n : Nat) : Nat := (if c < 0 then -(c + 1) else c).toNat % n
theorem kdn_lt (c : Int) (n : Nat) (h : 0 < n) : kdn c n < n := Nat.mod_lt _ h
theorem kind12_any (c : Int) (n : Nat) (hn : 0 < n) (h1 : -9223372036854775808 ≤ c) (w : World) :
    Calls Tryd.prog 7 #[.int .i64 c, .int .i64 (n : Int)] w fun e w' => e = .returned (.int .i64 (kdn c n : Int)) ∧ Below w.heap.size w w' := by
  have M := Mm.init w
  go_enter Tryd.func7, Tryd.ntmps7
  go_upto_region 0 with fail
  refine wp_region_list ?_
  refine readL (.int .i64 0) rfl (by kernel_rfl) ?_
  simp only [aP, lI, l0, lS]
  first | show Exit.then _ _ _ _ _ | show Exit.inBlock _ _ _ _ _
  by_cases hc : c < 0
  · go_upto_region 1 with fail
    refine wp_region_list ?_
    refine readL (.int .i64 c) rfl (by kernel_rfl) ?_
    simp only [aP, lI, l0, lS]
    refine readL (.bool true) rfl (lssI .i64 _ _ _ _ _ _ rfl rfl rfl true (decide_eq_true hc) _) ?_
    simp only [aP, lI, l0, lS]
    first | show Exit.then _ _ _ _ _ | show Exit.inBlock _ _ _ _ _
    go_upto_region 2 with fail
    refine wp_region_list ?_
    refine readL (.int .i64 c) rfl (by kernel_rfl) ?_
    simp only [aP, lI, l0, lS]
    refine readL (.int .i64 (c + 1)) rfl (addI .i64 _ _ _ _ _ _ _ rfl rfl rfl (by rw [IntKind.wrap_i64]; omega) _) ?_
    simp only [aP, lI, l0, lS]
    refine readL (.int .i64 (-(c + 1))) rfl (negI .i64 _ _ _ _ rfl rfl (by rw [IntKind.wrap_i64]; omega) _) ?_
    simp only [aP, lI, l0, lS]
    refine readL (.int .i64 (-(c + 1))) rfl (by kernel_rfl) ?_
    simp only [aP, lI, l0]
    first | show Exit.then _ _ _ _ _ | show Exit.inBlock _ _ _ _ _
    have hrem : (-(c + 1)).tmod (n : Int) = ((kdn c n : Nat) : Int) := by
      unfold kdn
      rw [if_pos hc]
      obtain ⟨m, hm⟩ : ∃ m : Nat, -(c + 1) = (m : Int) := ⟨(-(c + 1)).toNat, by omega⟩
      rw [hm, Int.toNat_natCast]
      rfl
    go_upto_region 3 with fail
    refine wp_region_list ?_
    refine readL (.int .i64 (-(c + 1))) rfl (by kernel_rfl) ?_
    simp only [aP, lI, l0, lS]
    refine readL (.int .i64 (n : Int)) rfl (by kernel_rfl) ?_
    simp only [aP, lI, l0, lS]
    refine readL (.int .i64 ((kdn c n : Nat) : Int)) rfl (remI .i64 _ _ _ _ _ _ _ rfl rfl rfl (by omega) hrem _) ?_
    simp only [aP, lI, l0, lS]
    refine readL (.int .i64 ((kdn c n : Nat) : Int)) rfl (by kernel_rfl) ?_
    simp only [aP, lI, l0, lS]
    first | show Exit.then _ _ _ _ _ | show Exit.inBlock _ _ _ _ _
    have hB := M.below
    clear M
    go_wp2
    go_ret
    exact ⟨rfl, hB⟩
  · go_upto_region 1 with fail
    refine wp_region_list ?_
    refine readL (.int .i64 c) rfl (by kernel_rfl) ?_
    simp only [aP, lI, l0, lS]
    refine readL (.bool false) rfl (lssI .i64 _ _ _ _ _ _ rfl rfl rfl false (decide_eq_false hc) _) ?_
    simp only [aP, lI, l0, lS]
    first | show Exit.then _ _ _ _ _ | show Exit.inBlock _ _ _ _ _
    have hrem : (c).tmod (n : Int) = ((kdn c n : Nat) : Int) := by
      unfold kdn
      rw [if_neg hc]
      obtain ⟨m, hm⟩ : ∃ m : Nat, c = (m : Int) := ⟨(c).toNat, by omega⟩
      rw [hm, Int.toNat_natCast]
      rfl
    go_upto_region 3 with fail
    refine wp_region_list ?_
    refine readL (.int .i64 c) rfl (by kernel_rfl) ?_
    simp only [aP, lI, l0, lS]
    refine readL (.int .i64 (n : Int)) rfl (by kernel_rfl) ?_
    simp only [aP, lI, l0, lS]
    refine readL (.int .i64 ((kdn c n : Nat) : Int)) rfl (remI .i64 _ _ _ _ _ _ _ rfl rfl rfl (by omega) hrem _) ?_
    simp only [aP, lI, l0, lS]
    refine readL (.int .i64 ((kdn c n : Nat) : Int)) rfl (by kernel_rfl) ?_
    simp only [aP, lI, l0, lS]
    first | show Exit.then _ _ _ _ _ | show Exit.inBlock _ _ _ _ _
    have hB := M.below
    clear M
    go_wp2
    go_ret
    exact ⟨rfl, hB⟩
structure Opv where
  k : Int
  b : List Int
def Opc (v : Opv) (bp : Option Addr) (bc : Nat) : List Value := [.int .i64 v.k, .slice bp v.b.length bc]
structure OpV (w : World) (m : Nat) (v : Opv) (bp : Option Addr) (bc : Nat) : Prop where
  k_i : i64 v.k
  b_src : Src w bp v.b.length (bl v.b)
  b_le : v.b.length ≤ bc
  b_nil : bp = none → bc = 0
  b_max : v.b.length ≤ m
  b_byts : Byts v.b
def OpsIn (w : World) (m : Nat) (sp : Option Addr) (l : List Opv) : Prop := ∀ j v, l[j]? = some v → ∃ ad bp bc, sp = some ad ∧ (∀ k x, (Opc v bp bc)[k]? = some x → w.cell? ((ad.add (j * 2)).add k) = some x) ∧ OpV w m v bp bc
def opk (ops : List Opv) (j : Nat) : Int := (ops.getD j ⟨0, []⟩).k
def opb (ops : List Opv) (j : Nat) : List Int := (ops.getD j ⟨0, []⟩).b
structure OpAt (w : World) (ad : Addr) (j : Nat) (k : Int) (b : List Int) (bp : Option Addr) (bc : Nat) : Prop where
  kind : w.cell? (ad.add (j * 2)) = some (.int .i64 k)
  cell : w.cell? ((ad.add (j * 2)).add 1) = some (.slice bp b.length bc)
  le : b.length ≤ bc
  nil : bp = none → bc = 0
  src : Src w bp b.length (bl b)
  low : -9223372036854775808 ≤ k
  byts : Byts b
  len : b.length ≤ 140737488351232
def OpsAt (w : World) (sp : Option Addr) (ops : List Opv) : Prop := ∀ j, j < ops.length → ∃ ad bp bc, sp = some ad ∧ OpAt w ad j (opk ops j) (opb ops j) bp bc
theorem OpsIn.at {w : World} {sp : Option Addr} {ops : List Opv} {m : Nat} (h : OpsIn w m sp ops) (hm : m ≤ 140737488351232) : OpsAt w sp ops := fun j hj => by
  obtain ⟨ad, bp, bc, e, hc, hv⟩ := h j ops[j] (List.getElem?_eq_getElem hj)
  have ek : ops.getD j ⟨0, []⟩ = ops[j] := by rw [List.getD_eq_getElem?_getD, List.getElem?_eq_getElem hj]; rfl
  have hi := hv.k_i
  unfold i64 at hi
  unfold opk opb
  rw [ek]
  exact ⟨ad, bp, bc, e, ⟨by simpa [Addr.add] using hc 0 _ rfl, hc 1 _ rfl, hv.b_le, hv.b_nil, hv.b_src, by omega, hv.b_byts, Nat.le_trans hv.b_max hm⟩⟩
theorem opIdx {P : Program} {o : Oper} {a : Act} (t e : TypeId) (n len cap : Nat) (ad : Addr) (i : Nat) (x y : Operand) (hu : P.underlying t = some (.slice e)) (hsz : ∀ w, (sizeOf e).run P w = .ok n w) (hi : i < len) (ho : o.op = .indexAddr t x y) (hx : a.eval x = .slice (some ad) len cap) (hy : a.eval y = .int .i64 (i : Int)) (w : World) :
    (execOp a.eval o).run P w = .ok (.value (.pointer (some (ad.add (i * n))))) w := by
  have e1 : (Instr.indexAt t (.slice (some ad) len cap) (.int .i64 (i : Int))).run P w = .ok (.pointer (some (ad.add (i * n)))) w := by
    simp [Instr.indexAt, run_underlying hu, asIntOf, hsz]
    intro hf
    omega
  unfold execOp
  simp only [ho, hx, hy, Sem.run_bind, e1, Result.andThen_ok, Sem.run_pure]
theorem neqT {P : Program} {o : Oper} {a : Act} (s s' : ByteArray) (t t' : TypeId) (x y : Operand) (ho : o.op = .binOp .neq t x y t') (hx : a.eval x = .string s) (hy : a.eval y = .string s') (h : s = s') (w : World) : (execOp a.eval o).run P w = .ok (.value (.bool false)) w := by
  subst h
  unfold execOp
  simp only [ho, hx, hy, Sem.run_bind, eqGuard_at_string, binOp_string_neq, Sem.run_pure, Result.andThen_ok, beq_self_eq_true, Bool.not_true]
theorem sseal_n (s : Sym) (b : List Int) : (sseal s b).n ≤ s.n + 1 := by
  unfold sseal smix snext
  split
  · exact Nat.le_refl _
  · exact Nat.le_succ _
end Go.Proofs.YtgfpflcoknpbdaaDoor
