/- Texts of Yg Yh Hq, joined. -/
import Derived.Test.YtgfpflcoknpbdaaGreatDoorP1SymmetricPlays
import Derived.Test.YtgfpflcoknpbdaaGreatDoorP18SymmetricPlays
import Derived.Test.YtgfpflcoknpbdaaGreatDoorP6SymmetricPlays
import Derived.Test.YtgfpflcoknpbdaaGreatDoorP5SymmetricPlays
import Derived.Test.YtgfpflcoknpbdaaGreatDoorP4SymmetricPlays
set_option maxRecDepth 20000
set_option maxHeartbeats 64000000
namespace Go.Proofs.YtgfpflcoknpbdaaGreatDoor
open Go.RowKit
def kdn (c : Int) (n : Nat) : Nat := (if c < 0 then -(c + 1) else c).toNat % n
theorem kdn_lt (c : Int) (n : Nat) (h : 0 < n) : kdn c n < n := Nat.mod_lt _ h
theorem kind12_any (c : Int) (n : Nat) (hn : 0 < n) (h1 : -9223372036854775808 ≤ c) (w : World) :
    Calls Tryz.prog 7 #[.int .i64 c, .int .i64 (n : Int)] w fun e w' => e = .returned (.int .i64 (kdn c n : Int)) ∧ Below w.heap.size w w' := by
  have M := Mm.init w
  go_enter Tryz.func7, Tryz.ntmps7
  go_upto_region 0 with fail
  refine wp_region_list ?_
  refine readL (.int .i64 0) rfl (by kernel_rfl) ?_
  simp only [aP, lI, l0, lS]
  first | show Exit.then _ _ _ _ _ | show Exit.inBlock _ _ _ _ _
  by_cases hc : c < 0
  · go_upto_region 1 with fail
    refine wp_region_list ?_
    refine readL (.int .i64 c) rfl (by kernel_rfl) ?_
    simp only [aP, lI, l0, lS]
    refine readL (.bool true) rfl (lssI .i64 _ _ _ _ _ _ rfl rfl rfl true (decide_eq_true hc) _) ?_
    simp only [aP, lI, l0, lS]
    first | show Exit.then _ _ _ _ _ | show Exit.inBlock _ _ _ _ _
    go_upto_region 2 with fail
    refine wp_region_list ?_
    refine readL (.int .i64 c) rfl (by kernel_rfl) ?_
    simp only [aP, lI, l0, lS]
    refine readL (.int .i64 (c + 1)) rfl (addI .i64 _ _ _ _ _ _ _ rfl rfl rfl (by rw [IntKind.wrap_i64]; omega) _) ?_
    simp only [aP, lI, l0, lS]
    refine readL (.int .i64 (-(c + 1))) rfl (negI .i64 _ _ _ _ rfl rfl (by rw [IntKind.wrap_i64]; omega) _) ?_
    simp only [aP, lI, l0, lS]
    refine readL (.int .i64 (-(c + 1))) rfl (by kernel_rfl) ?_
    simp only [aP, lI, l0]
    first | show Exit.then _ _ _ _ _ | show Exit.inBlock _ _ _ _ _
    have hrem : (-(c + 1)).tmod (n : Int) = ((kdn c n : Nat) : Int) := by
      unfold kdn
      rw [if_pos hc]
      obtain ⟨m, hm⟩ : ∃ m : Nat, -(c + 1) = (m : Int) := ⟨(-(c + 1)).toNat, by omega⟩
      rw [hm, Int.toNat_natCast]
      rfl
    go_upto_region 3 with fail
    refine wp_region_list ?_
    refine readL (.int .i64 (-(c + 1))) rfl (by kernel_rfl) ?_
    simp only [aP, lI, l0, lS]
    refine readL (.int .i64 (n : Int)) rfl (by kernel_rfl) ?_
    simp only [aP, lI, l0, lS]
    refine readL (.int .i64 ((kdn c n : Nat) : Int)) rfl (remI .i64 _ _ _ _ _ _ _ rfl rfl rfl (by omega) hrem _) ?_
    simp only [aP, lI, l0, lS]
    refine readL (.int .i64 ((kdn c n : Nat) : Int)) rfl (by kernel_rfl) ?_
    simp only [aP, lI, l0, lS]
    first | show Exit.then _ _ _ _ _ | show Exit.inBlock _ _ _ _ _
    have hB := M.below
    clear M
    go_wp2
    go_ret
    exact ⟨rfl, hB⟩
  · go_upto_region 1 with fail
    refine wp_region_list ?_
    refine readL (.int .i64 c) rfl (by kernel_rfl) ?_
    simp only [aP, lI, l0, lS]
    refine readL (.bool false) rfl (lssI .i64 _ _ _ _ _ _ rfl rfl rfl false (decide_eq_false hc) _) ?_
    simp only [aP, lI, l0, lS]
    first | show Exit.then _ _ _ _ _ | show Exit.inBlock _ _ _ _ _
    have hrem : (c).tmod (n : Int) = ((kdn c n : Nat) : Int) := by
      unfold kdn
      rw [if_neg hc]
      obtain ⟨m, hm⟩ : ∃ m : Nat, c = (m : Int) := ⟨(c).toNat, by omega⟩
      rw [hm, Int.toNat_natCast]
      rfl
    go_upto_region 3 with fail
    refine wp_region_list ?_
    refine readL (.int .i64 c) rfl (by kernel_rfl) ?_
    simp only [aP, lI, l0, lS]
    refine readL (.int .i64 (n : Int)) rfl (by kernel_rfl) ?_
    simp only [aP, lI, l0, lS]
    refine readL (.int .i64 ((kdn c n : Nat) : Int)) rfl (remI .i64 _ _ _ _ _ _ _ rfl rfl rfl (by omega) hrem _) ?_
    simp only [aP, lI, l0, lS]
    refine readL (.int .i64 ((kdn c n : Nat) : Int)) rfl (by kernel_rfl) ?_
    simp only [aP, lI, l0, lS]
    first | show Exit.then _ _ _ _ _ | show Exit.inBlock _ _ _ _ _
    have hB := M.below
    clear M
    go_wp2
    go_ret
    exact ⟨rfl, hB⟩
structure Opv where
  k : Int
  b : List Int
def Opc (v : Opv) (bp : Option Addr) (bc : Nat) : List Value := [.int .i64 v.k, .slice bp v.b.length bc]
structure OpV (w : World) (m : Nat) (v : Opv) (bp : Option Addr) (bc : Nat) : Prop where
  k_i : i64 v.k
  b_src : Src w bp v.b.length (bl v.b)
  b_le : v.b.length ≤ bc
  b_nil : bp = none → bc = 0
  b_max : v.b.length ≤ m
  b_byts : Byts v.b
def OpsIn (w : World) (m : Nat) (sp : Option Addr) (l : List Opv) : Prop := ∀ j v, l[j]? = some v → ∃ ad bp bc, sp = some ad ∧ (∀ k x, (Opc v bp bc)[k]? = some x → w.cell? ((ad.add (j * 2)).add k) = some x) ∧ OpV w m v bp bc
def opk (ops : List Opv) (j : Nat) : Int := (ops.getD j ⟨0, []⟩).k
def opb (ops : List Opv) (j : Nat) : List Int := (ops.getD j ⟨0, []⟩).b
structure OpAt (w : World) (ad : Addr) (j : Nat) (k : Int) (b : List Int) (bp : Option Addr) (bc : Nat) : Prop where
  kind : w.cell? (ad.add (j * 2)) = some (.int .i64 k)
  cell : w.cell? ((ad.add (j * 2)).add 1) = some (.slice bp b.length bc)
  le : b.length ≤ bc
  nil : bp = none → bc = 0
  src : Src w bp b.length (bl b)
  low : -9223372036854775808 ≤ k
  byts : Byts b
  len : b.length ≤ 140737488351232
def OpsAt (w : World) (sp : Option Addr) (ops : List Opv) : Prop := ∀ j, j < ops.length → ∃ ad bp bc, sp = some ad ∧ OpAt w ad j (opk ops j) (opb ops j) bp bc
theorem OpsIn.at {w : World} {sp : Option Addr} {ops : List Opv} {m : Nat} (h : OpsIn w m sp ops) (hm : m ≤ 140737488351232) : OpsAt w sp ops := fun j hj => by
  obtain ⟨ad, bp, bc, e, hc, hv⟩ := h j ops[j] (List.getElem?_eq_getElem hj)
  have ek : ops.getD j ⟨0, []⟩ = ops[j] := by rw [List.getD_eq_getElem?_getD, List.getElem?_eq_getElem hj]; rfl
  have hi := hv.k_i
  unfold i64 at hi
  unfold opk opb
  rw [ek]
  exact ⟨ad, bp, bc, e, ⟨by simpa [Addr.add] using hc 0 _ rfl, hc 1 _ rfl, hv.b_le, hv.b_nil, hv.b_src, by omega, hv.b_byts, Nat.le_trans hv.b_max hm⟩⟩
theorem OpsIn.small {w : World} {sp : Option Addr} {ops : List Opv} {m : Nat} (h : OpsIn w m sp ops) (j : Nat) (hj : j < ops.length) : (opb ops j).length ≤ m := by
  obtain ⟨ad, bp, bc, e, hc, hv⟩ := h j ops[j] (List.getElem?_eq_getElem hj)
  have ek : ops.getD j ⟨0, []⟩ = ops[j] := by rw [List.getD_eq_getElem?_getD, List.getElem?_eq_getElem hj]; rfl
  unfold opb
  rw [ek]
  exact hv.b_max
theorem opIdx {P : Program} {o : Oper} {a : Act} (t e : TypeId) (n len cap : Nat) (ad : Addr) (i : Nat) (x y : Operand) (hu : P.underlying t = some (.slice e)) (hsz : ∀ w, (sizeOf e).run P w = .ok n w) (hi : i < len) (ho : o.op = .indexAddr t x y) (hx : a.eval x = .slice (some ad) len cap) (hy : a.eval y = .int .i64 (i : Int)) (w : World) :
    (execOp a.eval o).run P w = .ok (.value (.pointer (some (ad.add (i * n))))) w := by
  have e1 : (Instr.indexAt t (.slice (some ad) len cap) (.int .i64 (i : Int))).run P w = .ok (.pointer (some (ad.add (i * n)))) w := by
    simp [Instr.indexAt, run_underlying hu, asIntOf, hsz]
    intro hf
    omega
  unfold execOp
  simp only [ho, hx, hy, Sem.run_bind, e1, Result.andThen_ok, Sem.run_pure]
theorem neqT {P : Program} {o : Oper} {a : Act} (s s' : ByteArray) (t t' : TypeId) (x y : Operand) (ho : o.op = .binOp .neq t x y t') (hx : a.eval x = .string s) (hy : a.eval y = .string s') (h : s = s') (w : World) : (execOp a.eval o).run P w = .ok (.value (.bool false)) w := by
  subst h
  unfold execOp
  simp only [ho, hx, hy, Sem.run_bind, eqGuard_at_string, binOp_string_neq, Sem.run_pure, Result.andThen_ok, beq_self_eq_true, Bool.not_true]
theorem Mm.ofHas {w0 w : World} {l : List (Nat × List Value)} (h : Mm w0 l w) {g n : Nat} {f : Nat → Int} (H : Has w g .u8 n f) (h1 : w0.heap.size ≤ g) (h2 : g < w.heap.size) (h3 : ∀ p ∈ l, p.1 ≠ g) : Mm w0 ((g, row .u8 n f) :: l) w := by
  refine ⟨fun p hp => ?_, List.pairwise_cons.2 ⟨fun p hp => (h3 p hp).symm, h.apart⟩, h.below⟩
  rcases List.mem_cons.1 hp with rfl | hp
  · refine ⟨fun j hj => ?_, h1, h2⟩
    rw [row_length] at hj
    exact ⟨by rw [H.cell j hj, row_get .u8 n f j hj], H.free j hj⟩
  · exact h.rows p hp
theorem sseal_n (s : Sym) (b : List Int) : (sseal s b).n ≤ s.n + 1 := by
  unfold sseal smix snext
  split
  · exact Nat.le_refl _
  · exact Nat.le_succ _
theorem rol_any (n : Nat) (hn : n = 16 ∨ n = 12 ∨ n = 8 ∨ n = 7) (x : Int) (w : World) :
    Calls Tryz.prog 95 #[.int .u32 x, .int .i64 n] w fun e w' => ∃ q, e = .returned (.int .u32 (hrl n x)) ∧ w' = w.drewN q := by
  rcases hn with rfl | rfl | rfl | rfl
  · go_enter Tryz.func95, Tryz.ntmps95
    go_wp2
    go_quiet (fail)
    go_wp2
    go_ret
    exact ⟨nq, rfl, rfl⟩
  · go_enter Tryz.func95, Tryz.ntmps95
    go_wp2
    go_quiet (fail)
    go_wp2
    go_ret
    exact ⟨nq, rfl, rfl⟩
  · go_enter Tryz.func95, Tryz.ntmps95
    go_wp2
    go_quiet (fail)
    go_wp2
    go_ret
    exact ⟨nq, rfl, rfl⟩
  · go_enter Tryz.func95, Tryz.ntmps95
    go_wp2
    go_quiet (fail)
    go_wp2
    go_ret
    exact ⟨nq, rfl, rfl⟩
def hstep (x : Nat → Int) (a b d r : Nat) : Nat → Int := upd (upd x a (had (x a) (x b))) d (hrl r (hxr (upd x a (had (x a) (x b)) d) (upd x a (had (x a) (x b)) a)))
def sA (k : Nat) : Nat := k % 2 * 2
def sB (k : Nat) : Nat := (sA k + 1) % 4
def sD (k : Nat) : Nat := (sA k + 3) % 4
def sR : Nat → Nat
  | 0 => 16
  | 1 => 12
  | 2 => 8
  | _ + 3 => 7
def qs (x : Nat → Int) : Nat → Nat → Int
  | 0 => x
  | k + 1 => hstep (qs x k) (sA k) (sB k) (sD k) (sR k)
theorem qs_four (x : Nat → Int) (j : Nat) (hj : j < 4) : qs x 4 j = hqt x j := by
  match j, hj with
  | 0, _ | 1, _ | 2, _ | 3, _ => rfl
theorem sR_one (k : Nat) : sR k = 16 ∨ sR k = 12 ∨ sR k = 8 ∨ sR k = 7 := by
  match k with
  | 0 | 1 | 2 => simp [sR]
  | k + 3 => simp [sR]
theorem sR_quad (k : Nat) (hk : k < 4) : quad 16 12 8 7 k = (sR k : Int) := by
  match k, hk with
  | 0, _ | 1, _ | 2, _ | 3, _ => rfl
theorem idx4 (b i : Nat) (hi : i < 4) (w : World) {o : Oper} {a : Act} (x y : Operand) (ho : o.op = .indexAddr 102 x y) (hx : a.eval x = .pointer (some ⟨b, 0, none⟩)) (hy : a.eval y = .int .i64 (i : Int)) :
    (execOp a.eval o).run Tryz.prog w = .ok (.value (.pointer (some ⟨b, i, none⟩))) w := by
  have h := idxArr (P := Tryz.prog) 102 63 4 .i64 b 0 i x y Tryz.underlying102 (fun _ => by kernel_rfl) hi ho hx hy w
  rw [Nat.zero_add] at h
  exact h
theorem idxT (b i : Nat) (hi : i < 4) (w : World) {o : Oper} {a : Act} (x y : Operand) (ho : o.op = .indexAddr 89 x y) (hx : a.eval x = .slice (some ⟨b, 0, none⟩) 4 4) (hy : a.eval y = .int .i64 (i : Int)) :
    (execOp a.eval o).run Tryz.prog w = .ok (.value (.pointer (some ⟨b, i, none⟩))) w := by
  have h := idxSl (P := Tryz.prog) 89 3 4 4 .i64 ⟨b, 0, none⟩ i x y Tryz.underlying89 (fun _ => by kernel_rfl) hi ho hx hy w
  rw [Addr.add_mid, Nat.zero_add] at h
  exact h
structure HRI (w : World) (f : Nat → Int) (w' : World) : Prop where
  hs : Has w' w.heap.size .u32 4 f
  hr : Has w' (w.heap.size + 1) .u32 4 (fun _ => 0)
  ht : Has w' (w.heap.size + 1 + 1) .i64 4 (quad 16 12 8 7)
  fr : Fr w 3 w'
theorem HRI.drewN {w : World} {f : Nat → Int} {w' : World} (h : HRI w f w') (q : Nat) : HRI w f (w'.drewN q) := ⟨⟨h.hs.cell, h.hs.free⟩, ⟨h.hr.cell, h.hr.free⟩, ⟨h.ht.cell, h.ht.free⟩, ⟨below_drewN h.fr.below, h.fr.size⟩⟩
theorem HRI.drew {w : World} {f : Nat → Int} {w' : World} (h : HRI w f w') : HRI w f w'.drew := ⟨h.hs.drew, h.hr.drew, h.ht.drew, h.fr.drew⟩
theorem HRI.set {w : World} {f : Nat → Int} {w' : World} (h : HRI w f w') (i : Nat) (hi : i < 4) (v : Int) : HRI w (upd f i v) (w'.setCell ⟨w.heap.size, i, none⟩ (.int .u32 v)) :=
  ⟨h.hs.set i hi v, h.hr.set_other _ _ (by simp), h.ht.set_other _ _ (by simp; omega), h.fr.set _ _ (by simp)⟩
theorem refQuarter_any (x : Nat → Int) (w : World) :
    Calls Tryz.prog 74 #[(.agg (row .u32 4 (x)).toArray)] w fun e w' => e = .returned (.agg (row .u32 4 (hqt x)).toArray) ∧ Below w.heap.size w w' := by
  go_enter Tryz.func74, Tryz.ntmps74
  go_wp2
  go_loopw [4] (fun i w' => ∃ k : Nat, k ≤ 4 ∧ i = .int .i64 k ∧ HRI w (qs x k) w') (fun i _ => 4 - (intOf i).toNat)
  case atStart => exact ⟨0, by omega, rfl, ⟨((Has.new w _ _ _ _ _ rfl).alloc _ (by simp)).alloc _ (by simp; omega), (hq_zero _ _ _ (by simp)).alloc _ (by simp), Has.new _ .i64 4 (quad 16 12 8 7) _ _ (by simp), (((Fr.refl w).alloc _).alloc _).alloc _⟩⟩
  case round =>
    obtain ⟨k, hk, rfl, K⟩ := hrel
    have g1 : (0 : Int) ≤ (k : Int) := by omega
    by_cases hlt : k < 4
    · have g2 : (k : Int) < 4 := by omega
      have HT := show Hid _ from (show qs x (k + 1) = hstep (qs x k) (sA k) (sB k) (sD k) (sR k) from rfl)
      have a1 : sA k < 4 := by unfold sA; omega
      have a2 : sB k < 4 := by unfold sB; omega
      have a3 : sD k < 4 := by unfold sD; omega
      have e1 : ((k : Int)).tmod 2 = ((k % 2 : Nat) : Int) := by rw [Int.tmod_eq_emod_of_nonneg g1]; omega
      have e2 : IntKind.i64.wrap (((k % 2 : Nat) : Int) * 2) = (sA k : Int) := by rw [IntKind.wrap_i64]; unfold sA; omega
      have e3 : IntKind.i64.wrap ((sA k : Int) + 1) = ((sA k + 1 : Nat) : Int) := by rw [IntKind.wrap_i64]; omega
      have e4 : (((sA k + 1 : Nat) : Int)).tmod 4 = (sB k : Int) := by rw [Int.tmod_eq_emod_of_nonneg (by omega)]; unfold sB; omega
      have e5 : IntKind.i64.wrap ((sA k : Int) + 3) = ((sA k + 3 : Nat) : Int) := by rw [IntKind.wrap_i64]; omega
      have e6 : (((sA k + 3 : Nat) : Int)).tmod 4 = (sD k : Int) := by rw [Int.tmod_eq_emod_of_nonneg (by omega)]; unfold sD; omega
      have e7 := sR_quad k hlt
      have hR := fun x w => rol_any (sR k) (sR_one k) x w
      generalize sA k = A at *
      generalize sB k = B at *
      generalize sD k = D at *
      generalize sR k = R at *
      generalize qs x k = f at *
      go_upto_region 5 with fail
      refine wp_region_list ?_
      refine pureL (.int .i64 (k : Int)) rfl (fun _ => by kernel_rfl) ?_
      simp only [aP, lI, l0, lS]
      refine pureL (.int .i64 ((k % 2 : Nat) : Int)) rfl (fun w => remI .i64 _ _ _ _ _ _ _ rfl rfl rfl (by decide) e1 w) ?_
      simp only [aP, lI, l0, lS]
      refine pureL (.int .i64 (A : Int)) rfl (fun w => mulI .i64 _ _ _ _ _ _ _ rfl rfl rfl e2 w) ?_
      simp only [aP, lI, l0, lS]
      refine pureL (.int .i64 (A : Int)) rfl (fun _ => by kernel_rfl) ?_
      simp only [aP, lI, l0, lS]
      show Exit.then _ _ _ _ _
      go_upto_region 6 with fail
      refine wp_region_C (S := fun w' => HRI w f w') 11 (by kernel_rfl) K.drew ?_
      clear K
      intro K
      refine pureCg (i := 0) (some 15) rfl (.int .i64 (A : Int)) rfl (by decide) rfl (fun _ => by kernel_rfl) K ?_
      simp only [aP, lI, l0, lS]
      refine pureCg (i := 1) (some 16) rfl (.int .i64 (A : Int)) rfl (by decide) rfl (fun _ => by kernel_rfl) K ?_
      simp only [aP, lI, l0, lS]
      refine pureCg (i := 2) (some 17) rfl (.pointer (some ⟨w.heap.size, A, none⟩)) rfl (by decide) rfl (fun w' => idx4 w.heap.size A a1 w' _ _ rfl rfl rfl) K ?_
      simp only [aP, lI, l0, lS]
      refine cellC (i := 3) (some 18) rfl .u32 (.int .u32 (f A)) w.heap.size A 63 _ rfl rfl (by kernel_rfl) rfl rfl rfl (by kernel_rfl) (by kernel_rfl) (by kernel_rfl) (by kernel_rfl) (fun _ _ _ h => h) Tryz.underlying63 K (fun _ h => h.hs.cell A a1) ?_
      simp only [aP, lI, l0, lS]
      refine pureCg (i := 4) (some 19) rfl (.int .i64 (A : Int)) rfl (by decide) rfl (fun _ => by kernel_rfl) K ?_
      simp only [aP, lI, l0, lS]
      refine pureCg (i := 5) (some 20) rfl (.int .i64 ((A + 1 : Nat) : Int)) rfl (by decide) rfl (fun w => addI .i64 _ _ _ _ _ _ _ rfl rfl rfl e3 w) K ?_
      simp only [aP, lI, l0, lS]
      refine pureCg (i := 6) (some 21) rfl (.int .i64 (B : Int)) rfl (by decide) rfl (fun w => remI .i64 _ _ _ _ _ _ _ rfl rfl rfl (by decide) e4 w) K ?_
      simp only [aP, lI, l0, lS]
      refine pureCg (i := 7) (some 22) rfl (.pointer (some ⟨w.heap.size, B, none⟩)) rfl (by decide) rfl (fun w' => idx4 w.heap.size B a2 w' _ _ rfl rfl rfl) K ?_
      simp only [aP, lI, l0, lS]
      refine cellC (i := 8) (some 23) rfl .u32 (.int .u32 (f B)) w.heap.size B 63 _ rfl rfl (by kernel_rfl) rfl rfl rfl (by kernel_rfl) (by kernel_rfl) (by kernel_rfl) (by kernel_rfl) (fun _ _ _ h => h) Tryz.underlying63 K (fun _ h => h.hs.cell B a2) ?_
      simp only [aP, lI, l0, lS]
      refine pureCg (i := 9) (some 24) rfl (.int .u32 (had (f A) (f B))) rfl (by decide) rfl (fun w => addI .u32 _ _ _ _ _ _ _ rfl rfl rfl (by rw [IntKind.wrap_u32']; rfl) w) K ?_
      simp only [aP, lI, l0, lS]
      refine pureCg (i := 10) (some 25) rfl (.pointer (some ⟨w.heap.size, A, none⟩)) rfl (by decide) rfl (fun w' => idx4 w.heap.size A a1 w' _ _ rfl rfl rfl) K ?_
      simp only [aP, lI, l0, lS]
      refine storeC (S2 := fun _ => True) none rfl .u32 (had (f A) (f B)) w.heap.size A 63 _ _ (by kernel_rfl) rfl rfl rfl rfl rfl (by rw [K.hs.cell A a1]; rfl) (K.hs.free A a1) (by kernel_rfl) (by kernel_rfl) ?_
      simp only [Act.put]
      replace K := K.set A a1 (had (f A) (f B))
      have HU := show Hid _ from (show hstep f A B D R = upd (upd f A (had (f A) (f B))) D (hrl R (hxr (upd f A (had (f A) (f B)) D) (upd f A (had (f A) (f B)) A))) from rfl)
      generalize upd f A (had (f A) (f B)) = g at *
      refine wpAnyH_done (by kernel_rfl) ?_ _
      generalize wr.drew.setCell ⟨w.heap.size, A, none⟩ (.int .u32 (had (f A) (f B))) = w1 at K ⊢
      go_upto_region 7 with fail
      refine wp_region_list ?_
      refine pureL (.int .i64 (A : Int)) rfl (fun _ => by kernel_rfl) ?_
      simp only [aP, lI, l0, lS]
      refine pureL (.int .i64 ((A + 3 : Nat) : Int)) rfl (fun w => addI .i64 _ _ _ _ _ _ _ rfl rfl rfl e5 w) ?_
      simp only [aP, lI, l0, lS]
      refine pureL (.int .i64 (D : Int)) rfl (fun w => remI .i64 _ _ _ _ _ _ _ rfl rfl rfl (by decide) e6 w) ?_
      simp only [aP, lI, l0, lS]
      refine pureL (.int .i64 (D : Int)) rfl (fun _ => by kernel_rfl) ?_
      simp only [aP, lI, l0, lS]
      show Exit.then _ _ _ _ _
      go_upto_region 8 with fail
      refine wp_region_C (S := fun w' => HRI w g w') 14 (by kernel_rfl) K.drew ?_
      clear K
      intro K
      refine pureCg (i := 0) (some 29) rfl (.int .i64 (D : Int)) rfl (by decide) rfl (fun _ => by kernel_rfl) K ?_
      simp only [aP, lI, l0, lS]
      refine pureCg (i := 1) (some 30) rfl (.int .i64 (D : Int)) rfl (by decide) rfl (fun _ => by kernel_rfl) K ?_
      simp only [aP, lI, l0, lS]
      refine pureCg (i := 2) (some 31) rfl (.pointer (some ⟨w.heap.size, D, none⟩)) rfl (by decide) rfl (fun w' => idx4 w.heap.size D a3 w' _ _ rfl rfl rfl) K ?_
      simp only [aP, lI, l0, lS]
      refine cellC (i := 3) (some 32) rfl .u32 (.int .u32 (g D)) w.heap.size D 63 _ rfl rfl (by kernel_rfl) rfl rfl rfl (by kernel_rfl) (by kernel_rfl) (by kernel_rfl) (by kernel_rfl) (fun _ _ _ h => h) Tryz.underlying63 K (fun _ h => h.hs.cell D a3) ?_
      simp only [aP, lI, l0, lS]
      refine pureCg (i := 4) (some 33) rfl (.int .i64 (A : Int)) rfl (by decide) rfl (fun _ => by kernel_rfl) K ?_
      simp only [aP, lI, l0, lS]
      refine pureCg (i := 5) (some 34) rfl (.pointer (some ⟨w.heap.size, A, none⟩)) rfl (by decide) rfl (fun w' => idx4 w.heap.size A a1 w' _ _ rfl rfl rfl) K ?_
      simp only [aP, lI, l0, lS]
      refine cellC (i := 6) (some 35) rfl .u32 (.int .u32 (g A)) w.heap.size A 63 _ rfl rfl (by kernel_rfl) rfl rfl rfl (by kernel_rfl) (by kernel_rfl) (by kernel_rfl) (by kernel_rfl) (fun _ _ _ h => h) Tryz.underlying63 K (fun _ h => h.hs.cell A a1) ?_
      simp only [aP, lI, l0, lS]
      refine pureCg (i := 7) (some 36) rfl (.int .u32 (hxr (g D) (g A))) rfl (by decide) rfl (fun w => xorI .u32 _ _ _ _ _ _ _ rfl rfl rfl rfl w) K ?_
      simp only [aP, lI, l0, lS]
      refine pureCg (i := 8) (some 37) rfl (.slice (some ⟨w.heap.size + 1 + 1, 0, none⟩) 4 4) rfl (by decide) rfl (fun _ => by kernel_rfl) K ?_
      simp only [aP, lI, l0, lS]
      refine pureCg (i := 9) (some 38) rfl (.int .i64 (k : Int)) rfl (by decide) rfl (fun _ => by kernel_rfl) K ?_
      simp only [aP, lI, l0, lS]
      refine pureCg (i := 10) (some 39) rfl (.pointer (some ⟨w.heap.size + 1 + 1, k, none⟩)) rfl (by decide) rfl (fun w' => idxT (w.heap.size + 1 + 1) k hlt w' _ _ rfl rfl rfl) K ?_
      simp only [aP, lI, l0, lS]
      refine cellC (i := 11) (some 40) rfl .i64 (.int .i64 (R : Int)) (w.heap.size + 1 + 1) k 3 _ rfl rfl (by kernel_rfl) rfl rfl rfl (by kernel_rfl) (by kernel_rfl) (by kernel_rfl) (by kernel_rfl) (fun _ _ _ h => h) Tryz.underlying3 K (fun _ h => by rw [h.ht.cell k hlt, e7]) ?_
      simp only [aP, lI, l0, lS]
      refine callMC (i := 12) (some 41) rfl (by kernel_rfl) rfl rfl (fun _ => by kernel_rfl) (hR (hxr (g D) (g A)) _) ?_
      rintro e w2 ⟨q, rfl, rfl⟩
      replace K := K.drewN q
      refine ⟨_, rfl, K, ?_⟩
      simp only [aP, lI, l0, lS]
      refine pureCg (i := 13) (some 42) rfl (.pointer (some ⟨w.heap.size, D, none⟩)) rfl (by decide) rfl (fun w' => idx4 w.heap.size D a3 w' _ _ rfl rfl rfl) K ?_
      simp only [aP, lI, l0, lS]
      refine storeC (S2 := fun _ => True) none rfl .u32 (hrl R (hxr (g D) (g A))) w.heap.size D 63 _ _ (by kernel_rfl) rfl rfl rfl rfl rfl (by rw [K.hs.cell D a3]; rfl) (K.hs.free D a3) (by kernel_rfl) (by kernel_rfl) ?_
      simp only [Act.put]
      replace K := K.set D a3 (hrl R (hxr (g D) (g A)))
      rw [← HU.out, ← HT.out] at K
      refine wpAnyH_done (by kernel_rfl) ?_ _
      generalize ((w1.drew.drewN q).setCell ⟨w.heap.size, D, none⟩ (.int .u32 (hrl R (hxr (g D) (g A))))) = w3 at K ⊢
      have HS := show Hid _ from K
      clear K e1 e2 e3 e4 e5 e6 e7 hR HU HT a1 a2 a3
      go_wp2
      go_roundw
      case rel => first | exact ⟨k + 1, by omega, by go_num, HS.out⟩ | ((repeat apply Exists.intro); refine ⟨⟨k + 1, by omega, ?_, HS.out⟩, rfl⟩ <;> first | rfl | go_num)
      case measure => simp [intOf]; omega
    · obtain rfl : k = 4 := by omega
      have hs := K.hs.congr (g := hqt x) (fun j hj => qs_four x j hj)
      have hz := K.hr
      have hB := (K.fr.setAll (w.heap.size + 1) (by omega) (row .u32 4 (hqt x))).below
      clear K hlt hk g1
      generalize hf : hqt x = f at *
      go_wp2_with (first | (refine wpList_load_mid rfl 102 _ rfl (w.heap.size) 0 rfl (row .u32 4 (f)) _ (Has.range (hs)) Tryz.underlying102 rfl (hq_info _) ?_) | (refine wpList_store_mid rfl 102 _ _ rfl (w.heap.size + 1) 0 (row .u32 4 (f)).toArray rfl rfl (hq_there (hz)) (hq_info' _) (all_oneCell_toArray (row_one _ _ _)) ?_))
      exact bodyPost_ret (v := (.agg (row .u32 4 (f)).toArray)) (results_row Tryz.results74 rfl (Has.all hz.there .u32 _).range Tryz.underlying102 rfl (hq_info _)) rfl ⟨by first | rfl | rw [hf], hB⟩
end Go.Proofs.YtgfpflcoknpbdaaGreatDoor
