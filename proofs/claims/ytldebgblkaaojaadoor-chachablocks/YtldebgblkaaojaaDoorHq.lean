/- What the document's own rol and Quarter answer. -/
import Derived.Test.YtldebgblkaaojaaDoorHc
import Derived.Test.YtldebgblkaaojaaDoorAr
namespace Go.Proofs.YtldebgblkaaojaaDoor
open Go.RowKit

set_option maxHeartbeats 1000000 in
theorem rol_any (n : Nat) (hn : n = 16 ∨ n = 12 ∨ n = 8 ∨ n = 7) (x : Int) (w : World) :
    Calls Tryd.prog 17 #[.int .u32 x, .int .i64 n] w fun e w' => ∃ q, e = .returned (.int .u32 (hrl n x)) ∧ w' = w.drewN q := by
  rcases hn with rfl | rfl | rfl | rfl
  · go_enter Tryd.func17, Tryd.ntmps17
    go_wp2
    go_quiet (fail)
    go_wp2
    go_ret
    exact ⟨nq, rfl, rfl⟩
  · go_enter Tryd.func17, Tryd.ntmps17
    go_wp2
    go_quiet (fail)
    go_wp2
    go_ret
    exact ⟨nq, rfl, rfl⟩
  · go_enter Tryd.func17, Tryd.ntmps17
    go_wp2
    go_quiet (fail)
    go_wp2
    go_ret
    exact ⟨nq, rfl, rfl⟩
  · go_enter Tryd.func17, Tryd.ntmps17
    go_wp2
    go_quiet (fail)
    go_wp2
    go_ret
    exact ⟨nq, rfl, rfl⟩

/-- A quarter of a quarter round, as the document takes it: x[a] and x[b] summed, x[d] turned. -/
def hstep (x : Nat → Int) (a b d r : Nat) : Nat → Int := upd (upd x a (had (x a) (x b))) d (hrl r (hxr (upd x a (had (x a) (x b)) d) (upd x a (had (x a) (x b)) a)))
def sA (k : Nat) : Nat := k % 2 * 2
def sB (k : Nat) : Nat := (sA k + 1) % 4
def sD (k : Nat) : Nat := (sA k + 3) % 4
def sR : Nat → Nat
  | 0 => 16
  | 1 => 12
  | 2 => 8
  | _ + 3 => 7
def qs (x : Nat → Int) : Nat → Nat → Int
  | 0 => x
  | k + 1 => hstep (qs x k) (sA k) (sB k) (sD k) (sR k)
theorem qs_four (x : Nat → Int) (j : Nat) (hj : j < 4) : qs x 4 j = hqt x j := by
  match j, hj with
  | 0, _ | 1, _ | 2, _ | 3, _ => rfl
theorem sR_one (k : Nat) : sR k = 16 ∨ sR k = 12 ∨ sR k = 8 ∨ sR k = 7 := by
  match k with
  | 0 | 1 | 2 => simp [sR]
  | k + 3 => simp [sR]
theorem sR_quad (k : Nat) (hk : k < 4) : quad 16 12 8 7 k = (sR k : Int) := by
  match k, hk with
  | 0, _ | 1, _ | 2, _ | 3, _ => rfl
theorem idx4 (b i : Nat) (hi : i < 4) (w : World) {o : Oper} {a : Act} (x y : Operand) (ho : o.op = .indexAddr 23 x y) (hx : a.eval x = .pointer (some ⟨b, 0, none⟩)) (hy : a.eval y = .int .i64 (i : Int)) :
    (execOp a.eval o).run Tryd.prog w = .ok (.value (.pointer (some ⟨b, i, none⟩))) w := by
  have h := idxArr (P := Tryd.prog) 23 22 4 .i64 b 0 i x y Tryd.underlying23 (fun _ => by kernel_rfl) hi ho hx hy w
  rw [Nat.zero_add] at h
  exact h
theorem idxT (b i : Nat) (hi : i < 4) (w : World) {o : Oper} {a : Act} (x y : Operand) (ho : o.op = .indexAddr 44 x y) (hx : a.eval x = .slice (some ⟨b, 0, none⟩) 4 4) (hy : a.eval y = .int .i64 (i : Int)) :
    (execOp a.eval o).run Tryd.prog w = .ok (.value (.pointer (some ⟨b, i, none⟩))) w := by
  have h := idxSl (P := Tryd.prog) 44 3 4 4 .i64 ⟨b, 0, none⟩ i x y Tryd.underlying44 (fun _ => by kernel_rfl) hi ho hx hy w
  rw [Addr.add_mid, Nat.zero_add] at h
  exact h

/-- The four words, the room for the answer, the four turns. -/
structure HRI (w : World) (f : Nat → Int) (w' : World) : Prop where
  hs : Has w' w.heap.size .u32 4 f
  hr : Has w' (w.heap.size + 1) .u32 4 (fun _ => 0)
  ht : Has w' (w.heap.size + 1 + 1) .i64 4 (quad 16 12 8 7)
  fr : Fr w 3 w'
theorem HRI.drewN {w : World} {f : Nat → Int} {w' : World} (h : HRI w f w') (q : Nat) : HRI w f (w'.drewN q) := ⟨⟨h.hs.cell, h.hs.free⟩, ⟨h.hr.cell, h.hr.free⟩, ⟨h.ht.cell, h.ht.free⟩, ⟨below_drewN h.fr.below, h.fr.size⟩⟩
theorem HRI.drew {w : World} {f : Nat → Int} {w' : World} (h : HRI w f w') : HRI w f w'.drew := ⟨h.hs.drew, h.hr.drew, h.ht.drew, h.fr.drew⟩
theorem HRI.set {w : World} {f : Nat → Int} {w' : World} (h : HRI w f w') (i : Nat) (hi : i < 4) (v : Int) : HRI w (upd f i v) (w'.setCell ⟨w.heap.size, i, none⟩ (.int .u32 v)) :=
  ⟨h.hs.set i hi v, h.hr.set_other _ _ (by simp), h.ht.set_other _ _ (by simp; omega), h.fr.set _ _ (by simp)⟩

set_option maxRecDepth 10000 in
set_option maxHeartbeats 4000000 in
theorem refQuarter_any (x : Nat → Int) (w : World) :
    Calls Tryd.prog 11 #[(.agg (row .u32 4 (x)).toArray)] w fun e w' => e = .returned (.agg (row .u32 4 (hqt x)).toArray) ∧ Below w.heap.size w w' := by
  go_enter Tryd.func11, Tryd.ntmps11
  go_wp2
  go_loopw [4] (fun i w' => ∃ k : Nat, k ≤ 4 ∧ i = .int .i64 k ∧ HRI w (qs x k) w') (fun i _ => 4 - (intOf i).toNat)
  case atStart => exact ⟨0, by omega, rfl, ⟨((Has.new w _ _ _ _ _ rfl).alloc _ (by simp)).alloc _ (by simp; omega), (hq_zero _ _ _ (by simp)).alloc _ (by simp), Has.new _ .i64 4 (quad 16 12 8 7) _ _ (by simp), (((Fr.refl w).alloc _).alloc _).alloc _⟩⟩
  case round =>
    obtain ⟨k, hk, rfl, K⟩ := hrel
    have g1 : (0 : Int) ≤ (k : Int) := by omega
    by_cases hlt : k < 4
    · have g2 : (k : Int) < 4 := by omega
      have HT := show Hid _ from (show qs x (k + 1) = hstep (qs x k) (sA k) (sB k) (sD k) (sR k) from rfl)
      have a1 : sA k < 4 := by unfold sA; omega
      have a2 : sB k < 4 := by unfold sB; omega
      have a3 : sD k < 4 := by unfold sD; omega
      have e1 : ((k : Int)).tmod 2 = ((k % 2 : Nat) : Int) := by rw [Int.tmod_eq_emod_of_nonneg g1]; omega
      have e2 : IntKind.i64.wrap (((k % 2 : Nat) : Int) * 2) = (sA k : Int) := by rw [IntKind.wrap_i64]; unfold sA; omega
      have e3 : IntKind.i64.wrap ((sA k : Int) + 1) = ((sA k + 1 : Nat) : Int) := by rw [IntKind.wrap_i64]; omega
      have e4 : (((sA k + 1 : Nat) : Int)).tmod 4 = (sB k : Int) := by rw [Int.tmod_eq_emod_of_nonneg (by omega)]; unfold sB; omega
      have e5 : IntKind.i64.wrap ((sA k : Int) + 3) = ((sA k + 3 : Nat) : Int) := by rw [IntKind.wrap_i64]; omega
      have e6 : (((sA k + 3 : Nat) : Int)).tmod 4 = (sD k : Int) := by rw [Int.tmod_eq_emod_of_nonneg (by omega)]; unfold sD; omega
      have e7 := sR_quad k hlt
      have hR := fun x w => rol_any (sR k) (sR_one k) x w
      generalize sA k = A at *
      generalize sB k = B at *
      generalize sD k = D at *
      generalize sR k = R at *
      generalize qs x k = f at *
      go_upto_region 5 with fail
      refine wp_region_list ?_
      refine pureL (.int .i64 (k : Int)) rfl (fun _ => by kernel_rfl) ?_
      simp only [Act.put, List.setIfInBounds_toArray, List.set_cons_zero, List.set_cons_succ]
      refine pureL (.int .i64 ((k % 2 : Nat) : Int)) rfl (fun w => remI .i64 _ _ _ _ _ _ _ rfl rfl rfl (by decide) e1 w) ?_
      simp only [Act.put, List.setIfInBounds_toArray, List.set_cons_zero, List.set_cons_succ]
      refine pureL (.int .i64 (A : Int)) rfl (fun w => mulI .i64 _ _ _ _ _ _ _ rfl rfl rfl e2 w) ?_
      simp only [Act.put, List.setIfInBounds_toArray, List.set_cons_zero, List.set_cons_succ]
      refine pureL (.int .i64 (A : Int)) rfl (fun _ => by kernel_rfl) ?_
      simp only [Act.put, List.setIfInBounds_toArray, List.set_cons_zero, List.set_cons_succ]
      show Exit.then _ _ _ _ _
      go_upto_region 6 with fail
      refine wp_region_C (S := fun w' => HRI w f w') 11 (by kernel_rfl) K.drew ?_
      clear K
      intro K
      refine pureC (i := 0) (some 15) rfl (.int .i64 (A : Int)) rfl (by decide) rfl (fun _ => by kernel_rfl) (by kernel_rfl) (by kernel_rfl) (by kernel_rfl) (fun _ _ _ h => h) K ?_
      simp only [Act.put, List.setIfInBounds_toArray, List.set_cons_zero, List.set_cons_succ]
      refine pureC (i := 1) (some 16) rfl (.int .i64 (A : Int)) rfl (by decide) rfl (fun _ => by kernel_rfl) (by kernel_rfl) (by kernel_rfl) (by kernel_rfl) (fun _ _ _ h => h) K ?_
      simp only [Act.put, List.setIfInBounds_toArray, List.set_cons_zero, List.set_cons_succ]
      refine pureC (i := 2) (some 17) rfl (.pointer (some ⟨w.heap.size, A, none⟩)) rfl (by decide) rfl (fun w' => idx4 w.heap.size A a1 w' _ _ rfl rfl rfl) (by kernel_rfl) (by kernel_rfl) (by kernel_rfl) (fun _ _ _ h => h) K ?_
      simp only [Act.put, List.setIfInBounds_toArray, List.set_cons_zero, List.set_cons_succ]
      refine cellC (i := 3) (some 18) rfl .u32 (.int .u32 (f A)) w.heap.size A 22 _ rfl rfl (by kernel_rfl) rfl rfl rfl (by kernel_rfl) (by kernel_rfl) (by kernel_rfl) (by kernel_rfl) (fun _ _ _ h => h) Tryd.underlying22 K (fun _ h => h.hs.cell A a1) ?_
      simp only [Act.put, List.setIfInBounds_toArray, List.set_cons_zero, List.set_cons_succ]
      refine pureC (i := 4) (some 19) rfl (.int .i64 (A : Int)) rfl (by decide) rfl (fun _ => by kernel_rfl) (by kernel_rfl) (by kernel_rfl) (by kernel_rfl) (fun _ _ _ h => h) K ?_
      simp only [Act.put, List.setIfInBounds_toArray, List.set_cons_zero, List.set_cons_succ]
      refine pureC (i := 5) (some 20) rfl (.int .i64 ((A + 1 : Nat) : Int)) rfl (by decide) rfl (fun w => addI .i64 _ _ _ _ _ _ _ rfl rfl rfl e3 w) (by kernel_rfl) (by kernel_rfl) (by kernel_rfl) (fun _ _ _ h => h) K ?_
      simp only [Act.put, List.setIfInBounds_toArray, List.set_cons_zero, List.set_cons_succ]
      refine pureC (i := 6) (some 21) rfl (.int .i64 (B : Int)) rfl (by decide) rfl (fun w => remI .i64 _ _ _ _ _ _ _ rfl rfl rfl (by decide) e4 w) (by kernel_rfl) (by kernel_rfl) (by kernel_rfl) (fun _ _ _ h => h) K ?_
      simp only [Act.put, List.setIfInBounds_toArray, List.set_cons_zero, List.set_cons_succ]
      refine pureC (i := 7) (some 22) rfl (.pointer (some ⟨w.heap.size, B, none⟩)) rfl (by decide) rfl (fun w' => idx4 w.heap.size B a2 w' _ _ rfl rfl rfl) (by kernel_rfl) (by kernel_rfl) (by kernel_rfl) (fun _ _ _ h => h) K ?_
      simp only [Act.put, List.setIfInBounds_toArray, List.set_cons_zero, List.set_cons_succ]
      refine cellC (i := 8) (some 23) rfl .u32 (.int .u32 (f B)) w.heap.size B 22 _ rfl rfl (by kernel_rfl) rfl rfl rfl (by kernel_rfl) (by kernel_rfl) (by kernel_rfl) (by kernel_rfl) (fun _ _ _ h => h) Tryd.underlying22 K (fun _ h => h.hs.cell B a2) ?_
      simp only [Act.put, List.setIfInBounds_toArray, List.set_cons_zero, List.set_cons_succ]
      refine pureC (i := 9) (some 24) rfl (.int .u32 (had (f A) (f B))) rfl (by decide) rfl (fun w => addI .u32 _ _ _ _ _ _ _ rfl rfl rfl (by rw [IntKind.wrap_u32']; rfl) w) (by kernel_rfl) (by kernel_rfl) (by kernel_rfl) (fun _ _ _ h => h) K ?_
      simp only [Act.put, List.setIfInBounds_toArray, List.set_cons_zero, List.set_cons_succ]
      refine pureC (i := 10) (some 25) rfl (.pointer (some ⟨w.heap.size, A, none⟩)) rfl (by decide) rfl (fun w' => idx4 w.heap.size A a1 w' _ _ rfl rfl rfl) (by kernel_rfl) (by kernel_rfl) (by kernel_rfl) (fun _ _ _ h => h) K ?_
      simp only [Act.put, List.setIfInBounds_toArray, List.set_cons_zero, List.set_cons_succ]
      refine storeC (S2 := fun _ => True) none rfl .u32 (had (f A) (f B)) w.heap.size A 22 _ _ (by kernel_rfl) rfl rfl rfl rfl rfl (by rw [K.hs.cell A a1]; rfl) (K.hs.free A a1) (by kernel_rfl) (by kernel_rfl) ?_
      simp only [Act.put]
      replace K := K.set A a1 (had (f A) (f B))
      have HU := show Hid _ from (show hstep f A B D R = upd (upd f A (had (f A) (f B))) D (hrl R (hxr (upd f A (had (f A) (f B)) D) (upd f A (had (f A) (f B)) A))) from rfl)
      generalize upd f A (had (f A) (f B)) = g at *
      refine wpAnyH_done (by kernel_rfl) ?_ _
      generalize wr.drew.setCell ⟨w.heap.size, A, none⟩ (.int .u32 (had (f A) (f B))) = w1 at K ⊢
      go_upto_region 7 with fail
      refine wp_region_list ?_
      refine pureL (.int .i64 (A : Int)) rfl (fun _ => by kernel_rfl) ?_
      simp only [Act.put, List.setIfInBounds_toArray, List.set_cons_zero, List.set_cons_succ]
      refine pureL (.int .i64 ((A + 3 : Nat) : Int)) rfl (fun w => addI .i64 _ _ _ _ _ _ _ rfl rfl rfl e5 w) ?_
      simp only [Act.put, List.setIfInBounds_toArray, List.set_cons_zero, List.set_cons_succ]
      refine pureL (.int .i64 (D : Int)) rfl (fun w => remI .i64 _ _ _ _ _ _ _ rfl rfl rfl (by decide) e6 w) ?_
      simp only [Act.put, List.setIfInBounds_toArray, List.set_cons_zero, List.set_cons_succ]
      refine pureL (.int .i64 (D : Int)) rfl (fun _ => by kernel_rfl) ?_
      simp only [Act.put, List.setIfInBounds_toArray, List.set_cons_zero, List.set_cons_succ]
      show Exit.then _ _ _ _ _
      go_upto_region 8 with fail
      refine wp_region_C (S := fun w' => HRI w g w') 14 (by kernel_rfl) K.drew ?_
      clear K
      intro K
      refine pureC (i := 0) (some 29) rfl (.int .i64 (D : Int)) rfl (by decide) rfl (fun _ => by kernel_rfl) (by kernel_rfl) (by kernel_rfl) (by kernel_rfl) (fun _ _ _ h => h) K ?_
      simp only [Act.put, List.setIfInBounds_toArray, List.set_cons_zero, List.set_cons_succ]
      refine pureC (i := 1) (some 30) rfl (.int .i64 (D : Int)) rfl (by decide) rfl (fun _ => by kernel_rfl) (by kernel_rfl) (by kernel_rfl) (by kernel_rfl) (fun _ _ _ h => h) K ?_
      simp only [Act.put, List.setIfInBounds_toArray, List.set_cons_zero, List.set_cons_succ]
      refine pureC (i := 2) (some 31) rfl (.pointer (some ⟨w.heap.size, D, none⟩)) rfl (by decide) rfl (fun w' => idx4 w.heap.size D a3 w' _ _ rfl rfl rfl) (by kernel_rfl) (by kernel_rfl) (by kernel_rfl) (fun _ _ _ h => h) K ?_
      simp only [Act.put, List.setIfInBounds_toArray, List.set_cons_zero, List.set_cons_succ]
      refine cellC (i := 3) (some 32) rfl .u32 (.int .u32 (g D)) w.heap.size D 22 _ rfl rfl (by kernel_rfl) rfl rfl rfl (by kernel_rfl) (by kernel_rfl) (by kernel_rfl) (by kernel_rfl) (fun _ _ _ h => h) Tryd.underlying22 K (fun _ h => h.hs.cell D a3) ?_
      simp only [Act.put, List.setIfInBounds_toArray, List.set_cons_zero, List.set_cons_succ]
      refine pureC (i := 4) (some 33) rfl (.int .i64 (A : Int)) rfl (by decide) rfl (fun _ => by kernel_rfl) (by kernel_rfl) (by kernel_rfl) (by kernel_rfl) (fun _ _ _ h => h) K ?_
      simp only [Act.put, List.setIfInBounds_toArray, List.set_cons_zero, List.set_cons_succ]
      refine pureC (i := 5) (some 34) rfl (.pointer (some ⟨w.heap.size, A, none⟩)) rfl (by decide) rfl (fun w' => idx4 w.heap.size A a1 w' _ _ rfl rfl rfl) (by kernel_rfl) (by kernel_rfl) (by kernel_rfl) (fun _ _ _ h => h) K ?_
      simp only [Act.put, List.setIfInBounds_toArray, List.set_cons_zero, List.set_cons_succ]
      refine cellC (i := 6) (some 35) rfl .u32 (.int .u32 (g A)) w.heap.size A 22 _ rfl rfl (by kernel_rfl) rfl rfl rfl (by kernel_rfl) (by kernel_rfl) (by kernel_rfl) (by kernel_rfl) (fun _ _ _ h => h) Tryd.underlying22 K (fun _ h => h.hs.cell A a1) ?_
      simp only [Act.put, List.setIfInBounds_toArray, List.set_cons_zero, List.set_cons_succ]
      refine pureC (i := 7) (some 36) rfl (.int .u32 (hxr (g D) (g A))) rfl (by decide) rfl (fun w => xorI .u32 _ _ _ _ _ _ _ rfl rfl rfl rfl w) (by kernel_rfl) (by kernel_rfl) (by kernel_rfl) (fun _ _ _ h => h) K ?_
      simp only [Act.put, List.setIfInBounds_toArray, List.set_cons_zero, List.set_cons_succ]
      refine pureC (i := 8) (some 37) rfl (.slice (some ⟨w.heap.size + 1 + 1, 0, none⟩) 4 4) rfl (by decide) rfl (fun _ => by kernel_rfl) (by kernel_rfl) (by kernel_rfl) (by kernel_rfl) (fun _ _ _ h => h) K ?_
      simp only [Act.put, List.setIfInBounds_toArray, List.set_cons_zero, List.set_cons_succ]
      refine pureC (i := 9) (some 38) rfl (.int .i64 (k : Int)) rfl (by decide) rfl (fun _ => by kernel_rfl) (by kernel_rfl) (by kernel_rfl) (by kernel_rfl) (fun _ _ _ h => h) K ?_
      simp only [Act.put, List.setIfInBounds_toArray, List.set_cons_zero, List.set_cons_succ]
      refine pureC (i := 10) (some 39) rfl (.pointer (some ⟨w.heap.size + 1 + 1, k, none⟩)) rfl (by decide) rfl (fun w' => idxT (w.heap.size + 1 + 1) k hlt w' _ _ rfl rfl rfl) (by kernel_rfl) (by kernel_rfl) (by kernel_rfl) (fun _ _ _ h => h) K ?_
      simp only [Act.put, List.setIfInBounds_toArray, List.set_cons_zero, List.set_cons_succ]
      refine cellC (i := 11) (some 40) rfl .i64 (.int .i64 (R : Int)) (w.heap.size + 1 + 1) k 3 _ rfl rfl (by kernel_rfl) rfl rfl rfl (by kernel_rfl) (by kernel_rfl) (by kernel_rfl) (by kernel_rfl) (fun _ _ _ h => h) Tryd.underlying3 K (fun _ h => by rw [h.ht.cell k hlt, e7]) ?_
      simp only [Act.put, List.setIfInBounds_toArray, List.set_cons_zero, List.set_cons_succ]
      refine callMC (i := 12) (some 41) rfl (by kernel_rfl) rfl rfl (fun _ => by kernel_rfl) (hR (hxr (g D) (g A)) _) ?_
      rintro e w2 ⟨q, rfl, rfl⟩
      replace K := K.drewN q
      refine ⟨_, rfl, K, ?_⟩
      simp only [Act.put, List.setIfInBounds_toArray, List.set_cons_zero, List.set_cons_succ]
      refine pureC (i := 13) (some 42) rfl (.pointer (some ⟨w.heap.size, D, none⟩)) rfl (by decide) rfl (fun w' => idx4 w.heap.size D a3 w' _ _ rfl rfl rfl) (by kernel_rfl) (by kernel_rfl) (by kernel_rfl) (fun _ _ _ h => h) K ?_
      simp only [Act.put, List.setIfInBounds_toArray, List.set_cons_zero, List.set_cons_succ]
      refine storeC (S2 := fun _ => True) none rfl .u32 (hrl R (hxr (g D) (g A))) w.heap.size D 22 _ _ (by kernel_rfl) rfl rfl rfl rfl rfl (by rw [K.hs.cell D a3]; rfl) (K.hs.free D a3) (by kernel_rfl) (by kernel_rfl) ?_
      simp only [Act.put]
      replace K := K.set D a3 (hrl R (hxr (g D) (g A)))
      rw [← HU.out, ← HT.out] at K
      refine wpAnyH_done (by kernel_rfl) ?_ _
      generalize ((w1.drew.drewN q).setCell ⟨w.heap.size, D, none⟩ (.int .u32 (hrl R (hxr (g D) (g A))))) = w3 at K ⊢
      have HS := show Hid _ from K
      clear K e1 e2 e3 e4 e5 e6 e7 hR HU HT a1 a2 a3
      go_wp2
      go_roundw
      case rel => first | exact ⟨k + 1, by omega, by go_num, HS.out⟩ | ((repeat apply Exists.intro); refine ⟨⟨k + 1, by omega, ?_, HS.out⟩, rfl⟩ <;> first | rfl | go_num)
      case measure => simp [intOf]; omega
    · obtain rfl : k = 4 := by omega
      have hs := K.hs.congr (g := hqt x) (fun j hj => qs_four x j hj)
      have hz := K.hr
      have hB := (K.fr.setAll (w.heap.size + 1) (by omega) (row .u32 4 (hqt x))).below
      clear K hlt hk g1
      generalize hf : hqt x = f at *
      go_wp2_with (first | (refine wpList_load_mid rfl 23 _ rfl (w.heap.size) 0 rfl (row .u32 4 (f)) _ (Has.range (hs)) Tryd.underlying23 rfl (hq_info _) ?_) | (refine wpList_store_mid rfl 23 _ _ rfl (w.heap.size + 1) 0 (row .u32 4 (f)).toArray rfl rfl (hq_there (hz)) (hq_info' _) (all_oneCell_toArray (row_one _ _ _)) ?_))
      exact bodyPost_ret (v := (.agg (row .u32 4 (f)).toArray)) (results_row Tryd.results11 rfl (Has.all hz.there .u32 _).range Tryd.underlying23 rfl (hq_info _)) rfl ⟨by first | rfl | rw [hf], hB⟩
end Go.Proofs.YtldebgblkaaojaaDoor
