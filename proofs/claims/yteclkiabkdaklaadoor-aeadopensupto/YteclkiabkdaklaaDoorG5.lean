/- Texts of Hq Hs Ht Lw, joined. -/
import Derived.Test.YteclkiabkdaklaaDoorG2
import Derived.Test.YteclkiabkdaklaaDoorG1
namespace Go.Proofs.YteclkiabkdaklaaDoor
open Go.RowKit

set_option maxHeartbeats 1000000 in
theorem rol_any (n : Nat) (hn : n = 16 ∨ n = 12 ∨ n = 8 ∨ n = 7) (x : Int) (w : World) :
    Calls Tryd.prog 44 #[.int .u32 x, .int .i64 n] w fun e w' => ∃ q, e = .returned (.int .u32 (hrl n x)) ∧ w' = w.drewN q := by
  rcases hn with rfl | rfl | rfl | rfl
  · go_enter Tryd.func44, Tryd.ntmps44
    go_wp2
    go_quiet (fail)
    go_wp2
    go_ret
    exact ⟨nq, rfl, rfl⟩
  · go_enter Tryd.func44, Tryd.ntmps44
    go_wp2
    go_quiet (fail)
    go_wp2
    go_ret
    exact ⟨nq, rfl, rfl⟩
  · go_enter Tryd.func44, Tryd.ntmps44
    go_wp2
    go_quiet (fail)
    go_wp2
    go_ret
    exact ⟨nq, rfl, rfl⟩
  · go_enter Tryd.func44, Tryd.ntmps44
    go_wp2
    go_quiet (fail)
    go_wp2
    go_ret
    exact ⟨nq, rfl, rfl⟩

/-- A quarter of a quarter round, as the document takes it: x[a] and x[b] summed, x[d] turned. -/
def hstep (x : Nat → Int) (a b d r : Nat) : Nat → Int := upd (upd x a (had (x a) (x b))) d (hrl r (hxr (upd x a (had (x a) (x b)) d) (upd x a (had (x a) (x b)) a)))
def sA (k : Nat) : Nat := k % 2 * 2
def sB (k : Nat) : Nat := (sA k + 1) % 4
def sD (k : Nat) : Nat := (sA k + 3) % 4
def sR : Nat → Nat
  | 0 => 16
  | 1 => 12
  | 2 => 8
  | _ + 3 => 7
def qs (x : Nat → Int) : Nat → Nat → Int
  | 0 => x
  | k + 1 => hstep (qs x k) (sA k) (sB k) (sD k) (sR k)
theorem qs_four (x : Nat → Int) (j : Nat) (hj : j < 4) : qs x 4 j = hqt x j := by
  match j, hj with
  | 0, _ | 1, _ | 2, _ | 3, _ => rfl
theorem sR_one (k : Nat) : sR k = 16 ∨ sR k = 12 ∨ sR k = 8 ∨ sR k = 7 := by
  match k with
  | 0 | 1 | 2 => simp [sR]
  | k + 3 => simp [sR]
theorem sR_quad (k : Nat) (hk : k < 4) : quad 16 12 8 7 k = (sR k : Int) := by
  match k, hk with
  | 0, _ | 1, _ | 2, _ | 3, _ => rfl
theorem idx4 (b i : Nat) (hi : i < 4) (w : World) {o : Oper} {a : Act} (x y : Operand) (ho : o.op = .indexAddr 54 x y) (hx : a.eval x = .pointer (some ⟨b, 0, none⟩)) (hy : a.eval y = .int .i64 (i : Int)) :
    (execOp a.eval o).run Tryd.prog w = .ok (.value (.pointer (some ⟨b, i, none⟩))) w := by
  have h := idxArr (P := Tryd.prog) 54 39 4 .i64 b 0 i x y Tryd.underlying54 (fun _ => by kernel_rfl) hi ho hx hy w
  rw [Nat.zero_add] at h
  exact h
theorem idxT (b i : Nat) (hi : i < 4) (w : World) {o : Oper} {a : Act} (x y : Operand) (ho : o.op = .indexAddr 73 x y) (hx : a.eval x = .slice (some ⟨b, 0, none⟩) 4 4) (hy : a.eval y = .int .i64 (i : Int)) :
    (execOp a.eval o).run Tryd.prog w = .ok (.value (.pointer (some ⟨b, i, none⟩))) w := by
  have h := idxSl (P := Tryd.prog) 73 3 4 4 .i64 ⟨b, 0, none⟩ i x y Tryd.underlying73 (fun _ => by kernel_rfl) hi ho hx hy w
  rw [Addr.add_mid, Nat.zero_add] at h
  exact h

/-- The four words, the room for the answer, the four turns. -/
structure HRI (w : World) (f : Nat → Int) (w' : World) : Prop where
  hs : Has w' w.heap.size .u32 4 f
  hr : Has w' (w.heap.size + 1) .u32 4 (fun _ => 0)
  ht : Has w' (w.heap.size + 1 + 1) .i64 4 (quad 16 12 8 7)
  fr : Fr w 3 w'
theorem HRI.drewN {w : World} {f : Nat → Int} {w' : World} (h : HRI w f w') (q : Nat) : HRI w f (w'.drewN q) := ⟨⟨h.hs.cell, h.hs.free⟩, ⟨h.hr.cell, h.hr.free⟩, ⟨h.ht.cell, h.ht.free⟩, ⟨below_drewN h.fr.below, h.fr.size⟩⟩
theorem HRI.drew {w : World} {f : Nat → Int} {w' : World} (h : HRI w f w') : HRI w f w'.drew := ⟨h.hs.drew, h.hr.drew, h.ht.drew, h.fr.drew⟩
theorem HRI.set {w : World} {f : Nat → Int} {w' : World} (h : HRI w f w') (i : Nat) (hi : i < 4) (v : Int) : HRI w (upd f i v) (w'.setCell ⟨w.heap.size, i, none⟩ (.int .u32 v)) :=
  ⟨h.hs.set i hi v, h.hr.set_other _ _ (by simp), h.ht.set_other _ _ (by simp; omega), h.fr.set _ _ (by simp)⟩

set_option maxRecDepth 10000 in
set_option maxHeartbeats 4000000 in
theorem refQuarter_any (x : Nat → Int) (w : World) :
    Calls Tryd.prog 29 #[(.agg (row .u32 4 (x)).toArray)] w fun e w' => e = .returned (.agg (row .u32 4 (hqt x)).toArray) ∧ Below w.heap.size w w' := by
  go_enter Tryd.func29, Tryd.ntmps29
  go_wp2
  go_loopw [4] (fun i w' => ∃ k : Nat, k ≤ 4 ∧ i = .int .i64 k ∧ HRI w (qs x k) w') (fun i _ => 4 - (intOf i).toNat)
  case atStart => exact ⟨0, by omega, rfl, ⟨((Has.new w _ _ _ _ _ rfl).alloc _ (by simp)).alloc _ (by simp; omega), (hq_zero _ _ _ (by simp)).alloc _ (by simp), Has.new _ .i64 4 (quad 16 12 8 7) _ _ (by simp), (((Fr.refl w).alloc _).alloc _).alloc _⟩⟩
  case round =>
    obtain ⟨k, hk, rfl, K⟩ := hrel
    have g1 : (0 : Int) ≤ (k : Int) := by omega
    by_cases hlt : k < 4
    · have g2 : (k : Int) < 4 := by omega
      have HT := show Hid _ from (show qs x (k + 1) = hstep (qs x k) (sA k) (sB k) (sD k) (sR k) from rfl)
      have a1 : sA k < 4 := by unfold sA; omega
      have a2 : sB k < 4 := by unfold sB; omega
      have a3 : sD k < 4 := by unfold sD; omega
      have e1 : ((k : Int)).tmod 2 = ((k % 2 : Nat) : Int) := by rw [Int.tmod_eq_emod_of_nonneg g1]; omega
      have e2 : IntKind.i64.wrap (((k % 2 : Nat) : Int) * 2) = (sA k : Int) := by rw [IntKind.wrap_i64]; unfold sA; omega
      have e3 : IntKind.i64.wrap ((sA k : Int) + 1) = ((sA k + 1 : Nat) : Int) := by rw [IntKind.wrap_i64]; omega
      have e4 : (((sA k + 1 : Nat) : Int)).tmod 4 = (sB k : Int) := by rw [Int.tmod_eq_emod_of_nonneg (by omega)]; unfold sB; omega
      have e5 : IntKind.i64.wrap ((sA k : Int) + 3) = ((sA k + 3 : Nat) : Int) := by rw [IntKind.wrap_i64]; omega
      have e6 : (((sA k + 3 : Nat) : Int)).tmod 4 = (sD k : Int) := by rw [Int.tmod_eq_emod_of_nonneg (by omega)]; unfold sD; omega
      have e7 := sR_quad k hlt
      have hR := fun x w => rol_any (sR k) (sR_one k) x w
      generalize sA k = A at *
      generalize sB k = B at *
      generalize sD k = D at *
      generalize sR k = R at *
      generalize qs x k = f at *
      go_upto_region 5 with fail
      refine wp_region_list ?_
      refine pureL (.int .i64 (k : Int)) rfl (fun _ => by kernel_rfl) ?_
      simp only [Act.put, List.setIfInBounds_toArray, List.set_cons_zero, List.set_cons_succ]
      refine pureL (.int .i64 ((k % 2 : Nat) : Int)) rfl (fun w => remI .i64 _ _ _ _ _ _ _ rfl rfl rfl (by decide) e1 w) ?_
      simp only [Act.put, List.setIfInBounds_toArray, List.set_cons_zero, List.set_cons_succ]
      refine pureL (.int .i64 (A : Int)) rfl (fun w => mulI .i64 _ _ _ _ _ _ _ rfl rfl rfl e2 w) ?_
      simp only [Act.put, List.setIfInBounds_toArray, List.set_cons_zero, List.set_cons_succ]
      refine pureL (.int .i64 (A : Int)) rfl (fun _ => by kernel_rfl) ?_
      simp only [Act.put, List.setIfInBounds_toArray, List.set_cons_zero, List.set_cons_succ]
      show Exit.then _ _ _ _ _
      go_upto_region 6 with fail
      refine wp_region_C (S := fun w' => HRI w f w') 11 (by kernel_rfl) K.drew ?_
      clear K
      intro K
      refine pureC (i := 0) (some 15) rfl (.int .i64 (A : Int)) rfl (by decide) rfl (fun _ => by kernel_rfl) (by kernel_rfl) (by kernel_rfl) (by kernel_rfl) (fun _ _ _ h => h) K ?_
      simp only [Act.put, List.setIfInBounds_toArray, List.set_cons_zero, List.set_cons_succ]
      refine pureC (i := 1) (some 16) rfl (.int .i64 (A : Int)) rfl (by decide) rfl (fun _ => by kernel_rfl) (by kernel_rfl) (by kernel_rfl) (by kernel_rfl) (fun _ _ _ h => h) K ?_
      simp only [Act.put, List.setIfInBounds_toArray, List.set_cons_zero, List.set_cons_succ]
      refine pureC (i := 2) (some 17) rfl (.pointer (some ⟨w.heap.size, A, none⟩)) rfl (by decide) rfl (fun w' => idx4 w.heap.size A a1 w' _ _ rfl rfl rfl) (by kernel_rfl) (by kernel_rfl) (by kernel_rfl) (fun _ _ _ h => h) K ?_
      simp only [Act.put, List.setIfInBounds_toArray, List.set_cons_zero, List.set_cons_succ]
      refine cellC (i := 3) (some 18) rfl .u32 (.int .u32 (f A)) w.heap.size A 39 _ rfl rfl (by kernel_rfl) rfl rfl rfl (by kernel_rfl) (by kernel_rfl) (by kernel_rfl) (by kernel_rfl) (fun _ _ _ h => h) Tryd.underlying39 K (fun _ h => h.hs.cell A a1) ?_
      simp only [Act.put, List.setIfInBounds_toArray, List.set_cons_zero, List.set_cons_succ]
      refine pureC (i := 4) (some 19) rfl (.int .i64 (A : Int)) rfl (by decide) rfl (fun _ => by kernel_rfl) (by kernel_rfl) (by kernel_rfl) (by kernel_rfl) (fun _ _ _ h => h) K ?_
      simp only [Act.put, List.setIfInBounds_toArray, List.set_cons_zero, List.set_cons_succ]
      refine pureC (i := 5) (some 20) rfl (.int .i64 ((A + 1 : Nat) : Int)) rfl (by decide) rfl (fun w => addI .i64 _ _ _ _ _ _ _ rfl rfl rfl e3 w) (by kernel_rfl) (by kernel_rfl) (by kernel_rfl) (fun _ _ _ h => h) K ?_
      simp only [Act.put, List.setIfInBounds_toArray, List.set_cons_zero, List.set_cons_succ]
      refine pureC (i := 6) (some 21) rfl (.int .i64 (B : Int)) rfl (by decide) rfl (fun w => remI .i64 _ _ _ _ _ _ _ rfl rfl rfl (by decide) e4 w) (by kernel_rfl) (by kernel_rfl) (by kernel_rfl) (fun _ _ _ h => h) K ?_
      simp only [Act.put, List.setIfInBounds_toArray, List.set_cons_zero, List.set_cons_succ]
      refine pureC (i := 7) (some 22) rfl (.pointer (some ⟨w.heap.size, B, none⟩)) rfl (by decide) rfl (fun w' => idx4 w.heap.size B a2 w' _ _ rfl rfl rfl) (by kernel_rfl) (by kernel_rfl) (by kernel_rfl) (fun _ _ _ h => h) K ?_
      simp only [Act.put, List.setIfInBounds_toArray, List.set_cons_zero, List.set_cons_succ]
      refine cellC (i := 8) (some 23) rfl .u32 (.int .u32 (f B)) w.heap.size B 39 _ rfl rfl (by kernel_rfl) rfl rfl rfl (by kernel_rfl) (by kernel_rfl) (by kernel_rfl) (by kernel_rfl) (fun _ _ _ h => h) Tryd.underlying39 K (fun _ h => h.hs.cell B a2) ?_
      simp only [Act.put, List.setIfInBounds_toArray, List.set_cons_zero, List.set_cons_succ]
      refine pureC (i := 9) (some 24) rfl (.int .u32 (had (f A) (f B))) rfl (by decide) rfl (fun w => addI .u32 _ _ _ _ _ _ _ rfl rfl rfl (by rw [IntKind.wrap_u32']; rfl) w) (by kernel_rfl) (by kernel_rfl) (by kernel_rfl) (fun _ _ _ h => h) K ?_
      simp only [Act.put, List.setIfInBounds_toArray, List.set_cons_zero, List.set_cons_succ]
      refine pureC (i := 10) (some 25) rfl (.pointer (some ⟨w.heap.size, A, none⟩)) rfl (by decide) rfl (fun w' => idx4 w.heap.size A a1 w' _ _ rfl rfl rfl) (by kernel_rfl) (by kernel_rfl) (by kernel_rfl) (fun _ _ _ h => h) K ?_
      simp only [Act.put, List.setIfInBounds_toArray, List.set_cons_zero, List.set_cons_succ]
      refine storeC (S2 := fun _ => True) none rfl .u32 (had (f A) (f B)) w.heap.size A 39 _ _ (by kernel_rfl) rfl rfl rfl rfl rfl (by rw [K.hs.cell A a1]; rfl) (K.hs.free A a1) (by kernel_rfl) (by kernel_rfl) ?_
      simp only [Act.put]
      replace K := K.set A a1 (had (f A) (f B))
      have HU := show Hid _ from (show hstep f A B D R = upd (upd f A (had (f A) (f B))) D (hrl R (hxr (upd f A (had (f A) (f B)) D) (upd f A (had (f A) (f B)) A))) from rfl)
      generalize upd f A (had (f A) (f B)) = g at *
      refine wpAnyH_done (by kernel_rfl) ?_ _
      generalize wr.drew.setCell ⟨w.heap.size, A, none⟩ (.int .u32 (had (f A) (f B))) = w1 at K ⊢
      go_upto_region 7 with fail
      refine wp_region_list ?_
      refine pureL (.int .i64 (A : Int)) rfl (fun _ => by kernel_rfl) ?_
      simp only [Act.put, List.setIfInBounds_toArray, List.set_cons_zero, List.set_cons_succ]
      refine pureL (.int .i64 ((A + 3 : Nat) : Int)) rfl (fun w => addI .i64 _ _ _ _ _ _ _ rfl rfl rfl e5 w) ?_
      simp only [Act.put, List.setIfInBounds_toArray, List.set_cons_zero, List.set_cons_succ]
      refine pureL (.int .i64 (D : Int)) rfl (fun w => remI .i64 _ _ _ _ _ _ _ rfl rfl rfl (by decide) e6 w) ?_
      simp only [Act.put, List.setIfInBounds_toArray, List.set_cons_zero, List.set_cons_succ]
      refine pureL (.int .i64 (D : Int)) rfl (fun _ => by kernel_rfl) ?_
      simp only [Act.put, List.setIfInBounds_toArray, List.set_cons_zero, List.set_cons_succ]
      show Exit.then _ _ _ _ _
      go_upto_region 8 with fail
      refine wp_region_C (S := fun w' => HRI w g w') 14 (by kernel_rfl) K.drew ?_
      clear K
      intro K
      refine pureC (i := 0) (some 29) rfl (.int .i64 (D : Int)) rfl (by decide) rfl (fun _ => by kernel_rfl) (by kernel_rfl) (by kernel_rfl) (by kernel_rfl) (fun _ _ _ h => h) K ?_
      simp only [Act.put, List.setIfInBounds_toArray, List.set_cons_zero, List.set_cons_succ]
      refine pureC (i := 1) (some 30) rfl (.int .i64 (D : Int)) rfl (by decide) rfl (fun _ => by kernel_rfl) (by kernel_rfl) (by kernel_rfl) (by kernel_rfl) (fun _ _ _ h => h) K ?_
      simp only [Act.put, List.setIfInBounds_toArray, List.set_cons_zero, List.set_cons_succ]
      refine pureC (i := 2) (some 31) rfl (.pointer (some ⟨w.heap.size, D, none⟩)) rfl (by decide) rfl (fun w' => idx4 w.heap.size D a3 w' _ _ rfl rfl rfl) (by kernel_rfl) (by kernel_rfl) (by kernel_rfl) (fun _ _ _ h => h) K ?_
      simp only [Act.put, List.setIfInBounds_toArray, List.set_cons_zero, List.set_cons_succ]
      refine cellC (i := 3) (some 32) rfl .u32 (.int .u32 (g D)) w.heap.size D 39 _ rfl rfl (by kernel_rfl) rfl rfl rfl (by kernel_rfl) (by kernel_rfl) (by kernel_rfl) (by kernel_rfl) (fun _ _ _ h => h) Tryd.underlying39 K (fun _ h => h.hs.cell D a3) ?_
      simp only [Act.put, List.setIfInBounds_toArray, List.set_cons_zero, List.set_cons_succ]
      refine pureC (i := 4) (some 33) rfl (.int .i64 (A : Int)) rfl (by decide) rfl (fun _ => by kernel_rfl) (by kernel_rfl) (by kernel_rfl) (by kernel_rfl) (fun _ _ _ h => h) K ?_
      simp only [Act.put, List.setIfInBounds_toArray, List.set_cons_zero, List.set_cons_succ]
      refine pureC (i := 5) (some 34) rfl (.pointer (some ⟨w.heap.size, A, none⟩)) rfl (by decide) rfl (fun w' => idx4 w.heap.size A a1 w' _ _ rfl rfl rfl) (by kernel_rfl) (by kernel_rfl) (by kernel_rfl) (fun _ _ _ h => h) K ?_
      simp only [Act.put, List.setIfInBounds_toArray, List.set_cons_zero, List.set_cons_succ]
      refine cellC (i := 6) (some 35) rfl .u32 (.int .u32 (g A)) w.heap.size A 39 _ rfl rfl (by kernel_rfl) rfl rfl rfl (by kernel_rfl) (by kernel_rfl) (by kernel_rfl) (by kernel_rfl) (fun _ _ _ h => h) Tryd.underlying39 K (fun _ h => h.hs.cell A a1) ?_
      simp only [Act.put, List.setIfInBounds_toArray, List.set_cons_zero, List.set_cons_succ]
      refine pureC (i := 7) (some 36) rfl (.int .u32 (hxr (g D) (g A))) rfl (by decide) rfl (fun w => xorI .u32 _ _ _ _ _ _ _ rfl rfl rfl rfl w) (by kernel_rfl) (by kernel_rfl) (by kernel_rfl) (fun _ _ _ h => h) K ?_
      simp only [Act.put, List.setIfInBounds_toArray, List.set_cons_zero, List.set_cons_succ]
      refine pureC (i := 8) (some 37) rfl (.slice (some ⟨w.heap.size + 1 + 1, 0, none⟩) 4 4) rfl (by decide) rfl (fun _ => by kernel_rfl) (by kernel_rfl) (by kernel_rfl) (by kernel_rfl) (fun _ _ _ h => h) K ?_
      simp only [Act.put, List.setIfInBounds_toArray, List.set_cons_zero, List.set_cons_succ]
      refine pureC (i := 9) (some 38) rfl (.int .i64 (k : Int)) rfl (by decide) rfl (fun _ => by kernel_rfl) (by kernel_rfl) (by kernel_rfl) (by kernel_rfl) (fun _ _ _ h => h) K ?_
      simp only [Act.put, List.setIfInBounds_toArray, List.set_cons_zero, List.set_cons_succ]
      refine pureC (i := 10) (some 39) rfl (.pointer (some ⟨w.heap.size + 1 + 1, k, none⟩)) rfl (by decide) rfl (fun w' => idxT (w.heap.size + 1 + 1) k hlt w' _ _ rfl rfl rfl) (by kernel_rfl) (by kernel_rfl) (by kernel_rfl) (fun _ _ _ h => h) K ?_
      simp only [Act.put, List.setIfInBounds_toArray, List.set_cons_zero, List.set_cons_succ]
      refine cellC (i := 11) (some 40) rfl .i64 (.int .i64 (R : Int)) (w.heap.size + 1 + 1) k 3 _ rfl rfl (by kernel_rfl) rfl rfl rfl (by kernel_rfl) (by kernel_rfl) (by kernel_rfl) (by kernel_rfl) (fun _ _ _ h => h) Tryd.underlying3 K (fun _ h => by rw [h.ht.cell k hlt, e7]) ?_
      simp only [Act.put, List.setIfInBounds_toArray, List.set_cons_zero, List.set_cons_succ]
      refine callMC (i := 12) (some 41) rfl (by kernel_rfl) rfl rfl (fun _ => by kernel_rfl) (hR (hxr (g D) (g A)) _) ?_
      rintro e w2 ⟨q, rfl, rfl⟩
      replace K := K.drewN q
      refine ⟨_, rfl, K, ?_⟩
      simp only [Act.put, List.setIfInBounds_toArray, List.set_cons_zero, List.set_cons_succ]
      refine pureC (i := 13) (some 42) rfl (.pointer (some ⟨w.heap.size, D, none⟩)) rfl (by decide) rfl (fun w' => idx4 w.heap.size D a3 w' _ _ rfl rfl rfl) (by kernel_rfl) (by kernel_rfl) (by kernel_rfl) (fun _ _ _ h => h) K ?_
      simp only [Act.put, List.setIfInBounds_toArray, List.set_cons_zero, List.set_cons_succ]
      refine storeC (S2 := fun _ => True) none rfl .u32 (hrl R (hxr (g D) (g A))) w.heap.size D 39 _ _ (by kernel_rfl) rfl rfl rfl rfl rfl (by rw [K.hs.cell D a3]; rfl) (K.hs.free D a3) (by kernel_rfl) (by kernel_rfl) ?_
      simp only [Act.put]
      replace K := K.set D a3 (hrl R (hxr (g D) (g A)))
      rw [← HU.out, ← HT.out] at K
      refine wpAnyH_done (by kernel_rfl) ?_ _
      generalize ((w1.drew.drewN q).setCell ⟨w.heap.size, D, none⟩ (.int .u32 (hrl R (hxr (g D) (g A))))) = w3 at K ⊢
      have HS := show Hid _ from K
      clear K e1 e2 e3 e4 e5 e6 e7 hR HU HT a1 a2 a3
      go_wp2
      go_roundw
      case rel => first | exact ⟨k + 1, by omega, by go_num, HS.out⟩ | ((repeat apply Exists.intro); refine ⟨⟨k + 1, by omega, ?_, HS.out⟩, rfl⟩ <;> first | rfl | go_num)
      case measure => simp [intOf]; omega
    · obtain rfl : k = 4 := by omega
      have hs := K.hs.congr (g := hqt x) (fun j hj => qs_four x j hj)
      have hz := K.hr
      have hB := (K.fr.setAll (w.heap.size + 1) (by omega) (row .u32 4 (hqt x))).below
      clear K hlt hk g1
      generalize hf : hqt x = f at *
      go_wp2_with (first | (refine wpList_load_mid rfl 54 _ rfl (w.heap.size) 0 rfl (row .u32 4 (f)) _ (Has.range (hs)) Tryd.underlying54 rfl (hq_info _) ?_) | (refine wpList_store_mid rfl 54 _ _ rfl (w.heap.size + 1) 0 (row .u32 4 (f)).toArray rfl rfl (hq_there (hz)) (hq_info' _) (all_oneCell_toArray (row_one _ _ _)) ?_))
      exact bodyPost_ret (v := (.agg (row .u32 4 (f)).toArray)) (results_row Tryd.results29 rfl (Has.all hz.there .u32 _).range Tryd.underlying54 rfl (hq_info _)) rfl ⟨by first | rfl | rw [hf], hB⟩
end Go.Proofs.YteclkiabkdaklaaDoor

namespace Go.Proofs.YteclkiabkdaklaaDoor
open Go.RowKit

set_option maxRecDepth 10000 in
set_option maxHeartbeats 4000000 in
theorem word_raw (B o c : Nat) (x0 x1 x2 x3 : Int) (h0 : 0 ≤ x0 ∧ x0 < 256) (h1 : 0 ≤ x1 ∧ x1 < 256) (h2 : 0 ≤ x2 ∧ x2 < 256) (h3 : 0 ≤ x3 ∧ x3 < 256) (w : World) (c0 : w.cell? ⟨B, o, none⟩ = some (.int .u8 x0)) (c1 : w.cell? ⟨B, o + 1, none⟩ = some (.int .u8 x1)) (c2 : w.cell? ⟨B, o + 2, none⟩ = some (.int .u8 x2)) (c3 : w.cell? ⟨B, o + 3, none⟩ = some (.int .u8 x3)) :
    Calls Tryd.prog 28 #[.slice (some ⟨B, o, none⟩) 4 c] w fun e w' => ∃ q, e = .returned (.int .u32 (x0 + x1 * 256 + x2 * 65536 + x3 * 16777216)) ∧ w' = w.drewN q := by
  have hg := glued32 x0 x1 x2 x3 h0 h1 h2 h3
  have HG := show Hid _ from hg
  clear hg h0 h1 h2 h3
  go_enter Tryd.func28, Tryd.ntmps28
  go_wp2
  go_quiet (fail)
  go_wp2
  go_ret
  exact ⟨nq, by rw [HG.out]; rfl, rfl⟩
theorem word_any (B o n c : Nat) (a : Nat → Int) (ho : o + 4 ≤ n) (ha : In 256 n a) (w : World) (h : Has w B .u8 n a) :
    Calls Tryd.prog 28 #[.slice (some ⟨B, o, none⟩) 4 c] w fun e w' => ∃ q, e = .returned (.int .u32 (w32 a o)) ∧ w' = w.drewN q :=
  word_raw B o c _ _ _ _ (ha o (by omega)) (ha (o + 1) (by omega)) (ha (o + 2) (by omega)) (ha (o + 3) (by omega)) w (h.cell o (by omega)) (h.cell (o + 1) (by omega)) (h.cell (o + 2) (by omega)) (h.cell (o + 3) (by omega))
theorem rcut_key (b k : Nat) (hk : k < 8) (w : World) : (Instr.sliceAt 23 (.pointer (some ⟨b, 0, none⟩)) (some (.int .i64 (4 * (k : Int)))) (some (.int .i64 (4 * (k : Int) + 4))) none).run Tryd.prog w = .ok (.slice (some ⟨b, 4 * k, none⟩) 4 (32 - 4 * k)) w := by
  have hl : Tryd.prog.arrayLen 23 = 32 := by kernel_rfl
  have hs : ∀ w, (sizeOf (Tryd.prog.elem 23)).run Tryd.prog w = .ok 1 w := fun w => by kernel_rfl
  rw [run_sliceAt_array_lh w 23 ⟨b, 0, none⟩ (by kernel_rfl) .i64 .i64 _ _ (by omega) (by omega) (by rw [hl]; omega), hs, hl]
  simp only [Result.andThen, slicedAt]
  have e1 : (4 * (k : Int)).toNat = 4 * k := by omega
  have e2 : (4 * (k : Int) + 4).toNat = 4 * k + 4 := by omega
  rw [e1, e2, if_neg (by omega), Addr.add_mid, Nat.zero_add, Nat.mul_one, show 4 * k + 4 - 4 * k = 4 by omega]
theorem rcut_non (b k : Nat) (hk : k < 3) (w : World) : (Instr.sliceAt 25 (.pointer (some ⟨b, 0, none⟩)) (some (.int .i64 (4 * (k : Int)))) (some (.int .i64 (4 * (k : Int) + 4))) none).run Tryd.prog w = .ok (.slice (some ⟨b, 4 * k, none⟩) 4 (12 - 4 * k)) w := by
  have hl : Tryd.prog.arrayLen 25 = 12 := by kernel_rfl
  have hs : ∀ w, (sizeOf (Tryd.prog.elem 25)).run Tryd.prog w = .ok 1 w := fun w => by kernel_rfl
  rw [run_sliceAt_array_lh w 25 ⟨b, 0, none⟩ (by kernel_rfl) .i64 .i64 _ _ (by omega) (by omega) (by rw [hl]; omega), hs, hl]
  simp only [Result.andThen, slicedAt]
  have e1 : (4 * (k : Int)).toNat = 4 * k := by omega
  have e2 : (4 * (k : Int) + 4).toNat = 4 * k + 4 := by omega
  rw [e1, e2, if_neg (by omega), Addr.add_mid, Nat.zero_add, Nat.mul_one, show 4 * k + 4 - 4 * k = 4 by omega]
theorem idxB (b i : Nat) (hi : i < 64) (w : World) {o : Oper} {a : Act} (x y : Operand) (ho : o.op = .indexAddr 43 x y) (hx : a.eval x = .pointer (some ⟨b, 0, none⟩)) (hy : a.eval y = .int .i64 (i : Int)) :
    (execOp a.eval o).run Tryd.prog w = .ok (.value (.pointer (some ⟨b, i, none⟩))) w := by
  have h := idxArr (P := Tryd.prog) 43 5 64 .i64 b 0 i x y Tryd.underlying43 (fun _ => by kernel_rfl) hi ho hx hy w
  rw [Nat.zero_add] at h
  exact h

theorem b32_shr (x : Int) (e : Nat) (he : e < 4) : IntKind.u8.wrap (x / 2 ^ (8 * e)) = b32 x e := by
  rw [IntKind.wrap_u8']
  match e, he with
  | 0, _ => show x / 1 % 256 = x % 256; rw [Int.ediv_one]
  | 1, _ => rfl
  | 2, _ => rfl
  | 3, _ => rfl

/-- The words that a block is made of, so far. -/
structure HWI (k : Nat → Int) (c : Int) (n : Nat → Int) (w : World) (m : Nat) (s : Value) (w' : World) : Prop where
  K : Kr w (w.heap.size + 1 + 1 + 1) [(w.heap.size + 1, .u8, 12, n), (w.heap.size, .u8, 32, k)] [(w.heap.size + 1 + 1, 64)] w'
  own : Own w' (w.heap.size + 1 + 1 + 1) 39 .u32 m (hst k c n) s
theorem HWI.drewN {k : Nat → Int} {c : Int} {n : Nat → Int} {w : World} {m : Nat} {s : Value} {w' : World} (h : HWI k c n w m s w') (q : Nat) : HWI k c n w m s (w'.drewN q) := ⟨h.K.drewN, h.own.below (below_drewN (Below.refl _ _))⟩
/-- A word more. -/
theorem HWI.more {k : Nat → Int} {c : Int} {n : Nat → Int} {w : World} {m : Nat} {s : Value} {w' : World} (h : HWI k c n w m s w') (hm : m < 16) (x : Int) (hx : hst k c n m = x) (ty : TypeId) :
    ∃ v w'', (Builtin.append_ #[52, 52] ty #[s, .slice (some ⟨w'.heap.size, 0, none⟩) 1 1]).run Tryd.prog (w'.alloc (.cells #[.int .u32 x] 39)) = .ok v w'' ∧ HWI k c n w (m + 1) v w'' := by
  have H1 := Has.new w' .u32 1 (fun _ => x) 39 w'.heap.size rfl
  have K1 := h.K.call ((Below.refl w'.heap.size w').alloc (Nat.le_refl _) (.cells (row .u32 1 (fun _ => x)).toArray 39))
  obtain ⟨v, w'', hr, ho, hg, _⟩ := run_append_Own (P := Tryd.prog) (ty := ty) Tryd.underlying52 one32 (h.own.alloc (.cells (row .u32 1 (fun _ => x)).toArray 39)) (some ⟨w'.heap.size, 0, none⟩) 1 1 (fun _ => x) (fun j hj => ⟨_, rfl, by rw [Addr.add_mid, Nat.zero_add]; exact H1.cell j hj⟩) (fun e => by cases e) (by unfold maxLen; omega) (by omega) (by have := h.K.size; simp; omega)
  refine ⟨v, w'', hr, K1.grown hg (fun b hb => ?_), ho.congr fun j hj => ?_⟩
  · exact (World.ownsRow.lt h.own b hb).1
  · unfold app
    by_cases e : j < m
    · rw [if_pos e]
    · rw [if_neg e, ← hx, show j = m by omega]

set_option maxRecDepth 10000 in
set_option maxHeartbeats 8000000 in
theorem hrefBlock_any (k : Nat → Int) (c : Int) (n : Nat → Int) (hk : In 256 32 k) (hn : In 256 12 n) (w : World) :
    Calls Tryd.prog 18 #[(.agg (row .u8 32 (k)).toArray), .int .u32 c, (.agg (row .u8 12 (n)).toArray)] w fun e w' => e = .returned (.agg (row .u8 64 (hblk k c n)).toArray) ∧ Below w.heap.size w w' := by
  have K := Kr.init w
  replace K := K.box .u8 32 k 23 w.heap.size rfl
  replace K := K.box .u8 12 n 25 (w.heap.size + 1) (by simp)
  replace K := K.make 64 #[.int .u8 0, .int .u8 0, .int .u8 0, .int .u8 0, .int .u8 0, .int .u8 0, .int .u8 0, .int .u8 0, .int .u8 0, .int .u8 0, .int .u8 0, .int .u8 0, .int .u8 0, .int .u8 0, .int .u8 0, .int .u8 0, .int .u8 0, .int .u8 0, .int .u8 0, .int .u8 0, .int .u8 0, .int .u8 0, .int .u8 0, .int .u8 0, .int .u8 0, .int .u8 0, .int .u8 0, .int .u8 0, .int .u8 0, .int .u8 0, .int .u8 0, .int .u8 0, .int .u8 0, .int .u8 0, .int .u8 0, .int .u8 0, .int .u8 0, .int .u8 0, .int .u8 0, .int .u8 0, .int .u8 0, .int .u8 0, .int .u8 0, .int .u8 0, .int .u8 0, .int .u8 0, .int .u8 0, .int .u8 0, .int .u8 0, .int .u8 0, .int .u8 0, .int .u8 0, .int .u8 0, .int .u8 0, .int .u8 0, .int .u8 0, .int .u8 0, .int .u8 0, .int .u8 0, .int .u8 0, .int .u8 0, .int .u8 0, .int .u8 0, .int .u8 0] 43 (w.heap.size + 1 + 1) (by simp) (hb_zero _ _ _ (by simp)).there
  go_enter Tryd.func18, Tryd.ntmps18
  go_upto_region 1 with fail
  have s0 : (((w.alloc (.cells (row .u8 32 k).toArray 23)).alloc (.cells (row .u8 12 n).toArray 25)).alloc (.cells #[.int .u8 0, .int .u8 0, .int .u8 0, .int .u8 0, .int .u8 0, .int .u8 0, .int .u8 0, .int .u8 0, .int .u8 0, .int .u8 0, .int .u8 0, .int .u8 0, .int .u8 0, .int .u8 0, .int .u8 0, .int .u8 0, .int .u8 0, .int .u8 0, .int .u8 0, .int .u8 0, .int .u8 0, .int .u8 0, .int .u8 0, .int .u8 0, .int .u8 0, .int .u8 0, .int .u8 0, .int .u8 0, .int .u8 0, .int .u8 0, .int .u8 0, .int .u8 0, .int .u8 0, .int .u8 0, .int .u8 0, .int .u8 0, .int .u8 0, .int .u8 0, .int .u8 0, .int .u8 0, .int .u8 0, .int .u8 0, .int .u8 0, .int .u8 0, .int .u8 0, .int .u8 0, .int .u8 0, .int .u8 0, .int .u8 0, .int .u8 0, .int .u8 0, .int .u8 0, .int .u8 0, .int .u8 0, .int .u8 0, .int .u8 0, .int .u8 0, .int .u8 0, .int .u8 0, .int .u8 0, .int .u8 0, .int .u8 0, .int .u8 0, .int .u8 0] 43)).heap.size = w.heap.size + 1 + 1 + 1 := by simp
  generalize (((w.alloc (.cells (row .u8 32 k).toArray 23)).alloc (.cells (row .u8 12 n).toArray 25)).alloc (.cells #[.int .u8 0, .int .u8 0, .int .u8 0, .int .u8 0, .int .u8 0, .int .u8 0, .int .u8 0, .int .u8 0, .int .u8 0, .int .u8 0, .int .u8 0, .int .u8 0, .int .u8 0, .int .u8 0, .int .u8 0, .int .u8 0, .int .u8 0, .int .u8 0, .int .u8 0, .int .u8 0, .int .u8 0, .int .u8 0, .int .u8 0, .int .u8 0, .int .u8 0, .int .u8 0, .int .u8 0, .int .u8 0, .int .u8 0, .int .u8 0, .int .u8 0, .int .u8 0, .int .u8 0, .int .u8 0, .int .u8 0, .int .u8 0, .int .u8 0, .int .u8 0, .int .u8 0, .int .u8 0, .int .u8 0, .int .u8 0, .int .u8 0, .int .u8 0, .int .u8 0, .int .u8 0, .int .u8 0, .int .u8 0, .int .u8 0, .int .u8 0, .int .u8 0, .int .u8 0, .int .u8 0, .int .u8 0, .int .u8 0, .int .u8 0, .int .u8 0, .int .u8 0, .int .u8 0, .int .u8 0, .int .u8 0, .int .u8 0, .int .u8 0, .int .u8 0] 43)) = w0 at K s0 ⊢
  refine wp_region_list ?_
  refine actL (w' := w0.alloc (.cells #[.int .u32 1634760805, .int .u32 857760878, .int .u32 2036477234, .int .u32 1797285236] 39)) (.slice (some ⟨w0.heap.size, 0, none⟩) 4 4) rfl (by kernel_rfl) ?_
  simp only [Act.put, List.setIfInBounds_toArray, List.set_cons_zero, List.set_cons_succ]
  refine pureL (.slice (some ⟨w0.heap.size, 0, none⟩) 4 4) rfl (fun _ => by kernel_rfl) ?_
  simp only [Act.put, List.setIfInBounds_toArray, List.set_cons_zero, List.set_cons_succ]
  have HI : HWI k c n w 4 (.slice (some ⟨w0.heap.size, 0, none⟩) 4 4) (w0.alloc (.cells #[.int .u32 1634760805, .int .u32 857760878, .int .u32 2036477234, .int .u32 1797285236] 39)) :=
    ⟨K.call ((Below.refl w0.heap.size w0).alloc (Nat.le_refl _) _), Own.lit w0 (w.heap.size + 1 + 1 + 1) 39 .u32 4 (hst k c n) (by omega) (by unfold maxLen; omega)⟩
  clear K
  generalize (w0.alloc (.cells #[.int .u32 1634760805, .int .u32 857760878, .int .u32 2036477234, .int .u32 1797285236] 39)) = w1 at HI ⊢
  generalize (Value.slice (some ⟨w0.heap.size, 0, none⟩) 4 4) = s1 at HI ⊢
  show Exit.then _ _ _ _ _
  go_wp2
  go_loopw [7, 8] (fun s i w' => ∃ m : Nat, m ≤ 8 ∧ i = .int .i64 m ∧ HWI k c n w (4 + m) s w') (fun _ i _ => 8 - (intOf i).toNat)
  case atStart => exact ⟨0, by omega, rfl, HI⟩
  case round =>
    clear HI
    obtain ⟨m, hm, rfl, HI⟩ := hrel
    have g1 : (0 : Int) ≤ (m : Int) := by omega
    by_cases hlt : m < 8
    · have g2 : (m : Int) < 8 := by omega
      go_upto_region 5 with fail
      refine wp_region_list ?_
      refine pureL u7 rfl (fun _ => by kernel_rfl) ?_
      simp only [Act.put, List.setIfInBounds_toArray, List.set_cons_zero, List.set_cons_succ]
      refine pureL (.int .i64 (m : Int)) rfl (fun _ => by kernel_rfl) ?_
      simp only [Act.put, List.setIfInBounds_toArray, List.set_cons_zero, List.set_cons_succ]
      refine pureL (.int .i64 (4 * (m : Int))) rfl (fun w => mulI .i64 4 (m : Int) _ _ _ _ _ rfl rfl rfl (by rw [IntKind.wrap_i64]; omega) w) ?_
      simp only [Act.put, List.setIfInBounds_toArray, List.set_cons_zero, List.set_cons_succ]
      refine pureL (.int .i64 (m : Int)) rfl (fun _ => by kernel_rfl) ?_
      simp only [Act.put, List.setIfInBounds_toArray, List.set_cons_zero, List.set_cons_succ]
      refine pureL (.int .i64 (4 * (m : Int))) rfl (fun w => mulI .i64 4 (m : Int) _ _ _ _ _ rfl rfl rfl (by rw [IntKind.wrap_i64]; omega) w) ?_
      simp only [Act.put, List.setIfInBounds_toArray, List.set_cons_zero, List.set_cons_succ]
      refine pureL (.int .i64 (4 * (m : Int) + 4)) rfl (fun w => addI .i64 (4 * (m : Int)) 4 _ _ _ _ _ rfl rfl rfl (by rw [IntKind.wrap_i64]; omega) w) ?_
      simp only [Act.put, List.setIfInBounds_toArray, List.set_cons_zero, List.set_cons_succ]
      refine pureL (.slice (some ⟨w.heap.size, 4 * m, none⟩) 4 (32 - 4 * m)) rfl (fun w' => cutLHop _ _ _ _ _ _ _ _ rfl rfl rfl rfl (rcut_key (w.heap.size) m hlt w')) ?_
      simp only [Act.put, List.setIfInBounds_toArray, List.set_cons_zero, List.set_cons_succ]
      refine callL rfl (fun _ => by kernel_rfl) (word_any (w.heap.size) (4 * m) 32 (32 - 4 * m) k (by omega) hk wr (HI.K.get _ _ _ _ (List.mem_cons_of_mem _ List.mem_cons_self))) ?_
      rintro e w2 ⟨q, rfl, rfl⟩
      replace HI := HI.drewN q
      generalize wr.drewN q = w2 at HI ⊢
      refine ⟨_, rfl, ?_⟩
      simp only [Act.put, List.setIfInBounds_toArray, List.set_cons_zero, List.set_cons_succ]
      refine actL (w' := w2.alloc (.cells #[.int .u32 (w32 k (4 * m))] 39)) (.slice (some ⟨w2.heap.size, 0, none⟩) 1 1) rfl (by kernel_rfl) ?_
      simp only [Act.put, List.setIfInBounds_toArray, List.set_cons_zero, List.set_cons_succ]
      obtain ⟨v, w3, hr, HI⟩ := HI.more (by omega) _ (hst_key k c n m hlt) 52
      refine actL v rfl (appendOp _ _ 52 _ _ _ rfl rfl rfl hr) ?_
      simp only [Act.put, List.setIfInBounds_toArray, List.set_cons_zero, List.set_cons_succ]
      refine pureL v rfl (fun _ => by kernel_rfl) ?_
      simp only [Act.put, List.setIfInBounds_toArray, List.set_cons_zero, List.set_cons_succ]
      have HS := show Hid _ from HI
      clear HI hr
      show Exit.inBlock _ _ _ _ _
      go_wp2
      go_roundw
      case rel => first | exact ⟨m + 1, by omega, by go_num, HS.out⟩ | ((repeat apply Exists.intro); refine ⟨⟨m + 1, by omega, ?_, HS.out⟩, rfl⟩ <;> first | rfl | go_num)
      case measure => simp [intOf]; omega
    · obtain rfl : m = 8 := by omega
      clear hlt hm g1
      go_upto_region 6 with fail
      refine wp_region_list ?_
      refine pureL u7 rfl (fun _ => by kernel_rfl) ?_
      simp only [Act.put, List.setIfInBounds_toArray, List.set_cons_zero, List.set_cons_succ]
      refine pureL (.int .u32 c) rfl (fun _ => by kernel_rfl) ?_
      simp only [Act.put, List.setIfInBounds_toArray, List.set_cons_zero, List.set_cons_succ]
      refine actL (w' := wr.alloc (.cells #[.int .u32 c] 39)) (.slice (some ⟨wr.heap.size, 0, none⟩) 1 1) rfl (by kernel_rfl) ?_
      simp only [Act.put, List.setIfInBounds_toArray, List.set_cons_zero, List.set_cons_succ]
      obtain ⟨v, w3, hr, HJ⟩ := HI.more (by omega) c rfl 52
      refine actL v rfl (appendOp _ _ 52 _ _ _ rfl rfl rfl hr) ?_
      simp only [Act.put, List.setIfInBounds_toArray, List.set_cons_zero, List.set_cons_succ]
      refine pureL v rfl (fun _ => by kernel_rfl) ?_
      simp only [Act.put, List.setIfInBounds_toArray, List.set_cons_zero, List.set_cons_succ]
      clear HI hr
      show Exit.then _ _ _ _ _
      go_wp2
      go_loopw [7, 9] (fun s i w' => ∃ m : Nat, m ≤ 3 ∧ i = .int .i64 m ∧ HWI k c n w (13 + m) s w') (fun _ i _ => 3 - (intOf i).toNat)
      case atStart => exact ⟨0, by omega, rfl, HJ⟩
      case round =>
        clear HJ
        obtain ⟨m, hm, rfl, HI⟩ := hrel
        have g1 : (0 : Int) ≤ (m : Int) := by omega
        by_cases hlt : m < 3
        · have g2 : (m : Int) < 3 := by omega
          go_upto_region 10 with fail
          refine wp_region_list ?_
          refine pureL u7 rfl (fun _ => by kernel_rfl) ?_
          simp only [Act.put, List.setIfInBounds_toArray, List.set_cons_zero, List.set_cons_succ]
          refine pureL (.int .i64 (m : Int)) rfl (fun _ => by kernel_rfl) ?_
          simp only [Act.put, List.setIfInBounds_toArray, List.set_cons_zero, List.set_cons_succ]
          refine pureL (.int .i64 (4 * (m : Int))) rfl (fun w => mulI .i64 4 (m : Int) _ _ _ _ _ rfl rfl rfl (by rw [IntKind.wrap_i64]; omega) w) ?_
          simp only [Act.put, List.setIfInBounds_toArray, List.set_cons_zero, List.set_cons_succ]
          refine pureL (.int .i64 (m : Int)) rfl (fun _ => by kernel_rfl) ?_
          simp only [Act.put, List.setIfInBounds_toArray, List.set_cons_zero, List.set_cons_succ]
          refine pureL (.int .i64 (4 * (m : Int))) rfl (fun w => mulI .i64 4 (m : Int) _ _ _ _ _ rfl rfl rfl (by rw [IntKind.wrap_i64]; omega) w) ?_
          simp only [Act.put, List.setIfInBounds_toArray, List.set_cons_zero, List.set_cons_succ]
          refine pureL (.int .i64 (4 * (m : Int) + 4)) rfl (fun w => addI .i64 (4 * (m : Int)) 4 _ _ _ _ _ rfl rfl rfl (by rw [IntKind.wrap_i64]; omega) w) ?_
          simp only [Act.put, List.setIfInBounds_toArray, List.set_cons_zero, List.set_cons_succ]
          refine pureL (.slice (some ⟨w.heap.size + 1, 4 * m, none⟩) 4 (12 - 4 * m)) rfl (fun w' => cutLHop _ _ _ _ _ _ _ _ rfl rfl rfl rfl (rcut_non (w.heap.size + 1) m hlt w')) ?_
          simp only [Act.put, List.setIfInBounds_toArray, List.set_cons_zero, List.set_cons_succ]
          refine callL rfl (fun _ => by kernel_rfl) (word_any (w.heap.size + 1) (4 * m) 12 (12 - 4 * m) n (by omega) hn wr (HI.K.get _ _ _ _ List.mem_cons_self)) ?_
          rintro e w2 ⟨q, rfl, rfl⟩
          replace HI := HI.drewN q
          generalize wr.drewN q = w2 at HI ⊢
          refine ⟨_, rfl, ?_⟩
          simp only [Act.put, List.setIfInBounds_toArray, List.set_cons_zero, List.set_cons_succ]
          refine actL (w' := w2.alloc (.cells #[.int .u32 (w32 n (4 * m))] 39)) (.slice (some ⟨w2.heap.size, 0, none⟩) 1 1) rfl (by kernel_rfl) ?_
          simp only [Act.put, List.setIfInBounds_toArray, List.set_cons_zero, List.set_cons_succ]
          obtain ⟨v, w3, hr, HI⟩ := HI.more (by omega) _ (hst_non k c n m hlt) 52
          refine actL v rfl (appendOp _ _ 52 _ _ _ rfl rfl rfl hr) ?_
          simp only [Act.put, List.setIfInBounds_toArray, List.set_cons_zero, List.set_cons_succ]
          refine pureL v rfl (fun _ => by kernel_rfl) ?_
          simp only [Act.put, List.setIfInBounds_toArray, List.set_cons_zero, List.set_cons_succ]
          have HS := show Hid _ from HI
          clear HI hr
          show Exit.inBlock _ _ _ _ _
          go_wp2
          go_roundw
          case rel => first | exact ⟨m + 1, by omega, by go_num, HS.out⟩ | ((repeat apply Exists.intro); refine ⟨⟨m + 1, by omega, ?_, HS.out⟩, rfl⟩ <;> first | rfl | go_num)
          case measure => simp [intOf]; omega
        · obtain rfl : m = 3 := by omega
          clear hlt hm g1
          obtain ⟨gs, cs, rfl, hgs, hgl, hhs⟩ := HI.own.has (by omega)
          have K := HI.K.own hgs hgl hhs
          clear HI hhs
          go_upto_region 11 with fail
          refine wp_region_list ?_
          refine actL (w' := wr.alloc (.cells #[] 39)) (.slice (some ⟨wr.heap.size, 0, none⟩) 0 0) rfl (by kernel_rfl) ?_
          simp only [Act.put, List.setIfInBounds_toArray, List.set_cons_zero, List.set_cons_succ]
          refine pureL (.slice (some ⟨gs, 0, none⟩) 16 cs) rfl (fun _ => by kernel_rfl) ?_
          simp only [Act.put, List.setIfInBounds_toArray, List.set_cons_zero, List.set_cons_succ]
          have K1 := K.call ((Below.refl wr.heap.size wr).alloc (Nat.le_refl _) (.cells #[] 39))
          obtain ⟨v, w3, hr, ho, hg, _⟩ := run_append_Own (P := Tryd.prog) (ty := 52) Tryd.underlying52 one32 (show Own (wr.alloc (.cells #[] 39)) wr.heap.size 39 .u32 0 (hst k c n) (.slice (some ⟨wr.heap.size, 0, none⟩) 0 0) from Own.lit wr wr.heap.size 39 .u32 0 (hst k c n) (Nat.le_refl _) (by unfold maxLen; omega)) (some ⟨gs, 0, none⟩) 16 cs (hst k c n) (fun j hj => ⟨_, rfl, by rw [Addr.add_mid, Nat.zero_add]; exact (K1.get _ _ _ _ List.mem_cons_self).cell j hj⟩) (fun e => by cases e) (by unfold maxLen; omega) (by omega) (by simp)
          refine actL v rfl (appendOp _ _ 52 _ _ _ rfl rfl rfl hr) ?_
          simp only [Act.put, List.setIfInBounds_toArray, List.set_cons_zero, List.set_cons_succ]
          refine pureL v rfl (fun _ => by kernel_rfl) ?_
          simp only [Act.put, List.setIfInBounds_toArray, List.set_cons_zero, List.set_cons_succ]
          clear hr K
          replace K := K1.grown hg (fun b hb => by injection hb with hb; simp only at hb; omega)
          clear K1 hg
          obtain ⟨gx, cx, rfl, hgx, hgl2, hhx⟩ := (ho.congr (g := hst k c n) (fun j _ => by unfold app; rw [if_neg (by omega), Nat.sub_zero])).has (by omega)
          clear ho
          replace K := (K.own hgx hgl2 hhx).sub [(gx, .u32, 16, hst k c n), (gs, .u32, 16, hst k c n)] (fun p hp => by
            rcases List.mem_cons.1 hp with rfl | hp
            · exact List.mem_cons_self
            · obtain rfl := List.mem_singleton.1 hp; exact List.mem_cons_of_mem _ List.mem_cons_self)
          have hsx : gs < gx := by omega
          have hlo : w.heap.size + 1 + 1 + 1 ≤ gs := hgs
          obtain ⟨M, hM⟩ : ∃ M, w3.heap.size = M := ⟨_, rfl⟩
          rw [hM] at K
          have hxM : gx < M := by omega
          clear hM hgl2 hhx hgx hgl hgs
          show Exit.then _ _ _ _ _
          go_wp2
          go_loopw [11] (fun i w' => ∃ t : Nat, t ≤ 10 ∧ i = .int .i64 t ∧ Kr w M [(gx, .u32, 16, drN (hst k c n) t), (gs, .u32, 16, hst k c n)] [(w.heap.size + 1 + 1, 64)] w') (fun i _ => 10 - (intOf i).toNat)
          case atStart => exact ⟨0, by omega, rfl, K⟩
          case round =>
            clear K
            obtain ⟨t, ht, rfl, K⟩ := hrel
            have g1 : (0 : Int) ≤ (t : Int) := by omega
            by_cases hlt : t < 10
            · have g2 : (t : Int) < 10 := by omega
              obtain ⟨F, hF⟩ : ∃ F, drN (hst k c n) t = F := ⟨_, rfl⟩
              have HF := show Hid _ from (show drN (hst k c n) (t + 1) = tN F 8 by rw [← hF]; rfl)
              rw [hF] at K
              clear hF
              go_wp2
              go_loopw [12] (fun i w' => ∃ j : Nat, j ≤ 8 ∧ i = .int .i64 j ∧ Kr w M [(gx, .u32, 16, tN F j), (gs, .u32, 16, hst k c n)] [(w.heap.size + 1 + 1, 64)] w') (fun i _ => 8 - (intOf i).toNat)
              case atStart => exact ⟨0, by omega, rfl, K⟩
              case round =>
                clear K
                obtain ⟨j, hj, rfl, K⟩ := hrel
                have g3 : (0 : Int) ≤ (j : Int) := by omega
                by_cases hlt2 : j < 8
                · have g4 : (j : Int) < 8 := by omega
                  have HT := show Hid _ from (show tN F (j + 1) = tAt (tN F j) j from rfl)
                  have a1 : pA j < 16 := by have := pA_lt j; omega
                  have a2 : pB j < 16 := by have := pB_lt j; omega
                  have a3 : pC j < 16 := by have := pC_lt j; omega
                  have a4 : pD j < 16 := pD_lt j
                  have e0 : ((j : Int)).tmod 4 = (pA j : Int) := by rw [Int.tmod_eq_emod_of_nonneg g3]; unfold pA; omega
                  have m4 : ∀ x : Nat, ((x : Int)).tmod 4 = ((x % 4 : Nat) : Int) := fun x => by rw [Int.tmod_eq_emod_of_nonneg (by omega)]; omega
                  unfold tAt at HT
                  by_cases h4 : 4 ≤ j
                  · have g5 : (j : Int) ≥ 4 := by omega
                    have e1 : IntKind.i64.wrap ((j : Int) + 1) = ((j + 1 : Nat) : Int) := by rw [IntKind.wrap_i64]; omega
                    have e2 : IntKind.i64.wrap (4 + (((j + 1) % 4 : Nat) : Int)) = (pB j : Int) := by rw [IntKind.wrap_i64]; unfold pB; omega
                    have e3 : IntKind.i64.wrap ((j : Int) + 2) = ((j + 2 : Nat) : Int) := by rw [IntKind.wrap_i64]; omega
                    have e4 : IntKind.i64.wrap (8 + (((j + 2) % 4 : Nat) : Int)) = (pC j : Int) := by rw [IntKind.wrap_i64]; unfold pC; omega
                    have e5 : IntKind.i64.wrap ((j : Int) + 3) = ((j + 3 : Nat) : Int) := by rw [IntKind.wrap_i64]; omega
                    have e6 : IntKind.i64.wrap (12 + (((j + 3) % 4 : Nat) : Int)) = (pD j : Int) := by rw [IntKind.wrap_i64]; unfold pD; omega
                    generalize pA j = A at *
                    generalize pB j = B at *
                    generalize pC j = C at *
                    generalize pD j = D at *
                    generalize tN F j = f at *
                    go_upto_region 21 with fail
                    refine wp_region_list ?_
                    refine pureL (.int .i64 (j : Int)) rfl (fun _ => by kernel_rfl) ?_
                    simp only [Act.put, List.setIfInBounds_toArray, List.set_cons_zero, List.set_cons_succ]
                    refine pureL (.int .i64 (A : Int)) rfl (fun w => remI .i64 _ _ _ _ _ _ _ rfl rfl rfl (by decide) e0 w) ?_
                    simp only [Act.put, List.setIfInBounds_toArray, List.set_cons_zero, List.set_cons_succ]
                    refine pureL (.int .i64 (A : Int)) rfl (fun _ => by kernel_rfl) ?_
                    simp only [Act.put, List.setIfInBounds_toArray, List.set_cons_zero, List.set_cons_succ]
                    show Exit.then _ _ _ _ _
                    go_upto_region 22 with fail
                    refine wp_region_list ?_
                    refine pureL (.int .i64 (j : Int)) rfl (fun _ => by kernel_rfl) ?_
                    simp only [Act.put, List.setIfInBounds_toArray, List.set_cons_zero, List.set_cons_succ]
                    refine pureL (.int .i64 1) rfl (fun _ => by kernel_rfl) ?_
                    simp only [Act.put, List.setIfInBounds_toArray, List.set_cons_zero, List.set_cons_succ]
                    refine pureL (.int .i64 ((j + 1 : Nat) : Int)) rfl (fun w => addI .i64 _ _ _ _ _ _ _ rfl rfl rfl e1 w) ?_
                    simp only [Act.put, List.setIfInBounds_toArray, List.set_cons_zero, List.set_cons_succ]
                    refine pureL (.int .i64 (((j + 1) % 4 : Nat) : Int)) rfl (fun w => remI .i64 _ _ _ _ _ _ _ rfl rfl rfl (by decide) (m4 _) w) ?_
                    simp only [Act.put, List.setIfInBounds_toArray, List.set_cons_zero, List.set_cons_succ]
                    refine pureL (.int .i64 (B : Int)) rfl (fun w => addI .i64 _ _ _ _ _ _ _ rfl rfl rfl e2 w) ?_
                    simp only [Act.put, List.setIfInBounds_toArray, List.set_cons_zero, List.set_cons_succ]
                    refine pureL (.int .i64 (B : Int)) rfl (fun _ => by kernel_rfl) ?_
                    simp only [Act.put, List.setIfInBounds_toArray, List.set_cons_zero, List.set_cons_succ]
                    show Exit.then _ _ _ _ _
                    go_upto_region 23 with fail
                    refine wp_region_list ?_
                    refine pureL (.int .i64 (j : Int)) rfl (fun _ => by kernel_rfl) ?_
                    simp only [Act.put, List.setIfInBounds_toArray, List.set_cons_zero, List.set_cons_succ]
                    refine pureL (.int .i64 1) rfl (fun _ => by kernel_rfl) ?_
                    simp only [Act.put, List.setIfInBounds_toArray, List.set_cons_zero, List.set_cons_succ]
                    refine pureL (.int .i64 2) rfl (fun _ => by kernel_rfl) ?_
                    simp only [Act.put, List.setIfInBounds_toArray, List.set_cons_zero, List.set_cons_succ]
                    refine pureL (.int .i64 ((j + 2 : Nat) : Int)) rfl (fun w => addI .i64 _ _ _ _ _ _ _ rfl rfl rfl e3 w) ?_
                    simp only [Act.put, List.setIfInBounds_toArray, List.set_cons_zero, List.set_cons_succ]
                    refine pureL (.int .i64 (((j + 2) % 4 : Nat) : Int)) rfl (fun w => remI .i64 _ _ _ _ _ _ _ rfl rfl rfl (by decide) (m4 _) w) ?_
                    simp only [Act.put, List.setIfInBounds_toArray, List.set_cons_zero, List.set_cons_succ]
                    refine pureL (.int .i64 (C : Int)) rfl (fun w => addI .i64 _ _ _ _ _ _ _ rfl rfl rfl e4 w) ?_
                    simp only [Act.put, List.setIfInBounds_toArray, List.set_cons_zero, List.set_cons_succ]
                    refine pureL (.int .i64 (C : Int)) rfl (fun _ => by kernel_rfl) ?_
                    simp only [Act.put, List.setIfInBounds_toArray, List.set_cons_zero, List.set_cons_succ]
                    show Exit.then _ _ _ _ _
                    go_upto_region 24 with fail
                    refine wp_region_list ?_
                    refine pureL (.int .i64 (j : Int)) rfl (fun _ => by kernel_rfl) ?_
                    simp only [Act.put, List.setIfInBounds_toArray, List.set_cons_zero, List.set_cons_succ]
                    refine pureL (.int .i64 1) rfl (fun _ => by kernel_rfl) ?_
                    simp only [Act.put, List.setIfInBounds_toArray, List.set_cons_zero, List.set_cons_succ]
                    refine pureL (.int .i64 3) rfl (fun _ => by kernel_rfl) ?_
                    simp only [Act.put, List.setIfInBounds_toArray, List.set_cons_zero, List.set_cons_succ]
                    refine pureL (.int .i64 ((j + 3 : Nat) : Int)) rfl (fun w => addI .i64 _ _ _ _ _ _ _ rfl rfl rfl e5 w) ?_
                    simp only [Act.put, List.setIfInBounds_toArray, List.set_cons_zero, List.set_cons_succ]
                    refine pureL (.int .i64 (((j + 3) % 4 : Nat) : Int)) rfl (fun w => remI .i64 _ _ _ _ _ _ _ rfl rfl rfl (by decide) (m4 _) w) ?_
                    simp only [Act.put, List.setIfInBounds_toArray, List.set_cons_zero, List.set_cons_succ]
                    refine pureL (.int .i64 (D : Int)) rfl (fun w => addI .i64 _ _ _ _ _ _ _ rfl rfl rfl e6 w) ?_
                    simp only [Act.put, List.setIfInBounds_toArray, List.set_cons_zero, List.set_cons_succ]
                    refine pureL (.int .i64 (D : Int)) rfl (fun _ => by kernel_rfl) ?_
                    simp only [Act.put, List.setIfInBounds_toArray, List.set_cons_zero, List.set_cons_succ]
                    show Exit.then _ _ _ _ _
                    clear e0 e1 e2 e3 e4 e5 e6 m4
                    go_upto_region 25 with fail
                    refine wp_region_held_drew (S := fun w' => Kr w M [(gx, .u32, 16, f), (gs, .u32, 16, hst k c n)] [(w.heap.size + 1 + 1, 64)] w') (by kernel_rfl) K.drew ?_
                    clear K
                    intro K
                    refine pureH (i := 0) (some 88) rfl (.slice (some ⟨gx, 0, none⟩) 16 cx) rfl rfl (fun _ => by kernel_rfl) (by kernel_rfl) (by kernel_rfl) (by kernel_rfl) (fun _ _ _ h => h) K ?_
                    simp only [Act.put, List.setIfInBounds_toArray, List.set_cons_zero, List.set_cons_succ]
                    refine pureH (i := 1) (some 89) rfl (.int .i64 (A : Int)) rfl rfl (fun _ => by kernel_rfl) (by kernel_rfl) (by kernel_rfl) (by kernel_rfl) (fun _ _ _ h => h) K ?_
                    simp only [Act.put, List.setIfInBounds_toArray, List.set_cons_zero, List.set_cons_succ]
                    refine pureH (i := 2) (some 90) rfl (.pointer (some ⟨gx, A, none⟩)) rfl rfl (fun w' => idxW gx 16 cx A a1 w' _ _ rfl rfl rfl) (by kernel_rfl) (by kernel_rfl) (by kernel_rfl) (fun _ _ _ h => h) K ?_
                    simp only [Act.put, List.setIfInBounds_toArray, List.set_cons_zero, List.set_cons_succ]
                    refine cellH (i := 3) (some 91) rfl .u32 (.int .u32 (f A)) gx A 39 _ rfl rfl rfl rfl (by kernel_rfl) (by kernel_rfl) (by kernel_rfl) (fun _ _ _ h => h) Tryd.underlying39 K (fun _ h => (h.get _ _ _ _ List.mem_cons_self).cell A a1) ?_
                    simp only [Act.put, List.setIfInBounds_toArray, List.set_cons_zero, List.set_cons_succ]
                    refine pureH (i := 4) (some 92) rfl (.slice (some ⟨gx, 0, none⟩) 16 cx) rfl rfl (fun _ => by kernel_rfl) (by kernel_rfl) (by kernel_rfl) (by kernel_rfl) (fun _ _ _ h => h) K ?_
                    simp only [Act.put, List.setIfInBounds_toArray, List.set_cons_zero, List.set_cons_succ]
                    refine pureH (i := 5) (some 93) rfl (.int .i64 (B : Int)) rfl rfl (fun _ => by kernel_rfl) (by kernel_rfl) (by kernel_rfl) (by kernel_rfl) (fun _ _ _ h => h) K ?_
                    simp only [Act.put, List.setIfInBounds_toArray, List.set_cons_zero, List.set_cons_succ]
                    refine pureH (i := 6) (some 94) rfl (.pointer (some ⟨gx, B, none⟩)) rfl rfl (fun w' => idxW gx 16 cx B a2 w' _ _ rfl rfl rfl) (by kernel_rfl) (by kernel_rfl) (by kernel_rfl) (fun _ _ _ h => h) K ?_
                    simp only [Act.put, List.setIfInBounds_toArray, List.set_cons_zero, List.set_cons_succ]
                    refine cellH (i := 7) (some 95) rfl .u32 (.int .u32 (f B)) gx B 39 _ rfl rfl rfl rfl (by kernel_rfl) (by kernel_rfl) (by kernel_rfl) (fun _ _ _ h => h) Tryd.underlying39 K (fun _ h => (h.get _ _ _ _ List.mem_cons_self).cell B a2) ?_
                    simp only [Act.put, List.setIfInBounds_toArray, List.set_cons_zero, List.set_cons_succ]
                    refine pureH (i := 8) (some 96) rfl (.slice (some ⟨gx, 0, none⟩) 16 cx) rfl rfl (fun _ => by kernel_rfl) (by kernel_rfl) (by kernel_rfl) (by kernel_rfl) (fun _ _ _ h => h) K ?_
                    simp only [Act.put, List.setIfInBounds_toArray, List.set_cons_zero, List.set_cons_succ]
                    refine pureH (i := 9) (some 97) rfl (.int .i64 (C : Int)) rfl rfl (fun _ => by kernel_rfl) (by kernel_rfl) (by kernel_rfl) (by kernel_rfl) (fun _ _ _ h => h) K ?_
                    simp only [Act.put, List.setIfInBounds_toArray, List.set_cons_zero, List.set_cons_succ]
                    refine pureH (i := 10) (some 98) rfl (.pointer (some ⟨gx, C, none⟩)) rfl rfl (fun w' => idxW gx 16 cx C a3 w' _ _ rfl rfl rfl) (by kernel_rfl) (by kernel_rfl) (by kernel_rfl) (fun _ _ _ h => h) K ?_
                    simp only [Act.put, List.setIfInBounds_toArray, List.set_cons_zero, List.set_cons_succ]
                    refine cellH (i := 11) (some 99) rfl .u32 (.int .u32 (f C)) gx C 39 _ rfl rfl rfl rfl (by kernel_rfl) (by kernel_rfl) (by kernel_rfl) (fun _ _ _ h => h) Tryd.underlying39 K (fun _ h => (h.get _ _ _ _ List.mem_cons_self).cell C a3) ?_
                    simp only [Act.put, List.setIfInBounds_toArray, List.set_cons_zero, List.set_cons_succ]
                    refine pureH (i := 12) (some 100) rfl (.slice (some ⟨gx, 0, none⟩) 16 cx) rfl rfl (fun _ => by kernel_rfl) (by kernel_rfl) (by kernel_rfl) (by kernel_rfl) (fun _ _ _ h => h) K ?_
                    simp only [Act.put, List.setIfInBounds_toArray, List.set_cons_zero, List.set_cons_succ]
                    refine pureH (i := 13) (some 101) rfl (.int .i64 (D : Int)) rfl rfl (fun _ => by kernel_rfl) (by kernel_rfl) (by kernel_rfl) (by kernel_rfl) (fun _ _ _ h => h) K ?_
                    simp only [Act.put, List.setIfInBounds_toArray, List.set_cons_zero, List.set_cons_succ]
                    refine pureH (i := 14) (some 102) rfl (.pointer (some ⟨gx, D, none⟩)) rfl rfl (fun w' => idxW gx 16 cx D a4 w' _ _ rfl rfl rfl) (by kernel_rfl) (by kernel_rfl) (by kernel_rfl) (fun _ _ _ h => h) K ?_
                    simp only [Act.put, List.setIfInBounds_toArray, List.set_cons_zero, List.set_cons_succ]
                    refine cellH (i := 15) (some 103) rfl .u32 (.int .u32 (f D)) gx D 39 _ rfl rfl rfl rfl (by kernel_rfl) (by kernel_rfl) (by kernel_rfl) (fun _ _ _ h => h) Tryd.underlying39 K (fun _ h => (h.get _ _ _ _ List.mem_cons_self).cell D a4) ?_
                    simp only [Act.put, List.setIfInBounds_toArray, List.set_cons_zero, List.set_cons_succ]
                    refine pureH (i := 16) (some 104) rfl (.agg (row .u32 4 (quad (f A) (f B) (f C) (f D))).toArray) rfl rfl (fun _ => by kernel_rfl) (by kernel_rfl) (by kernel_rfl) (by kernel_rfl) (fun _ _ _ h => h) K ?_
                    simp only [Act.put, List.setIfInBounds_toArray, List.set_cons_zero, List.set_cons_succ]
                    refine Chain.go (z := 18) (t := 18) (n := 4) (w0 := M) (k := 1) ?_ #[.int .u32 0, .int .u32 0, .int .u32 0, .int .u32 0] 54 rfl rfl rfl (fun _ _ => by kernel_rfl) (fun _ => (hq_zero _ _ _ rfl).there) (fun _ h => h.size) (fun _ _ h l => h.call l) _ K
                    refine Chain.call 17 105 (fun v => v = .agg (row .u32 4 (hqt (quad (f A) (f B) (f C) (f D)))).toArray) (by kernel_rfl) (by kernel_rfl) rfl rfl rfl (by decide) (by decide) (by intros; simp) (by decide +kernel) (fun _ => by kernel_rfl) (fun w' _ => (refQuarter_any (quad (f A) (f B) (f C) (f D)) w').mono fun e w'' ⟨he, l⟩ => ⟨_, he, rfl, l⟩) ?_
                    rintro _ rfl
                    simp only [Act.put, List.setIfInBounds_toArray, List.set_cons_zero, List.set_cons_succ]
                    refine Chain.last (by kernel_rfl) ?_
                    clear K
                    intro G w4 K hFb
                    simp only [Act.put, List.setIfInBounds_toArray, List.set_cons_zero, List.set_cons_succ]
                    refine storesH (i := 19) none rfl .u32 4 (hqt (quad (f A) (f B) (f C) (f D))) G 54 _ _ (by kernel_rfl) rfl rfl rfl rfl rfl (room_of hFb.th) (hq_info' _) (K.past G hFb.lo _) ?_
                    refine wpAnyH_done (by kernel_rfl) ?_ _
                    have hGM := hFb.lo
                    replace K := K.land hFb .u32 (hqt (quad (f A) (f B) (f C) (f D)))
                    clear hFb
                    generalize w4.setCells G 0 (row .u32 4 (hqt (quad (f A) (f B) (f C) (f D)))) = w5 at K ⊢
                    have hM5 : M ≤ w4.heap.size := by have := (K.rows (G, .u32, 4, hqt (quad (f A) (f B) (f C) (f D))) List.mem_cons_self).2; omega
                    generalize w4.heap.size = M5 at K hM5
                    go_upto_region 26 with fail
                    refine wp_region_list ?_
                    refine pureL (.slice (some ⟨gx, 0, none⟩) 16 cx) rfl (fun _ => by kernel_rfl) ?_
                    simp only [Act.put, List.setIfInBounds_toArray, List.set_cons_zero, List.set_cons_succ]
                    refine pureL (.int .i64 (A : Int)) rfl (fun _ => by kernel_rfl) ?_
                    simp only [Act.put, List.setIfInBounds_toArray, List.set_cons_zero, List.set_cons_succ]
                    refine pureL (.pointer (some ⟨G, 0, none⟩)) rfl (fun _ => by kernel_rfl) ?_
                    simp only [Act.put, List.setIfInBounds_toArray, List.set_cons_zero, List.set_cons_succ]
                    refine cellL .u32 (.int .u32 (qA (f A) (f B) (f C) (f D))) G 0 39 _ rfl rfl rfl Tryd.underlying39 ((K.get _ _ _ _ List.mem_cons_self).cell 0 (by omega)) ?_
                    simp only [Act.put, List.setIfInBounds_toArray, List.set_cons_zero, List.set_cons_succ]
                    refine pureL (.pointer (some ⟨gx, A, none⟩)) rfl (fun w' => idxW gx 16 cx A a1 w' _ _ rfl rfl rfl) ?_
                    simp only [Act.put, List.setIfInBounds_toArray, List.set_cons_zero, List.set_cons_succ]
                    refine storeL .u32 (qA (f A) (f B) (f C) (f D)) gx A 39 _ _ rfl rfl rfl rfl (by rw [(K.get _ _ _ _ (List.mem_cons_of_mem _ List.mem_cons_self)).cell A a1]; rfl) ((K.get _ _ _ _ (List.mem_cons_of_mem _ List.mem_cons_self)).free A a1) (by kernel_rfl) ?_
                    simp only [Act.put]
                    replace K := K.setCell [(G, .u32, 4, hqt (quad (f A) (f B) (f C) (f D))), (gs, .u32, 16, hst k c n)] gx .u32 16 (f) A a1 (qA (f A) (f B) (f C) (f D)) (List.mem_cons_of_mem _ List.mem_cons_self) (fun p hp => by rcases List.mem_cons.1 hp with rfl | hp; exact List.mem_cons_self; exact List.mem_cons_of_mem _ (List.mem_cons_of_mem _ hp)) (fun p hp => by rcases List.mem_cons.1 hp with rfl | hp; simp only; omega; obtain rfl := List.mem_singleton.1 hp; simp only; omega) (by omega)
                    generalize w5.setCell ⟨gx, A, none⟩ (.int .u32 (qA (f A) (f B) (f C) (f D))) = w6 at K ⊢
                    show Exit.then _ _ _ _ _
                    go_upto_region 27 with fail
                    refine wp_region_list ?_
                    refine pureL (.slice (some ⟨gx, 0, none⟩) 16 cx) rfl (fun _ => by kernel_rfl) ?_
                    simp only [Act.put, List.setIfInBounds_toArray, List.set_cons_zero, List.set_cons_succ]
                    refine pureL (.int .i64 (B : Int)) rfl (fun _ => by kernel_rfl) ?_
                    simp only [Act.put, List.setIfInBounds_toArray, List.set_cons_zero, List.set_cons_succ]
                    refine pureL (.pointer (some ⟨G, 1, none⟩)) rfl (fun _ => by kernel_rfl) ?_
                    simp only [Act.put, List.setIfInBounds_toArray, List.set_cons_zero, List.set_cons_succ]
                    refine cellL .u32 (.int .u32 (qB (f A) (f B) (f C) (f D))) G 1 39 _ rfl rfl rfl Tryd.underlying39 ((K.get _ _ _ _ (List.mem_cons_of_mem _ List.mem_cons_self)).cell 1 (by omega)) ?_
                    simp only [Act.put, List.setIfInBounds_toArray, List.set_cons_zero, List.set_cons_succ]
                    refine pureL (.pointer (some ⟨gx, B, none⟩)) rfl (fun w' => idxW gx 16 cx B a2 w' _ _ rfl rfl rfl) ?_
                    simp only [Act.put, List.setIfInBounds_toArray, List.set_cons_zero, List.set_cons_succ]
                    refine storeL .u32 (qB (f A) (f B) (f C) (f D)) gx B 39 _ _ rfl rfl rfl rfl (by rw [(K.get _ _ _ _ List.mem_cons_self).cell B a2]; rfl) ((K.get _ _ _ _ List.mem_cons_self).free B a2) (by kernel_rfl) ?_
                    simp only [Act.put]
                    replace K := K.setCell [(G, .u32, 4, hqt (quad (f A) (f B) (f C) (f D))), (gs, .u32, 16, hst k c n)] gx .u32 16 (upd (f) A (qA (f A) (f B) (f C) (f D))) B a2 (qB (f A) (f B) (f C) (f D)) List.mem_cons_self (fun p hp => List.mem_cons_of_mem _ hp) (fun p hp => by rcases List.mem_cons.1 hp with rfl | hp; simp only; omega; obtain rfl := List.mem_singleton.1 hp; simp only; omega) (by omega)
                    generalize w6.setCell ⟨gx, B, none⟩ (.int .u32 (qB (f A) (f B) (f C) (f D))) = w7 at K ⊢
                    show Exit.then _ _ _ _ _
                    go_upto_region 28 with fail
                    refine wp_region_list ?_
                    refine pureL (.slice (some ⟨gx, 0, none⟩) 16 cx) rfl (fun _ => by kernel_rfl) ?_
                    simp only [Act.put, List.setIfInBounds_toArray, List.set_cons_zero, List.set_cons_succ]
                    refine pureL (.int .i64 (C : Int)) rfl (fun _ => by kernel_rfl) ?_
                    simp only [Act.put, List.setIfInBounds_toArray, List.set_cons_zero, List.set_cons_succ]
                    refine pureL (.pointer (some ⟨G, 2, none⟩)) rfl (fun _ => by kernel_rfl) ?_
                    simp only [Act.put, List.setIfInBounds_toArray, List.set_cons_zero, List.set_cons_succ]
                    refine cellL .u32 (.int .u32 (qC (f A) (f B) (f C) (f D))) G 2 39 _ rfl rfl rfl Tryd.underlying39 ((K.get _ _ _ _ (List.mem_cons_of_mem _ List.mem_cons_self)).cell 2 (by omega)) ?_
                    simp only [Act.put, List.setIfInBounds_toArray, List.set_cons_zero, List.set_cons_succ]
                    refine pureL (.pointer (some ⟨gx, C, none⟩)) rfl (fun w' => idxW gx 16 cx C a3 w' _ _ rfl rfl rfl) ?_
                    simp only [Act.put, List.setIfInBounds_toArray, List.set_cons_zero, List.set_cons_succ]
                    refine storeL .u32 (qC (f A) (f B) (f C) (f D)) gx C 39 _ _ rfl rfl rfl rfl (by rw [(K.get _ _ _ _ List.mem_cons_self).cell C a3]; rfl) ((K.get _ _ _ _ List.mem_cons_self).free C a3) (by kernel_rfl) ?_
                    simp only [Act.put]
                    replace K := K.setCell [(G, .u32, 4, hqt (quad (f A) (f B) (f C) (f D))), (gs, .u32, 16, hst k c n)] gx .u32 16 (upd (upd (f) A (qA (f A) (f B) (f C) (f D))) B (qB (f A) (f B) (f C) (f D))) C a3 (qC (f A) (f B) (f C) (f D)) List.mem_cons_self (fun p hp => List.mem_cons_of_mem _ hp) (fun p hp => by rcases List.mem_cons.1 hp with rfl | hp; simp only; omega; obtain rfl := List.mem_singleton.1 hp; simp only; omega) (by omega)
                    generalize w7.setCell ⟨gx, C, none⟩ (.int .u32 (qC (f A) (f B) (f C) (f D))) = w8 at K ⊢
                    show Exit.then _ _ _ _ _
                    go_upto_region 29 with fail
                    refine wp_region_list ?_
                    refine pureL (.slice (some ⟨gx, 0, none⟩) 16 cx) rfl (fun _ => by kernel_rfl) ?_
                    simp only [Act.put, List.setIfInBounds_toArray, List.set_cons_zero, List.set_cons_succ]
                    refine pureL (.int .i64 (D : Int)) rfl (fun _ => by kernel_rfl) ?_
                    simp only [Act.put, List.setIfInBounds_toArray, List.set_cons_zero, List.set_cons_succ]
                    refine pureL (.pointer (some ⟨G, 3, none⟩)) rfl (fun _ => by kernel_rfl) ?_
                    simp only [Act.put, List.setIfInBounds_toArray, List.set_cons_zero, List.set_cons_succ]
                    refine cellL .u32 (.int .u32 (qD (f A) (f B) (f C) (f D))) G 3 39 _ rfl rfl rfl Tryd.underlying39 ((K.get _ _ _ _ (List.mem_cons_of_mem _ List.mem_cons_self)).cell 3 (by omega)) ?_
                    simp only [Act.put, List.setIfInBounds_toArray, List.set_cons_zero, List.set_cons_succ]
                    refine pureL (.pointer (some ⟨gx, D, none⟩)) rfl (fun w' => idxW gx 16 cx D a4 w' _ _ rfl rfl rfl) ?_
                    simp only [Act.put, List.setIfInBounds_toArray, List.set_cons_zero, List.set_cons_succ]
                    refine storeL .u32 (qD (f A) (f B) (f C) (f D)) gx D 39 _ _ rfl rfl rfl rfl (by rw [(K.get _ _ _ _ List.mem_cons_self).cell D a4]; rfl) ((K.get _ _ _ _ List.mem_cons_self).free D a4) (by kernel_rfl) ?_
                    simp only [Act.put]
                    replace K := K.setCell [(G, .u32, 4, hqt (quad (f A) (f B) (f C) (f D))), (gs, .u32, 16, hst k c n)] gx .u32 16 (upd (upd (upd (f) A (qA (f A) (f B) (f C) (f D))) B (qB (f A) (f B) (f C) (f D))) C (qC (f A) (f B) (f C) (f D))) D a4 (qD (f A) (f B) (f C) (f D)) List.mem_cons_self (fun p hp => List.mem_cons_of_mem _ hp) (fun p hp => by rcases List.mem_cons.1 hp with rfl | hp; simp only; omega; obtain rfl := List.mem_singleton.1 hp; simp only; omega) (by omega)
                    generalize w8.setCell ⟨gx, D, none⟩ (.int .u32 (qD (f A) (f B) (f C) (f D))) = w9 at K ⊢
                    show Exit.inBlock _ _ _ _ _
                    rw [← HT.out] at K
                    replace K := K.back [(gx, .u32, 16, tN F (j + 1)), (gs, .u32, 16, hst k c n)] M (fun p hp => by rcases List.mem_cons.1 hp with rfl | hp; exact List.mem_cons_self; exact List.mem_cons_of_mem _ (List.mem_cons_of_mem _ hp)) (fun p hp => by rcases List.mem_cons.1 hp with rfl | hp; simp only; omega; obtain rfl := List.mem_singleton.1 hp; simp only; omega) (fun q hq => by obtain rfl := List.mem_singleton.1 hq; simp only; omega) (by omega) hM5
                    have HS := show Hid _ from K
                    clear K HT a1 a2 a3 a4
                    go_wp2
                    go_roundw
                    case rel => first | exact ⟨j + 1, by omega, by go_num, HS.out⟩ | ((repeat apply Exists.intro); refine ⟨⟨j + 1, by omega, ?_, HS.out⟩, rfl⟩ <;> first | rfl | go_num)
                    case measure => simp [intOf]; omega
                  · have g5 : ¬ (j : Int) ≥ 4 := by omega
                    have e1 : IntKind.i64.wrap ((j : Int) + 0) = ((j + 0 : Nat) : Int) := by rw [IntKind.wrap_i64]; omega
                    have e2 : IntKind.i64.wrap (4 + (((j + 0) % 4 : Nat) : Int)) = (pB j : Int) := by rw [IntKind.wrap_i64]; unfold pB; omega
                    have e3 : IntKind.i64.wrap ((j : Int) + 0) = ((j + 0 : Nat) : Int) := by rw [IntKind.wrap_i64]; omega
                    have e4 : IntKind.i64.wrap (8 + (((j + 0) % 4 : Nat) : Int)) = (pC j : Int) := by rw [IntKind.wrap_i64]; unfold pC; omega
                    have e5 : IntKind.i64.wrap ((j : Int) + 0) = ((j + 0 : Nat) : Int) := by rw [IntKind.wrap_i64]; omega
                    have e6 : IntKind.i64.wrap (12 + (((j + 0) % 4 : Nat) : Int)) = (pD j : Int) := by rw [IntKind.wrap_i64]; unfold pD; omega
                    generalize pA j = A at *
                    generalize pB j = B at *
                    generalize pC j = C at *
                    generalize pD j = D at *
                    generalize tN F j = f at *
                    go_upto_region 21 with fail
                    refine wp_region_list ?_
                    refine pureL (.int .i64 (j : Int)) rfl (fun _ => by kernel_rfl) ?_
                    simp only [Act.put, List.setIfInBounds_toArray, List.set_cons_zero, List.set_cons_succ]
                    refine pureL (.int .i64 (A : Int)) rfl (fun w => remI .i64 _ _ _ _ _ _ _ rfl rfl rfl (by decide) e0 w) ?_
                    simp only [Act.put, List.setIfInBounds_toArray, List.set_cons_zero, List.set_cons_succ]
                    refine pureL (.int .i64 (A : Int)) rfl (fun _ => by kernel_rfl) ?_
                    simp only [Act.put, List.setIfInBounds_toArray, List.set_cons_zero, List.set_cons_succ]
                    show Exit.then _ _ _ _ _
                    go_upto_region 22 with fail
                    refine wp_region_list ?_
                    refine pureL (.int .i64 (j : Int)) rfl (fun _ => by kernel_rfl) ?_
                    simp only [Act.put, List.setIfInBounds_toArray, List.set_cons_zero, List.set_cons_succ]
                    refine pureL (.int .i64 0) rfl (fun _ => by kernel_rfl) ?_
                    simp only [Act.put, List.setIfInBounds_toArray, List.set_cons_zero, List.set_cons_succ]
                    refine pureL (.int .i64 ((j + 0 : Nat) : Int)) rfl (fun w => addI .i64 _ _ _ _ _ _ _ rfl rfl rfl e1 w) ?_
                    simp only [Act.put, List.setIfInBounds_toArray, List.set_cons_zero, List.set_cons_succ]
                    refine pureL (.int .i64 (((j + 0) % 4 : Nat) : Int)) rfl (fun w => remI .i64 _ _ _ _ _ _ _ rfl rfl rfl (by decide) (m4 _) w) ?_
                    simp only [Act.put, List.setIfInBounds_toArray, List.set_cons_zero, List.set_cons_succ]
                    refine pureL (.int .i64 (B : Int)) rfl (fun w => addI .i64 _ _ _ _ _ _ _ rfl rfl rfl e2 w) ?_
                    simp only [Act.put, List.setIfInBounds_toArray, List.set_cons_zero, List.set_cons_succ]
                    refine pureL (.int .i64 (B : Int)) rfl (fun _ => by kernel_rfl) ?_
                    simp only [Act.put, List.setIfInBounds_toArray, List.set_cons_zero, List.set_cons_succ]
                    show Exit.then _ _ _ _ _
                    go_upto_region 23 with fail
                    refine wp_region_list ?_
                    refine pureL (.int .i64 (j : Int)) rfl (fun _ => by kernel_rfl) ?_
                    simp only [Act.put, List.setIfInBounds_toArray, List.set_cons_zero, List.set_cons_succ]
                    refine pureL (.int .i64 0) rfl (fun _ => by kernel_rfl) ?_
                    simp only [Act.put, List.setIfInBounds_toArray, List.set_cons_zero, List.set_cons_succ]
                    refine pureL (.int .i64 0) rfl (fun _ => by kernel_rfl) ?_
                    simp only [Act.put, List.setIfInBounds_toArray, List.set_cons_zero, List.set_cons_succ]
                    refine pureL (.int .i64 ((j + 0 : Nat) : Int)) rfl (fun w => addI .i64 _ _ _ _ _ _ _ rfl rfl rfl e3 w) ?_
                    simp only [Act.put, List.setIfInBounds_toArray, List.set_cons_zero, List.set_cons_succ]
                    refine pureL (.int .i64 (((j + 0) % 4 : Nat) : Int)) rfl (fun w => remI .i64 _ _ _ _ _ _ _ rfl rfl rfl (by decide) (m4 _) w) ?_
                    simp only [Act.put, List.setIfInBounds_toArray, List.set_cons_zero, List.set_cons_succ]
                    refine pureL (.int .i64 (C : Int)) rfl (fun w => addI .i64 _ _ _ _ _ _ _ rfl rfl rfl e4 w) ?_
                    simp only [Act.put, List.setIfInBounds_toArray, List.set_cons_zero, List.set_cons_succ]
                    refine pureL (.int .i64 (C : Int)) rfl (fun _ => by kernel_rfl) ?_
                    simp only [Act.put, List.setIfInBounds_toArray, List.set_cons_zero, List.set_cons_succ]
                    show Exit.then _ _ _ _ _
                    go_upto_region 24 with fail
                    refine wp_region_list ?_
                    refine pureL (.int .i64 (j : Int)) rfl (fun _ => by kernel_rfl) ?_
                    simp only [Act.put, List.setIfInBounds_toArray, List.set_cons_zero, List.set_cons_succ]
                    refine pureL (.int .i64 0) rfl (fun _ => by kernel_rfl) ?_
                    simp only [Act.put, List.setIfInBounds_toArray, List.set_cons_zero, List.set_cons_succ]
                    refine pureL (.int .i64 0) rfl (fun _ => by kernel_rfl) ?_
                    simp only [Act.put, List.setIfInBounds_toArray, List.set_cons_zero, List.set_cons_succ]
                    refine pureL (.int .i64 ((j + 0 : Nat) : Int)) rfl (fun w => addI .i64 _ _ _ _ _ _ _ rfl rfl rfl e5 w) ?_
                    simp only [Act.put, List.setIfInBounds_toArray, List.set_cons_zero, List.set_cons_succ]
                    refine pureL (.int .i64 (((j + 0) % 4 : Nat) : Int)) rfl (fun w => remI .i64 _ _ _ _ _ _ _ rfl rfl rfl (by decide) (m4 _) w) ?_
                    simp only [Act.put, List.setIfInBounds_toArray, List.set_cons_zero, List.set_cons_succ]
                    refine pureL (.int .i64 (D : Int)) rfl (fun w => addI .i64 _ _ _ _ _ _ _ rfl rfl rfl e6 w) ?_
                    simp only [Act.put, List.setIfInBounds_toArray, List.set_cons_zero, List.set_cons_succ]
                    refine pureL (.int .i64 (D : Int)) rfl (fun _ => by kernel_rfl) ?_
                    simp only [Act.put, List.setIfInBounds_toArray, List.set_cons_zero, List.set_cons_succ]
                    show Exit.then _ _ _ _ _
                    clear e0 e1 e2 e3 e4 e5 e6 m4
                    go_upto_region 25 with fail
                    refine wp_region_held_drew (S := fun w' => Kr w M [(gx, .u32, 16, f), (gs, .u32, 16, hst k c n)] [(w.heap.size + 1 + 1, 64)] w') (by kernel_rfl) K.drew ?_
                    clear K
                    intro K
                    refine pureH (i := 0) (some 88) rfl (.slice (some ⟨gx, 0, none⟩) 16 cx) rfl rfl (fun _ => by kernel_rfl) (by kernel_rfl) (by kernel_rfl) (by kernel_rfl) (fun _ _ _ h => h) K ?_
                    simp only [Act.put, List.setIfInBounds_toArray, List.set_cons_zero, List.set_cons_succ]
                    refine pureH (i := 1) (some 89) rfl (.int .i64 (A : Int)) rfl rfl (fun _ => by kernel_rfl) (by kernel_rfl) (by kernel_rfl) (by kernel_rfl) (fun _ _ _ h => h) K ?_
                    simp only [Act.put, List.setIfInBounds_toArray, List.set_cons_zero, List.set_cons_succ]
                    refine pureH (i := 2) (some 90) rfl (.pointer (some ⟨gx, A, none⟩)) rfl rfl (fun w' => idxW gx 16 cx A a1 w' _ _ rfl rfl rfl) (by kernel_rfl) (by kernel_rfl) (by kernel_rfl) (fun _ _ _ h => h) K ?_
                    simp only [Act.put, List.setIfInBounds_toArray, List.set_cons_zero, List.set_cons_succ]
                    refine cellH (i := 3) (some 91) rfl .u32 (.int .u32 (f A)) gx A 39 _ rfl rfl rfl rfl (by kernel_rfl) (by kernel_rfl) (by kernel_rfl) (fun _ _ _ h => h) Tryd.underlying39 K (fun _ h => (h.get _ _ _ _ List.mem_cons_self).cell A a1) ?_
                    simp only [Act.put, List.setIfInBounds_toArray, List.set_cons_zero, List.set_cons_succ]
                    refine pureH (i := 4) (some 92) rfl (.slice (some ⟨gx, 0, none⟩) 16 cx) rfl rfl (fun _ => by kernel_rfl) (by kernel_rfl) (by kernel_rfl) (by kernel_rfl) (fun _ _ _ h => h) K ?_
                    simp only [Act.put, List.setIfInBounds_toArray, List.set_cons_zero, List.set_cons_succ]
                    refine pureH (i := 5) (some 93) rfl (.int .i64 (B : Int)) rfl rfl (fun _ => by kernel_rfl) (by kernel_rfl) (by kernel_rfl) (by kernel_rfl) (fun _ _ _ h => h) K ?_
                    simp only [Act.put, List.setIfInBounds_toArray, List.set_cons_zero, List.set_cons_succ]
                    refine pureH (i := 6) (some 94) rfl (.pointer (some ⟨gx, B, none⟩)) rfl rfl (fun w' => idxW gx 16 cx B a2 w' _ _ rfl rfl rfl) (by kernel_rfl) (by kernel_rfl) (by kernel_rfl) (fun _ _ _ h => h) K ?_
                    simp only [Act.put, List.setIfInBounds_toArray, List.set_cons_zero, List.set_cons_succ]
                    refine cellH (i := 7) (some 95) rfl .u32 (.int .u32 (f B)) gx B 39 _ rfl rfl rfl rfl (by kernel_rfl) (by kernel_rfl) (by kernel_rfl) (fun _ _ _ h => h) Tryd.underlying39 K (fun _ h => (h.get _ _ _ _ List.mem_cons_self).cell B a2) ?_
                    simp only [Act.put, List.setIfInBounds_toArray, List.set_cons_zero, List.set_cons_succ]
                    refine pureH (i := 8) (some 96) rfl (.slice (some ⟨gx, 0, none⟩) 16 cx) rfl rfl (fun _ => by kernel_rfl) (by kernel_rfl) (by kernel_rfl) (by kernel_rfl) (fun _ _ _ h => h) K ?_
                    simp only [Act.put, List.setIfInBounds_toArray, List.set_cons_zero, List.set_cons_succ]
                    refine pureH (i := 9) (some 97) rfl (.int .i64 (C : Int)) rfl rfl (fun _ => by kernel_rfl) (by kernel_rfl) (by kernel_rfl) (by kernel_rfl) (fun _ _ _ h => h) K ?_
                    simp only [Act.put, List.setIfInBounds_toArray, List.set_cons_zero, List.set_cons_succ]
                    refine pureH (i := 10) (some 98) rfl (.pointer (some ⟨gx, C, none⟩)) rfl rfl (fun w' => idxW gx 16 cx C a3 w' _ _ rfl rfl rfl) (by kernel_rfl) (by kernel_rfl) (by kernel_rfl) (fun _ _ _ h => h) K ?_
                    simp only [Act.put, List.setIfInBounds_toArray, List.set_cons_zero, List.set_cons_succ]
                    refine cellH (i := 11) (some 99) rfl .u32 (.int .u32 (f C)) gx C 39 _ rfl rfl rfl rfl (by kernel_rfl) (by kernel_rfl) (by kernel_rfl) (fun _ _ _ h => h) Tryd.underlying39 K (fun _ h => (h.get _ _ _ _ List.mem_cons_self).cell C a3) ?_
                    simp only [Act.put, List.setIfInBounds_toArray, List.set_cons_zero, List.set_cons_succ]
                    refine pureH (i := 12) (some 100) rfl (.slice (some ⟨gx, 0, none⟩) 16 cx) rfl rfl (fun _ => by kernel_rfl) (by kernel_rfl) (by kernel_rfl) (by kernel_rfl) (fun _ _ _ h => h) K ?_
                    simp only [Act.put, List.setIfInBounds_toArray, List.set_cons_zero, List.set_cons_succ]
                    refine pureH (i := 13) (some 101) rfl (.int .i64 (D : Int)) rfl rfl (fun _ => by kernel_rfl) (by kernel_rfl) (by kernel_rfl) (by kernel_rfl) (fun _ _ _ h => h) K ?_
                    simp only [Act.put, List.setIfInBounds_toArray, List.set_cons_zero, List.set_cons_succ]
                    refine pureH (i := 14) (some 102) rfl (.pointer (some ⟨gx, D, none⟩)) rfl rfl (fun w' => idxW gx 16 cx D a4 w' _ _ rfl rfl rfl) (by kernel_rfl) (by kernel_rfl) (by kernel_rfl) (fun _ _ _ h => h) K ?_
                    simp only [Act.put, List.setIfInBounds_toArray, List.set_cons_zero, List.set_cons_succ]
                    refine cellH (i := 15) (some 103) rfl .u32 (.int .u32 (f D)) gx D 39 _ rfl rfl rfl rfl (by kernel_rfl) (by kernel_rfl) (by kernel_rfl) (fun _ _ _ h => h) Tryd.underlying39 K (fun _ h => (h.get _ _ _ _ List.mem_cons_self).cell D a4) ?_
                    simp only [Act.put, List.setIfInBounds_toArray, List.set_cons_zero, List.set_cons_succ]
                    refine pureH (i := 16) (some 104) rfl (.agg (row .u32 4 (quad (f A) (f B) (f C) (f D))).toArray) rfl rfl (fun _ => by kernel_rfl) (by kernel_rfl) (by kernel_rfl) (by kernel_rfl) (fun _ _ _ h => h) K ?_
                    simp only [Act.put, List.setIfInBounds_toArray, List.set_cons_zero, List.set_cons_succ]
                    refine Chain.go (z := 18) (t := 18) (n := 4) (w0 := M) (k := 1) ?_ #[.int .u32 0, .int .u32 0, .int .u32 0, .int .u32 0] 54 rfl rfl rfl (fun _ _ => by kernel_rfl) (fun _ => (hq_zero _ _ _ rfl).there) (fun _ h => h.size) (fun _ _ h l => h.call l) _ K
                    refine Chain.call 17 105 (fun v => v = .agg (row .u32 4 (hqt (quad (f A) (f B) (f C) (f D)))).toArray) (by kernel_rfl) (by kernel_rfl) rfl rfl rfl (by decide) (by decide) (by intros; simp) (by decide +kernel) (fun _ => by kernel_rfl) (fun w' _ => (refQuarter_any (quad (f A) (f B) (f C) (f D)) w').mono fun e w'' ⟨he, l⟩ => ⟨_, he, rfl, l⟩) ?_
                    rintro _ rfl
                    simp only [Act.put, List.setIfInBounds_toArray, List.set_cons_zero, List.set_cons_succ]
                    refine Chain.last (by kernel_rfl) ?_
                    clear K
                    intro G w4 K hFb
                    simp only [Act.put, List.setIfInBounds_toArray, List.set_cons_zero, List.set_cons_succ]
                    refine storesH (i := 19) none rfl .u32 4 (hqt (quad (f A) (f B) (f C) (f D))) G 54 _ _ (by kernel_rfl) rfl rfl rfl rfl rfl (room_of hFb.th) (hq_info' _) (K.past G hFb.lo _) ?_
                    refine wpAnyH_done (by kernel_rfl) ?_ _
                    have hGM := hFb.lo
                    replace K := K.land hFb .u32 (hqt (quad (f A) (f B) (f C) (f D)))
                    clear hFb
                    generalize w4.setCells G 0 (row .u32 4 (hqt (quad (f A) (f B) (f C) (f D)))) = w5 at K ⊢
                    have hM5 : M ≤ w4.heap.size := by have := (K.rows (G, .u32, 4, hqt (quad (f A) (f B) (f C) (f D))) List.mem_cons_self).2; omega
                    generalize w4.heap.size = M5 at K hM5
                    go_upto_region 26 with fail
                    refine wp_region_list ?_
                    refine pureL (.slice (some ⟨gx, 0, none⟩) 16 cx) rfl (fun _ => by kernel_rfl) ?_
                    simp only [Act.put, List.setIfInBounds_toArray, List.set_cons_zero, List.set_cons_succ]
                    refine pureL (.int .i64 (A : Int)) rfl (fun _ => by kernel_rfl) ?_
                    simp only [Act.put, List.setIfInBounds_toArray, List.set_cons_zero, List.set_cons_succ]
                    refine pureL (.pointer (some ⟨G, 0, none⟩)) rfl (fun _ => by kernel_rfl) ?_
                    simp only [Act.put, List.setIfInBounds_toArray, List.set_cons_zero, List.set_cons_succ]
                    refine cellL .u32 (.int .u32 (qA (f A) (f B) (f C) (f D))) G 0 39 _ rfl rfl rfl Tryd.underlying39 ((K.get _ _ _ _ List.mem_cons_self).cell 0 (by omega)) ?_
                    simp only [Act.put, List.setIfInBounds_toArray, List.set_cons_zero, List.set_cons_succ]
                    refine pureL (.pointer (some ⟨gx, A, none⟩)) rfl (fun w' => idxW gx 16 cx A a1 w' _ _ rfl rfl rfl) ?_
                    simp only [Act.put, List.setIfInBounds_toArray, List.set_cons_zero, List.set_cons_succ]
                    refine storeL .u32 (qA (f A) (f B) (f C) (f D)) gx A 39 _ _ rfl rfl rfl rfl (by rw [(K.get _ _ _ _ (List.mem_cons_of_mem _ List.mem_cons_self)).cell A a1]; rfl) ((K.get _ _ _ _ (List.mem_cons_of_mem _ List.mem_cons_self)).free A a1) (by kernel_rfl) ?_
                    simp only [Act.put]
                    replace K := K.setCell [(G, .u32, 4, hqt (quad (f A) (f B) (f C) (f D))), (gs, .u32, 16, hst k c n)] gx .u32 16 (f) A a1 (qA (f A) (f B) (f C) (f D)) (List.mem_cons_of_mem _ List.mem_cons_self) (fun p hp => by rcases List.mem_cons.1 hp with rfl | hp; exact List.mem_cons_self; exact List.mem_cons_of_mem _ (List.mem_cons_of_mem _ hp)) (fun p hp => by rcases List.mem_cons.1 hp with rfl | hp; simp only; omega; obtain rfl := List.mem_singleton.1 hp; simp only; omega) (by omega)
                    generalize w5.setCell ⟨gx, A, none⟩ (.int .u32 (qA (f A) (f B) (f C) (f D))) = w6 at K ⊢
                    show Exit.then _ _ _ _ _
                    go_upto_region 27 with fail
                    refine wp_region_list ?_
                    refine pureL (.slice (some ⟨gx, 0, none⟩) 16 cx) rfl (fun _ => by kernel_rfl) ?_
                    simp only [Act.put, List.setIfInBounds_toArray, List.set_cons_zero, List.set_cons_succ]
                    refine pureL (.int .i64 (B : Int)) rfl (fun _ => by kernel_rfl) ?_
                    simp only [Act.put, List.setIfInBounds_toArray, List.set_cons_zero, List.set_cons_succ]
                    refine pureL (.pointer (some ⟨G, 1, none⟩)) rfl (fun _ => by kernel_rfl) ?_
                    simp only [Act.put, List.setIfInBounds_toArray, List.set_cons_zero, List.set_cons_succ]
                    refine cellL .u32 (.int .u32 (qB (f A) (f B) (f C) (f D))) G 1 39 _ rfl rfl rfl Tryd.underlying39 ((K.get _ _ _ _ (List.mem_cons_of_mem _ List.mem_cons_self)).cell 1 (by omega)) ?_
                    simp only [Act.put, List.setIfInBounds_toArray, List.set_cons_zero, List.set_cons_succ]
                    refine pureL (.pointer (some ⟨gx, B, none⟩)) rfl (fun w' => idxW gx 16 cx B a2 w' _ _ rfl rfl rfl) ?_
                    simp only [Act.put, List.setIfInBounds_toArray, List.set_cons_zero, List.set_cons_succ]
                    refine storeL .u32 (qB (f A) (f B) (f C) (f D)) gx B 39 _ _ rfl rfl rfl rfl (by rw [(K.get _ _ _ _ List.mem_cons_self).cell B a2]; rfl) ((K.get _ _ _ _ List.mem_cons_self).free B a2) (by kernel_rfl) ?_
                    simp only [Act.put]
                    replace K := K.setCell [(G, .u32, 4, hqt (quad (f A) (f B) (f C) (f D))), (gs, .u32, 16, hst k c n)] gx .u32 16 (upd (f) A (qA (f A) (f B) (f C) (f D))) B a2 (qB (f A) (f B) (f C) (f D)) List.mem_cons_self (fun p hp => List.mem_cons_of_mem _ hp) (fun p hp => by rcases List.mem_cons.1 hp with rfl | hp; simp only; omega; obtain rfl := List.mem_singleton.1 hp; simp only; omega) (by omega)
                    generalize w6.setCell ⟨gx, B, none⟩ (.int .u32 (qB (f A) (f B) (f C) (f D))) = w7 at K ⊢
                    show Exit.then _ _ _ _ _
                    go_upto_region 28 with fail
                    refine wp_region_list ?_
                    refine pureL (.slice (some ⟨gx, 0, none⟩) 16 cx) rfl (fun _ => by kernel_rfl) ?_
                    simp only [Act.put, List.setIfInBounds_toArray, List.set_cons_zero, List.set_cons_succ]
                    refine pureL (.int .i64 (C : Int)) rfl (fun _ => by kernel_rfl) ?_
                    simp only [Act.put, List.setIfInBounds_toArray, List.set_cons_zero, List.set_cons_succ]
                    refine pureL (.pointer (some ⟨G, 2, none⟩)) rfl (fun _ => by kernel_rfl) ?_
                    simp only [Act.put, List.setIfInBounds_toArray, List.set_cons_zero, List.set_cons_succ]
                    refine cellL .u32 (.int .u32 (qC (f A) (f B) (f C) (f D))) G 2 39 _ rfl rfl rfl Tryd.underlying39 ((K.get _ _ _ _ (List.mem_cons_of_mem _ List.mem_cons_self)).cell 2 (by omega)) ?_
                    simp only [Act.put, List.setIfInBounds_toArray, List.set_cons_zero, List.set_cons_succ]
                    refine pureL (.pointer (some ⟨gx, C, none⟩)) rfl (fun w' => idxW gx 16 cx C a3 w' _ _ rfl rfl rfl) ?_
                    simp only [Act.put, List.setIfInBounds_toArray, List.set_cons_zero, List.set_cons_succ]
                    refine storeL .u32 (qC (f A) (f B) (f C) (f D)) gx C 39 _ _ rfl rfl rfl rfl (by rw [(K.get _ _ _ _ List.mem_cons_self).cell C a3]; rfl) ((K.get _ _ _ _ List.mem_cons_self).free C a3) (by kernel_rfl) ?_
                    simp only [Act.put]
                    replace K := K.setCell [(G, .u32, 4, hqt (quad (f A) (f B) (f C) (f D))), (gs, .u32, 16, hst k c n)] gx .u32 16 (upd (upd (f) A (qA (f A) (f B) (f C) (f D))) B (qB (f A) (f B) (f C) (f D))) C a3 (qC (f A) (f B) (f C) (f D)) List.mem_cons_self (fun p hp => List.mem_cons_of_mem _ hp) (fun p hp => by rcases List.mem_cons.1 hp with rfl | hp; simp only; omega; obtain rfl := List.mem_singleton.1 hp; simp only; omega) (by omega)
                    generalize w7.setCell ⟨gx, C, none⟩ (.int .u32 (qC (f A) (f B) (f C) (f D))) = w8 at K ⊢
                    show Exit.then _ _ _ _ _
                    go_upto_region 29 with fail
                    refine wp_region_list ?_
                    refine pureL (.slice (some ⟨gx, 0, none⟩) 16 cx) rfl (fun _ => by kernel_rfl) ?_
                    simp only [Act.put, List.setIfInBounds_toArray, List.set_cons_zero, List.set_cons_succ]
                    refine pureL (.int .i64 (D : Int)) rfl (fun _ => by kernel_rfl) ?_
                    simp only [Act.put, List.setIfInBounds_toArray, List.set_cons_zero, List.set_cons_succ]
                    refine pureL (.pointer (some ⟨G, 3, none⟩)) rfl (fun _ => by kernel_rfl) ?_
                    simp only [Act.put, List.setIfInBounds_toArray, List.set_cons_zero, List.set_cons_succ]
                    refine cellL .u32 (.int .u32 (qD (f A) (f B) (f C) (f D))) G 3 39 _ rfl rfl rfl Tryd.underlying39 ((K.get _ _ _ _ (List.mem_cons_of_mem _ List.mem_cons_self)).cell 3 (by omega)) ?_
                    simp only [Act.put, List.setIfInBounds_toArray, List.set_cons_zero, List.set_cons_succ]
                    refine pureL (.pointer (some ⟨gx, D, none⟩)) rfl (fun w' => idxW gx 16 cx D a4 w' _ _ rfl rfl rfl) ?_
                    simp only [Act.put, List.setIfInBounds_toArray, List.set_cons_zero, List.set_cons_succ]
                    refine storeL .u32 (qD (f A) (f B) (f C) (f D)) gx D 39 _ _ rfl rfl rfl rfl (by rw [(K.get _ _ _ _ List.mem_cons_self).cell D a4]; rfl) ((K.get _ _ _ _ List.mem_cons_self).free D a4) (by kernel_rfl) ?_
                    simp only [Act.put]
                    replace K := K.setCell [(G, .u32, 4, hqt (quad (f A) (f B) (f C) (f D))), (gs, .u32, 16, hst k c n)] gx .u32 16 (upd (upd (upd (f) A (qA (f A) (f B) (f C) (f D))) B (qB (f A) (f B) (f C) (f D))) C (qC (f A) (f B) (f C) (f D))) D a4 (qD (f A) (f B) (f C) (f D)) List.mem_cons_self (fun p hp => List.mem_cons_of_mem _ hp) (fun p hp => by rcases List.mem_cons.1 hp with rfl | hp; simp only; omega; obtain rfl := List.mem_singleton.1 hp; simp only; omega) (by omega)
                    generalize w8.setCell ⟨gx, D, none⟩ (.int .u32 (qD (f A) (f B) (f C) (f D))) = w9 at K ⊢
                    show Exit.inBlock _ _ _ _ _
                    rw [← HT.out] at K
                    replace K := K.back [(gx, .u32, 16, tN F (j + 1)), (gs, .u32, 16, hst k c n)] M (fun p hp => by rcases List.mem_cons.1 hp with rfl | hp; exact List.mem_cons_self; exact List.mem_cons_of_mem _ (List.mem_cons_of_mem _ hp)) (fun p hp => by rcases List.mem_cons.1 hp with rfl | hp; simp only; omega; obtain rfl := List.mem_singleton.1 hp; simp only; omega) (fun q hq => by obtain rfl := List.mem_singleton.1 hq; simp only; omega) (by omega) hM5
                    have HS := show Hid _ from K
                    clear K HT a1 a2 a3 a4
                    go_wp2
                    go_roundw
                    case rel => first | exact ⟨j + 1, by omega, by go_num, HS.out⟩ | ((repeat apply Exists.intro); refine ⟨⟨j + 1, by omega, ?_, HS.out⟩, rfl⟩ <;> first | rfl | go_num)
                    case measure => simp [intOf]; omega
                · obtain rfl : j = 8 := by omega
                  rw [← HF.out] at K
                  have HS := show Hid _ from K
                  clear K HF
                  go_wp2
                  go_roundw
                  case rel => first | exact ⟨t + 1, by omega, by go_num, HS.out⟩ | ((repeat apply Exists.intro); refine ⟨⟨t + 1, by omega, ?_, HS.out⟩, rfl⟩ <;> first | rfl | go_num)
                  case measure => simp [intOf]; omega
            · obtain rfl : t = 10 := by omega
              clear hlt ht g1
              go_upto_region 30 with fail
              refine wp_region_list ?_
              refine pureL (.agg (row .u8 64 (fun _ => 0)).toArray) rfl (fun _ => by kernel_rfl) ?_
              simp only [Act.put, List.setIfInBounds_toArray, List.set_cons_zero, List.set_cons_succ]
              refine allocL #[.int .u8 0, .int .u8 0, .int .u8 0, .int .u8 0, .int .u8 0, .int .u8 0, .int .u8 0, .int .u8 0, .int .u8 0, .int .u8 0, .int .u8 0, .int .u8 0, .int .u8 0, .int .u8 0, .int .u8 0, .int .u8 0, .int .u8 0, .int .u8 0, .int .u8 0, .int .u8 0, .int .u8 0, .int .u8 0, .int .u8 0, .int .u8 0, .int .u8 0, .int .u8 0, .int .u8 0, .int .u8 0, .int .u8 0, .int .u8 0, .int .u8 0, .int .u8 0, .int .u8 0, .int .u8 0, .int .u8 0, .int .u8 0, .int .u8 0, .int .u8 0, .int .u8 0, .int .u8 0, .int .u8 0, .int .u8 0, .int .u8 0, .int .u8 0, .int .u8 0, .int .u8 0, .int .u8 0, .int .u8 0, .int .u8 0, .int .u8 0, .int .u8 0, .int .u8 0, .int .u8 0, .int .u8 0, .int .u8 0, .int .u8 0, .int .u8 0, .int .u8 0, .int .u8 0, .int .u8 0, .int .u8 0, .int .u8 0, .int .u8 0, .int .u8 0] 43 rfl (fun _ => by kernel_rfl) ?_
              simp only [Act.put, List.setIfInBounds_toArray, List.set_cons_zero, List.set_cons_succ]
              refine storesL .u8 64 (fun _ => 0) wr.heap.size 43 _ _ rfl rfl rfl rfl (room_of (hb_zero _ _ _ rfl).there) (hb_info' _) ?_
              simp only [Act.put]
              have z1 := K.size
              replace K := K.fresh .u8 64 (fun _ => 0) #[.int .u8 0, .int .u8 0, .int .u8 0, .int .u8 0, .int .u8 0, .int .u8 0, .int .u8 0, .int .u8 0, .int .u8 0, .int .u8 0, .int .u8 0, .int .u8 0, .int .u8 0, .int .u8 0, .int .u8 0, .int .u8 0, .int .u8 0, .int .u8 0, .int .u8 0, .int .u8 0, .int .u8 0, .int .u8 0, .int .u8 0, .int .u8 0, .int .u8 0, .int .u8 0, .int .u8 0, .int .u8 0, .int .u8 0, .int .u8 0, .int .u8 0, .int .u8 0, .int .u8 0, .int .u8 0, .int .u8 0, .int .u8 0, .int .u8 0, .int .u8 0, .int .u8 0, .int .u8 0, .int .u8 0, .int .u8 0, .int .u8 0, .int .u8 0, .int .u8 0, .int .u8 0, .int .u8 0, .int .u8 0, .int .u8 0, .int .u8 0, .int .u8 0, .int .u8 0, .int .u8 0, .int .u8 0, .int .u8 0, .int .u8 0, .int .u8 0, .int .u8 0, .int .u8 0, .int .u8 0, .int .u8 0, .int .u8 0, .int .u8 0, .int .u8 0] 43 (hb_zero _ _ _ rfl).there
              generalize ((wr.alloc (.cells #[.int .u8 0, .int .u8 0, .int .u8 0, .int .u8 0, .int .u8 0, .int .u8 0, .int .u8 0, .int .u8 0, .int .u8 0, .int .u8 0, .int .u8 0, .int .u8 0, .int .u8 0, .int .u8 0, .int .u8 0, .int .u8 0, .int .u8 0, .int .u8 0, .int .u8 0, .int .u8 0, .int .u8 0, .int .u8 0, .int .u8 0, .int .u8 0, .int .u8 0, .int .u8 0, .int .u8 0, .int .u8 0, .int .u8 0, .int .u8 0, .int .u8 0, .int .u8 0, .int .u8 0, .int .u8 0, .int .u8 0, .int .u8 0, .int .u8 0, .int .u8 0, .int .u8 0, .int .u8 0, .int .u8 0, .int .u8 0, .int .u8 0, .int .u8 0, .int .u8 0, .int .u8 0, .int .u8 0, .int .u8 0, .int .u8 0, .int .u8 0, .int .u8 0, .int .u8 0, .int .u8 0, .int .u8 0, .int .u8 0, .int .u8 0, .int .u8 0, .int .u8 0, .int .u8 0, .int .u8 0, .int .u8 0, .int .u8 0, .int .u8 0, .int .u8 0] 43)).setCells wr.heap.size 0 (row .u8 64 (fun _ => 0))) = w4 at K ⊢
              generalize wr.heap.size = O at *
              show Exit.then _ _ _ _ _
              go_wp2
              go_loopw [20] (fun i w' => ∃ (i' : Nat) (g : Nat → Int), i' ≤ 16 ∧ i = .int .i64 i' ∧ Kr w (O + 1) [(O, .u8, 64, g), (gx, .u32, 16, drN (hst k c n) 10), (gs, .u32, 16, hst k c n)] [(w.heap.size + 1 + 1, 64)] w' ∧ ∀ j, j < 4 * i' → g j = hblk k c n j) (fun i _ => 16 - (intOf i).toNat)
              case atStart => exact ⟨0, _, by omega, rfl, K, fun j hj => by omega⟩
              case round =>
                clear K
                obtain ⟨i, g, hi, rfl, K, hd⟩ := hrel
                have g1 : (0 : Int) ≤ (i : Int) := by omega
                by_cases hlt : i < 16
                · have g2 : (i : Int) < 16 := by omega
                  go_upto_region 34 with fail
                  refine wp_region_held_drew (S := fun w' => Kr w (O + 1) [(O, .u8, 64, g), (gx, .u32, 16, drN (hst k c n) 10), (gs, .u32, 16, hst k c n)] [(w.heap.size + 1 + 1, 64)] w') (by kernel_rfl) K.drew ?_
                  clear K
                  intro K
                  refine pureH (i := 0) (some 131) rfl (.slice (some ⟨gx, 0, none⟩) 16 cx) rfl rfl (fun _ => by kernel_rfl) (by kernel_rfl) (by kernel_rfl) (by kernel_rfl) (fun _ _ _ h => h) K ?_
                  simp only [Act.put, List.setIfInBounds_toArray, List.set_cons_zero, List.set_cons_succ]
                  refine pureH (i := 1) (some 132) rfl (.int .i64 (i : Int)) rfl rfl (fun _ => by kernel_rfl) (by kernel_rfl) (by kernel_rfl) (by kernel_rfl) (fun _ _ _ h => h) K ?_
                  simp only [Act.put, List.setIfInBounds_toArray, List.set_cons_zero, List.set_cons_succ]
                  refine pureH (i := 2) (some 133) rfl (.pointer (some ⟨gx, i, none⟩)) rfl rfl (fun w' => idxW gx 16 cx i hlt w' _ _ rfl rfl rfl) (by kernel_rfl) (by kernel_rfl) (by kernel_rfl) (fun _ _ _ h => h) K ?_
                  simp only [Act.put, List.setIfInBounds_toArray, List.set_cons_zero, List.set_cons_succ]
                  refine cellH (i := 3) (some 134) rfl .u32 (.int .u32 (drN (hst k c n) 10 i)) gx i 39 _ rfl rfl rfl rfl (by kernel_rfl) (by kernel_rfl) (by kernel_rfl) (fun _ _ _ h => h) Tryd.underlying39 K (fun _ h => (h.get _ _ _ _ (List.mem_cons_of_mem _ List.mem_cons_self)).cell i hlt) ?_
                  simp only [Act.put, List.setIfInBounds_toArray, List.set_cons_zero, List.set_cons_succ]
                  refine pureH (i := 4) (some 135) rfl (.slice (some ⟨gs, 0, none⟩) 16 cs) rfl rfl (fun _ => by kernel_rfl) (by kernel_rfl) (by kernel_rfl) (by kernel_rfl) (fun _ _ _ h => h) K ?_
                  simp only [Act.put, List.setIfInBounds_toArray, List.set_cons_zero, List.set_cons_succ]
                  refine pureH (i := 5) (some 136) rfl (.int .i64 (i : Int)) rfl rfl (fun _ => by kernel_rfl) (by kernel_rfl) (by kernel_rfl) (by kernel_rfl) (fun _ _ _ h => h) K ?_
                  simp only [Act.put, List.setIfInBounds_toArray, List.set_cons_zero, List.set_cons_succ]
                  refine pureH (i := 6) (some 137) rfl (.pointer (some ⟨gs, i, none⟩)) rfl rfl (fun w' => idxW gs 16 cs i hlt w' _ _ rfl rfl rfl) (by kernel_rfl) (by kernel_rfl) (by kernel_rfl) (fun _ _ _ h => h) K ?_
                  simp only [Act.put, List.setIfInBounds_toArray, List.set_cons_zero, List.set_cons_succ]
                  refine cellH (i := 7) (some 138) rfl .u32 (.int .u32 (hst k c n i)) gs i 39 _ rfl rfl rfl rfl (by kernel_rfl) (by kernel_rfl) (by kernel_rfl) (fun _ _ _ h => h) Tryd.underlying39 K (fun _ h => (h.get _ _ _ _ (List.mem_cons_of_mem _ (List.mem_cons_of_mem _ List.mem_cons_self))).cell i hlt) ?_
                  simp only [Act.put, List.setIfInBounds_toArray, List.set_cons_zero, List.set_cons_succ]
                  refine pureH (i := 8) (some 139) rfl (.int .u32 (hwd k c n i)) rfl rfl (fun w => addI .u32 (drN (hst k c n) 10 i) (hst k c n i) _ _ _ _ _ rfl rfl rfl (by rw [IntKind.wrap_u32']; rfl) w) (by kernel_rfl) (by kernel_rfl) (by kernel_rfl) (fun _ _ _ h => h) K ?_
                  simp only [Act.put, List.setIfInBounds_toArray, List.set_cons_zero, List.set_cons_succ]
                  refine pureH (i := 9) (some 21) rfl (.int .u32 (hwd k c n i)) rfl rfl (fun _ => by kernel_rfl) (by kernel_rfl) (by kernel_rfl) (by kernel_rfl) (fun _ _ _ h => h) K ?_
                  simp only [Act.put, List.setIfInBounds_toArray, List.set_cons_zero, List.set_cons_succ]
                  refine wpAnyH_done (by kernel_rfl) ?_ _
                  generalize wr.drew = w5 at K ⊢
                  obtain ⟨X, hX⟩ : ∃ X, hwd k c n i = X := ⟨_, rfl⟩
                  have HX := show Hid _ from hX
                  rw [hX]
                  clear hX
                  go_wp2
                  go_loopw [22] (fun v w' => ∃ (e : Nat) (g : Nat → Int), e ≤ 4 ∧ v = .int .i64 e ∧ Kr w (O + 1) [(O, .u8, 64, g), (gx, .u32, 16, drN (hst k c n) 10), (gs, .u32, 16, hst k c n)] [(w.heap.size + 1 + 1, 64)] w' ∧ ∀ j, j < 4 * i + e → g j = hblk k c n j) (fun v _ => 4 - (intOf v).toNat)
                  case atStart => exact ⟨0, g, by omega, rfl, K, hd⟩
                  case round =>
                    clear K hd
                    obtain ⟨e, g, he, rfl, K, hd⟩ := hrel
                    have g3 : (0 : Int) ≤ (e : Int) := by omega
                    by_cases hlt2 : e < 4
                    · have g4 : (e : Int) < 4 := by omega
                      have hp : 4 * i + e < 64 := by omega
                      have e1 : IntKind.i64.wrap (4 * (i : Int)) = ((4 * i : Nat) : Int) := by rw [IntKind.wrap_i64]; omega
                      have e2 : IntKind.i64.wrap (((4 * i : Nat) : Int) + (e : Int)) = ((4 * i + e : Nat) : Int) := by rw [IntKind.wrap_i64]; omega
                      have e3 : IntKind.i64.wrap (8 * (e : Int)) = ((8 * e : Nat) : Int) := by rw [IntKind.wrap_i64]; omega
                      have e4 : X / 2 ^ min (((8 * e : Nat) : Int)).toNat IntKind.u32.bits = X / 2 ^ (8 * e) := by rw [Int.toNat_natCast, Nat.min_eq_left (show 8 * e ≤ IntKind.u32.bits by show 8 * e ≤ 32; omega)]
                      have e5 := b32_shr X e hlt2
                      have hv : b32 X e = hblk k c n (4 * i + e) := by unfold hblk; rw [show (4 * i + e) / 4 = i by omega, show (4 * i + e) % 4 = e by omega, HX.out]
                      go_upto_region 38 with fail
                      refine wp_region_list ?_
                      refine pureL (.int .i64 (i : Int)) rfl (fun _ => by kernel_rfl) ?_
                      simp only [Act.put, List.setIfInBounds_toArray, List.set_cons_zero, List.set_cons_succ]
                      refine pureL (.int .i64 ((4 * i : Nat) : Int)) rfl (fun w => mulI .i64 4 (i : Int) _ _ _ _ _ rfl rfl rfl e1 w) ?_
                      simp only [Act.put, List.setIfInBounds_toArray, List.set_cons_zero, List.set_cons_succ]
                      refine pureL (.int .i64 (e : Int)) rfl (fun _ => by kernel_rfl) ?_
                      simp only [Act.put, List.setIfInBounds_toArray, List.set_cons_zero, List.set_cons_succ]
                      refine pureL (.int .i64 ((4 * i + e : Nat) : Int)) rfl (fun w => addI .i64 _ _ _ _ _ _ _ rfl rfl rfl e2 w) ?_
                      simp only [Act.put, List.setIfInBounds_toArray, List.set_cons_zero, List.set_cons_succ]
                      refine pureL (.int .u32 X) rfl (fun _ => by kernel_rfl) ?_
                      simp only [Act.put, List.setIfInBounds_toArray, List.set_cons_zero, List.set_cons_succ]
                      refine pureL (.int .i64 (e : Int)) rfl (fun _ => by kernel_rfl) ?_
                      simp only [Act.put, List.setIfInBounds_toArray, List.set_cons_zero, List.set_cons_succ]
                      refine pureL (.int .i64 ((8 * e : Nat) : Int)) rfl (fun w => mulI .i64 8 (e : Int) _ _ _ _ _ rfl rfl rfl e3 w) ?_
                      simp only [Act.put, List.setIfInBounds_toArray, List.set_cons_zero, List.set_cons_succ]
                      refine pureL (.int .u32 (X / 2 ^ (8 * e))) rfl (fun w => shrI .u32 .i64 _ _ _ _ _ _ _ rfl rfl rfl (by omega) e4 w) ?_
                      simp only [Act.put, List.setIfInBounds_toArray, List.set_cons_zero, List.set_cons_succ]
                      refine pureL (.int .u8 (b32 X e)) rfl (fun w => convI .u32 .u8 _ _ _ _ _ rfl (by kernel_rfl) Tryd.underlying5 (by kernel_rfl) rfl e5 w) ?_
                      simp only [Act.put, List.setIfInBounds_toArray, List.set_cons_zero, List.set_cons_succ]
                      refine pureL (.pointer (some ⟨O, 4 * i + e, none⟩)) rfl (fun w' => idxB O (4 * i + e) hp w' _ _ rfl rfl rfl) ?_
                      simp only [Act.put, List.setIfInBounds_toArray, List.set_cons_zero, List.set_cons_succ]
                      refine storeL .u8 (b32 X e) O (4 * i + e) 5 _ _ rfl rfl rfl rfl (by rw [(K.get _ _ _ _ List.mem_cons_self).cell _ hp]; rfl) ((K.get _ _ _ _ List.mem_cons_self).free _ hp) (by kernel_rfl) ?_
                      simp only [Act.put]
                      replace K := K.setCell [(gx, .u32, 16, drN (hst k c n) 10), (gs, .u32, 16, hst k c n)] O .u8 64 g (4 * i + e) hp (b32 X e) List.mem_cons_self (fun p hp => List.mem_cons_of_mem _ hp) (fun p hp => by rcases List.mem_cons.1 hp with rfl | hp; simp only; omega; obtain rfl := List.mem_singleton.1 hp; simp only; omega) (by omega)
                      have HS := show Hid _ from (And.intro K (show ∀ j, j < 4 * i + (e + 1) → upd g (4 * i + e) (b32 X e) j = hblk k c n j from fun j hj => by
                        by_cases ej : j = 4 * i + e
                        · subst ej; rw [upd_same, hv]
                        · rw [upd_other _ _ _ _ ej]; exact hd j (by omega)))
                      clear K hd e1 e2 e3 e4 e5 hv hp
                      generalize wr.setCell ⟨O, 4 * i + e, none⟩ (.int .u8 (b32 X e)) = w6 at HS ⊢
                      show Exit.inBlock _ _ _ _ _
                      go_wp2
                      go_roundw
                      case rel => first | exact ⟨e + 1, _, by omega, by go_num, HS.out⟩ | ((repeat apply Exists.intro); refine ⟨⟨e + 1, _, by omega, ?_, HS.out⟩, rfl⟩ <;> first | rfl | go_num)
                      case measure => simp [intOf]; omega
                    · obtain rfl : e = 4 := by omega
                      have HS := show Hid _ from (And.intro K (show ∀ j, j < 4 * (i + 1) → g j = hblk k c n j from fun j hj => hd j (by omega)))
                      clear K hd HX
                      go_wp2
                      go_roundw
                      case rel => first | exact ⟨i + 1, _, by omega, by go_num, HS.out⟩ | ((repeat apply Exists.intro); refine ⟨⟨i + 1, _, by omega, ?_, HS.out⟩, rfl⟩ <;> first | rfl | go_num)
                      case measure => simp [intOf]; omega
                · obtain rfl : i = 16 := by omega
                  have h1 := (K.get _ _ _ _ List.mem_cons_self).congr (g := hblk k c n) (fun j hj => hd j (by omega))
                  have hz := (K.room _ List.mem_cons_self).1
                  have hB := (K.fill _ _ List.mem_cons_self (row .u8 64 (hblk k c n))).below
                  clear K hd hlt hi g1
                  generalize hf : hblk k c n = f at *
                  go_wp2_with (first | (refine wpList_load_mid rfl 43 _ rfl (O) 0 rfl (row .u8 64 (f)) _ (Has.range (h1)) Tryd.underlying43 rfl (hb_info _) ?_) | (refine wpList_store_mid rfl 43 _ _ rfl (w.heap.size + 1 + 1) 0 (row .u8 64 f).toArray rfl rfl (room_of hz) (hb_info' _) (all_oneCell_toArray (row_one _ _ _)) ?_))
                  exact bodyPost_ret (v := (.agg (row .u8 64 (f)).toArray)) (results_row Tryd.results18 rfl (Has.all hz .u8 _).range Tryd.underlying43 rfl (hb_info _)) rfl ⟨by first | rfl | rw [hf], hB⟩
end Go.Proofs.YteclkiabkdaklaaDoor

namespace Go.Proofs.YteclkiabkdaklaaDoor
open Go.RowKit

/-- What is laid over so far. -/
structure HXI (k : Nat → Int) (c : Int) (n : Nat → Int) (z : Nat → Int) (w : World) (m : Nat) (s : Value) (w' : World) : Prop where
  K : Kr w (w.heap.size + 1 + 1) [(w.heap.size + 1, .u8, 12, n), (w.heap.size, .u8, 32, k)] [] w'
  own : Own w' (w.heap.size + 1 + 1) 5 .u8 m (hxor k c n z) s
/-- The same, with a block of the stream beside it. -/
structure HXD (k : Nat → Int) (c : Int) (n : Nat → Int) (z : Nat → Int) (C : Int) (D : Nat) (w : World) (m : Nat) (s : Value) (w' : World) : Prop where
  K : Kr w (D + 1) [(D, .u8, 64, hblk k C n), (w.heap.size + 1, .u8, 12, n), (w.heap.size, .u8, 32, k)] [] w'
  own : Own w' (w.heap.size + 1 + 1) 5 .u8 m (hxor k c n z) s
  ne : s.ownBlock ≠ some D
/-- A byte more. -/
theorem HXD.more {k : Nat → Int} {c : Int} {n : Nat → Int} {z : Nat → Int} {C : Int} {D : Nat} {w : World} {m : Nat} {s : Value} {w' : World} (h : HXD k c n z C D w m s w') (hD : w.heap.size + 1 + 1 ≤ D) (hm : m < 140737488355328) (x : Int) (hx : hxor k c n z m = x) (ty : TypeId) :
    ∃ v w'', (Builtin.append_ #[26, 26] ty #[s, .slice (some ⟨w'.heap.size, 0, none⟩) 1 1]).run Tryd.prog (w'.alloc (.cells #[.int .u8 x] 5)) = .ok v w'' ∧ HXD k c n z C D w (m + 1) v w'' := by
  have H1 := Has.new w' .u8 1 (fun _ => x) 5 w'.heap.size rfl
  have K1 := h.K.call ((Below.refl w'.heap.size w').alloc (Nat.le_refl _) (.cells (row .u8 1 (fun _ => x)).toArray 5))
  have hDs := (h.K.rows (D, .u8, 64, hblk k C n) List.mem_cons_self).2
  have hsz := h.K.size
  obtain ⟨v, w'', hr, ho, hg, hw⟩ := run_append_Own (P := Tryd.prog) (ty := ty) Tryd.underlying26 one8 (h.own.alloc (.cells (row .u8 1 (fun _ => x)).toArray 5)) (some ⟨w'.heap.size, 0, none⟩) 1 1 (fun _ => x) (fun j hj => ⟨_, rfl, by rw [Addr.add_mid, Nat.zero_add]; exact H1.cell j hj⟩) (fun e => by cases e) (by unfold maxLen; omega) (by omega) (by simp; omega)
  have hlo : ∀ b, s.ownBlock = some b → w.heap.size + 1 + 1 ≤ b := fun b hb => (World.ownsRow.lt h.own b hb).1
  refine ⟨v, w'', hr, K1.grown' hg (fun p hp => ?_) (fun q hq => by cases hq) (fun b hb => by have := hlo b hb; omega), ho.congr fun j hj => ?_, fun e => ?_⟩
  · intro e
    have := hlo _ e
    rcases List.mem_cons.1 hp with rfl | hp
    · exact h.ne e
    · rcases List.mem_cons.1 hp with rfl | hp
      · simp only at this; omega
      · obtain rfl := List.mem_singleton.1 hp; simp only at this; omega
  · unfold app
    by_cases e : j < m
    · rw [if_pos e]
    · rw [if_neg e, ← hx, show j = m by omega]
  · rcases hw D e with h1 | h1
    · exact h.ne h1
    · simp at h1; omega

set_option maxRecDepth 10000 in
set_option maxHeartbeats 8000000 in
theorem refXor_own (k : Nat → Int) (c : Int) (n : Nat → Int) (hk : In 256 32 k) (hn : In 256 12 n) (sp : Option Addr) (len cap : Nat) (hlen : len ≤ 140737488355328) (z : Nat → Int) (w : World) (hs : Src w sp len z) :
    Calls Tryd.prog 13 #[(.agg (row .u8 32 (k)).toArray), .int .u32 c, (.agg (row .u8 12 (n)).toArray), .slice sp len cap] w fun e w' => ∃ sp' cap', e = .returned (.slice sp' len cap') ∧ Own w' w.heap.size 5 .u8 len (hxor k c n z) (.slice sp' len cap') ∧ Below w.heap.size w w' := by
  have K := Kr.init w
  replace K := K.box .u8 32 k 23 w.heap.size rfl
  replace K := K.box .u8 12 n 25 (w.heap.size + 1) (by simp)
  go_enter Tryd.func13, Tryd.ntmps13
  go_upto_region 1 with fail
  have s0 : ((w.alloc (.cells (row .u8 32 k).toArray 23)).alloc (.cells (row .u8 12 n).toArray 25)).heap.size = w.heap.size + 1 + 1 := by simp
  generalize ((w.alloc (.cells (row .u8 32 k).toArray 23)).alloc (.cells (row .u8 12 n).toArray 25)) = w0 at K s0 ⊢
  refine wp_region_list ?_
  refine actL (w' := w0.alloc (.cells #[] 5)) (.slice (some ⟨w0.heap.size, 0, none⟩) 0 0) rfl (by kernel_rfl) ?_
  simp only [Act.put, List.setIfInBounds_toArray, List.set_cons_zero, List.set_cons_succ]
  refine pureL (.slice (some ⟨w0.heap.size, 0, none⟩) 0 0) rfl (fun _ => by kernel_rfl) ?_
  simp only [Act.put, List.setIfInBounds_toArray, List.set_cons_zero, List.set_cons_succ]
  have HI : HXI k c n z w 0 (.slice (some ⟨w0.heap.size, 0, none⟩) 0 0) (w0.alloc (.cells #[] 5)) :=
    ⟨K.call ((Below.refl w0.heap.size w0).alloc (Nat.le_refl _) _), Own.lit w0 (w.heap.size + 1 + 1) 5 .u8 0 (hxor k c n z) (by omega) (by unfold maxLen; omega)⟩
  clear K
  generalize (w0.alloc (.cells #[] 5)) = w1 at HI ⊢
  generalize (Value.slice (some ⟨w0.heap.size, 0, none⟩) 0 0) = s1 at HI ⊢
  show Exit.then _ _ _ _ _
  go_wp2
  go_loopw [9, 10] (fun s i w' => ∃ t : Nat, 64 * t < len + 64 ∧ i = .int .i64 (64 * (t : Int)) ∧ HXI k c n z w (min (64 * t) len) s w') (fun _ i _ => len + 64 - (intOf i).toNat)
  case atStart => exact ⟨0, by omega, rfl, by rw [show min (64 * 0) len = 0 by omega]; exact HI⟩
  case round =>
    clear HI
    obtain ⟨t, ht, rfl, HI⟩ := hrel
    have g1 : (0 : Int) ≤ 64 * (t : Int) := by omega
    by_cases hlt : 64 * t < len
    · have g2 : 64 * (t : Int) < (len : Int) := by omega
      obtain ⟨C, hC⟩ : ∃ C, (c + (t : Int)) % 4294967296 = C := ⟨_, rfl⟩
      have HC := show Hid _ from hC
      rw [show min (64 * t) len = 64 * t by omega] at HI
      have K := HI.K
      have O := HI.own
      clear HI
      go_upto_region 5 with fail
      refine wp_region_list ?_
      refine rowKL .u8 32 k w.heap.size 0 23 _ _ rfl rfl rfl Tryd.underlying23 rfl (key_info _) (K.get _ _ _ _ (List.mem_cons_of_mem _ List.mem_cons_self)).range ?_
      simp only [Act.put, List.setIfInBounds_toArray, List.set_cons_zero, List.set_cons_succ]
      refine pureL (.int .u32 c) rfl (fun _ => by kernel_rfl) ?_
      simp only [Act.put, List.setIfInBounds_toArray, List.set_cons_zero, List.set_cons_succ]
      refine pureL (.int .i64 (64 * (t : Int))) rfl (fun _ => by kernel_rfl) ?_
      simp only [Act.put, List.setIfInBounds_toArray, List.set_cons_zero, List.set_cons_succ]
      refine pureL (.int .i64 (t : Int)) rfl (fun w => quoI .i64 _ _ _ _ _ _ _ rfl rfl rfl (by decide) (by rw [Int.tdiv_eq_ediv_of_nonneg g1, IntKind.wrap_i64]; omega) w) ?_
      simp only [Act.put, List.setIfInBounds_toArray, List.set_cons_zero, List.set_cons_succ]
      refine pureL (.int .u32 ((t : Int) % 4294967296)) rfl (fun w => convI .i64 .u32 _ _ _ _ _ rfl (by kernel_rfl) Tryd.underlying39 (by kernel_rfl) rfl (IntKind.wrap_u32' _) w) ?_
      simp only [Act.put, List.setIfInBounds_toArray, List.set_cons_zero, List.set_cons_succ]
      refine pureL (.int .u32 C) rfl (fun w => addI .u32 _ _ _ _ _ _ _ rfl rfl rfl (by rw [IntKind.wrap_u32', ← hC]; omega) w) ?_
      simp only [Act.put, List.setIfInBounds_toArray, List.set_cons_zero, List.set_cons_succ]
      refine rowKL .u8 12 n (w.heap.size + 1) 0 25 _ _ rfl rfl rfl Tryd.underlying25 rfl (hn_info _) (K.get _ _ _ _ List.mem_cons_self).range ?_
      simp only [Act.put, List.setIfInBounds_toArray, List.set_cons_zero, List.set_cons_succ]
      refine callL rfl (fun _ => by kernel_rfl) (hrefBlock_any k C n hk hn _) ?_
      rintro e w2 ⟨rfl, l⟩
      replace O := O.below l
      replace K := K.call l
      clear l hC
      refine ⟨_, rfl, ?_⟩
      simp only [Act.put, List.setIfInBounds_toArray, List.set_cons_zero, List.set_cons_succ]
      refine allocL #[.int .u8 0, .int .u8 0, .int .u8 0, .int .u8 0, .int .u8 0, .int .u8 0, .int .u8 0, .int .u8 0, .int .u8 0, .int .u8 0, .int .u8 0, .int .u8 0, .int .u8 0, .int .u8 0, .int .u8 0, .int .u8 0, .int .u8 0, .int .u8 0, .int .u8 0, .int .u8 0, .int .u8 0, .int .u8 0, .int .u8 0, .int .u8 0, .int .u8 0, .int .u8 0, .int .u8 0, .int .u8 0, .int .u8 0, .int .u8 0, .int .u8 0, .int .u8 0, .int .u8 0, .int .u8 0, .int .u8 0, .int .u8 0, .int .u8 0, .int .u8 0, .int .u8 0, .int .u8 0, .int .u8 0, .int .u8 0, .int .u8 0, .int .u8 0, .int .u8 0, .int .u8 0, .int .u8 0, .int .u8 0, .int .u8 0, .int .u8 0, .int .u8 0, .int .u8 0, .int .u8 0, .int .u8 0, .int .u8 0, .int .u8 0, .int .u8 0, .int .u8 0, .int .u8 0, .int .u8 0, .int .u8 0, .int .u8 0, .int .u8 0, .int .u8 0] 43 rfl (fun _ => by kernel_rfl) ?_
      simp only [Act.put, List.setIfInBounds_toArray, List.set_cons_zero, List.set_cons_succ]
      refine storesL .u8 64 (hblk k C n) w2.heap.size 43 _ _ rfl rfl rfl rfl (room_of (hb_zero _ _ _ rfl).there) (hb_info' _) ?_
      simp only [Act.put]
      have z2 := K.size
      have hOl : u9.ownBlock ≠ some w2.heap.size := fun e => by have := (World.ownsRow.lt O _ e).2; omega
      have hbl : Below w2.heap.size w2 ((w2.alloc (.cells #[.int .u8 0, .int .u8 0, .int .u8 0, .int .u8 0, .int .u8 0, .int .u8 0, .int .u8 0, .int .u8 0, .int .u8 0, .int .u8 0, .int .u8 0, .int .u8 0, .int .u8 0, .int .u8 0, .int .u8 0, .int .u8 0, .int .u8 0, .int .u8 0, .int .u8 0, .int .u8 0, .int .u8 0, .int .u8 0, .int .u8 0, .int .u8 0, .int .u8 0, .int .u8 0, .int .u8 0, .int .u8 0, .int .u8 0, .int .u8 0, .int .u8 0, .int .u8 0, .int .u8 0, .int .u8 0, .int .u8 0, .int .u8 0, .int .u8 0, .int .u8 0, .int .u8 0, .int .u8 0, .int .u8 0, .int .u8 0, .int .u8 0, .int .u8 0, .int .u8 0, .int .u8 0, .int .u8 0, .int .u8 0, .int .u8 0, .int .u8 0, .int .u8 0, .int .u8 0, .int .u8 0, .int .u8 0, .int .u8 0, .int .u8 0, .int .u8 0, .int .u8 0, .int .u8 0, .int .u8 0, .int .u8 0, .int .u8 0, .int .u8 0, .int .u8 0] 43)).setCells w2.heap.size 0 (row .u8 64 (hblk k C n))) := below_setAll ((Below.refl w2.heap.size w2).alloc (Nat.le_refl _) _) _ (Nat.le_refl _) 0 _
      have K2 := K.fresh .u8 64 (hblk k C n) #[.int .u8 0, .int .u8 0, .int .u8 0, .int .u8 0, .int .u8 0, .int .u8 0, .int .u8 0, .int .u8 0, .int .u8 0, .int .u8 0, .int .u8 0, .int .u8 0, .int .u8 0, .int .u8 0, .int .u8 0, .int .u8 0, .int .u8 0, .int .u8 0, .int .u8 0, .int .u8 0, .int .u8 0, .int .u8 0, .int .u8 0, .int .u8 0, .int .u8 0, .int .u8 0, .int .u8 0, .int .u8 0, .int .u8 0, .int .u8 0, .int .u8 0, .int .u8 0, .int .u8 0, .int .u8 0, .int .u8 0, .int .u8 0, .int .u8 0, .int .u8 0, .int .u8 0, .int .u8 0, .int .u8 0, .int .u8 0, .int .u8 0, .int .u8 0, .int .u8 0, .int .u8 0, .int .u8 0, .int .u8 0, .int .u8 0, .int .u8 0, .int .u8 0, .int .u8 0, .int .u8 0, .int .u8 0, .int .u8 0, .int .u8 0, .int .u8 0, .int .u8 0, .int .u8 0, .int .u8 0, .int .u8 0, .int .u8 0, .int .u8 0, .int .u8 0] 43 (hb_zero _ _ _ rfl).there
      have O2 := O.below hbl
      clear K O hbl
      generalize ((w2.alloc (.cells #[.int .u8 0, .int .u8 0, .int .u8 0, .int .u8 0, .int .u8 0, .int .u8 0, .int .u8 0, .int .u8 0, .int .u8 0, .int .u8 0, .int .u8 0, .int .u8 0, .int .u8 0, .int .u8 0, .int .u8 0, .int .u8 0, .int .u8 0, .int .u8 0, .int .u8 0, .int .u8 0, .int .u8 0, .int .u8 0, .int .u8 0, .int .u8 0, .int .u8 0, .int .u8 0, .int .u8 0, .int .u8 0, .int .u8 0, .int .u8 0, .int .u8 0, .int .u8 0, .int .u8 0, .int .u8 0, .int .u8 0, .int .u8 0, .int .u8 0, .int .u8 0, .int .u8 0, .int .u8 0, .int .u8 0, .int .u8 0, .int .u8 0, .int .u8 0, .int .u8 0, .int .u8 0, .int .u8 0, .int .u8 0, .int .u8 0, .int .u8 0, .int .u8 0, .int .u8 0, .int .u8 0, .int .u8 0, .int .u8 0, .int .u8 0, .int .u8 0, .int .u8 0, .int .u8 0, .int .u8 0, .int .u8 0, .int .u8 0, .int .u8 0, .int .u8 0] 43)).setCells w2.heap.size 0 (row .u8 64 (hblk k C n))) = w3 at K2 O2 ⊢
      generalize w2.heap.size = D at *
      have HJ := HXD.mk K2 O2 hOl
      clear K2 O2 hOl
      show Exit.then _ _ _ _ _
      go_wp2
      go_loopw [9, 12] (fun s v w' => ∃ i : Nat, 64 * t ≤ i ∧ i ≤ min (64 * t + 64) len ∧ v = .int .i64 (i : Int) ∧ HXD k c n z C D w i s w') (fun _ v _ => len + 64 - (intOf v).toNat)
      case atStart => exact ⟨64 * t, by omega, by omega, by go_num, HJ⟩
      case round =>
        clear HJ
        obtain ⟨i, hi0, hi1, rfl, HJ⟩ := hrel
        have g3 : (0 : Int) ≤ (i : Int) := by omega
        by_cases hlt2 : i < min (64 * t + 64) len
        · have g4 : (i : Int) < (len : Int) := by omega
          have g5 : (i : Int) < 64 * (t : Int) + 64 := by omega
          have hil : i < len := by omega
          have hit : i - 64 * t < 64 := by omega
          obtain ⟨ad, rfl, ca⟩ := hs i hil
          go_upto_region 9 with fail
          have hv : bits .xor .u8 (z i) (hblk k C n (i - 64 * t)) = hxor k c n z i := by
            unfold hxor
            rw [show i / 64 = t by omega, show i % 64 = i - 64 * t by omega, HC.out]
          have K := HJ.K
          have O := HJ.own
          have N := HJ.ne
          clear HJ
          refine wp_region_held_drew (S := fun w' => Kr w (D + 1) [(D, .u8, 64, hblk k C n), (w.heap.size + 1, .u8, 12, n), (w.heap.size, .u8, 32, k)] [] w') (by kernel_rfl) K.drew ?_
          clear K
          intro K
          replace O := O.drew
          generalize wr.drew = w4 at K O ⊢
          refine pureH (i := 0) (some 41) rfl u9 rfl rfl (fun _ => by kernel_rfl) (by kernel_rfl) (by kernel_rfl) (by kernel_rfl) (fun _ _ _ h => h) K ?_
          simp only [Act.put, List.setIfInBounds_toArray, List.set_cons_zero, List.set_cons_succ]
          refine pureH (i := 1) (some 42) rfl (.slice (some ad) len cap) rfl rfl (fun _ => by kernel_rfl) (by kernel_rfl) (by kernel_rfl) (by kernel_rfl) (fun _ _ _ h => h) K ?_
          simp only [Act.put, List.setIfInBounds_toArray, List.set_cons_zero, List.set_cons_succ]
          refine pureH (i := 2) (some 43) rfl (.int .i64 (i : Int)) rfl rfl (fun _ => by kernel_rfl) (by kernel_rfl) (by kernel_rfl) (by kernel_rfl) (fun _ _ _ h => h) K ?_
          simp only [Act.put, List.setIfInBounds_toArray, List.set_cons_zero, List.set_cons_succ]
          refine pureH (i := 3) (some 44) rfl (.pointer (some (ad.add i))) rfl rfl (fun w => idxSl 26 5 len cap .i64 ad i _ _ Tryd.underlying26 (fun _ => by kernel_rfl) hil rfl rfl rfl w) (by kernel_rfl) (by kernel_rfl) (by kernel_rfl) (fun _ _ _ h => h) K ?_
          simp only [Act.put, List.setIfInBounds_toArray, List.set_cons_zero, List.set_cons_succ]
          refine cellPH (i := 4) (some 45) rfl .u8 (.int .u8 (z i)) (ad.add i) 5 _ rfl rfl rfl rfl (by kernel_rfl) (by kernel_rfl) (by kernel_rfl) (fun _ _ _ h => h) Tryd.underlying5 K (fun w' h => by rw [h.below.cell (World.block_lt_of_cell? w _ ca)]; exact ca) ?_
          simp only [Act.put, List.setIfInBounds_toArray, List.set_cons_zero, List.set_cons_succ]
          refine pureH (i := 5) (some 46) rfl (.int .i64 (i : Int)) rfl rfl (fun _ => by kernel_rfl) (by kernel_rfl) (by kernel_rfl) (by kernel_rfl) (fun _ _ _ h => h) K ?_
          simp only [Act.put, List.setIfInBounds_toArray, List.set_cons_zero, List.set_cons_succ]
          refine pureH (i := 6) (some 47) rfl (.int .i64 (64 * (t : Int))) rfl rfl (fun _ => by kernel_rfl) (by kernel_rfl) (by kernel_rfl) (by kernel_rfl) (fun _ _ _ h => h) K ?_
          simp only [Act.put, List.setIfInBounds_toArray, List.set_cons_zero, List.set_cons_succ]
          refine pureH (i := 7) (some 48) rfl (.int .i64 ((i - 64 * t : Nat) : Int)) rfl rfl (fun w => subI .i64 (i : Int) (64 * (t : Int)) _ _ _ _ _ rfl rfl rfl (by rw [IntKind.wrap_i64]; omega) w) (by kernel_rfl) (by kernel_rfl) (by kernel_rfl) (fun _ _ _ h => h) K ?_
          simp only [Act.put, List.setIfInBounds_toArray, List.set_cons_zero, List.set_cons_succ]
          refine pureH (i := 8) (some 49) rfl (.pointer (some ⟨D, i - 64 * t, none⟩)) rfl rfl (fun w => idx64 D (i - 64 * t) hit w _ _ rfl rfl rfl) (by kernel_rfl) (by kernel_rfl) (by kernel_rfl) (fun _ _ _ h => h) K ?_
          simp only [Act.put, List.setIfInBounds_toArray, List.set_cons_zero, List.set_cons_succ]
          refine cellH (i := 9) (some 50) rfl .u8 (.int .u8 (hblk k C n (i - 64 * t))) D (i - 64 * t) 5 _ rfl rfl rfl rfl (by kernel_rfl) (by kernel_rfl) (by kernel_rfl) (fun _ _ _ h => h) Tryd.underlying5 K (fun _ h => (h.get _ _ _ _ List.mem_cons_self).cell (i - 64 * t) hit) ?_
          simp only [Act.put, List.setIfInBounds_toArray, List.set_cons_zero, List.set_cons_succ]
          refine pureH (i := 10) (some 51) rfl (.int .u8 (hxor k c n z i)) rfl rfl (fun w => xorI .u8 _ _ _ _ _ _ _ rfl rfl rfl hv w) (by kernel_rfl) (by kernel_rfl) (by kernel_rfl) (fun _ _ _ h => h) K ?_
          simp only [Act.put, List.setIfInBounds_toArray, List.set_cons_zero, List.set_cons_succ]
          refine actH (i := 11) (w' := w4.alloc (.cells #[.int .u8 (hxor k c n z i)] 5)) (some 52) rfl (.slice (some ⟨w4.heap.size, 0, none⟩) 1 1) (by kernel_rfl) rfl rfl (by kernel_rfl) (K.call ((Below.refl w4.heap.size w4).alloc (Nat.le_refl _) _)) ?_
          simp only [Act.put, List.setIfInBounds_toArray, List.set_cons_zero, List.set_cons_succ]
          obtain ⟨v, w5, hr, HJ⟩ := (HXD.mk K O N).more z2 (by omega) _ rfl 26
          clear K O N
          have K := HJ.K
          refine actH (i := 12) (some 53) rfl v (by kernel_rfl) rfl rfl (appendOp _ _ 26 _ _ _ rfl rfl rfl hr) K ?_
          simp only [Act.put, List.setIfInBounds_toArray, List.set_cons_zero, List.set_cons_succ]
          refine pureH (i := 13) (some 9) rfl v rfl rfl (fun _ => by kernel_rfl) (by kernel_rfl) (by kernel_rfl) (by kernel_rfl) (fun _ _ _ h => h) K ?_
          simp only [Act.put, List.setIfInBounds_toArray, List.set_cons_zero, List.set_cons_succ]
          refine wpAnyH_done (by kernel_rfl) ?_ _
          have HS := show Hid _ from HJ
          clear K HJ hr hv ca hs
          go_wp2
          go_roundw
          case rel => first | exact ⟨i + 1, by omega, by omega, by go_num, HS.out⟩ | ((repeat apply Exists.intro); refine ⟨⟨i + 1, by omega, by omega, ?_, HS.out⟩, rfl⟩ <;> first | rfl | go_num)
          case measure => simp [intOf]; omega
        · have K0 := HJ.K.back [(w.heap.size + 1, .u8, 12, n), (w.heap.size, .u8, 32, k)] (w.heap.size + 1 + 1) (fun p hp => List.mem_cons_of_mem _ hp) (fun p hp => by
            rcases List.mem_cons.1 hp with rfl | hp
            · simp only; omega
            · obtain rfl := List.mem_singleton.1 hp; simp only; omega) (fun q hq => by cases hq) (by omega) (by omega)
          obtain ⟨hi2, hi3⟩ : i = min (64 * (t + 1)) len ∧ (i = len ∨ i = 64 * t + 64) := by omega
          have O := HJ.own
          have HS := show Hid _ from (show HXI k c n z w (min (64 * (t + 1)) len) u9 wr from ⟨K0, by rw [← hi2]; exact O⟩)
          clear K0 O HJ HC hs hi2 hlt2
          have g5 : (len : Int) ≤ (i : Int) ∨ (i : Int) = 64 * (t : Int) + 64 := by omega
          rcases Nat.lt_or_ge i len with h | h
          · have g6 : (i : Int) < (len : Int) := by omega
            have g7 : ¬ (i : Int) < 64 * (t : Int) + 64 := by omega
            clear g5 hi3
            go_wp2
            go_roundw
            case rel => first | exact ⟨t + 1, by omega, by go_num, HS.out⟩ | ((repeat apply Exists.intro); refine ⟨⟨t + 1, by omega, ?_, HS.out⟩, rfl⟩ <;> first | rfl | go_num)
            case measure => simp [intOf]; omega
          · have g6 : ¬ (i : Int) < (len : Int) := by omega
            clear g5 hi3
            go_wp2
            go_roundw
            case rel => first | exact ⟨t + 1, by omega, by go_num, HS.out⟩ | ((repeat apply Exists.intro); refine ⟨⟨t + 1, by omega, ?_, HS.out⟩, rfl⟩ <;> first | rfl | go_num)
            case measure => simp [intOf]; omega
    · have g2 : ¬ 64 * (t : Int) < (len : Int) := by omega
      have O := HI.own
      rw [show min (64 * t) len = len by omega] at O
      have hbl := HI.K.below
      obtain ⟨sp', cap', rfl, hno, hsr⟩ := O.isSlice
      have HS := show Hid _ from (Own.lower O (show w.heap.size ≤ w.heap.size + 1 + 1 by omega))
      clear HI O hsr
      go_wp2
      go_ret
      exact ⟨sp', cap', rfl, HS.out, hbl⟩
theorem refXor_any (k : Nat → Int) (c : Int) (n : Nat → Int) (hk : In 256 32 k) (hn : In 256 12 n) (sp : Option Addr) (len cap : Nat) (hlen : len ≤ 140737488355328) (z : Nat → Int) (w : World) (hs : Src w sp len z) :
    Calls Tryd.prog 13 #[(.agg (row .u8 32 (k)).toArray), .int .u32 c, (.agg (row .u8 12 (n)).toArray), .slice sp len cap] w fun e w' => ∃ sp' cap', e = .returned (.slice sp' len cap') ∧ ((sp' = none → len = 0) ∧ Src w' sp' len (hxor k c n z)) ∧ Below w.heap.size w w' :=
  (refXor_own k c n hk hn sp len cap hlen z w hs).mono fun e w' ⟨sp', cap', he, ho, hb⟩ => by
    obtain ⟨sq, cq, hv, h0, hsr⟩ := ho.isSlice
    injection hv with h1 _ h3
    subst h1 h3
    exact ⟨sp', cap', he, ⟨h0, hsr⟩, hb⟩
end Go.Proofs.YteclkiabkdaklaaDoor

namespace Go.Proofs.YteclkiabkdaklaaDoor
open Go.RowKit

/-- A key, a counter, a nonce, one behind the other. -/
def strm (k : Nat → Int) (c : Int) (n : Nat → Int) : List Value := row .u8 32 k ++ .int .u32 c :: row .u8 12 n
structure Str (w : World) (b : Nat) (k : Nat → Int) (c : Int) (n : Nat → Int) : Prop where
  key : w.rangeAt b 0 (row .u8 32 k)
  ctr : w.cell? ⟨b, 32, none⟩ = some (.int .u32 c)
  non : w.rangeAt b 33 (row .u8 12 n)
  lt : b < w.heap.size
theorem Str.new (w : World) (k : Nat → Int) (c : Int) (n : Nat → Int) (t : TypeId) : Str (w.alloc (.cells (strm k c n).toArray t)) w.heap.size k c n := by
  have h : ∀ i, (w.alloc (.cells (strm k c n).toArray t)).cell? ⟨w.heap.size, i, none⟩ = (strm k c n)[i]? := fun i => by rw [World.cell?_alloc_at _ _ _ _ rfl]; simp
  refine ⟨fun j v hv => ?_, ?_, fun j v hv => ?_, by simp⟩
  · obtain ⟨hj, rfl⟩ := row_get_some hv
    rw [Nat.zero_add, h]
    unfold strm
    rw [List.getElem?_append_left (by rw [row_length]; exact hj)]
    exact row_get _ _ _ _ hj
  · rw [h]
    unfold strm
    rw [List.getElem?_append_right (by rw [row_length]; exact Nat.le_refl _), row_length]
    rfl
  · obtain ⟨hj, rfl⟩ := row_get_some hv
    rw [h]
    unfold strm
    rw [List.getElem?_append_right (by rw [row_length]; omega), row_length, show 33 + j - 32 = j + 1 by omega, List.getElem?_cons_succ]
    exact row_get _ _ _ _ hj
theorem Str.below {w w' : World} {b : Nat} {k : Nat → Int} {c : Int} {n : Nat → Int} (h : Str w b k c n) (l : Below w.heap.size w w') : Str w' b k c n :=
  ⟨fun j v hv => by rw [l.cell (p := ⟨b, 0 + j, none⟩) h.lt]; exact h.key j v hv, by rw [l.cell (p := ⟨b, 32, none⟩) h.lt]; exact h.ctr, fun j v hv => by rw [l.cell (p := ⟨b, 33 + j, none⟩) h.lt]; exact h.non j v hv, Nat.lt_of_lt_of_le h.lt l.size⟩

/-- The stream's block, the slices of L, and what stood in w. -/
structure HL (w : World) (b : Nat) (k : Nat → Int) (c : Int) (n : Nat → Int) (L : List (Option Addr × Nat × (Nat → Int))) (w' : World) : Prop where
  st : Str w' b k c n
  src : ∀ p ∈ L, Src w' p.1 p.2.1 p.2.2
  below : Below w.heap.size w w'
theorem HL.call {w : World} {b : Nat} {k : Nat → Int} {c : Int} {n : Nat → Int} {L : List (Option Addr × Nat × (Nat → Int))} {w' w'' : World} (h : HL w b k c n L w') (l : Below w'.heap.size w' w'') : HL w b k c n L w'' :=
  ⟨h.st.below l, fun p hp => (h.src p hp).below l (Nat.le_refl _), h.below.trans (l.mono h.below.size)⟩
theorem HL.drew {w : World} {b : Nat} {k : Nat → Int} {c : Int} {n : Nat → Int} {L : List (Option Addr × Nat × (Nat → Int))} {w' : World} (h : HL w b k c n L w') : HL w b k c n L w'.drew := h.call (Below.refl _ _).drew
theorem HL.add {w : World} {b : Nat} {k : Nat → Int} {c : Int} {n : Nat → Int} {L : List (Option Addr × Nat × (Nat → Int))} {w' : World} (h : HL w b k c n L w') (sp : Option Addr) (len : Nat) (z : Nat → Int) (hs : Src w' sp len z) : HL w b k c n ((sp, len, z) :: L) w' :=
  ⟨h.st, fun p hp => by
    rcases List.mem_cons.1 hp with rfl | hp
    · exact hs
    · exact h.src p hp, h.below⟩
theorem HL.get {w : World} {b : Nat} {k : Nat → Int} {c : Int} {n : Nat → Int} {L : List (Option Addr × Nat × (Nat → Int))} {w' : World} (h : HL w b k c n L w') (sp : Option Addr) (len : Nat) (z : Nat → Int) (hp : (sp, len, z) ∈ L) : Src w' sp len z := h.src _ hp
theorem xor_nought (y : Int) (hy : 0 ≤ y ∧ y < 256) : bits .xor .u8 0 y = y := by
  obtain ⟨y, rfl⟩ := Int.eq_ofNat_of_zero_le hy.1
  have h := u8_xor_nat 0 y (by omega) (by omega)
  rw [Nat.zero_xor] at h
  exact h
theorem xor_twice (x y : Int) (hx : 0 ≤ x ∧ x < 256) (hy : 0 ≤ y ∧ y < 256) : bits .xor .u8 (bits .xor .u8 x y) y = x := by
  obtain ⟨x, rfl⟩ := Int.eq_ofNat_of_zero_le hx.1
  obtain ⟨y, rfl⟩ := Int.eq_ofNat_of_zero_le hy.1
  rw [u8_xor_nat x y (by omega) (by omega), u8_xor_nat _ y (Nat.xor_lt_two_pow (n := 8) (by omega) (by omega)) (by omega), Nat.xor_assoc, Nat.xor_self, Nat.xor_zero]
theorem hxor_twice (k : Nat → Int) (c : Int) (n z : Nat → Int) (m : Nat) (hz : In 256 m z) (j : Nat) (hj : j < m) : hxor k c n (hxor k c n z) j = z j :=
  xor_twice _ _ (hz j hj) (hblk_in _ _ _ 64 _ (Nat.mod_lt _ (by decide)))
theorem hxor_next (k : Nat → Int) (c : Int) (n z : Nat → Int) (j : Nat) : hxor k c n z (64 + j) = hxor k (had c 1) n (fun i => z (64 + i)) j := by
  unfold hxor had
  rw [show (64 + j) % 64 = j % 64 by omega, show (64 + j) / 64 = 1 + j / 64 by omega, show (c + ((1 + j / 64 : Nat) : Int)) % 4294967296 = ((c + 1) % 4294967296 + ((j / 64 : Nat) : Int)) % 4294967296 by omega]
theorem hxor_noughts (k : Nat → Int) (c : Int) (hc : 0 ≤ c ∧ c < V) (n : Nat → Int) (j : Nat) (hj : j < 64) : hxor k c n (fun _ => 0) j = hblk k c n j := by
  unfold hxor
  rw [show j / 64 = 0 by omega, show j % 64 = j by omega, show (c + ((0 : Nat) : Int)) % 4294967296 = c by simp only [V] at hc; omega]
  exact xor_nought _ (hblk_in _ _ _ 64 _ hj)
theorem txt_noughts (k : Nat → Int) (c : Int) (hc : 0 ≤ c ∧ c < V) (n : Nat → Int) : txt 64 (hblk k c n) ++ txt 64 (hblk k (had c 1) n) = txt 128 (hxor k c n (fun _ => 0)) := by
  rw [← txt_add 64 64, txt_congr (fun j hj => (hxor_noughts k c hc n j hj).symm), txt_congr (n := 64) (z := hblk k (had c 1) n) (y := fun j => hxor k c n (fun _ => 0) (64 + j)) (fun j hj => by rw [hxor_next]; exact (hxor_noughts k (had c 1) (had_in c 1) n j hj).symm)]
end Go.Proofs.YteclkiabkdaklaaDoor
