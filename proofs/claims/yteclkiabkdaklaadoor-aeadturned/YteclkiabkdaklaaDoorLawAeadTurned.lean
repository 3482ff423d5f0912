/- The walk of AeadTurned. -/
import Derived.Test.YteclkiabkdaklaaDoorG6
namespace Go.Proofs.YteclkiabkdaklaaDoor
open Go.RowKit

/-- The block, rows, and what stood in w. -/
structure AT (w : World) (k n : Nat → Int) (bp : Option Addr) (bl bc : Nat) (m : Nat) (l : List (Nat × IntKind × Nat × (Nat → Int))) (w' : World) : Prop where
  kr : Kr w m l [] w'
  st : Bx w' w.heap.size k n bp bl bc
section
variable {w w' w'' : World} {k n : Nat → Int} {bp : Option Addr} {bl bc m : Nat} {l : List (Nat × IntKind × Nat × (Nat → Int))}
theorem AT.call (h : AT w k n bp bl bc m l w') (b : Below w'.heap.size w' w'') : AT w k n bp bl bc m l w'' := ⟨h.kr.call b, h.st.below b⟩
theorem AT.drew (h : AT w k n bp bl bc m l w') : AT w k n bp bl bc m l w'.drew := h.call (Below.refl _ _).drew
theorem Bx.other {b : Nat} (h : Bx w' b k n bp bl bc) (p : Addr) (v : Value) (hp : p.block ≠ b) : Bx (w'.setCell p v) b k n bp bl bc :=
  ⟨fun j x hv => by rw [World.cell?_setCell_other _ _ _ _ (by intro h'; exact hp (by rw [h']))]; exact h.key j x hv, fun j x hv => by rw [World.cell?_setCell_other _ _ _ _ (by intro h'; exact hp (by rw [h']))]; exact h.non j x hv, by rw [World.cell?_setCell_other _ _ _ _ (by intro h'; exact hp (by rw [h']))]; exact h.bes, by have e := size_setAll p.block p.off [v] w'; first | exact h.lt | (simpa using h.lt)⟩
end
theorem idxTg (b i : Nat) (hi : i < 16) (w : World) {o : Oper} {a : Act} (x y : Operand) (ho : o.op = .indexAddr 36 x y) (hx : a.eval x = .pointer (some ⟨b, 0, none⟩)) (hy : a.eval y = .int .i64 (i : Int)) :
    (execOp a.eval o).run Tryd.prog w = .ok (.value (.pointer (some ⟨b, i, none⟩))) w := by
  have h := idxArr (P := Tryd.prog) 36 5 16 .i64 b 0 i x y Tryd.underlying36 (fun _ => by kernel_rfl) hi ho hx hy w
  rw [Nat.zero_add] at h
  exact h
set_option maxRecDepth 10000 in
set_option maxHeartbeats 8000000 in
theorem law_AeadTurned (hS : ASealOK) (hO : AOpenOK) (k n : Nat → Int) (hk : In 256 32 k) (hn : In 256 12 n) (bp : Option Addr) (bl bc : Nat) (hbl : bl ≤ 140737488351232) (hbc : bl ≤ bc) (hbn : bp = none → bc = 0) (b : Nat → Int) (hb : In 256 bl b) (sp : Option Addr) (len cap : Nat) (hlen : len ≤ 140737488351232) (hcap : len ≤ cap) (hsn : sp = none → cap = 0) (z : Nat → Int) (hz : In 256 len z) (t : Nat → Int) (ht : In 256 16 t) (w : World) (hg : AGlob w) (hsb : Src w bp bl b) (hs : Src w sp len z) :
    Calls Tryd.prog 6 #[(.agg (boxm k n bp bl bc).toArray), .slice sp len cap, (.agg (row .u8 16 (t)).toArray)] w fun e w' => e = .returned (.bool true) ∧ Below w.heap.size w w' := by
  have hb0 := (Below.refl w.heap.size w).alloc (Nat.le_refl _) (.cells (boxm k n bp bl bc).toArray 28)
  have K0 := ((Kr.init w).call hb0).box .u8 16 t 36 (w.heap.size + 1) (by simp)
  have K : AT w k n bp bl bc (w.heap.size + 1 + 1) [(w.heap.size + 1, .u8, 16, t)] ((w.alloc (.cells (boxm k n bp bl bc).toArray 28)).alloc (.cells (row .u8 16 t).toArray 36)) := ⟨K0, (Bx.new w k n bp bl bc _).below ((Below.refl _ _).alloc (Nat.le_refl _) _)⟩
  clear hb0 K0
  go_enter Tryd.func6, Tryd.ntmps6
  go_upto_region 1 with fail
  generalize ((w.alloc (.cells (boxm k n bp bl bc).toArray 28)).alloc (.cells (row .u8 16 t).toArray 36)) = w0 at K ⊢
  refine wp_region_list ?_
  refine callL rfl (fun _ => by kernel_rfl) (ashown_any hS hO _ (hg.below K.kr.below hg.size)) ?_
  rintro e w1 ⟨rfl, l⟩
  replace K := K.call l
  clear l
  refine ⟨_, rfl, ?_⟩
  simp only [Act.put, List.setIfInBounds_toArray, List.set_cons_zero, List.set_cons_succ]
  refine pureL (.bool true) rfl (fun _ => by kernel_rfl) ?_
  simp only [Act.put, List.setIfInBounds_toArray, List.set_cons_zero, List.set_cons_succ]
  show Exit.then _ _ _ _ _
  go_upto_region 2 with fail
  refine wp_region_list ?_
  refine rowKL .u8 16 (t) (w.heap.size + 1) 0 36 _ _ rfl rfl rfl Tryd.underlying36 rfl (tag_info _) ((K.kr.get _ _ _ _ List.mem_cons_self).range) ?_
  simp only [Act.put, List.setIfInBounds_toArray, List.set_cons_zero, List.set_cons_succ]
  refine pureL (.agg (row .u8 16 (fun _ => 0)).toArray) rfl (fun _ => by kernel_rfl) ?_
  simp only [Act.put, List.setIfInBounds_toArray, List.set_cons_zero, List.set_cons_succ]
  by_cases hz0 : val 256 t 16 = val 256 (fun _ => 0) 16
  · refine pureL (.bool true) rfl (fun w => eqlV 16 t (fun _ => 0) 36 5 _ _ _ rfl rfl rfl Tryd.underlying36 Tryd.underlying5 (fun _ => by kernel_rfl) (by kernel_rfl) ht (zeros_in 16) true (decide_eq_true hz0) w) ?_
    simp only [Act.put, List.setIfInBounds_toArray, List.set_cons_zero, List.set_cons_succ]
    show Exit.then _ _ _ _ _
    have hB := K.kr.below
    clear K
    go_wp2
    go_ret
    exact ⟨rfl, hB⟩
  · refine pureL (.bool false) rfl (fun w => eqlV 16 t (fun _ => 0) 36 5 _ _ _ rfl rfl rfl Tryd.underlying36 Tryd.underlying5 (fun _ => by kernel_rfl) (by kernel_rfl) ht (zeros_in 16) false (decide_eq_false hz0) w) ?_
    simp only [Act.put, List.setIfInBounds_toArray, List.set_cons_zero, List.set_cons_succ]
    show Exit.then _ _ _ _ _
    go_upto_region 4 with fail
    refine wp_region_list ?_
    refine pureL (.pointer (some ⟨w.heap.size, 0, none⟩)) rfl (fun _ => by kernel_rfl) ?_
    simp only [Act.put, List.setIfInBounds_toArray, List.set_cons_zero, List.set_cons_succ]
    refine rowKL .u8 32 (k) (w.heap.size) 0 23 _ _ rfl rfl rfl Tryd.underlying23 rfl (key_info _) (K.st.key) ?_
    simp only [Act.put, List.setIfInBounds_toArray, List.set_cons_zero, List.set_cons_succ]
    refine pureL (.pointer (some ⟨w.heap.size, 32, none⟩)) rfl (fun _ => by kernel_rfl) ?_
    simp only [Act.put, List.setIfInBounds_toArray, List.set_cons_zero, List.set_cons_succ]
    refine rowKL .u8 12 (n) (w.heap.size) 32 25 _ _ rfl rfl rfl Tryd.underlying25 rfl (hn_info _) (K.st.non) ?_
    simp only [Act.put, List.setIfInBounds_toArray, List.set_cons_zero, List.set_cons_succ]
    refine pureL (.pointer (some ⟨w.heap.size, 44, none⟩)) rfl (fun _ => by kernel_rfl) ?_
    simp only [Act.put, List.setIfInBounds_toArray, List.set_cons_zero, List.set_cons_succ]
    refine readL (.slice bp bl bc) rfl (loadCell 26 5 _ ⟨w.heap.size, 44, none⟩ _ rfl rfl Tryd.underlying26 K.st.bes) ?_
    simp only [Act.put, List.setIfInBounds_toArray, List.set_cons_zero, List.set_cons_succ]
    refine pureL (.slice sp len cap) rfl (fun _ => by kernel_rfl) ?_
    simp only [Act.put, List.setIfInBounds_toArray, List.set_cons_zero, List.set_cons_succ]
    refine callL rfl (fun _ => by kernel_rfl) (hS k n hk hn bp bl bc (by omega) hbc hbn b hb sp len cap (by omega) hcap hsn z hz _ (hg.below K.kr.below hg.size) (hsb.below K.kr.below (Nat.le_refl _)) (hs.below K.kr.below (Nat.le_refl _))) ?_
    rintro e w2 ⟨B, cB, rfl, ⟨hcB, hB1, hB2, HB⟩, l⟩
    have zB := K.kr.size
    have K2 := (K.kr.call l).own (g := B) (by omega) hB2 HB
    replace K : AT w k n bp bl bc w2.heap.size [(B, .u8, len + 16, (aout k n bl b len z)), (w.heap.size + 1, .u8, 16, t)] w2 := ⟨K2, K.st.below l⟩
    clear l HB K2
    refine ⟨_, rfl, ?_⟩
    simp only [Act.put, List.setIfInBounds_toArray, List.set_cons_zero, List.set_cons_succ]
    refine pureL (.slice (some ⟨B, 0, none⟩) (len + 16) cB) rfl (fun _ => by kernel_rfl) ?_
    simp only [Act.put, List.setIfInBounds_toArray, List.set_cons_zero, List.set_cons_succ]
    generalize hm2 : w2.heap.size = m2 at K
    clear hm2
    show Exit.then _ _ _ _ _
    go_upto_region 5 with fail
    refine wp_region_list ?_
    refine pureL (.slice (some ⟨B, 0, none⟩) (len + 16) cB) rfl (fun _ => by kernel_rfl) ?_
    simp only [Act.put, List.setIfInBounds_toArray, List.set_cons_zero, List.set_cons_succ]
    refine pureL (.int .i64 ((len + 16 : Nat) : Int)) rfl (fun w => lenS _ 26 5 (some ⟨B, 0, none⟩) (len + 16) (cB) rfl Tryd.underlying26 rfl w) ?_
    simp only [Act.put, List.setIfInBounds_toArray, List.set_cons_zero, List.set_cons_succ]
    refine pureL (.slice sp len cap) rfl (fun _ => by kernel_rfl) ?_
    simp only [Act.put, List.setIfInBounds_toArray, List.set_cons_zero, List.set_cons_succ]
    refine pureL (.int .i64 ((len : Nat) : Int)) rfl (fun w => lenS _ 26 5 (sp) (len) (cap) rfl Tryd.underlying26 rfl w) ?_
    simp only [Act.put, List.setIfInBounds_toArray, List.set_cons_zero, List.set_cons_succ]
    refine pureL (.int .i64 ((len + 16 : Nat) : Int)) rfl (fun w => addI .i64 _ _ _ _ _ _ _ rfl rfl rfl (by rw [IntKind.wrap_i64]; omega) w) ?_
    simp only [Act.put, List.setIfInBounds_toArray, List.set_cons_zero, List.set_cons_succ]
    refine pureL (.bool false) rfl (fun w => neqI .i64 _ _ _ _ _ _ rfl rfl rfl false (by simp) w) ?_
    simp only [Act.put, List.setIfInBounds_toArray, List.set_cons_zero, List.set_cons_succ]
    show Exit.then _ _ _ _ _
    go_upto_region 7 with fail
    go_wp2
    go_loopw [9] (fun i w' => ∃ (q : Nat) (f : Nat → Int), q ≤ 16 ∧ i = .int .i64 (q : Int) ∧ AT w k n bp bl bc m2 [(B, .u8, len + 16, f), (w.heap.size + 1, .u8, 16, t)] w' ∧ In 256 (len + 16) f ∧ (∀ j, j < len → f j = (aout k n bl b len z) j) ∧ (∀ j, j < q → f (len + j) = bits .xor .u8 ((aout k n bl b len z) (len + j)) (t j)) ∧ ∀ j, q ≤ j → f (len + j) = (aout k n bl b len z) (len + j)) (fun i _ => 16 - (intOf i).toNat)
    case atStart => exact ⟨0, _, by omega, rfl, K, aout_in k n bl b len z hz, fun _ _ => rfl, fun j hj => by omega, fun _ _ => rfl⟩
    case round =>
      clear K
      obtain ⟨q, f, hq, rfl, K, hf, hlo, hhi, hre⟩ := hrel
      have g1 : (0 : Int) ≤ (q : Int) := by omega
      by_cases hlt : q < 16
      · have g2 : (q : Int) < 16 := by omega
        have hlq : len + q < len + 16 := by omega
        go_upto_region 10 with fail
        refine wp_region_C (S := fun w' => AT w k n bp bl bc m2 [(B, .u8, len + 16, f), (w.heap.size + 1, .u8, 16, t)] w') 17 (by kernel_rfl) K.drew ?_
        clear K
        intro K
        generalize wr.drew = w3 at K ⊢
        refine pureC (i := 0) (some 35) rfl (.slice (some ⟨B, 0, none⟩) (len + 16) cB) rfl (by decide) rfl (fun _ => by kernel_rfl) (by kernel_rfl) (by kernel_rfl) (by kernel_rfl) (fun _ _ _ h => h) K ?_
        simp only [Act.put, List.setIfInBounds_toArray, List.set_cons_zero, List.set_cons_succ]
        refine pureC (i := 1) (some 36) rfl (.slice sp len cap) rfl (by decide) rfl (fun _ => by kernel_rfl) (by kernel_rfl) (by kernel_rfl) (by kernel_rfl) (fun _ _ _ h => h) K ?_
        simp only [Act.put, List.setIfInBounds_toArray, List.set_cons_zero, List.set_cons_succ]
        refine pureC (i := 2) (some 37) rfl (.int .i64 (len : Int)) rfl (by decide) rfl (fun w => lenS _ 26 5 sp len cap rfl Tryd.underlying26 rfl w) (by kernel_rfl) (by kernel_rfl) (by kernel_rfl) (fun _ _ _ h => h) K ?_
        simp only [Act.put, List.setIfInBounds_toArray, List.set_cons_zero, List.set_cons_succ]
        refine pureC (i := 3) (some 38) rfl (.int .i64 (q : Int)) rfl (by decide) rfl (fun _ => by kernel_rfl) (by kernel_rfl) (by kernel_rfl) (by kernel_rfl) (fun _ _ _ h => h) K ?_
        simp only [Act.put, List.setIfInBounds_toArray, List.set_cons_zero, List.set_cons_succ]
        refine pureC (i := 4) (some 39) rfl (.int .i64 ((len + q : Nat) : Int)) rfl (by decide) rfl (fun w => addI .i64 _ _ _ _ _ _ _ rfl rfl rfl (by rw [IntKind.wrap_i64]; omega) w) (by kernel_rfl) (by kernel_rfl) (by kernel_rfl) (fun _ _ _ h => h) K ?_
        simp only [Act.put, List.setIfInBounds_toArray, List.set_cons_zero, List.set_cons_succ]
        refine pureC (i := 5) (some 40) rfl (.slice (some ⟨B, 0, none⟩) (len + 16) cB) rfl (by decide) rfl (fun _ => by kernel_rfl) (by kernel_rfl) (by kernel_rfl) (by kernel_rfl) (fun _ _ _ h => h) K ?_
        simp only [Act.put, List.setIfInBounds_toArray, List.set_cons_zero, List.set_cons_succ]
        refine pureC (i := 6) (some 41) rfl (.slice sp len cap) rfl (by decide) rfl (fun _ => by kernel_rfl) (by kernel_rfl) (by kernel_rfl) (by kernel_rfl) (fun _ _ _ h => h) K ?_
        simp only [Act.put, List.setIfInBounds_toArray, List.set_cons_zero, List.set_cons_succ]
        refine pureC (i := 7) (some 42) rfl (.int .i64 (len : Int)) rfl (by decide) rfl (fun w => lenS _ 26 5 sp len cap rfl Tryd.underlying26 rfl w) (by kernel_rfl) (by kernel_rfl) (by kernel_rfl) (fun _ _ _ h => h) K ?_
        simp only [Act.put, List.setIfInBounds_toArray, List.set_cons_zero, List.set_cons_succ]
        refine pureC (i := 8) (some 43) rfl (.int .i64 (q : Int)) rfl (by decide) rfl (fun _ => by kernel_rfl) (by kernel_rfl) (by kernel_rfl) (by kernel_rfl) (fun _ _ _ h => h) K ?_
        simp only [Act.put, List.setIfInBounds_toArray, List.set_cons_zero, List.set_cons_succ]
        refine pureC (i := 9) (some 44) rfl (.int .i64 ((len + q : Nat) : Int)) rfl (by decide) rfl (fun w => addI .i64 _ _ _ _ _ _ _ rfl rfl rfl (by rw [IntKind.wrap_i64]; omega) w) (by kernel_rfl) (by kernel_rfl) (by kernel_rfl) (fun _ _ _ h => h) K ?_
        simp only [Act.put, List.setIfInBounds_toArray, List.set_cons_zero, List.set_cons_succ]
        refine pureC (i := 10) (some 45) rfl (.pointer (some ⟨B, len + q, none⟩)) rfl (by decide) rfl (fun w' => idxO B (len + 16) cB (len + q) hlq w' _ _ rfl rfl rfl) (by kernel_rfl) (by kernel_rfl) (by kernel_rfl) (fun _ _ _ h => h) K ?_
        simp only [Act.put, List.setIfInBounds_toArray, List.set_cons_zero, List.set_cons_succ]
        refine cellC (i := 11) (some 46) rfl .u8 (.int .u8 (f (len + q))) B (len + q) 5 _ rfl rfl (by kernel_rfl) rfl rfl rfl (by kernel_rfl) (by kernel_rfl) (by kernel_rfl) (by kernel_rfl) (fun _ _ _ h => h) Tryd.underlying5 K (fun _ h => (h.kr.get _ _ _ _ List.mem_cons_self).cell (len + q) hlq) ?_
        simp only [Act.put, List.setIfInBounds_toArray, List.set_cons_zero, List.set_cons_succ]
        refine pureC (i := 12) (some 47) rfl (.int .i64 (q : Int)) rfl (by decide) rfl (fun _ => by kernel_rfl) (by kernel_rfl) (by kernel_rfl) (by kernel_rfl) (fun _ _ _ h => h) K ?_
        simp only [Act.put, List.setIfInBounds_toArray, List.set_cons_zero, List.set_cons_succ]
        refine pureC (i := 13) (some 48) rfl (.pointer (some ⟨w.heap.size + 1, q, none⟩)) rfl (by decide) rfl (fun w' => idxTg (w.heap.size + 1) q hlt w' _ _ rfl rfl rfl) (by kernel_rfl) (by kernel_rfl) (by kernel_rfl) (fun _ _ _ h => h) K ?_
        simp only [Act.put, List.setIfInBounds_toArray, List.set_cons_zero, List.set_cons_succ]
        refine cellC (i := 14) (some 49) rfl .u8 (.int .u8 (t q)) (w.heap.size + 1) q 5 _ rfl rfl (by kernel_rfl) rfl rfl rfl (by kernel_rfl) (by kernel_rfl) (by kernel_rfl) (by kernel_rfl) (fun _ _ _ h => h) Tryd.underlying5 K (fun _ h => (h.kr.get _ _ _ _ (List.mem_cons_of_mem _ List.mem_cons_self)).cell q hlt) ?_
        simp only [Act.put, List.setIfInBounds_toArray, List.set_cons_zero, List.set_cons_succ]
        refine pureC (i := 15) (some 50) rfl (.int .u8 (bits .xor .u8 (f (len + q)) (t q))) rfl (by decide) rfl (fun w => xorI .u8 _ _ _ _ _ _ _ rfl rfl rfl rfl w) (by kernel_rfl) (by kernel_rfl) (by kernel_rfl) (fun _ _ _ h => h) K ?_
        simp only [Act.put, List.setIfInBounds_toArray, List.set_cons_zero, List.set_cons_succ]
        refine pureC (i := 16) (some 51) rfl (.pointer (some ⟨B, len + q, none⟩)) rfl (by decide) rfl (fun w' => idxO B (len + 16) cB (len + q) hlq w' _ _ rfl rfl rfl) (by kernel_rfl) (by kernel_rfl) (by kernel_rfl) (fun _ _ _ h => h) K ?_
        simp only [Act.put, List.setIfInBounds_toArray, List.set_cons_zero, List.set_cons_succ]
        refine storeC (S2 := fun _ => True) none rfl .u8 (bits .xor .u8 (f (len + q)) (t q)) B (len + q) 5 _ _ (by kernel_rfl) rfl rfl rfl rfl rfl (by rw [(K.kr.get _ _ _ _ List.mem_cons_self).cell (len + q) hlq]; rfl) ((K.kr.get _ _ _ _ List.mem_cons_self).free (len + q) hlq) (by kernel_rfl) (by kernel_rfl) ?_
        simp only [Act.put]
        refine wpAnyH_done (by kernel_rfl) ?_ _
        have K2 := K.kr.setCell [(w.heap.size + 1, .u8, 16, t)] B .u8 (len + 16) f (len + q) hlq (bits .xor .u8 (f (len + q)) (t q)) List.mem_cons_self (fun p hp => by obtain rfl := List.mem_singleton.1 hp; exact (List.mem_cons_of_mem _ List.mem_cons_self)) (fun p hp => by obtain rfl := List.mem_singleton.1 hp; simp only; omega) (by omega)
        replace K : AT w k n bp bl bc m2 [(B, .u8, len + 16, upd f (len + q) (bits .xor .u8 (f (len + q)) (t q))), (w.heap.size + 1, .u8, 16, t)] (w3.setCell ⟨B, len + q, none⟩ (.int .u8 (bits .xor .u8 (f (len + q)) (t q)))) := ⟨K2, K.st.other _ _ (by simp only; omega)⟩
        have hXi := u8_xor_in (f (len + q)) (t q) (hf (len + q) hlq) (ht q hlt)
        have HS := show Hid _ from (And.intro K (And.intro (show In 256 (len + 16) (upd f (len + q) (bits .xor .u8 (f (len + q)) (t q))) from hf.upd _ _ hXi.1 hXi.2) (And.intro (show ∀ j, j < len → upd f (len + q) (bits .xor .u8 (f (len + q)) (t q)) j = (aout k n bl b len z) j from fun j hj => by rw [upd_other _ _ _ _ (show j ≠ len + q by omega)]; exact hlo j hj) (And.intro (show ∀ j, j < q + 1 → upd f (len + q) (bits .xor .u8 (f (len + q)) (t q)) (len + j) = bits .xor .u8 ((aout k n bl b len z) (len + j)) (t j) from fun j hj => by
          by_cases e : j = q
          · subst e; rw [upd_same, hre j (Nat.le_refl _)]
          · rw [upd_other _ _ _ _ (show len + j ≠ len + q by omega)]; exact hhi j (by omega)) (show ∀ j, q + 1 ≤ j → upd f (len + q) (bits .xor .u8 (f (len + q)) (t q)) (len + j) = (aout k n bl b len z) (len + j) from fun j hj => by rw [upd_other _ _ _ _ (show len + j ≠ len + q by omega)]; exact hre j (by omega))))))
        clear K K2 hf hlo hhi hre hXi
        generalize w3.setCell ⟨B, len + q, none⟩ (.int .u8 (bits .xor .u8 (f (len + q)) (t q))) = w4 at HS ⊢
        generalize upd f (len + q) (bits .xor .u8 (f (len + q)) (t q)) = f' at HS
        go_wp2
        go_roundw
        case rel => first | exact ⟨q + 1, f', by omega, by go_num, HS.out⟩ | ((repeat apply Exists.intro); refine ⟨⟨q + 1, f', by omega, by go_num, HS.out⟩, rfl⟩)
        case measure => simp [intOf]; omega
      · obtain rfl : q = 16 := by omega
        have hnok := aturned_ok k n bl b len z t f ht (fun h => hz0 (val_congr 256 16 (fun j hj => h j hj))) hlo hhi hf
        clear hre hlt hq g1 hlo hhi
        go_upto_region 11 with fail
        refine wp_region_list ?_
        refine pureL (.pointer (some ⟨w.heap.size, 0, none⟩)) rfl (fun _ => by kernel_rfl) ?_
        simp only [Act.put, List.setIfInBounds_toArray, List.set_cons_zero, List.set_cons_succ]
        refine rowKL .u8 32 (k) (w.heap.size) 0 23 _ _ rfl rfl rfl Tryd.underlying23 rfl (key_info _) (K.st.key) ?_
        simp only [Act.put, List.setIfInBounds_toArray, List.set_cons_zero, List.set_cons_succ]
        refine pureL (.pointer (some ⟨w.heap.size, 32, none⟩)) rfl (fun _ => by kernel_rfl) ?_
        simp only [Act.put, List.setIfInBounds_toArray, List.set_cons_zero, List.set_cons_succ]
        refine rowKL .u8 12 (n) (w.heap.size) 32 25 _ _ rfl rfl rfl Tryd.underlying25 rfl (hn_info _) (K.st.non) ?_
        simp only [Act.put, List.setIfInBounds_toArray, List.set_cons_zero, List.set_cons_succ]
        refine pureL (.pointer (some ⟨w.heap.size, 44, none⟩)) rfl (fun _ => by kernel_rfl) ?_
        simp only [Act.put, List.setIfInBounds_toArray, List.set_cons_zero, List.set_cons_succ]
        refine readL (.slice bp bl bc) rfl (loadCell 26 5 _ ⟨w.heap.size, 44, none⟩ _ rfl rfl Tryd.underlying26 K.st.bes) ?_
        simp only [Act.put, List.setIfInBounds_toArray, List.set_cons_zero, List.set_cons_succ]
        refine pureL (.slice (some ⟨B, 0, none⟩) (len + 16) cB) rfl (fun _ => by kernel_rfl) ?_
        simp only [Act.put, List.setIfInBounds_toArray, List.set_cons_zero, List.set_cons_succ]
        refine callL rfl (fun _ => by kernel_rfl) (hO k n hk hn bp bl bc (by omega) hbc hbn b hb (some ⟨B, 0, none⟩) (len + 16) cB (by omega) hcB (fun e => by cases e) f hf _ (hg.below K.kr.below hg.size) (hsb.below K.kr.below (Nat.le_refl _)) (K.kr.get _ _ _ _ List.mem_cons_self).src0) ?_
        rintro e w5 ⟨s5, c5, rfl, _, l⟩
        rw [aturned_L k n bl b len f hnok, aturned_E k n bl b len f hnok]
        replace K := K.call l
        clear l
        refine ⟨_, rfl, ?_⟩
        simp only [Act.put, List.setIfInBounds_toArray, List.set_cons_zero, List.set_cons_succ]
        refine pureL (.tuple #[.slice s5 0 c5, .int .i64 70]) rfl (fun _ => by kernel_rfl) ?_
        simp only [Act.put, List.setIfInBounds_toArray, List.set_cons_zero, List.set_cons_succ]
        refine pureL (.slice s5 0 c5) rfl (fun _ => by kernel_rfl) ?_
        simp only [Act.put, List.setIfInBounds_toArray, List.set_cons_zero, List.set_cons_succ]
        refine pureL (.int .i64 70) rfl (fun _ => by kernel_rfl) ?_
        simp only [Act.put, List.setIfInBounds_toArray, List.set_cons_zero, List.set_cons_succ]
        refine pureL (.slice s5 0 c5) rfl (fun _ => by kernel_rfl) ?_
        simp only [Act.put, List.setIfInBounds_toArray, List.set_cons_zero, List.set_cons_succ]
        refine pureL (.int .i64 70) rfl (fun _ => by kernel_rfl) ?_
        simp only [Act.put, List.setIfInBounds_toArray, List.set_cons_zero, List.set_cons_succ]
        show Exit.then _ _ _ _ _
        go_upto_region 12 with fail
        refine wp_region_list ?_
        refine pureL (.bool true) rfl (fun _ => by kernel_rfl) ?_
        simp only [Act.put, List.setIfInBounds_toArray, List.set_cons_zero, List.set_cons_succ]
        refine pureL (.bool true) rfl (fun _ => by kernel_rfl) ?_
        simp only [Act.put, List.setIfInBounds_toArray, List.set_cons_zero, List.set_cons_succ]
        refine pureL (.int .i64 70) rfl (fun _ => by kernel_rfl) ?_
        simp only [Act.put, List.setIfInBounds_toArray, List.set_cons_zero, List.set_cons_succ]
        refine pureL (.bool true) rfl (fun w => eqlI .i64 _ _ _ _ _ _ rfl rfl rfl true (by decide) w) ?_
        simp only [Act.put, List.setIfInBounds_toArray, List.set_cons_zero, List.set_cons_succ]
        refine pureL (.bool true) rfl (fun _ => by kernel_rfl) ?_
        simp only [Act.put, List.setIfInBounds_toArray, List.set_cons_zero, List.set_cons_succ]
        refine pureL (.bool true) rfl (fun _ => by kernel_rfl) ?_
        simp only [Act.put, List.setIfInBounds_toArray, List.set_cons_zero, List.set_cons_succ]
        refine pureL (.slice s5 0 c5) rfl (fun _ => by kernel_rfl) ?_
        simp only [Act.put, List.setIfInBounds_toArray, List.set_cons_zero, List.set_cons_succ]
        refine pureL (.int .i64 ((0 : Nat) : Int)) rfl (fun w => lenS _ 26 5 (s5) (0) (c5) rfl Tryd.underlying26 rfl w) ?_
        simp only [Act.put, List.setIfInBounds_toArray, List.set_cons_zero, List.set_cons_succ]
        refine pureL (.bool true) rfl (fun w => eqlI .i64 _ _ _ _ _ _ rfl rfl rfl true (by decide) w) ?_
        simp only [Act.put, List.setIfInBounds_toArray, List.set_cons_zero, List.set_cons_succ]
        refine pureL (.bool true) rfl (fun _ => by kernel_rfl) ?_
        simp only [Act.put, List.setIfInBounds_toArray, List.set_cons_zero, List.set_cons_succ]
        refine pureL (.bool true) rfl (fun _ => by kernel_rfl) ?_
        simp only [Act.put, List.setIfInBounds_toArray, List.set_cons_zero, List.set_cons_succ]
        show Exit.then _ _ _ _ _
        have hBe := K.kr.below
        clear K
        go_wp2
        go_ret
        exact ⟨rfl, hBe⟩
end Go.Proofs.YteclkiabkdaklaaDoor
