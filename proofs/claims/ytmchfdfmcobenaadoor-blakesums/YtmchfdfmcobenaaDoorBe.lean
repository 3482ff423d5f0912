/- What the program's press answers. -/
import Derived.Test.YtmchfdfmcobenaaDoorBf
import Derived.Test.YtmchfdfmcobenaaDoorHy
import Derived.Test.YtmchfdfmcobenaaDoorBq
namespace Go.Proofs.YtmchfdfmcobenaaDoor
open Go.RowKit

/-- A row within a table of rows. -/
theorem idxRows {P : Program} {o : Oper} {a : Act} (t e : TypeId) (n m : Nat) (k : IntKind) (b off i : Nat) (x y : Operand) (hu : P.underlying t = some (.array n e)) (hsz : ∀ w, (sizeOf e).run P w = .ok m w) (hi : i < n) (ho : o.op = .indexAddr t x y) (hx : a.eval x = .pointer (some ⟨b, off, none⟩)) (hy : a.eval y = .int k (i : Int)) (w : World) :
    (execOp a.eval o).run P w = .ok (.value (.pointer (some ⟨b, off + i * m, none⟩))) w := by
  have e1 : (Instr.indexAt t (.pointer (some ⟨b, off, none⟩)) (.int k (i : Int))).run P w = .ok (.pointer (some ⟨b, off + i * m, none⟩)) w := by
    simp [Instr.indexAt, run_underlying hu, Instr.sureAddr, asIntOf, hsz, Addr.add_mid]
    intro hf
    omega
  unfold execOp
  simp only [ho, hx, hy, Sem.run_bind, e1, Result.andThen_ok, Sem.run_pure]
theorem bpr_of (h z : Nat → Int) (t : Int) (last : Bool) (hh : In V 8 h) (n : Nat) (hn : n < 8) : hxr (h n) (hxr (bR (bpw z) (bst h t last) 10 n) (bR (bpw z) (bst h t last) 10 (n + 8))) = bpr h z t last n :=
  (hxr_assoc _ _ _ (hh n hn) (bR_in _ _ (bst_in h t last hh) 10 n (by omega)) (bR_in _ _ (bst_in h t last hh) 10 (n + 8) (by omega))).symm

set_option maxRecDepth 10000 in
set_option maxHeartbeats 16000000 in
theorem bpress_any (h : Nat → Int) (hh : In V 8 h) (z : Nat → Int) (t : Int) (last : Bool) (w : World) (hg : BGlob w) :
    Calls Tryd.prog 24 #[(.agg (row .u32 8 (h)).toArray), (.agg (row .u32 16 (bpw z)).toArray), .int .u64 t, .bool last] w fun e w' => e = .returned (.agg (row .u32 8 (bpr h z t last)).toArray) ∧ Below w.heap.size w w' := by
  have HG := show Hid _ from (fun n hn => bpr_of h z t last hh n hn)
  generalize hGe : bpr h z t last = G at HG
  generalize hme : bpw z = m at HG
  have K := Kr.init w
  replace K := K.box .u32 8 h 38 (w.heap.size) rfl
  replace K := K.box .u32 16 m 49 (w.heap.size + 1) (by simp)
  replace K := K.make 8 #[.int .u32 0, .int .u32 0, .int .u32 0, .int .u32 0, .int .u32 0, .int .u32 0, .int .u32 0, .int .u32 0] 38 (w.heap.size + 1 + 1) (by simp) (bst_zero _ _ _ (by simp)).there
  clear hme hGe hh
  go_enter Tryd.func24, Tryd.ntmps24
  go_upto_region 1 with fail
  generalize (((w.alloc (.cells (row .u32 8 h).toArray 38)).alloc (.cells (row .u32 16 m).toArray 49)).alloc (.cells #[.int .u32 0, .int .u32 0, .int .u32 0, .int .u32 0, .int .u32 0, .int .u32 0, .int .u32 0, .int .u32 0] 38)) = w0 at K ⊢
  refine wp_region_list ?_
  refine rowKL .u32 8 (h) (w.heap.size) 0 38 _ _ rfl rfl rfl Tryd.underlying38 rfl (bst_info _) ((K.get _ _ _ _ (List.mem_cons_of_mem _ List.mem_cons_self)).range) ?_
  simp only [Act.put, List.setIfInBounds_toArray, List.set_cons_zero, List.set_cons_succ]
  refine pureL (.int .u64 t) rfl (fun _ => by kernel_rfl) ?_
  simp only [Act.put, List.setIfInBounds_toArray, List.set_cons_zero, List.set_cons_succ]
  refine pureL (.bool last) rfl (fun _ => by kernel_rfl) ?_
  simp only [Act.put, List.setIfInBounds_toArray, List.set_cons_zero, List.set_cons_succ]
  refine callL rfl (fun _ => by kernel_rfl) (bspread_any h t last _ (hg.below K.below hg.size)) ?_
  rintro e w1 ⟨rfl, l⟩
  replace K := K.call l
  clear l
  refine ⟨_, rfl, ?_⟩
  simp only [Act.put, List.setIfInBounds_toArray, List.set_cons_zero, List.set_cons_succ]
  refine allocL #[.int .u32 0, .int .u32 0, .int .u32 0, .int .u32 0, .int .u32 0, .int .u32 0, .int .u32 0, .int .u32 0, .int .u32 0, .int .u32 0, .int .u32 0, .int .u32 0, .int .u32 0, .int .u32 0, .int .u32 0, .int .u32 0] 49 rfl (fun _ => by kernel_rfl) ?_
  simp only [Act.put, List.setIfInBounds_toArray, List.set_cons_zero, List.set_cons_succ]
  refine storesL .u32 16 (bst h t last) w1.heap.size 49 _ _ rfl rfl rfl rfl (room_of (bwd_zero _ _ _ rfl).there) (bwd_info' _) ?_
  simp only [Act.put]
  have zX := K.size
  replace K := K.fresh .u32 16 (bst h t last) #[.int .u32 0, .int .u32 0, .int .u32 0, .int .u32 0, .int .u32 0, .int .u32 0, .int .u32 0, .int .u32 0, .int .u32 0, .int .u32 0, .int .u32 0, .int .u32 0, .int .u32 0, .int .u32 0, .int .u32 0, .int .u32 0] 49 (bwd_zero _ _ _ rfl).there
  generalize ((w1.alloc (.cells #[.int .u32 0, .int .u32 0, .int .u32 0, .int .u32 0, .int .u32 0, .int .u32 0, .int .u32 0, .int .u32 0, .int .u32 0, .int .u32 0, .int .u32 0, .int .u32 0, .int .u32 0, .int .u32 0, .int .u32 0, .int .u32 0] 49)).setCells w1.heap.size 0 (row .u32 16 (bst h t last))) = w2 at K ⊢
  generalize w1.heap.size = X at *
  show Exit.then _ _ _ _ _
  generalize bst h t last = v0 at *
  go_wp2
  go_loopw [21] (fun i w' => ∃ r : Nat, r ≤ 10 ∧ i = .int .i64 r ∧ Kr w (X + 1) [(X, .u32, 16, bR m v0 r), (w.heap.size + 1, .u32, 16, m), (w.heap.size, .u32, 8, h)] [(w.heap.size + 1 + 1, 8)] w') (fun i _ => 10 - (intOf i).toNat)
  case atStart => exact ⟨0, by omega, rfl, K⟩
  case round =>
    clear K
    obtain ⟨r, hr, rfl, K⟩ := hrel
    have g1 : (0 : Int) ≤ (r : Int) := by omega
    by_cases hlt : r < 10
    · have g2 : (r : Int) < 10 := by omega
      go_wp2
      go_loopw [24] (fun i w' => ∃ q : Nat, q ≤ 8 ∧ i = .int .i64 q ∧ Kr w (X + 1) [(X, .u32, 16, bN m (sg r) (bR m v0 r) q), (w.heap.size + 1, .u32, 16, m), (w.heap.size, .u32, 8, h)] [(w.heap.size + 1 + 1, 8)] w') (fun i _ => 8 - (intOf i).toNat)
      case atStart => exact ⟨0, by omega, rfl, K⟩
      case round =>
        clear K
        obtain ⟨q, hq, rfl, K⟩ := hrel
        have g3 : (0 : Int) ≤ (q : Int) := by omega
        by_cases hlt2 : q < 8
        · have g4 : (q : Int) < 8 := by omega
          have HT := show Hid _ from (show bN m (sg r) (bR m v0 r) (q + 1) = bAt m (sg r) (bN m (sg r) (bR m v0 r) q) q from rfl)
          generalize bN m (sg r) (bR m v0 r) q = v at *
          have HK := show Hid _ from fun (n : Nat) => K.drewN (q := n)
          obtain ⟨p1, p2, p3, p4⟩ := (hg.below K.below hg.size).four q hlt2
          have l1 : pA q < 16 := by have := pA_lt q; omega
          have l2 : pB q < 16 := by have := pB_lt q; omega
          have l3 : pC q < 16 := by have := pC_lt q; omega
          have l4 : pD q < 16 := pD_lt q
          have s1 := sg_lt r (2 * q)
          have s2 := sg_lt r (2 * q + 1)
          unfold bAt bMx at HT
          have hzX := K.base
          clear K hq hr
          generalize hA : pA q = A at *
          generalize hB : pB q = B at *
          generalize hC : pC q = C at *
          generalize hD : pD q = D at *
          clear hA hB hC hD
          go_wp2
          go_quiet (fail)
          go_upto_region 9 with fail
          have K := HK.out nq
          clear p1 p2 p3 p4 HK
          generalize wr.drewN nq = w3 at K ⊢
          refine wp_region_C (S := fun w' => Kr w (X + 1) [(X, .u32, 16, v), (w.heap.size + 1, .u32, 16, m), (w.heap.size, .u32, 8, h)] [(w.heap.size + 1 + 1, 8)] w') 33 (by kernel_rfl) K.drew ?_
          clear K
          intro K
          refine pureC (i := 0) (some 44) rfl (.int .u8 (A : Int)) rfl (by decide) rfl (fun _ => by kernel_rfl) (by kernel_rfl) (by kernel_rfl) (by kernel_rfl) (fun _ _ _ h => h) K ?_
          simp only [Act.put, List.setIfInBounds_toArray, List.set_cons_zero, List.set_cons_succ]
          refine pureC (i := 1) (some 45) rfl (.int .u8 (B : Int)) rfl (by decide) rfl (fun _ => by kernel_rfl) (by kernel_rfl) (by kernel_rfl) (by kernel_rfl) (fun _ _ _ h => h) K ?_
          simp only [Act.put, List.setIfInBounds_toArray, List.set_cons_zero, List.set_cons_succ]
          refine pureC (i := 2) (some 46) rfl (.int .u8 (C : Int)) rfl (by decide) rfl (fun _ => by kernel_rfl) (by kernel_rfl) (by kernel_rfl) (by kernel_rfl) (fun _ _ _ h => h) K ?_
          simp only [Act.put, List.setIfInBounds_toArray, List.set_cons_zero, List.set_cons_succ]
          refine pureC (i := 3) (some 47) rfl (.int .u8 (D : Int)) rfl (by decide) rfl (fun _ => by kernel_rfl) (by kernel_rfl) (by kernel_rfl) (by kernel_rfl) (fun _ _ _ h => h) K ?_
          simp only [Act.put, List.setIfInBounds_toArray, List.set_cons_zero, List.set_cons_succ]
          refine pureC (i := 4) (some 48) rfl (.int .u8 (A : Int)) rfl (by decide) rfl (fun _ => by kernel_rfl) (by kernel_rfl) (by kernel_rfl) (by kernel_rfl) (fun _ _ _ h => h) K ?_
          simp only [Act.put, List.setIfInBounds_toArray, List.set_cons_zero, List.set_cons_succ]
          refine pureC (i := 5) (some 49) rfl (.pointer (some ⟨X, A, none⟩)) rfl (by decide) rfl (fun w' => ixWb X A l1 w' _ _ rfl rfl rfl) (by kernel_rfl) (by kernel_rfl) (by kernel_rfl) (fun _ _ _ h => h) K ?_
          simp only [Act.put, List.setIfInBounds_toArray, List.set_cons_zero, List.set_cons_succ]
          refine cellC (i := 6) (some 50) rfl .u32 (.int .u32 (v A)) X A 36 _ rfl rfl (by kernel_rfl) rfl rfl rfl (by kernel_rfl) (by kernel_rfl) (by kernel_rfl) (by kernel_rfl) (fun _ _ _ h => h) Tryd.underlying36 K (fun _ h => (h.get _ _ _ _ List.mem_cons_self).cell A l1) ?_
          simp only [Act.put, List.setIfInBounds_toArray, List.set_cons_zero, List.set_cons_succ]
          refine pureC (i := 7) (some 51) rfl (.int .u8 (B : Int)) rfl (by decide) rfl (fun _ => by kernel_rfl) (by kernel_rfl) (by kernel_rfl) (by kernel_rfl) (fun _ _ _ h => h) K ?_
          simp only [Act.put, List.setIfInBounds_toArray, List.set_cons_zero, List.set_cons_succ]
          refine pureC (i := 8) (some 52) rfl (.pointer (some ⟨X, B, none⟩)) rfl (by decide) rfl (fun w' => ixWb X B l2 w' _ _ rfl rfl rfl) (by kernel_rfl) (by kernel_rfl) (by kernel_rfl) (fun _ _ _ h => h) K ?_
          simp only [Act.put, List.setIfInBounds_toArray, List.set_cons_zero, List.set_cons_succ]
          refine cellC (i := 9) (some 53) rfl .u32 (.int .u32 (v B)) X B 36 _ rfl rfl (by kernel_rfl) rfl rfl rfl (by kernel_rfl) (by kernel_rfl) (by kernel_rfl) (by kernel_rfl) (fun _ _ _ h => h) Tryd.underlying36 K (fun _ h => (h.get _ _ _ _ List.mem_cons_self).cell B l2) ?_
          simp only [Act.put, List.setIfInBounds_toArray, List.set_cons_zero, List.set_cons_succ]
          refine pureC (i := 10) (some 54) rfl (.int .u8 (C : Int)) rfl (by decide) rfl (fun _ => by kernel_rfl) (by kernel_rfl) (by kernel_rfl) (by kernel_rfl) (fun _ _ _ h => h) K ?_
          simp only [Act.put, List.setIfInBounds_toArray, List.set_cons_zero, List.set_cons_succ]
          refine pureC (i := 11) (some 55) rfl (.pointer (some ⟨X, C, none⟩)) rfl (by decide) rfl (fun w' => ixWb X C l3 w' _ _ rfl rfl rfl) (by kernel_rfl) (by kernel_rfl) (by kernel_rfl) (fun _ _ _ h => h) K ?_
          simp only [Act.put, List.setIfInBounds_toArray, List.set_cons_zero, List.set_cons_succ]
          refine cellC (i := 12) (some 56) rfl .u32 (.int .u32 (v C)) X C 36 _ rfl rfl (by kernel_rfl) rfl rfl rfl (by kernel_rfl) (by kernel_rfl) (by kernel_rfl) (by kernel_rfl) (fun _ _ _ h => h) Tryd.underlying36 K (fun _ h => (h.get _ _ _ _ List.mem_cons_self).cell C l3) ?_
          simp only [Act.put, List.setIfInBounds_toArray, List.set_cons_zero, List.set_cons_succ]
          refine pureC (i := 13) (some 57) rfl (.int .u8 (D : Int)) rfl (by decide) rfl (fun _ => by kernel_rfl) (by kernel_rfl) (by kernel_rfl) (by kernel_rfl) (fun _ _ _ h => h) K ?_
          simp only [Act.put, List.setIfInBounds_toArray, List.set_cons_zero, List.set_cons_succ]
          refine pureC (i := 14) (some 58) rfl (.pointer (some ⟨X, D, none⟩)) rfl (by decide) rfl (fun w' => ixWb X D l4 w' _ _ rfl rfl rfl) (by kernel_rfl) (by kernel_rfl) (by kernel_rfl) (fun _ _ _ h => h) K ?_
          simp only [Act.put, List.setIfInBounds_toArray, List.set_cons_zero, List.set_cons_succ]
          refine cellC (i := 15) (some 59) rfl .u32 (.int .u32 (v D)) X D 36 _ rfl rfl (by kernel_rfl) rfl rfl rfl (by kernel_rfl) (by kernel_rfl) (by kernel_rfl) (by kernel_rfl) (fun _ _ _ h => h) Tryd.underlying36 K (fun _ h => (h.get _ _ _ _ List.mem_cons_self).cell D l4) ?_
          simp only [Act.put, List.setIfInBounds_toArray, List.set_cons_zero, List.set_cons_succ]
          refine pureC (i := 16) (some 60) rfl (.int .i64 (r : Int)) rfl (by decide) rfl (fun _ => by kernel_rfl) (by kernel_rfl) (by kernel_rfl) (by kernel_rfl) (fun _ _ _ h => h) K ?_
          simp only [Act.put, List.setIfInBounds_toArray, List.set_cons_zero, List.set_cons_succ]
          refine pureC (i := 17) (some 61) rfl (.int .i64 (q : Int)) rfl (by decide) rfl (fun _ => by kernel_rfl) (by kernel_rfl) (by kernel_rfl) (by kernel_rfl) (fun _ _ _ h => h) K ?_
          simp only [Act.put, List.setIfInBounds_toArray, List.set_cons_zero, List.set_cons_succ]
          refine pureC (i := 18) (some 62) rfl (.int .i64 ((2 * q : Nat) : Int)) rfl (by decide) rfl (fun w => mulI .i64 _ _ _ _ _ _ _ rfl rfl rfl (by rw [IntKind.wrap_i64]; omega) w) (by kernel_rfl) (by kernel_rfl) (by kernel_rfl) (fun _ _ _ h => h) K ?_
          simp only [Act.put, List.setIfInBounds_toArray, List.set_cons_zero, List.set_cons_succ]
          refine pureC (i := 19) (some 63) rfl (.pointer (some ⟨2, 0 + r * 16, none⟩)) rfl (by decide) rfl (fun w' => idxRows (P := Tryd.prog) 59 58 10 16 .i64 2 0 r _ _ Tryd.underlying59 (fun _ => by kernel_rfl) hlt rfl rfl rfl w') (by kernel_rfl) (by kernel_rfl) (by kernel_rfl) (fun _ _ _ h => h) K ?_
          simp only [Act.put, List.setIfInBounds_toArray, List.set_cons_zero, List.set_cons_succ]
          refine pureC (i := 20) (some 64) rfl (.pointer (some ⟨2, 0 + r * 16 + (2 * q), none⟩)) rfl (by decide) rfl (fun w' => idxArr (P := Tryd.prog) 58 5 16 .i64 2 (0 + r * 16) (2 * q) _ _ Tryd.underlying58 (fun _ => by kernel_rfl) (by omega) rfl rfl rfl w') (by kernel_rfl) (by kernel_rfl) (by kernel_rfl) (fun _ _ _ h => h) K ?_
          simp only [Act.put, List.setIfInBounds_toArray, List.set_cons_zero, List.set_cons_succ]
          refine cellCT (i := 21) 8 (some 65) rfl .u8 (.int .u8 ((sg r (2 * q) : Nat) : Int)) 2 (0 + r * 16 + (2 * q)) 5 _ rfl (by kernel_rfl) (by kernel_rfl) rfl rfl rfl (by kernel_rfl) (by kernel_rfl) (by kernel_rfl) (by kernel_rfl) (fun _ _ _ h => h) Tryd.underlying5 K (fun _ h => (by rw [Nat.zero_add]; exact (hg.below h.below hg.size).sg r (2 * q) hlt (by omega))) ?_
          simp only [Act.put, List.setIfInBounds_toArray, List.set_cons_zero, List.set_cons_succ]
          refine pureC (i := 22) (some 66) rfl (.pointer (some ⟨w.heap.size + 1, sg r (2 * q), none⟩)) rfl (by decide) rfl (fun w' => ixWb (w.heap.size + 1) (sg r (2 * q)) s1 w' _ _ rfl rfl rfl) (by kernel_rfl) (by kernel_rfl) (by kernel_rfl) (fun _ _ _ h => h) K ?_
          simp only [Act.put, List.setIfInBounds_toArray, List.set_cons_zero, List.set_cons_succ]
          refine cellC (i := 23) (some 67) rfl .u32 (.int .u32 (m (sg r (2 * q)))) (w.heap.size + 1) (sg r (2 * q)) 36 _ rfl rfl (by kernel_rfl) rfl rfl rfl (by kernel_rfl) (by kernel_rfl) (by kernel_rfl) (by kernel_rfl) (fun _ _ _ h => h) Tryd.underlying36 K (fun _ h => (h.get _ _ _ _ (List.mem_cons_of_mem _ List.mem_cons_self)).cell (sg r (2 * q)) s1) ?_
          simp only [Act.put, List.setIfInBounds_toArray, List.set_cons_zero, List.set_cons_succ]
          refine pureC (i := 24) (some 68) rfl (.int .i64 (r : Int)) rfl (by decide) rfl (fun _ => by kernel_rfl) (by kernel_rfl) (by kernel_rfl) (by kernel_rfl) (fun _ _ _ h => h) K ?_
          simp only [Act.put, List.setIfInBounds_toArray, List.set_cons_zero, List.set_cons_succ]
          refine pureC (i := 25) (some 69) rfl (.int .i64 (q : Int)) rfl (by decide) rfl (fun _ => by kernel_rfl) (by kernel_rfl) (by kernel_rfl) (by kernel_rfl) (fun _ _ _ h => h) K ?_
          simp only [Act.put, List.setIfInBounds_toArray, List.set_cons_zero, List.set_cons_succ]
          refine pureC (i := 26) (some 70) rfl (.int .i64 ((2 * q : Nat) : Int)) rfl (by decide) rfl (fun w => mulI .i64 _ _ _ _ _ _ _ rfl rfl rfl (by rw [IntKind.wrap_i64]; omega) w) (by kernel_rfl) (by kernel_rfl) (by kernel_rfl) (fun _ _ _ h => h) K ?_
          simp only [Act.put, List.setIfInBounds_toArray, List.set_cons_zero, List.set_cons_succ]
          refine pureC (i := 27) (some 71) rfl (.int .i64 ((2 * q + 1 : Nat) : Int)) rfl (by decide) rfl (fun w => addI .i64 _ _ _ _ _ _ _ rfl rfl rfl (by rw [IntKind.wrap_i64]; omega) w) (by kernel_rfl) (by kernel_rfl) (by kernel_rfl) (fun _ _ _ h => h) K ?_
          simp only [Act.put, List.setIfInBounds_toArray, List.set_cons_zero, List.set_cons_succ]
          refine pureC (i := 28) (some 72) rfl (.pointer (some ⟨2, 0 + r * 16, none⟩)) rfl (by decide) rfl (fun w' => idxRows (P := Tryd.prog) 59 58 10 16 .i64 2 0 r _ _ Tryd.underlying59 (fun _ => by kernel_rfl) hlt rfl rfl rfl w') (by kernel_rfl) (by kernel_rfl) (by kernel_rfl) (fun _ _ _ h => h) K ?_
          simp only [Act.put, List.setIfInBounds_toArray, List.set_cons_zero, List.set_cons_succ]
          refine pureC (i := 29) (some 73) rfl (.pointer (some ⟨2, 0 + r * 16 + (2 * q + 1), none⟩)) rfl (by decide) rfl (fun w' => idxArr (P := Tryd.prog) 58 5 16 .i64 2 (0 + r * 16) (2 * q + 1) _ _ Tryd.underlying58 (fun _ => by kernel_rfl) (by omega) rfl rfl rfl w') (by kernel_rfl) (by kernel_rfl) (by kernel_rfl) (fun _ _ _ h => h) K ?_
          simp only [Act.put, List.setIfInBounds_toArray, List.set_cons_zero, List.set_cons_succ]
          refine cellCT (i := 30) 8 (some 74) rfl .u8 (.int .u8 ((sg r (2 * q + 1) : Nat) : Int)) 2 (0 + r * 16 + (2 * q + 1)) 5 _ rfl (by kernel_rfl) (by kernel_rfl) rfl rfl rfl (by kernel_rfl) (by kernel_rfl) (by kernel_rfl) (by kernel_rfl) (fun _ _ _ h => h) Tryd.underlying5 K (fun _ h => (by rw [Nat.zero_add]; exact (hg.below h.below hg.size).sg r (2 * q + 1) hlt (by omega))) ?_
          simp only [Act.put, List.setIfInBounds_toArray, List.set_cons_zero, List.set_cons_succ]
          refine pureC (i := 31) (some 75) rfl (.pointer (some ⟨w.heap.size + 1, sg r (2 * q + 1), none⟩)) rfl (by decide) rfl (fun w' => ixWb (w.heap.size + 1) (sg r (2 * q + 1)) s2 w' _ _ rfl rfl rfl) (by kernel_rfl) (by kernel_rfl) (by kernel_rfl) (fun _ _ _ h => h) K ?_
          simp only [Act.put, List.setIfInBounds_toArray, List.set_cons_zero, List.set_cons_succ]
          refine cellC (i := 32) (some 76) rfl .u32 (.int .u32 (m (sg r (2 * q + 1)))) (w.heap.size + 1) (sg r (2 * q + 1)) 36 _ rfl rfl (by kernel_rfl) rfl rfl rfl (by kernel_rfl) (by kernel_rfl) (by kernel_rfl) (by kernel_rfl) (fun _ _ _ h => h) Tryd.underlying36 K (fun _ h => (h.get _ _ _ _ (List.mem_cons_of_mem _ List.mem_cons_self)).cell (sg r (2 * q + 1)) s2) ?_
          simp only [Act.put, List.setIfInBounds_toArray, List.set_cons_zero, List.set_cons_succ]
          refine callC (S2 := fun _ => True) (some 77) rfl (by kernel_rfl) rfl rfl (fun _ => by kernel_rfl) (bmix_any (v A) (v B) (v C) (v D) (m (sg r (2 * q))) (m (sg r (2 * q + 1))) _) (by kernel_rfl) ?_
          rintro e w' ⟨rfl, rfl⟩
          refine ⟨_, rfl, ?_⟩
          simp only [Act.put, List.setIfInBounds_toArray, List.set_cons_zero, List.set_cons_succ]
          have T : True := trivial
          refine pureH (i := 34) (some 43) rfl (.tuple #[.int .u32 (bA (v A) (v B) (v C) (v D) (m (sg r (2 * q))) (m (sg r (2 * q + 1)))), .int .u32 (bB (v A) (v B) (v C) (v D) (m (sg r (2 * q))) (m (sg r (2 * q + 1)))), .int .u32 (bC (v A) (v B) (v C) (v D) (m (sg r (2 * q))) (m (sg r (2 * q + 1)))), .int .u32 (bD (v A) (v B) (v C) (v D) (m (sg r (2 * q))) (m (sg r (2 * q + 1))))]) rfl rfl (fun _ => by kernel_rfl) (by kernel_rfl) (by kernel_rfl) (by kernel_rfl) (fun _ _ _ h => h) T ?_
          simp only [Act.put, List.setIfInBounds_toArray, List.set_cons_zero, List.set_cons_succ]
          refine pureH (i := 35) (some 78) rfl (.int .u32 (bA (v A) (v B) (v C) (v D) (m (sg r (2 * q))) (m (sg r (2 * q + 1))))) rfl rfl (fun _ => by kernel_rfl) (by kernel_rfl) (by kernel_rfl) (by kernel_rfl) (fun _ _ _ h => h) T ?_
          simp only [Act.put, List.setIfInBounds_toArray, List.set_cons_zero, List.set_cons_succ]
          refine pureH (i := 36) (some 79) rfl (.int .u32 (bB (v A) (v B) (v C) (v D) (m (sg r (2 * q))) (m (sg r (2 * q + 1))))) rfl rfl (fun _ => by kernel_rfl) (by kernel_rfl) (by kernel_rfl) (by kernel_rfl) (fun _ _ _ h => h) T ?_
          simp only [Act.put, List.setIfInBounds_toArray, List.set_cons_zero, List.set_cons_succ]
          refine pureH (i := 37) (some 80) rfl (.int .u32 (bC (v A) (v B) (v C) (v D) (m (sg r (2 * q))) (m (sg r (2 * q + 1))))) rfl rfl (fun _ => by kernel_rfl) (by kernel_rfl) (by kernel_rfl) (by kernel_rfl) (fun _ _ _ h => h) T ?_
          simp only [Act.put, List.setIfInBounds_toArray, List.set_cons_zero, List.set_cons_succ]
          refine pureH (i := 38) (some 81) rfl (.int .u32 (bD (v A) (v B) (v C) (v D) (m (sg r (2 * q))) (m (sg r (2 * q + 1))))) rfl rfl (fun _ => by kernel_rfl) (by kernel_rfl) (by kernel_rfl) (by kernel_rfl) (fun _ _ _ h => h) T ?_
          simp only [Act.put, List.setIfInBounds_toArray, List.set_cons_zero, List.set_cons_succ]
          have h0 := K.get _ _ _ _ List.mem_cons_self
          replace K := K.loose [(w.heap.size + 1, .u32, 16, m), (w.heap.size, .u32, 8, h)] X .u32 16 v List.mem_cons_self (fun p hp => by rcases List.mem_cons.1 hp with rfl | hp; exact (List.mem_cons_of_mem _ List.mem_cons_self); obtain rfl := List.mem_singleton.1 hp; exact (List.mem_cons_of_mem _ (List.mem_cons_of_mem _ List.mem_cons_self))) (fun p hp => by rcases List.mem_cons.1 hp with rfl | hp; simp only; omega; obtain rfl := List.mem_singleton.1 hp; simp only; omega) (by omega)
          refine pureH (i := 39) (some 82) rfl (.pointer (some ⟨X, A, none⟩)) rfl rfl (fun w' => ixWb X A l1 w' _ _ rfl rfl rfl) (by kernel_rfl) (by kernel_rfl) (by kernel_rfl) (fun _ _ _ h => h) T ?_
          simp only [Act.put, List.setIfInBounds_toArray, List.set_cons_zero, List.set_cons_succ]
          refine storeH (i := 40) none rfl .u32 (bA (v A) (v B) (v C) (v D) (m (sg r (2 * q))) (m (sg r (2 * q + 1)))) X A 36 _ _ (by kernel_rfl) rfl rfl rfl rfl rfl (by rw [h0.cell A l1]; rfl) (h0.free A l1) (by kernel_rfl) T ?_
          simp only [Act.put]
          have h1 := h0.set A l1 (bA (v A) (v B) (v C) (v D) (m (sg r (2 * q))) (m (sg r (2 * q + 1))))
          replace K := K.poke X 16 List.mem_cons_self A [.int .u32 (bA (v A) (v B) (v C) (v D) (m (sg r (2 * q))) (m (sg r (2 * q + 1))))]
          clear h0
          refine pureH (i := 41) (some 83) rfl (.pointer (some ⟨X, B, none⟩)) rfl rfl (fun w' => ixWb X B l2 w' _ _ rfl rfl rfl) (by kernel_rfl) (by kernel_rfl) (by kernel_rfl) (fun _ _ _ h => h) T ?_
          simp only [Act.put, List.setIfInBounds_toArray, List.set_cons_zero, List.set_cons_succ]
          refine storeH (i := 42) none rfl .u32 (bB (v A) (v B) (v C) (v D) (m (sg r (2 * q))) (m (sg r (2 * q + 1)))) X B 36 _ _ (by kernel_rfl) rfl rfl rfl rfl rfl (by rw [h1.cell B l2]; rfl) (h1.free B l2) (by kernel_rfl) T ?_
          simp only [Act.put]
          have h2 := h1.set B l2 (bB (v A) (v B) (v C) (v D) (m (sg r (2 * q))) (m (sg r (2 * q + 1))))
          replace K := K.poke X 16 List.mem_cons_self B [.int .u32 (bB (v A) (v B) (v C) (v D) (m (sg r (2 * q))) (m (sg r (2 * q + 1))))]
          clear h1
          refine pureH (i := 43) (some 84) rfl (.pointer (some ⟨X, C, none⟩)) rfl rfl (fun w' => ixWb X C l3 w' _ _ rfl rfl rfl) (by kernel_rfl) (by kernel_rfl) (by kernel_rfl) (fun _ _ _ h => h) T ?_
          simp only [Act.put, List.setIfInBounds_toArray, List.set_cons_zero, List.set_cons_succ]
          refine storeH (i := 44) none rfl .u32 (bC (v A) (v B) (v C) (v D) (m (sg r (2 * q))) (m (sg r (2 * q + 1)))) X C 36 _ _ (by kernel_rfl) rfl rfl rfl rfl rfl (by rw [h2.cell C l3]; rfl) (h2.free C l3) (by kernel_rfl) T ?_
          simp only [Act.put]
          have h3 := h2.set C l3 (bC (v A) (v B) (v C) (v D) (m (sg r (2 * q))) (m (sg r (2 * q + 1))))
          replace K := K.poke X 16 List.mem_cons_self C [.int .u32 (bC (v A) (v B) (v C) (v D) (m (sg r (2 * q))) (m (sg r (2 * q + 1))))]
          clear h2
          refine pureH (i := 45) (some 85) rfl (.pointer (some ⟨X, D, none⟩)) rfl rfl (fun w' => ixWb X D l4 w' _ _ rfl rfl rfl) (by kernel_rfl) (by kernel_rfl) (by kernel_rfl) (fun _ _ _ h => h) T ?_
          simp only [Act.put, List.setIfInBounds_toArray, List.set_cons_zero, List.set_cons_succ]
          refine storeH (i := 46) none rfl .u32 (bD (v A) (v B) (v C) (v D) (m (sg r (2 * q))) (m (sg r (2 * q + 1)))) X D 36 _ _ (by kernel_rfl) rfl rfl rfl rfl rfl (by rw [h3.cell D l4]; rfl) (h3.free D l4) (by kernel_rfl) T ?_
          simp only [Act.put]
          have h4 := h3.set D l4 (bD (v A) (v B) (v C) (v D) (m (sg r (2 * q))) (m (sg r (2 * q + 1))))
          replace K := K.poke X 16 List.mem_cons_self D [.int .u32 (bD (v A) (v B) (v C) (v D) (m (sg r (2 * q))) (m (sg r (2 * q + 1))))]
          clear h3
          refine wpAnyH_done (by kernel_rfl) ?_ _
          rw [← HT.out] at h4
          replace K := K.settle [(w.heap.size + 1 + 1, 8)] X .u32 16 _ List.mem_cons_self (fun q hq => List.mem_cons_of_mem _ hq) (fun q hq => by obtain rfl := List.mem_singleton.1 hq; simp only; omega) h4
          have HS := show Hid _ from K
          clear K h4 T l1 l2 l3 l4 HT
          go_wp2
          go_roundw
          case rel => first | exact ⟨q + 1, by omega, by go_num, HS.out⟩ | ((repeat apply Exists.intro); refine ⟨⟨q + 1, by omega, by go_num, HS.out⟩, rfl⟩)
          case measure => simp [intOf]; omega
        · obtain rfl : q = 8 := by omega
          have HS := show Hid (Kr w (X + 1) [(X, .u32, 16, bR m v0 (r + 1)), (w.heap.size + 1, .u32, 16, m), (w.heap.size, .u32, 8, h)] [(w.heap.size + 1 + 1, 8)] wr) from K
          clear K hlt2 hq g3
          go_wp2
          go_roundw
          case rel => first | exact ⟨r + 1, by omega, by go_num, HS.out⟩ | ((repeat apply Exists.intro); refine ⟨⟨r + 1, by omega, by go_num, HS.out⟩, rfl⟩)
          case measure => simp [intOf]; omega
    · obtain rfl : r = 10 := by omega
      clear hlt hr g1
      generalize bR m v0 10 = F at *
      replace K : Kr w (X + 1) [(w.heap.size, .u32, 8, h), (X, .u32, 16, F)] [(w.heap.size + 1 + 1, 8)] wr := K.sub _ (fun p hp => by rcases List.mem_cons.1 hp with rfl | hp; exact (List.mem_cons_of_mem _ (List.mem_cons_of_mem _ List.mem_cons_self)); obtain rfl := List.mem_singleton.1 hp; exact List.mem_cons_self)
      go_wp2
      go_loopw [88] (fun i w' => ∃ (n : Nat) (f : Nat → Int), n ≤ 8 ∧ i = .int .i64 n ∧ Kr w (X + 1) [(w.heap.size, .u32, 8, f), (X, .u32, 16, F)] [(w.heap.size + 1 + 1, 8)] w' ∧ (∀ j, j < n → f j = G j) ∧ ∀ j, n ≤ j → f j = h j) (fun i _ => 8 - (intOf i).toNat)
      case atStart => exact ⟨0, h, by omega, rfl, K, fun j hj => by omega, fun _ _ => rfl⟩
      case round =>
        clear K
        obtain ⟨n, f, hn, rfl, K, hd, hk⟩ := hrel
        have g1 : (0 : Int) ≤ (n : Int) := by omega
        by_cases hlt : n < 8
        · have g2 : (n : Int) < 8 := by omega
          have hz0 := K.base
          have HX : hxr (f n) (hxr (F n) (F (n + 8))) = G n := by rw [hk n (Nat.le_refl _)]; exact HG.out n hlt
          have l8 : n < 16 := by omega
          have l88 : n + 8 < 16 := by omega
          go_upto_region 15 with fail
          refine wp_region_C (S := fun w' => Kr w (X + 1) [(w.heap.size, .u32, 8, f), (X, .u32, 16, F)] [(w.heap.size + 1 + 1, 8)] w') 13 (by kernel_rfl) K.drew ?_
          clear K
          intro K
          generalize wr.drew = w4 at K ⊢
          refine pureC (i := 0) (some 91) rfl (.int .i64 (n : Int)) rfl (by decide) rfl (fun _ => by kernel_rfl) (by kernel_rfl) (by kernel_rfl) (by kernel_rfl) (fun _ _ _ h => h) K ?_
          simp only [Act.put, List.setIfInBounds_toArray, List.set_cons_zero, List.set_cons_succ]
          refine pureC (i := 1) (some 92) rfl (.pointer (some ⟨w.heap.size, n, none⟩)) rfl (by decide) rfl (fun w' => ixS (w.heap.size) n hlt w' _ _ rfl rfl rfl) (by kernel_rfl) (by kernel_rfl) (by kernel_rfl) (fun _ _ _ h => h) K ?_
          simp only [Act.put, List.setIfInBounds_toArray, List.set_cons_zero, List.set_cons_succ]
          refine cellC (i := 2) (some 93) rfl .u32 (.int .u32 (f n)) (w.heap.size) n 36 _ rfl rfl (by kernel_rfl) rfl rfl rfl (by kernel_rfl) (by kernel_rfl) (by kernel_rfl) (by kernel_rfl) (fun _ _ _ h => h) Tryd.underlying36 K (fun _ h => (h.get _ _ _ _ List.mem_cons_self).cell n hlt) ?_
          simp only [Act.put, List.setIfInBounds_toArray, List.set_cons_zero, List.set_cons_succ]
          refine pureC (i := 3) (some 94) rfl (.int .i64 (n : Int)) rfl (by decide) rfl (fun _ => by kernel_rfl) (by kernel_rfl) (by kernel_rfl) (by kernel_rfl) (fun _ _ _ h => h) K ?_
          simp only [Act.put, List.setIfInBounds_toArray, List.set_cons_zero, List.set_cons_succ]
          refine pureC (i := 4) (some 95) rfl (.pointer (some ⟨X, n, none⟩)) rfl (by decide) rfl (fun w' => ixW X n l8 w' _ _ rfl rfl rfl) (by kernel_rfl) (by kernel_rfl) (by kernel_rfl) (fun _ _ _ h => h) K ?_
          simp only [Act.put, List.setIfInBounds_toArray, List.set_cons_zero, List.set_cons_succ]
          refine cellC (i := 5) (some 96) rfl .u32 (.int .u32 (F n)) X n 36 _ rfl rfl (by kernel_rfl) rfl rfl rfl (by kernel_rfl) (by kernel_rfl) (by kernel_rfl) (by kernel_rfl) (fun _ _ _ h => h) Tryd.underlying36 K (fun _ h => (h.get _ _ _ _ (List.mem_cons_of_mem _ List.mem_cons_self)).cell n l8) ?_
          simp only [Act.put, List.setIfInBounds_toArray, List.set_cons_zero, List.set_cons_succ]
          refine pureC (i := 6) (some 97) rfl (.int .i64 (n : Int)) rfl (by decide) rfl (fun _ => by kernel_rfl) (by kernel_rfl) (by kernel_rfl) (by kernel_rfl) (fun _ _ _ h => h) K ?_
          simp only [Act.put, List.setIfInBounds_toArray, List.set_cons_zero, List.set_cons_succ]
          refine pureC (i := 7) (some 98) rfl (.int .i64 ((n + 8 : Nat) : Int)) rfl (by decide) rfl (fun w => addI .i64 _ _ _ _ _ _ _ rfl rfl rfl (by rw [IntKind.wrap_i64]; omega) w) (by kernel_rfl) (by kernel_rfl) (by kernel_rfl) (fun _ _ _ h => h) K ?_
          simp only [Act.put, List.setIfInBounds_toArray, List.set_cons_zero, List.set_cons_succ]
          refine pureC (i := 8) (some 99) rfl (.pointer (some ⟨X, n + 8, none⟩)) rfl (by decide) rfl (fun w' => ixW X (n + 8) l88 w' _ _ rfl rfl rfl) (by kernel_rfl) (by kernel_rfl) (by kernel_rfl) (fun _ _ _ h => h) K ?_
          simp only [Act.put, List.setIfInBounds_toArray, List.set_cons_zero, List.set_cons_succ]
          refine cellC (i := 9) (some 100) rfl .u32 (.int .u32 (F (n + 8))) X (n + 8) 36 _ rfl rfl (by kernel_rfl) rfl rfl rfl (by kernel_rfl) (by kernel_rfl) (by kernel_rfl) (by kernel_rfl) (fun _ _ _ h => h) Tryd.underlying36 K (fun _ h => (h.get _ _ _ _ (List.mem_cons_of_mem _ List.mem_cons_self)).cell (n + 8) l88) ?_
          simp only [Act.put, List.setIfInBounds_toArray, List.set_cons_zero, List.set_cons_succ]
          refine pureC (i := 10) (some 101) rfl (.int .u32 (hxr (F n) (F (n + 8)))) rfl (by decide) rfl (fun w => xorI .u32 _ _ _ _ _ _ _ rfl rfl rfl rfl w) (by kernel_rfl) (by kernel_rfl) (by kernel_rfl) (fun _ _ _ h => h) K ?_
          simp only [Act.put, List.setIfInBounds_toArray, List.set_cons_zero, List.set_cons_succ]
          refine pureC (i := 11) (some 102) rfl (.int .u32 (G n)) rfl (by decide) rfl (fun w => xorI .u32 _ _ _ _ _ _ _ rfl rfl rfl HX w) (by kernel_rfl) (by kernel_rfl) (by kernel_rfl) (fun _ _ _ h => h) K ?_
          simp only [Act.put, List.setIfInBounds_toArray, List.set_cons_zero, List.set_cons_succ]
          refine pureC (i := 12) (some 103) rfl (.pointer (some ⟨w.heap.size, n, none⟩)) rfl (by decide) rfl (fun w' => ixS (w.heap.size) n hlt w' _ _ rfl rfl rfl) (by kernel_rfl) (by kernel_rfl) (by kernel_rfl) (fun _ _ _ h => h) K ?_
          simp only [Act.put, List.setIfInBounds_toArray, List.set_cons_zero, List.set_cons_succ]
          refine storeC (S2 := fun _ => True) none rfl .u32 (G n) (w.heap.size) n 36 _ _ (by kernel_rfl) rfl rfl rfl rfl rfl (by rw [(K.get _ _ _ _ List.mem_cons_self).cell n hlt]; rfl) ((K.get _ _ _ _ List.mem_cons_self).free n hlt) (by kernel_rfl) (by kernel_rfl) ?_
          simp only [Act.put]
          refine wpAnyH_done (by kernel_rfl) ?_ _
          replace K := K.setCell [(X, .u32, 16, F)] (w.heap.size) .u32 8 f n hlt (G n) List.mem_cons_self (fun p hp => by obtain rfl := List.mem_singleton.1 hp; exact (List.mem_cons_of_mem _ List.mem_cons_self)) (fun p hp => by obtain rfl := List.mem_singleton.1 hp; simp only; omega) (Nat.le_refl _)
          have HS := show Hid _ from (And.intro K (And.intro (show ∀ j, j < n + 1 → upd f n (G n) j = G j from fun j hj => by
            by_cases e : j = n
            · subst e; rw [upd_same]
            · rw [upd_other _ _ _ _ e]; exact hd j (by omega)) (show ∀ j, n + 1 ≤ j → upd f n (G n) j = h j from fun j hj => by rw [upd_other _ _ _ _ (show j ≠ n by omega)]; exact hk j (by omega))))
          clear K hd hk HX
          generalize w4.setCell ⟨w.heap.size, n, none⟩ (.int .u32 (G n)) = w5 at HS ⊢
          generalize upd f n (G n) = f' at HS
          go_wp2
          go_roundw
          case rel => first | exact ⟨n + 1, f', by omega, by go_num, HS.out⟩ | ((repeat apply Exists.intro); refine ⟨⟨n + 1, f', by omega, by go_num, HS.out⟩, rfl⟩)
          case measure => simp [intOf]; omega
        · obtain rfl : n = 8 := by omega
          have HR := (K.get _ _ _ _ List.mem_cons_self).congr (g := G) (fun j hj => hd j hj)
          have hz' := (K.room _ List.mem_cons_self).1
          have hB := (K.fill _ _ List.mem_cons_self (row .u32 8 G)).below
          clear K hd hk hlt hn g1
          go_wp2_with (first | (refine wpList_load_mid rfl 38 _ rfl (w.heap.size) 0 rfl (row .u32 8 (G)) _ (Has.range (HR)) Tryd.underlying38 rfl (bst_info _) ?_) | (refine wpList_store_mid rfl 38 _ _ rfl (w.heap.size + 1 + 1) 0 (row .u32 8 G).toArray rfl rfl (room_of hz') (bst_info' _) (all_oneCell_toArray (row_one _ _ _)) ?_))
          exact bodyPost_ret (v := (.agg (row .u32 8 (G)).toArray)) (results_row Tryd.results24 rfl (Has.all hz' .u32 G).range Tryd.underlying38 rfl (bst_info G)) rfl ⟨by first | rfl | rw [hGe], hB⟩
end Go.Proofs.YtmchfdfmcobenaaDoor
