/- What the program's load, begin and bytes answer. -/
import Derived.Test.YtmchfdfmcobenaaDoorBd
import Derived.Test.YtmchfdfmcobenaaDoorKr
import Derived.Test.YtmchfdfmcobenaaDoorHold
import Derived.Test.YtmchfdfmcobenaaDoorHw
import Derived.Test.YtmchfdfmcobenaaDoorBp
import Derived.Test.YtmchfdfmcobenaaDoorBt
import Derived.Deep.Cut
namespace Go.Proofs.YtmchfdfmcobenaaDoor
open Go.RowKit

theorem bst_info (f : Nat → Int) : (Tryd.prog.info? 38).map (·.size) = some (row .u32 8 f).length := by rw [row_length]; kernel_rfl
theorem bst_info' (f : Nat → Int) : (Tryd.prog.info? 38).map (·.size) = some (row .u32 8 f).toArray.size := by rw [List.size_toArray]; exact bst_info f
theorem bst_there {w : World} {b : Nat} {f g : Nat → Int} (h : Has w b .u32 8 f) : w.there b 0 (row .u32 8 g).toArray.size := by rw [List.size_toArray, row_length]; exact h.there
theorem bst_zero (w : World) (t : TypeId) (b : Nat) (hb : b = w.heap.size) : Has (w.alloc (.cells #[.int .u32 0, .int .u32 0, .int .u32 0, .int .u32 0, .int .u32 0, .int .u32 0, .int .u32 0, .int .u32 0] t)) b .u32 8 (fun _ => 0) := Has.new w .u32 8 (fun _ => 0) t b hb
theorem bwd_info (f : Nat → Int) : (Tryd.prog.info? 49).map (·.size) = some (row .u32 16 f).length := by rw [row_length]; kernel_rfl
theorem bwd_info' (f : Nat → Int) : (Tryd.prog.info? 49).map (·.size) = some (row .u32 16 f).toArray.size := by rw [List.size_toArray]; exact bwd_info f
theorem bwd_there {w : World} {b : Nat} {f g : Nat → Int} (h : Has w b .u32 16 f) : w.there b 0 (row .u32 16 g).toArray.size := by rw [List.size_toArray, row_length]; exact h.there
theorem bwd_zero (w : World) (t : TypeId) (b : Nat) (hb : b = w.heap.size) : Has (w.alloc (.cells #[.int .u32 0, .int .u32 0, .int .u32 0, .int .u32 0, .int .u32 0, .int .u32 0, .int .u32 0, .int .u32 0, .int .u32 0, .int .u32 0, .int .u32 0, .int .u32 0, .int .u32 0, .int .u32 0, .int .u32 0, .int .u32 0] t)) b .u32 16 (fun _ => 0) := Has.new w .u32 16 (fun _ => 0) t b hb
theorem bpc_info (f : Nat → Int) : (Tryd.prog.info? 64).map (·.size) = some (row .u8 64 f).length := by rw [row_length]; kernel_rfl
theorem bpc_info' (f : Nat → Int) : (Tryd.prog.info? 64).map (·.size) = some (row .u8 64 f).toArray.size := by rw [List.size_toArray]; exact bpc_info f
theorem bpc_there {w : World} {b : Nat} {f g : Nat → Int} (h : Has w b .u8 64 f) : w.there b 0 (row .u8 64 g).toArray.size := by rw [List.size_toArray, row_length]; exact h.there
theorem bpc_zero (w : World) (t : TypeId) (b : Nat) (hb : b = w.heap.size) : Has (w.alloc (.cells #[.int .u8 0, .int .u8 0, .int .u8 0, .int .u8 0, .int .u8 0, .int .u8 0, .int .u8 0, .int .u8 0, .int .u8 0, .int .u8 0, .int .u8 0, .int .u8 0, .int .u8 0, .int .u8 0, .int .u8 0, .int .u8 0, .int .u8 0, .int .u8 0, .int .u8 0, .int .u8 0, .int .u8 0, .int .u8 0, .int .u8 0, .int .u8 0, .int .u8 0, .int .u8 0, .int .u8 0, .int .u8 0, .int .u8 0, .int .u8 0, .int .u8 0, .int .u8 0, .int .u8 0, .int .u8 0, .int .u8 0, .int .u8 0, .int .u8 0, .int .u8 0, .int .u8 0, .int .u8 0, .int .u8 0, .int .u8 0, .int .u8 0, .int .u8 0, .int .u8 0, .int .u8 0, .int .u8 0, .int .u8 0, .int .u8 0, .int .u8 0, .int .u8 0, .int .u8 0, .int .u8 0, .int .u8 0, .int .u8 0, .int .u8 0, .int .u8 0, .int .u8 0, .int .u8 0, .int .u8 0, .int .u8 0, .int .u8 0, .int .u8 0, .int .u8 0] t)) b .u8 64 (fun _ => 0) := Has.new w .u8 64 (fun _ => 0) t b hb
theorem ixS (b i : Nat) (hi : i < 8) (w : World) {o : Oper} {a : Act} (x y : Operand) (ho : o.op = .indexAddr 38 x y) (hx : a.eval x = .pointer (some ⟨b, 0, none⟩)) (hy : a.eval y = .int .i64 (i : Int)) :
    (execOp a.eval o).run Tryd.prog w = .ok (.value (.pointer (some ⟨b, i, none⟩))) w := by
  have h := idxArr (P := Tryd.prog) 38 36 8 .i64 b 0 i x y Tryd.underlying38 (fun _ => by kernel_rfl) hi ho hx hy w
  rw [Nat.zero_add] at h
  exact h
theorem ixW (b i : Nat) (hi : i < 16) (w : World) {o : Oper} {a : Act} (x y : Operand) (ho : o.op = .indexAddr 49 x y) (hx : a.eval x = .pointer (some ⟨b, 0, none⟩)) (hy : a.eval y = .int .i64 (i : Int)) :
    (execOp a.eval o).run Tryd.prog w = .ok (.value (.pointer (some ⟨b, i, none⟩))) w := by
  have h := idxArr (P := Tryd.prog) 49 36 16 .i64 b 0 i x y Tryd.underlying49 (fun _ => by kernel_rfl) hi ho hx hy w
  rw [Nat.zero_add] at h
  exact h
theorem ixWb (b i : Nat) (hi : i < 16) (w : World) {o : Oper} {a : Act} (x y : Operand) (ho : o.op = .indexAddr 49 x y) (hx : a.eval x = .pointer (some ⟨b, 0, none⟩)) (hy : a.eval y = .int .u8 (i : Int)) :
    (execOp a.eval o).run Tryd.prog w = .ok (.value (.pointer (some ⟨b, i, none⟩))) w := by
  have h := idxArr (P := Tryd.prog) 49 36 16 .u8 b 0 i x y Tryd.underlying49 (fun _ => by kernel_rfl) hi ho hx hy w
  rw [Nat.zero_add] at h
  exact h
theorem ixV (b i : Nat) (hi : i < 8) (w : World) {o : Oper} {a : Act} (x y : Operand) (ho : o.op = .indexAddr 37 x y) (hx : a.eval x = .pointer (some ⟨b, 0, none⟩)) (hy : a.eval y = .int .i64 (i : Int)) :
    (execOp a.eval o).run Tryd.prog w = .ok (.value (.pointer (some ⟨b, i, none⟩))) w := by
  have h := idxArr (P := Tryd.prog) 37 36 8 .i64 b 0 i x y Tryd.underlying37 (fun _ => by kernel_rfl) hi ho hx hy w
  rw [Nat.zero_add] at h
  exact h
theorem bcut_64 (b k : Nat) (hk : k < 16) (w : World) : (Instr.sliceAt 64 (.pointer (some ⟨b, 0, none⟩)) (some (.int .i64 (4 * (k : Int)))) none none).run Tryd.prog w = .ok (.slice (some ⟨b, 4 * k, none⟩) (64 - 4 * k) (64 - 4 * k)) w := by
  have hl : Tryd.prog.arrayLen 64 = 64 := by kernel_rfl
  have hs : ∀ w, (sizeOf (Tryd.prog.elem 64)).run Tryd.prog w = .ok 1 w := fun w => by kernel_rfl
  rw [run_sliceAt_array_l w 64 ⟨b, 0, none⟩ (by kernel_rfl) .i64 _ (by omega) (by rw [hl]; omega), hs, hl]
  simp only [Result.andThen, slicedAt]
  have e1 : (4 * (k : Int)).toNat = 4 * k := by omega
  rw [e1, if_neg (by omega), Addr.add_mid, Nat.zero_add, Nat.mul_one]
theorem bcut_key (b k : Nat) (hk : k < 8) (w : World) : (Instr.sliceAt 29 (.pointer (some ⟨b, 0, none⟩)) (some (.int .i64 (4 * (k : Int)))) none none).run Tryd.prog w = .ok (.slice (some ⟨b, 4 * k, none⟩) (32 - 4 * k) (32 - 4 * k)) w := by
  have hl : Tryd.prog.arrayLen 29 = 32 := by kernel_rfl
  have hs : ∀ w, (sizeOf (Tryd.prog.elem 29)).run Tryd.prog w = .ok 1 w := fun w => by kernel_rfl
  rw [run_sliceAt_array_l w 29 ⟨b, 0, none⟩ (by kernel_rfl) .i64 _ (by omega) (by rw [hl]; omega), hs, hl]
  simp only [Result.andThen, slicedAt]
  have e1 : (4 * (k : Int)).toNat = 4 * k := by omega
  rw [e1, if_neg (by omega), Addr.add_mid, Nat.zero_add, Nat.mul_one]
theorem hxr_assoc (a b c : Int) (ha : 0 ≤ a ∧ a < V) (hb : 0 ≤ b ∧ b < V) (hc : 0 ≤ c ∧ c < V) : hxr (hxr a b) c = hxr a (hxr b c) := by
  obtain ⟨a, rfl⟩ := Int.eq_ofNat_of_zero_le ha.1
  obtain ⟨b, rfl⟩ := Int.eq_ofNat_of_zero_le hb.1
  obtain ⟨c, rfl⟩ := Int.eq_ofNat_of_zero_le hc.1
  have a2 := ha.2
  have b2 := hb.2
  have c2 := hc.2
  simp only [V] at a2 b2 c2
  have h1 : a ^^^ b < 2 ^ 32 := Nat.xor_lt_two_pow (by omega) (by omega)
  have h2 : b ^^^ c < 2 ^ 32 := Nat.xor_lt_two_pow (by omega) (by omega)
  unfold hxr
  rw [u32_xor_nat a b (by omega) (by omega), u32_xor_nat b c (by omega) (by omega), u32_xor_nat _ c (by omega) (by omega), u32_xor_nat a _ (by omega) (by omega), Nat.xor_assoc]
set_option maxRecDepth 10000 in
set_option maxHeartbeats 8000000 in
theorem bload_any (sp : Option Addr) (len cap : Nat) (hlen : len ≤ 64) (z : Nat → Int) (hz : In 256 len z) (w : World) (hs : Src w sp len z) :
    Calls Tryd.prog 25 #[.slice sp len cap] w fun e w' => e = .returned (.agg (row .u32 16 (bpw (padz len z))).toArray) ∧ Below w.heap.size w w' := by
  have K := Kr.init w
  replace K := K.make 16 #[.int .u32 0, .int .u32 0, .int .u32 0, .int .u32 0, .int .u32 0, .int .u32 0, .int .u32 0, .int .u32 0, .int .u32 0, .int .u32 0, .int .u32 0, .int .u32 0, .int .u32 0, .int .u32 0, .int .u32 0, .int .u32 0] 49 (w.heap.size) rfl (bwd_zero _ _ _ rfl).there
  replace K := K.boxO .u8 64 (fun _ => 0) (.cells #[.int .u8 0, .int .u8 0, .int .u8 0, .int .u8 0, .int .u8 0, .int .u8 0, .int .u8 0, .int .u8 0, .int .u8 0, .int .u8 0, .int .u8 0, .int .u8 0, .int .u8 0, .int .u8 0, .int .u8 0, .int .u8 0, .int .u8 0, .int .u8 0, .int .u8 0, .int .u8 0, .int .u8 0, .int .u8 0, .int .u8 0, .int .u8 0, .int .u8 0, .int .u8 0, .int .u8 0, .int .u8 0, .int .u8 0, .int .u8 0, .int .u8 0, .int .u8 0, .int .u8 0, .int .u8 0, .int .u8 0, .int .u8 0, .int .u8 0, .int .u8 0, .int .u8 0, .int .u8 0, .int .u8 0, .int .u8 0, .int .u8 0, .int .u8 0, .int .u8 0, .int .u8 0, .int .u8 0, .int .u8 0, .int .u8 0, .int .u8 0, .int .u8 0, .int .u8 0, .int .u8 0, .int .u8 0, .int .u8 0, .int .u8 0, .int .u8 0, .int .u8 0, .int .u8 0, .int .u8 0, .int .u8 0, .int .u8 0, .int .u8 0, .int .u8 0] 64) (w.heap.size + 1) (by simp) (bpc_zero _ _ _ (by simp))
  go_enter Tryd.func25, Tryd.ntmps25
  go_upto_region 2 with fail
  generalize ((w.alloc (.cells #[.int .u32 0, .int .u32 0, .int .u32 0, .int .u32 0, .int .u32 0, .int .u32 0, .int .u32 0, .int .u32 0, .int .u32 0, .int .u32 0, .int .u32 0, .int .u32 0, .int .u32 0, .int .u32 0, .int .u32 0, .int .u32 0] 49)).alloc (.cells #[.int .u8 0, .int .u8 0, .int .u8 0, .int .u8 0, .int .u8 0, .int .u8 0, .int .u8 0, .int .u8 0, .int .u8 0, .int .u8 0, .int .u8 0, .int .u8 0, .int .u8 0, .int .u8 0, .int .u8 0, .int .u8 0, .int .u8 0, .int .u8 0, .int .u8 0, .int .u8 0, .int .u8 0, .int .u8 0, .int .u8 0, .int .u8 0, .int .u8 0, .int .u8 0, .int .u8 0, .int .u8 0, .int .u8 0, .int .u8 0, .int .u8 0, .int .u8 0, .int .u8 0, .int .u8 0, .int .u8 0, .int .u8 0, .int .u8 0, .int .u8 0, .int .u8 0, .int .u8 0, .int .u8 0, .int .u8 0, .int .u8 0, .int .u8 0, .int .u8 0, .int .u8 0, .int .u8 0, .int .u8 0, .int .u8 0, .int .u8 0, .int .u8 0, .int .u8 0, .int .u8 0, .int .u8 0, .int .u8 0, .int .u8 0, .int .u8 0, .int .u8 0, .int .u8 0, .int .u8 0, .int .u8 0, .int .u8 0, .int .u8 0, .int .u8 0] 64)) = w0 at K ⊢
  have HR := K.get _ _ _ _ List.mem_cons_self
  replace K := K.loose [] (w.heap.size + 1) .u8 64 (fun _ => 0) List.mem_cons_self (fun _ hp => by cases hp) (fun _ hp => by cases hp) (by omega)
  refine wp_region_list ?_
  refine pureL (.slice (some ⟨w.heap.size + 1, 0, none⟩) 64 64) rfl (fun _ => by kernel_rfl) ?_
  simp only [Act.put, List.setIfInBounds_toArray, List.set_cons_zero, List.set_cons_succ]
  refine pureL (.slice sp len cap) rfl (fun _ => by kernel_rfl) ?_
  simp only [Act.put, List.setIfInBounds_toArray, List.set_cons_zero, List.set_cons_succ]
  refine actL (.int .i64 (len : Int)) rfl (run_copy_src _ _ 22 22 5 rfl Tryd.underlying22 (by kernel_rfl) (w.heap.size + 1) 64 64 len cap 64 sp z rfl rfl hlen hlen HR.there (hs.below K.below (Nat.le_refl _))) ?_
  simp only [Act.put, List.setIfInBounds_toArray, List.set_cons_zero, List.set_cons_succ]
  replace K := K.fill (w.heap.size + 1) 64 List.mem_cons_self (row .u8 len z)
  replace HR := (HR.part 0 len (by omega) z).congr (g := padz len z) (fun j hj => by
    unfold over padz
    by_cases e : j < len
    · rw [if_pos (by omega), if_pos e, Nat.sub_zero]
    · rw [if_neg (by omega), if_neg e])
  replace K := K.settle [(w.heap.size, 16)] (w.heap.size + 1) .u8 64 (padz len z) List.mem_cons_self (fun q hq => List.mem_cons_of_mem _ hq) (fun q hq => by obtain rfl := List.mem_singleton.1 hq; simp only; omega) HR
  generalize w0.setCells (w.heap.size + 1) 0 (row .u8 len z) = w1 at K ⊢
  clear HR w0 hs
  show Exit.then _ _ _ _ _
  go_upto_region 3 with fail
  have zX := K.size
  replace K := K.boxO .u32 16 (fun _ => 0) (.cells #[.int .u32 0, .int .u32 0, .int .u32 0, .int .u32 0, .int .u32 0, .int .u32 0, .int .u32 0, .int .u32 0, .int .u32 0, .int .u32 0, .int .u32 0, .int .u32 0, .int .u32 0, .int .u32 0, .int .u32 0, .int .u32 0] 49) w1.heap.size rfl (bwd_zero _ _ _ rfl)
  go_upto_region 4 with fail
  generalize hw : w1.alloc (.cells #[.int .u32 0, .int .u32 0, .int .u32 0, .int .u32 0, .int .u32 0, .int .u32 0, .int .u32 0, .int .u32 0, .int .u32 0, .int .u32 0, .int .u32 0, .int .u32 0, .int .u32 0, .int .u32 0, .int .u32 0, .int .u32 0] 49) = w2 at K ⊢
  clear hw
  generalize w1.heap.size = X at *
  have hp := padz_in len z hz 64
  generalize hpp : padz len z = p at *
  go_wp2
  go_loopw [9] (fun i w' => ∃ (n : Nat) (f : Nat → Int), n ≤ 16 ∧ i = .int .i64 n ∧ Kr w (X + 1) [(X, .u32, 16, f), (w.heap.size + 1, .u8, 64, p)] [(w.heap.size, 16)] w' ∧ ∀ j, j < n → f j = bpw p j) (fun i _ => 16 - (intOf i).toNat)
  case atStart => exact ⟨0, _, by omega, rfl, K, fun j hj => by omega⟩
  case round =>
    clear K
    obtain ⟨n, f, hn, rfl, K, hd⟩ := hrel
    have g1 : (0 : Int) ≤ (n : Int) := by omega
    by_cases hlt : n < 16
    · have g2 : (n : Int) < 16 := by omega
      go_upto_region 7 with fail
      refine wp_region_list ?_
      refine pureL (.int .i64 (n : Int)) rfl (fun _ => by kernel_rfl) ?_
      simp only [Act.put, List.setIfInBounds_toArray, List.set_cons_zero, List.set_cons_succ]
      refine pureL (.int .i64 (n : Int)) rfl (fun _ => by kernel_rfl) ?_
      simp only [Act.put, List.setIfInBounds_toArray, List.set_cons_zero, List.set_cons_succ]
      refine pureL (.int .i64 (4 * (n : Int))) rfl (fun w => mulI .i64 4 (n : Int) _ _ _ _ _ rfl rfl rfl (by rw [IntKind.wrap_i64]; omega) w) ?_
      simp only [Act.put, List.setIfInBounds_toArray, List.set_cons_zero, List.set_cons_succ]
      refine pureL (.slice (some ⟨w.heap.size + 1, 4 * n, none⟩) (64 - 4 * n) (64 - 4 * n)) rfl (fun w' => cutOp _ _ _ _ _ _ rfl rfl rfl (bcut_64 (w.heap.size + 1) n hlt w')) ?_
      simp only [Act.put, List.setIfInBounds_toArray, List.set_cons_zero, List.set_cons_succ]
      refine callL rfl (fun _ => by kernel_rfl) (of32_any (w.heap.size + 1) (4 * n) 64 (64 - 4 * n) (64 - 4 * n) p (by omega) (by omega) hp _ (K.get _ _ _ _ (List.mem_cons_of_mem _ List.mem_cons_self))) ?_
      rintro e w3 ⟨q, rfl, rfl⟩
      replace K := K.drewN (q := q)
      refine ⟨_, rfl, ?_⟩
      simp only [Act.put, List.setIfInBounds_toArray, List.set_cons_zero, List.set_cons_succ]
      refine pureL (.pointer (some ⟨X, n, none⟩)) rfl (fun w' => ixW X n hlt w' _ _ rfl rfl rfl) ?_
      simp only [Act.put, List.setIfInBounds_toArray, List.set_cons_zero, List.set_cons_succ]
      refine storeL .u32 (w32 p (4 * n)) X n 36 _ _ rfl rfl rfl rfl (by rw [(K.get _ _ _ _ List.mem_cons_self).cell n hlt]; rfl) ((K.get _ _ _ _ List.mem_cons_self).free n hlt) (by kernel_rfl) ?_
      simp only [Act.put]
      replace K := K.setCell [(w.heap.size + 1, .u8, 64, p)] X .u32 16 f n hlt (w32 p (4 * n)) List.mem_cons_self (fun p hp => by obtain rfl := List.mem_singleton.1 hp; exact (List.mem_cons_of_mem _ List.mem_cons_self)) (fun p hp => by obtain rfl := List.mem_singleton.1 hp; simp only; omega) (by omega)
      have HS := show Hid _ from (And.intro K (show ∀ j, j < n + 1 → upd f n (w32 p (4 * n)) j = bpw p j from fun j hj => by
        by_cases e : j = n
        · subst e; rw [upd_same]; rfl
        · rw [upd_other _ _ _ _ e]; exact hd j (by omega)))
      clear K hd
      generalize (wr.drewN q).setCell ⟨X, n, none⟩ (.int .u32 (w32 p (4 * n))) = w4 at HS ⊢
      generalize upd f n (w32 p (4 * n)) = f' at HS
      show Exit.inBlock _ _ _ _ _
      go_wp2
      go_roundw
      case rel => first | exact ⟨n + 1, f', by omega, by go_num, HS.out⟩ | ((repeat apply Exists.intro); refine ⟨⟨n + 1, f', by omega, by go_num, HS.out⟩, rfl⟩)
      case measure => simp [intOf]; omega
    · obtain rfl : n = 16 := by omega
      have HR := (K.get _ _ _ _ List.mem_cons_self).congr (g := bpw p) (fun j hj => hd j hj)
      have hz' := (K.room _ List.mem_cons_self).1
      have hB := (K.fill _ _ List.mem_cons_self (row .u32 16 (bpw p))).below
      clear K hd hlt hn g1
      generalize hf : bpw p = g at *
      go_wp2_with (first | (refine wpList_load_mid rfl 49 _ rfl (X) 0 rfl (row .u32 16 (g)) _ (Has.range (HR)) Tryd.underlying49 rfl (bwd_info _) ?_) | (refine wpList_store_mid rfl 49 _ _ rfl (w.heap.size) 0 (row .u32 16 g).toArray rfl rfl (room_of hz') (bwd_info' _) (all_oneCell_toArray (row_one _ _ _)) ?_))
      exact bodyPost_ret (v := (.agg (row .u32 16 (g)).toArray)) (results_row Tryd.results25 rfl (Has.all hz' .u32 g).range Tryd.underlying49 rfl (bwd_info g)) rfl ⟨by rw [← hf, ← hpp], hB⟩

set_option maxRecDepth 10000 in
set_option maxHeartbeats 8000000 in
theorem bbegin_any (kl size : Nat) (hk : kl ≤ 32) (hz : size ≤ 32) (w : World) (hg : BGlob w) :
    Calls Tryd.prog 17 #[.int .i64 (kl : Int), .int .i64 (size : Int)] w fun e w' => e = .returned (.agg (row .u32 8 (bh0 kl size)).toArray) ∧ Below w.heap.size w w' := by
  have K := Kr.init w
  replace K := K.make 8 #[.int .u32 0, .int .u32 0, .int .u32 0, .int .u32 0, .int .u32 0, .int .u32 0, .int .u32 0, .int .u32 0] 38 (w.heap.size) rfl (bst_zero _ _ _ rfl).there
  replace K := K.boxO .u32 8 (fun _ => 0) (.cells #[.int .u32 0, .int .u32 0, .int .u32 0, .int .u32 0, .int .u32 0, .int .u32 0, .int .u32 0, .int .u32 0] 38) (w.heap.size + 1) (by simp) (bst_zero _ _ _ (by simp))
  go_enter Tryd.func17, Tryd.ntmps17
  go_upto_region 2 with fail
  generalize ((w.alloc (.cells #[.int .u32 0, .int .u32 0, .int .u32 0, .int .u32 0, .int .u32 0, .int .u32 0, .int .u32 0, .int .u32 0] 38)).alloc (.cells #[.int .u32 0, .int .u32 0, .int .u32 0, .int .u32 0, .int .u32 0, .int .u32 0, .int .u32 0, .int .u32 0] 38)) = w0 at K ⊢
  go_wp2
  go_loopw [7] (fun i w' => ∃ (n : Nat) (f : Nat → Int), n ≤ 8 ∧ i = .int .i64 n ∧ Kr w (w.heap.size + 1 + 1) [(w.heap.size + 1, .u32, 8, f)] [(w.heap.size, 8)] w' ∧ ∀ j, j < n → f j = iv j) (fun i _ => 8 - (intOf i).toNat)
  case atStart => exact ⟨0, _, by omega, rfl, K, fun j hj => by omega⟩
  case round =>
    clear K
    obtain ⟨n, f, hn, rfl, K, hd⟩ := hrel
    have g1 : (0 : Int) ≤ (n : Int) := by omega
    by_cases hlt : n < 8
    · have g2 : (n : Int) < 8 := by omega
      go_upto_region 5 with fail
      refine wp_region_list ?_
      refine pureL (.int .i64 (n : Int)) rfl (fun _ => by kernel_rfl) ?_
      simp only [Act.put, List.setIfInBounds_toArray, List.set_cons_zero, List.set_cons_succ]
      refine pureL (.int .i64 (n : Int)) rfl (fun _ => by kernel_rfl) ?_
      simp only [Act.put, List.setIfInBounds_toArray, List.set_cons_zero, List.set_cons_succ]
      refine pureL (.pointer (some ⟨0, n, none⟩)) rfl (fun w' => ixV 0 n hlt w' _ _ rfl rfl rfl) ?_
      simp only [Act.put, List.setIfInBounds_toArray, List.set_cons_zero, List.set_cons_succ]
      refine cellL .u32 (.int .u32 (iv n)) 0 n 36 _ rfl rfl rfl Tryd.underlying36 ((hg.below K.below hg.size).first n hlt) ?_
      simp only [Act.put, List.setIfInBounds_toArray, List.set_cons_zero, List.set_cons_succ]
      refine pureL (.pointer (some ⟨w.heap.size + 1, n, none⟩)) rfl (fun w' => ixS (w.heap.size + 1) n hlt w' _ _ rfl rfl rfl) ?_
      simp only [Act.put, List.setIfInBounds_toArray, List.set_cons_zero, List.set_cons_succ]
      refine storeL .u32 (iv n) (w.heap.size + 1) n 36 _ _ rfl rfl rfl rfl (by rw [(K.get _ _ _ _ List.mem_cons_self).cell n hlt]; rfl) ((K.get _ _ _ _ List.mem_cons_self).free n hlt) (by kernel_rfl) ?_
      simp only [Act.put]
      replace K := K.setCell [] (w.heap.size + 1) .u32 8 f n hlt (iv n) List.mem_cons_self (fun _ hp => by cases hp) (fun _ hp => by cases hp) (by omega)
      have HS := show Hid _ from (And.intro K (show ∀ j, j < n + 1 → upd f n (iv n) j = iv j from fun j hj => by
        by_cases e : j = n
        · subst e; rw [upd_same]
        · rw [upd_other _ _ _ _ e]; exact hd j (by omega)))
      clear K hd
      generalize wr.setCell ⟨w.heap.size + 1, n, none⟩ (.int .u32 (iv n)) = w4 at HS ⊢
      generalize upd f n (iv n) = f' at HS
      show Exit.inBlock _ _ _ _ _
      go_wp2
      go_roundw
      case rel => first | exact ⟨n + 1, f', by omega, by go_num, HS.out⟩ | ((repeat apply Exists.intro); refine ⟨⟨n + 1, f', by omega, by go_num, HS.out⟩, rfl⟩)
      case measure => simp [intOf]; omega
    · obtain rfl : n = 8 := by omega
      have i0 := iv_in 0 (by omega)
      have i1 : 0 ≤ (16842752 : Int) ∧ (16842752 : Int) < V := by decide
      have i2 : 0 ≤ 256 * (kl : Int) ∧ 256 * (kl : Int) < V := by simp only [V]; omega
      have i3 : 0 ≤ (size : Int) ∧ (size : Int) < V := by simp only [V]; omega
      have HX : hxr (f 0) (hxr (hxr 16842752 (256 * (kl : Int))) (size : Int)) = hxr (hxr (hxr (iv 0) 16842752) (256 * (kl : Int))) (size : Int) := by
        rw [hd 0 (by omega), hxr_assoc (hxr (iv 0) 16842752) _ _ (hxr_in _ _ i0 i1) i2 i3, hxr_assoc (iv 0) _ _ i0 i1 (hxr_in _ _ i2 i3), hxr_assoc 16842752 _ _ i1 i2 i3]
      go_upto_region 7 with fail
      refine wp_region_list ?_
      refine pureL (.pointer (some ⟨w.heap.size + 1, 0, none⟩)) rfl (fun w' => ixS (w.heap.size + 1) 0 (by decide) w' _ _ rfl rfl rfl) ?_
      simp only [Act.put, List.setIfInBounds_toArray, List.set_cons_zero, List.set_cons_succ]
      refine cellL .u32 (.int .u32 (f 0)) (w.heap.size + 1) 0 36 _ rfl rfl rfl Tryd.underlying36 ((K.get _ _ _ _ List.mem_cons_self).cell 0 (by decide)) ?_
      simp only [Act.put, List.setIfInBounds_toArray, List.set_cons_zero, List.set_cons_succ]
      refine pureL (.int .i64 (kl : Int)) rfl (fun _ => by kernel_rfl) ?_
      simp only [Act.put, List.setIfInBounds_toArray, List.set_cons_zero, List.set_cons_succ]
      refine pureL (.int .u32 (kl : Int)) rfl (fun w => convI .i64 .u32 _ _ _ _ _ rfl (by kernel_rfl) Tryd.underlying36 (by kernel_rfl) rfl (by rw [IntKind.wrap_u32']; omega) w) ?_
      simp only [Act.put, List.setIfInBounds_toArray, List.set_cons_zero, List.set_cons_succ]
      refine pureL (.int .u32 (256 * (kl : Int))) rfl (fun w => shlI .u32 .u64 _ 8 _ _ _ _ _ rfl rfl rfl (by decide) (by rw [IntKind.wrap_u32', show (2 : Int) ^ min (8 : Int).toNat IntKind.u32.bits = 256 from by decide]; omega) w) ?_
      simp only [Act.put, List.setIfInBounds_toArray, List.set_cons_zero, List.set_cons_succ]
      refine pureL (.int .u32 (hxr 16842752 (256 * (kl : Int)))) rfl (fun w => xorI .u32 _ _ _ _ _ _ _ rfl rfl rfl rfl w) ?_
      simp only [Act.put, List.setIfInBounds_toArray, List.set_cons_zero, List.set_cons_succ]
      refine pureL (.int .i64 (size : Int)) rfl (fun _ => by kernel_rfl) ?_
      simp only [Act.put, List.setIfInBounds_toArray, List.set_cons_zero, List.set_cons_succ]
      refine pureL (.int .u32 (size : Int)) rfl (fun w => convI .i64 .u32 _ _ _ _ _ rfl (by kernel_rfl) Tryd.underlying36 (by kernel_rfl) rfl (by rw [IntKind.wrap_u32']; omega) w) ?_
      simp only [Act.put, List.setIfInBounds_toArray, List.set_cons_zero, List.set_cons_succ]
      refine pureL (.int .u32 (hxr (hxr 16842752 (256 * (kl : Int))) (size : Int))) rfl (fun w => xorI .u32 _ _ _ _ _ _ _ rfl rfl rfl rfl w) ?_
      simp only [Act.put, List.setIfInBounds_toArray, List.set_cons_zero, List.set_cons_succ]
      refine pureL (.int .u32 (hxr (hxr (hxr (iv 0) 16842752) (256 * (kl : Int))) (size : Int))) rfl (fun w => xorI .u32 _ _ _ _ _ _ _ rfl rfl rfl HX w) ?_
      simp only [Act.put, List.setIfInBounds_toArray, List.set_cons_zero, List.set_cons_succ]
      refine pureL (.pointer (some ⟨w.heap.size + 1, 0, none⟩)) rfl (fun w' => ixS (w.heap.size + 1) 0 (by decide) w' _ _ rfl rfl rfl) ?_
      simp only [Act.put, List.setIfInBounds_toArray, List.set_cons_zero, List.set_cons_succ]
      refine storeL .u32 (hxr (hxr (hxr (iv 0) 16842752) (256 * (kl : Int))) (size : Int)) (w.heap.size + 1) 0 36 _ _ rfl rfl rfl rfl (by rw [(K.get _ _ _ _ List.mem_cons_self).cell 0 (by decide)]; rfl) ((K.get _ _ _ _ List.mem_cons_self).free 0 (by decide)) (by kernel_rfl) ?_
      simp only [Act.put]
      replace K := K.setCell [] (w.heap.size + 1) .u32 8 f 0 (by decide) (hxr (hxr (hxr (iv 0) 16842752) (256 * (kl : Int))) (size : Int)) List.mem_cons_self (fun _ hp => by cases hp) (fun _ hp => by cases hp) (by omega)
      have HR := (K.get _ _ _ _ List.mem_cons_self).congr (g := bh0 kl size) (fun j hj => by
        unfold bh0
        by_cases e : j = 0
        · subst e; rw [upd_same, upd_same]
        · rw [upd_other _ _ _ _ e, upd_other _ _ _ _ e]; exact hd j hj)
      generalize wr.setCell ⟨w.heap.size + 1, 0, none⟩ (.int .u32 (hxr (hxr (hxr (iv 0) 16842752) (256 * (kl : Int))) (size : Int))) = w5 at K HR ⊢
      have hz' := (K.room _ List.mem_cons_self).1
      have hB := (K.fill _ _ List.mem_cons_self (row .u32 8 (bh0 kl size))).below
      clear K hd hlt hn g1 HX
      generalize hf : bh0 kl size = g at *
      show Exit.then _ _ _ _ _
      go_wp2_with (first | (refine wpList_load_mid rfl 38 _ rfl (w.heap.size + 1) 0 rfl (row .u32 8 (g)) _ (Has.range (HR)) Tryd.underlying38 rfl (bst_info _) ?_) | (refine wpList_store_mid rfl 38 _ _ rfl (w.heap.size) 0 (row .u32 8 g).toArray rfl rfl (room_of hz') (bst_info' _) (all_oneCell_toArray (row_one _ _ _)) ?_))
      exact bodyPost_ret (v := (.agg (row .u32 8 (g)).toArray)) (results_row Tryd.results17 rfl (Has.all hz' .u32 g).range Tryd.underlying38 rfl (bst_info g)) rfl ⟨rfl, hB⟩

theorem bout_over {h : Nat → Int} {n : Nat} {g : Nat → Int} (hd : ∀ j, j < 4 * n → g j = bout h j) (j : Nat) (hj : j < 4 * (n + 1)) : over g (4 * n) 4 (b32 (h n)) j = bout h j := by
  unfold over
  by_cases e : 4 * n ≤ j ∧ j < 4 * n + 4
  · rw [if_pos e]
    unfold bout
    rw [show j / 4 = n by omega, show j % 4 = j - 4 * n by omega]
  · rw [if_neg e]; exact hd j (by omega)
set_option maxRecDepth 10000 in
set_option maxHeartbeats 8000000 in
theorem bbytes_any (h : Nat → Int) (w : World) :
    Calls Tryd.prog 18 #[(.agg (row .u32 8 (h)).toArray)] w fun e w' => e = .returned (.agg (row .u8 32 (bout h)).toArray) ∧ Below w.heap.size w w' := by
  have K := Kr.init w
  replace K := K.box .u32 8 h 38 (w.heap.size) rfl
  replace K := K.make 32 #[.int .u8 0, .int .u8 0, .int .u8 0, .int .u8 0, .int .u8 0, .int .u8 0, .int .u8 0, .int .u8 0, .int .u8 0, .int .u8 0, .int .u8 0, .int .u8 0, .int .u8 0, .int .u8 0, .int .u8 0, .int .u8 0, .int .u8 0, .int .u8 0, .int .u8 0, .int .u8 0, .int .u8 0, .int .u8 0, .int .u8 0, .int .u8 0, .int .u8 0, .int .u8 0, .int .u8 0, .int .u8 0, .int .u8 0, .int .u8 0, .int .u8 0, .int .u8 0] 29 (w.heap.size + 1) (by simp) (key_zero _ _ _ (by simp)).there
  replace K := K.make 32 #[.int .u8 0, .int .u8 0, .int .u8 0, .int .u8 0, .int .u8 0, .int .u8 0, .int .u8 0, .int .u8 0, .int .u8 0, .int .u8 0, .int .u8 0, .int .u8 0, .int .u8 0, .int .u8 0, .int .u8 0, .int .u8 0, .int .u8 0, .int .u8 0, .int .u8 0, .int .u8 0, .int .u8 0, .int .u8 0, .int .u8 0, .int .u8 0, .int .u8 0, .int .u8 0, .int .u8 0, .int .u8 0, .int .u8 0, .int .u8 0, .int .u8 0, .int .u8 0] 29 (w.heap.size + 1 + 1) (by simp) (key_zero _ _ _ (by simp)).there
  have H := key_zero ((w.alloc (.cells (row .u32 8 h).toArray 38)).alloc (.cells #[.int .u8 0, .int .u8 0, .int .u8 0, .int .u8 0, .int .u8 0, .int .u8 0, .int .u8 0, .int .u8 0, .int .u8 0, .int .u8 0, .int .u8 0, .int .u8 0, .int .u8 0, .int .u8 0, .int .u8 0, .int .u8 0, .int .u8 0, .int .u8 0, .int .u8 0, .int .u8 0, .int .u8 0, .int .u8 0, .int .u8 0, .int .u8 0, .int .u8 0, .int .u8 0, .int .u8 0, .int .u8 0, .int .u8 0, .int .u8 0, .int .u8 0, .int .u8 0] 29)) 29 (w.heap.size + 1 + 1) (by simp)
  go_enter Tryd.func18, Tryd.ntmps18
  go_upto_region 2 with fail
  generalize (((w.alloc (.cells (row .u32 8 h).toArray 38)).alloc (.cells #[.int .u8 0, .int .u8 0, .int .u8 0, .int .u8 0, .int .u8 0, .int .u8 0, .int .u8 0, .int .u8 0, .int .u8 0, .int .u8 0, .int .u8 0, .int .u8 0, .int .u8 0, .int .u8 0, .int .u8 0, .int .u8 0, .int .u8 0, .int .u8 0, .int .u8 0, .int .u8 0, .int .u8 0, .int .u8 0, .int .u8 0, .int .u8 0, .int .u8 0, .int .u8 0, .int .u8 0, .int .u8 0, .int .u8 0, .int .u8 0, .int .u8 0, .int .u8 0] 29)).alloc (.cells #[.int .u8 0, .int .u8 0, .int .u8 0, .int .u8 0, .int .u8 0, .int .u8 0, .int .u8 0, .int .u8 0, .int .u8 0, .int .u8 0, .int .u8 0, .int .u8 0, .int .u8 0, .int .u8 0, .int .u8 0, .int .u8 0, .int .u8 0, .int .u8 0, .int .u8 0, .int .u8 0, .int .u8 0, .int .u8 0, .int .u8 0, .int .u8 0, .int .u8 0, .int .u8 0, .int .u8 0, .int .u8 0, .int .u8 0, .int .u8 0, .int .u8 0, .int .u8 0] 29)) = w0 at K H ⊢
  go_wp2
  go_loopw [5] (fun i w' => ∃ (n : Nat) (g : Nat → Int), n ≤ 8 ∧ i = .int .i64 n ∧ Kr w (w.heap.size + 1 + 1 + 1) [(w.heap.size, .u32, 8, h)] [(w.heap.size + 1 + 1, 32), (w.heap.size + 1, 32)] w' ∧ Has w' (w.heap.size + 1 + 1) .u8 32 g ∧ ∀ j, j < 4 * n → g j = bout h j) (fun i _ => 8 - (intOf i).toNat)
  case atStart => exact ⟨0, _, by omega, rfl, K, H, fun j hj => by omega⟩
  case round =>
    clear K H
    obtain ⟨n, g, hn, rfl, K, H, hd⟩ := hrel
    have g1 : (0 : Int) ≤ (n : Int) := by omega
    by_cases hlt : n < 8
    · have g2 : (n : Int) < 8 := by omega
      have HD := show Hid _ from fun j hj => bout_over hd j hj
      clear hd
      go_upto_region 5 with fail
      refine wp_region_held_drew (S := fun w' => Kr w (w.heap.size + 1 + 1 + 1) [(w.heap.size, .u32, 8, h)] [(w.heap.size + 1 + 1, 32), (w.heap.size + 1, 32)] w') (by kernel_rfl) K.drew ?_
      clear K
      intro K
      replace H := H.drew
      refine pureH (i := 0) (some 8) rfl (.int .i64 (n : Int)) rfl rfl (fun _ => by kernel_rfl) (by kernel_rfl) (by kernel_rfl) (by kernel_rfl) (fun _ _ _ h => h) K ?_
      simp only [Act.put, List.setIfInBounds_toArray, List.set_cons_zero, List.set_cons_succ]
      refine pureH (i := 1) (some 9) rfl (.int .i64 (4 * (n : Int))) rfl rfl (fun w => mulI .i64 4 (n : Int) _ _ _ _ _ rfl rfl rfl (by rw [IntKind.wrap_i64]; omega) w) (by kernel_rfl) (by kernel_rfl) (by kernel_rfl) (fun _ _ _ h => h) K ?_
      simp only [Act.put, List.setIfInBounds_toArray, List.set_cons_zero, List.set_cons_succ]
      refine pureH (i := 2) (some 10) rfl (.slice (some ⟨w.heap.size + 1 + 1, 4 * n, none⟩) (32 - 4 * n) (32 - 4 * n)) rfl rfl (fun w' => cutOp _ _ _ _ _ _ rfl rfl rfl (bcut_key (w.heap.size + 1 + 1) n hlt w')) (by kernel_rfl) (by kernel_rfl) (by kernel_rfl) (fun _ _ _ h => h) K ?_
      simp only [Act.put, List.setIfInBounds_toArray, List.set_cons_zero, List.set_cons_succ]
      refine pureH (i := 3) (some 11) rfl (.int .i64 (n : Int)) rfl rfl (fun _ => by kernel_rfl) (by kernel_rfl) (by kernel_rfl) (by kernel_rfl) (fun _ _ _ h => h) K ?_
      simp only [Act.put, List.setIfInBounds_toArray, List.set_cons_zero, List.set_cons_succ]
      refine pureH (i := 4) (some 12) rfl (.pointer (some ⟨w.heap.size, n, none⟩)) rfl rfl (fun w' => ixS (w.heap.size) n hlt w' _ _ rfl rfl rfl) (by kernel_rfl) (by kernel_rfl) (by kernel_rfl) (fun _ _ _ h => h) K ?_
      simp only [Act.put, List.setIfInBounds_toArray, List.set_cons_zero, List.set_cons_succ]
      refine cellH (i := 5) (some 13) rfl .u32 (.int .u32 (h n)) (w.heap.size) n 36 _ rfl rfl rfl rfl (by kernel_rfl) (by kernel_rfl) (by kernel_rfl) (fun _ _ _ h => h) Tryd.underlying36 K (fun _ h => (h.get _ _ _ _ List.mem_cons_self).cell n hlt) ?_
      simp only [Act.put, List.setIfInBounds_toArray, List.set_cons_zero, List.set_cons_succ]
      refine callH (i := 6) (some 14) rfl (by kernel_rfl) rfl rfl (fun _ => by kernel_rfl) (put32_any (w.heap.size + 1 + 1) (4 * n) 32 (32 - 4 * n) (32 - 4 * n) (by omega) g (h n) (by omega) _ H) ?_
      rintro e w' ⟨rfl, rfl⟩
      replace K := K.poke (w.heap.size + 1 + 1) 32 List.mem_cons_self (4 * n) (row .u8 4 (b32 (h n)))
      replace H := H.part (4 * n) 4 (by omega) (b32 (h n))
      refine ⟨_, rfl, K, ?_⟩
      simp only [Act.put, List.setIfInBounds_toArray, List.set_cons_zero, List.set_cons_succ]
      refine wpAnyH_done (by kernel_rfl) ?_ _
      have HS := show Hid _ from (And.intro K (And.intro H HD.out))
      clear K H HD
      generalize (wr.drew.setCells (w.heap.size + 1 + 1) (4 * n) (row .u8 4 (b32 (h n)))) = w6 at *
      go_wp2
      go_roundw
      case rel => first | exact ⟨n + 1, _, by omega, by go_num, HS.out⟩ | ((repeat apply Exists.intro); refine ⟨⟨n + 1, _, by omega, by go_num, HS.out⟩, rfl⟩)
      case measure => simp [intOf]; omega
    · obtain rfl : n = 8 := by omega
      have h1 := H.congr (g := bout h) (fun j hj => hd j (by omega))
      have hz := (K.room _ (List.mem_cons_of_mem _ List.mem_cons_self)).1
      have hB := (K.fill _ _ (List.mem_cons_of_mem _ List.mem_cons_self) (row .u8 32 (bout h))).below
      clear K H hd hlt hn g1
      generalize hf : bout h = f at *
      go_wp2_with (first | (refine wpList_load_mid rfl 29 _ rfl (w.heap.size + 1 + 1) 0 rfl (row .u8 32 (f)) _ (Has.range (h1)) Tryd.underlying29 rfl (key_info _) ?_) | (refine wpList_store_mid rfl 29 _ _ rfl (w.heap.size + 1) 0 (row .u8 32 f).toArray rfl rfl (room_of hz) (key_info' _) (all_oneCell_toArray (row_one _ _ _)) ?_))
      exact bodyPost_ret (v := (.agg (row .u8 32 (f)).toArray)) (results_row Tryd.results18 rfl (Has.all hz .u8 _).range Tryd.underlying29 rfl (key_info _)) rfl ⟨rfl, hB⟩
end Go.Proofs.YtmchfdfmcobenaaDoor
