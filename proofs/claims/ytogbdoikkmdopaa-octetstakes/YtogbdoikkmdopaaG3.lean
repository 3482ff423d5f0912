/- Texts of Vx Vy Vz Open9 Ub, joined. -/
import Derived.Test.YtogbdoikkmdopaaG2
import Derived.Test.YtogbdoikkmdopaaG1
import Derived.Laws.BitsAllLaws
import Derived.Lib.SliceRun
import Derived.Test.YtogbdoikkmdopaaRows
import Derived.SizedLaws
import Derived.JoinedCond
namespace Go.Proofs.Ytogbdoikkmdopaa
open Go.RowKit

theorem or_low (x d : Nat) (hd : d < 256) (hx : x * 256 < 9223372036854775808) : bits .or .i64 ((x * 256 : Nat) : Int) (d : Int) = ((x * 256 + d : Nat) : Int) := by
  have h1 : (BitVec.ofInt 64 ((x * 256 : Nat) : Int)).toNat = x * 256 := by rw [BitVec.toNat_ofInt]; omega
  have h2 : (BitVec.ofInt 64 ((d : Nat) : Int)).toNat = d := by rw [BitVec.toNat_ofInt]; omega
  have h3 : x * 256 ||| d = x * 256 + d := by
    have := Nat.two_pow_add_eq_or_of_lt (i := 8) (b := d) (by omega) x
    rw [show (2 : Nat) ^ 8 = 256 from rfl, Nat.mul_comm] at this
    exact this.symm
  show IntKind.i64.wrap ((BitVec.ofInt 64 ((x * 256 : Nat) : Int) ||| BitVec.ofInt 64 ((d : Nat) : Int)).toNat : Nat) = _
  rw [BitVec.toNat_or, h1, h2, h3, IntKind.wrap_i64]
  omega
theorem or_high (x k : Nat) (hx : x < 64) (hk : k ≤ 3) : bits .or .u8 (x : Int) ((k * 64 : Nat) : Int) = ((x + k * 64 : Nat) : Int) := by
  rw [u8_or_nat x (k * 64) (by omega) (by omega)]
  have := Nat.two_pow_add_eq_or_of_lt (i := 6) (b := x) (by omega) k
  rw [show (2 : Nat) ^ 6 = 64 from rfl, Nat.mul_comm] at this
  rw [Nat.or_comm, ← this, Nat.add_comm]
theorem i64_and63 (n : Int) : bits .and .i64 n 63 = n % 64 := by
  have h63 : (BitVec.ofInt 64 63).toNat = 2 ^ 6 - 1 := by decide
  have key : (BitVec.ofInt 64 n &&& BitVec.ofInt 64 63).toNat = (n % ((2 ^ 64 : Nat) : Int)).toNat % 2 ^ 6 := by
    rw [BitVec.toNat_and, BitVec.toNat_ofInt, h63, Nat.and_two_pow_sub_one_eq_mod]
  show IntKind.i64.wrap ((BitVec.ofInt 64 n &&& BitVec.ofInt 64 63).toNat : Nat) = n % 64
  rw [key, IntKind.wrap_i64]
  omega
theorem eqlNil {P : Program} {o : Oper} {a : Act} (t e t' : TypeId) (x y : Operand) (sp : Option Addr) (n c : Nat) (b : Bool) (ho : o.op = .binOp .eql t x y t') (hx : a.eval x = .slice sp n c) (hy : a.eval y = .slice none 0 0) (hu : P.underlying t = some (.slice e)) (hb : sp.isNone = b) (w : World) :
    (execOp a.eval o).run P w = .ok (.value (.bool b)) w := by
  subst hb
  unfold execOp
  have e1 : (eqGuard .eql t x y (.slice sp n c) (.slice none 0 0)).run P w = .ok () w := rfl
  simp only [ho, hx, hy, Sem.run_bind, e1, Lib.run_eql_slice_nil w t e sp n c 0 0 hu, Sem.run_pure, Result.andThen_ok]
theorem fby_tail (n s j : Nat) (hs : s ≤ 8) (hj : j < s) : fby n 8 (8 - s + j) = fby n s j := by
  unfold fby
  rw [show 8 - 1 - (8 - s + j) = s - 1 - j by omega]
theorem idx8 (b i : Nat) (hi : i < 8) (w : World) {o : Oper} {a : Act} (x y : Operand) (ho : o.op = .indexAddr 56 x y) (hx : a.eval x = .pointer (some ⟨b, 0, none⟩)) (hy : a.eval y = .int .i64 (i : Int)) :
    (execOp a.eval o).run Try.prog w = .ok (.value (.pointer (some ⟨b, i, none⟩))) w := by
  have h := idxArr (P := Try.prog) 56 5 8 .i64 b 0 i x y Try.underlying56 (fun _ => by kernel_rfl) hi ho hx hy w
  rw [Nat.zero_add] at h
  exact h
theorem cut8 (b s : Nat) (hs : 1 ≤ s ∧ s ≤ 8) (w : World) : (Instr.sliceAt 56 (.pointer (some ⟨b, 0, none⟩)) (some (.int .i64 ((8 - s : Nat) : Int))) none none).run Try.prog w = .ok (.slice (some ⟨b, 8 - s, none⟩) s s) w := by
  have hl : Try.prog.arrayLen 56 = 8 := by kernel_rfl
  have hz : ∀ w, (sizeOf (Try.prog.elem 56)).run Try.prog w = .ok 1 w := fun w => by kernel_rfl
  rw [run_sliceAt_array_l w 56 ⟨b, 0, none⟩ (by kernel_rfl) .i64 _ (by omega) (by rw [hl]; omega), hz, hl]
  simp only [Result.andThen, slicedAt]
  rw [Int.toNat_natCast, if_neg (by omega), Addr.add_mid, Nat.zero_add, Nat.mul_one, show 8 - (8 - s) = s by omega]

set_option maxRecDepth 10000 in
set_option maxHeartbeats 8000000 in
theorem tell_any (n : Nat) (w : World) : Calls Try.prog 32 #[.int .i64 (n : Int)] w fun e w' => e = .returned (.int .i64 ((vkd (vsz n) : Nat) : Int)) ∧ Below w.heap.size w w' := by
  have hB := Below.refl w.heap.size w
  rcases vsz_cases n with ⟨e, h1⟩ | ⟨e, h1, h2⟩ | ⟨e, h1, h2⟩ | ⟨e, h1⟩ <;> rw [e]
  · have g1 : (n : Int) < 64 := by omega
    go_enter Try.func32, Try.ntmps32
    go_wp2
    go_ret
    exact ⟨rfl, hB⟩
  · have g1 : ¬ (n : Int) < 64 := by omega
    have g2 : (n : Int) < 16384 := by omega
    go_enter Try.func32, Try.ntmps32
    go_wp2
    go_ret
    exact ⟨rfl, hB⟩
  · have g1 : ¬ (n : Int) < 64 := by omega
    have g2 : ¬ (n : Int) < 16384 := by omega
    have g3 : (n : Int) < 1073741824 := by omega
    go_enter Try.func32, Try.ntmps32
    go_wp2
    go_ret
    exact ⟨rfl, hB⟩
  · have g1 : ¬ (n : Int) < 64 := by omega
    have g2 : ¬ (n : Int) < 16384 := by omega
    have g3 : ¬ (n : Int) < 1073741824 := by omega
    go_enter Try.func32, Try.ntmps32
    go_wp2
    go_ret
    exact ⟨rfl, hB⟩

set_option maxRecDepth 10000 in
set_option maxHeartbeats 8000000 in
theorem lowest_any (n s : Nat) (hs : 1 ≤ s ∧ s ≤ 8) (w : World) :
    Calls Try.prog 29 #[.int .i64 (n : Int), .int .i64 (s : Int)] w fun e w' => e = .returned (.slice (some ⟨w.heap.size, 8 - s, none⟩) s s) ∧ Kr w (w.heap.size + 1) [(w.heap.size, .u8, 8, fby n 8)] [] w' := by
  go_enter Try.func29, Try.ntmps29
  go_upto_region 1 with fail
  refine wp_region_list ?_
  refine allocL (row .u8 8 (fun _ => 0)).toArray 56 rfl (fun _ => by kernel_rfl) ?_
  simp only [Act.put, List.setIfInBounds_toArray, List.set_cons_zero, List.set_cons_succ]
  have K := (Kr.init w).box .u8 8 (fun _ => 0) 56 w.heap.size rfl
  generalize w.alloc (.cells (row .u8 8 (fun _ => 0)).toArray 56) = w1 at K ⊢
  show Exit.then _ _ _ _ _
  go_wp2
  go_loopw [7] (fun i w' => ∃ (m : Nat) (f : Nat → Int), m ≤ 8 ∧ i = .int .i64 (m : Int) ∧ Kr w (w.heap.size + 1) [(w.heap.size, .u8, 8, f)] [] w' ∧ ∀ j, 8 - m ≤ j → j < 8 → f j = fby n 8 j) (fun i _ => 8 - (intOf i).toNat)
  case atStart => exact ⟨0, _, by omega, rfl, K, fun j h1 h2 => by omega⟩
  case round =>
    clear K
    obtain ⟨m, f, hm, rfl, K, hd⟩ := hrel
    have g1 : (0 : Int) ≤ (m : Int) := by omega
    by_cases hlt : m < 8
    · have g2 : (m : Int) < 8 := by omega
      have h7 : 7 - m < 8 := by omega
      go_upto_region 5 with fail
      refine wp_region_list ?_
      refine pureL (.int .i64 (m : Int)) rfl (fun _ => by kernel_rfl) ?_
      simp only [Act.put, List.setIfInBounds_toArray, List.set_cons_zero, List.set_cons_succ]
      refine pureL (.int .i64 ((7 - m : Nat) : Int)) rfl (fun w => subI .i64 _ _ _ _ _ _ _ rfl rfl rfl (by rw [IntKind.wrap_i64]; omega) w) ?_
      simp only [Act.put, List.setIfInBounds_toArray, List.set_cons_zero, List.set_cons_succ]
      refine pureL (.int .i64 (n : Int)) rfl (fun _ => by kernel_rfl) ?_
      simp only [Act.put, List.setIfInBounds_toArray, List.set_cons_zero, List.set_cons_succ]
      refine pureL (.int .i64 (m : Int)) rfl (fun _ => by kernel_rfl) ?_
      simp only [Act.put, List.setIfInBounds_toArray, List.set_cons_zero, List.set_cons_succ]
      refine pureL (.int .i64 ((8 * m : Nat) : Int)) rfl (fun w => mulI .i64 _ _ _ _ _ _ _ rfl rfl rfl (by rw [IntKind.wrap_i64]; omega) w) ?_
      simp only [Act.put, List.setIfInBounds_toArray, List.set_cons_zero, List.set_cons_succ]
      refine pureL (.int .i64 ((n / 256 ^ m : Nat) : Int)) rfl (fun w => shrI .i64 .i64 _ _ _ _ _ _ _ rfl rfl rfl (by omega) (shr_byte n m (by omega)) w) ?_
      simp only [Act.put, List.setIfInBounds_toArray, List.set_cons_zero, List.set_cons_succ]
      refine pureL (.int .u8 (fby n 8 (7 - m))) rfl (fun w => convI .i64 .u8 _ _ _ _ _ rfl (by kernel_rfl) Try.underlying5 (by kernel_rfl) rfl (by rw [IntKind.wrap_u8']; unfold fby; rw [show 8 - 1 - (7 - m) = m by omega]; omega) w) ?_
      simp only [Act.put, List.setIfInBounds_toArray, List.set_cons_zero, List.set_cons_succ]
      refine pureL (.pointer (some ⟨w.heap.size, 7 - m, none⟩)) rfl (fun w' => idx8 (w.heap.size) (7 - m) h7 w' _ _ rfl rfl rfl) ?_
      simp only [Act.put, List.setIfInBounds_toArray, List.set_cons_zero, List.set_cons_succ]
      refine storeL .u8 (fby n 8 (7 - m)) (w.heap.size) (7 - m) 5 _ _ rfl rfl rfl rfl (by rw [(K.get _ _ _ _ List.mem_cons_self).cell (7 - m) h7]; rfl) ((K.get _ _ _ _ List.mem_cons_self).free (7 - m) h7) (by kernel_rfl) ?_
      simp only [Act.put]
      replace K := K.setCell [] (w.heap.size) .u8 8 f (7 - m) h7 (fby n 8 (7 - m)) List.mem_cons_self (fun _ hp => by cases hp) (fun _ hp => by cases hp) (Nat.le_refl _)
      have HS := show Hid _ from (And.intro K (show ∀ j, 8 - (m + 1) ≤ j → j < 8 → upd f (7 - m) (fby n 8 (7 - m)) j = fby n 8 j from fun j h1 h2 => by
        by_cases e : j = 7 - m
        · subst e; rw [upd_same]
        · rw [upd_other _ _ _ _ e]; exact hd j (by omega) h2))
      clear K hd
      generalize wr.setCell ⟨w.heap.size, 7 - m, none⟩ (.int .u8 (fby n 8 (7 - m))) = w4 at HS ⊢
      generalize upd f (7 - m) (fby n 8 (7 - m)) = f' at HS
      show Exit.inBlock _ _ _ _ _
      go_wp2
      go_roundw
      case rel => first | exact ⟨m + 1, f', by omega, by go_num, HS.out⟩ | ((repeat apply Exists.intro); refine ⟨⟨m + 1, f', by omega, by go_num, HS.out⟩, rfl⟩)
      case measure => simp [intOf]; omega
    · obtain rfl : m = 8 := by omega
      replace K := K.headC (fby n 8) (fun j hj => hd j (by omega) hj)
      clear hd hlt hm g1
      go_upto_region 7 with fail
      refine wp_region_list ?_
      refine pureL (.int .i64 (s : Int)) rfl (fun _ => by kernel_rfl) ?_
      simp only [Act.put, List.setIfInBounds_toArray, List.set_cons_zero, List.set_cons_succ]
      refine pureL (.int .i64 ((8 - s : Nat) : Int)) rfl (fun w => subI .i64 _ _ _ _ _ _ _ rfl rfl rfl (by rw [IntKind.wrap_i64]; omega) w) ?_
      simp only [Act.put, List.setIfInBounds_toArray, List.set_cons_zero, List.set_cons_succ]
      refine pureL (.slice (some ⟨w.heap.size, 8 - s, none⟩) s s) rfl (fun w' => cutOp _ _ _ _ _ _ rfl rfl rfl (cut8 (w.heap.size) s hs w')) ?_
      simp only [Act.put, List.setIfInBounds_toArray, List.set_cons_zero, List.set_cons_succ]
      refine pureL (.slice (some ⟨w.heap.size, 8 - s, none⟩) s s) rfl (fun _ => by kernel_rfl) ?_
      simp only [Act.put, List.setIfInBounds_toArray, List.set_cons_zero, List.set_cons_succ]
      show Exit.then _ _ _ _ _
      go_wp2
      go_ret
      exact ⟨rfl, K⟩

set_option maxRecDepth 10000 in
set_option maxHeartbeats 8000000 in
theorem least_any (n : Nat) (hn : n < 4611686018427387904) (w : World) :
    Calls Try.prog 23 #[.int .i64 (n : Int)] w fun e w' => ∃ B, e = .returned (.slice (some ⟨B, 8 - vsz n, none⟩) (vsz n) (vsz n)) ∧ Src w' (some ⟨B, 8 - vsz n, none⟩) (vsz n) (vby n) ∧ Below w.heap.size w w' := by
  have h4 := vsz_four n
  have hp := vkd_pow _ h4
  have hK8 := vsz_le n
  have ht := vtop n hn
  have hv0 := vby_first n hn
  have hvj : ∀ j, j ≠ 0 → vby n j = fby n (vsz n) j := fun j hj => by unfold vby; rw [if_neg hj, Int.add_zero]
  go_enter Try.func23, Try.ntmps23
  go_upto_region 1 with fail
  refine wp_region_list ?_
  refine pureL (.int .i64 (n : Int)) rfl (fun _ => by kernel_rfl) ?_
  simp only [Act.put, List.setIfInBounds_toArray, List.set_cons_zero, List.set_cons_succ]
  refine callL rfl (fun _ => by kernel_rfl) (tell_any n _) ?_
  rintro e w1 ⟨rfl, hB⟩
  refine ⟨_, rfl, ?_⟩
  simp only [Act.put, List.setIfInBounds_toArray, List.set_cons_zero, List.set_cons_succ]
  generalize hKe : vsz n = K at *
  refine pureL (.int .i64 (((vkd K) : Nat) : Int)) rfl (fun _ => by kernel_rfl) ?_
  simp only [Act.put, List.setIfInBounds_toArray, List.set_cons_zero, List.set_cons_succ]
  show Exit.then _ _ _ _ _
  go_upto_region 2 with fail
  refine wp_region_list ?_
  refine pureL (.int .i64 (n : Int)) rfl (fun _ => by kernel_rfl) ?_
  simp only [Act.put, List.setIfInBounds_toArray, List.set_cons_zero, List.set_cons_succ]
  refine pureL (.int .i64 (((vkd K) : Nat) : Int)) rfl (fun _ => by kernel_rfl) ?_
  simp only [Act.put, List.setIfInBounds_toArray, List.set_cons_zero, List.set_cons_succ]
  refine pureL (.int .i64 ((K : Nat) : Int)) rfl (fun w => shlI .i64 .i64 _ _ _ _ _ _ _ rfl rfl rfl (by omega) (by rw [shl_one (vkd K) hp.2, hp.1]) w) ?_
  simp only [Act.put, List.setIfInBounds_toArray, List.set_cons_zero, List.set_cons_succ]
  refine callL rfl (fun _ => by kernel_rfl) (lowest_any n K hK8 _) ?_
  rintro e w2 ⟨rfl, R⟩
  refine ⟨_, rfl, ?_⟩
  simp only [Act.put, List.setIfInBounds_toArray, List.set_cons_zero, List.set_cons_succ]
  refine pureL (.slice (some ⟨w1.heap.size, 8 - K, none⟩) K K) rfl (fun _ => by kernel_rfl) ?_
  simp only [Act.put, List.setIfInBounds_toArray, List.set_cons_zero, List.set_cons_succ]
  show Exit.then _ _ _ _ _
  have h8 : 8 - K < 8 := by omega
  have hx0 : fby n 8 (8 - K) = (((n / 256 ^ (K - 1)) : Nat) : Int) := by
    unfold fby
    rw [show 8 - 1 - (8 - K) = K - 1 by omega, Nat.mod_eq_of_lt (by omega)]
  go_upto_region 3 with fail
  refine wp_region_list ?_
  refine pureL (.slice (some ⟨w1.heap.size, 8 - K, none⟩) K K) rfl (fun _ => by kernel_rfl) ?_
  simp only [Act.put, List.setIfInBounds_toArray, List.set_cons_zero, List.set_cons_succ]
  refine pureL (.pointer (some ⟨w1.heap.size, 8 - K, none⟩)) rfl (fun w => idxSl 22 5 K K .i64 ⟨w1.heap.size, 8 - K, none⟩ 0 _ _ Try.underlying22 (fun _ => by kernel_rfl) (by omega) rfl rfl rfl w) ?_
  simp only [Act.put, List.setIfInBounds_toArray, List.set_cons_zero, List.set_cons_succ]
  refine cellL .u8 (.int .u8 (((n / 256 ^ (K - 1)) : Nat) : Int)) w1.heap.size (8 - K) 5 _ rfl rfl rfl Try.underlying5 (by rw [← hx0]; exact (R.get _ _ _ _ List.mem_cons_self).cell (8 - K) h8) ?_
  simp only [Act.put, List.setIfInBounds_toArray, List.set_cons_zero, List.set_cons_succ]
  refine pureL (.int .i64 (((vkd K) : Nat) : Int)) rfl (fun _ => by kernel_rfl) ?_
  simp only [Act.put, List.setIfInBounds_toArray, List.set_cons_zero, List.set_cons_succ]
  refine pureL (.int .i64 (((vkd K) * 64 : Nat) : Int)) rfl (fun w => shlI .i64 .u64 _ _ _ _ _ _ _ rfl rfl rfl (by omega) (by rw [IntKind.wrap_i64, show min (6 : Int).toNat IntKind.i64.bits = 6 from rfl]; omega) w) ?_
  simp only [Act.put, List.setIfInBounds_toArray, List.set_cons_zero, List.set_cons_succ]
  refine pureL (.int .u8 (((vkd K) * 64 : Nat) : Int)) rfl (fun w => convI .i64 .u8 _ _ _ _ _ rfl (by kernel_rfl) Try.underlying5 (by kernel_rfl) rfl (by rw [IntKind.wrap_u8']; omega) w) ?_
  simp only [Act.put, List.setIfInBounds_toArray, List.set_cons_zero, List.set_cons_succ]
  refine pureL (.int .u8 (((n / 256 ^ (K - 1)) + (vkd K) * 64 : Nat) : Int)) rfl (fun w => vorI .u8 _ _ _ _ _ _ _ rfl rfl rfl (or_high (n / 256 ^ (K - 1)) (vkd K) ht hp.2) w) ?_
  simp only [Act.put, List.setIfInBounds_toArray, List.set_cons_zero, List.set_cons_succ]
  refine pureL (.pointer (some ⟨w1.heap.size, 8 - K, none⟩)) rfl (fun w => idxSl 22 5 K K .i64 ⟨w1.heap.size, 8 - K, none⟩ 0 _ _ Try.underlying22 (fun _ => by kernel_rfl) (by omega) rfl rfl rfl w) ?_
  simp only [Act.put, List.setIfInBounds_toArray, List.set_cons_zero, List.set_cons_succ]
  refine storeL .u8 (((n / 256 ^ (K - 1)) + (vkd K) * 64 : Nat) : Int) w1.heap.size (8 - K) 5 _ _ rfl rfl rfl rfl (by rw [(R.get _ _ _ _ List.mem_cons_self).cell (8 - K) h8]; rfl) ((R.get _ _ _ _ List.mem_cons_self).free (8 - K) h8) (by kernel_rfl) ?_
  simp only [Act.put]
  replace R := R.setCell [] w1.heap.size .u8 8 (fby n 8) (8 - K) h8 (((n / 256 ^ (K - 1)) + (vkd K) * 64 : Nat) : Int) List.mem_cons_self (fun _ hp => by cases hp) (fun _ hp => by cases hp) (Nat.le_refl _)
  generalize w2.setCell ⟨w1.heap.size, 8 - K, none⟩ (.int .u8 (((n / 256 ^ (K - 1)) + (vkd K) * 64 : Nat) : Int)) = w3 at R ⊢
  have hS : Src w3 (some ⟨w1.heap.size, 8 - K, none⟩) K (vby n) := ((R.get _ _ _ _ List.mem_cons_self).src (8 - K) K (by omega)).congr fun j hj => by
    by_cases e : j = 0
    · subst e; rw [Nat.add_zero, upd_same, hv0, Nat.mul_comm 64]
    · rw [upd_other _ _ _ _ (by omega), hvj j e, fby_tail n K j (by omega) hj]
  replace hB := hB.trans (R.below.mono hB.size)
  clear R hx0 hv0 hvj ht hp h4
  show Exit.then _ _ _ _ _
  go_upto_region 4 with fail
  refine wp_region_list ?_
  refine pureL (.slice (some ⟨w1.heap.size, 8 - K, none⟩) K K) rfl (fun _ => by kernel_rfl) ?_
  simp only [Act.put, List.setIfInBounds_toArray, List.set_cons_zero, List.set_cons_succ]
  refine pureL (.slice (some ⟨w1.heap.size, 8 - K, none⟩) K K) rfl (fun _ => by kernel_rfl) ?_
  simp only [Act.put, List.setIfInBounds_toArray, List.set_cons_zero, List.set_cons_succ]
  show Exit.then _ _ _ _ _
  go_wp2
  go_ret
  exact ⟨w1.heap.size, by rw [hKe]; rfl, by rw [hKe]; exact hS, hB⟩

/-- The number of the bytes h and, behind it, the first of z. -/
def jV (h : Int) (z : Nat → Int) : Nat → Int
  | 0 => h
  | i + 1 => jV h z i * 256 + z i
theorem jV_in (h : Int) (hh : 0 ≤ h ∧ h < 64) (z : Nat → Int) (m : Nat) (hz : In 256 m z) : ∀ i, i ≤ m → 0 ≤ jV h z i ∧ jV h z i < 64 * 256 ^ i
  | 0, _ => by show 0 ≤ h ∧ h < 64 * 256 ^ 0; omega
  | i + 1, hi => by
    have h1 := jV_in h hh z m hz i (by omega)
    have h2 := hz i (by omega)
    show 0 ≤ jV h z i * 256 + z i ∧ jV h z i * 256 + z i < 64 * 256 ^ (i + 1)
    rw [Int.pow_succ]
    omega
theorem jV_zero (z : Nat → Int) : ∀ i, jV 0 z i = fV z i
  | 0 => rfl
  | i + 1 => by
    show jV 0 z i * 256 + z i = fV z (i + 1)
    rw [jV_zero z i]
    rfl
theorem jV_one (z : Nat → Int) : ∀ i, jV (z 0 % 64) (fun j => z (1 + j)) i = tV z i
  | 0 => rfl
  | i + 1 => by
    show jV (z 0 % 64) (fun j => z (1 + j)) i * 256 + z (1 + i) = tV z (i + 1)
    rw [jV_one z i, Nat.add_comm 1 i]
    rfl

set_option maxRecDepth 10000 in
set_option maxHeartbeats 8000000 in
theorem join_any (h : Int) (hh : 0 ≤ h ∧ h < 64) (sp : Option Addr) (len cap : Nat) (hl : len ≤ 7) (z : Nat → Int) (hz : In 256 len z) (w : World) (hs : Src w sp len z) :
    Calls Try.prog 28 #[.int .i64 h, .slice sp len cap] w fun e w' => e = .returned (.int .i64 (jV h z len)) ∧ Below w.heap.size w w' := by
  have hB := Below.refl w.heap.size w
  go_enter Try.func28, Try.ntmps28
  go_upto_region 1 with fail
  refine wp_region_list ?_
  refine pureL (.slice sp len cap) rfl (fun _ => by kernel_rfl) ?_
  simp only [Act.put, List.setIfInBounds_toArray, List.set_cons_zero, List.set_cons_succ]
  refine pureL (.int .i64 (len : Int)) rfl (fun w => lenS _ 22 5 (sp) (len) (cap) rfl Try.underlying22 rfl w) ?_
  simp only [Act.put, List.setIfInBounds_toArray, List.set_cons_zero, List.set_cons_succ]
  refine pureL (.int .i64 0) rfl (fun _ => by kernel_rfl) ?_
  simp only [Act.put, List.setIfInBounds_toArray, List.set_cons_zero, List.set_cons_succ]
  show Exit.then _ _ _ _ _
  go_wp2
  go_loopw [0, 9] (fun hw i w' => ∃ m : Nat, m ≤ len ∧ hw = .int .i64 (jV h z m) ∧ i = .int .i64 (m : Int) ∧ w = w') (fun _ i _ => len - (intOf i).toNat)
  case atStart => exact ⟨0, Nat.zero_le _, rfl, rfl, rfl⟩
  case round =>
    obtain ⟨m, hm, rfl, rfl, rfl⟩ := hrel
    by_cases hlt : m < len
    · have g1 : (m : Int) < (len : Int) := by omega
      obtain ⟨ad, rfl, hc⟩ := hs m hlt
      have hzm := hz m hlt
      have hj := jV_in h hh z len hz m hm
      have hj2 : jV h z m < 18014398509481984 := by
        have h6 : (256 : Nat) ^ m ≤ 256 ^ 6 := Nat.pow_le_pow_right (by decide) (by omega)
        have e6 : (256 : Nat) ^ 6 = 281474976710656 := by decide
        have e7 : ((256 ^ m : Nat) : Int) = (256 : Int) ^ m := by norm_cast
        omega
      obtain ⟨x, hx⟩ := Int.eq_ofNat_of_zero_le hj.1
      obtain ⟨d, hd⟩ := Int.eq_ofNat_of_zero_le hzm.1
      have hor : bits .or .i64 (jV h z m * 256) (z m) = jV h z (m + 1) := by
        show _ = jV h z m * 256 + z m
        rw [hx, hd, show ((x : Nat) : Int) * 256 = ((x * 256 : Nat) : Int) by omega, or_low x d (by omega) (by omega)]
        omega
      go_upto_region 3 with fail
      refine wp_region_list ?_
      refine pureL (.pointer (some (ad.add m))) rfl (fun w => idxSl 22 5 len cap .i64 ad m _ _ Try.underlying22 (fun _ => by kernel_rfl) hlt rfl rfl rfl w) ?_
      simp only [Act.put, List.setIfInBounds_toArray, List.set_cons_zero, List.set_cons_succ]
      refine readL (.int .u8 (z m)) rfl (loadAny 5 .u8 _ (ad.add m) _ rfl rfl Try.underlying5 hc) ?_
      simp only [Act.put, List.setIfInBounds_toArray, List.set_cons_zero, List.set_cons_succ]
      refine pureL (.int .u8 (z m)) rfl (fun _ => by kernel_rfl) ?_
      simp only [Act.put, List.setIfInBounds_toArray, List.set_cons_zero, List.set_cons_succ]
      show Exit.then _ _ _ _ _
      go_upto_region 4 with fail
      refine wp_region_list ?_
      refine pureL (.int .i64 (jV h z m)) rfl (fun _ => by kernel_rfl) ?_
      simp only [Act.put, List.setIfInBounds_toArray, List.set_cons_zero, List.set_cons_succ]
      refine pureL (.int .i64 (jV h z m * 256)) rfl (fun w => shlI .i64 .u64 _ _ _ _ _ _ _ rfl rfl rfl (by omega) (by rw [IntKind.wrap_i64, show min (8 : Int).toNat IntKind.i64.bits = 8 from rfl]; omega) w) ?_
      simp only [Act.put, List.setIfInBounds_toArray, List.set_cons_zero, List.set_cons_succ]
      refine pureL (.int .u8 (z m)) rfl (fun _ => by kernel_rfl) ?_
      simp only [Act.put, List.setIfInBounds_toArray, List.set_cons_zero, List.set_cons_succ]
      refine pureL (.int .i64 (z m)) rfl (fun w => convI .u8 .i64 _ _ _ _ _ rfl (by kernel_rfl) Try.underlying3 (by kernel_rfl) rfl (by rw [IntKind.wrap_i64]; omega) w) ?_
      simp only [Act.put, List.setIfInBounds_toArray, List.set_cons_zero, List.set_cons_succ]
      refine pureL (.int .i64 (jV h z (m + 1))) rfl (fun w => vorI .i64 _ _ _ _ _ _ _ rfl rfl rfl hor w) ?_
      simp only [Act.put, List.setIfInBounds_toArray, List.set_cons_zero, List.set_cons_succ]
      refine pureL (.int .i64 (jV h z (m + 1))) rfl (fun _ => by kernel_rfl) ?_
      simp only [Act.put, List.setIfInBounds_toArray, List.set_cons_zero]
      clear hor hx hd hj hj2
      show Exit.inBlock _ _ _ _ _
      go_wp2
      go_roundw
      case rel => first | exact ⟨m + 1, by omega, rfl, by go_num, trivial⟩ | ((repeat apply Exists.intro); refine ⟨⟨m + 1, by omega, rfl, by go_num, trivial⟩, rfl⟩)
      case measure => simp [intOf]; omega
    · obtain rfl : m = len := by omega
      have g1 : ¬ (m : Int) < (m : Int) := by omega
      clear hlt hm
      go_wp2
      go_ret
      exact ⟨rfl, hB⟩

set_option maxRecDepth 10000 in
set_option maxHeartbeats 8000000 in
theorem clone_any (sp : Option Addr) (len cap : Nat) (hlen : len ≤ 140737488351240) (hc : len ≤ cap) (hnil : sp = none → cap = 0) (z : Nat → Int) (w : World) (hs : Src w sp len z) :
    Calls Try.prog 30 #[.slice sp len cap] w fun e w' => ∃ v, e = .returned v ∧ Own w' w.heap.size 5 .u8 len z v ∧ Below w.heap.size w w' := by
  have hB := Below.refl w.heap.size w
  cases sp with
  | none =>
    obtain rfl : len = 0 := by have := hnil rfl; omega
    obtain rfl := hnil rfl
    go_enter Try.func30, Try.ntmps30
    go_upto_region 1 with fail
    refine wp_region_list ?_
    refine pureL (.slice none 0 0) rfl (fun _ => by kernel_rfl) ?_
    simp only [Act.put, List.setIfInBounds_toArray, List.set_cons_zero, List.set_cons_succ]
    refine pureL (.bool true) rfl (fun w => eqlNil 22 5 _ _ _ none 0 0 true rfl rfl rfl Try.underlying22 rfl w) ?_
    simp only [Act.put, List.setIfInBounds_toArray, List.set_cons_zero, List.set_cons_succ]
    show Exit.then _ _ _ _ _
    go_wp2
    go_ret
    exact ⟨_, rfl, World.ownsRow_nil w _ _ 1, hB⟩
  | some ad =>
    go_enter Try.func30, Try.ntmps30
    go_upto_region 1 with fail
    refine wp_region_list ?_
    refine pureL (.slice (some ad) len cap) rfl (fun _ => by kernel_rfl) ?_
    simp only [Act.put, List.setIfInBounds_toArray, List.set_cons_zero, List.set_cons_succ]
    refine pureL (.bool false) rfl (fun w => eqlNil 22 5 _ _ _ (some ad) len cap false rfl rfl rfl Try.underlying22 rfl w) ?_
    simp only [Act.put, List.setIfInBounds_toArray, List.set_cons_zero, List.set_cons_succ]
    show Exit.then _ _ _ _ _
    go_upto_region 3 with fail
    refine wp_region_list ?_
    refine actL (w' := w.alloc (.cells #[] 5)) (.slice (some ⟨w.heap.size, 0, none⟩) 0 0) rfl (by kernel_rfl) ?_
    simp only [Act.put, List.setIfInBounds_toArray, List.set_cons_zero, List.set_cons_succ]
    refine pureL (.slice (some ad) len cap) rfl (fun _ => by kernel_rfl) ?_
    simp only [Act.put, List.setIfInBounds_toArray, List.set_cons_zero, List.set_cons_succ]
    have hb1 := (Below.refl w.heap.size w).alloc (Nat.le_refl _) (.cells #[] 5)
    obtain ⟨v, w2, hr, ho, hgr, _⟩ := run_append_Own (P := Try.prog) (ty := 22) Try.underlying22 one8 (Own.lit w w.heap.size 5 .u8 0 (fun _ => 0) (Nat.le_refl _) (by unfold maxLen; omega)) (some ad) (len) (cap) (z) ((hs).below hb1 (Nat.le_refl _)) (fun e => by cases e) (by unfold maxLen; omega) (by omega) hb1.size
    have hb2 := hb1.grown hgr hb1.size (fun b hb => by injection hb with hb; simp only at hb; omega)
    refine actL v rfl (appendOp _ _ 22 _ _ _ rfl rfl rfl hr) ?_
    simp only [Act.put, List.setIfInBounds_toArray, List.set_cons_zero, List.set_cons_succ]
    have hO : Own w2 w.heap.size 5 .u8 (len) (z) v := by
      rw [Nat.zero_add] at ho
      exact ho.congr fun j _ => by unfold app; rw [if_neg (Nat.not_lt_zero j), Nat.sub_zero]
    clear hr ho hgr hb1
    refine pureL v rfl (fun _ => by kernel_rfl) ?_
    simp only [Act.put, List.setIfInBounds_toArray, List.set_cons_zero, List.set_cons_succ]
    show Exit.then _ _ _ _ _
    go_wp2
    go_ret
    exact ⟨_, rfl, hO, hb2⟩
end Go.Proofs.Ytogbdoikkmdopaa

namespace Go.Proofs.Ytogbdoikkmdopaa
open Go.RowKit

/-- What is left of a text, in a place of its own. -/
structure Tp (w0 : World) (B len : Nat) (z : Nat → Int) (w : World) : Prop where
  lo : w0.heap.size ≤ B
  hi : B < w.heap.size
  cell : ∃ sp cap, w.cell? ⟨B, 0, none⟩ = some (.slice sp len cap) ∧ len ≤ cap ∧ (sp = none → cap = 0) ∧ Src w0 sp len z
  free : w.frozen? ⟨B, 0, none⟩ = false
  below : Below w0.heap.size w0 w
theorem Tp.call {w0 w w' : World} {B len : Nat} {z : Nat → Int} (h : Tp w0 B len z w) (l : Below w.heap.size w w') : Tp w0 B len z w' := by
  obtain ⟨lo, hi, ⟨sp, cap, h1, h2⟩, hf, hb⟩ := h
  exact ⟨lo, Nat.lt_of_lt_of_le hi l.size, ⟨sp, cap, by rw [l.cell (p := ⟨B, 0, none⟩) hi]; exact h1, h2⟩, by rw [l.frozen (p := ⟨B, 0, none⟩) hi]; exact hf, hb.trans (l.mono hb.size)⟩
theorem Tp.set {w0 w : World} {B len : Nat} {z : Nat → Int} (h : Tp w0 B len z w) (sp : Option Addr) (len' cap : Nat) (z' : Nat → Int) (hc : len' ≤ cap) (hn : sp = none → cap = 0) (hs : Src w0 sp len' z') : Tp w0 B len' z' (w.setCell ⟨B, 0, none⟩ (.slice sp len' cap)) := by
  obtain ⟨lo, hi, ⟨sp', cap', h1, h2⟩, hf, hb⟩ := h
  exact ⟨lo, by have e := size_setAll B 0 [.slice sp len' cap] w; simp only [World.setCells] at e; omega, ⟨sp, cap, World.cell?_setCell_same' _ _ _ (by rw [h1]; rfl), hc, hn, hs⟩, by rw [World.frozen?_setCell]; exact hf, below_setAll hb B lo 0 [.slice sp len' cap]⟩
theorem Tp.nil {w0 w : World} {B : Nat} {z z' : Nat → Int} (h : Tp w0 B 0 z w) : Tp w0 B 0 z' w := by
  obtain ⟨lo, hi, ⟨sp, cap, h1, h2, h3, _⟩, hf, hb⟩ := h
  exact ⟨lo, hi, ⟨sp, cap, h1, h2, h3, fun j hj => absurd hj (Nat.not_lt_zero j)⟩, hf, hb⟩
/-- A slice is stored. -/
theorem storeSl {P : Program} {ops : Array Oper} {Q : Exit → Act → World → Prop} {o' : Oper} {rest : List Oper} {a : Act} {w : World} (sp : Option Addr) (n c : Nat) (b : Nat) (ty : TypeId) (x y : Operand) (hw : Region.wanted o' (yielded ops a.tmps) = true) (ho : o'.op = .store ty x y) (hx : a.eval x = .pointer (some ⟨b, 0, none⟩)) (hy : a.eval y = .slice sp n c)
    (hc : (w.cell? ⟨b, 0, none⟩).isSome = true) (hf : w.frozen? ⟨b, 0, none⟩ = false) (hz : (P.info? ty).map (·.size) = some 1)
    (h : wpList P ops Q rest (a.put o'.dst undef) (w.setCell ⟨b, 0, none⟩ (.slice sp n c))) : wpList P ops Q (o' :: rest) a w := by
  have h0 : ∀ j : Nat, j < [Value.slice sp n c].length → j = 0 := fun j hj => by simpa using hj
  have hst := run_storeCells_cells (P := P) b 0 [.slice sp n c] 0 w (fun j hj => by rw [h0 j hj]; simpa using hc) (fun j hj => by rw [h0 j hj]; simpa using hf) (fun v hv => by simp at hv; subst hv; rfl)
  have he : (execOp a.eval o').run P w = .ok .skip (w.setCell ⟨b, 0, none⟩ (.slice sp n c)) := by
    cases hq : P.info? ty with
    | none => simp [hq] at hz
    | some i =>
      have hs : i.size = 1 := by simp [hq] at hz; omega
      simp only [Nat.add_zero] at hst
      have e : (storeVar ty ⟨b, 0, none⟩ (.slice sp n c)).run P w = .ok () (w.setCell ⟨b, 0, none⟩ (.slice sp n c)) := by
        simp [storeVar, sizeOf, typeInfo, hq, Value.cells, hs, hst, World.setCells]
      unfold execOp
      simp only [ho, hx, hy, Instr.storeAt, Instr.sureAddr, Sem.run_bind, Sem.run_pure, Result.andThen_ok, e]
  unfold wpList
  rw [if_pos hw]
  refine .inl ?_
  unfold Oper.wp
  rw [he]
  exact h

set_option maxRecDepth 10000 in
set_option maxHeartbeats 8000000 in
theorem along_any (sp : Option Addr) (len cap : Nat) (hc : len ≤ cap) (hnil : sp = none → cap = 0) (z : Nat → Int) (w : World) (hs : Src w sp len z) :
    Calls Try.prog 25 #[.slice sp len cap] w fun e w' => ∃ B, e = .returned (.tuple #[(.func (.func 33) #[] #[.pointer (some ⟨B, 0, none⟩)]), (.func (.func 34) #[] #[.pointer (some ⟨B, 0, none⟩)])]) ∧ Tp w B len z w' := by
  go_enter Try.func25, Try.ntmps25
  go_upto_region 0 with fail
  refine wp_region_list ?_
  refine actL (w' := w.alloc (.cells #[.slice sp len cap] 22)) (.pointer (some ⟨w.heap.size, 0, none⟩)) rfl (by kernel_rfl) ?_
  simp only [Act.put, List.setIfInBounds_toArray, List.set_cons_zero, List.set_cons_succ]
  refine pureL .nilFunc rfl (fun _ => by kernel_rfl) ?_
  simp only [Act.put, List.setIfInBounds_toArray, List.set_cons_zero, List.set_cons_succ]
  refine pureL .nilFunc rfl (fun _ => by kernel_rfl) ?_
  simp only [Act.put, List.setIfInBounds_toArray, List.set_cons_zero, List.set_cons_succ]
  have T : Tp w w.heap.size len z (w.alloc (.cells #[.slice sp len cap] 22)) := ⟨Nat.le_refl _, by simp, ⟨sp, cap, by rw [World.cell?_alloc_at _ _ _ _ rfl]; rfl, hc, hnil, hs⟩, by first | exact World.frozen?_alloc_new _ _ _ _ | (simp [World.frozen?, World.alloc]), (Below.refl _ _).alloc (Nat.le_refl _) _⟩
  generalize w.alloc (.cells #[.slice sp len cap] 22) = w1 at T ⊢
  generalize w.heap.size = B at *
  show Exit.then _ _ _ _ _
  go_upto_region 1 with fail
  refine wp_region_list ?_
  refine pureL (.func (.func 33) #[] #[.pointer (some ⟨B, 0, none⟩)]) rfl (fun _ => by kernel_rfl) ?_
  simp only [Act.put, List.setIfInBounds_toArray, List.set_cons_zero, List.set_cons_succ]
  refine pureL (.func (.func 33) #[] #[.pointer (some ⟨B, 0, none⟩)]) rfl (fun _ => by kernel_rfl) ?_
  simp only [Act.put, List.setIfInBounds_toArray, List.set_cons_zero, List.set_cons_succ]
  show Exit.then _ _ _ _ _
  go_upto_region 2 with fail
  refine wp_region_list ?_
  refine pureL (.func (.func 34) #[] #[.pointer (some ⟨B, 0, none⟩)]) rfl (fun _ => by kernel_rfl) ?_
  simp only [Act.put, List.setIfInBounds_toArray, List.set_cons_zero, List.set_cons_succ]
  refine pureL (.func (.func 34) #[] #[.pointer (some ⟨B, 0, none⟩)]) rfl (fun _ => by kernel_rfl) ?_
  simp only [Act.put, List.setIfInBounds_toArray, List.set_cons_zero, List.set_cons_succ]
  show Exit.then _ _ _ _ _
  go_upto_region 3 with fail
  refine wp_region_list ?_
  refine pureL (.func (.func 33) #[] #[.pointer (some ⟨B, 0, none⟩)]) rfl (fun _ => by kernel_rfl) ?_
  simp only [Act.put, List.setIfInBounds_toArray, List.set_cons_zero, List.set_cons_succ]
  refine pureL (.func (.func 34) #[] #[.pointer (some ⟨B, 0, none⟩)]) rfl (fun _ => by kernel_rfl) ?_
  simp only [Act.put, List.setIfInBounds_toArray, List.set_cons_zero, List.set_cons_succ]
  refine pureL (.func (.func 33) #[] #[.pointer (some ⟨B, 0, none⟩)]) rfl (fun _ => by kernel_rfl) ?_
  simp only [Act.put, List.setIfInBounds_toArray, List.set_cons_zero, List.set_cons_succ]
  refine pureL (.func (.func 34) #[] #[.pointer (some ⟨B, 0, none⟩)]) rfl (fun _ => by kernel_rfl) ?_
  simp only [Act.put, List.setIfInBounds_toArray, List.set_cons_zero, List.set_cons_succ]
  show Exit.then _ _ _ _ _
  go_wp2
  go_ret2
  exact ⟨B, rfl, T⟩

set_option maxRecDepth 10000 in
set_option maxHeartbeats 8000000 in
theorem next_any (w0 : World) (B len : Nat) (z : Nat → Int) (m : Nat) (w : World) (T : Tp w0 B len z w) :
    Calls Try.prog 33 #[.int .i64 (m : Int), .pointer (some ⟨B, 0, none⟩)] w fun e w' =>
      (len < m ∧ e = .returned (.tuple #[.slice none 0 0, .bool false]) ∧ Tp w0 B len z w') ∨
      (m ≤ len ∧ ∃ sp cap, e = .returned (.tuple #[.slice sp m cap, .bool true]) ∧ m ≤ cap ∧ (sp = none → cap = 0) ∧ Src w0 sp m z ∧ Tp w0 B (len - m) (fun j => z (m + j)) w') := by
  obtain ⟨sp, cap, hcell, hc, hnil, hs⟩ := T.cell
  by_cases h1 : len < m
  · go_enter Try.func33, Try.ntmps33
    go_upto_region 1 with fail
    refine wp_region_list ?_
    refine pureL (.int .i64 (m : Int)) rfl (fun _ => by kernel_rfl) ?_
    simp only [Act.put, List.setIfInBounds_toArray, List.set_cons_zero, List.set_cons_succ]
    refine readL (.slice sp len cap) rfl (loadSl 22 5 _ ⟨B, 0, none⟩ _ rfl rfl Try.underlying22 hcell) ?_
    simp only [Act.put, List.setIfInBounds_toArray, List.set_cons_zero, List.set_cons_succ]
    refine pureL (.int .i64 (len : Int)) rfl (fun w => lenS _ 22 5 (sp) (len) (cap) rfl Try.underlying22 rfl w) ?_
    simp only [Act.put, List.setIfInBounds_toArray, List.set_cons_zero, List.set_cons_succ]
    refine pureL (.bool true) rfl (fun w => gtrI .i64 _ _ _ _ _ _ rfl rfl rfl true (decide_eq_true (by omega)) w) ?_
    simp only [Act.put, List.setIfInBounds_toArray, List.set_cons_zero, List.set_cons_succ]
    show Exit.then _ _ _ _ _
    go_wp2
    go_ret2
    exact .inl ⟨h1, rfl, T⟩
  · obtain ⟨cp, hcut1, hcs1, hcn1⟩ := cut_hiN (P := Try.prog) (t := 22) (by kernel_rfl) (fun _ => by kernel_rfl) sp len cap m (by omega) hc hnil
    obtain ⟨cq, hcut2, hcs2, hcn2⟩ := cut_loN (P := Try.prog) (t := 22) (by kernel_rfl) (fun _ => by kernel_rfl) sp len cap m (by omega) hc hnil
    go_enter Try.func33, Try.ntmps33
    go_upto_region 1 with fail
    refine wp_region_list ?_
    refine pureL (.int .i64 (m : Int)) rfl (fun _ => by kernel_rfl) ?_
    simp only [Act.put, List.setIfInBounds_toArray, List.set_cons_zero, List.set_cons_succ]
    refine readL (.slice sp len cap) rfl (loadSl 22 5 _ ⟨B, 0, none⟩ _ rfl rfl Try.underlying22 hcell) ?_
    simp only [Act.put, List.setIfInBounds_toArray, List.set_cons_zero, List.set_cons_succ]
    refine pureL (.int .i64 (len : Int)) rfl (fun w => lenS _ 22 5 (sp) (len) (cap) rfl Try.underlying22 rfl w) ?_
    simp only [Act.put, List.setIfInBounds_toArray, List.set_cons_zero, List.set_cons_succ]
    refine pureL (.bool false) rfl (fun w => gtrI .i64 _ _ _ _ _ _ rfl rfl rfl false (decide_eq_false (by omega)) w) ?_
    simp only [Act.put, List.setIfInBounds_toArray, List.set_cons_zero, List.set_cons_succ]
    show Exit.then _ _ _ _ _
    go_upto_region 3 with fail
    refine wp_region_list ?_
    refine readL (.slice sp len cap) rfl (loadSl 22 5 _ ⟨B, 0, none⟩ _ rfl rfl Try.underlying22 hcell) ?_
    simp only [Act.put, List.setIfInBounds_toArray, List.set_cons_zero, List.set_cons_succ]
    refine pureL (.int .i64 (m : Int)) rfl (fun _ => by kernel_rfl) ?_
    simp only [Act.put, List.setIfInBounds_toArray, List.set_cons_zero, List.set_cons_succ]
    refine pureL (.slice cp m cap) rfl (fun w => cutHi _ _ _ _ _ _ rfl rfl rfl (hcut1 w)) ?_
    simp only [Act.put, List.setIfInBounds_toArray, List.set_cons_zero, List.set_cons_succ]
    refine pureL (.slice cp m cap) rfl (fun _ => by kernel_rfl) ?_
    simp only [Act.put, List.setIfInBounds_toArray, List.set_cons_zero, List.set_cons_succ]
    show Exit.then _ _ _ _ _
    go_upto_region 4 with fail
    refine wp_region_list ?_
    refine readL (.slice sp len cap) rfl (loadSl 22 5 _ ⟨B, 0, none⟩ _ rfl rfl Try.underlying22 hcell) ?_
    simp only [Act.put, List.setIfInBounds_toArray, List.set_cons_zero, List.set_cons_succ]
    refine pureL (.int .i64 (m : Int)) rfl (fun _ => by kernel_rfl) ?_
    simp only [Act.put, List.setIfInBounds_toArray, List.set_cons_zero, List.set_cons_succ]
    refine pureL (.slice cq (len - m) (cap - m)) rfl (fun w => cutOp _ _ _ _ _ _ rfl rfl rfl (hcut2 w)) ?_
    simp only [Act.put, List.setIfInBounds_toArray, List.set_cons_zero, List.set_cons_succ]
    refine storeSl cq (len - m) (cap - m) B 22 _ _ rfl rfl rfl rfl (by rw [hcell]; rfl) T.free (by kernel_rfl) ?_
    simp only [Act.put]
    replace T := T.set cq (len - m) (cap - m) (fun j => z (m + j)) (by omega) hcn2 (hcs2 _ _ hs)
    replace hs := hcs1 _ _ hs
    generalize w.setCell ⟨B, 0, none⟩ (.slice cq (len - m) (cap - m)) = w1 at T ⊢
    clear hcut1 hcut2 hcs1 hcs2 hcn2 hcell
    show Exit.then _ _ _ _ _
    go_upto_region 5 with fail
    refine wp_region_list ?_
    refine pureL (.slice cp m cap) rfl (fun _ => by kernel_rfl) ?_
    simp only [Act.put, List.setIfInBounds_toArray, List.set_cons_zero, List.set_cons_succ]
    refine pureL (.slice cp m cap) rfl (fun _ => by kernel_rfl) ?_
    simp only [Act.put, List.setIfInBounds_toArray, List.set_cons_zero, List.set_cons_succ]
    refine pureL (.bool true) rfl (fun _ => by kernel_rfl) ?_
    simp only [Act.put, List.setIfInBounds_toArray, List.set_cons_zero, List.set_cons_succ]
    show Exit.then _ _ _ _ _
    go_wp2
    go_ret2
    exact .inr ⟨by omega, cp, cap, rfl, by omega, hcn1, hs, T⟩

set_option maxRecDepth 10000 in
set_option maxHeartbeats 8000000 in
theorem left_any (w0 : World) (B len : Nat) (hlen : len ≤ 140737488351240) (z : Nat → Int) (w : World) (T : Tp w0 B len z w) :
    Calls Try.prog 34 #[.pointer (some ⟨B, 0, none⟩)] w fun e w' => ∃ v, e = .returned v ∧ Own w' w.heap.size 5 .u8 len z v ∧ Below w.heap.size w w' := by
  obtain ⟨sp, cap, hcell, hc, hnil, hs⟩ := T.cell
  go_enter Try.func34, Try.ntmps34
  go_upto_region 1 with fail
  refine wp_region_list ?_
  refine readL (.slice sp len cap) rfl (loadSl 22 5 _ ⟨B, 0, none⟩ _ rfl rfl Try.underlying22 hcell) ?_
  simp only [Act.put, List.setIfInBounds_toArray, List.set_cons_zero, List.set_cons_succ]
  refine callL rfl (fun _ => by kernel_rfl) (clone_any sp len cap hlen hc hnil z _ (hs.below T.below (Nat.le_refl _))) ?_
  rintro e w1 ⟨v, rfl, hO, hB⟩
  refine ⟨_, rfl, ?_⟩
  simp only [Act.put, List.setIfInBounds_toArray, List.set_cons_zero, List.set_cons_succ]
  refine pureL v rfl (fun _ => by kernel_rfl) ?_
  simp only [Act.put, List.setIfInBounds_toArray, List.set_cons_zero, List.set_cons_succ]
  show Exit.then _ _ _ _ _
  go_wp2
  go_ret
  exact ⟨v, rfl, hO, hB⟩

theorem vkd_told (b : Int) (h : 0 ≤ b ∧ b < 256) : b / 64 = ((vkd (tK b) : Nat) : Int) ∧ vkd (tK b) ≤ 3 := by
  rcases tK_four b h with ⟨e, e2⟩ | ⟨e, e2⟩ | ⟨e, e2⟩ | ⟨e, e2⟩ <;> rw [e, e2] <;> decide
theorem vkd_inj (a b : Nat) (ha : a = 1 ∨ a = 2 ∨ a = 4 ∨ a = 8) (hb : b = 1 ∨ b = 2 ∨ b = 4 ∨ b = 8) (h : vkd a = vkd b) : a = b := by
  rw [← (vkd_pow a ha).1, ← (vkd_pow b hb).1, h]

set_option maxRecDepth 10000 in
set_option maxHeartbeats 8000000 in
theorem number_any (w0 : World) (B len : Nat) (z : Nat → Int) (hz : In 256 len z) (w : World) (T : Tp w0 B len z w) :
    Calls Try.prog 26 #[(.func (.func 33) #[] #[.pointer (some ⟨B, 0, none⟩)])] w fun e w' => e = .returned (.tuple #[.int .i64 (tN len z), .int .i64 (tE len z)]) ∧ Below w0.heap.size w0 w' ∧ (tE len z = 0 → Tp w0 B (tL len z) (tR z) w') := by
  go_enter Try.func26, Try.ntmps26
  go_upto_region 1 with fail
  refine wp_region_list ?_
  refine pureL (.func (.func 33) #[] #[.pointer (some ⟨B, 0, none⟩)]) rfl (fun _ => by kernel_rfl) ?_
  simp only [Act.put, List.setIfInBounds_toArray, List.set_cons_zero, List.set_cons_succ]
  refine callL rfl (fun _ => by kernel_rfl) (next_any w0 B _ _ 1 _ T) ?_
  intro e w1 h
  clear T
  rcases h with ⟨h1, rfl, T⟩ | ⟨h1, sp, cap, rfl, hc1, hn1, hs1, T⟩
  · refine ⟨_, rfl, ?_⟩
    simp only [Act.put, List.setIfInBounds_toArray, List.set_cons_zero, List.set_cons_succ]
    refine pureL (.tuple #[(.slice none 0 0), .bool false]) rfl (fun _ => by kernel_rfl) ?_
    simp only [Act.put, List.setIfInBounds_toArray, List.set_cons_zero, List.set_cons_succ]
    refine pureL (.slice none 0 0) rfl (fun _ => by kernel_rfl) ?_
    simp only [Act.put, List.setIfInBounds_toArray, List.set_cons_zero, List.set_cons_succ]
    refine pureL (.bool false) rfl (fun _ => by kernel_rfl) ?_
    simp only [Act.put, List.setIfInBounds_toArray, List.set_cons_zero, List.set_cons_succ]
    refine pureL (.slice none 0 0) rfl (fun _ => by kernel_rfl) ?_
    simp only [Act.put, List.setIfInBounds_toArray, List.set_cons_zero, List.set_cons_succ]
    refine pureL (.bool false) rfl (fun _ => by kernel_rfl) ?_
    simp only [Act.put, List.setIfInBounds_toArray, List.set_cons_zero, List.set_cons_succ]
    show Exit.then _ _ _ _ _
    have hE : tE len z = 3 := by unfold tE; rw [if_pos (by omega)]
    go_upto_region 2 with fail
    refine wp_region_list ?_
    refine pureL (.bool false) rfl (fun _ => by kernel_rfl) ?_
    simp only [Act.put, List.setIfInBounds_toArray, List.set_cons_zero, List.set_cons_succ]
    refine pureL (.bool true) rfl (fun _ => by kernel_rfl) ?_
    simp only [Act.put, List.setIfInBounds_toArray, List.set_cons_zero, List.set_cons_succ]
    show Exit.then _ _ _ _ _
    have hN : tN len z = 0 := by unfold tN; rw [hE]; rfl
    have hA := show Hid _ from (And.intro hN hE)
    clear hN hE
    go_wp2
    go_ret2
    exact ⟨by rw [hA.out.1, hA.out.2]; rfl, T.below, fun h => by rw [hA.out.2] at h; omega⟩
  · obtain ⟨ad, rfl, hc0⟩ := hs1 0 (by omega)
    have hz0 := hz 0 (by omega)
    have hto := vkd_told (z 0) hz0
    have hK4 := tK_four (z 0) hz0
    have hKp := vkd_pow (tK (z 0)) (by omega)
    have hcz : w1.cell? (ad.add 0) = some (.int .u8 (z 0)) := by
      have hb : (ad.add 0).block < w0.heap.size := World.block_lt_of_cell? w0 _ hc0
      rw [T.below.cell hb]
      exact hc0
    refine ⟨_, rfl, ?_⟩
    simp only [Act.put, List.setIfInBounds_toArray, List.set_cons_zero, List.set_cons_succ]
    refine pureL (.tuple #[(.slice (some ad) 1 cap), .bool true]) rfl (fun _ => by kernel_rfl) ?_
    simp only [Act.put, List.setIfInBounds_toArray, List.set_cons_zero, List.set_cons_succ]
    refine pureL (.slice (some ad) 1 cap) rfl (fun _ => by kernel_rfl) ?_
    simp only [Act.put, List.setIfInBounds_toArray, List.set_cons_zero, List.set_cons_succ]
    refine pureL (.bool true) rfl (fun _ => by kernel_rfl) ?_
    simp only [Act.put, List.setIfInBounds_toArray, List.set_cons_zero, List.set_cons_succ]
    refine pureL (.slice (some ad) 1 cap) rfl (fun _ => by kernel_rfl) ?_
    simp only [Act.put, List.setIfInBounds_toArray, List.set_cons_zero, List.set_cons_succ]
    refine pureL (.bool true) rfl (fun _ => by kernel_rfl) ?_
    simp only [Act.put, List.setIfInBounds_toArray, List.set_cons_zero, List.set_cons_succ]
    show Exit.then _ _ _ _ _
    go_upto_region 2 with fail
    refine wp_region_list ?_
    refine pureL (.bool true) rfl (fun _ => by kernel_rfl) ?_
    simp only [Act.put, List.setIfInBounds_toArray, List.set_cons_zero, List.set_cons_succ]
    refine pureL (.bool false) rfl (fun _ => by kernel_rfl) ?_
    simp only [Act.put, List.setIfInBounds_toArray, List.set_cons_zero, List.set_cons_succ]
    show Exit.then _ _ _ _ _
    go_upto_region 4 with fail
    refine wp_region_list ?_
    refine pureL (.slice (some ad) 1 cap) rfl (fun _ => by kernel_rfl) ?_
    simp only [Act.put, List.setIfInBounds_toArray, List.set_cons_zero, List.set_cons_succ]
    refine pureL (.pointer (some (ad.add 0))) rfl (fun w => idxSl 22 5 1 cap .i64 ad 0 _ _ Try.underlying22 (fun _ => by kernel_rfl) (by omega) rfl rfl rfl w) ?_
    simp only [Act.put, List.setIfInBounds_toArray, List.set_cons_zero, List.set_cons_succ]
    refine readL (.int .u8 (z 0)) rfl (loadAny 5 .u8 _ (ad.add 0) _ rfl rfl Try.underlying5 hcz) ?_
    simp only [Act.put, List.setIfInBounds_toArray, List.set_cons_zero, List.set_cons_succ]
    refine pureL (.int .u8 (((vkd (tK (z 0))) : Nat) : Int)) rfl (fun w => shrI .u8 .u64 _ _ _ _ _ _ _ rfl rfl rfl (by omega) (by rw [show min (6 : Int).toNat IntKind.u8.bits = 6 from rfl, ← hto.1]; omega) w) ?_
    simp only [Act.put, List.setIfInBounds_toArray, List.set_cons_zero, List.set_cons_succ]
    refine pureL (.int .i64 (((vkd (tK (z 0))) : Nat) : Int)) rfl (fun w => convI .u8 .i64 _ _ _ _ _ rfl (by kernel_rfl) Try.underlying3 (by kernel_rfl) rfl (by rw [IntKind.wrap_i64]; omega) w) ?_
    simp only [Act.put, List.setIfInBounds_toArray, List.set_cons_zero, List.set_cons_succ]
    refine pureL (.int .i64 (((vkd (tK (z 0))) : Nat) : Int)) rfl (fun _ => by kernel_rfl) ?_
    simp only [Act.put, List.setIfInBounds_toArray, List.set_cons_zero, List.set_cons_succ]
    show Exit.then _ _ _ _ _
    obtain ⟨m, hm⟩ : ∃ m, tK (z 0) = m + 1 := ⟨tK (z 0) - 1, by omega⟩
    go_upto_region 5 with fail
    refine wp_region_list ?_
    refine pureL (.func (.func 33) #[] #[.pointer (some ⟨B, 0, none⟩)]) rfl (fun _ => by kernel_rfl) ?_
    simp only [Act.put, List.setIfInBounds_toArray, List.set_cons_zero, List.set_cons_succ]
    refine pureL (.int .i64 (((vkd (tK (z 0))) : Nat) : Int)) rfl (fun _ => by kernel_rfl) ?_
    simp only [Act.put, List.setIfInBounds_toArray, List.set_cons_zero, List.set_cons_succ]
    refine pureL (.int .i64 ((m + 1 : Nat) : Int)) rfl (fun w => shlI .i64 .i64 _ _ _ _ _ _ _ rfl rfl rfl (by omega) (by rw [shl_one (vkd (tK (z 0))) hto.2, hKp.1, hm]) w) ?_
    simp only [Act.put, List.setIfInBounds_toArray, List.set_cons_zero, List.set_cons_succ]
    refine pureL (.int .i64 (m : Int)) rfl (fun w => subI .i64 _ _ _ _ _ _ _ rfl rfl rfl (by rw [IntKind.wrap_i64]; omega) w) ?_
    simp only [Act.put, List.setIfInBounds_toArray, List.set_cons_zero, List.set_cons_succ]
    refine callL rfl (fun _ => by kernel_rfl) (next_any w0 B _ _ m _ T) ?_
    intro e w2 h
    clear T hcz
    rcases h with ⟨h2, rfl, T⟩ | ⟨h2, tp, tc, rfl, hc2, hn2, hs2, T⟩
    · refine ⟨_, rfl, ?_⟩
      simp only [Act.put, List.setIfInBounds_toArray, List.set_cons_zero, List.set_cons_succ]
      refine pureL (.tuple #[(.slice none 0 0), .bool false]) rfl (fun _ => by kernel_rfl) ?_
      simp only [Act.put, List.setIfInBounds_toArray, List.set_cons_zero, List.set_cons_succ]
      refine pureL (.slice none 0 0) rfl (fun _ => by kernel_rfl) ?_
      simp only [Act.put, List.setIfInBounds_toArray, List.set_cons_zero, List.set_cons_succ]
      refine pureL (.bool false) rfl (fun _ => by kernel_rfl) ?_
      simp only [Act.put, List.setIfInBounds_toArray, List.set_cons_zero, List.set_cons_succ]
      refine pureL (.slice none 0 0) rfl (fun _ => by kernel_rfl) ?_
      simp only [Act.put, List.setIfInBounds_toArray, List.set_cons_zero, List.set_cons_succ]
      refine pureL (.bool false) rfl (fun _ => by kernel_rfl) ?_
      simp only [Act.put, List.setIfInBounds_toArray, List.set_cons_zero, List.set_cons_succ]
      show Exit.then _ _ _ _ _
      have hE : tE len z = 3 := by unfold tE; rw [if_neg (by omega), if_pos (by omega)]
      go_upto_region 6 with fail
      refine wp_region_list ?_
      refine pureL (.bool false) rfl (fun _ => by kernel_rfl) ?_
      simp only [Act.put, List.setIfInBounds_toArray, List.set_cons_zero, List.set_cons_succ]
      refine pureL (.bool true) rfl (fun _ => by kernel_rfl) ?_
      simp only [Act.put, List.setIfInBounds_toArray, List.set_cons_zero, List.set_cons_succ]
      show Exit.then _ _ _ _ _
      have hN : tN len z = 0 := by unfold tN; rw [hE]; rfl
      have hA := show Hid _ from (And.intro hN hE)
      clear hN hE
      go_wp2
      go_ret2
      exact ⟨by rw [hA.out.1, hA.out.2]; rfl, T.below, fun h => by rw [hA.out.2] at h; omega⟩
    · have hcz : w2.cell? (ad.add 0) = some (.int .u8 (z 0)) := by
        have hb : (ad.add 0).block < w0.heap.size := World.block_lt_of_cell? w0 _ hc0
        rw [T.below.cell hb]
        exact hc0
      have hnn := tV_nonneg z len hz m (by omega)
      refine ⟨_, rfl, ?_⟩
      simp only [Act.put, List.setIfInBounds_toArray, List.set_cons_zero, List.set_cons_succ]
      refine pureL (.tuple #[(.slice tp m tc), .bool true]) rfl (fun _ => by kernel_rfl) ?_
      simp only [Act.put, List.setIfInBounds_toArray, List.set_cons_zero, List.set_cons_succ]
      refine pureL (.slice tp m tc) rfl (fun _ => by kernel_rfl) ?_
      simp only [Act.put, List.setIfInBounds_toArray, List.set_cons_zero, List.set_cons_succ]
      refine pureL (.bool true) rfl (fun _ => by kernel_rfl) ?_
      simp only [Act.put, List.setIfInBounds_toArray, List.set_cons_zero, List.set_cons_succ]
      refine pureL (.slice tp m tc) rfl (fun _ => by kernel_rfl) ?_
      simp only [Act.put, List.setIfInBounds_toArray, List.set_cons_zero, List.set_cons_succ]
      refine pureL (.bool true) rfl (fun _ => by kernel_rfl) ?_
      simp only [Act.put, List.setIfInBounds_toArray, List.set_cons_zero, List.set_cons_succ]
      show Exit.then _ _ _ _ _
      go_upto_region 6 with fail
      refine wp_region_list ?_
      refine pureL (.bool true) rfl (fun _ => by kernel_rfl) ?_
      simp only [Act.put, List.setIfInBounds_toArray, List.set_cons_zero, List.set_cons_succ]
      refine pureL (.bool false) rfl (fun _ => by kernel_rfl) ?_
      simp only [Act.put, List.setIfInBounds_toArray, List.set_cons_zero, List.set_cons_succ]
      show Exit.then _ _ _ _ _
      go_upto_region 8 with fail
      refine wp_region_list ?_
      refine pureL (.slice (some ad) 1 cap) rfl (fun _ => by kernel_rfl) ?_
      simp only [Act.put, List.setIfInBounds_toArray, List.set_cons_zero, List.set_cons_succ]
      refine pureL (.pointer (some (ad.add 0))) rfl (fun w => idxSl 22 5 1 cap .i64 ad 0 _ _ Try.underlying22 (fun _ => by kernel_rfl) (by omega) rfl rfl rfl w) ?_
      simp only [Act.put, List.setIfInBounds_toArray, List.set_cons_zero, List.set_cons_succ]
      refine readL (.int .u8 (z 0)) rfl (loadAny 5 .u8 _ (ad.add 0) _ rfl rfl Try.underlying5 hcz) ?_
      simp only [Act.put, List.setIfInBounds_toArray, List.set_cons_zero, List.set_cons_succ]
      refine pureL (.int .i64 (z 0)) rfl (fun w => convI .u8 .i64 _ _ _ _ _ rfl (by kernel_rfl) Try.underlying3 (by kernel_rfl) rfl (by rw [IntKind.wrap_i64]; omega) w) ?_
      simp only [Act.put, List.setIfInBounds_toArray, List.set_cons_zero, List.set_cons_succ]
      refine pureL (.int .i64 ((z 0) % 64)) rfl (fun w => vandI .i64 _ _ _ _ _ _ _ rfl rfl rfl (i64_and63 _) w) ?_
      simp only [Act.put, List.setIfInBounds_toArray, List.set_cons_zero, List.set_cons_succ]
      refine pureL (.slice tp m tc) rfl (fun _ => by kernel_rfl) ?_
      simp only [Act.put, List.setIfInBounds_toArray, List.set_cons_zero, List.set_cons_succ]
      refine callL rfl (fun _ => by kernel_rfl) (join_any (z 0 % 64) (by omega) tp m tc (by omega) (fun j => z (1 + j)) (fun j hj => hz (1 + j) (by omega)) _ (hs2.below T.below (Nat.le_refl _))) ?_
      rintro e w3 ⟨rfl, l⟩
      refine ⟨_, rfl, ?_⟩
      simp only [Act.put, List.setIfInBounds_toArray, List.set_cons_zero, List.set_cons_succ]
      rw [jV_one z m]
      replace T := T.call l
      clear l hcz
      obtain ⟨q, hq⟩ := Int.eq_ofNat_of_zero_le hnn.1
      rw [hq]
      refine pureL (.int .i64 (q : Int)) rfl (fun _ => by kernel_rfl) ?_
      simp only [Act.put, List.setIfInBounds_toArray, List.set_cons_zero, List.set_cons_succ]
      show Exit.then _ _ _ _ _
      have hv4 := vsz_four q
      have htE : tE len z = if vsz q ≠ tK (z 0) then 90 else 0 := by
        unfold tE
        rw [if_neg (by omega), if_neg (by omega), hm, Nat.add_sub_cancel, hq, Int.toNat_natCast]
      by_cases h3 : vsz q ≠ tK (z 0)
      · have hE : tE len z = 90 := by rw [htE, if_pos h3]
        have hd : vkd (tK (z 0)) ≠ vkd (vsz q) := fun e => h3 (vkd_inj _ _ (by omega) (by omega) e).symm
        go_upto_region 9 with fail
        refine wp_region_list ?_
        refine pureL (.int .i64 (((vkd (tK (z 0))) : Nat) : Int)) rfl (fun _ => by kernel_rfl) ?_
        simp only [Act.put, List.setIfInBounds_toArray, List.set_cons_zero, List.set_cons_succ]
        refine pureL (.int .i64 (q : Int)) rfl (fun _ => by kernel_rfl) ?_
        simp only [Act.put, List.setIfInBounds_toArray, List.set_cons_zero, List.set_cons_succ]
        refine callL rfl (fun _ => by kernel_rfl) (tell_any q _) ?_
        rintro e w4 ⟨rfl, l⟩
        refine ⟨_, rfl, ?_⟩
        simp only [Act.put, List.setIfInBounds_toArray, List.set_cons_zero, List.set_cons_succ]
        replace T := T.call l
        clear l
        refine pureL (.bool true) rfl (fun w => neqI .i64 _ _ _ _ _ _ rfl rfl rfl true (by simp; omega) w) ?_
        simp only [Act.put, List.setIfInBounds_toArray, List.set_cons_zero, List.set_cons_succ]
        show Exit.then _ _ _ _ _
        have hN : tN len z = 0 := by unfold tN; rw [hE]; rfl
        have hA := show Hid _ from (And.intro hN hE)
        clear hN hE
        go_wp2
        go_ret2
        exact ⟨by rw [hA.out.1, hA.out.2]; rfl, T.below, fun h => by rw [hA.out.2] at h; omega⟩
      · have h3' : vsz q = tK (z 0) := by omega
        have hE : tE len z = 0 := by rw [htE, if_neg h3]
        have hN : tN len z = (q : Int) := by unfold tN; rw [if_pos hE, hm, Nat.add_sub_cancel, hq]
        have hL : tL len z = len - 1 - m := by unfold tL; rw [if_pos hE, hm]; omega
        have hR : (fun j => (fun j => z (1 + j)) (m + j)) = tR z := by unfold tR; funext j; rw [hm]; show z (1 + (m + j)) = z (m + 1 + j); rw [show 1 + (m + j) = m + 1 + j by omega]
        go_upto_region 9 with fail
        refine wp_region_list ?_
        refine pureL (.int .i64 (((vkd (tK (z 0))) : Nat) : Int)) rfl (fun _ => by kernel_rfl) ?_
        simp only [Act.put, List.setIfInBounds_toArray, List.set_cons_zero, List.set_cons_succ]
        refine pureL (.int .i64 (q : Int)) rfl (fun _ => by kernel_rfl) ?_
        simp only [Act.put, List.setIfInBounds_toArray, List.set_cons_zero, List.set_cons_succ]
        refine callL rfl (fun _ => by kernel_rfl) (tell_any q _) ?_
        rintro e w4 ⟨rfl, l⟩
        refine ⟨_, rfl, ?_⟩
        simp only [Act.put, List.setIfInBounds_toArray, List.set_cons_zero, List.set_cons_succ]
        replace T := T.call l
        clear l
        refine pureL (.bool false) rfl (fun w => neqI .i64 _ _ _ _ _ _ rfl rfl rfl false (by rw [h3']; simp) w) ?_
        simp only [Act.put, List.setIfInBounds_toArray, List.set_cons_zero, List.set_cons_succ]
        show Exit.then _ _ _ _ _
        rw [hR] at T
        have hA := show Hid _ from (And.intro hN (And.intro hE hL))
        clear hN hE hL hR htE
        go_upto_region 11 with fail
        refine wp_region_list ?_
        refine pureL (.int .i64 (q : Int)) rfl (fun _ => by kernel_rfl) ?_
        simp only [Act.put, List.setIfInBounds_toArray, List.set_cons_zero, List.set_cons_succ]
        refine pureL (.int .i64 (q : Int)) rfl (fun _ => by kernel_rfl) ?_
        simp only [Act.put, List.setIfInBounds_toArray, List.set_cons_zero, List.set_cons_succ]
        refine pureL (.int .i64 0) rfl (fun _ => by kernel_rfl) ?_
        simp only [Act.put, List.setIfInBounds_toArray, List.set_cons_zero, List.set_cons_succ]
        show Exit.then _ _ _ _ _
        go_wp2
        go_ret2
        exact ⟨by rw [hA.out.1, hA.out.2.1]; rfl, T.below, fun _ => by rw [hA.out.2.2]; exact T⟩

set_option maxRecDepth 10000 in
set_option maxHeartbeats 8000000 in
theorem isSize_any (s : Int) (w : World) : Calls Try.prog 27 #[.int .i64 s] w fun e w' => e = .returned (.bool (decide (1 ≤ s ∧ s ≤ 7))) ∧ Below w.heap.size w w' := by
  have hB := Below.refl w.heap.size w
  by_cases h1 : 1 ≤ s
  · by_cases h2 : s ≤ 7
    · rw [decide_eq_true (And.intro h1 h2)]
      go_enter Try.func27, Try.ntmps27
      go_wp2
      go_ret
      exact ⟨rfl, hB⟩
    · rw [decide_eq_false (fun h => h2 h.2)]
      go_enter Try.func27, Try.ntmps27
      go_wp2
      go_ret
      exact ⟨rfl, hB⟩
  · rw [decide_eq_false (fun h => h1 h.1)]
    go_enter Try.func27, Try.ntmps27
    go_wp2
    go_ret
    exact ⟨rfl, hB⟩
end Go.Proofs.Ytogbdoikkmdopaa

namespace Go.Proofs.Ytogbdoikkmdopaa
open Go.RowKit

/-- One of two. -/
def pk2 {α : Type} (a b : α) : Nat → α
  | 0 => a
  | _ => b
theorem tot2 (a b : Nat) : tot (pk2 a b) 2 = a + b := by show 0 + a + b = _; omega
theorem catIn2 {w : World} (C : Nat) (p1 p2 : Option Addr) (l1 l2 c1 c2 : Nat) (z1 z2 : Nat → Int) (t : TypeId) (hC : C = w.heap.size) (h1 : Src w p1 l1 z1) (h2 : Src w p2 l2 z2) (n1 : p1 = none → c1 = 0) (n2 : p2 = none → c2 = 0) :
    CatIn (w.alloc (.cells #[.slice p1 l1 c1, .slice p2 l2 c2] t)) ⟨C, 0, none⟩ 2 (pk2 p1 p2) (pk2 l1 l2) (pk2 c1 c2) (pk2 z1 z2) := by
  have hb := (Below.refl w.heap.size w).alloc (Nat.le_refl _) (.cells #[.slice p1 l1 c1, .slice p2 l2 c2] t)
  refine ⟨fun j hj => ?_, fun j hj => ?_, fun j hj => ?_⟩
  · rw [Addr.add_mid, World.cell?_alloc_at _ _ _ _ hC]
    match j, hj with
    | 0, _ | 1, _ => rfl
    | _ + 2, h => omega
  · match j, hj with
    | 0, _ => exact h1.below hb (Nat.le_refl _)
    | 1, _ => exact h2.below hb (Nat.le_refl _)
    | _ + 2, h => omega
  · match j, hj with
    | 0, _ => exact n1
    | 1, _ => exact n2
    | _ + 2, h => omega
theorem catz2 (a b : Nat) (z1 z2 : Nat → Int) (j : Nat) : catz (pk2 a b) (pk2 z1 z2) 2 j = app z1 a z2 j := by
  show app (app (fun _ => 0) 0 z1) (0 + a) z2 j = app z1 a z2 j
  unfold app
  rw [Nat.zero_add]
  by_cases h : j < a
  · rw [if_pos h, if_pos h, if_neg (Nat.not_lt_zero j), Nat.sub_zero]
  · rw [if_neg h, if_neg h]
theorem catz3 (a b c : Nat) (z1 z2 z3 : Nat → Int) (j : Nat) : catz (pk3 a b c) (pk3 z1 z2 z3) 3 j = app (app z1 a z2) (a + b) z3 j := by
  show app (app (app (fun _ => 0) 0 z1) (0 + a) z2) (0 + a + b) z3 j = app (app z1 a z2) (a + b) z3 j
  rw [Nat.zero_add]
  unfold app
  by_cases h : j < a + b
  · rw [if_pos h, if_pos h]
    by_cases h' : j < a
    · rw [if_pos h', if_pos h', if_neg (Nat.not_lt_zero j), Nat.sub_zero]
    · rw [if_neg h', if_neg h']
  · rw [if_neg h, if_neg h]

set_option maxRecDepth 10000 in
set_option maxHeartbeats 8000000 in
theorem vputvar_any : PutVarOK := by
  intro sp len cap hlen hcap hnil z hz n hn w hs
  have hB := Below.refl w.heap.size w
  by_cases hb : vbad n
  · have e1 : vE n = 1 := by unfold vE; rw [if_pos hb]
    have e2 : vL len n = 0 := by unfold vL; rw [if_pos hb]
    unfold vbad at hb
    have fin : PutV len z n w.heap.size (.returned (.tuple #[.slice none 0 0, .int .i64 1])) w := ⟨_, by rw [e1], by rw [e2]; exact World.ownsRow_nil w _ _ 1⟩
    by_cases h1 : n < 0
    · clear hb hn
      go_enter Try.func10, Try.ntmps10
      go_wp2
      go_ret2
      exact ⟨fin, hB⟩
    · have h2 : 4611686018427387903 < n := by omega
      have h2' : 4611686018427387904 ≤ n := by omega
      clear hb hn
      go_enter Try.func10, Try.ntmps10
      go_wp2
      go_ret2
      exact ⟨fin, hB⟩
  · have e1 : vE n = 0 := by unfold vE; rw [if_neg hb]
    have e2 : vL len n = len + vsz n.toNat := by unfold vL; rw [if_neg hb]
    have e3 : vput len z n = app z len (vby n.toNat) := rfl
    unfold vbad at hb
    obtain ⟨n, rfl⟩ := Int.eq_ofNat_of_zero_le (show 0 ≤ n by omega)
    rw [Int.toNat_natCast] at e2 e3
    have h1 : ¬ (n : Int) < 0 := by omega
    have h2 : ¬ 4611686018427387903 < (n : Int) := by omega
    have h2' : ¬ 4611686018427387904 ≤ (n : Int) := by omega
    have hv8 := vsz_le n
    go_enter Try.func10, Try.ntmps10
    go_upto_region 3 with fail
    clear h1 h2 h2'
    refine wp_region_list ?_
    refine pureL (.slice sp len cap) rfl (fun _ => by kernel_rfl) ?_
    simp only [Act.put, List.setIfInBounds_toArray, List.set_cons_zero, List.set_cons_succ]
    refine pureL (.int .i64 (n : Int)) rfl (fun _ => by kernel_rfl) ?_
    simp only [Act.put, List.setIfInBounds_toArray, List.set_cons_zero, List.set_cons_succ]
    refine callL rfl (fun _ => by kernel_rfl) (least_any n (by omega) _) ?_
    rintro e w1 ⟨B, rfl, hS, hB⟩
    refine ⟨_, rfl, ?_⟩
    simp only [Act.put, List.setIfInBounds_toArray, List.set_cons_zero, List.set_cons_succ]
    refine actL (w' := w1.alloc (.cells #[.slice sp len cap, .slice (some ⟨B, 8 - vsz n, none⟩) (vsz n) (vsz n)] 22)) (.slice (some ⟨w1.heap.size, 0, none⟩) 2 2) rfl (by kernel_rfl) ?_
    simp only [Act.put, List.setIfInBounds_toArray, List.set_cons_zero, List.set_cons_succ]
    have HC := catIn2 w1.heap.size sp (some ⟨B, 8 - vsz n, none⟩) len (vsz n) cap (vsz n) z (vby n) 22 rfl (hs.below hB (Nat.le_refl _)) hS hnil (fun e => by cases e)
    replace hB := hB.alloc hB.size (.cells #[.slice sp len cap, .slice (some ⟨B, 8 - vsz n, none⟩) (vsz n) (vsz n)] 22)
    refine callL rfl (fun _ => by kernel_rfl) (concat_any ⟨w1.heap.size, 0, none⟩ 2 2 _ _ _ _ (by decide) (by rw [tot2]; omega) _ HC) ?_
    rintro e w2 ⟨v, rfl, hO, hb⟩
    rw [tot2] at hO
    have hO2 : Own w2 w.heap.size 5 .u8 (len + vsz n) (app z len (vby n)) v := (hO.congr fun j _ => catz2 _ _ _ _ j).lower hB.size
    replace hB := hB.trans (hb.mono hB.size)
    clear hO hb HC hS
    refine ⟨_, rfl, ?_⟩
    simp only [Act.put, List.setIfInBounds_toArray, List.set_cons_zero, List.set_cons_succ]
    refine pureL v rfl (fun _ => by kernel_rfl) ?_
    simp only [Act.put, List.setIfInBounds_toArray, List.set_cons_zero, List.set_cons_succ]
    refine pureL (.int .i64 0) rfl (fun _ => by kernel_rfl) ?_
    simp only [Act.put, List.setIfInBounds_toArray, List.set_cons_zero, List.set_cons_succ]
    show Exit.then _ _ _ _ _
    go_wp2
    go_ret2
    exact ⟨⟨v, by rw [e1]; rfl, by rw [e2, e3]; exact hO2⟩, hB⟩

set_option maxRecDepth 10000 in
set_option maxHeartbeats 8000000 in
theorem vtakevar_any : TakeVarOK := by
  intro sp len cap hlen hcap hnil z hz w hs
  have hle : tL len z ≤ len := by unfold tL; split <;> omega
  go_enter Try.func12, Try.ntmps12
  go_upto_region 1 with fail
  refine wp_region_list ?_
  refine pureL (.slice sp len cap) rfl (fun _ => by kernel_rfl) ?_
  simp only [Act.put, List.setIfInBounds_toArray, List.set_cons_zero, List.set_cons_succ]
  refine callL rfl (fun _ => by kernel_rfl) (along_any sp len cap hcap hnil z _ hs) ?_
  rintro e w1 ⟨B, rfl, T⟩
  refine ⟨_, rfl, ?_⟩
  simp only [Act.put, List.setIfInBounds_toArray, List.set_cons_zero, List.set_cons_succ]
  refine pureL (.tuple #[(.func (.func 33) #[] #[.pointer (some ⟨B, 0, none⟩)]), (.func (.func 34) #[] #[.pointer (some ⟨B, 0, none⟩)])]) rfl (fun _ => by kernel_rfl) ?_
  simp only [Act.put, List.setIfInBounds_toArray, List.set_cons_zero, List.set_cons_succ]
  refine pureL (.func (.func 33) #[] #[.pointer (some ⟨B, 0, none⟩)]) rfl (fun _ => by kernel_rfl) ?_
  simp only [Act.put, List.setIfInBounds_toArray, List.set_cons_zero, List.set_cons_succ]
  refine pureL (.func (.func 34) #[] #[.pointer (some ⟨B, 0, none⟩)]) rfl (fun _ => by kernel_rfl) ?_
  simp only [Act.put, List.setIfInBounds_toArray, List.set_cons_zero, List.set_cons_succ]
  refine pureL (.func (.func 33) #[] #[.pointer (some ⟨B, 0, none⟩)]) rfl (fun _ => by kernel_rfl) ?_
  simp only [Act.put, List.setIfInBounds_toArray, List.set_cons_zero, List.set_cons_succ]
  refine pureL (.func (.func 34) #[] #[.pointer (some ⟨B, 0, none⟩)]) rfl (fun _ => by kernel_rfl) ?_
  simp only [Act.put, List.setIfInBounds_toArray, List.set_cons_zero, List.set_cons_succ]
  show Exit.then _ _ _ _ _
  go_upto_region 2 with fail
  refine wp_region_list ?_
  refine pureL (.func (.func 33) #[] #[.pointer (some ⟨B, 0, none⟩)]) rfl (fun _ => by kernel_rfl) ?_
  simp only [Act.put, List.setIfInBounds_toArray, List.set_cons_zero, List.set_cons_succ]
  refine callL rfl (fun _ => by kernel_rfl) (number_any w B len z hz _ T) ?_
  rintro e w2 ⟨rfl, hB, T2⟩
  clear T
  refine ⟨_, rfl, ?_⟩
  simp only [Act.put, List.setIfInBounds_toArray, List.set_cons_zero, List.set_cons_succ]
  refine pureL (.tuple #[(.int .i64 (tN len z)), (.int .i64 (tE len z))]) rfl (fun _ => by kernel_rfl) ?_
  simp only [Act.put, List.setIfInBounds_toArray, List.set_cons_zero, List.set_cons_succ]
  refine pureL (.int .i64 (tN len z)) rfl (fun _ => by kernel_rfl) ?_
  simp only [Act.put, List.setIfInBounds_toArray, List.set_cons_zero, List.set_cons_succ]
  refine pureL (.int .i64 (tE len z)) rfl (fun _ => by kernel_rfl) ?_
  simp only [Act.put, List.setIfInBounds_toArray, List.set_cons_zero, List.set_cons_succ]
  refine pureL (.int .i64 (tN len z)) rfl (fun _ => by kernel_rfl) ?_
  simp only [Act.put, List.setIfInBounds_toArray, List.set_cons_zero, List.set_cons_succ]
  refine pureL (.int .i64 (tE len z)) rfl (fun _ => by kernel_rfl) ?_
  simp only [Act.put, List.setIfInBounds_toArray, List.set_cons_zero, List.set_cons_succ]
  show Exit.then _ _ _ _ _
  by_cases h1 : tE len z = 0
  · go_upto_region 3 with fail
    refine wp_region_list ?_
    refine pureL (.int .i64 (tE len z)) rfl (fun _ => by kernel_rfl) ?_
    simp only [Act.put, List.setIfInBounds_toArray, List.set_cons_zero, List.set_cons_succ]
    refine pureL (.bool false) rfl (fun w => neqI .i64 _ _ _ _ _ _ rfl rfl rfl false (by simp [h1]) w) ?_
    simp only [Act.put, List.setIfInBounds_toArray, List.set_cons_zero, List.set_cons_succ]
    show Exit.then _ _ _ _ _
    replace T2 := T2 h1
    go_upto_region 5 with fail
    refine wp_region_list ?_
    refine pureL (.int .i64 (tN len z)) rfl (fun _ => by kernel_rfl) ?_
    simp only [Act.put, List.setIfInBounds_toArray, List.set_cons_zero, List.set_cons_succ]
    refine pureL (.func (.func 34) #[] #[.pointer (some ⟨B, 0, none⟩)]) rfl (fun _ => by kernel_rfl) ?_
    simp only [Act.put, List.setIfInBounds_toArray, List.set_cons_zero, List.set_cons_succ]
    refine callL rfl (fun _ => by kernel_rfl) (left_any w B _ (by omega) _ _ T2) ?_
    rintro e w3 ⟨v, rfl, hO, l⟩
    obtain ⟨rp, rc, rfl, _, hR⟩ := hO.bytes
    clear hO
    replace hB := hB.trans (l.mono hB.size)
    clear T2 l
    refine ⟨_, rfl, ?_⟩
    simp only [Act.put, List.setIfInBounds_toArray, List.set_cons_zero, List.set_cons_succ]
    refine pureL (.int .i64 (tN len z)) rfl (fun _ => by kernel_rfl) ?_
    simp only [Act.put, List.setIfInBounds_toArray, List.set_cons_zero, List.set_cons_succ]
    refine pureL (.slice rp (tL len z) rc) rfl (fun _ => by kernel_rfl) ?_
    simp only [Act.put, List.setIfInBounds_toArray, List.set_cons_zero, List.set_cons_succ]
    refine pureL (.int .i64 0) rfl (fun _ => by kernel_rfl) ?_
    simp only [Act.put, List.setIfInBounds_toArray, List.set_cons_zero, List.set_cons_succ]
    show Exit.then _ _ _ _ _
    have h1' := show Hid _ from h1
    clear h1
    go_wp2
    refine bodyPost_ret (results_tmp3 Try.results12 _ _ _) rfl ?_
    exact ⟨⟨rp, rc, by rw [h1'.out]; rfl, hR⟩, hB⟩
  · have hN : tN len z = 0 := by unfold tN; rw [if_neg h1]
    have hL : tL len z = 0 := by unfold tL; rw [if_neg h1]
    clear T2
    go_upto_region 3 with fail
    refine wp_region_list ?_
    refine pureL (.int .i64 (tE len z)) rfl (fun _ => by kernel_rfl) ?_
    simp only [Act.put, List.setIfInBounds_toArray, List.set_cons_zero, List.set_cons_succ]
    refine pureL (.bool true) rfl (fun w => neqI .i64 _ _ _ _ _ _ rfl rfl rfl true (by simp [h1]) w) ?_
    simp only [Act.put, List.setIfInBounds_toArray, List.set_cons_zero, List.set_cons_succ]
    show Exit.then _ _ _ _ _
    have hA := show Hid _ from (And.intro hN hL)
    clear hN hL
    go_wp2
    refine bodyPost_ret (results_tmp3 Try.results12 _ _ _) rfl ?_
    exact ⟨⟨none, 0, by rw [hA.out.1, hA.out.2]; rfl, by rw [hA.out.2]; exact fun j hj => absurd hj (Nat.not_lt_zero j)⟩, hB⟩

theorem shl_bytes (s : Nat) (h : s ≤ 7) : IntKind.i64.wrap (1 * 2 ^ min ((8 * s : Nat) : Int).toNat IntKind.i64.bits) = ((256 ^ s : Nat) : Int) := by
  have : s = 0 ∨ s = 1 ∨ s = 2 ∨ s = 3 ∨ s = 4 ∨ s = 5 ∨ s = 6 ∨ s = 7 := by omega
  rcases this with rfl | rfl | rfl | rfl | rfl | rfl | rfl | rfl <;> rfl
set_option maxRecDepth 10000 in
set_option maxHeartbeats 8000000 in
theorem vputfixed_any : PutFixedOK := by
  intro sp len cap hlen hcap hnil z hz n hn s hs2 w hs
  go_enter Try.func16, Try.ntmps16
  by_cases hsz' : 1 ≤ s ∧ s ≤ 7
  · have hsz : decide (1 ≤ s ∧ s ≤ 7) = true := decide_eq_true hsz'
    by_cases h1 : n < 0
    · have hb : fbad n s := by unfold fbad; omega
      have e1 : fE n s = 1 := by unfold fE; rw [if_pos hb]
      have e2 : fL len n s = 0 := by unfold fL; rw [if_pos hb]
      go_upto_region 1 with fail
      refine wp_region_list ?_
      refine pureL (.int .i64 s) rfl (fun _ => by kernel_rfl) ?_
      simp only [Act.put, List.setIfInBounds_toArray, List.set_cons_zero, List.set_cons_succ]
      refine callL rfl (fun _ => by kernel_rfl) (isSize_any s _) ?_
      rintro e w1 ⟨rfl, hB⟩
      rw [hsz]
      refine ⟨_, rfl, ?_⟩
      simp only [Act.put, List.setIfInBounds_toArray, List.set_cons_zero, List.set_cons_succ]
      refine pureL (.bool false) rfl (fun _ => by kernel_rfl) ?_
      simp only [Act.put, List.setIfInBounds_toArray, List.set_cons_zero, List.set_cons_succ]
      refine pureL (.bool false) rfl (fun _ => by kernel_rfl) ?_
      simp only [Act.put, List.setIfInBounds_toArray, List.set_cons_zero, List.set_cons_succ]
      refine pureL (.int .i64 n) rfl (fun _ => by kernel_rfl) ?_
      simp only [Act.put, List.setIfInBounds_toArray, List.set_cons_zero, List.set_cons_succ]
      refine pureL (.bool true) rfl (fun w => lssI .i64 _ _ _ _ _ _ rfl rfl rfl true (decide_eq_true h1) w) ?_
      simp only [Act.put, List.setIfInBounds_toArray, List.set_cons_zero, List.set_cons_succ]
      refine pureL (.bool true) rfl (fun _ => by kernel_rfl) ?_
      simp only [Act.put, List.setIfInBounds_toArray, List.set_cons_zero, List.set_cons_succ]
      refine pureL (.bool true) rfl (fun _ => by kernel_rfl) ?_
      simp only [Act.put, List.setIfInBounds_toArray, List.set_cons_zero, List.set_cons_succ]
      refine skipL (by kernel_rfl) ?_
      simp only [Act.put, List.setIfInBounds_toArray, List.set_cons_zero, List.set_cons_succ]
      refine skipL (by kernel_rfl) ?_
      simp only [Act.put, List.setIfInBounds_toArray, List.set_cons_zero, List.set_cons_succ]
      refine skipL (by kernel_rfl) ?_
      simp only [Act.put, List.setIfInBounds_toArray, List.set_cons_zero, List.set_cons_succ]
      refine skipL (by kernel_rfl) ?_
      simp only [Act.put, List.setIfInBounds_toArray, List.set_cons_zero, List.set_cons_succ]
      refine skipL (by kernel_rfl) ?_
      simp only [Act.put, List.setIfInBounds_toArray, List.set_cons_zero, List.set_cons_succ]
      refine pureL (.bool true) rfl (fun _ => by kernel_rfl) ?_
      simp only [Act.put, List.setIfInBounds_toArray, List.set_cons_zero, List.set_cons_succ]
      show Exit.then _ _ _ _ _
      go_wp2
      go_ret2
      exact ⟨⟨_, by rw [e1]; rfl, by rw [e2]; exact World.ownsRow_nil _ _ _ 1⟩, hB⟩
    · obtain ⟨n, rfl⟩ := Int.eq_ofNat_of_zero_le (show 0 ≤ n by omega)
      obtain ⟨s, rfl⟩ := Int.eq_ofNat_of_zero_le (show 0 ≤ s by omega)
      have hpw : (256 : Int) ^ ((s : Nat) : Int).toNat = ((256 ^ s : Nat) : Int) := by rw [Int.toNat_natCast]; exact (Int.natCast_pow 256 s).symm
      by_cases h2 : 256 ^ s ≤ n
      · have hb : fbad (n : Int) (s : Int) := by unfold fbad; rw [hpw]; omega
        have e1 : fE (n : Int) (s : Int) = 1 := by unfold fE; rw [if_pos hb]
        have e2 : fL len (n : Int) (s : Int) = 0 := by unfold fL; rw [if_pos hb]
        go_upto_region 1 with fail
        refine wp_region_list ?_
        refine pureL (.int .i64 (s : Int)) rfl (fun _ => by kernel_rfl) ?_
        simp only [Act.put, List.setIfInBounds_toArray, List.set_cons_zero, List.set_cons_succ]
        refine callL rfl (fun _ => by kernel_rfl) (isSize_any s _) ?_
        rintro e w1 ⟨rfl, hB⟩
        rw [hsz]
        refine ⟨_, rfl, ?_⟩
        simp only [Act.put, List.setIfInBounds_toArray, List.set_cons_zero, List.set_cons_succ]
        refine pureL (.bool false) rfl (fun _ => by kernel_rfl) ?_
        simp only [Act.put, List.setIfInBounds_toArray, List.set_cons_zero, List.set_cons_succ]
        refine pureL (.bool false) rfl (fun _ => by kernel_rfl) ?_
        simp only [Act.put, List.setIfInBounds_toArray, List.set_cons_zero, List.set_cons_succ]
        refine pureL (.int .i64 (n : Int)) rfl (fun _ => by kernel_rfl) ?_
        simp only [Act.put, List.setIfInBounds_toArray, List.set_cons_zero, List.set_cons_succ]
        refine pureL (.bool false) rfl (fun w => lssI .i64 _ _ _ _ _ _ rfl rfl rfl false (decide_eq_false (by omega)) w) ?_
        simp only [Act.put, List.setIfInBounds_toArray, List.set_cons_zero, List.set_cons_succ]
        refine pureL (.bool false) rfl (fun _ => by kernel_rfl) ?_
        simp only [Act.put, List.setIfInBounds_toArray, List.set_cons_zero, List.set_cons_succ]
        refine pureL (.bool false) rfl (fun _ => by kernel_rfl) ?_
        simp only [Act.put, List.setIfInBounds_toArray, List.set_cons_zero, List.set_cons_succ]
        refine pureL (.int .i64 (n : Int)) rfl (fun _ => by kernel_rfl) ?_
        simp only [Act.put, List.setIfInBounds_toArray, List.set_cons_zero, List.set_cons_succ]
        refine pureL (.int .i64 (s : Int)) rfl (fun _ => by kernel_rfl) ?_
        simp only [Act.put, List.setIfInBounds_toArray, List.set_cons_zero, List.set_cons_succ]
        refine pureL (.int .i64 ((8 * s : Nat) : Int)) rfl (fun w => mulI .i64 _ _ _ _ _ _ _ rfl rfl rfl (by rw [IntKind.wrap_i64]; omega) w) ?_
        simp only [Act.put, List.setIfInBounds_toArray, List.set_cons_zero, List.set_cons_succ]
        refine pureL (.int .i64 ((256 ^ s : Nat) : Int)) rfl (fun w => shlI .i64 .i64 _ _ _ _ _ _ _ rfl rfl rfl (by omega) (shl_bytes s (by omega)) w) ?_
        simp only [Act.put, List.setIfInBounds_toArray, List.set_cons_zero, List.set_cons_succ]
        refine pureL (.bool true) rfl (fun w => geqI .i64 _ _ _ _ _ _ rfl rfl rfl true (decide_eq_true (by omega)) w) ?_
        simp only [Act.put, List.setIfInBounds_toArray, List.set_cons_zero, List.set_cons_succ]
        refine pureL (.bool true) rfl (fun _ => by kernel_rfl) ?_
        simp only [Act.put, List.setIfInBounds_toArray, List.set_cons_zero, List.set_cons_succ]
        show Exit.then _ _ _ _ _
        go_wp2
        go_ret2
        exact ⟨⟨_, by rw [e1]; rfl, by rw [e2]; exact World.ownsRow_nil _ _ _ 1⟩, hB⟩
      · have hb : ¬ fbad (n : Int) (s : Int) := by unfold fbad; rw [hpw]; omega
        have e1 : fE (n : Int) (s : Int) = 0 := by unfold fE; rw [if_neg hb]
        have e2 : fL len (n : Int) (s : Int) = len + s := by unfold fL; rw [if_neg hb, Int.toNat_natCast]
        have e3 : fput len z (n : Int) (s : Int) = app z len (fby n s) := rfl
        go_upto_region 1 with fail
        refine wp_region_list ?_
        refine pureL (.int .i64 (s : Int)) rfl (fun _ => by kernel_rfl) ?_
        simp only [Act.put, List.setIfInBounds_toArray, List.set_cons_zero, List.set_cons_succ]
        refine callL rfl (fun _ => by kernel_rfl) (isSize_any s _) ?_
        rintro e w1 ⟨rfl, hB⟩
        rw [hsz]
        refine ⟨_, rfl, ?_⟩
        simp only [Act.put, List.setIfInBounds_toArray, List.set_cons_zero, List.set_cons_succ]
        refine pureL (.bool false) rfl (fun _ => by kernel_rfl) ?_
        simp only [Act.put, List.setIfInBounds_toArray, List.set_cons_zero, List.set_cons_succ]
        refine pureL (.bool false) rfl (fun _ => by kernel_rfl) ?_
        simp only [Act.put, List.setIfInBounds_toArray, List.set_cons_zero, List.set_cons_succ]
        refine pureL (.int .i64 (n : Int)) rfl (fun _ => by kernel_rfl) ?_
        simp only [Act.put, List.setIfInBounds_toArray, List.set_cons_zero, List.set_cons_succ]
        refine pureL (.bool false) rfl (fun w => lssI .i64 _ _ _ _ _ _ rfl rfl rfl false (decide_eq_false (by omega)) w) ?_
        simp only [Act.put, List.setIfInBounds_toArray, List.set_cons_zero, List.set_cons_succ]
        refine pureL (.bool false) rfl (fun _ => by kernel_rfl) ?_
        simp only [Act.put, List.setIfInBounds_toArray, List.set_cons_zero, List.set_cons_succ]
        refine pureL (.bool false) rfl (fun _ => by kernel_rfl) ?_
        simp only [Act.put, List.setIfInBounds_toArray, List.set_cons_zero, List.set_cons_succ]
        refine pureL (.int .i64 (n : Int)) rfl (fun _ => by kernel_rfl) ?_
        simp only [Act.put, List.setIfInBounds_toArray, List.set_cons_zero, List.set_cons_succ]
        refine pureL (.int .i64 (s : Int)) rfl (fun _ => by kernel_rfl) ?_
        simp only [Act.put, List.setIfInBounds_toArray, List.set_cons_zero, List.set_cons_succ]
        refine pureL (.int .i64 ((8 * s : Nat) : Int)) rfl (fun w => mulI .i64 _ _ _ _ _ _ _ rfl rfl rfl (by rw [IntKind.wrap_i64]; omega) w) ?_
        simp only [Act.put, List.setIfInBounds_toArray, List.set_cons_zero, List.set_cons_succ]
        refine pureL (.int .i64 ((256 ^ s : Nat) : Int)) rfl (fun w => shlI .i64 .i64 _ _ _ _ _ _ _ rfl rfl rfl (by omega) (shl_bytes s (by omega)) w) ?_
        simp only [Act.put, List.setIfInBounds_toArray, List.set_cons_zero, List.set_cons_succ]
        refine pureL (.bool false) rfl (fun w => geqI .i64 _ _ _ _ _ _ rfl rfl rfl false (decide_eq_false (by omega)) w) ?_
        simp only [Act.put, List.setIfInBounds_toArray, List.set_cons_zero, List.set_cons_succ]
        refine pureL (.bool false) rfl (fun _ => by kernel_rfl) ?_
        simp only [Act.put, List.setIfInBounds_toArray, List.set_cons_zero, List.set_cons_succ]
        show Exit.then _ _ _ _ _
        go_upto_region 3 with fail
        refine wp_region_list ?_
        refine pureL (.slice sp len cap) rfl (fun _ => by kernel_rfl) ?_
        simp only [Act.put, List.setIfInBounds_toArray, List.set_cons_zero, List.set_cons_succ]
        refine pureL (.int .i64 (n : Int)) rfl (fun _ => by kernel_rfl) ?_
        simp only [Act.put, List.setIfInBounds_toArray, List.set_cons_zero, List.set_cons_succ]
        refine pureL (.int .i64 (s : Int)) rfl (fun _ => by kernel_rfl) ?_
        simp only [Act.put, List.setIfInBounds_toArray, List.set_cons_zero, List.set_cons_succ]
        refine callL rfl (fun _ => by kernel_rfl) (lowest_any n s (by omega) _) ?_
        rintro e w2 ⟨rfl, R⟩
        have hS : Src w2 (some ⟨w1.heap.size, 8 - s, none⟩) s (fby n s) := ((R.get _ _ _ _ List.mem_cons_self).src (8 - s) s (by omega)).congr fun j hj => fby_tail n s j (by omega) hj
        replace hB := hB.trans (R.below.mono hB.size)
        clear R
        generalize w1.heap.size = B at *
        refine ⟨_, rfl, ?_⟩
        simp only [Act.put, List.setIfInBounds_toArray, List.set_cons_zero, List.set_cons_succ]
        refine actL (w' := w2.alloc (.cells #[.slice sp len cap, .slice (some ⟨B, 8 - s, none⟩) (s) (s)] 22)) (.slice (some ⟨w2.heap.size, 0, none⟩) 2 2) rfl (by kernel_rfl) ?_
        simp only [Act.put, List.setIfInBounds_toArray, List.set_cons_zero, List.set_cons_succ]
        have HC := catIn2 w2.heap.size sp (some ⟨B, 8 - s, none⟩) len (s) cap (s) z (fby n s) 22 rfl (hs.below hB (Nat.le_refl _)) hS hnil (fun e => by cases e)
        replace hB := hB.alloc hB.size (.cells #[.slice sp len cap, .slice (some ⟨B, 8 - s, none⟩) (s) (s)] 22)
        refine callL rfl (fun _ => by kernel_rfl) (concat_any ⟨w2.heap.size, 0, none⟩ 2 2 _ _ _ _ (by decide) (by rw [tot2]; omega) _ HC) ?_
        rintro e w3 ⟨v, rfl, hO, hb⟩
        rw [tot2] at hO
        have hO2 : Own w3 w.heap.size 5 .u8 (len + s) (app z len (fby n s)) v := (hO.congr fun j _ => catz2 _ _ _ _ j).lower hB.size
        replace hB := hB.trans (hb.mono hB.size)
        clear hO hb HC hS
        refine ⟨_, rfl, ?_⟩
        simp only [Act.put, List.setIfInBounds_toArray, List.set_cons_zero, List.set_cons_succ]
        refine pureL v rfl (fun _ => by kernel_rfl) ?_
        simp only [Act.put, List.setIfInBounds_toArray, List.set_cons_zero, List.set_cons_succ]
        refine pureL (.int .i64 0) rfl (fun _ => by kernel_rfl) ?_
        simp only [Act.put, List.setIfInBounds_toArray, List.set_cons_zero, List.set_cons_succ]
        show Exit.then _ _ _ _ _
        go_wp2
        go_ret2
        exact ⟨⟨v, by rw [e1]; rfl, by rw [e2, e3]; exact hO2⟩, hB⟩
  · have hsz : decide (1 ≤ s ∧ s ≤ 7) = false := decide_eq_false hsz'
    have hb : fbad n s := by unfold fbad; omega
    have e1 : fE n s = 1 := by unfold fE; rw [if_pos hb]
    have e2 : fL len n s = 0 := by unfold fL; rw [if_pos hb]
    go_upto_region 1 with fail
    refine wp_region_list ?_
    refine pureL (.int .i64 s) rfl (fun _ => by kernel_rfl) ?_
    simp only [Act.put, List.setIfInBounds_toArray, List.set_cons_zero, List.set_cons_succ]
    refine callL rfl (fun _ => by kernel_rfl) (isSize_any s _) ?_
    rintro e w1 ⟨rfl, hB⟩
    rw [hsz]
    refine ⟨_, rfl, ?_⟩
    simp only [Act.put, List.setIfInBounds_toArray, List.set_cons_zero, List.set_cons_succ]
    refine pureL (.bool true) rfl (fun _ => by kernel_rfl) ?_
    simp only [Act.put, List.setIfInBounds_toArray, List.set_cons_zero, List.set_cons_succ]
    refine pureL (.bool true) rfl (fun _ => by kernel_rfl) ?_
    simp only [Act.put, List.setIfInBounds_toArray, List.set_cons_zero, List.set_cons_succ]
    refine skipL (by kernel_rfl) ?_
    simp only [Act.put, List.setIfInBounds_toArray, List.set_cons_zero, List.set_cons_succ]
    refine skipL (by kernel_rfl) ?_
    simp only [Act.put, List.setIfInBounds_toArray, List.set_cons_zero, List.set_cons_succ]
    refine pureL (.bool true) rfl (fun _ => by kernel_rfl) ?_
    simp only [Act.put, List.setIfInBounds_toArray, List.set_cons_zero, List.set_cons_succ]
    refine pureL (.bool true) rfl (fun _ => by kernel_rfl) ?_
    simp only [Act.put, List.setIfInBounds_toArray, List.set_cons_zero, List.set_cons_succ]
    refine skipL (by kernel_rfl) ?_
    simp only [Act.put, List.setIfInBounds_toArray, List.set_cons_zero, List.set_cons_succ]
    refine skipL (by kernel_rfl) ?_
    simp only [Act.put, List.setIfInBounds_toArray, List.set_cons_zero, List.set_cons_succ]
    refine skipL (by kernel_rfl) ?_
    simp only [Act.put, List.setIfInBounds_toArray, List.set_cons_zero, List.set_cons_succ]
    refine skipL (by kernel_rfl) ?_
    simp only [Act.put, List.setIfInBounds_toArray, List.set_cons_zero, List.set_cons_succ]
    refine skipL (by kernel_rfl) ?_
    simp only [Act.put, List.setIfInBounds_toArray, List.set_cons_zero, List.set_cons_succ]
    refine pureL (.bool true) rfl (fun _ => by kernel_rfl) ?_
    simp only [Act.put, List.setIfInBounds_toArray, List.set_cons_zero, List.set_cons_succ]
    show Exit.then _ _ _ _ _
    go_wp2
    go_ret2
    exact ⟨⟨_, by rw [e1]; rfl, by rw [e2]; exact World.ownsRow_nil _ _ _ 1⟩, hB⟩

set_option maxRecDepth 10000 in
set_option maxHeartbeats 8000000 in
theorem vtakefixed_any : TakeFixedOK := by
  intro sp len cap hlen hcap hnil z hz s hs2 w hs
  go_enter Try.func14, Try.ntmps14
  by_cases hsz' : 1 ≤ s ∧ s ≤ 7
  · have hsz : decide (1 ≤ s ∧ s ≤ 7) = true := decide_eq_true hsz'
    have hgE : gE len s = if (len : Int) < s then 3 else 0 := by unfold gE; rw [if_neg (by omega)]
    go_upto_region 1 with fail
    refine wp_region_list ?_
    refine pureL (.int .i64 s) rfl (fun _ => by kernel_rfl) ?_
    simp only [Act.put, List.setIfInBounds_toArray, List.set_cons_zero, List.set_cons_succ]
    refine callL rfl (fun _ => by kernel_rfl) (isSize_any s _) ?_
    rintro e w1 ⟨rfl, hB⟩
    rw [hsz]
    refine ⟨_, rfl, ?_⟩
    simp only [Act.put, List.setIfInBounds_toArray, List.set_cons_zero, List.set_cons_succ]
    refine pureL (.bool false) rfl (fun _ => by kernel_rfl) ?_
    simp only [Act.put, List.setIfInBounds_toArray, List.set_cons_zero, List.set_cons_succ]
    show Exit.then _ _ _ _ _
    clear hsz
    obtain ⟨s, rfl⟩ := Int.eq_ofNat_of_zero_le (show 0 ≤ s by omega)
    go_upto_region 3 with fail
    refine wp_region_list ?_
    refine pureL (.slice sp len cap) rfl (fun _ => by kernel_rfl) ?_
    simp only [Act.put, List.setIfInBounds_toArray, List.set_cons_zero, List.set_cons_succ]
    refine callL rfl (fun _ => by kernel_rfl) (along_any sp len cap hcap hnil z _ (hs.below hB (Nat.le_refl _))) ?_
    rintro e w2 ⟨B, rfl, T⟩
    refine ⟨_, rfl, ?_⟩
    simp only [Act.put, List.setIfInBounds_toArray, List.set_cons_zero, List.set_cons_succ]
    refine pureL (.tuple #[(.func (.func 33) #[] #[.pointer (some ⟨B, 0, none⟩)]), (.func (.func 34) #[] #[.pointer (some ⟨B, 0, none⟩)])]) rfl (fun _ => by kernel_rfl) ?_
    simp only [Act.put, List.setIfInBounds_toArray, List.set_cons_zero, List.set_cons_succ]
    refine pureL (.func (.func 33) #[] #[.pointer (some ⟨B, 0, none⟩)]) rfl (fun _ => by kernel_rfl) ?_
    simp only [Act.put, List.setIfInBounds_toArray, List.set_cons_zero, List.set_cons_succ]
    refine pureL (.func (.func 34) #[] #[.pointer (some ⟨B, 0, none⟩)]) rfl (fun _ => by kernel_rfl) ?_
    simp only [Act.put, List.setIfInBounds_toArray, List.set_cons_zero, List.set_cons_succ]
    refine pureL (.func (.func 33) #[] #[.pointer (some ⟨B, 0, none⟩)]) rfl (fun _ => by kernel_rfl) ?_
    simp only [Act.put, List.setIfInBounds_toArray, List.set_cons_zero, List.set_cons_succ]
    refine pureL (.func (.func 34) #[] #[.pointer (some ⟨B, 0, none⟩)]) rfl (fun _ => by kernel_rfl) ?_
    simp only [Act.put, List.setIfInBounds_toArray, List.set_cons_zero, List.set_cons_succ]
    show Exit.then _ _ _ _ _
    go_upto_region 4 with fail
    refine wp_region_list ?_
    refine pureL (.func (.func 33) #[] #[.pointer (some ⟨B, 0, none⟩)]) rfl (fun _ => by kernel_rfl) ?_
    simp only [Act.put, List.setIfInBounds_toArray, List.set_cons_zero, List.set_cons_succ]
    refine pureL (.int .i64 (s : Int)) rfl (fun _ => by kernel_rfl) ?_
    simp only [Act.put, List.setIfInBounds_toArray, List.set_cons_zero, List.set_cons_succ]
    refine callL rfl (fun _ => by kernel_rfl) (next_any w1 B len z s _ T) ?_
    intro e w3 h
    clear T
    rcases h with ⟨h1, rfl, T⟩ | ⟨h1, dp, dc, rfl, hdc, hdn, hds, T⟩
    · have hE : gE len (s : Int) = 3 := by rw [hgE, if_pos (by omega)]
      have hN : gN len z (s : Int) = 0 := by unfold gN; rw [hE]; rfl
      have hL : gL len (s : Int) = 0 := by unfold gL; rw [hE]; rfl
      replace hB := hB.trans (T.below.mono hB.size)
      refine ⟨_, rfl, ?_⟩
      simp only [Act.put, List.setIfInBounds_toArray, List.set_cons_zero, List.set_cons_succ]
      refine pureL (.tuple #[(.slice none 0 0), .bool false]) rfl (fun _ => by kernel_rfl) ?_
      simp only [Act.put, List.setIfInBounds_toArray, List.set_cons_zero, List.set_cons_succ]
      refine pureL (.slice none 0 0) rfl (fun _ => by kernel_rfl) ?_
      simp only [Act.put, List.setIfInBounds_toArray, List.set_cons_zero, List.set_cons_succ]
      refine pureL (.bool false) rfl (fun _ => by kernel_rfl) ?_
      simp only [Act.put, List.setIfInBounds_toArray, List.set_cons_zero, List.set_cons_succ]
      refine pureL (.slice none 0 0) rfl (fun _ => by kernel_rfl) ?_
      simp only [Act.put, List.setIfInBounds_toArray, List.set_cons_zero, List.set_cons_succ]
      refine pureL (.bool false) rfl (fun _ => by kernel_rfl) ?_
      simp only [Act.put, List.setIfInBounds_toArray, List.set_cons_zero, List.set_cons_succ]
      show Exit.then _ _ _ _ _
      go_upto_region 5 with fail
      refine wp_region_list ?_
      refine pureL (.bool false) rfl (fun _ => by kernel_rfl) ?_
      simp only [Act.put, List.setIfInBounds_toArray, List.set_cons_zero, List.set_cons_succ]
      refine pureL (.bool true) rfl (fun _ => by kernel_rfl) ?_
      simp only [Act.put, List.setIfInBounds_toArray, List.set_cons_zero, List.set_cons_succ]
      show Exit.then _ _ _ _ _
      have hA := show Hid _ from (And.intro hN (And.intro hL hE))
      clear hN hL hE
      go_wp2
      refine bodyPost_ret (results_tmp3 Try.results14 _ _ _) rfl ?_
      exact ⟨⟨none, 0, by rw [hA.out.1, hA.out.2.1, hA.out.2.2]; rfl, by rw [hA.out.2.1]; exact fun j hj => absurd hj (Nat.not_lt_zero j)⟩, hB⟩
    · have hE : gE len (s : Int) = 0 := by rw [hgE, if_neg (by omega)]
      have hN : gN len z (s : Int) = fV z s := by unfold gN; rw [if_pos hE, Int.toNat_natCast]
      have hL : gL len (s : Int) = len - s := by unfold gL; rw [if_pos hE, Int.toNat_natCast]
      refine ⟨_, rfl, ?_⟩
      simp only [Act.put, List.setIfInBounds_toArray, List.set_cons_zero, List.set_cons_succ]
      refine pureL (.tuple #[(.slice dp s dc), .bool true]) rfl (fun _ => by kernel_rfl) ?_
      simp only [Act.put, List.setIfInBounds_toArray, List.set_cons_zero, List.set_cons_succ]
      refine pureL (.slice dp s dc) rfl (fun _ => by kernel_rfl) ?_
      simp only [Act.put, List.setIfInBounds_toArray, List.set_cons_zero, List.set_cons_succ]
      refine pureL (.bool true) rfl (fun _ => by kernel_rfl) ?_
      simp only [Act.put, List.setIfInBounds_toArray, List.set_cons_zero, List.set_cons_succ]
      refine pureL (.slice dp s dc) rfl (fun _ => by kernel_rfl) ?_
      simp only [Act.put, List.setIfInBounds_toArray, List.set_cons_zero, List.set_cons_succ]
      refine pureL (.bool true) rfl (fun _ => by kernel_rfl) ?_
      simp only [Act.put, List.setIfInBounds_toArray, List.set_cons_zero, List.set_cons_succ]
      show Exit.then _ _ _ _ _
      go_upto_region 5 with fail
      refine wp_region_list ?_
      refine pureL (.bool true) rfl (fun _ => by kernel_rfl) ?_
      simp only [Act.put, List.setIfInBounds_toArray, List.set_cons_zero, List.set_cons_succ]
      refine pureL (.bool false) rfl (fun _ => by kernel_rfl) ?_
      simp only [Act.put, List.setIfInBounds_toArray, List.set_cons_zero, List.set_cons_succ]
      show Exit.then _ _ _ _ _
      go_upto_region 7 with fail
      refine wp_region_list ?_
      refine pureL (.slice dp s dc) rfl (fun _ => by kernel_rfl) ?_
      simp only [Act.put, List.setIfInBounds_toArray, List.set_cons_zero, List.set_cons_succ]
      refine callL rfl (fun _ => by kernel_rfl) (join_any 0 (by decide) dp s dc (by omega) z (fun j hj => hz j (by omega)) _ (hds.below T.below (Nat.le_refl _))) ?_
      rintro e w4 ⟨rfl, l⟩
      rw [jV_zero z s]
      replace T := T.call l
      clear l
      refine ⟨_, rfl, ?_⟩
      simp only [Act.put, List.setIfInBounds_toArray, List.set_cons_zero, List.set_cons_succ]
      refine pureL (.func (.func 34) #[] #[.pointer (some ⟨B, 0, none⟩)]) rfl (fun _ => by kernel_rfl) ?_
      simp only [Act.put, List.setIfInBounds_toArray, List.set_cons_zero, List.set_cons_succ]
      replace hB := hB.trans (T.below.mono hB.size)
      refine callL rfl (fun _ => by kernel_rfl) (left_any w1 B _ (by omega) _ _ T) ?_
      rintro e w5 ⟨v, rfl, hO, l⟩
      obtain ⟨rp, rc, rfl, _, hR⟩ := hO.bytes
      clear hO
      replace hB := hB.trans (l.mono hB.size)
      clear T l
      refine ⟨_, rfl, ?_⟩
      simp only [Act.put, List.setIfInBounds_toArray, List.set_cons_zero, List.set_cons_succ]
      refine pureL (.int .i64 (fV z s)) rfl (fun _ => by kernel_rfl) ?_
      simp only [Act.put, List.setIfInBounds_toArray, List.set_cons_zero, List.set_cons_succ]
      refine pureL (.slice rp (len - s) rc) rfl (fun _ => by kernel_rfl) ?_
      simp only [Act.put, List.setIfInBounds_toArray, List.set_cons_zero, List.set_cons_succ]
      refine pureL (.int .i64 0) rfl (fun _ => by kernel_rfl) ?_
      simp only [Act.put, List.setIfInBounds_toArray, List.set_cons_zero, List.set_cons_succ]
      show Exit.then _ _ _ _ _
      have hA := show Hid _ from (And.intro hN (And.intro hL hE))
      clear hN hL hE hgE
      go_wp2
      refine bodyPost_ret (results_tmp3 Try.results14 _ _ _) rfl ?_
      exact ⟨⟨rp, rc, by rw [hA.out.1, hA.out.2.1, hA.out.2.2]; rfl, by rw [hA.out.2.1]; exact hR⟩, hB⟩
  · have hsz : decide (1 ≤ s ∧ s ≤ 7) = false := decide_eq_false hsz'
    have hE : gE len s = 1 := by unfold gE; rw [if_pos (by omega)]
    have hN : gN len z s = 0 := by unfold gN; rw [hE]; rfl
    have hL : gL len s = 0 := by unfold gL; rw [hE]; rfl
    go_upto_region 1 with fail
    refine wp_region_list ?_
    refine pureL (.int .i64 s) rfl (fun _ => by kernel_rfl) ?_
    simp only [Act.put, List.setIfInBounds_toArray, List.set_cons_zero, List.set_cons_succ]
    refine callL rfl (fun _ => by kernel_rfl) (isSize_any s _) ?_
    rintro e w1 ⟨rfl, hB⟩
    rw [hsz]
    refine ⟨_, rfl, ?_⟩
    simp only [Act.put, List.setIfInBounds_toArray, List.set_cons_zero, List.set_cons_succ]
    refine pureL (.bool true) rfl (fun _ => by kernel_rfl) ?_
    simp only [Act.put, List.setIfInBounds_toArray, List.set_cons_zero, List.set_cons_succ]
    show Exit.then _ _ _ _ _
    have hA := show Hid _ from (And.intro hN (And.intro hL hE))
    clear hN hL hE
    go_wp2
    refine bodyPost_ret (results_tmp3 Try.results14 _ _ _) rfl ?_
    exact ⟨⟨none, 0, by rw [hA.out.1, hA.out.2.1, hA.out.2.2]; rfl, by rw [hA.out.2.1]; exact fun j hj => absurd hj (Nat.not_lt_zero j)⟩, hB⟩

set_option maxRecDepth 10000 in
set_option maxHeartbeats 8000000 in
theorem vputbytes_any : PutBytesOK := by
  intro sp len cap hlen hcap hnil z hz tp tl tc htl htc htn x hx hsum w hs ht
  have hv8 := vsz_le tl
  go_enter Try.func18, Try.ntmps18
  go_upto_region 1 with fail
  refine wp_region_list ?_
  refine pureL (.slice sp len cap) rfl (fun _ => by kernel_rfl) ?_
  simp only [Act.put, List.setIfInBounds_toArray, List.set_cons_zero, List.set_cons_succ]
  refine pureL (.slice tp tl tc) rfl (fun _ => by kernel_rfl) ?_
  simp only [Act.put, List.setIfInBounds_toArray, List.set_cons_zero, List.set_cons_succ]
  refine pureL (.int .i64 (tl : Int)) rfl (fun w => lenS _ 22 5 (tp) (tl) (tc) rfl Try.underlying22 rfl w) ?_
  simp only [Act.put, List.setIfInBounds_toArray, List.set_cons_zero, List.set_cons_succ]
  refine callL rfl (fun _ => by kernel_rfl) (least_any tl (by omega) _) ?_
  rintro e w1 ⟨B, rfl, hS, hB⟩
  refine ⟨_, rfl, ?_⟩
  simp only [Act.put, List.setIfInBounds_toArray, List.set_cons_zero, List.set_cons_succ]
  refine pureL (.slice tp tl tc) rfl (fun _ => by kernel_rfl) ?_
  simp only [Act.put, List.setIfInBounds_toArray, List.set_cons_zero, List.set_cons_succ]
  refine actL (w' := w1.alloc (.cells #[.slice sp len cap, .slice (some ⟨B, 8 - vsz tl, none⟩) (vsz tl) (vsz tl), .slice tp tl tc] 22)) (.slice (some ⟨w1.heap.size, 0, none⟩) 3 3) rfl (by kernel_rfl) ?_
  simp only [Act.put, List.setIfInBounds_toArray, List.set_cons_zero, List.set_cons_succ]
  have HC := catIn3 w1.heap.size sp (some ⟨B, 8 - vsz tl, none⟩) tp len (vsz tl) tl cap (vsz tl) tc z (vby tl) x 22 rfl (hs.below hB (Nat.le_refl _)) hS (ht.below hB (Nat.le_refl _)) hnil (fun e => by cases e) htn
  replace hB := hB.alloc hB.size (.cells #[.slice sp len cap, .slice (some ⟨B, 8 - vsz tl, none⟩) (vsz tl) (vsz tl), .slice tp tl tc] 22)
  refine callL rfl (fun _ => by kernel_rfl) (concat_any ⟨w1.heap.size, 0, none⟩ 3 3 _ _ _ _ (by decide) (by rw [tot3]; omega) _ HC) ?_
  rintro e w2 ⟨v, rfl, hO, hb⟩
  rw [tot3] at hO
  have hO2 : Own w2 w.heap.size 5 .u8 (len + vsz tl + tl) (app (app z len (vby tl)) (len + vsz tl) x) v := (hO.congr fun j _ => catz3 _ _ _ _ _ _ j).lower hB.size
  replace hB := hB.trans (hb.mono hB.size)
  clear hO hb HC hS
  refine ⟨_, rfl, ?_⟩
  simp only [Act.put, List.setIfInBounds_toArray, List.set_cons_zero, List.set_cons_succ]
  refine pureL v rfl (fun _ => by kernel_rfl) ?_
  simp only [Act.put, List.setIfInBounds_toArray, List.set_cons_zero, List.set_cons_succ]
  refine pureL (.int .i64 0) rfl (fun _ => by kernel_rfl) ?_
  simp only [Act.put, List.setIfInBounds_toArray, List.set_cons_zero, List.set_cons_succ]
  show Exit.then _ _ _ _ _
  go_wp2
  go_ret2
  exact ⟨⟨v, rfl, hO2⟩, hB⟩

set_option maxRecDepth 10000 in
set_option maxHeartbeats 8000000 in
theorem vtakebytes_any : TakeBytesOK := by
  intro sp len cap hlen hcap hnil z hz most hm w hs
  go_enter Try.func20, Try.ntmps20
  go_upto_region 1 with fail
  refine wp_region_list ?_
  refine pureL (.slice sp len cap) rfl (fun _ => by kernel_rfl) ?_
  simp only [Act.put, List.setIfInBounds_toArray, List.set_cons_zero, List.set_cons_succ]
  refine callL rfl (fun _ => by kernel_rfl) (along_any sp len cap hcap hnil z _ hs) ?_
  rintro e w1 ⟨B, rfl, T⟩
  refine ⟨_, rfl, ?_⟩
  simp only [Act.put, List.setIfInBounds_toArray, List.set_cons_zero, List.set_cons_succ]
  refine pureL (.tuple #[(.func (.func 33) #[] #[.pointer (some ⟨B, 0, none⟩)]), (.func (.func 34) #[] #[.pointer (some ⟨B, 0, none⟩)])]) rfl (fun _ => by kernel_rfl) ?_
  simp only [Act.put, List.setIfInBounds_toArray, List.set_cons_zero, List.set_cons_succ]
  refine pureL (.func (.func 33) #[] #[.pointer (some ⟨B, 0, none⟩)]) rfl (fun _ => by kernel_rfl) ?_
  simp only [Act.put, List.setIfInBounds_toArray, List.set_cons_zero, List.set_cons_succ]
  refine pureL (.func (.func 34) #[] #[.pointer (some ⟨B, 0, none⟩)]) rfl (fun _ => by kernel_rfl) ?_
  simp only [Act.put, List.setIfInBounds_toArray, List.set_cons_zero, List.set_cons_succ]
  refine pureL (.func (.func 33) #[] #[.pointer (some ⟨B, 0, none⟩)]) rfl (fun _ => by kernel_rfl) ?_
  simp only [Act.put, List.setIfInBounds_toArray, List.set_cons_zero, List.set_cons_succ]
  refine pureL (.func (.func 34) #[] #[.pointer (some ⟨B, 0, none⟩)]) rfl (fun _ => by kernel_rfl) ?_
  simp only [Act.put, List.setIfInBounds_toArray, List.set_cons_zero, List.set_cons_succ]
  show Exit.then _ _ _ _ _
  go_upto_region 2 with fail
  refine wp_region_list ?_
  refine pureL (.func (.func 33) #[] #[.pointer (some ⟨B, 0, none⟩)]) rfl (fun _ => by kernel_rfl) ?_
  simp only [Act.put, List.setIfInBounds_toArray, List.set_cons_zero, List.set_cons_succ]
  refine callL rfl (fun _ => by kernel_rfl) (number_any w B len z hz _ T) ?_
  rintro e w2 ⟨rfl, hB, T2⟩
  clear T
  refine ⟨_, rfl, ?_⟩
  simp only [Act.put, List.setIfInBounds_toArray, List.set_cons_zero, List.set_cons_succ]
  refine pureL (.tuple #[(.int .i64 (tN len z)), (.int .i64 (tE len z))]) rfl (fun _ => by kernel_rfl) ?_
  simp only [Act.put, List.setIfInBounds_toArray, List.set_cons_zero, List.set_cons_succ]
  refine pureL (.int .i64 (tN len z)) rfl (fun _ => by kernel_rfl) ?_
  simp only [Act.put, List.setIfInBounds_toArray, List.set_cons_zero, List.set_cons_succ]
  refine pureL (.int .i64 (tE len z)) rfl (fun _ => by kernel_rfl) ?_
  simp only [Act.put, List.setIfInBounds_toArray, List.set_cons_zero, List.set_cons_succ]
  refine pureL (.int .i64 (tN len z)) rfl (fun _ => by kernel_rfl) ?_
  simp only [Act.put, List.setIfInBounds_toArray, List.set_cons_zero, List.set_cons_succ]
  refine pureL (.int .i64 (tE len z)) rfl (fun _ => by kernel_rfl) ?_
  simp only [Act.put, List.setIfInBounds_toArray, List.set_cons_zero, List.set_cons_succ]
  show Exit.then _ _ _ _ _
  by_cases h1 : tE len z = 0
  · have hN0 : 0 ≤ tN len z := by
      obtain ⟨q1, q2, q3⟩ := tE_ok h1
      unfold tN
      rw [if_pos h1]
      have hk := tK_four (z 0) (hz 0 q1)
      exact (tV_nonneg z len hz _ (by omega)).1
    have hxe : xE len z most = if most < tN len z then 2 else if ((tL len z : Nat) : Int) < tN len z then 3 else 0 := by unfold xE; rw [if_neg (fun h => h h1)]
    have hle : tL len z ≤ len := by unfold tL; rw [if_pos h1]; omega
    replace T2 := T2 h1
    go_upto_region 3 with fail
    refine wp_region_list ?_
    refine pureL (.int .i64 (tE len z)) rfl (fun _ => by kernel_rfl) ?_
    simp only [Act.put, List.setIfInBounds_toArray, List.set_cons_zero, List.set_cons_succ]
    refine pureL (.bool false) rfl (fun w => neqI .i64 _ _ _ _ _ _ rfl rfl rfl false (by simp [h1]) w) ?_
    simp only [Act.put, List.setIfInBounds_toArray, List.set_cons_zero, List.set_cons_succ]
    show Exit.then _ _ _ _ _
    obtain ⟨nn, hnn⟩ := Int.eq_ofNat_of_zero_le hN0
    have hyr : yR len z = fun j => tR z (nn + j) := by unfold yR; rw [hnn, Int.toNat_natCast]
    have hxl : xE len z most = 0 → xL len z most = nn ∧ yL len z most = tL len z - nn := fun h => by
      unfold xL yL
      rw [if_pos h, if_pos h, hnn, Int.toNat_natCast]
      exact ⟨rfl, rfl⟩
    rw [hnn] at hxe ⊢
    clear hnn hN0
    generalize tL len z = tl at *
    by_cases h2 : most < (nn : Int)
    · have hX : xE len z most = 2 := by rw [hxe, if_pos h2]
      clear hxl hxe hyr
      have hL : xL len z most = 0 := by unfold xL; rw [if_neg (by rw [hX]; decide)]
      have hY : yL len z most = 0 := by unfold yL; rw [if_neg (by rw [hX]; decide)]
      have hA := show Hid _ from (And.intro hL (And.intro hY hX))
      clear hL hY hX
      go_upto_region 5 with fail
      refine wp_region_list ?_
      refine pureL (.int .i64 (nn : Int)) rfl (fun _ => by kernel_rfl) ?_
      simp only [Act.put, List.setIfInBounds_toArray, List.set_cons_zero, List.set_cons_succ]
      refine pureL (.int .i64 most) rfl (fun _ => by kernel_rfl) ?_
      simp only [Act.put, List.setIfInBounds_toArray, List.set_cons_zero, List.set_cons_succ]
      refine pureL (.bool true) rfl (fun w => gtrI .i64 _ _ _ _ _ _ rfl rfl rfl true (decide_eq_true (by omega)) w) ?_
      simp only [Act.put, List.setIfInBounds_toArray, List.set_cons_zero, List.set_cons_succ]
      show Exit.then _ _ _ _ _
      go_wp2
      refine bodyPost_ret (results_tmp3 Try.results20 _ _ _) rfl ?_
      exact ⟨⟨none, 0, none, 0, by rw [hA.out.1, hA.out.2.1, hA.out.2.2]; rfl, by rw [hA.out.1, hA.out.2.1]; exact ⟨fun j hj => absurd hj (Nat.not_lt_zero j), fun j hj => absurd hj (Nat.not_lt_zero j)⟩⟩, hB⟩
    · go_upto_region 5 with fail
      refine wp_region_list ?_
      refine pureL (.int .i64 (nn : Int)) rfl (fun _ => by kernel_rfl) ?_
      simp only [Act.put, List.setIfInBounds_toArray, List.set_cons_zero, List.set_cons_succ]
      refine pureL (.int .i64 most) rfl (fun _ => by kernel_rfl) ?_
      simp only [Act.put, List.setIfInBounds_toArray, List.set_cons_zero, List.set_cons_succ]
      refine pureL (.bool false) rfl (fun w => gtrI .i64 _ _ _ _ _ _ rfl rfl rfl false (decide_eq_false (by omega)) w) ?_
      simp only [Act.put, List.setIfInBounds_toArray, List.set_cons_zero, List.set_cons_succ]
      show Exit.then _ _ _ _ _
      go_upto_region 7 with fail
      refine wp_region_list ?_
      refine pureL (.func (.func 33) #[] #[.pointer (some ⟨B, 0, none⟩)]) rfl (fun _ => by kernel_rfl) ?_
      simp only [Act.put, List.setIfInBounds_toArray, List.set_cons_zero, List.set_cons_succ]
      refine pureL (.int .i64 (nn : Int)) rfl (fun _ => by kernel_rfl) ?_
      simp only [Act.put, List.setIfInBounds_toArray, List.set_cons_zero, List.set_cons_succ]
      refine callL rfl (fun _ => by kernel_rfl) (next_any w B tl (tR z) nn _ T2) ?_
      intro e w3 h
      clear T2
      rcases h with ⟨h3, rfl, T⟩ | ⟨h3, dp, dc, rfl, hdc, hdn, hds, T⟩
      · have hX : xE len z most = 3 := by rw [hxe, if_neg h2, if_pos (by omega)]
        clear hxl hxe hyr
        have hL : xL len z most = 0 := by unfold xL; rw [if_neg (by rw [hX]; decide)]
        have hY : yL len z most = 0 := by unfold yL; rw [if_neg (by rw [hX]; decide)]
        have hA := show Hid _ from (And.intro hL (And.intro hY hX))
        clear hL hY hX
        replace hB := T.below
        refine ⟨_, rfl, ?_⟩
        simp only [Act.put, List.setIfInBounds_toArray, List.set_cons_zero, List.set_cons_succ]
        refine pureL (.tuple #[(.slice none 0 0), .bool false]) rfl (fun _ => by kernel_rfl) ?_
        simp only [Act.put, List.setIfInBounds_toArray, List.set_cons_zero, List.set_cons_succ]
        refine pureL (.slice none 0 0) rfl (fun _ => by kernel_rfl) ?_
        simp only [Act.put, List.setIfInBounds_toArray, List.set_cons_zero, List.set_cons_succ]
        refine pureL (.bool false) rfl (fun _ => by kernel_rfl) ?_
        simp only [Act.put, List.setIfInBounds_toArray, List.set_cons_zero, List.set_cons_succ]
        refine pureL (.slice none 0 0) rfl (fun _ => by kernel_rfl) ?_
        simp only [Act.put, List.setIfInBounds_toArray, List.set_cons_zero, List.set_cons_succ]
        refine pureL (.bool false) rfl (fun _ => by kernel_rfl) ?_
        simp only [Act.put, List.setIfInBounds_toArray, List.set_cons_zero, List.set_cons_succ]
        show Exit.then _ _ _ _ _
        go_upto_region 8 with fail
        refine wp_region_list ?_
        refine pureL (.bool false) rfl (fun _ => by kernel_rfl) ?_
        simp only [Act.put, List.setIfInBounds_toArray, List.set_cons_zero, List.set_cons_succ]
        refine pureL (.bool true) rfl (fun _ => by kernel_rfl) ?_
        simp only [Act.put, List.setIfInBounds_toArray, List.set_cons_zero, List.set_cons_succ]
        show Exit.then _ _ _ _ _
        go_wp2
        refine bodyPost_ret (results_tmp3 Try.results20 _ _ _) rfl ?_
        exact ⟨⟨none, 0, none, 0, by rw [hA.out.1, hA.out.2.1, hA.out.2.2]; rfl, by rw [hA.out.1, hA.out.2.1]; exact ⟨fun j hj => absurd hj (Nat.not_lt_zero j), fun j hj => absurd hj (Nat.not_lt_zero j)⟩⟩, hB⟩
      · have hX : xE len z most = 0 := by rw [hxe, if_neg h2, if_neg (by omega)]
        have hA := show Hid _ from (And.intro (hxl hX).1 (And.intro (hxl hX).2 (And.intro hX hyr)))
        clear hxl hxe hX hyr
        refine ⟨_, rfl, ?_⟩
        simp only [Act.put, List.setIfInBounds_toArray, List.set_cons_zero, List.set_cons_succ]
        refine pureL (.tuple #[(.slice dp nn dc), .bool true]) rfl (fun _ => by kernel_rfl) ?_
        simp only [Act.put, List.setIfInBounds_toArray, List.set_cons_zero, List.set_cons_succ]
        refine pureL (.slice dp nn dc) rfl (fun _ => by kernel_rfl) ?_
        simp only [Act.put, List.setIfInBounds_toArray, List.set_cons_zero, List.set_cons_succ]
        refine pureL (.bool true) rfl (fun _ => by kernel_rfl) ?_
        simp only [Act.put, List.setIfInBounds_toArray, List.set_cons_zero, List.set_cons_succ]
        refine pureL (.slice dp nn dc) rfl (fun _ => by kernel_rfl) ?_
        simp only [Act.put, List.setIfInBounds_toArray, List.set_cons_zero, List.set_cons_succ]
        refine pureL (.bool true) rfl (fun _ => by kernel_rfl) ?_
        simp only [Act.put, List.setIfInBounds_toArray, List.set_cons_zero, List.set_cons_succ]
        show Exit.then _ _ _ _ _
        go_upto_region 8 with fail
        refine wp_region_list ?_
        refine pureL (.bool true) rfl (fun _ => by kernel_rfl) ?_
        simp only [Act.put, List.setIfInBounds_toArray, List.set_cons_zero, List.set_cons_succ]
        refine pureL (.bool false) rfl (fun _ => by kernel_rfl) ?_
        simp only [Act.put, List.setIfInBounds_toArray, List.set_cons_zero, List.set_cons_succ]
        show Exit.then _ _ _ _ _
        go_upto_region 10 with fail
        refine wp_region_list ?_
        refine pureL (.slice dp nn dc) rfl (fun _ => by kernel_rfl) ?_
        simp only [Act.put, List.setIfInBounds_toArray, List.set_cons_zero, List.set_cons_succ]
        refine callL rfl (fun _ => by kernel_rfl) (clone_any dp nn dc (by omega) hdc hdn (tR z) _ (hds.below T.below (Nat.le_refl _))) ?_
        rintro e w4 ⟨u, rfl, hP, l⟩
        obtain ⟨tp, tc, rfl, _, hT⟩ := hP.bytes
        clear hP
        replace T := T.call l
        replace hB := T.below
        refine ⟨_, rfl, ?_⟩
        simp only [Act.put, List.setIfInBounds_toArray, List.set_cons_zero, List.set_cons_succ]
        refine pureL (.func (.func 34) #[] #[.pointer (some ⟨B, 0, none⟩)]) rfl (fun _ => by kernel_rfl) ?_
        simp only [Act.put, List.setIfInBounds_toArray, List.set_cons_zero, List.set_cons_succ]
        refine callL rfl (fun _ => by kernel_rfl) (left_any w B _ (by omega) _ _ T) ?_
        rintro e w5 ⟨v, rfl, hO, l⟩
        obtain ⟨rp, rc, rfl, _, hR⟩ := hO.bytes
        clear hO
        replace hB := hB.trans (l.mono hB.size)
        replace hT := hT.below l (Nat.le_refl _)
        refine ⟨_, rfl, ?_⟩
        simp only [Act.put, List.setIfInBounds_toArray, List.set_cons_zero, List.set_cons_succ]
        refine pureL (.slice tp nn tc) rfl (fun _ => by kernel_rfl) ?_
        simp only [Act.put, List.setIfInBounds_toArray, List.set_cons_zero, List.set_cons_succ]
        refine pureL (.slice rp (tl - nn) rc) rfl (fun _ => by kernel_rfl) ?_
        simp only [Act.put, List.setIfInBounds_toArray, List.set_cons_zero, List.set_cons_succ]
        refine pureL (.int .i64 0) rfl (fun _ => by kernel_rfl) ?_
        simp only [Act.put, List.setIfInBounds_toArray, List.set_cons_zero, List.set_cons_succ]
        clear T l
        show Exit.then _ _ _ _ _
        go_wp2
        refine bodyPost_ret (results_tmp3 Try.results20 _ _ _) rfl ?_
        exact ⟨⟨tp, tc, rp, rc, by rw [hA.out.1, hA.out.2.1, hA.out.2.2.1]; rfl, by rw [hA.out.1, hA.out.2.1, hA.out.2.2.2]; exact ⟨hT, hR⟩⟩, hB⟩
  · have hX : xE len z most = tE len z := by unfold xE; rw [if_pos h1]
    clear T2
    have hL : xL len z most = 0 := by unfold xL; rw [if_neg (by rw [hX]; exact h1)]
    have hY : yL len z most = 0 := by unfold yL; rw [if_neg (by rw [hX]; exact h1)]
    have hA := show Hid _ from (And.intro hL (And.intro hY hX))
    clear hL hY hX
    go_upto_region 3 with fail
    refine wp_region_list ?_
    refine pureL (.int .i64 (tE len z)) rfl (fun _ => by kernel_rfl) ?_
    simp only [Act.put, List.setIfInBounds_toArray, List.set_cons_zero, List.set_cons_succ]
    refine pureL (.bool true) rfl (fun w => neqI .i64 _ _ _ _ _ _ rfl rfl rfl true (by simp [h1]) w) ?_
    simp only [Act.put, List.setIfInBounds_toArray, List.set_cons_zero, List.set_cons_succ]
    show Exit.then _ _ _ _ _
    go_wp2
    refine bodyPost_ret (results_tmp3 Try.results20 _ _ _) rfl ?_
    exact ⟨⟨none, 0, none, 0, by rw [hA.out.1, hA.out.2.1, hA.out.2.2]; rfl, by rw [hA.out.1, hA.out.2.1]; exact ⟨fun j hj => absurd hj (Nat.not_lt_zero j), fun j hj => absurd hj (Nat.not_lt_zero j)⟩⟩, hB⟩
end Go.Proofs.Ytogbdoikkmdopaa

namespace Go.Proofs.Ytogbdoikkmdopaa
open Go.ChangeShapes Go.WideShapes Go.ChangeAt Go.WideMaps Go.WideElems Go.RowKit

theorem own : ownKnob Try.prog.godebug = none := by kernel_rfl
theorem cellsByte : Try.prog.cellsOf 5 = 1 := by kernel_rfl
end Go.Proofs.Ytogbdoikkmdopaa

namespace Go.Proofs.Ytogbdoikkmdopaa

theorem bulk_one {H : Type} (d : DataW H) : 1 ≤ Rows.uptoBulk d := by
  cases d with
  | lit l => cases l <;> simp [Rows.uptoBulk]
  | _ => simp [Rows.uptoBulk]
theorem bulk_count {H : Type} : ∀ l : List (DataW H), l.length ≤ Rows.uptoBulkAll l
  | [] => Nat.le_refl _
  | d :: l => by
    have h1 := bulk_one d
    have h2 := bulk_count l
    simp only [Rows.uptoBulkAll, List.length_cons]
    omega
theorem bulk_mem {H : Type} {d : DataW H} : ∀ {l : List (DataW H)}, d ∈ l → Rows.uptoBulk d ≤ Rows.uptoBulkAll l
  | x :: l, h => by
    simp only [Rows.uptoBulkAll]
    rcases List.mem_cons.1 h with rfl | h
    · omega
    · have := bulk_mem h
      omega
/-- A slice's places. -/
theorem bulk_slice {H : Type} {d : DataW H} {len : Nat} (hd : len = 0 ∨ ∃ elems spare, d = .slice elems spare ∧ len ≤ elems.length + spare.length) : len ≤ Rows.uptoBulk d := by
  rcases hd with rfl | ⟨elems, spare, rfl, hle⟩
  · exact Nat.zero_le _
  · have h1 := bulk_count elems
    have h2 := bulk_count spare
    simp only [Rows.uptoBulk]
    omega
theorem bulk_agg {H : Type} {d : DataW H} {l : List (DataW H)} (h : d ∈ l) : Rows.uptoBulk d ≤ Rows.uptoBulk (.agg l) := by
  have := bulk_mem h
  simp only [Rows.uptoBulk]
  omega
theorem bulk_bound {H : Type} {l : List (DataW H)} (h : Rows.uptoSmall H l = true) : Rows.uptoBulkAll l ≤ 1048576 := of_decide_eq_true h
end Go.Proofs.Ytogbdoikkmdopaa
