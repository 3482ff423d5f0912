/- Texts of Vb Vc Vd Vf Vg Vs, joined. -/
import Derived.Test.YtogbdoikkmdopaaG1
import Derived.BigQuiet
import Derived.Deep.Cut
import Derived.OwnWalk
namespace Go.Proofs.Ytogbdoikkmdopaa
open Go.RowKit

set_option maxRecDepth 10000 in
set_option maxHeartbeats 4000000 in
theorem rsize_any (n : Nat) (w : World) : Calls Try.prog 24 #[.int .i64 (n : Int)] w fun e w' => e = .returned (.int .i64 ((vsz n : Nat) : Int)) ∧ Below w.heap.size w w' := by
  have hB := Below.refl w.heap.size w
  rcases vsz_cases n with ⟨e, h1⟩ | ⟨e, h1, h2⟩ | ⟨e, h1, h2⟩ | ⟨e, h1⟩ <;> rw [e]
  · have g1 : (n : Int) < 64 := by omega
    go_enter Try.func24, Try.ntmps24
    go_wp2
    go_ret
    exact ⟨rfl, hB⟩
  · have g1 : ¬ (n : Int) < 64 := by omega
    have g2 : (n : Int) < 16384 := by omega
    go_enter Try.func24, Try.ntmps24
    go_wp2
    go_ret
    exact ⟨rfl, hB⟩
  · have g1 : ¬ (n : Int) < 64 := by omega
    have g2 : ¬ (n : Int) < 16384 := by omega
    have g3 : (n : Int) < 1073741824 := by omega
    go_enter Try.func24, Try.ntmps24
    go_wp2
    go_ret
    exact ⟨rfl, hB⟩
  · have g1 : ¬ (n : Int) < 64 := by omega
    have g2 : ¬ (n : Int) < 16384 := by omega
    have g3 : ¬ (n : Int) < 1073741824 := by omega
    go_enter Try.func24, Try.ntmps24
    go_wp2
    go_ret
    exact ⟨rfl, hB⟩
set_option maxRecDepth 10000 in
set_option maxHeartbeats 4000000 in
theorem rputvar_bad (sp : Option Addr) (len cap : Nat) (n : Int) (hb : vbad n) (w : World) :
    Calls Try.prog 11 #[.slice sp len cap, .int .i64 n] w fun e w' => e = .returned (.tuple #[.slice none 0 0, .int .i64 1]) ∧ Below w.heap.size w w' := by
  have hB := Below.refl w.heap.size w
  unfold vbad at hb
  by_cases h1 : n < 0
  · clear hb
    go_enter Try.func11, Try.ntmps11
    go_wp2
    go_ret2
    exact ⟨rfl, hB⟩
  · have h2 : 4611686018427387903 < n := by omega
    have h2' : 4611686018427387904 ≤ n := by omega
    clear hb
    go_enter Try.func11, Try.ntmps11
    go_wp2
    go_ret2
    exact ⟨rfl, hB⟩
set_option maxRecDepth 10000 in
set_option maxHeartbeats 16000000 in
theorem rputvar_good (sp : Option Addr) (len cap : Nat) (hlen : len ≤ 140737488351232) (hnil : sp = none → cap = 0) (z : Nat → Int) (n : Nat) (hn : n < 4611686018427387904) (w : World) (hs : Src w sp len z) :
    Calls Try.prog 11 #[.slice sp len cap, .int .i64 (n : Int)] w fun e w' => ∃ v, e = .returned (.tuple #[v, .int .i64 0]) ∧ Own w' w.heap.size 5 .u8 (len + vsz n) (app z len (vby n)) v ∧ Below w.heap.size w w' := by
  have h1 : ¬ (n : Int) < 0 := by omega
  have h2 : ¬ 4611686018427387903 < (n : Int) := by omega
  have h2' : ¬ 4611686018427387904 ≤ (n : Int) := by omega
  go_enter Try.func11, Try.ntmps11
  go_upto_region 3 with fail
  clear h1 h2 h2'
  refine wp_region_list ?_
  refine pureL (.int .i64 (n : Int)) rfl (fun _ => by kernel_rfl) ?_
  simp only [Act.put, List.setIfInBounds_toArray, List.set_cons_zero, List.set_cons_succ]
  refine callL rfl (fun _ => by kernel_rfl) (rsize_any n _) ?_
  rintro e w1 ⟨rfl, hB⟩
  refine ⟨_, rfl, ?_⟩
  simp only [Act.put, List.setIfInBounds_toArray, List.set_cons_zero, List.set_cons_succ]
  refine pureL (.int .i64 ((vsz n : Nat) : Int)) rfl (fun _ => by kernel_rfl) ?_
  simp only [Act.put, List.setIfInBounds_toArray, List.set_cons_zero, List.set_cons_succ]
  have hK4 := vkd_pow _ (vsz_four n)
  have hK8 := vsz_le n
  have hby : ∀ j, vby n j = fby n (vsz n) j + (if j = 0 then ((64 * vkd (vsz n) : Nat) : Int) else 0) := fun _ => rfl
  have hin := vby_in n hn 8
  generalize hKe : vsz n = K at *
  show Exit.then _ _ _ _ _
  go_wp2
  go_loopw [7] (fun kw w' => ∃ m : Nat, m ≤ vkd K ∧ kw = .int .i64 (m : Int) ∧ w1 = w') (fun kw _ => vkd K - (intOf kw).toNat)
  case atStart => exact ⟨0, Nat.zero_le _, rfl, rfl⟩
  case round =>
    obtain ⟨m, hm, rfl, rfl⟩ := hrel
    have hpm : 2 ^ m ≤ 2 ^ vkd K := Nat.pow_le_pow_right (by decide) hm
    by_cases hlt : m < vkd K
    · have hpl : 2 ^ m < 2 ^ vkd K := Nat.pow_lt_pow_right (by decide) hlt
      go_upto_region 5 with fail
      refine wp_region_list ?_
      refine pureL (.int .i64 ((m : Nat) : Int)) rfl (fun _ => by kernel_rfl) ?_
      simp only [Act.put, List.setIfInBounds_toArray, List.set_cons_zero, List.set_cons_succ]
      refine pureL (.int .i64 ((2 ^ m : Nat) : Int)) rfl (fun w => shlI .i64 .i64 _ _ _ _ _ _ _ rfl rfl rfl (by omega) (shl_one m (by omega)) w) ?_
      simp only [Act.put, List.setIfInBounds_toArray, List.set_cons_zero, List.set_cons_succ]
      refine pureL (.int .i64 ((K : Nat) : Int)) rfl (fun _ => by kernel_rfl) ?_
      simp only [Act.put, List.setIfInBounds_toArray, List.set_cons_zero, List.set_cons_succ]
      refine pureL (.bool true) rfl (fun w => lssI .i64 _ _ _ _ _ _ rfl rfl rfl true (decide_eq_true (by omega)) w) ?_
      simp only [Act.put, List.setIfInBounds_toArray, List.set_cons_zero, List.set_cons_succ]
      show Exit.then _ _ _ _ _
      clear hpm hpl
      go_wp2
      go_roundw
      case rel => exact ⟨m + 1, by omega, by go_num, trivial⟩
      case measure => simp [intOf]; omega
    · obtain rfl : m = vkd K := by omega
      go_upto_region 5 with fail
      refine wp_region_list ?_
      refine pureL (.int .i64 (((vkd K) : Nat) : Int)) rfl (fun _ => by kernel_rfl) ?_
      simp only [Act.put, List.setIfInBounds_toArray, List.set_cons_zero, List.set_cons_succ]
      refine pureL (.int .i64 ((2 ^ (vkd K) : Nat) : Int)) rfl (fun w => shlI .i64 .i64 _ _ _ _ _ _ _ rfl rfl rfl (by omega) (shl_one (vkd K) (by omega)) w) ?_
      simp only [Act.put, List.setIfInBounds_toArray, List.set_cons_zero, List.set_cons_succ]
      refine pureL (.int .i64 ((K : Nat) : Int)) rfl (fun _ => by kernel_rfl) ?_
      simp only [Act.put, List.setIfInBounds_toArray, List.set_cons_zero, List.set_cons_succ]
      refine pureL (.bool false) rfl (fun w => lssI .i64 _ _ _ _ _ _ rfl rfl rfl false (decide_eq_false (by omega)) w) ?_
      simp only [Act.put, List.setIfInBounds_toArray, List.set_cons_zero, List.set_cons_succ]
      show Exit.then _ _ _ _ _
      clear hpm hm hlt
      go_upto_region 7 with fail
      refine wp_region_list ?_
      refine actL (w' := w1.alloc (.cells #[] 5)) (.slice (some ⟨w1.heap.size, 0, none⟩) 0 0) rfl (by kernel_rfl) ?_
      simp only [Act.put, List.setIfInBounds_toArray, List.set_cons_zero, List.set_cons_succ]
      refine pureL (.slice sp len cap) rfl (fun _ => by kernel_rfl) ?_
      simp only [Act.put, List.setIfInBounds_toArray, List.set_cons_zero, List.set_cons_succ]
      have hb1 := (Below.refl w1.heap.size w1).alloc (Nat.le_refl _) (.cells #[] 5)
      obtain ⟨v, w2, hr, ho, hgr, _⟩ := run_append_Own (P := Try.prog) (ty := 22) Try.underlying22 one8 (Own.lit w1 w1.heap.size 5 .u8 0 (fun _ => 0) (Nat.le_refl _) (by unfold maxLen; omega)) (sp) (len) (cap) (z) ((hs.below hB (Nat.le_refl _)).below hb1 (Nat.le_refl _)) hnil (by unfold maxLen; omega) (by omega) hb1.size
      have hb2 := hb1.grown hgr hb1.size (fun b hb => by injection hb with hb; simp only at hb; omega)
      refine actL v rfl (appendOp _ _ 22 _ _ _ rfl rfl rfl hr) ?_
      simp only [Act.put, List.setIfInBounds_toArray, List.set_cons_zero, List.set_cons_succ]
      have hO : Own w2 w1.heap.size 5 .u8 (len) (z) v := by
        rw [Nat.zero_add] at ho
        exact ho.congr fun j _ => by unfold app; rw [if_neg (Nat.not_lt_zero j), Nat.sub_zero]
      clear hr ho hgr hb1
      refine pureL v rfl (fun _ => by kernel_rfl) ?_
      simp only [Act.put, List.setIfInBounds_toArray, List.set_cons_zero, List.set_cons_succ]
      replace hO := hO.lower hB.size
      replace hB := hB.trans (hb2.mono hB.size)
      clear hb2
      show Exit.then _ _ _ _ _
      go_upto_region 8 with fail
      refine wp_region_list ?_
      refine pureL (.int .i64 ((K : Nat) : Int)) rfl (fun _ => by kernel_rfl) ?_
      simp only [Act.put, List.setIfInBounds_toArray, List.set_cons_zero, List.set_cons_succ]
      refine pureL (.int .i64 ((K : Int) - 1)) rfl (fun w => subI .i64 _ _ _ _ _ _ _ rfl rfl rfl (by rw [IntKind.wrap_i64]; omega) w) ?_
      simp only [Act.put, List.setIfInBounds_toArray, List.set_cons_zero, List.set_cons_succ]
      refine pureL (.int .i64 ((K : Int) - 1)) rfl (fun _ => by kernel_rfl) ?_
      simp only [Act.put, List.setIfInBounds_toArray, List.set_cons_zero, List.set_cons_succ]
      show Exit.then _ _ _ _ _
      go_wp2
      go_loopw [8, 9] (fun ow iw w' => ∃ (m : Nat) (v : Value) (i : Int), m ≤ K ∧ i = (K : Int) - 1 - (m : Int) ∧ v = ow ∧ iw = .int .i64 i ∧ Own w' w.heap.size 5 .u8 (len + m) (app z len (vby n)) v ∧ Below w.heap.size w w') (fun _ iw _ => ((intOf iw) + 1).toNat)
      case atStart => exact ⟨0, _, _, Nat.zero_le _, rfl, rfl, by rw [show ((K : Int) - 1 - ((0 : Nat) : Int)) = (K : Int) - 1 by omega], hO.congr fun j hj => by unfold app; rw [if_pos (by omega)], hB⟩
      case round =>
        clear hO hB
        obtain ⟨m, v, i, hm, hi, rfl, rfl, hO, hB⟩ := hrel
        by_cases hlt : m < K
        · obtain ⟨e, rfl⟩ := Int.eq_ofNat_of_zero_le (show 0 ≤ i by omega)
          have he : e = K - 1 - m := by omega
          have hfb : fby n K m = (((n / 256 ^ e) % 256 : Nat) : Int) := by unfold fby; rw [he]
          have hbm := hin m (by omega)
          go_upto_region 9 with fail
          refine wp_region_list ?_
          refine pureL (.int .i64 ((e : Nat) : Int)) rfl (fun _ => by kernel_rfl) ?_
          simp only [Act.put, List.setIfInBounds_toArray, List.set_cons_zero, List.set_cons_succ]
          refine pureL (.bool true) rfl (fun w => geqI .i64 _ _ _ _ _ _ rfl rfl rfl true (decide_eq_true (by omega)) w) ?_
          simp only [Act.put, List.setIfInBounds_toArray, List.set_cons_zero, List.set_cons_succ]
          show Exit.then _ _ _ _ _
          go_upto_region 11 with fail
          refine wp_region_list ?_
          refine pureL (.int .i64 (n : Int)) rfl (fun _ => by kernel_rfl) ?_
          simp only [Act.put, List.setIfInBounds_toArray, List.set_cons_zero, List.set_cons_succ]
          refine pureL (.int .i64 ((e : Nat) : Int)) rfl (fun _ => by kernel_rfl) ?_
          simp only [Act.put, List.setIfInBounds_toArray, List.set_cons_zero, List.set_cons_succ]
          refine pureL (.int .i64 ((8 * e : Nat) : Int)) rfl (fun w => mulI .i64 _ _ _ _ _ _ _ rfl rfl rfl (by rw [IntKind.wrap_i64]; omega) w) ?_
          simp only [Act.put, List.setIfInBounds_toArray, List.set_cons_zero, List.set_cons_succ]
          refine pureL (.int .i64 (((n / 256 ^ e) : Nat) : Int)) rfl (fun w => shrI .i64 .i64 _ _ _ _ _ _ _ rfl rfl rfl (by omega) (shr_byte n e (by omega)) w) ?_
          simp only [Act.put, List.setIfInBounds_toArray, List.set_cons_zero, List.set_cons_succ]
          refine pureL (.int .i64 (((n / 256 ^ e) % 256 : Nat) : Int)) rfl (fun w => vandI .i64 _ _ _ _ _ _ _ rfl rfl rfl (by rw [i64_and255]; omega) w) ?_
          simp only [Act.put, List.setIfInBounds_toArray, List.set_cons_zero, List.set_cons_succ]
          refine pureL (.int .i64 (((n / 256 ^ e) % 256 : Nat) : Int)) rfl (fun _ => by kernel_rfl) ?_
          simp only [Act.put, List.setIfInBounds_toArray, List.set_cons_zero, List.set_cons_succ]
          show Exit.then _ _ _ _ _
          by_cases h0 : m = 0
          · have hv : vby n m = (((n / 256 ^ e) % 256 + vkd K * 64 : Nat) : Int) := by rw [hby, if_pos h0, hfb]; omega
            go_upto_region 12 with fail
            refine wp_region_list ?_
            refine pureL (.int .i64 ((e : Nat) : Int)) rfl (fun _ => by kernel_rfl) ?_
            simp only [Act.put, List.setIfInBounds_toArray, List.set_cons_zero, List.set_cons_succ]
            refine pureL (.int .i64 ((K : Nat) : Int)) rfl (fun _ => by kernel_rfl) ?_
            simp only [Act.put, List.setIfInBounds_toArray, List.set_cons_zero, List.set_cons_succ]
            refine pureL (.int .i64 ((K : Int) - 1)) rfl (fun w => subI .i64 _ _ _ _ _ _ _ rfl rfl rfl (by rw [IntKind.wrap_i64]; omega) w) ?_
            simp only [Act.put, List.setIfInBounds_toArray, List.set_cons_zero, List.set_cons_succ]
            refine pureL (.bool true) rfl (fun w => eqlI .i64 _ _ _ _ _ _ rfl rfl rfl true (by simp; omega) w) ?_
            simp only [Act.put, List.setIfInBounds_toArray, List.set_cons_zero, List.set_cons_succ]
            show Exit.then _ _ _ _ _
            go_upto_region 13 with fail
            refine wp_region_list ?_
            refine pureL (.int .i64 (((n / 256 ^ e) % 256 : Nat) : Int)) rfl (fun _ => by kernel_rfl) ?_
            simp only [Act.put, List.setIfInBounds_toArray, List.set_cons_zero, List.set_cons_succ]
            refine pureL (.int .i64 ((vkd K : Nat) : Int)) rfl (fun _ => by kernel_rfl) ?_
            simp only [Act.put, List.setIfInBounds_toArray, List.set_cons_zero, List.set_cons_succ]
            refine pureL (.int .i64 ((vkd K * 64 : Nat) : Int)) rfl (fun w => mulI .i64 _ _ _ _ _ _ _ rfl rfl rfl (by rw [IntKind.wrap_i64]; omega) w) ?_
            simp only [Act.put, List.setIfInBounds_toArray, List.set_cons_zero, List.set_cons_succ]
            refine pureL (.int .i64 (((n / 256 ^ e) % 256 + vkd K * 64 : Nat) : Int)) rfl (fun w => addI .i64 _ _ _ _ _ _ _ rfl rfl rfl (by rw [IntKind.wrap_i64]; omega) w) ?_
            simp only [Act.put, List.setIfInBounds_toArray, List.set_cons_zero, List.set_cons_succ]
            refine pureL (.int .i64 (((n / 256 ^ e) % 256 + vkd K * 64 : Nat) : Int)) rfl (fun _ => by kernel_rfl) ?_
            simp only [Act.put, List.setIfInBounds_toArray, List.set_cons_zero, List.set_cons_succ]
            show Exit.then _ _ _ _ _
            obtain ⟨so, co, rfl, _, _⟩ := hO.bytes
            go_upto_region 14 with fail
            refine wp_region_list ?_
            refine pureL (.slice so (len + m) co) rfl (fun _ => by kernel_rfl) ?_
            simp only [Act.put, List.setIfInBounds_toArray, List.set_cons_zero, List.set_cons_succ]
            refine pureL (.int .i64 (((n / 256 ^ e) % 256 + vkd K * 64 : Nat) : Int)) rfl (fun _ => by kernel_rfl) ?_
            simp only [Act.put, List.setIfInBounds_toArray, List.set_cons_zero, List.set_cons_succ]
            refine pureL (.int .u8 (vby n m)) rfl (fun w => convI .i64 .u8 _ _ _ _ _ rfl (by kernel_rfl) Try.underlying5 (by kernel_rfl) rfl (by rw [IntKind.wrap_u8, hv]; omega) w) ?_
            simp only [Act.put, List.setIfInBounds_toArray, List.set_cons_zero, List.set_cons_succ]
            refine actL (w' := wr.alloc (.cells #[.int .u8 (vby n m)] 5)) (.slice (some ⟨wr.heap.size, 0, none⟩) 1 1) rfl (by kernel_rfl) ?_
            simp only [Act.put, List.setIfInBounds_toArray, List.set_cons_zero, List.set_cons_succ]
            obtain ⟨v, w3, hr, ho, hgr⟩ := hO.more8 (by omega) (vby n m) (by unfold app; rw [if_neg (by omega), show len + m - len = m by omega]) 22 hB.size
            refine actL v rfl (appendOp _ _ 22 _ _ _ rfl rfl rfl hr) ?_
            simp only [Act.put, List.setIfInBounds_toArray, List.set_cons_zero, List.set_cons_succ]
            refine pureL v rfl (fun _ => by kernel_rfl) ?_
            simp only [Act.put, List.setIfInBounds_toArray, List.set_cons_zero, List.set_cons_succ]
            have HS := show Hid _ from (And.intro (show Own w3 w.heap.size 5 .u8 (len + (m + 1)) (app z len (vby n)) v from ho) ((hB.alloc hB.size (.cells #[.int .u8 (vby n m)] 5)).grown hgr (Nat.le_trans hB.size (by simp)) (fun b hb => (World.ownsRow.lt hO b hb).1)))
            clear hr ho hgr hO hB hv
            show Exit.inBlock _ _ _ _ _
            go_wp2
            go_roundw
            case rel => first | exact ⟨m + 1, v, ((e : Nat) : Int) - 1, by omega, by omega, rfl, by go_num, HS.out.1, HS.out.2⟩ | ((repeat apply Exists.intro); refine ⟨⟨m + 1, v, ((e : Nat) : Int) - 1, by omega, by omega, rfl, by go_num, HS.out.1, HS.out.2⟩, rfl⟩)
            case measure => simp [intOf]; omega
          · have hv : vby n m = (((n / 256 ^ e) % 256 : Nat) : Int) := by rw [hby, if_neg h0, hfb]; omega
            go_upto_region 12 with fail
            refine wp_region_list ?_
            refine pureL (.int .i64 ((e : Nat) : Int)) rfl (fun _ => by kernel_rfl) ?_
            simp only [Act.put, List.setIfInBounds_toArray, List.set_cons_zero, List.set_cons_succ]
            refine pureL (.int .i64 ((K : Nat) : Int)) rfl (fun _ => by kernel_rfl) ?_
            simp only [Act.put, List.setIfInBounds_toArray, List.set_cons_zero, List.set_cons_succ]
            refine pureL (.int .i64 ((K : Int) - 1)) rfl (fun w => subI .i64 _ _ _ _ _ _ _ rfl rfl rfl (by rw [IntKind.wrap_i64]; omega) w) ?_
            simp only [Act.put, List.setIfInBounds_toArray, List.set_cons_zero, List.set_cons_succ]
            refine pureL (.bool false) rfl (fun w => eqlI .i64 _ _ _ _ _ _ rfl rfl rfl false (by simp; omega) w) ?_
            simp only [Act.put, List.setIfInBounds_toArray, List.set_cons_zero, List.set_cons_succ]
            show Exit.then _ _ _ _ _
            obtain ⟨so, co, rfl, _, _⟩ := hO.bytes
            go_upto_region 14 with fail
            refine wp_region_list ?_
            refine pureL (.slice so (len + m) co) rfl (fun _ => by kernel_rfl) ?_
            simp only [Act.put, List.setIfInBounds_toArray, List.set_cons_zero, List.set_cons_succ]
            refine pureL (.int .i64 (((n / 256 ^ e) % 256 : Nat) : Int)) rfl (fun _ => by kernel_rfl) ?_
            simp only [Act.put, List.setIfInBounds_toArray, List.set_cons_zero, List.set_cons_succ]
            refine pureL (.int .u8 (vby n m)) rfl (fun w => convI .i64 .u8 _ _ _ _ _ rfl (by kernel_rfl) Try.underlying5 (by kernel_rfl) rfl (by rw [IntKind.wrap_u8, hv]; omega) w) ?_
            simp only [Act.put, List.setIfInBounds_toArray, List.set_cons_zero, List.set_cons_succ]
            refine actL (w' := wr.alloc (.cells #[.int .u8 (vby n m)] 5)) (.slice (some ⟨wr.heap.size, 0, none⟩) 1 1) rfl (by kernel_rfl) ?_
            simp only [Act.put, List.setIfInBounds_toArray, List.set_cons_zero, List.set_cons_succ]
            obtain ⟨v, w3, hr, ho, hgr⟩ := hO.more8 (by omega) (vby n m) (by unfold app; rw [if_neg (by omega), show len + m - len = m by omega]) 22 hB.size
            refine actL v rfl (appendOp _ _ 22 _ _ _ rfl rfl rfl hr) ?_
            simp only [Act.put, List.setIfInBounds_toArray, List.set_cons_zero, List.set_cons_succ]
            refine pureL v rfl (fun _ => by kernel_rfl) ?_
            simp only [Act.put, List.setIfInBounds_toArray, List.set_cons_zero, List.set_cons_succ]
            have HS := show Hid _ from (And.intro (show Own w3 w.heap.size 5 .u8 (len + (m + 1)) (app z len (vby n)) v from ho) ((hB.alloc hB.size (.cells #[.int .u8 (vby n m)] 5)).grown hgr (Nat.le_trans hB.size (by simp)) (fun b hb => (World.ownsRow.lt hO b hb).1)))
            clear hr ho hgr hO hB hv
            show Exit.inBlock _ _ _ _ _
            go_wp2
            go_roundw
            case rel => first | exact ⟨m + 1, v, ((e : Nat) : Int) - 1, by omega, by omega, rfl, by go_num, HS.out.1, HS.out.2⟩ | ((repeat apply Exists.intro); refine ⟨⟨m + 1, v, ((e : Nat) : Int) - 1, by omega, by omega, rfl, by go_num, HS.out.1, HS.out.2⟩, rfl⟩)
            case measure => simp [intOf]; omega
        · obtain rfl : m = K := by omega
          obtain rfl : i = -1 := by omega
          obtain ⟨so, co, rfl, _, _⟩ := hO.bytes
          go_upto_region 15 with fail
          refine wp_region_list ?_
          refine pureL (.slice so (len + m) co) rfl (fun _ => by kernel_rfl) ?_
          simp only [Act.put, List.setIfInBounds_toArray, List.set_cons_zero, List.set_cons_succ]
          refine pureL (.slice so (len + m) co) rfl (fun _ => by kernel_rfl) ?_
          simp only [Act.put, List.setIfInBounds_toArray, List.set_cons_zero, List.set_cons_succ]
          refine pureL (.int .i64 0) rfl (fun _ => by kernel_rfl) ?_
          simp only [Act.put, List.setIfInBounds_toArray, List.set_cons_zero, List.set_cons_succ]
          show Exit.then _ _ _ _ _
          go_wp2
          go_ret2
          exact ⟨_, rfl, by first | exact hO | (rw [hKe]; exact hO), hB⟩

set_option maxRecDepth 10000 in
set_option maxHeartbeats 16000000 in
theorem rtakevar_any (sp : Option Addr) (len cap : Nat) (hlen : len ≤ 140737488351232) (hcap : len ≤ cap) (hnil : sp = none → cap = 0) (z : Nat → Int) (hz : In 256 len z) (w : World) (hs : Src w sp len z) :
    Calls Try.prog 13 #[.slice sp len cap] w fun e w' => ∃ rp rc, e = .returned (.tuple #[.int .i64 (tN len z), .slice rp (tL len z) rc, .int .i64 (tE len z)]) ∧ (tL len z ≤ rc ∧ (rp = none → rc = 0) ∧ Src w' rp (tL len z) (tR z)) ∧ Below w.heap.size w w' := by
  have hB0 := Below.refl w.heap.size w
  by_cases h0 : len = 0
  · have hE : tE len z = 3 := by unfold tE; rw [if_pos h0]
    have hN : tN len z = 0 := by unfold tN; rw [hE]; rfl
    have hL : tL len z = 0 := by unfold tL; rw [hE]; rfl
    have g0 : (len : Int) = 0 := by omega
    subst h0
    go_enter Try.func13, Try.ntmps13
    have hA := show Hid _ from (And.intro hN (And.intro hL hE))
    clear hN hL hE
    go_wp2
    refine bodyPost_ret (results_tmp3 Try.results13 _ _ _) rfl ?_
    exact ⟨none, 0, by rw [hA.out.1, hA.out.2.1, hA.out.2.2]; rfl, by rw [hA.out.2.1]; exact ⟨Nat.le_refl _, fun _ => rfl, fun j hj => absurd hj (Nat.not_lt_zero j)⟩, hB0⟩
  · obtain ⟨ad, rfl, hc0⟩ := hs 0 (by omega)
    have hz0 := hz 0 (by omega)
    have hK := tK_four (z 0) hz0
    have g0 : ¬ (len : Int) = 0 := by omega
    go_enter Try.func13, Try.ntmps13
    go_upto_region 3 with fail
    refine wp_region_list ?_
    refine pureL (.slice (some ad) len cap) rfl (fun _ => by kernel_rfl) ?_
    simp only [Act.put, List.setIfInBounds_toArray, List.set_cons_zero, List.set_cons_succ]
    refine pureL (.pointer (some (ad.add 0))) rfl (fun w => idxSl 22 5 len cap .i64 ad 0 _ _ Try.underlying22 (fun _ => by kernel_rfl) (by omega) rfl rfl rfl w) ?_
    simp only [Act.put, List.setIfInBounds_toArray, List.set_cons_zero, List.set_cons_succ]
    refine readL (.int .u8 (z 0)) rfl (loadAny 5 .u8 _ (ad.add 0) _ rfl rfl Try.underlying5 hc0) ?_
    simp only [Act.put, List.setIfInBounds_toArray, List.set_cons_zero, List.set_cons_succ]
    refine pureL (.int .u8 (z 0 / 64)) rfl (fun w => quoI .u8 _ _ _ _ _ _ _ rfl rfl rfl (by decide) (by rw [IntKind.wrap_u8, Int.tdiv_eq_ediv_of_nonneg hz0.1]; omega) w) ?_
    simp only [Act.put, List.setIfInBounds_toArray, List.set_cons_zero, List.set_cons_succ]
    refine pureL (.int .i64 (((tK (z 0)) : Nat) : Int)) rfl (fun w => shlI .i64 .u8 _ _ _ _ _ _ _ rfl rfl rfl (by omega) (tK_shl (z 0) hz0) w) ?_
    simp only [Act.put, List.setIfInBounds_toArray, List.set_cons_zero, List.set_cons_succ]
    refine pureL (.int .i64 (((tK (z 0)) : Nat) : Int)) rfl (fun _ => by kernel_rfl) ?_
    simp only [Act.put, List.setIfInBounds_toArray, List.set_cons_zero, List.set_cons_succ]
    show Exit.then _ _ _ _ _
    by_cases h1 : len < tK (z 0)
    · have hE : tE len z = 3 := by unfold tE; rw [if_neg h0, if_pos h1]
      have hN : tN len z = 0 := by unfold tN; rw [hE]; rfl
      have hL : tL len z = 0 := by unfold tL; rw [hE]; rfl
      go_upto_region 4 with fail
      refine wp_region_list ?_
      refine pureL (.slice (some ad) len cap) rfl (fun _ => by kernel_rfl) ?_
      simp only [Act.put, List.setIfInBounds_toArray, List.set_cons_zero, List.set_cons_succ]
      refine pureL (.int .i64 (len : Int)) rfl (fun w => lenS _ 22 5 (some ad) (len) (cap) rfl Try.underlying22 rfl w) ?_
      simp only [Act.put, List.setIfInBounds_toArray, List.set_cons_zero, List.set_cons_succ]
      refine pureL (.int .i64 (((tK (z 0)) : Nat) : Int)) rfl (fun _ => by kernel_rfl) ?_
      simp only [Act.put, List.setIfInBounds_toArray, List.set_cons_zero, List.set_cons_succ]
      refine pureL (.bool true) rfl (fun w => lssI .i64 _ _ _ _ _ _ rfl rfl rfl true (decide_eq_true (by omega)) w) ?_
      simp only [Act.put, List.setIfInBounds_toArray, List.set_cons_zero, List.set_cons_succ]
      show Exit.then _ _ _ _ _
      have hA := show Hid _ from (And.intro hN (And.intro hL hE))
      clear hN hL hE
      go_wp2
      refine bodyPost_ret (results_tmp3 Try.results13 _ _ _) rfl ?_
      exact ⟨none, 0, by rw [hA.out.1, hA.out.2.1, hA.out.2.2]; rfl, by rw [hA.out.2.1]; exact ⟨Nat.le_refl _, fun _ => rfl, fun j hj => absurd hj (Nat.not_lt_zero j)⟩, hB0⟩
    · go_upto_region 4 with fail
      refine wp_region_list ?_
      refine pureL (.slice (some ad) len cap) rfl (fun _ => by kernel_rfl) ?_
      simp only [Act.put, List.setIfInBounds_toArray, List.set_cons_zero, List.set_cons_succ]
      refine pureL (.int .i64 (len : Int)) rfl (fun w => lenS _ 22 5 (some ad) (len) (cap) rfl Try.underlying22 rfl w) ?_
      simp only [Act.put, List.setIfInBounds_toArray, List.set_cons_zero, List.set_cons_succ]
      refine pureL (.int .i64 (((tK (z 0)) : Nat) : Int)) rfl (fun _ => by kernel_rfl) ?_
      simp only [Act.put, List.setIfInBounds_toArray, List.set_cons_zero, List.set_cons_succ]
      refine pureL (.bool false) rfl (fun w => lssI .i64 _ _ _ _ _ _ rfl rfl rfl false (decide_eq_false (by omega)) w) ?_
      simp only [Act.put, List.setIfInBounds_toArray, List.set_cons_zero, List.set_cons_succ]
      show Exit.then _ _ _ _ _
      go_upto_region 6 with fail
      refine wp_region_list ?_
      refine pureL (.slice (some ad) len cap) rfl (fun _ => by kernel_rfl) ?_
      simp only [Act.put, List.setIfInBounds_toArray, List.set_cons_zero, List.set_cons_succ]
      refine pureL (.pointer (some (ad.add 0))) rfl (fun w => idxSl 22 5 len cap .i64 ad 0 _ _ Try.underlying22 (fun _ => by kernel_rfl) (by omega) rfl rfl rfl w) ?_
      simp only [Act.put, List.setIfInBounds_toArray, List.set_cons_zero, List.set_cons_succ]
      refine readL (.int .u8 (z 0)) rfl (loadAny 5 .u8 _ (ad.add 0) _ rfl rfl Try.underlying5 hc0) ?_
      simp only [Act.put, List.setIfInBounds_toArray, List.set_cons_zero, List.set_cons_succ]
      refine pureL (.int .u8 (tV z 0)) rfl (fun w => remI .u8 _ _ _ _ _ _ _ rfl rfl rfl (by decide) (by rw [Int.tmod_eq_emod_of_nonneg hz0.1]; rfl) w) ?_
      simp only [Act.put, List.setIfInBounds_toArray, List.set_cons_zero, List.set_cons_succ]
      have h00 : 0 ≤ tV z 0 ∧ tV z 0 < 64 := by show 0 ≤ z 0 % 64 ∧ z 0 % 64 < 64; omega
      refine pureL (.int .i64 (tV z 0)) rfl (fun w => convI .u8 .i64 _ _ _ _ _ rfl (by kernel_rfl) Try.underlying3 (by kernel_rfl) rfl (by rw [IntKind.wrap_i64]; omega) w) ?_
      simp only [Act.put, List.setIfInBounds_toArray, List.set_cons_zero, List.set_cons_succ]
      refine pureL (.int .i64 (tV z 0)) rfl (fun _ => by kernel_rfl) ?_
      simp only [Act.put, List.setIfInBounds_toArray, List.set_cons_zero, List.set_cons_succ]
      show Exit.then _ _ _ _ _
      have hT := tV_nonneg z len hz
      generalize hKe : tK (z 0) = K at *
      have hK1 : 1 ≤ K ∧ K ≤ 8 := by omega
      go_wp2
      go_loopw [6, 7] (fun nw iw w' => ∃ m : Nat, 1 ≤ m ∧ m ≤ K ∧ nw = .int .i64 (tV z (m - 1)) ∧ iw = .int .i64 (m : Int) ∧ w = w') (fun _ iw _ => K - (intOf iw).toNat)
      case atStart => exact ⟨1, Nat.le_refl _, hK1.1, rfl, rfl, rfl⟩
      case round =>
        obtain ⟨m, hm1, hm2, rfl, rfl, rfl⟩ := hrel
        by_cases hlt : m < K
        · have g1 : (m : Int) < (K : Int) := by omega
          obtain ⟨ad', he', hcm⟩ := hs m (by omega)
          injection he' with he'
          subst he'
          have hzm := hz m (by omega)
          have hb1 := hT (m - 1) (by omega)
          have hb2 : tV z (m - 1) < 18014398509481984 := by
            have h6 : (256 : Nat) ^ (m - 1) ≤ 256 ^ 6 := Nat.pow_le_pow_right (by decide) (by omega)
            have e6 : (256 : Nat) ^ 6 = 281474976710656 := by decide
            have e7 : ((256 ^ (m - 1) : Nat) : Int) = (256 : Int) ^ (m - 1) := by norm_cast
            omega
          go_upto_region 10 with fail
          refine wp_region_list ?_
          refine pureL (.int .i64 (tV z (m - 1))) rfl (fun _ => by kernel_rfl) ?_
          simp only [Act.put, List.setIfInBounds_toArray, List.set_cons_zero, List.set_cons_succ]
          refine pureL (.int .i64 (tV z (m - 1) * 256)) rfl (fun w => mulI .i64 _ _ _ _ _ _ _ rfl rfl rfl (by rw [IntKind.wrap_i64]; omega) w) ?_
          simp only [Act.put, List.setIfInBounds_toArray, List.set_cons_zero, List.set_cons_succ]
          refine pureL (.slice (some ad) len cap) rfl (fun _ => by kernel_rfl) ?_
          simp only [Act.put, List.setIfInBounds_toArray, List.set_cons_zero, List.set_cons_succ]
          refine pureL (.int .i64 (m : Int)) rfl (fun _ => by kernel_rfl) ?_
          simp only [Act.put, List.setIfInBounds_toArray, List.set_cons_zero, List.set_cons_succ]
          refine pureL (.pointer (some (ad.add m))) rfl (fun w => idxSl 22 5 len cap .i64 ad m _ _ Try.underlying22 (fun _ => by kernel_rfl) (by omega) rfl rfl rfl w) ?_
          simp only [Act.put, List.setIfInBounds_toArray, List.set_cons_zero, List.set_cons_succ]
          refine readL (.int .u8 (z m)) rfl (loadAny 5 .u8 _ (ad.add m) _ rfl rfl Try.underlying5 hcm) ?_
          simp only [Act.put, List.setIfInBounds_toArray, List.set_cons_zero, List.set_cons_succ]
          refine pureL (.int .i64 (z m)) rfl (fun w => convI .u8 .i64 _ _ _ _ _ rfl (by kernel_rfl) Try.underlying3 (by kernel_rfl) rfl (by rw [IntKind.wrap_i64]; omega) w) ?_
          simp only [Act.put, List.setIfInBounds_toArray, List.set_cons_zero, List.set_cons_succ]
          refine pureL (.int .i64 (tV z (m - 1) * 256 + z m)) rfl (fun w => addI .i64 _ _ _ _ _ _ _ rfl rfl rfl (by rw [IntKind.wrap_i64]; omega) w) ?_
          simp only [Act.put, List.setIfInBounds_toArray, List.set_cons_zero, List.set_cons_succ]
          refine pureL (.int .i64 (tV z (m - 1) * 256 + z m)) rfl (fun _ => by kernel_rfl) ?_
          simp only [Act.put, List.setIfInBounds_toArray, List.set_cons_zero, List.set_cons_succ]
          have hnx : tV z (m - 1) * 256 + z m = tV z (m + 1 - 1) := by
            rw [show m + 1 - 1 = (m - 1) + 1 by omega]
            show _ = tV z (m - 1) * 256 + z (m - 1 + 1)
            rw [show m - 1 + 1 = m by omega]
          rw [hnx]
          clear hb1 hb2 hnx
          show Exit.inBlock _ _ _ _ _
          go_wp2
          go_roundw
          case rel => exact ⟨m + 1, by omega, by omega, rfl, by go_num, trivial⟩
          case measure => simp [intOf]; omega
        · obtain rfl : m = K := by omega
          have g1 : ¬ (m : Int) < (m : Int) := by omega
          have hb1 := (hT (m - 1) (by omega)).1
          have hv0 : ((tV z (m - 1)).toNat : Int) = tV z (m - 1) := by omega
          rw [← hv0]
          go_upto_region 11 with fail
          refine wp_region_list ?_
          refine pureL (.int .i64 (((tV z (m - 1)).toNat : Nat) : Int)) rfl (fun _ => by kernel_rfl) ?_
          simp only [Act.put, List.setIfInBounds_toArray, List.set_cons_zero, List.set_cons_succ]
          refine callL rfl (fun _ => by kernel_rfl) (rsize_any (tV z (m - 1)).toNat _) ?_
          rintro e w1 ⟨rfl, hB⟩
          refine ⟨_, rfl, ?_⟩
          simp only [Act.put, List.setIfInBounds_toArray, List.set_cons_zero, List.set_cons_succ]
          refine pureL (.int .i64 ((m : Nat) : Int)) rfl (fun _ => by kernel_rfl) ?_
          simp only [Act.put, List.setIfInBounds_toArray, List.set_cons_zero, List.set_cons_succ]
          by_cases hv : vsz (tV z (m - 1)).toNat = m
          · have hE : tE len z = 0 := by unfold tE; rw [if_neg h0, hKe, if_neg h1, if_neg (fun h => h hv)]
            have hN : tN len z = tV z (m - 1) := by unfold tN; rw [if_pos hE, hKe]
            have hL : tL len z = len - m := by unfold tL; rw [if_pos hE, hKe]
            refine pureL (.bool false) rfl (fun w => neqI .i64 _ _ _ _ _ _ rfl rfl rfl false (by simp; omega) w) ?_
            simp only [Act.put, List.setIfInBounds_toArray, List.set_cons_zero, List.set_cons_succ]
            show Exit.then _ _ _ _ _
            obtain ⟨cp, hcut, hsrc, hcn⟩ := cut_loN (P := Try.prog) (t := 22) (by kernel_rfl) (fun _ => by kernel_rfl) (some ad) len cap m (by omega) hcap (fun e => by cases e)
            go_upto_region 13 with fail
            refine wp_region_list ?_
            refine pureL (.int .i64 (((tV z (m - 1)).toNat : Nat) : Int)) rfl (fun _ => by kernel_rfl) ?_
            simp only [Act.put, List.setIfInBounds_toArray, List.set_cons_zero, List.set_cons_succ]
            refine actL (w' := w1.alloc (.cells #[] 5)) (.slice (some ⟨w1.heap.size, 0, none⟩) 0 0) rfl (by kernel_rfl) ?_
            simp only [Act.put, List.setIfInBounds_toArray, List.set_cons_zero, List.set_cons_succ]
            refine pureL (.slice (some ad) len cap) rfl (fun _ => by kernel_rfl) ?_
            simp only [Act.put, List.setIfInBounds_toArray, List.set_cons_zero, List.set_cons_succ]
            refine pureL (.int .i64 ((m : Nat) : Int)) rfl (fun _ => by kernel_rfl) ?_
            simp only [Act.put, List.setIfInBounds_toArray, List.set_cons_zero, List.set_cons_succ]
            refine pureL (.slice cp (len - m) (cap - m)) rfl (fun w => cutOp _ _ _ _ _ _ rfl rfl rfl (hcut w)) ?_
            simp only [Act.put, List.setIfInBounds_toArray, List.set_cons_zero, List.set_cons_succ]
            have hb1 := (Below.refl w1.heap.size w1).alloc (Nat.le_refl _) (.cells #[] 5)
            obtain ⟨v, w2, hr, ho, hgr, _⟩ := run_append_Own (P := Try.prog) (ty := 22) Try.underlying22 one8 (Own.lit w1 w1.heap.size 5 .u8 0 (fun _ => 0) (Nat.le_refl _) (by unfold maxLen; omega)) (cp) (len - m) (cap - m) (fun j => z (m + j)) (((hsrc _ _ hs).below hB (Nat.le_refl _)).below hb1 (Nat.le_refl _)) hcn (by unfold maxLen; omega) (by omega) hb1.size
            have hb2 := hb1.grown hgr hb1.size (fun b hb => by injection hb with hb; simp only at hb; omega)
            refine actL v rfl (appendOp _ _ 22 _ _ _ rfl rfl rfl hr) ?_
            simp only [Act.put, List.setIfInBounds_toArray, List.set_cons_zero, List.set_cons_succ]
            have hO : Own w2 w1.heap.size 5 .u8 (len - m) (fun j => z (m + j)) v := by
              rw [Nat.zero_add] at ho
              exact ho.congr fun j _ => by unfold app; rw [if_neg (Nat.not_lt_zero j), Nat.sub_zero]
            clear hr ho hgr hb1
            obtain ⟨rp, rc, rfl, hrc, hrs⟩ := hO.bytes
            have hrn := hO.nilCap
            replace hB := hB.trans (hb2.mono hB.size)
            clear hO hb2
            refine pureL (.int .i64 (((tV z (m - 1)).toNat : Nat) : Int)) rfl (fun _ => by kernel_rfl) ?_
            simp only [Act.put, List.setIfInBounds_toArray, List.set_cons_zero, List.set_cons_succ]
            refine pureL (.slice rp (len - m) rc) rfl (fun _ => by kernel_rfl) ?_
            simp only [Act.put, List.setIfInBounds_toArray, List.set_cons_zero, List.set_cons_succ]
            refine pureL (.int .i64 0) rfl (fun _ => by kernel_rfl) ?_
            simp only [Act.put, List.setIfInBounds_toArray, List.set_cons_zero, List.set_cons_succ]
            show Exit.then _ _ _ _ _
            have hA := show Hid _ from (And.intro hN (And.intro hL hE))
            clear hN hL hE
            go_wp2
            refine bodyPost_ret (results_tmp3 Try.results13 _ _ _) rfl ?_
            exact ⟨rp, rc, by rw [hA.out.1, hA.out.2.1, hA.out.2.2]; rfl, by rw [hA.out.2.1]; exact ⟨hrc, hrn, hrs.congr fun j _ => by unfold tR; rw [hKe]⟩, hB⟩
          · have hE : tE len z = 90 := by unfold tE; rw [if_neg h0, hKe, if_neg h1, if_pos hv]
            have hN : tN len z = 0 := by unfold tN; rw [hE]; rfl
            have hL : tL len z = 0 := by unfold tL; rw [hE]; rfl
            refine pureL (.bool true) rfl (fun w => neqI .i64 _ _ _ _ _ _ rfl rfl rfl true (by simp; omega) w) ?_
            simp only [Act.put, List.setIfInBounds_toArray, List.set_cons_zero, List.set_cons_succ]
            show Exit.then _ _ _ _ _
            have hA := show Hid _ from (And.intro hN (And.intro hL hE))
            clear hN hL hE
            go_wp2
            refine bodyPost_ret (results_tmp3 Try.results13 _ _ _) rfl ?_
            exact ⟨none, 0, by rw [hA.out.1, hA.out.2.1, hA.out.2.2]; rfl, by rw [hA.out.2.1]; exact ⟨Nat.le_refl _, fun _ => rfl, fun j hj => absurd hj (Nat.not_lt_zero j)⟩, hB⟩
end Go.Proofs.Ytogbdoikkmdopaa

namespace Go.Proofs.Ytogbdoikkmdopaa
open Go.RowKit

set_option maxRecDepth 10000 in
set_option maxHeartbeats 4000000 in
theorem rputfixed_bad (sp : Option Addr) (len cap : Nat) (n s : Int) (hn : n < 9223372036854775808) (hb : fbad n s) (w : World) :
    Calls Try.prog 17 #[.slice sp len cap, .int .i64 n, .int .i64 s] w fun e w' => e = .returned (.tuple #[.slice none 0 0, .int .i64 1]) ∧ Below w.heap.size w w' := by
  have hB := Below.refl w.heap.size w
  unfold fbad at hb
  by_cases h1 : s < 1
  · clear hb
    have h1' : s ≤ 0 := by omega
    go_enter Try.func17, Try.ntmps17
    go_wp2
    go_ret2
    exact ⟨rfl, hB⟩
  · by_cases h2 : 7 < s
    · clear hb
      have h2' : 8 ≤ s := by omega
      have h1' : ¬ s ≤ 0 := by omega
      go_enter Try.func17, Try.ntmps17
      go_wp2
      go_ret2
      exact ⟨rfl, hB⟩
    · by_cases h3 : n < 0
      · clear hb
        have h2' : ¬ 8 ≤ s := by omega
        have h1' : ¬ s ≤ 0 := by omega
        go_enter Try.func17, Try.ntmps17
        go_wp2
        go_ret2
        exact ⟨rfl, hB⟩
      · obtain ⟨n, rfl⟩ := Int.eq_ofNat_of_zero_le (show 0 ≤ n by omega)
        obtain ⟨s, rfl⟩ := Int.eq_ofNat_of_zero_le (show 0 ≤ s by omega)
        have h4 : 256 ^ s ≤ n := by
          have e : (256 : Int) ^ ((s : Nat) : Int).toNat = ((256 ^ s : Nat) : Int) := by rw [Int.toNat_natCast]; exact (Int.natCast_pow 256 s).symm
          rw [e] at hb
          omega
        have h5 : 1 ≤ n / 256 ^ s := (Nat.one_le_div_iff (Nat.pow_pos (by decide))).2 h4
        clear hb h4
        go_enter Try.func17, Try.ntmps17
        go_upto_region 1 with fail
        refine wp_region_list ?_
        refine pureL (.int .i64 ((s : Nat) : Int)) rfl (fun _ => by kernel_rfl) ?_
        simp only [Act.put, List.setIfInBounds_toArray, List.set_cons_zero, List.set_cons_succ]
        refine pureL (.bool false) rfl (fun w => lssI .i64 _ _ _ _ _ _ rfl rfl rfl false (decide_eq_false (by omega)) w) ?_
        simp only [Act.put, List.setIfInBounds_toArray, List.set_cons_zero, List.set_cons_succ]
        refine pureL (.bool false) rfl (fun _ => by kernel_rfl) ?_
        simp only [Act.put, List.setIfInBounds_toArray, List.set_cons_zero, List.set_cons_succ]
        refine pureL (.int .i64 ((s : Nat) : Int)) rfl (fun _ => by kernel_rfl) ?_
        simp only [Act.put, List.setIfInBounds_toArray, List.set_cons_zero, List.set_cons_succ]
        refine pureL (.bool false) rfl (fun w => gtrI .i64 _ _ _ _ _ _ rfl rfl rfl false (decide_eq_false (by omega)) w) ?_
        simp only [Act.put, List.setIfInBounds_toArray, List.set_cons_zero, List.set_cons_succ]
        refine pureL (.bool false) rfl (fun _ => by kernel_rfl) ?_
        simp only [Act.put, List.setIfInBounds_toArray, List.set_cons_zero, List.set_cons_succ]
        refine pureL (.bool false) rfl (fun _ => by kernel_rfl) ?_
        simp only [Act.put, List.setIfInBounds_toArray, List.set_cons_zero, List.set_cons_succ]
        refine pureL (.int .i64 ((n : Nat) : Int)) rfl (fun _ => by kernel_rfl) ?_
        simp only [Act.put, List.setIfInBounds_toArray, List.set_cons_zero, List.set_cons_succ]
        refine pureL (.bool false) rfl (fun w => lssI .i64 _ _ _ _ _ _ rfl rfl rfl false (decide_eq_false (by omega)) w) ?_
        simp only [Act.put, List.setIfInBounds_toArray, List.set_cons_zero, List.set_cons_succ]
        refine pureL (.bool false) rfl (fun _ => by kernel_rfl) ?_
        simp only [Act.put, List.setIfInBounds_toArray, List.set_cons_zero, List.set_cons_succ]
        refine pureL (.bool false) rfl (fun _ => by kernel_rfl) ?_
        simp only [Act.put, List.setIfInBounds_toArray, List.set_cons_zero, List.set_cons_succ]
        refine pureL (.int .i64 ((n : Nat) : Int)) rfl (fun _ => by kernel_rfl) ?_
        simp only [Act.put, List.setIfInBounds_toArray, List.set_cons_zero, List.set_cons_succ]
        refine pureL (.int .i64 ((s : Nat) : Int)) rfl (fun _ => by kernel_rfl) ?_
        simp only [Act.put, List.setIfInBounds_toArray, List.set_cons_zero, List.set_cons_succ]
        refine pureL (.int .i64 ((8 * s : Nat) : Int)) rfl (fun w => mulI .i64 _ _ _ _ _ _ _ rfl rfl rfl (by rw [IntKind.wrap_i64]; omega) w) ?_
        simp only [Act.put, List.setIfInBounds_toArray, List.set_cons_zero, List.set_cons_succ]
        refine pureL (.int .i64 ((n / 256 ^ s : Nat) : Int)) rfl (fun w => shrI .i64 .i64 _ _ _ _ _ _ _ rfl rfl rfl (by omega) (shr_byte n s (by omega)) w) ?_
        simp only [Act.put, List.setIfInBounds_toArray, List.set_cons_zero, List.set_cons_succ]
        refine pureL (.bool true) rfl (fun w => gtrI .i64 _ _ _ _ _ _ rfl rfl rfl true (decide_eq_true (by omega)) w) ?_
        simp only [Act.put, List.setIfInBounds_toArray, List.set_cons_zero, List.set_cons_succ]
        refine pureL (.bool true) rfl (fun _ => by kernel_rfl) ?_
        simp only [Act.put, List.setIfInBounds_toArray, List.set_cons_zero, List.set_cons_succ]
        show Exit.then _ _ _ _ _
        go_wp2
        go_ret2
        exact ⟨rfl, hB⟩

set_option maxRecDepth 10000 in
set_option maxHeartbeats 8000000 in
theorem rputfixed_good (sp : Option Addr) (len cap : Nat) (hlen : len ≤ 140737488351232) (hnil : sp = none → cap = 0) (z : Nat → Int) (n s : Nat) (hs1 : 1 ≤ s) (hs7 : s ≤ 7) (hn : n < 256 ^ s) (w : World) (hs : Src w sp len z) :
    Calls Try.prog 17 #[.slice sp len cap, .int .i64 (n : Int), .int .i64 (s : Int)] w fun e w' => ∃ v, e = .returned (.tuple #[v, .int .i64 0]) ∧ Own w' w.heap.size 5 .u8 (len + s) (app z len (fby n s)) v ∧ Below w.heap.size w w' := by
  have hn8 : n < 72057594037927936 := Nat.lt_of_lt_of_le hn (Nat.pow_le_pow_right (by decide) hs7)
  have h5 : n / 256 ^ s = 0 := Nat.div_eq_of_lt hn
  go_enter Try.func17, Try.ntmps17
  go_upto_region 1 with fail
  refine wp_region_list ?_
  refine pureL (.int .i64 ((s : Nat) : Int)) rfl (fun _ => by kernel_rfl) ?_
  simp only [Act.put, List.setIfInBounds_toArray, List.set_cons_zero, List.set_cons_succ]
  refine pureL (.bool false) rfl (fun w => lssI .i64 _ _ _ _ _ _ rfl rfl rfl false (decide_eq_false (by omega)) w) ?_
  simp only [Act.put, List.setIfInBounds_toArray, List.set_cons_zero, List.set_cons_succ]
  refine pureL (.bool false) rfl (fun _ => by kernel_rfl) ?_
  simp only [Act.put, List.setIfInBounds_toArray, List.set_cons_zero, List.set_cons_succ]
  refine pureL (.int .i64 ((s : Nat) : Int)) rfl (fun _ => by kernel_rfl) ?_
  simp only [Act.put, List.setIfInBounds_toArray, List.set_cons_zero, List.set_cons_succ]
  refine pureL (.bool false) rfl (fun w => gtrI .i64 _ _ _ _ _ _ rfl rfl rfl false (decide_eq_false (by omega)) w) ?_
  simp only [Act.put, List.setIfInBounds_toArray, List.set_cons_zero, List.set_cons_succ]
  refine pureL (.bool false) rfl (fun _ => by kernel_rfl) ?_
  simp only [Act.put, List.setIfInBounds_toArray, List.set_cons_zero, List.set_cons_succ]
  refine pureL (.bool false) rfl (fun _ => by kernel_rfl) ?_
  simp only [Act.put, List.setIfInBounds_toArray, List.set_cons_zero, List.set_cons_succ]
  refine pureL (.int .i64 ((n : Nat) : Int)) rfl (fun _ => by kernel_rfl) ?_
  simp only [Act.put, List.setIfInBounds_toArray, List.set_cons_zero, List.set_cons_succ]
  refine pureL (.bool false) rfl (fun w => lssI .i64 _ _ _ _ _ _ rfl rfl rfl false (decide_eq_false (by omega)) w) ?_
  simp only [Act.put, List.setIfInBounds_toArray, List.set_cons_zero, List.set_cons_succ]
  refine pureL (.bool false) rfl (fun _ => by kernel_rfl) ?_
  simp only [Act.put, List.setIfInBounds_toArray, List.set_cons_zero, List.set_cons_succ]
  refine pureL (.bool false) rfl (fun _ => by kernel_rfl) ?_
  simp only [Act.put, List.setIfInBounds_toArray, List.set_cons_zero, List.set_cons_succ]
  refine pureL (.int .i64 ((n : Nat) : Int)) rfl (fun _ => by kernel_rfl) ?_
  simp only [Act.put, List.setIfInBounds_toArray, List.set_cons_zero, List.set_cons_succ]
  refine pureL (.int .i64 ((s : Nat) : Int)) rfl (fun _ => by kernel_rfl) ?_
  simp only [Act.put, List.setIfInBounds_toArray, List.set_cons_zero, List.set_cons_succ]
  refine pureL (.int .i64 ((8 * s : Nat) : Int)) rfl (fun w => mulI .i64 _ _ _ _ _ _ _ rfl rfl rfl (by rw [IntKind.wrap_i64]; omega) w) ?_
  simp only [Act.put, List.setIfInBounds_toArray, List.set_cons_zero, List.set_cons_succ]
  refine pureL (.int .i64 ((n / 256 ^ s : Nat) : Int)) rfl (fun w => shrI .i64 .i64 _ _ _ _ _ _ _ rfl rfl rfl (by omega) (shr_byte n s (by omega)) w) ?_
  simp only [Act.put, List.setIfInBounds_toArray, List.set_cons_zero, List.set_cons_succ]
  refine pureL (.bool false) rfl (fun w => gtrI .i64 _ _ _ _ _ _ rfl rfl rfl false (decide_eq_false (by omega)) w) ?_
  simp only [Act.put, List.setIfInBounds_toArray, List.set_cons_zero, List.set_cons_succ]
  refine pureL (.bool false) rfl (fun _ => by kernel_rfl) ?_
  simp only [Act.put, List.setIfInBounds_toArray, List.set_cons_zero, List.set_cons_succ]
  show Exit.then _ _ _ _ _
  clear h5
  go_upto_region 3 with fail
  refine wp_region_list ?_
  refine actL (w' := w.alloc (.cells #[] 5)) (.slice (some ⟨w.heap.size, 0, none⟩) 0 0) rfl (by kernel_rfl) ?_
  simp only [Act.put, List.setIfInBounds_toArray, List.set_cons_zero, List.set_cons_succ]
  refine pureL (.slice sp len cap) rfl (fun _ => by kernel_rfl) ?_
  simp only [Act.put, List.setIfInBounds_toArray, List.set_cons_zero, List.set_cons_succ]
  have hb1 := (Below.refl w.heap.size w).alloc (Nat.le_refl _) (.cells #[] 5)
  obtain ⟨v, w2, hr, ho, hgr, _⟩ := run_append_Own (P := Try.prog) (ty := 22) Try.underlying22 one8 (Own.lit w w.heap.size 5 .u8 0 (fun _ => 0) (Nat.le_refl _) (by unfold maxLen; omega)) (sp) (len) (cap) (z) ((hs).below hb1 (Nat.le_refl _)) hnil (by unfold maxLen; omega) (by omega) hb1.size
  have hb2 := hb1.grown hgr hb1.size (fun b hb => by injection hb with hb; simp only at hb; omega)
  refine actL v rfl (appendOp _ _ 22 _ _ _ rfl rfl rfl hr) ?_
  simp only [Act.put, List.setIfInBounds_toArray, List.set_cons_zero, List.set_cons_succ]
  have hO : Own w2 w.heap.size 5 .u8 (len) (z) v := by
    rw [Nat.zero_add] at ho
    exact ho.congr fun j _ => by unfold app; rw [if_neg (Nat.not_lt_zero j), Nat.sub_zero]
  clear hr ho hgr hb1
  refine pureL v rfl (fun _ => by kernel_rfl) ?_
  simp only [Act.put, List.setIfInBounds_toArray, List.set_cons_zero, List.set_cons_succ]
  have hB := hb2
  clear hb2
  show Exit.then _ _ _ _ _
  go_upto_region 4 with fail
  refine wp_region_list ?_
  refine pureL (.int .i64 ((s : Nat) : Int)) rfl (fun _ => by kernel_rfl) ?_
  simp only [Act.put, List.setIfInBounds_toArray, List.set_cons_zero, List.set_cons_succ]
  refine pureL (.int .i64 ((s : Int) - 1)) rfl (fun w => subI .i64 _ _ _ _ _ _ _ rfl rfl rfl (by rw [IntKind.wrap_i64]; omega) w) ?_
  simp only [Act.put, List.setIfInBounds_toArray, List.set_cons_zero, List.set_cons_succ]
  refine pureL (.int .i64 ((s : Int) - 1)) rfl (fun _ => by kernel_rfl) ?_
  simp only [Act.put, List.setIfInBounds_toArray, List.set_cons_zero, List.set_cons_succ]
  show Exit.then _ _ _ _ _
  go_wp2
  go_loopw [8, 9] (fun ow iw w' => ∃ (m : Nat) (v : Value) (i : Int), m ≤ s ∧ i = (s : Int) - 1 - (m : Int) ∧ v = ow ∧ iw = .int .i64 i ∧ Own w' w.heap.size 5 .u8 (len + m) (app z len (fby n s)) v ∧ Below w.heap.size w w') (fun _ iw _ => ((intOf iw) + 1).toNat)
  case atStart => exact ⟨0, _, _, Nat.zero_le _, rfl, rfl, by rw [show ((s : Int) - 1 - ((0 : Nat) : Int)) = (s : Int) - 1 by omega], hO.congr fun j hj => by unfold app; rw [if_pos (by omega)], hB⟩
  case round =>
    clear hO hB
    obtain ⟨m, v, i, hm, hi, rfl, rfl, hO, hB⟩ := hrel
    by_cases hlt : m < s
    · obtain ⟨e, rfl⟩ := Int.eq_ofNat_of_zero_le (show 0 ≤ i by omega)
      have he : e = s - 1 - m := by omega
      have hv : fby n s m = (((n / 256 ^ e) % 256 : Nat) : Int) := by unfold fby; rw [he]
      have hq : (n / 256 ^ e) ≤ n := Nat.div_le_self _ _
      obtain ⟨so, co, rfl, _, _⟩ := hO.bytes
      go_upto_region 5 with fail
      refine wp_region_list ?_
      refine pureL (.int .i64 ((e : Nat) : Int)) rfl (fun _ => by kernel_rfl) ?_
      simp only [Act.put, List.setIfInBounds_toArray, List.set_cons_zero, List.set_cons_succ]
      refine pureL (.bool true) rfl (fun w => geqI .i64 _ _ _ _ _ _ rfl rfl rfl true (decide_eq_true (by omega)) w) ?_
      simp only [Act.put, List.setIfInBounds_toArray, List.set_cons_zero, List.set_cons_succ]
      show Exit.then _ _ _ _ _
      go_upto_region 7 with fail
      refine wp_region_list ?_
      refine pureL (.slice so (len + m) co) rfl (fun _ => by kernel_rfl) ?_
      simp only [Act.put, List.setIfInBounds_toArray, List.set_cons_zero, List.set_cons_succ]
      refine pureL (.int .i64 ((n : Nat) : Int)) rfl (fun _ => by kernel_rfl) ?_
      simp only [Act.put, List.setIfInBounds_toArray, List.set_cons_zero, List.set_cons_succ]
      refine pureL (.int .i64 ((e : Nat) : Int)) rfl (fun _ => by kernel_rfl) ?_
      simp only [Act.put, List.setIfInBounds_toArray, List.set_cons_zero, List.set_cons_succ]
      refine pureL (.int .i64 ((8 * e : Nat) : Int)) rfl (fun w => mulI .i64 _ _ _ _ _ _ _ rfl rfl rfl (by rw [IntKind.wrap_i64]; omega) w) ?_
      simp only [Act.put, List.setIfInBounds_toArray, List.set_cons_zero, List.set_cons_succ]
      refine pureL (.int .i64 (((n / 256 ^ e) : Nat) : Int)) rfl (fun w => shrI .i64 .i64 _ _ _ _ _ _ _ rfl rfl rfl (by omega) (shr_byte n e (by omega)) w) ?_
      simp only [Act.put, List.setIfInBounds_toArray, List.set_cons_zero, List.set_cons_succ]
      refine pureL (.int .u8 (fby n s m)) rfl (fun w => convI .i64 .u8 _ _ _ _ _ rfl (by kernel_rfl) Try.underlying5 (by kernel_rfl) rfl (by rw [IntKind.wrap_u8, hv]; omega) w) ?_
      simp only [Act.put, List.setIfInBounds_toArray, List.set_cons_zero, List.set_cons_succ]
      refine actL (w' := wr.alloc (.cells #[.int .u8 (fby n s m)] 5)) (.slice (some ⟨wr.heap.size, 0, none⟩) 1 1) rfl (by kernel_rfl) ?_
      simp only [Act.put, List.setIfInBounds_toArray, List.set_cons_zero, List.set_cons_succ]
      obtain ⟨v, w3, hr, ho, hgr⟩ := hO.more8 (by omega) (fby n s m) (by unfold app; rw [if_neg (by omega), show len + m - len = m by omega]) 22 hB.size
      refine actL v rfl (appendOp _ _ 22 _ _ _ rfl rfl rfl hr) ?_
      simp only [Act.put, List.setIfInBounds_toArray, List.set_cons_zero, List.set_cons_succ]
      refine pureL v rfl (fun _ => by kernel_rfl) ?_
      simp only [Act.put, List.setIfInBounds_toArray, List.set_cons_zero, List.set_cons_succ]
      have HS := show Hid _ from (And.intro (show Own w3 w.heap.size 5 .u8 (len + (m + 1)) (app z len (fby n s)) v from ho) ((hB.alloc hB.size (.cells #[.int .u8 (fby n s m)] 5)).grown hgr (Nat.le_trans hB.size (by simp)) (fun b hb => (World.ownsRow.lt hO b hb).1)))
      clear hr ho hgr hO hB hv
      show Exit.inBlock _ _ _ _ _
      go_wp2
      go_roundw
      case rel => first | exact ⟨m + 1, v, ((e : Nat) : Int) - 1, by omega, by omega, rfl, by go_num, HS.out.1, HS.out.2⟩ | ((repeat apply Exists.intro); refine ⟨⟨m + 1, v, ((e : Nat) : Int) - 1, by omega, by omega, rfl, by go_num, HS.out.1, HS.out.2⟩, rfl⟩)
      case measure => simp [intOf]; omega
    · obtain rfl : m = s := by omega
      obtain rfl : i = -1 := by omega
      obtain ⟨so, co, rfl, _, _⟩ := hO.bytes
      go_upto_region 8 with fail
      refine wp_region_list ?_
      refine pureL (.slice so (len + m) co) rfl (fun _ => by kernel_rfl) ?_
      simp only [Act.put, List.setIfInBounds_toArray, List.set_cons_zero, List.set_cons_succ]
      refine pureL (.slice so (len + m) co) rfl (fun _ => by kernel_rfl) ?_
      simp only [Act.put, List.setIfInBounds_toArray, List.set_cons_zero, List.set_cons_succ]
      refine pureL (.int .i64 0) rfl (fun _ => by kernel_rfl) ?_
      simp only [Act.put, List.setIfInBounds_toArray, List.set_cons_zero, List.set_cons_succ]
      show Exit.then _ _ _ _ _
      go_wp2
      go_ret2
      exact ⟨_, rfl, hO, hB⟩

set_option maxRecDepth 10000 in
set_option maxHeartbeats 16000000 in
theorem rtakefixed_any (sp : Option Addr) (len cap : Nat) (hlen : len ≤ 140737488351232) (hcap : len ≤ cap) (hnil : sp = none → cap = 0) (z : Nat → Int) (hz : In 256 len z) (s : Int) (w : World) (hs : Src w sp len z) :
    Calls Try.prog 15 #[.slice sp len cap, .int .i64 s] w fun e w' => ∃ rp rc, e = .returned (.tuple #[.int .i64 (gN len z s), .slice rp (gL len s) rc, .int .i64 (gE len s)]) ∧ (gL len s ≤ rc ∧ (rp = none → rc = 0) ∧ Src w' rp (gL len s) (fun j => z (s.toNat + j))) ∧ Below w.heap.size w w' := by
  have hB0 := Below.refl w.heap.size w
  by_cases h1 : s < 1
  · have hE : gE len s = 1 := by unfold gE; rw [if_pos (.inl h1)]
    have hN : gN len z s = 0 := by unfold gN; rw [hE]; rfl
    have hL : gL len s = 0 := by unfold gL; rw [hE]; rfl
    have h1' : s ≤ 0 := by omega
    go_enter Try.func15, Try.ntmps15
    have hA := show Hid _ from (And.intro hN (And.intro hL hE))
    clear hN hL hE
    go_wp2
    refine bodyPost_ret (results_tmp3 Try.results15 _ _ _) rfl ?_
    exact ⟨none, 0, by rw [hA.out.1, hA.out.2.1, hA.out.2.2]; rfl, by rw [hA.out.2.1]; exact ⟨Nat.le_refl _, fun _ => rfl, fun j hj => absurd hj (Nat.not_lt_zero j)⟩, hB0⟩
  · by_cases h2 : 7 < s
    · have hE : gE len s = 1 := by unfold gE; rw [if_pos (.inr h2)]
      have hN : gN len z s = 0 := by unfold gN; rw [hE]; rfl
      have hL : gL len s = 0 := by unfold gL; rw [hE]; rfl
      have h1' : ¬ s ≤ 0 := by omega
      have h2' : 8 ≤ s := by omega
      go_enter Try.func15, Try.ntmps15
      have hA := show Hid _ from (And.intro hN (And.intro hL hE))
      clear hN hL hE
      go_wp2
      refine bodyPost_ret (results_tmp3 Try.results15 _ _ _) rfl ?_
      exact ⟨none, 0, by rw [hA.out.1, hA.out.2.1, hA.out.2.2]; rfl, by rw [hA.out.2.1]; exact ⟨Nat.le_refl _, fun _ => rfl, fun j hj => absurd hj (Nat.not_lt_zero j)⟩, hB0⟩
    · by_cases h3 : (len : Int) < s
      · have hE : gE len s = 3 := by unfold gE; rw [if_neg (by omega), if_pos h3]
        have hN : gN len z s = 0 := by unfold gN; rw [hE]; rfl
        have hL : gL len s = 0 := by unfold gL; rw [hE]; rfl
        have h1' : ¬ s ≤ 0 := by omega
        have h2' : ¬ 8 ≤ s := by omega
        go_enter Try.func15, Try.ntmps15
        have hA := show Hid _ from (And.intro hN (And.intro hL hE))
        clear hN hL hE
        go_wp2
        refine bodyPost_ret (results_tmp3 Try.results15 _ _ _) rfl ?_
        exact ⟨none, 0, by rw [hA.out.1, hA.out.2.1, hA.out.2.2]; rfl, by rw [hA.out.2.1]; exact ⟨Nat.le_refl _, fun _ => rfl, fun j hj => absurd hj (Nat.not_lt_zero j)⟩, hB0⟩
      · obtain ⟨K, rfl⟩ := Int.eq_ofNat_of_zero_le (show 0 ≤ s by omega)
        have hE : gE len ((K : Nat) : Int) = 0 := by unfold gE; rw [if_neg (by omega), if_neg h3]
        have hN : gN len z ((K : Nat) : Int) = fV z K := by unfold gN; rw [if_pos hE, Int.toNat_natCast]
        have hL : gL len ((K : Nat) : Int) = len - K := by unfold gL; rw [if_pos hE, Int.toNat_natCast]
        have hA := show Hid _ from (And.intro hN (And.intro hL hE))
        clear hN hL hE
        have h1' : ¬ (K : Int) ≤ 0 := by omega
        have h2' : ¬ 8 ≤ (K : Int) := by omega
        obtain ⟨ad, rfl, _⟩ := hs 0 (by omega)
        have hT := fV_nonneg z len hz
        go_enter Try.func15, Try.ntmps15
        go_wp2
        go_loopw [7, 8] (fun nw iw w' => ∃ m : Nat, m ≤ K ∧ nw = .int .i64 (fV z m) ∧ iw = .int .i64 (m : Int) ∧ w = w') (fun _ iw _ => K - (intOf iw).toNat)
        case atStart => exact ⟨0, Nat.zero_le _, rfl, rfl, rfl⟩
        case round =>
          obtain ⟨m, hm2, rfl, rfl, rfl⟩ := hrel
          by_cases hlt : m < K
          · have g1 : (m : Int) < (K : Int) := by omega
            obtain ⟨ad', he', hcm⟩ := hs m (by omega)
            injection he' with he'
            subst he'
            have hzm := hz m (by omega)
            have hb1 := hT m (by omega)
            have hb2 : fV z m < 281474976710656 := by
              have h6 : (256 : Nat) ^ m ≤ 256 ^ 6 := Nat.pow_le_pow_right (by decide) (by omega)
              have e6 : (256 : Nat) ^ 6 = 281474976710656 := by decide
              have e7 : ((256 ^ m : Nat) : Int) = (256 : Int) ^ m := by norm_cast
              omega
            go_upto_region 9 with fail
            refine wp_region_list ?_
            refine pureL (.int .i64 (fV z m)) rfl (fun _ => by kernel_rfl) ?_
            simp only [Act.put, List.setIfInBounds_toArray, List.set_cons_zero, List.set_cons_succ]
            refine pureL (.int .i64 (fV z m * 256)) rfl (fun w => mulI .i64 _ _ _ _ _ _ _ rfl rfl rfl (by rw [IntKind.wrap_i64]; omega) w) ?_
            simp only [Act.put, List.setIfInBounds_toArray, List.set_cons_zero, List.set_cons_succ]
            refine pureL (.slice (some ad) len cap) rfl (fun _ => by kernel_rfl) ?_
            simp only [Act.put, List.setIfInBounds_toArray, List.set_cons_zero, List.set_cons_succ]
            refine pureL (.int .i64 (m : Int)) rfl (fun _ => by kernel_rfl) ?_
            simp only [Act.put, List.setIfInBounds_toArray, List.set_cons_zero, List.set_cons_succ]
            refine pureL (.pointer (some (ad.add m))) rfl (fun w => idxSl 22 5 len cap .i64 ad m _ _ Try.underlying22 (fun _ => by kernel_rfl) (by omega) rfl rfl rfl w) ?_
            simp only [Act.put, List.setIfInBounds_toArray, List.set_cons_zero, List.set_cons_succ]
            refine readL (.int .u8 (z m)) rfl (loadAny 5 .u8 _ (ad.add m) _ rfl rfl Try.underlying5 hcm) ?_
            simp only [Act.put, List.setIfInBounds_toArray, List.set_cons_zero, List.set_cons_succ]
            refine pureL (.int .i64 (z m)) rfl (fun w => convI .u8 .i64 _ _ _ _ _ rfl (by kernel_rfl) Try.underlying3 (by kernel_rfl) rfl (by rw [IntKind.wrap_i64]; omega) w) ?_
            simp only [Act.put, List.setIfInBounds_toArray, List.set_cons_zero, List.set_cons_succ]
            refine pureL (.int .i64 (fV z (m + 1))) rfl (fun w => addI .i64 _ _ _ _ _ _ _ rfl rfl rfl (by rw [IntKind.wrap_i64]; show _ = fV z m * 256 + z m; omega) w) ?_
            simp only [Act.put, List.setIfInBounds_toArray, List.set_cons_zero, List.set_cons_succ]
            refine pureL (.int .i64 (fV z (m + 1))) rfl (fun _ => by kernel_rfl) ?_
            simp only [Act.put, List.setIfInBounds_toArray, List.set_cons_zero, List.set_cons_succ]
            clear hb1 hb2
            show Exit.inBlock _ _ _ _ _
            go_wp2
            go_roundw
            case rel => exact ⟨m + 1, by omega, rfl, by go_num, trivial⟩
            case measure => simp [intOf]; omega
          · obtain rfl : m = K := by omega
            have g1 : ¬ (m : Int) < (m : Int) := by omega
            obtain ⟨cp, hcut, hsrc, hcn⟩ := cut_loN (P := Try.prog) (t := 22) (by kernel_rfl) (fun _ => by kernel_rfl) (some ad) len cap m (by omega) hcap (fun e => by cases e)
            go_upto_region 10 with fail
            refine wp_region_list ?_
            refine pureL (.int .i64 (fV z m)) rfl (fun _ => by kernel_rfl) ?_
            simp only [Act.put, List.setIfInBounds_toArray, List.set_cons_zero, List.set_cons_succ]
            refine actL (w' := w.alloc (.cells #[] 5)) (.slice (some ⟨w.heap.size, 0, none⟩) 0 0) rfl (by kernel_rfl) ?_
            simp only [Act.put, List.setIfInBounds_toArray, List.set_cons_zero, List.set_cons_succ]
            refine pureL (.slice (some ad) len cap) rfl (fun _ => by kernel_rfl) ?_
            simp only [Act.put, List.setIfInBounds_toArray, List.set_cons_zero, List.set_cons_succ]
            refine pureL (.int .i64 ((m : Nat) : Int)) rfl (fun _ => by kernel_rfl) ?_
            simp only [Act.put, List.setIfInBounds_toArray, List.set_cons_zero, List.set_cons_succ]
            refine pureL (.slice cp (len - m) (cap - m)) rfl (fun w => cutOp _ _ _ _ _ _ rfl rfl rfl (hcut w)) ?_
            simp only [Act.put, List.setIfInBounds_toArray, List.set_cons_zero, List.set_cons_succ]
            have hb1 := (Below.refl w.heap.size w).alloc (Nat.le_refl _) (.cells #[] 5)
            obtain ⟨v, w2, hr, ho, hgr, _⟩ := run_append_Own (P := Try.prog) (ty := 22) Try.underlying22 one8 (Own.lit w w.heap.size 5 .u8 0 (fun _ => 0) (Nat.le_refl _) (by unfold maxLen; omega)) (cp) (len - m) (cap - m) (fun j => z (m + j)) ((hsrc _ _ hs).below hb1 (Nat.le_refl _)) hcn (by unfold maxLen; omega) (by omega) hb1.size
            have hb2 := hb1.grown hgr hb1.size (fun b hb => by injection hb with hb; simp only at hb; omega)
            refine actL v rfl (appendOp _ _ 22 _ _ _ rfl rfl rfl hr) ?_
            simp only [Act.put, List.setIfInBounds_toArray, List.set_cons_zero, List.set_cons_succ]
            have hO : Own w2 w.heap.size 5 .u8 (len - m) (fun j => z (m + j)) v := by
              rw [Nat.zero_add] at ho
              exact ho.congr fun j _ => by unfold app; rw [if_neg (Nat.not_lt_zero j), Nat.sub_zero]
            clear hr ho hgr hb1
            obtain ⟨rp, rc, rfl, hrc, hrs⟩ := hO.bytes
            have hrn := hO.nilCap
            clear hO
            refine pureL (.int .i64 (fV z m)) rfl (fun _ => by kernel_rfl) ?_
            simp only [Act.put, List.setIfInBounds_toArray, List.set_cons_zero, List.set_cons_succ]
            refine pureL (.slice rp (len - m) rc) rfl (fun _ => by kernel_rfl) ?_
            simp only [Act.put, List.setIfInBounds_toArray, List.set_cons_zero, List.set_cons_succ]
            refine pureL (.int .i64 0) rfl (fun _ => by kernel_rfl) ?_
            simp only [Act.put, List.setIfInBounds_toArray, List.set_cons_zero, List.set_cons_succ]
            show Exit.then _ _ _ _ _
            go_wp2
            refine bodyPost_ret (results_tmp3 Try.results15 _ _ _) rfl ?_
            exact ⟨rp, rc, by rw [hA.out.1, hA.out.2.1, hA.out.2.2]; rfl, by rw [hA.out.2.1]; exact ⟨hrc, hrn, hrs⟩, hb2⟩
end Go.Proofs.Ytogbdoikkmdopaa

namespace Go.Proofs.Ytogbdoikkmdopaa
open Go.RowKit

set_option maxRecDepth 10000 in
set_option maxHeartbeats 4000000 in
theorem rputbytes_any (sp : Option Addr) (len cap : Nat) (hnil : sp = none → cap = 0) (z : Nat → Int) (tp : Option Addr) (tl tc : Nat) (htn : tp = none → tc = 0) (x : Nat → Int) (hsum : len + tl ≤ 140737488351232) (w : World) (hs : Src w sp len z) (ht : Src w tp tl x) :
    Calls Try.prog 19 #[.slice sp len cap, .slice tp tl tc] w fun e w' => ∃ v, e = .returned (.tuple #[v, .int .i64 0]) ∧ Own w' w.heap.size 5 .u8 (len + vsz tl + tl) (app (app z len (vby tl)) (len + vsz tl) x) v ∧ Below w.heap.size w w' := by
  have hv8 := vsz_le tl
  go_enter Try.func19, Try.ntmps19
  go_upto_region 1 with fail
  refine wp_region_list ?_
  refine pureL (.slice sp len cap) rfl (fun _ => by kernel_rfl) ?_
  simp only [Act.put, List.setIfInBounds_toArray, List.set_cons_zero, List.set_cons_succ]
  refine pureL (.slice tp tl tc) rfl (fun _ => by kernel_rfl) ?_
  simp only [Act.put, List.setIfInBounds_toArray, List.set_cons_zero, List.set_cons_succ]
  refine pureL (.int .i64 (tl : Int)) rfl (fun w => lenS _ 22 5 (tp) (tl) (tc) rfl Try.underlying22 rfl w) ?_
  simp only [Act.put, List.setIfInBounds_toArray, List.set_cons_zero, List.set_cons_succ]
  refine callL rfl (fun _ => by kernel_rfl) (rputvar_good sp len cap (by omega) hnil z tl (by omega) _ hs) ?_
  rintro e w1 ⟨v, rfl, hO, hB⟩
  refine ⟨_, rfl, ?_⟩
  simp only [Act.put, List.setIfInBounds_toArray, List.set_cons_zero, List.set_cons_succ]
  refine pureL (.tuple #[v, .int .i64 0]) rfl (fun _ => by kernel_rfl) ?_
  simp only [Act.put, List.setIfInBounds_toArray, List.set_cons_zero, List.set_cons_succ]
  refine pureL v rfl (fun _ => by kernel_rfl) ?_
  simp only [Act.put, List.setIfInBounds_toArray, List.set_cons_zero, List.set_cons_succ]
  refine pureL (.int .i64 0) rfl (fun _ => by kernel_rfl) ?_
  simp only [Act.put, List.setIfInBounds_toArray, List.set_cons_zero, List.set_cons_succ]
  refine pureL v rfl (fun _ => by kernel_rfl) ?_
  simp only [Act.put, List.setIfInBounds_toArray, List.set_cons_zero, List.set_cons_succ]
  refine pureL (.int .i64 0) rfl (fun _ => by kernel_rfl) ?_
  simp only [Act.put, List.setIfInBounds_toArray, List.set_cons_zero, List.set_cons_succ]
  show Exit.then _ _ _ _ _
  go_upto_region 4 with fail
  refine wp_region_list ?_
  refine pureL v rfl (fun _ => by kernel_rfl) ?_
  simp only [Act.put, List.setIfInBounds_toArray, List.set_cons_zero, List.set_cons_succ]
  refine pureL (.slice tp tl tc) rfl (fun _ => by kernel_rfl) ?_
  simp only [Act.put, List.setIfInBounds_toArray, List.set_cons_zero, List.set_cons_succ]
  obtain ⟨v2, w2, hr, ho, hgr, _⟩ := run_append_Own (P := Try.prog) (ty := 22) Try.underlying22 one8 hO tp tl tc x (ht.below hB (Nat.le_refl _)) htn (by unfold maxLen; omega) (by omega) hB.size
  refine actL v2 rfl (appendOp _ _ 22 _ _ _ rfl rfl rfl hr) ?_
  simp only [Act.put, List.setIfInBounds_toArray, List.set_cons_zero, List.set_cons_succ]
  refine pureL v2 rfl (fun _ => by kernel_rfl) ?_
  simp only [Act.put, List.setIfInBounds_toArray, List.set_cons_zero, List.set_cons_succ]
  refine pureL (.int .i64 0) rfl (fun _ => by kernel_rfl) ?_
  simp only [Act.put, List.setIfInBounds_toArray, List.set_cons_zero, List.set_cons_succ]
  show Exit.then _ _ _ _ _
  have hB2 := hB.grown hgr hB.size (fun b hb => (World.ownsRow.lt hO b hb).1)
  clear hr hgr hO hB
  go_wp2
  go_ret2
  exact ⟨_, rfl, ho, hB2⟩

set_option maxRecDepth 10000 in
set_option maxHeartbeats 16000000 in
theorem rtakebytes_any (sp : Option Addr) (len cap : Nat) (hlen : len ≤ 140737488351232) (hcap : len ≤ cap) (hnil : sp = none → cap = 0) (z : Nat → Int) (hz : In 256 len z) (most : Int) (w : World) (hs : Src w sp len z) :
    Calls Try.prog 21 #[.slice sp len cap, .int .i64 most] w fun e w' => TakeB len z most e w' ∧ Below w.heap.size w w' := by
  go_enter Try.func21, Try.ntmps21
  go_upto_region 1 with fail
  refine wp_region_list ?_
  refine pureL (.slice sp len cap) rfl (fun _ => by kernel_rfl) ?_
  simp only [Act.put, List.setIfInBounds_toArray, List.set_cons_zero, List.set_cons_succ]
  refine callL rfl (fun _ => by kernel_rfl) (rtakevar_any sp len cap hlen hcap hnil z hz _ hs) ?_
  rintro e w1 ⟨rp, rc, rfl, ⟨hrc, hrn, hrs⟩, hB⟩
  refine ⟨_, rfl, ?_⟩
  simp only [Act.put, List.setIfInBounds_toArray, List.set_cons_zero, List.set_cons_succ]
  refine pureL (.tuple #[.int .i64 (tN len z), .slice rp (tL len z) rc, .int .i64 (tE len z)]) rfl (fun _ => by kernel_rfl) ?_
  simp only [Act.put, List.setIfInBounds_toArray, List.set_cons_zero, List.set_cons_succ]
  refine pureL (.int .i64 (tN len z)) rfl (fun _ => by kernel_rfl) ?_
  simp only [Act.put, List.setIfInBounds_toArray, List.set_cons_zero, List.set_cons_succ]
  refine pureL (.slice rp (tL len z) rc) rfl (fun _ => by kernel_rfl) ?_
  simp only [Act.put, List.setIfInBounds_toArray, List.set_cons_zero, List.set_cons_succ]
  refine pureL (.int .i64 (tE len z)) rfl (fun _ => by kernel_rfl) ?_
  simp only [Act.put, List.setIfInBounds_toArray, List.set_cons_zero, List.set_cons_succ]
  refine pureL (.int .i64 (tN len z)) rfl (fun _ => by kernel_rfl) ?_
  simp only [Act.put, List.setIfInBounds_toArray, List.set_cons_zero, List.set_cons_succ]
  refine pureL (.slice rp (tL len z) rc) rfl (fun _ => by kernel_rfl) ?_
  simp only [Act.put, List.setIfInBounds_toArray, List.set_cons_zero, List.set_cons_succ]
  refine pureL (.int .i64 (tE len z)) rfl (fun _ => by kernel_rfl) ?_
  simp only [Act.put, List.setIfInBounds_toArray, List.set_cons_zero, List.set_cons_succ]
  show Exit.then _ _ _ _ _
  by_cases h1 : tE len z = 0
  · have hN0 : 0 ≤ tN len z := by
      obtain ⟨q1, q2, q3⟩ := tE_ok h1
      unfold tN
      rw [if_pos h1]
      have hk := tK_four (z 0) (hz 0 q1)
      exact (tV_nonneg z len hz _ (by omega)).1
    have hxe : xE len z most = if most < tN len z then 2 else if ((tL len z : Nat) : Int) < tN len z then 3 else 0 := by unfold xE; rw [if_neg (fun h => h h1)]
    have hle : tL len z ≤ len := by unfold tL; rw [if_pos h1]; omega
    go_upto_region 2 with fail
    refine wp_region_list ?_
    refine pureL (.int .i64 (tE len z)) rfl (fun _ => by kernel_rfl) ?_
    simp only [Act.put, List.setIfInBounds_toArray, List.set_cons_zero, List.set_cons_succ]
    refine pureL (.bool false) rfl (fun w => neqI .i64 _ _ _ _ _ _ rfl rfl rfl false (by simp [h1]) w) ?_
    simp only [Act.put, List.setIfInBounds_toArray, List.set_cons_zero, List.set_cons_succ]
    show Exit.then _ _ _ _ _
    obtain ⟨nn, hnn⟩ := Int.eq_ofNat_of_zero_le hN0
    have hyr : yR len z = fun j => tR z (nn + j) := by unfold yR; rw [hnn, Int.toNat_natCast]
    have hxl : xE len z most = 0 → xL len z most = nn ∧ yL len z most = tL len z - nn := fun h => by
      unfold xL yL
      rw [if_pos h, if_pos h, hnn, Int.toNat_natCast]
      exact ⟨rfl, rfl⟩
    rw [hnn] at hxe ⊢
    clear hnn hN0
    generalize tL len z = tl at *
    by_cases h2 : most < (nn : Int)
    · have hX : xE len z most = 2 := by rw [hxe, if_pos h2]
      clear hxl hxe hyr
      have hL : xL len z most = 0 := by unfold xL; rw [if_neg (by rw [hX]; decide)]
      have hY : yL len z most = 0 := by unfold yL; rw [if_neg (by rw [hX]; decide)]
      have hA := show Hid _ from (And.intro hL (And.intro hY hX))
      clear hL hY hX
      go_upto_region 4 with fail
      refine wp_region_list ?_
      refine pureL (.int .i64 (nn : Int)) rfl (fun _ => by kernel_rfl) ?_
      simp only [Act.put, List.setIfInBounds_toArray, List.set_cons_zero, List.set_cons_succ]
      refine pureL (.int .i64 most) rfl (fun _ => by kernel_rfl) ?_
      simp only [Act.put, List.setIfInBounds_toArray, List.set_cons_zero, List.set_cons_succ]
      refine pureL (.bool true) rfl (fun w => gtrI .i64 _ _ _ _ _ _ rfl rfl rfl true (decide_eq_true (by omega)) w) ?_
      simp only [Act.put, List.setIfInBounds_toArray, List.set_cons_zero, List.set_cons_succ]
      show Exit.then _ _ _ _ _
      go_wp2
      refine bodyPost_ret (results_tmp3 Try.results21 _ _ _) rfl ?_
      exact ⟨⟨none, 0, none, 0, by rw [hA.out.1, hA.out.2.1, hA.out.2.2]; rfl, by rw [hA.out.1, hA.out.2.1]; exact ⟨fun j hj => absurd hj (Nat.not_lt_zero j), fun j hj => absurd hj (Nat.not_lt_zero j)⟩⟩, hB⟩
    · by_cases h3 : (tl : Int) < (nn : Int)
      · have hX : xE len z most = 3 := by rw [hxe, if_neg h2, if_pos h3]
        clear hxl hxe hyr
        have hL : xL len z most = 0 := by unfold xL; rw [if_neg (by rw [hX]; decide)]
        have hY : yL len z most = 0 := by unfold yL; rw [if_neg (by rw [hX]; decide)]
        have hA := show Hid _ from (And.intro hL (And.intro hY hX))
        clear hL hY hX
        go_upto_region 4 with fail
        refine wp_region_list ?_
        refine pureL (.int .i64 (nn : Int)) rfl (fun _ => by kernel_rfl) ?_
        simp only [Act.put, List.setIfInBounds_toArray, List.set_cons_zero, List.set_cons_succ]
        refine pureL (.int .i64 most) rfl (fun _ => by kernel_rfl) ?_
        simp only [Act.put, List.setIfInBounds_toArray, List.set_cons_zero, List.set_cons_succ]
        refine pureL (.bool false) rfl (fun w => gtrI .i64 _ _ _ _ _ _ rfl rfl rfl false (decide_eq_false (by omega)) w) ?_
        simp only [Act.put, List.setIfInBounds_toArray, List.set_cons_zero, List.set_cons_succ]
        show Exit.then _ _ _ _ _
        go_upto_region 6 with fail
        refine wp_region_list ?_
        refine pureL (.slice rp tl rc) rfl (fun _ => by kernel_rfl) ?_
        simp only [Act.put, List.setIfInBounds_toArray, List.set_cons_zero, List.set_cons_succ]
        refine pureL (.int .i64 (tl : Int)) rfl (fun w => lenS _ 22 5 (rp) (tl) (rc) rfl Try.underlying22 rfl w) ?_
        simp only [Act.put, List.setIfInBounds_toArray, List.set_cons_zero, List.set_cons_succ]
        refine pureL (.int .i64 (nn : Int)) rfl (fun _ => by kernel_rfl) ?_
        simp only [Act.put, List.setIfInBounds_toArray, List.set_cons_zero, List.set_cons_succ]
        refine pureL (.bool true) rfl (fun w => lssI .i64 _ _ _ _ _ _ rfl rfl rfl true (decide_eq_true (by omega)) w) ?_
        simp only [Act.put, List.setIfInBounds_toArray, List.set_cons_zero, List.set_cons_succ]
        show Exit.then _ _ _ _ _
        go_wp2
        refine bodyPost_ret (results_tmp3 Try.results21 _ _ _) rfl ?_
        exact ⟨⟨none, 0, none, 0, by rw [hA.out.1, hA.out.2.1, hA.out.2.2]; rfl, by rw [hA.out.1, hA.out.2.1]; exact ⟨fun j hj => absurd hj (Nat.not_lt_zero j), fun j hj => absurd hj (Nat.not_lt_zero j)⟩⟩, hB⟩
      · have hX : xE len z most = 0 := by rw [hxe, if_neg h2, if_neg h3]
        have hA := show Hid _ from (And.intro (hxl hX).1 (And.intro (hxl hX).2 (And.intro hX hyr)))
        clear hxl hxe hX hyr
        go_upto_region 4 with fail
        refine wp_region_list ?_
        refine pureL (.int .i64 (nn : Int)) rfl (fun _ => by kernel_rfl) ?_
        simp only [Act.put, List.setIfInBounds_toArray, List.set_cons_zero, List.set_cons_succ]
        refine pureL (.int .i64 most) rfl (fun _ => by kernel_rfl) ?_
        simp only [Act.put, List.setIfInBounds_toArray, List.set_cons_zero, List.set_cons_succ]
        refine pureL (.bool false) rfl (fun w => gtrI .i64 _ _ _ _ _ _ rfl rfl rfl false (decide_eq_false (by omega)) w) ?_
        simp only [Act.put, List.setIfInBounds_toArray, List.set_cons_zero, List.set_cons_succ]
        show Exit.then _ _ _ _ _
        go_upto_region 6 with fail
        refine wp_region_list ?_
        refine pureL (.slice rp tl rc) rfl (fun _ => by kernel_rfl) ?_
        simp only [Act.put, List.setIfInBounds_toArray, List.set_cons_zero, List.set_cons_succ]
        refine pureL (.int .i64 (tl : Int)) rfl (fun w => lenS _ 22 5 (rp) (tl) (rc) rfl Try.underlying22 rfl w) ?_
        simp only [Act.put, List.setIfInBounds_toArray, List.set_cons_zero, List.set_cons_succ]
        refine pureL (.int .i64 (nn : Int)) rfl (fun _ => by kernel_rfl) ?_
        simp only [Act.put, List.setIfInBounds_toArray, List.set_cons_zero, List.set_cons_succ]
        refine pureL (.bool false) rfl (fun w => lssI .i64 _ _ _ _ _ _ rfl rfl rfl false (decide_eq_false (by omega)) w) ?_
        simp only [Act.put, List.setIfInBounds_toArray, List.set_cons_zero, List.set_cons_succ]
        show Exit.then _ _ _ _ _
        obtain ⟨cp, hcut1, hcs1, hcn1⟩ := cut_hiN (P := Try.prog) (t := 22) (by kernel_rfl) (fun _ => by kernel_rfl) rp tl rc nn (by omega) hrc hrn
        obtain ⟨cq, hcut2, hcs2, hcn2⟩ := cut_loN (P := Try.prog) (t := 22) (by kernel_rfl) (fun _ => by kernel_rfl) rp tl rc nn (by omega) hrc hrn
        go_upto_region 8 with fail
        refine wp_region_each (fun l v W => Below w1.heap.size w1 W ∧ (l 0 = true → l 4 = false → Own W w1.heap.size 5 .u8 0 z0 (v 0)) ∧ (l 1 = true → v 1 = .slice rp tl rc) ∧ (l 2 = true → v 2 = .int .i64 (nn : Int)) ∧ (l 3 = true → v 3 = .slice cp nn rc) ∧ (l 4 = true → Own W w1.heap.size 5 .u8 nn (tR z) (v 4)) ∧ (l 5 = true → l 9 = false → Own W w1.heap.size 5 .u8 0 z0 (v 5)) ∧ (l 6 = true → v 6 = .slice rp tl rc) ∧ (l 7 = true → v 7 = .int .i64 (nn : Int)) ∧ (l 8 = true → v 8 = .slice cq (tl - nn) (rc - nn)) ∧ (l 9 = true → l 4 = true ∧ Own W w1.heap.size 5 .u8 (tl - nn) (fun j => tR z (nn + j)) (v 9)) ∧ (l 0 = true → l 4 = false → l 5 = true → l 9 = false → ∀ b, (v 0).ownBlock = some b → (v 5).ownBlock ≠ some b) ∧ (l 4 = true → l 5 = true → l 9 = false → ∀ b, (v 4).ownBlock = some b → (v 5).ownBlock ≠ some b) ∧ (l 10 = true → l 9 = true ∧ v 10 = v 4) ∧ (l 11 = true → l 9 = true ∧ v 11 = v 9) ∧ (l 12 = true → v 12 = .int .i64 0)) 13 [some 26, some 27, some 28, some 29, some 30, some 31, some 32, some 33, some 34, some 35, some 4, some 5, some 6] (by kernel_rfl) (by kernel_rfl) (by kernel_rfl) (by kernel_rfl) (by kernel_rfl) ?_ ?_ ?_
        · exact ⟨(Below.refl _ _).drew, fun h _ => nofalse h.symm, fun h => nofalse h.symm, fun h => nofalse h.symm, fun h => nofalse h.symm, fun h => nofalse h.symm, fun h _ => nofalse h.symm, fun h => nofalse h.symm, fun h => nofalse h.symm, fun h => nofalse h.symm, fun h => nofalse h.symm, fun h _ _ _ => nofalse h.symm, fun h _ _ => nofalse h.symm, fun h => nofalse h.symm, fun h => nofalse h.symm, fun h => nofalse h.symm⟩
        · intro i hi
          match i, hi with
          | 0, _ =>
            refine does_value (by kernel_rfl) (by kernel_rfl) rfl rfl ?_
            intro l v W a hJ hl hp hat hold
            obtain ⟨fb, f0, f1, f2, f3, f4, f5, f6, f7, f8, f9, a05, a45, fa, fc, fd⟩ := hJ
            have lb := (Below.refl W.heap.size W).alloc (Nat.le_refl _) (.cells #[] 5)
            exact ⟨.slice (some ⟨W.heap.size, 0, none⟩) 0 0, W.alloc (.cells #[] 5), by kernel_rfl, ⟨fb.trans (lb.mono fb.size), fun _ _ => Own.lit W w1.heap.size 5 .u8 0 z0 fb.size (by unfold maxLen; omega), f1, f2, f3, fun h => (f4 h).below lb, fun h g => (f5 h g).below lb, f6, f7, f8, fun h => ⟨(f9 h).1, (f9 h).2.below lb⟩, fun _ _ h g b e1 e2 => (by injection e1 with e1; have := (World.ownsRow.lt (f5 h g) b e2).2; simp only at e1; omega), a45, fa, fc, fd⟩⟩
          | 1, _ =>
            refine does_value (by kernel_rfl) (by kernel_rfl) rfl rfl ?_
            intro l v W a hJ hl hp hat hold
            obtain ⟨fb, f0, f1, f2, f3, f4, f5, f6, f7, f8, f9, a05, a45, fa, fc, fd⟩ := hJ
            exact ⟨_, W, moveOp _ _ rfl (hold 8 (by kernel_rfl)), ⟨fb, f0, fun _ => rfl, f2, f3, f4, f5, f6, f7, f8, f9, a05, a45, fa, fc, fd⟩⟩
          | 2, _ =>
            refine does_value (by kernel_rfl) (by kernel_rfl) rfl rfl ?_
            intro l v W a hJ hl hp hat hold
            obtain ⟨fb, f0, f1, f2, f3, f4, f5, f6, f7, f8, f9, a05, a45, fa, fc, fd⟩ := hJ
            exact ⟨_, W, moveOp _ _ rfl (hold 7 (by kernel_rfl)), ⟨fb, f0, f1, fun _ => rfl, f3, f4, f5, f6, f7, f8, f9, a05, a45, fa, fc, fd⟩⟩
          | 3, _ =>
            refine does_value (by kernel_rfl) (by kernel_rfl) rfl rfl ?_
            intro l v W a hJ hl hp hat hold
            obtain ⟨fb, f0, f1, f2, f3, f4, f5, f6, f7, f8, f9, a05, a45, fa, fc, fd⟩ := hJ
            exact ⟨_, W, cutHi _ _ _ _ _ _ rfl ((hat 1 27 rfl (hp 1 (by kernel_rfl))).trans (f1 (hp 1 (by kernel_rfl)))) ((hat 2 28 rfl (hp 2 (by kernel_rfl))).trans (f2 (hp 2 (by kernel_rfl)))) (hcut1 W), ⟨fb, f0, f1, f2, fun _ => rfl, f4, f5, f6, f7, f8, f9, a05, a45, fa, fc, fd⟩⟩
          | 4, _ =>
            refine does_value (by kernel_rfl) (by kernel_rfl) rfl rfl ?_
            intro l v W a hJ hl hp hat hold
            obtain ⟨fb, f0, f1, f2, f3, f4, f5, f6, f7, f8, f9, a05, a45, fa, fc, fd⟩ := hJ
            have ho0 := f0 (hp 0 (by kernel_rfl)) hl
            obtain ⟨x, w', hr, ho, hgr, hob⟩ := run_append_Own (P := Try.prog) (ty := 22) Try.underlying22 one8 ho0 cp (nn) (rc) (tR z) ((hcs1 _ _ hrs).below fb (Nat.le_refl _)) hcn1 (by unfold maxLen; omega) (by omega) fb.size
            have hx : Own w' w1.heap.size 5 .u8 (nn) (tR z) x := by
              rw [Nat.zero_add] at ho
              exact ho.congr fun j _ => by unfold app; rw [if_neg (Nat.not_lt_zero j), Nat.sub_zero]
            exact ⟨x, w', appendOp _ _ 22 _ _ _ rfl (hat 0 26 rfl (hp 0 (by kernel_rfl))) ((hat 3 29 rfl (hp 3 (by kernel_rfl))).trans (f3 (hp 3 (by kernel_rfl)))) hr, ⟨fb.grown hgr fb.size (fun b hb => (World.ownsRow.lt ho0 b hb).1), fun _ g => nofalse g, f1, f2, f3, fun _ => hx, fun h g => (f5 h g).keptA hgr (fun b e => a05 (hp 0 (by kernel_rfl)) hl h g b e), f6, f7, f8, fun h => nofalse ((f9 h).1.symm.trans hl), fun _ g => nofalse g, fun _ h g b e1 e2 => (by rcases hob b e1 with e' | e'; exact a05 (hp 0 (by kernel_rfl)) hl h g b e' e2; have := (World.ownsRow.lt (f5 h g) b e2).2; omega), fun h => nofalse ((f9 (fa h).1).1.symm.trans hl), fun h => nofalse ((f9 (fc h).1).1.symm.trans hl), fd⟩⟩
          | 5, _ =>
            refine does_value (by kernel_rfl) (by kernel_rfl) rfl rfl ?_
            intro l v W a hJ hl hp hat hold
            obtain ⟨fb, f0, f1, f2, f3, f4, f5, f6, f7, f8, f9, a05, a45, fa, fc, fd⟩ := hJ
            have lb := (Below.refl W.heap.size W).alloc (Nat.le_refl _) (.cells #[] 5)
            exact ⟨.slice (some ⟨W.heap.size, 0, none⟩) 0 0, W.alloc (.cells #[] 5), by kernel_rfl, ⟨fb.trans (lb.mono fb.size), fun h g => (f0 h g).below lb, f1, f2, f3, fun h => (f4 h).below lb, fun _ _ => Own.lit W w1.heap.size 5 .u8 0 z0 fb.size (by unfold maxLen; omega), f6, f7, f8, fun h => ⟨(f9 h).1, (f9 h).2.below lb⟩, fun h g _ _ b e1 e2 => (by injection e2 with e2; have := (World.ownsRow.lt (f0 h g) b e1).2; simp only at e2; omega), fun h _ _ b e1 e2 => (by injection e2 with e2; have := (World.ownsRow.lt (f4 h) b e1).2; simp only at e2; omega), fa, fc, fd⟩⟩
          | 6, _ =>
            refine does_value (by kernel_rfl) (by kernel_rfl) rfl rfl ?_
            intro l v W a hJ hl hp hat hold
            obtain ⟨fb, f0, f1, f2, f3, f4, f5, f6, f7, f8, f9, a05, a45, fa, fc, fd⟩ := hJ
            exact ⟨_, W, moveOp _ _ rfl (hold 8 (by kernel_rfl)), ⟨fb, f0, f1, f2, f3, f4, f5, fun _ => rfl, f7, f8, f9, a05, a45, fa, fc, fd⟩⟩
          | 7, _ =>
            refine does_value (by kernel_rfl) (by kernel_rfl) rfl rfl ?_
            intro l v W a hJ hl hp hat hold
            obtain ⟨fb, f0, f1, f2, f3, f4, f5, f6, f7, f8, f9, a05, a45, fa, fc, fd⟩ := hJ
            exact ⟨_, W, moveOp _ _ rfl (hold 7 (by kernel_rfl)), ⟨fb, f0, f1, f2, f3, f4, f5, f6, fun _ => rfl, f8, f9, a05, a45, fa, fc, fd⟩⟩
          | 8, _ =>
            refine does_value (by kernel_rfl) (by kernel_rfl) rfl rfl ?_
            intro l v W a hJ hl hp hat hold
            obtain ⟨fb, f0, f1, f2, f3, f4, f5, f6, f7, f8, f9, a05, a45, fa, fc, fd⟩ := hJ
            exact ⟨_, W, cutOp _ _ _ _ _ _ rfl ((hat 6 32 rfl (hp 6 (by kernel_rfl))).trans (f6 (hp 6 (by kernel_rfl)))) ((hat 7 33 rfl (hp 7 (by kernel_rfl))).trans (f7 (hp 7 (by kernel_rfl)))) (hcut2 W), ⟨fb, f0, f1, f2, f3, f4, f5, f6, f7, fun _ => rfl, f9, a05, a45, fa, fc, fd⟩⟩
          | 9, _ =>
            refine does_value (by kernel_rfl) (by kernel_rfl) rfl rfl ?_
            intro l v W a hJ hl hp hat hold
            obtain ⟨fb, f0, f1, f2, f3, f4, f5, f6, f7, f8, f9, a05, a45, fa, fc, fd⟩ := hJ
            have ho0 := f5 (hp 5 (by kernel_rfl)) hl
            obtain ⟨x, w', hr, ho, hgr, hob⟩ := run_append_Own (P := Try.prog) (ty := 22) Try.underlying22 one8 ho0 cq (tl - nn) (rc - nn) (fun j => tR z (nn + j)) ((hcs2 _ _ hrs).below fb (Nat.le_refl _)) hcn2 (by unfold maxLen; omega) (by omega) fb.size
            have hx : Own w' w1.heap.size 5 .u8 (tl - nn) (fun j => tR z (nn + j)) x := by
              rw [Nat.zero_add] at ho
              exact ho.congr fun j _ => by unfold app; rw [if_neg (Nat.not_lt_zero j), Nat.sub_zero]
            exact ⟨x, w', appendOp _ _ 22 _ _ _ rfl (hat 5 31 rfl (hp 5 (by kernel_rfl))) ((hat 8 34 rfl (hp 8 (by kernel_rfl))).trans (f8 (hp 8 (by kernel_rfl)))) hr, ⟨fb.grown hgr fb.size (fun b hb => (World.ownsRow.lt ho0 b hb).1), fun _ g => nofalse ((hp 4 (by kernel_rfl)).symm.trans g), f1, f2, f3, fun h => (f4 h).keptA hgr (fun b e e' => a45 h (hp 5 (by kernel_rfl)) hl b e' e), fun _ g => nofalse g, f6, f7, f8, fun _ => ⟨(hp 4 (by kernel_rfl)), hx⟩, fun _ g => nofalse ((hp 4 (by kernel_rfl)).symm.trans g), fun _ _ g => nofalse g, fun h => nofalse ((fa h).1.symm.trans hl), fun h => nofalse ((fc h).1.symm.trans hl), fd⟩⟩
          | 10, _ =>
            refine does_value (by kernel_rfl) (by kernel_rfl) rfl rfl ?_
            intro l v W a hJ hl hp hat hold
            obtain ⟨fb, f0, f1, f2, f3, f4, f5, f6, f7, f8, f9, a05, a45, fa, fc, fd⟩ := hJ
            exact ⟨_, W, assignOp _ _ rfl (hat 4 30 rfl (hp 4 (by kernel_rfl))), ⟨fb, f0, f1, f2, f3, f4, f5, f6, f7, f8, f9, a05, a45, fun _ => ⟨(hp 9 (by kernel_rfl)), rfl⟩, fc, fd⟩⟩
          | 11, _ =>
            refine does_value (by kernel_rfl) (by kernel_rfl) rfl rfl ?_
            intro l v W a hJ hl hp hat hold
            obtain ⟨fb, f0, f1, f2, f3, f4, f5, f6, f7, f8, f9, a05, a45, fa, fc, fd⟩ := hJ
            exact ⟨_, W, assignOp _ _ rfl (hat 9 35 rfl (hp 9 (by kernel_rfl))), ⟨fb, f0, f1, f2, f3, f4, f5, f6, f7, f8, f9, a05, a45, fa, fun _ => ⟨(hp 9 (by kernel_rfl)), rfl⟩, fd⟩⟩
          | 12, _ =>
            refine does_value (by kernel_rfl) (by kernel_rfl) rfl rfl ?_
            intro l v W a hJ hl hp hat hold
            obtain ⟨fb, f0, f1, f2, f3, f4, f5, f6, f7, f8, f9, a05, a45, fa, fc, fd⟩ := hJ
            exact ⟨_, W, assignOp _ _ rfl rfl, ⟨fb, f0, f1, f2, f3, f4, f5, f6, f7, f8, f9, a05, a45, fa, fc, fun _ => rfl⟩⟩
          | _ + 13, h => omega
        · intro l v W hJ hl
          obtain ⟨fb, f0, f1, f2, f3, f4, f5, f6, f7, f8, f9, a05, a45, fa, fc, fd⟩ := hJ
          obtain ⟨tp, tc, e4, _, ht⟩ := (f4 (hl 4 (by decide))).bytes
          obtain ⟨qp, qc, e9, _, hq⟩ := (f9 (hl 9 (by decide))).2.bytes
          simp only [putL, Act.put, List.setIfInBounds_toArray, List.set_cons_zero, List.set_cons_succ]
          rw [f1 (hl 1 (by decide)), f2 (hl 2 (by decide)), f3 (hl 3 (by decide)), f6 (hl 6 (by decide)), f7 (hl 7 (by decide)), f8 (hl 8 (by decide)), (fa (hl 10 (by decide))).2, (fc (hl 11 (by decide))).2, fd (hl 12 (by decide)), e4, e9]
          replace hB := hB.trans (fb.mono hB.size)
          clear e4 e9 fb f0 f1 f2 f3 f4 f5 f6 f7 f8 f9 a05 a45 fa fc fd hcut1 hcut2 hcs1 hcs2
          generalize v 0 = v0
          generalize v 5 = v5
          clear hl v l
          show Exit.then _ _ _ _ _
          go_wp2
          refine bodyPost_ret (results_tmp3 Try.results21 _ _ _) rfl ?_
          exact ⟨⟨tp, tc, qp, qc, by rw [hA.out.1, hA.out.2.1, hA.out.2.2.1]; rfl, by rw [hA.out.1, hA.out.2.1, hA.out.2.2.2]; exact ⟨ht, hq⟩⟩, hB⟩
  · have hX : xE len z most = tE len z := by unfold xE; rw [if_pos h1]
    have hL : xL len z most = 0 := by unfold xL; rw [if_neg (by rw [hX]; exact h1)]
    have hY : yL len z most = 0 := by unfold yL; rw [if_neg (by rw [hX]; exact h1)]
    have hA := show Hid _ from (And.intro hL (And.intro hY hX))
    clear hL hY hX
    go_upto_region 2 with fail
    refine wp_region_list ?_
    refine pureL (.int .i64 (tE len z)) rfl (fun _ => by kernel_rfl) ?_
    simp only [Act.put, List.setIfInBounds_toArray, List.set_cons_zero, List.set_cons_succ]
    refine pureL (.bool true) rfl (fun w => neqI .i64 _ _ _ _ _ _ rfl rfl rfl true (by simp [h1]) w) ?_
    simp only [Act.put, List.setIfInBounds_toArray, List.set_cons_zero, List.set_cons_succ]
    show Exit.then _ _ _ _ _
    go_wp2
    refine bodyPost_ret (results_tmp3 Try.results21 _ _ _) rfl ?_
    exact ⟨⟨none, 0, none, 0, by rw [hA.out.1, hA.out.2.1, hA.out.2.2]; rfl, by rw [hA.out.1, hA.out.2.1]; exact ⟨fun j hj => absurd hj (Nat.not_lt_zero j), fun j hj => absurd hj (Nat.not_lt_zero j)⟩⟩, hB⟩
end Go.Proofs.Ytogbdoikkmdopaa

namespace Go.Proofs.Ytogbdoikkmdopaa
open Go.RowKit

theorem rputvar_any (sp : Option Addr) (len cap : Nat) (hl : len ≤ 140737488351232) (_hc : len ≤ cap) (hn : sp = none → cap = 0) (z : Nat → Int) (_hz : In 256 len z) (n : Int) (w : World) (hs : Src w sp len z) : Calls Try.prog 11 #[.slice sp len cap, .int .i64 n] w fun e w' => PutV len z n w.heap.size e w' ∧ Below w.heap.size w w' := by
  by_cases hb : vbad n
  · have e1 : vE n = 1 := by unfold vE; rw [if_pos hb]
    have e2 : vL len n = 0 := by unfold vL; rw [if_pos hb]
    refine (rputvar_bad sp len cap n hb w).mono fun e w' h => ⟨⟨_, by rw [e1]; exact h.1, ?_⟩, h.2⟩
    rw [e2]
    exact World.ownsRow_nil w' _ _ 1
  · have e1 : vE n = 0 := by unfold vE; rw [if_neg hb]
    have e2 : vL len n = len + vsz n.toNat := by unfold vL; rw [if_neg hb]
    unfold vbad at hb
    obtain ⟨n, rfl⟩ := Int.eq_ofNat_of_zero_le (show 0 ≤ n by omega)
    refine (rputvar_good sp len cap hl hn z n (by omega) w hs).mono fun e w' h => ?_
    obtain ⟨v, h1, h2, h3⟩ := h
    exact ⟨⟨v, by rw [e1]; exact h1, by rw [e2]; exact h2⟩, h3⟩
theorem rtakev_any (sp : Option Addr) (len cap : Nat) (hl : len ≤ 140737488351232) (hc : len ≤ cap) (hn : sp = none → cap = 0) (z : Nat → Int) (hz : In 256 len z) (w : World) (hs : Src w sp len z) : Calls Try.prog 13 #[.slice sp len cap] w fun e w' => TakeV len z e w' ∧ Below w.heap.size w w' :=
  (rtakevar_any sp len cap hl hc hn z hz w hs).mono fun e w' h => by
    obtain ⟨rp, rc, h1, h2, h3⟩ := h
    exact ⟨⟨rp, rc, h1, h2.2.2⟩, h3⟩
theorem rputf_any (sp : Option Addr) (len cap : Nat) (hl : len ≤ 140737488351232) (_hc : len ≤ cap) (hn : sp = none → cap = 0) (z : Nat → Int) (_hz : In 256 len z) (n s : Int) (h63 : n < 9223372036854775808) (w : World) (hs : Src w sp len z) : Calls Try.prog 17 #[.slice sp len cap, .int .i64 n, .int .i64 s] w fun e w' => PutF len z n s w.heap.size e w' ∧ Below w.heap.size w w' := by
  by_cases hb : fbad n s
  · have e1 : fE n s = 1 := by unfold fE; rw [if_pos hb]
    have e2 : fL len n s = 0 := by unfold fL; rw [if_pos hb]
    refine (rputfixed_bad sp len cap n s h63 hb w).mono fun e w' h => ⟨⟨_, by rw [e1]; exact h.1, ?_⟩, h.2⟩
    rw [e2]
    exact World.ownsRow_nil w' _ _ 1
  · have e1 : fE n s = 0 := by unfold fE; rw [if_neg hb]
    have e2 : fL len n s = len + s.toNat := by unfold fL; rw [if_neg hb]
    unfold fbad at hb
    obtain ⟨n, rfl⟩ := Int.eq_ofNat_of_zero_le (show 0 ≤ n by omega)
    obtain ⟨s, rfl⟩ := Int.eq_ofNat_of_zero_le (show 0 ≤ s by omega)
    have h4 : n < 256 ^ s := by
      have e : (256 : Int) ^ ((s : Nat) : Int).toNat = ((256 ^ s : Nat) : Int) := by rw [Int.toNat_natCast]; exact (Int.natCast_pow 256 s).symm
      rw [e] at hb
      omega
    refine (rputfixed_good sp len cap hl hn z n s (by omega) (by omega) h4 w hs).mono fun e w' h => ?_
    obtain ⟨v, h1, h2, h3⟩ := h
    exact ⟨⟨v, by rw [e1]; exact h1, by rw [e2]; exact h2⟩, h3⟩
theorem rtakef_any (sp : Option Addr) (len cap : Nat) (hl : len ≤ 140737488351232) (hc : len ≤ cap) (hn : sp = none → cap = 0) (z : Nat → Int) (hz : In 256 len z) (s : Int) (w : World) (hs : Src w sp len z) : Calls Try.prog 15 #[.slice sp len cap, .int .i64 s] w fun e w' => TakeF len z s e w' ∧ Below w.heap.size w w' :=
  (rtakefixed_any sp len cap hl hc hn z hz s w hs).mono fun e w' h => by
    obtain ⟨rp, rc, h1, h2, h3⟩ := h
    exact ⟨⟨rp, rc, h1, h2.2.2⟩, h3⟩
theorem rputb_any (sp : Option Addr) (len cap : Nat) (_hl : len ≤ 140737488351232) (_hc : len ≤ cap) (hn : sp = none → cap = 0) (z : Nat → Int) (_hz : In 256 len z) (tp : Option Addr) (tl tc : Nat) (htn : tp = none → tc = 0) (x : Nat → Int) (hsum : len + tl ≤ 140737488351232) (w : World) (hs : Src w sp len z) (ht : Src w tp tl x) :
    Calls Try.prog 19 #[.slice sp len cap, .slice tp tl tc] w fun e w' => PutB len z tl x w.heap.size e w' ∧ Below w.heap.size w w' :=
  (rputbytes_any sp len cap hn z tp tl tc htn x hsum w hs ht).mono fun e w' h => by
    obtain ⟨v, h1, h2, h3⟩ := h
    exact ⟨⟨v, h1, h2⟩, h3⟩
end Go.Proofs.Ytogbdoikkmdopaa

namespace Go.Proofs.Ytogbdoikkmdopaa
open Go.RowKit

theorem vapp_in {n m : Nat} {f g : Nat → Int} (hf : In 256 n f) (hg : In 256 m g) : In 256 (n + m) (app f n g) := fun j hj => by
  unfold app
  split
  · exact hf j (by assumption)
  · exact hg _ (by omega)
theorem whole_in {tl len : Nat} {x z : Nat → Int} (hx : In 256 tl x) (hz : In 256 len z) (h : tl < 4611686018427387904) : In 256 (vsz tl + (tl + len)) (app (app (vby tl) (vsz tl) x) (vsz tl + tl) z) := by
  rw [← Nat.add_assoc]
  exact vapp_in (vapp_in (vby_in tl h _) hx) hz
theorem tV_congr {z y : Nat → Int} : ∀ i, (∀ j, j ≤ i → z j = y j) → tV z i = tV y i
  | 0, h => by
    show z 0 % 64 = y 0 % 64
    rw [h 0 (Nat.le_refl _)]
  | i + 1, h => by
    show tV z i * 256 + z (i + 1) = tV y i * 256 + y (i + 1)
    rw [tV_congr i fun j hj => h j (by omega), h (i + 1) (Nat.le_refl _)]
theorem fV_congr {z y : Nat → Int} : ∀ i, (∀ j, j < i → z j = y j) → fV z i = fV y i
  | 0, _ => rfl
  | i + 1, h => by
    show fV z i * 256 + z i = fV y i * 256 + y i
    rw [fV_congr i fun j hj => h j (by omega), h i (by omega)]
/-- A number that is put is taken, whatever stands behind. -/
theorem take_put (n : Nat) (h : n < 4611686018427387904) (len : Nat) (Z : Nat → Int) (hZ : ∀ j, j < vsz n → Z j = vby n j) : tK (Z 0) = vsz n ∧ tE (vsz n + len) Z = 0 ∧ tN (vsz n + len) Z = (n : Int) ∧ tL (vsz n + len) Z = len := by
  have h1 := vsz_le n
  have hk : tK (Z 0) = vsz n := by rw [hZ 0 (by omega)]; exact tK_vby n h
  have hv : tV Z (vsz n - 1) = (n : Int) := by
    rw [tV_congr (vsz n - 1) (fun j hj => hZ j (by omega))]
    exact tV_back n h
  have hE : tE (vsz n + len) Z = 0 := by
    unfold tE
    rw [if_neg (by omega), hk, if_neg (by omega), hv, Int.toNat_natCast, if_neg (fun h => h rfl)]
  refine ⟨hk, hE, ?_, ?_⟩
  · unfold tN
    rw [if_pos hE, hk, hv]
  · unfold tL
    rw [if_pos hE, hk]
    omega
/-- What is taken, and put, is the bytes that were taken. -/
theorem put_take (len : Nat) (z : Nat → Int) (hz : In 256 len z) (h : tE len z = 0) : 0 ≤ tN len z ∧ tN len z < 4611686018427387904 ∧ vsz (tN len z).toNat = tK (z 0) ∧ tL len z = len - tK (z 0) ∧ tK (z 0) ≤ len ∧ ∀ j, j < tK (z 0) → vby (tN len z).toNat j = z j := by
  obtain ⟨q1, q2, q3⟩ := tE_ok h
  have hk := tK_four (z 0) (hz 0 q1)
  have hN : tN len z = tV z (tK (z 0) - 1) := by unfold tN; rw [if_pos h]
  have hL : tL len z = len - tK (z 0) := by unfold tL; rw [if_pos h]
  have hb := tV_nonneg z len hz (tK (z 0) - 1) (by omega)
  have h7 : (256 : Nat) ^ (tK (z 0) - 1) ≤ 256 ^ 7 := Nat.pow_le_pow_right (by decide) (by omega)
  have e7 : (256 : Nat) ^ 7 = 72057594037927936 := by decide
  have e8 : ((256 ^ (tK (z 0) - 1) : Nat) : Int) = (256 : Int) ^ (tK (z 0) - 1) := Int.natCast_pow 256 _
  refine ⟨by rw [hN]; exact hb.1, by rw [hN]; omega, by rw [hN]; exact q3, hL, q2, fun j hj => ?_⟩
  rw [hN]
  exact vby_back z (tK (z 0)) rfl (fun i hi => hz i (by omega)) q3 j hj
/-- A number in so many bytes. -/
theorem take_fixed (n s : Nat) (h1 : 1 ≤ s) (h7 : s ≤ 7) (h : n < 256 ^ s) (len : Nat) (Z : Nat → Int) (hZ : ∀ j, j < s → Z j = fby n s j) : gE (s + len) (s : Int) = 0 ∧ gN (s + len) Z (s : Int) = (n : Int) ∧ gL (s + len) (s : Int) = len := by
  have hE : gE (s + len) (s : Int) = 0 := by
    unfold gE
    rw [if_neg (by omega), if_neg (by omega)]
  refine ⟨hE, ?_, ?_⟩
  · unfold gN
    rw [if_pos hE, Int.toNat_natCast, fV_congr s hZ]
    exact fV_back n s h
  · unfold gL
    rw [if_pos hE, Int.toNat_natCast]
    omega
/-- A text that is put is taken. -/
theorem take_text (tl : Nat) (h : tl < 4611686018427387904) (bl : Nat) (Z : Nat → Int) (hZ : ∀ j, j < vsz tl → Z j = vby tl j) : xE (vsz tl + (tl + bl)) Z (tl : Int) = 0 ∧ xL (vsz tl + (tl + bl)) Z (tl : Int) = tl ∧ yL (vsz tl + (tl + bl)) Z (tl : Int) = bl ∧ (∀ j, tR Z j = Z (vsz tl + j)) ∧ ∀ j, yR (vsz tl + (tl + bl)) Z j = Z (vsz tl + (tl + j)) := by
  obtain ⟨hk, hE, hN, hL⟩ := take_put tl h (tl + bl) Z hZ
  have hX : xE (vsz tl + (tl + bl)) Z (tl : Int) = 0 := by
    unfold xE
    rw [if_neg (fun h => h hE), hN, if_neg (by omega), hL, if_neg (by omega)]
  refine ⟨hX, ?_, ?_, fun j => ?_, fun j => ?_⟩
  · unfold xL
    rw [if_pos hX, hN, Int.toNat_natCast]
  · unfold yL
    rw [if_pos hX, hN, hL, Int.toNat_natCast]
    omega
  · unfold tR
    rw [hk]
  · unfold yR tR
    rw [hk, hN, Int.toNat_natCast]
end Go.Proofs.Ytogbdoikkmdopaa

namespace Go.Proofs.Ytogbdoikkmdopaa
open Go.RowKit

theorem vput_in {len : Nat} {z : Nat → Int} (hz : In 256 len z) (n : Int) (m : Nat) (h : n < 4611686018427387904) : In 256 (len + m) (vput len z n) := fun j hj => by
  unfold vput app
  split
  · exact hz j (by assumption)
  · exact vby_in n.toNat (by omega) (j - len + 1) (j - len) (by omega)
set_option maxRecDepth 10000 in
set_option maxHeartbeats 8000000 in
theorem vshown_any (hPV : PutVarOK) (hTV : TakeVarOK) (hPF : PutFixedOK) (_hTF : TakeFixedOK) (_hPB : PutBytesOK) (hTB : TakeBytesOK) (w : World) : Calls Try.prog 9 #[] w fun e w' => e = .returned (.bool true) ∧ Below w.heap.size w w' := by
  have K := Kr.init w
  go_enter Try.func9, Try.ntmps9
  go_upto_region 1 with fail
  refine wp_region_list ?_
  have z_k1 := K.size
  refine callL rfl (fun _ => by kernel_rfl) (hPV (none) (0) (0) (by decide) (by decide) (fun _ => rfl) (z0) (z0_in 0) 16384 (by decide) _ (fun j hj => absurd hj (Nat.not_lt_zero j))) ?_
  rintro e w1 ⟨⟨v_k1, rfl, O_k1⟩, l⟩
  replace K := K.call l
  have b_k1 := l.size
  clear l
  rw [show vE 16384 = 0 from by decide +kernel]
  rw [show vL 0 16384 = 4 from by decide +kernel] at O_k1
  obtain ⟨p_k1, c_k1, rfl, le_k1, s_k1⟩ := O_k1.bytes
  have nil_k1 := O_k1.nilCap
  refine ⟨_, rfl, ?_⟩
  simp only [Act.put, List.setIfInBounds_toArray, List.set_cons_zero, List.set_cons_succ]
  refine pureL (.tuple #[.slice p_k1 4 c_k1, .int .i64 0]) rfl (fun _ => by kernel_rfl) ?_
  simp only [Act.put, List.setIfInBounds_toArray, List.set_cons_zero, List.set_cons_succ]
  refine pureL (.slice p_k1 4 c_k1) rfl (fun _ => by kernel_rfl) ?_
  simp only [Act.put, List.setIfInBounds_toArray, List.set_cons_zero, List.set_cons_succ]
  refine pureL (.int .i64 0) rfl (fun _ => by kernel_rfl) ?_
  simp only [Act.put, List.setIfInBounds_toArray, List.set_cons_zero, List.set_cons_succ]
  refine pureL (.slice p_k1 4 c_k1) rfl (fun _ => by kernel_rfl) ?_
  simp only [Act.put, List.setIfInBounds_toArray, List.set_cons_zero, List.set_cons_succ]
  refine pureL (.int .i64 0) rfl (fun _ => by kernel_rfl) ?_
  simp only [Act.put, List.setIfInBounds_toArray, List.set_cons_zero, List.set_cons_succ]
  show Exit.then _ _ _ _ _
  go_upto_region 2 with fail
  refine wp_region_list ?_
  refine actL (w' := w1.alloc (.cells (row .u8 2 (bl [64, 63])).toArray 5)) (.slice (some ⟨w1.heap.size, 0, none⟩) 2 2) rfl (by kernel_rfl) ?_
  simp only [Act.put, List.setIfInBounds_toArray, List.set_cons_zero, List.set_cons_succ]
  have s_w2 := (Has.new w1 .u8 2 (bl [64, 63]) 5 w1.heap.size rfl).src0
  have l := (Below.refl w1.heap.size w1).alloc (Nat.le_refl _) (.cells (row .u8 2 (bl [64, 63])).toArray 5)
  replace K := K.call l
  replace O_k1 := O_k1.below l
  replace s_k1 := s_k1.below l (Nat.le_refl _)
  clear l
  generalize w1.alloc (.cells (row .u8 2 (bl [64, 63])).toArray 5) = w2 at K s_w2 O_k1 s_k1 ⊢
  refine callL rfl (fun _ => by kernel_rfl) (hTV (some ⟨w1.heap.size, 0, none⟩) (2) (2) (by decide) (by decide) (fun e => by cases e) (bl [64, 63]) (bl_in _ _ (by decide)) _ s_w2) ?_
  rintro e w3 ⟨⟨p_k2, c_k2, rfl, s_k2⟩, l⟩
  replace K := K.call l
  replace O_k1 := O_k1.below l
  replace s_k1 := s_k1.below l (Nat.le_refl _)
  replace s_w2 := s_w2.below l (Nat.le_refl _)
  clear l
  rw [show tN 2 (bl [64, 63]) = 0 from by decide +kernel, show tE 2 (bl [64, 63]) = 90 from by decide +kernel]
  rw [show tL 2 (bl [64, 63]) = 0 from by decide +kernel] at s_k2 ⊢
  refine ⟨_, rfl, ?_⟩
  simp only [Act.put, List.setIfInBounds_toArray, List.set_cons_zero, List.set_cons_succ]
  refine pureL (.tuple #[.int .i64 0, .slice p_k2 0 c_k2, .int .i64 90]) rfl (fun _ => by kernel_rfl) ?_
  simp only [Act.put, List.setIfInBounds_toArray, List.set_cons_zero, List.set_cons_succ]
  refine pureL (.int .i64 0) rfl (fun _ => by kernel_rfl) ?_
  simp only [Act.put, List.setIfInBounds_toArray, List.set_cons_zero, List.set_cons_succ]
  refine pureL (.slice p_k2 0 c_k2) rfl (fun _ => by kernel_rfl) ?_
  simp only [Act.put, List.setIfInBounds_toArray, List.set_cons_zero, List.set_cons_succ]
  refine pureL (.int .i64 90) rfl (fun _ => by kernel_rfl) ?_
  simp only [Act.put, List.setIfInBounds_toArray, List.set_cons_zero, List.set_cons_succ]
  refine pureL (.int .i64 0) rfl (fun _ => by kernel_rfl) ?_
  simp only [Act.put, List.setIfInBounds_toArray, List.set_cons_zero, List.set_cons_succ]
  refine pureL (.slice p_k2 0 c_k2) rfl (fun _ => by kernel_rfl) ?_
  simp only [Act.put, List.setIfInBounds_toArray, List.set_cons_zero, List.set_cons_succ]
  refine pureL (.int .i64 90) rfl (fun _ => by kernel_rfl) ?_
  simp only [Act.put, List.setIfInBounds_toArray, List.set_cons_zero, List.set_cons_succ]
  show Exit.then _ _ _ _ _
  go_upto_region 3 with fail
  refine wp_region_list ?_
  refine actL (w' := w3.alloc (.cells (row .u8 2 (bl [5, 6])).toArray 5)) (.slice (some ⟨w3.heap.size, 0, none⟩) 2 2) rfl (by kernel_rfl) ?_
  simp only [Act.put, List.setIfInBounds_toArray, List.set_cons_zero, List.set_cons_succ]
  have s_w4 := (Has.new w3 .u8 2 (bl [5, 6]) 5 w3.heap.size rfl).src0
  have l := (Below.refl w3.heap.size w3).alloc (Nat.le_refl _) (.cells (row .u8 2 (bl [5, 6])).toArray 5)
  replace K := K.call l
  replace O_k1 := O_k1.below l
  replace s_k1 := s_k1.below l (Nat.le_refl _)
  replace s_w2 := s_w2.below l (Nat.le_refl _)
  replace s_k2 := s_k2.below l (Nat.le_refl _)
  clear l
  generalize w3.alloc (.cells (row .u8 2 (bl [5, 6])).toArray 5) = w4 at K s_w4 O_k1 s_k1 s_w2 s_k2 ⊢
  refine callL rfl (fun _ => by kernel_rfl) (hTV (some ⟨w3.heap.size, 0, none⟩) (2) (2) (by decide) (by decide) (fun e => by cases e) (bl [5, 6]) (bl_in _ _ (by decide)) _ s_w4) ?_
  rintro e w5 ⟨⟨p_k3, c_k3, rfl, s_k3⟩, l⟩
  replace K := K.call l
  replace O_k1 := O_k1.below l
  replace s_k1 := s_k1.below l (Nat.le_refl _)
  replace s_w2 := s_w2.below l (Nat.le_refl _)
  replace s_k2 := s_k2.below l (Nat.le_refl _)
  replace s_w4 := s_w4.below l (Nat.le_refl _)
  clear l
  rw [show tN 2 (bl [5, 6]) = 5 from by decide +kernel, show tE 2 (bl [5, 6]) = 0 from by decide +kernel]
  rw [show tL 2 (bl [5, 6]) = 1 from by decide +kernel] at s_k3 ⊢
  refine ⟨_, rfl, ?_⟩
  simp only [Act.put, List.setIfInBounds_toArray, List.set_cons_zero, List.set_cons_succ]
  refine pureL (.tuple #[.int .i64 5, .slice p_k3 1 c_k3, .int .i64 0]) rfl (fun _ => by kernel_rfl) ?_
  simp only [Act.put, List.setIfInBounds_toArray, List.set_cons_zero, List.set_cons_succ]
  refine pureL (.int .i64 5) rfl (fun _ => by kernel_rfl) ?_
  simp only [Act.put, List.setIfInBounds_toArray, List.set_cons_zero, List.set_cons_succ]
  refine pureL (.slice p_k3 1 c_k3) rfl (fun _ => by kernel_rfl) ?_
  simp only [Act.put, List.setIfInBounds_toArray, List.set_cons_zero, List.set_cons_succ]
  refine pureL (.int .i64 0) rfl (fun _ => by kernel_rfl) ?_
  simp only [Act.put, List.setIfInBounds_toArray, List.set_cons_zero, List.set_cons_succ]
  refine pureL (.int .i64 5) rfl (fun _ => by kernel_rfl) ?_
  simp only [Act.put, List.setIfInBounds_toArray, List.set_cons_zero, List.set_cons_succ]
  refine pureL (.slice p_k3 1 c_k3) rfl (fun _ => by kernel_rfl) ?_
  simp only [Act.put, List.setIfInBounds_toArray, List.set_cons_zero, List.set_cons_succ]
  refine pureL (.int .i64 0) rfl (fun _ => by kernel_rfl) ?_
  simp only [Act.put, List.setIfInBounds_toArray, List.set_cons_zero, List.set_cons_succ]
  show Exit.then _ _ _ _ _
  go_upto_region 4 with fail
  refine wp_region_list ?_
  have z_k4 := K.size
  refine callL rfl (fun _ => by kernel_rfl) (hPF (none) (0) (0) (by decide) (by decide) (fun _ => rfl) (z0) (z0_in 0) 256 (by decide) 1 (by decide) _ (fun j hj => absurd hj (Nat.not_lt_zero j))) ?_
  rintro e w6 ⟨⟨v_k4, rfl, O_k4⟩, l⟩
  replace K := K.call l
  replace O_k1 := O_k1.below l
  replace s_k1 := s_k1.below l (Nat.le_refl _)
  replace s_w2 := s_w2.below l (Nat.le_refl _)
  replace s_k2 := s_k2.below l (Nat.le_refl _)
  replace s_w4 := s_w4.below l (Nat.le_refl _)
  replace s_k3 := s_k3.below l (Nat.le_refl _)
  clear l
  rw [show fE 256 1 = 1 from by decide +kernel]
  rw [show fL 0 256 1 = 0 from by decide +kernel] at O_k4
  obtain ⟨p_k4, c_k4, rfl, le_k4, s_k4⟩ := O_k4.bytes
  have nil_k4 := O_k4.nilCap
  refine ⟨_, rfl, ?_⟩
  simp only [Act.put, List.setIfInBounds_toArray, List.set_cons_zero, List.set_cons_succ]
  refine pureL (.tuple #[.slice p_k4 0 c_k4, .int .i64 1]) rfl (fun _ => by kernel_rfl) ?_
  simp only [Act.put, List.setIfInBounds_toArray, List.set_cons_zero, List.set_cons_succ]
  refine pureL (.slice p_k4 0 c_k4) rfl (fun _ => by kernel_rfl) ?_
  simp only [Act.put, List.setIfInBounds_toArray, List.set_cons_zero, List.set_cons_succ]
  refine pureL (.int .i64 1) rfl (fun _ => by kernel_rfl) ?_
  simp only [Act.put, List.setIfInBounds_toArray, List.set_cons_zero, List.set_cons_succ]
  refine pureL (.slice p_k4 0 c_k4) rfl (fun _ => by kernel_rfl) ?_
  simp only [Act.put, List.setIfInBounds_toArray, List.set_cons_zero, List.set_cons_succ]
  refine pureL (.int .i64 1) rfl (fun _ => by kernel_rfl) ?_
  simp only [Act.put, List.setIfInBounds_toArray, List.set_cons_zero, List.set_cons_succ]
  show Exit.then _ _ _ _ _
  go_upto_region 5 with fail
  refine wp_region_list ?_
  have z_k5 := K.size
  refine callL rfl (fun _ => by kernel_rfl) (hPF (none) (0) (0) (by decide) (by decide) (fun _ => rfl) (z0) (z0_in 0) 258 (by decide) 2 (by decide) _ (fun j hj => absurd hj (Nat.not_lt_zero j))) ?_
  rintro e w7 ⟨⟨v_k5, rfl, O_k5⟩, l⟩
  replace K := K.call l
  replace O_k1 := O_k1.below l
  replace s_k1 := s_k1.below l (Nat.le_refl _)
  replace s_w2 := s_w2.below l (Nat.le_refl _)
  replace s_k2 := s_k2.below l (Nat.le_refl _)
  replace s_w4 := s_w4.below l (Nat.le_refl _)
  replace s_k3 := s_k3.below l (Nat.le_refl _)
  replace O_k4 := O_k4.below l
  replace s_k4 := s_k4.below l (Nat.le_refl _)
  clear l
  rw [show fE 258 2 = 0 from by decide +kernel]
  rw [show fL 0 258 2 = 2 from by decide +kernel] at O_k5
  obtain ⟨p_k5, c_k5, rfl, le_k5, s_k5⟩ := O_k5.bytes
  have nil_k5 := O_k5.nilCap
  refine ⟨_, rfl, ?_⟩
  simp only [Act.put, List.setIfInBounds_toArray, List.set_cons_zero, List.set_cons_succ]
  refine pureL (.tuple #[.slice p_k5 2 c_k5, .int .i64 0]) rfl (fun _ => by kernel_rfl) ?_
  simp only [Act.put, List.setIfInBounds_toArray, List.set_cons_zero, List.set_cons_succ]
  refine pureL (.slice p_k5 2 c_k5) rfl (fun _ => by kernel_rfl) ?_
  simp only [Act.put, List.setIfInBounds_toArray, List.set_cons_zero, List.set_cons_succ]
  refine pureL (.int .i64 0) rfl (fun _ => by kernel_rfl) ?_
  simp only [Act.put, List.setIfInBounds_toArray, List.set_cons_zero, List.set_cons_succ]
  refine pureL (.slice p_k5 2 c_k5) rfl (fun _ => by kernel_rfl) ?_
  simp only [Act.put, List.setIfInBounds_toArray, List.set_cons_zero, List.set_cons_succ]
  refine pureL (.int .i64 0) rfl (fun _ => by kernel_rfl) ?_
  simp only [Act.put, List.setIfInBounds_toArray, List.set_cons_zero, List.set_cons_succ]
  show Exit.then _ _ _ _ _
  go_upto_region 6 with fail
  refine wp_region_list ?_
  refine actL (w' := w7.alloc (.cells (row .u8 4 (bl [2, 97, 98, 99])).toArray 5)) (.slice (some ⟨w7.heap.size, 0, none⟩) 4 4) rfl (by kernel_rfl) ?_
  simp only [Act.put, List.setIfInBounds_toArray, List.set_cons_zero, List.set_cons_succ]
  have s_w8 := (Has.new w7 .u8 4 (bl [2, 97, 98, 99]) 5 w7.heap.size rfl).src0
  have l := (Below.refl w7.heap.size w7).alloc (Nat.le_refl _) (.cells (row .u8 4 (bl [2, 97, 98, 99])).toArray 5)
  replace K := K.call l
  replace O_k1 := O_k1.below l
  replace s_k1 := s_k1.below l (Nat.le_refl _)
  replace s_w2 := s_w2.below l (Nat.le_refl _)
  replace s_k2 := s_k2.below l (Nat.le_refl _)
  replace s_w4 := s_w4.below l (Nat.le_refl _)
  replace s_k3 := s_k3.below l (Nat.le_refl _)
  replace O_k4 := O_k4.below l
  replace s_k4 := s_k4.below l (Nat.le_refl _)
  replace O_k5 := O_k5.below l
  replace s_k5 := s_k5.below l (Nat.le_refl _)
  clear l
  generalize w7.alloc (.cells (row .u8 4 (bl [2, 97, 98, 99])).toArray 5) = w8 at K s_w8 O_k1 s_k1 s_w2 s_k2 s_w4 s_k3 O_k4 s_k4 O_k5 s_k5 ⊢
  refine callL rfl (fun _ => by kernel_rfl) (hTB (some ⟨w7.heap.size, 0, none⟩) (4) (4) (by decide) (by decide) (fun e => by cases e) (bl [2, 97, 98, 99]) (bl_in _ _ (by decide)) 9 (by decide) _ s_w8) ?_
  rintro e w9 ⟨⟨p_k6, c_k6, g_k6, d_k6, rfl, s_k6, t_k6⟩, l⟩
  replace K := K.call l
  replace O_k1 := O_k1.below l
  replace s_k1 := s_k1.below l (Nat.le_refl _)
  replace s_w2 := s_w2.below l (Nat.le_refl _)
  replace s_k2 := s_k2.below l (Nat.le_refl _)
  replace s_w4 := s_w4.below l (Nat.le_refl _)
  replace s_k3 := s_k3.below l (Nat.le_refl _)
  replace O_k4 := O_k4.below l
  replace s_k4 := s_k4.below l (Nat.le_refl _)
  replace O_k5 := O_k5.below l
  replace s_k5 := s_k5.below l (Nat.le_refl _)
  replace s_w8 := s_w8.below l (Nat.le_refl _)
  clear l
  rw [show xE 4 (bl [2, 97, 98, 99]) 9 = 0 from by decide +kernel]
  rw [show xL 4 (bl [2, 97, 98, 99]) 9 = 2 from by decide +kernel] at s_k6 ⊢
  rw [show yL 4 (bl [2, 97, 98, 99]) 9 = 1 from by decide +kernel] at t_k6 ⊢
  refine ⟨_, rfl, ?_⟩
  simp only [Act.put, List.setIfInBounds_toArray, List.set_cons_zero, List.set_cons_succ]
  refine pureL (.tuple #[.slice p_k6 2 c_k6, .slice g_k6 1 d_k6, .int .i64 0]) rfl (fun _ => by kernel_rfl) ?_
  simp only [Act.put, List.setIfInBounds_toArray, List.set_cons_zero, List.set_cons_succ]
  refine pureL (.slice p_k6 2 c_k6) rfl (fun _ => by kernel_rfl) ?_
  simp only [Act.put, List.setIfInBounds_toArray, List.set_cons_zero, List.set_cons_succ]
  refine pureL (.slice g_k6 1 d_k6) rfl (fun _ => by kernel_rfl) ?_
  simp only [Act.put, List.setIfInBounds_toArray, List.set_cons_zero, List.set_cons_succ]
  refine pureL (.int .i64 0) rfl (fun _ => by kernel_rfl) ?_
  simp only [Act.put, List.setIfInBounds_toArray, List.set_cons_zero, List.set_cons_succ]
  refine pureL (.slice p_k6 2 c_k6) rfl (fun _ => by kernel_rfl) ?_
  simp only [Act.put, List.setIfInBounds_toArray, List.set_cons_zero, List.set_cons_succ]
  refine pureL (.slice g_k6 1 d_k6) rfl (fun _ => by kernel_rfl) ?_
  simp only [Act.put, List.setIfInBounds_toArray, List.set_cons_zero, List.set_cons_succ]
  refine pureL (.int .i64 0) rfl (fun _ => by kernel_rfl) ?_
  simp only [Act.put, List.setIfInBounds_toArray, List.set_cons_zero, List.set_cons_succ]
  show Exit.then _ _ _ _ _
  go_upto_region 7 with fail
  refine wp_region_list ?_
  refine actL (w' := w9.alloc (.cells (row .u8 3 (bl [2, 97, 98])).toArray 5)) (.slice (some ⟨w9.heap.size, 0, none⟩) 3 3) rfl (by kernel_rfl) ?_
  simp only [Act.put, List.setIfInBounds_toArray, List.set_cons_zero, List.set_cons_succ]
  have s_w10 := (Has.new w9 .u8 3 (bl [2, 97, 98]) 5 w9.heap.size rfl).src0
  have l := (Below.refl w9.heap.size w9).alloc (Nat.le_refl _) (.cells (row .u8 3 (bl [2, 97, 98])).toArray 5)
  replace K := K.call l
  replace O_k1 := O_k1.below l
  replace s_k1 := s_k1.below l (Nat.le_refl _)
  replace s_w2 := s_w2.below l (Nat.le_refl _)
  replace s_k2 := s_k2.below l (Nat.le_refl _)
  replace s_w4 := s_w4.below l (Nat.le_refl _)
  replace s_k3 := s_k3.below l (Nat.le_refl _)
  replace O_k4 := O_k4.below l
  replace s_k4 := s_k4.below l (Nat.le_refl _)
  replace O_k5 := O_k5.below l
  replace s_k5 := s_k5.below l (Nat.le_refl _)
  replace s_w8 := s_w8.below l (Nat.le_refl _)
  replace s_k6 := s_k6.below l (Nat.le_refl _)
  replace t_k6 := t_k6.below l (Nat.le_refl _)
  clear l
  generalize w9.alloc (.cells (row .u8 3 (bl [2, 97, 98])).toArray 5) = w10 at K s_w10 O_k1 s_k1 s_w2 s_k2 s_w4 s_k3 O_k4 s_k4 O_k5 s_k5 s_w8 s_k6 t_k6 ⊢
  refine callL rfl (fun _ => by kernel_rfl) (hTB (some ⟨w9.heap.size, 0, none⟩) (3) (3) (by decide) (by decide) (fun e => by cases e) (bl [2, 97, 98]) (bl_in _ _ (by decide)) 1 (by decide) _ s_w10) ?_
  rintro e w11 ⟨⟨p_k7, c_k7, g_k7, d_k7, rfl, s_k7, t_k7⟩, l⟩
  replace K := K.call l
  replace O_k1 := O_k1.below l
  replace s_k1 := s_k1.below l (Nat.le_refl _)
  replace s_w2 := s_w2.below l (Nat.le_refl _)
  replace s_k2 := s_k2.below l (Nat.le_refl _)
  replace s_w4 := s_w4.below l (Nat.le_refl _)
  replace s_k3 := s_k3.below l (Nat.le_refl _)
  replace O_k4 := O_k4.below l
  replace s_k4 := s_k4.below l (Nat.le_refl _)
  replace O_k5 := O_k5.below l
  replace s_k5 := s_k5.below l (Nat.le_refl _)
  replace s_w8 := s_w8.below l (Nat.le_refl _)
  replace s_k6 := s_k6.below l (Nat.le_refl _)
  replace t_k6 := t_k6.below l (Nat.le_refl _)
  replace s_w10 := s_w10.below l (Nat.le_refl _)
  clear l
  rw [show xE 3 (bl [2, 97, 98]) 1 = 2 from by decide +kernel]
  rw [show xL 3 (bl [2, 97, 98]) 1 = 0 from by decide +kernel] at s_k7 ⊢
  rw [show yL 3 (bl [2, 97, 98]) 1 = 0 from by decide +kernel] at t_k7 ⊢
  refine ⟨_, rfl, ?_⟩
  simp only [Act.put, List.setIfInBounds_toArray, List.set_cons_zero, List.set_cons_succ]
  refine pureL (.tuple #[.slice p_k7 0 c_k7, .slice g_k7 0 d_k7, .int .i64 2]) rfl (fun _ => by kernel_rfl) ?_
  simp only [Act.put, List.setIfInBounds_toArray, List.set_cons_zero, List.set_cons_succ]
  refine pureL (.slice p_k7 0 c_k7) rfl (fun _ => by kernel_rfl) ?_
  simp only [Act.put, List.setIfInBounds_toArray, List.set_cons_zero, List.set_cons_succ]
  refine pureL (.slice g_k7 0 d_k7) rfl (fun _ => by kernel_rfl) ?_
  simp only [Act.put, List.setIfInBounds_toArray, List.set_cons_zero, List.set_cons_succ]
  refine pureL (.int .i64 2) rfl (fun _ => by kernel_rfl) ?_
  simp only [Act.put, List.setIfInBounds_toArray, List.set_cons_zero, List.set_cons_succ]
  refine pureL (.slice p_k7 0 c_k7) rfl (fun _ => by kernel_rfl) ?_
  simp only [Act.put, List.setIfInBounds_toArray, List.set_cons_zero, List.set_cons_succ]
  refine pureL (.slice g_k7 0 d_k7) rfl (fun _ => by kernel_rfl) ?_
  simp only [Act.put, List.setIfInBounds_toArray, List.set_cons_zero, List.set_cons_succ]
  refine pureL (.int .i64 2) rfl (fun _ => by kernel_rfl) ?_
  simp only [Act.put, List.setIfInBounds_toArray, List.set_cons_zero, List.set_cons_succ]
  show Exit.then _ _ _ _ _
  go_upto_region 8 with fail
  refine wp_region_list ?_
  refine pureL (.slice p_k1 4 c_k1) rfl (fun _ => by kernel_rfl) ?_
  simp only [Act.put, List.setIfInBounds_toArray, List.set_cons_zero, List.set_cons_succ]
  refine readL (.string (txt (4) (vput 0 z0 16384))) rfl (conv_txt 22 5 9 _ rfl Try.underlying22 Try.underlying5 Try.underlying9 (p_k1) (4) (c_k1) (vput 0 z0 16384) rfl _ (s_k1) (Src.none (s_k1))) ?_
  simp only [Act.put, List.setIfInBounds_toArray, List.set_cons_zero, List.set_cons_succ]
  refine pureL (.bool true) rfl (fun w => eqlS _ _ _ _ _ _ rfl rfl rfl (by kernel_rfl) w) ?_
  simp only [Act.put, List.setIfInBounds_toArray, List.set_cons_zero, List.set_cons_succ]
  refine pureL (.bool true) rfl (fun _ => by kernel_rfl) ?_
  simp only [Act.put, List.setIfInBounds_toArray, List.set_cons_zero, List.set_cons_succ]
  refine pureL (.int .i64 0) rfl (fun _ => by kernel_rfl) ?_
  simp only [Act.put, List.setIfInBounds_toArray, List.set_cons_zero, List.set_cons_succ]
  refine pureL (.bool true) rfl (fun w => eqlI .i64 _ _ _ _ _ _ rfl rfl rfl true (by decide) w) ?_
  simp only [Act.put, List.setIfInBounds_toArray, List.set_cons_zero, List.set_cons_succ]
  refine pureL (.bool true) rfl (fun _ => by kernel_rfl) ?_
  simp only [Act.put, List.setIfInBounds_toArray, List.set_cons_zero, List.set_cons_succ]
  refine pureL (.bool true) rfl (fun _ => by kernel_rfl) ?_
  simp only [Act.put, List.setIfInBounds_toArray, List.set_cons_zero, List.set_cons_succ]
  refine pureL (.int .i64 90) rfl (fun _ => by kernel_rfl) ?_
  simp only [Act.put, List.setIfInBounds_toArray, List.set_cons_zero, List.set_cons_succ]
  refine pureL (.bool true) rfl (fun w => eqlI .i64 _ _ _ _ _ _ rfl rfl rfl true (by decide) w) ?_
  simp only [Act.put, List.setIfInBounds_toArray, List.set_cons_zero, List.set_cons_succ]
  refine pureL (.bool true) rfl (fun _ => by kernel_rfl) ?_
  simp only [Act.put, List.setIfInBounds_toArray, List.set_cons_zero, List.set_cons_succ]
  refine pureL (.bool true) rfl (fun _ => by kernel_rfl) ?_
  simp only [Act.put, List.setIfInBounds_toArray, List.set_cons_zero, List.set_cons_succ]
  refine pureL (.int .i64 5) rfl (fun _ => by kernel_rfl) ?_
  simp only [Act.put, List.setIfInBounds_toArray, List.set_cons_zero, List.set_cons_succ]
  refine pureL (.bool true) rfl (fun w => eqlI .i64 _ _ _ _ _ _ rfl rfl rfl true (by decide) w) ?_
  simp only [Act.put, List.setIfInBounds_toArray, List.set_cons_zero, List.set_cons_succ]
  refine pureL (.bool true) rfl (fun _ => by kernel_rfl) ?_
  simp only [Act.put, List.setIfInBounds_toArray, List.set_cons_zero, List.set_cons_succ]
  refine pureL (.bool true) rfl (fun _ => by kernel_rfl) ?_
  simp only [Act.put, List.setIfInBounds_toArray, List.set_cons_zero, List.set_cons_succ]
  refine pureL (.slice p_k3 1 c_k3) rfl (fun _ => by kernel_rfl) ?_
  simp only [Act.put, List.setIfInBounds_toArray, List.set_cons_zero, List.set_cons_succ]
  refine readL (.string (txt (1) (tR (bl [5, 6])))) rfl (conv_txt 22 5 9 _ rfl Try.underlying22 Try.underlying5 Try.underlying9 (p_k3) (1) (c_k3) (tR (bl [5, 6])) rfl _ (s_k3) (Src.none (s_k3))) ?_
  simp only [Act.put, List.setIfInBounds_toArray, List.set_cons_zero, List.set_cons_succ]
  refine pureL (.bool true) rfl (fun w => eqlS _ _ _ _ _ _ rfl rfl rfl (by kernel_rfl) w) ?_
  simp only [Act.put, List.setIfInBounds_toArray, List.set_cons_zero, List.set_cons_succ]
  refine pureL (.bool true) rfl (fun _ => by kernel_rfl) ?_
  simp only [Act.put, List.setIfInBounds_toArray, List.set_cons_zero, List.set_cons_succ]
  refine pureL (.bool true) rfl (fun _ => by kernel_rfl) ?_
  simp only [Act.put, List.setIfInBounds_toArray, List.set_cons_zero, List.set_cons_succ]
  refine pureL (.int .i64 0) rfl (fun _ => by kernel_rfl) ?_
  simp only [Act.put, List.setIfInBounds_toArray, List.set_cons_zero, List.set_cons_succ]
  refine pureL (.bool true) rfl (fun w => eqlI .i64 _ _ _ _ _ _ rfl rfl rfl true (by decide) w) ?_
  simp only [Act.put, List.setIfInBounds_toArray, List.set_cons_zero, List.set_cons_succ]
  refine pureL (.bool true) rfl (fun _ => by kernel_rfl) ?_
  simp only [Act.put, List.setIfInBounds_toArray, List.set_cons_zero, List.set_cons_succ]
  refine pureL (.bool true) rfl (fun _ => by kernel_rfl) ?_
  simp only [Act.put, List.setIfInBounds_toArray, List.set_cons_zero, List.set_cons_succ]
  refine pureL (.int .i64 1) rfl (fun _ => by kernel_rfl) ?_
  simp only [Act.put, List.setIfInBounds_toArray, List.set_cons_zero, List.set_cons_succ]
  refine pureL (.bool true) rfl (fun w => eqlI .i64 _ _ _ _ _ _ rfl rfl rfl true (by decide) w) ?_
  simp only [Act.put, List.setIfInBounds_toArray, List.set_cons_zero, List.set_cons_succ]
  refine pureL (.bool true) rfl (fun _ => by kernel_rfl) ?_
  simp only [Act.put, List.setIfInBounds_toArray, List.set_cons_zero, List.set_cons_succ]
  refine pureL (.bool true) rfl (fun _ => by kernel_rfl) ?_
  simp only [Act.put, List.setIfInBounds_toArray, List.set_cons_zero, List.set_cons_succ]
  refine pureL (.slice p_k5 2 c_k5) rfl (fun _ => by kernel_rfl) ?_
  simp only [Act.put, List.setIfInBounds_toArray, List.set_cons_zero, List.set_cons_succ]
  refine readL (.string (txt (2) (fput 0 z0 258 2))) rfl (conv_txt 22 5 9 _ rfl Try.underlying22 Try.underlying5 Try.underlying9 (p_k5) (2) (c_k5) (fput 0 z0 258 2) rfl _ (s_k5) (Src.none (s_k5))) ?_
  simp only [Act.put, List.setIfInBounds_toArray, List.set_cons_zero, List.set_cons_succ]
  refine pureL (.bool true) rfl (fun w => eqlS _ _ _ _ _ _ rfl rfl rfl (by kernel_rfl) w) ?_
  simp only [Act.put, List.setIfInBounds_toArray, List.set_cons_zero, List.set_cons_succ]
  refine pureL (.bool true) rfl (fun _ => by kernel_rfl) ?_
  simp only [Act.put, List.setIfInBounds_toArray, List.set_cons_zero, List.set_cons_succ]
  refine pureL (.bool true) rfl (fun _ => by kernel_rfl) ?_
  simp only [Act.put, List.setIfInBounds_toArray, List.set_cons_zero, List.set_cons_succ]
  refine pureL (.int .i64 0) rfl (fun _ => by kernel_rfl) ?_
  simp only [Act.put, List.setIfInBounds_toArray, List.set_cons_zero, List.set_cons_succ]
  refine pureL (.bool true) rfl (fun w => eqlI .i64 _ _ _ _ _ _ rfl rfl rfl true (by decide) w) ?_
  simp only [Act.put, List.setIfInBounds_toArray, List.set_cons_zero, List.set_cons_succ]
  refine pureL (.bool true) rfl (fun _ => by kernel_rfl) ?_
  simp only [Act.put, List.setIfInBounds_toArray, List.set_cons_zero, List.set_cons_succ]
  refine pureL (.bool true) rfl (fun _ => by kernel_rfl) ?_
  simp only [Act.put, List.setIfInBounds_toArray, List.set_cons_zero, List.set_cons_succ]
  refine pureL (.slice p_k6 2 c_k6) rfl (fun _ => by kernel_rfl) ?_
  simp only [Act.put, List.setIfInBounds_toArray, List.set_cons_zero, List.set_cons_succ]
  refine readL (.string (txt (2) (tR (bl [2, 97, 98, 99])))) rfl (conv_txt 22 5 9 _ rfl Try.underlying22 Try.underlying5 Try.underlying9 (p_k6) (2) (c_k6) (tR (bl [2, 97, 98, 99])) rfl _ (s_k6) (Src.none (s_k6))) ?_
  simp only [Act.put, List.setIfInBounds_toArray, List.set_cons_zero, List.set_cons_succ]
  refine pureL (.bool true) rfl (fun w => eqlS _ _ _ _ _ _ rfl rfl rfl (by kernel_rfl) w) ?_
  simp only [Act.put, List.setIfInBounds_toArray, List.set_cons_zero, List.set_cons_succ]
  refine pureL (.bool true) rfl (fun _ => by kernel_rfl) ?_
  simp only [Act.put, List.setIfInBounds_toArray, List.set_cons_zero, List.set_cons_succ]
  refine pureL (.bool true) rfl (fun _ => by kernel_rfl) ?_
  simp only [Act.put, List.setIfInBounds_toArray, List.set_cons_zero, List.set_cons_succ]
  refine pureL (.slice g_k6 1 d_k6) rfl (fun _ => by kernel_rfl) ?_
  simp only [Act.put, List.setIfInBounds_toArray, List.set_cons_zero, List.set_cons_succ]
  refine readL (.string (txt (1) (yR 4 (bl [2, 97, 98, 99])))) rfl (conv_txt 22 5 9 _ rfl Try.underlying22 Try.underlying5 Try.underlying9 (g_k6) (1) (d_k6) (yR 4 (bl [2, 97, 98, 99])) rfl _ (t_k6) (Src.none (t_k6))) ?_
  simp only [Act.put, List.setIfInBounds_toArray, List.set_cons_zero, List.set_cons_succ]
  refine pureL (.bool true) rfl (fun w => eqlS _ _ _ _ _ _ rfl rfl rfl (by kernel_rfl) w) ?_
  simp only [Act.put, List.setIfInBounds_toArray, List.set_cons_zero, List.set_cons_succ]
  refine pureL (.bool true) rfl (fun _ => by kernel_rfl) ?_
  simp only [Act.put, List.setIfInBounds_toArray, List.set_cons_zero, List.set_cons_succ]
  refine pureL (.bool true) rfl (fun _ => by kernel_rfl) ?_
  simp only [Act.put, List.setIfInBounds_toArray, List.set_cons_zero, List.set_cons_succ]
  refine pureL (.int .i64 0) rfl (fun _ => by kernel_rfl) ?_
  simp only [Act.put, List.setIfInBounds_toArray, List.set_cons_zero, List.set_cons_succ]
  refine pureL (.bool true) rfl (fun w => eqlI .i64 _ _ _ _ _ _ rfl rfl rfl true (by decide) w) ?_
  simp only [Act.put, List.setIfInBounds_toArray, List.set_cons_zero, List.set_cons_succ]
  refine pureL (.bool true) rfl (fun _ => by kernel_rfl) ?_
  simp only [Act.put, List.setIfInBounds_toArray, List.set_cons_zero, List.set_cons_succ]
  refine pureL (.bool true) rfl (fun _ => by kernel_rfl) ?_
  simp only [Act.put, List.setIfInBounds_toArray, List.set_cons_zero, List.set_cons_succ]
  refine pureL (.int .i64 2) rfl (fun _ => by kernel_rfl) ?_
  simp only [Act.put, List.setIfInBounds_toArray, List.set_cons_zero, List.set_cons_succ]
  refine pureL (.bool true) rfl (fun w => eqlI .i64 _ _ _ _ _ _ rfl rfl rfl true (by decide) w) ?_
  simp only [Act.put, List.setIfInBounds_toArray, List.set_cons_zero, List.set_cons_succ]
  refine pureL (.bool true) rfl (fun _ => by kernel_rfl) ?_
  simp only [Act.put, List.setIfInBounds_toArray, List.set_cons_zero, List.set_cons_succ]
  refine pureL (.bool true) rfl (fun _ => by kernel_rfl) ?_
  simp only [Act.put, List.setIfInBounds_toArray, List.set_cons_zero]
  show Exit.then _ _ _ _ _
  have hB := K.below
  clear K
  go_wp2
  go_ret
  exact ⟨rfl, hB⟩
end Go.Proofs.Ytogbdoikkmdopaa
