/- The walk of KdfExpands. -/
import Derived.Test.YtcdbkbcfjdpdoaaDoorG4
namespace Go.Proofs.YtcdbkbcfjdpdoaaDoor
open Go.RowKit

/-- Four slices that stand. -/
structure KQ (w : World) (s1 : Option Addr) (n : Nat) (s2 : Option Addr) (x : Nat → Int) (s3 s4 : Option Addr) (len : Nat) (z : Nat → Int) (w' : World) : Prop where
  below : Below w.heap.size w w'
  one : Src w' s1 n x
  two : Src w' s2 n x
  three : Src w' s3 len z
  four : Src w' s4 len z
theorem KQ.drew {w : World} {s1 : Option Addr} {n : Nat} {s2 : Option Addr} {x : Nat → Int} {s3 s4 : Option Addr} {len : Nat} {z : Nat → Int} {w' : World} (h : KQ w s1 n s2 x s3 s4 len z w') : KQ w s1 n s2 x s3 s4 len z w'.drew :=
  ⟨h.below.drew, h.one.below (Below.refl _ _).drew (Nat.le_refl _), h.two.below (Below.refl _ _).drew (Nat.le_refl _), h.three.below (Below.refl _ _).drew (Nat.le_refl _), h.four.below (Below.refl _ _).drew (Nat.le_refl _)⟩
set_option maxRecDepth 10000 in
set_option maxHeartbeats 16000000 in
theorem law_KdfExpands (k : Nat → Int) (hk : In 256 32 k) (sp : Option Addr) (len cap : Nat) (hlb : len ≤ 140737488351232) (_hcb : len ≤ cap) (hnb : sp = none → cap = 0) (z : Nat → Int) (hib : In 256 len z) (n : Int) (_hn : -9223372036854775808 ≤ n ∧ n < 9223372036854775808) (w : World) (hg : BGlob w) (hsb : Src w sp len z) :
    Calls Tryd.prog 4 #[(.agg (row .u8 32 (k)).toArray), .slice sp len cap, .int .i64 n] w fun e w' => e = .returned (.bool true) ∧ Below w.heap.size w w' := by
  have K := Kr.init w
  replace K := K.box .u8 32 k 25 (w.heap.size) rfl
  go_enter Tryd.func4, Tryd.ntmps4
  go_upto_region 1 with fail
  generalize (w.alloc (.cells (row .u8 32 k).toArray 25)) = w0 at K ⊢
  refine wp_region_list ?_
  refine callL rfl (fun _ => by kernel_rfl) (kshown_any _ (hg.below K.below hg.size)) ?_
  rintro e w1 ⟨rfl, l⟩
  replace K := K.call l
  clear l
  refine ⟨_, rfl, ?_⟩
  simp only [Act.put, List.setIfInBounds_toArray, List.set_cons_zero, List.set_cons_succ]
  refine pureL (.bool true) rfl (fun _ => by kernel_rfl) ?_
  simp only [Act.put, List.setIfInBounds_toArray, List.set_cons_zero, List.set_cons_succ]
  show Exit.then _ _ _ _ _
  go_upto_region 2 with fail
  refine wp_region_list ?_
  refine actL (w' := w1.alloc (.cells #[] 5)) (.slice (some ⟨w1.heap.size, 0, none⟩) 0 0) rfl (by kernel_rfl) ?_
  simp only [Act.put, List.setIfInBounds_toArray, List.set_cons_zero, List.set_cons_succ]
  refine pureL (.slice sp len cap) rfl (fun _ => by kernel_rfl) ?_
  simp only [Act.put, List.setIfInBounds_toArray, List.set_cons_zero, List.set_cons_succ]
  have hb1 := (Below.refl w1.heap.size w1).alloc (Nat.le_refl _) (.cells #[] 5)
  obtain ⟨v, w2, hr, ho, hgr, _⟩ := run_append_Own (P := Tryd.prog) (ty := 22) Tryd.underlying22 one8 (show Own (w1.alloc (.cells #[] 5)) w1.heap.size 5 .u8 0 (fun _ => 0) (.slice (some ⟨w1.heap.size, 0, none⟩) 0 0) from Own.lit w1 w1.heap.size 5 .u8 0 (fun _ => 0) (Nat.le_refl _) (by unfold maxLen; omega)) sp len cap z (hsb.below (K.call hb1).below (Nat.le_refl _)) hnb (by unfold maxLen; omega) (by omega) (by simp)
  have hb2 := Below.grown hb1 hgr (by simp) (fun b hb => by injection hb with hb; simp only at hb; omega)
  refine actL v rfl (appendOp _ _ 22 _ _ _ rfl rfl rfl hr) ?_
  simp only [Act.put, List.setIfInBounds_toArray, List.set_cons_zero, List.set_cons_succ]
  refine pureL v rfl (fun _ => by kernel_rfl) ?_
  simp only [Act.put, List.setIfInBounds_toArray, List.set_cons_zero, List.set_cons_succ]
  rw [Nat.zero_add] at ho
  replace ho : Own w2 w1.heap.size 5 .u8 len z v := ho.congr (fun j _ => by unfold app; rw [if_neg (by omega), Nat.sub_zero])
  replace K := K.call hb2
  obtain ⟨qb, cb, rfl, hqb, sb⟩ := ho.bytes
  have neb := ho.nilCap
  clear hr ho hgr hb1 hb2
  show Exit.then _ _ _ _ _
  by_cases hbad : n < 0 ∨ 8160 < n
  · go_upto_region 3 with fail
    refine wp_region_list ?_
    refine rowKL .u8 32 (k) (w.heap.size) 0 25 _ _ rfl rfl rfl Tryd.underlying25 rfl (key_info _) ((K.get _ _ _ _ List.mem_cons_self).range) ?_
    simp only [Act.put, List.setIfInBounds_toArray, List.set_cons_zero, List.set_cons_succ]
    refine pureL (.slice qb len cb) rfl (fun _ => by kernel_rfl) ?_
    simp only [Act.put, List.setIfInBounds_toArray, List.set_cons_zero, List.set_cons_succ]
    refine pureL (.int .i64 n) rfl (fun _ => by kernel_rfl) ?_
    simp only [Act.put, List.setIfInBounds_toArray, List.set_cons_zero, List.set_cons_succ]
    refine callL rfl (fun _ => by kernel_rfl) (kexpand_bad k qb len cb n hbad _) ?_
    rintro e w3 ⟨rfl, l⟩
    replace K := K.call l
    clear l
    refine ⟨_, rfl, ?_⟩
    simp only [Act.put, List.setIfInBounds_toArray, List.set_cons_zero, List.set_cons_succ]
    refine pureL (.tuple #[.slice none 0 0, .int .i64 1]) rfl (fun _ => by kernel_rfl) ?_
    simp only [Act.put, List.setIfInBounds_toArray, List.set_cons_zero, List.set_cons_succ]
    refine pureL (.slice none 0 0) rfl (fun _ => by kernel_rfl) ?_
    simp only [Act.put, List.setIfInBounds_toArray, List.set_cons_zero, List.set_cons_succ]
    refine pureL (.int .i64 1) rfl (fun _ => by kernel_rfl) ?_
    simp only [Act.put, List.setIfInBounds_toArray, List.set_cons_zero, List.set_cons_succ]
    refine pureL (.slice none 0 0) rfl (fun _ => by kernel_rfl) ?_
    simp only [Act.put, List.setIfInBounds_toArray, List.set_cons_zero, List.set_cons_succ]
    refine pureL (.int .i64 1) rfl (fun _ => by kernel_rfl) ?_
    simp only [Act.put, List.setIfInBounds_toArray, List.set_cons_zero, List.set_cons_succ]
    show Exit.then _ _ _ _ _
    by_cases h1 : n < 0
    · clear hbad
      go_upto_region 5 with fail
      refine wp_region_list ?_
      refine pureL (.bool true) rfl (fun _ => by kernel_rfl) ?_
      simp only [Act.put, List.setIfInBounds_toArray, List.set_cons_zero, List.set_cons_succ]
      refine pureL (.bool true) rfl (fun _ => by kernel_rfl) ?_
      simp only [Act.put, List.setIfInBounds_toArray, List.set_cons_zero, List.set_cons_succ]
      refine pureL (.int .i64 1) rfl (fun _ => by kernel_rfl) ?_
      simp only [Act.put, List.setIfInBounds_toArray, List.set_cons_zero, List.set_cons_succ]
      refine pureL (.bool true) rfl (fun w => eqlI .i64 _ _ _ _ _ _ rfl rfl rfl true (by decide) w) ?_
      simp only [Act.put, List.setIfInBounds_toArray, List.set_cons_zero, List.set_cons_succ]
      refine pureL (.bool true) rfl (fun _ => by kernel_rfl) ?_
      simp only [Act.put, List.setIfInBounds_toArray, List.set_cons_zero, List.set_cons_succ]
      refine pureL (.bool true) rfl (fun _ => by kernel_rfl) ?_
      simp only [Act.put, List.setIfInBounds_toArray, List.set_cons_zero, List.set_cons_succ]
      refine pureL (.slice none 0 0) rfl (fun _ => by kernel_rfl) ?_
      simp only [Act.put, List.setIfInBounds_toArray, List.set_cons_zero, List.set_cons_succ]
      refine pureL (.int .i64 ((0 : Nat) : Int)) rfl (fun w => lenS _ 22 5 none 0 0 rfl Tryd.underlying22 rfl w) ?_
      simp only [Act.put, List.setIfInBounds_toArray, List.set_cons_zero, List.set_cons_succ]
      refine pureL (.bool true) rfl (fun w => eqlI .i64 _ _ _ _ _ _ rfl rfl rfl true (by decide) w) ?_
      simp only [Act.put, List.setIfInBounds_toArray, List.set_cons_zero, List.set_cons_succ]
      refine pureL (.bool true) rfl (fun _ => by kernel_rfl) ?_
      simp only [Act.put, List.setIfInBounds_toArray, List.set_cons_zero, List.set_cons_succ]
      refine pureL (.bool true) rfl (fun _ => by kernel_rfl) ?_
      simp only [Act.put, List.setIfInBounds_toArray, List.set_cons_zero, List.set_cons_succ]
      show Exit.then _ _ _ _ _
      have hB := K.below
      clear K
      go_wp2
      go_ret
      exact ⟨rfl, hB⟩
    · have h2 : 8160 < n := by omega
      have h2' : 8161 ≤ n := by omega
      clear hbad
      go_upto_region 5 with fail
      refine wp_region_list ?_
      refine pureL (.bool true) rfl (fun _ => by kernel_rfl) ?_
      simp only [Act.put, List.setIfInBounds_toArray, List.set_cons_zero, List.set_cons_succ]
      refine pureL (.bool true) rfl (fun _ => by kernel_rfl) ?_
      simp only [Act.put, List.setIfInBounds_toArray, List.set_cons_zero, List.set_cons_succ]
      refine pureL (.int .i64 1) rfl (fun _ => by kernel_rfl) ?_
      simp only [Act.put, List.setIfInBounds_toArray, List.set_cons_zero, List.set_cons_succ]
      refine pureL (.bool true) rfl (fun w => eqlI .i64 _ _ _ _ _ _ rfl rfl rfl true (by decide) w) ?_
      simp only [Act.put, List.setIfInBounds_toArray, List.set_cons_zero, List.set_cons_succ]
      refine pureL (.bool true) rfl (fun _ => by kernel_rfl) ?_
      simp only [Act.put, List.setIfInBounds_toArray, List.set_cons_zero, List.set_cons_succ]
      refine pureL (.bool true) rfl (fun _ => by kernel_rfl) ?_
      simp only [Act.put, List.setIfInBounds_toArray, List.set_cons_zero, List.set_cons_succ]
      refine pureL (.slice none 0 0) rfl (fun _ => by kernel_rfl) ?_
      simp only [Act.put, List.setIfInBounds_toArray, List.set_cons_zero, List.set_cons_succ]
      refine pureL (.int .i64 ((0 : Nat) : Int)) rfl (fun w => lenS _ 22 5 none 0 0 rfl Tryd.underlying22 rfl w) ?_
      simp only [Act.put, List.setIfInBounds_toArray, List.set_cons_zero, List.set_cons_succ]
      refine pureL (.bool true) rfl (fun w => eqlI .i64 _ _ _ _ _ _ rfl rfl rfl true (by decide) w) ?_
      simp only [Act.put, List.setIfInBounds_toArray, List.set_cons_zero, List.set_cons_succ]
      refine pureL (.bool true) rfl (fun _ => by kernel_rfl) ?_
      simp only [Act.put, List.setIfInBounds_toArray, List.set_cons_zero, List.set_cons_succ]
      refine pureL (.bool true) rfl (fun _ => by kernel_rfl) ?_
      simp only [Act.put, List.setIfInBounds_toArray, List.set_cons_zero, List.set_cons_succ]
      show Exit.then _ _ _ _ _
      have hB := K.below
      clear K
      go_wp2
      go_ret
      exact ⟨rfl, hB⟩
  · obtain ⟨s, rfl⟩ := Int.eq_ofNat_of_zero_le (show 0 ≤ n by omega)
    have hs8 : s ≤ 8160 := by omega
    have h1 : ¬ (s : Int) < 0 := by omega
    have h2 : ¬ 8160 < (s : Int) := by omega
    have h2' : ¬ 8161 ≤ (s : Int) := by omega
    clear hbad
    go_upto_region 3 with fail
    refine wp_region_list ?_
    refine rowKL .u8 32 (k) (w.heap.size) 0 25 _ _ rfl rfl rfl Tryd.underlying25 rfl (key_info _) ((K.get _ _ _ _ List.mem_cons_self).range) ?_
    simp only [Act.put, List.setIfInBounds_toArray, List.set_cons_zero, List.set_cons_succ]
    refine pureL (.slice qb len cb) rfl (fun _ => by kernel_rfl) ?_
    simp only [Act.put, List.setIfInBounds_toArray, List.set_cons_zero, List.set_cons_succ]
    refine pureL (.int .i64 ((s : Nat) : Int)) rfl (fun _ => by kernel_rfl) ?_
    simp only [Act.put, List.setIfInBounds_toArray, List.set_cons_zero, List.set_cons_succ]
    refine callL rfl (fun _ => by kernel_rfl) (kexpand_any k hk qb len cb hlb neb z hib s hs8 _ (hg.below K.below hg.size) sb) ?_
    rintro e w3 ⟨s1, c1, rfl, ⟨hc1, h1'⟩, l⟩
    replace K := K.call l
    replace sb := sb.below l (Nat.le_refl _)
    clear l
    refine ⟨_, rfl, ?_⟩
    simp only [Act.put, List.setIfInBounds_toArray, List.set_cons_zero, List.set_cons_succ]
    refine pureL (.tuple #[.slice s1 s c1, .int .i64 0]) rfl (fun _ => by kernel_rfl) ?_
    simp only [Act.put, List.setIfInBounds_toArray, List.set_cons_zero, List.set_cons_succ]
    refine pureL (.slice s1 s c1) rfl (fun _ => by kernel_rfl) ?_
    simp only [Act.put, List.setIfInBounds_toArray, List.set_cons_zero, List.set_cons_succ]
    refine pureL (.int .i64 0) rfl (fun _ => by kernel_rfl) ?_
    simp only [Act.put, List.setIfInBounds_toArray, List.set_cons_zero, List.set_cons_succ]
    refine pureL (.slice s1 s c1) rfl (fun _ => by kernel_rfl) ?_
    simp only [Act.put, List.setIfInBounds_toArray, List.set_cons_zero, List.set_cons_succ]
    refine pureL (.int .i64 0) rfl (fun _ => by kernel_rfl) ?_
    simp only [Act.put, List.setIfInBounds_toArray, List.set_cons_zero, List.set_cons_succ]
    show Exit.then _ _ _ _ _
    go_upto_region 6 with fail
    refine wp_region_list ?_
    clear h1 h2 h2'
    refine rowKL .u8 32 (k) (w.heap.size) 0 25 _ _ rfl rfl rfl Tryd.underlying25 rfl (key_info _) ((K.get _ _ _ _ List.mem_cons_self).range) ?_
    simp only [Act.put, List.setIfInBounds_toArray, List.set_cons_zero, List.set_cons_succ]
    refine pureL (.slice sp len cap) rfl (fun _ => by kernel_rfl) ?_
    simp only [Act.put, List.setIfInBounds_toArray, List.set_cons_zero, List.set_cons_succ]
    refine pureL (.int .i64 ((s : Nat) : Int)) rfl (fun _ => by kernel_rfl) ?_
    simp only [Act.put, List.setIfInBounds_toArray, List.set_cons_zero, List.set_cons_succ]
    refine pureL (.int .i64 (((min s 2000) : Nat) : Int)) rfl (fun w => minI .i64 .i64 _ _ _ _ _ _ _ rfl rfl rfl (by split <;> omega) w) ?_
    simp only [Act.put, List.setIfInBounds_toArray, List.set_cons_zero, List.set_cons_succ]
    refine callL rfl (fun _ => by kernel_rfl) (krefExpand_any k hk sp len cap hlb hnb z hib (min s 2000) (by omega) _ (hsb.below K.below (Nat.le_refl _))) ?_
    rintro e w4 ⟨s2, c2, rfl, ⟨_, h2'⟩, l⟩
    replace K := K.call l
    replace sb := sb.below l (Nat.le_refl _)
    replace h1' := h1'.below l (Nat.le_refl _)
    clear l
    refine ⟨_, rfl, ?_⟩
    simp only [Act.put, List.setIfInBounds_toArray, List.set_cons_zero, List.set_cons_succ]
    refine pureL (.tuple #[.slice s2 (min s 2000) c2, .int .i64 0]) rfl (fun _ => by kernel_rfl) ?_
    simp only [Act.put, List.setIfInBounds_toArray, List.set_cons_zero, List.set_cons_succ]
    refine pureL (.slice s2 (min s 2000) c2) rfl (fun _ => by kernel_rfl) ?_
    simp only [Act.put, List.setIfInBounds_toArray, List.set_cons_zero, List.set_cons_succ]
    refine pureL (.int .i64 0) rfl (fun _ => by kernel_rfl) ?_
    simp only [Act.put, List.setIfInBounds_toArray, List.set_cons_zero, List.set_cons_succ]
    refine pureL (.slice s2 (min s 2000) c2) rfl (fun _ => by kernel_rfl) ?_
    simp only [Act.put, List.setIfInBounds_toArray, List.set_cons_zero, List.set_cons_succ]
    refine pureL (.int .i64 0) rfl (fun _ => by kernel_rfl) ?_
    simp only [Act.put, List.setIfInBounds_toArray, List.set_cons_zero, List.set_cons_succ]
    show Exit.then _ _ _ _ _
    obtain ⟨sq, hcut, hsq⟩ := cut_hi (P := Tryd.prog) (t := 22) (by kernel_rfl) (fun _ => by kernel_rfl) s1 s c1 (min s 2000) (by omega) hc1
    replace K : KQ w sq (min s 2000) s2 (kex k len z) qb sp len z w4 := ⟨K.below, hsq _ _ h1', h2', sb, (hsb.below K.below (Nat.le_refl _))⟩
    clear h1' h2' hsq sb
    go_upto_region 7 with fail
    refine wp_region_held_drew (S := fun w' => KQ w sq (min s 2000) s2 (kex k len z) qb sp len z w') (by kernel_rfl) K.drew ?_
    clear K
    intro K
    refine pureH (i := 0) (some 48) rfl (.bool true) rfl rfl (fun _ => by kernel_rfl) (by kernel_rfl) (by kernel_rfl) (by kernel_rfl) (fun _ _ _ h => h) K ?_
    simp only [Act.put, List.setIfInBounds_toArray, List.set_cons_zero, List.set_cons_succ]
    refine pureH (i := 1) (some 49) rfl (.bool true) rfl rfl (fun _ => by kernel_rfl) (by kernel_rfl) (by kernel_rfl) (by kernel_rfl) (fun _ _ _ h => h) K ?_
    simp only [Act.put, List.setIfInBounds_toArray, List.set_cons_zero, List.set_cons_succ]
    refine pureH (i := 2) (some 50) rfl (.int .i64 0) rfl rfl (fun _ => by kernel_rfl) (by kernel_rfl) (by kernel_rfl) (by kernel_rfl) (fun _ _ _ h => h) K ?_
    simp only [Act.put, List.setIfInBounds_toArray, List.set_cons_zero, List.set_cons_succ]
    refine pureH (i := 3) (some 51) rfl (.bool true) rfl rfl (fun w => eqlI .i64 0 0 _ _ _ _ rfl rfl rfl true (by decide) w) (by kernel_rfl) (by kernel_rfl) (by kernel_rfl) (fun _ _ _ h => h) K ?_
    simp only [Act.put, List.setIfInBounds_toArray, List.set_cons_zero, List.set_cons_succ]
    refine pureH (i := 4) (some 52) rfl (.bool true) rfl rfl (fun _ => by kernel_rfl) (by kernel_rfl) (by kernel_rfl) (by kernel_rfl) (fun _ _ _ h => h) K ?_
    simp only [Act.put, List.setIfInBounds_toArray, List.set_cons_zero, List.set_cons_succ]
    refine pureH (i := 5) (some 53) rfl (.bool true) rfl rfl (fun _ => by kernel_rfl) (by kernel_rfl) (by kernel_rfl) (by kernel_rfl) (fun _ _ _ h => h) K ?_
    simp only [Act.put, List.setIfInBounds_toArray, List.set_cons_zero, List.set_cons_succ]
    refine pureH (i := 6) (some 54) rfl (.slice s1 s c1) rfl rfl (fun _ => by kernel_rfl) (by kernel_rfl) (by kernel_rfl) (by kernel_rfl) (fun _ _ _ h => h) K ?_
    simp only [Act.put, List.setIfInBounds_toArray, List.set_cons_zero, List.set_cons_succ]
    refine pureH (i := 7) (some 55) rfl (.int .i64 ((s : Nat) : Int)) rfl rfl (fun w => lenS _ 22 5 s1 s c1 rfl Tryd.underlying22 rfl w) (by kernel_rfl) (by kernel_rfl) (by kernel_rfl) (fun _ _ _ h => h) K ?_
    simp only [Act.put, List.setIfInBounds_toArray, List.set_cons_zero, List.set_cons_succ]
    refine pureH (i := 8) (some 56) rfl (.int .i64 ((s : Nat) : Int)) rfl rfl (fun _ => by kernel_rfl) (by kernel_rfl) (by kernel_rfl) (by kernel_rfl) (fun _ _ _ h => h) K ?_
    simp only [Act.put, List.setIfInBounds_toArray, List.set_cons_zero, List.set_cons_succ]
    refine pureH (i := 9) (some 57) rfl (.bool true) rfl rfl (fun w => eqlI .i64 _ _ _ _ _ _ rfl rfl rfl true (beq_self_eq_true _) w) (by kernel_rfl) (by kernel_rfl) (by kernel_rfl) (fun _ _ _ h => h) K ?_
    simp only [Act.put, List.setIfInBounds_toArray, List.set_cons_zero, List.set_cons_succ]
    refine pureH (i := 10) (some 58) rfl (.bool true) rfl rfl (fun _ => by kernel_rfl) (by kernel_rfl) (by kernel_rfl) (by kernel_rfl) (fun _ _ _ h => h) K ?_
    simp only [Act.put, List.setIfInBounds_toArray, List.set_cons_zero, List.set_cons_succ]
    refine pureH (i := 11) (some 59) rfl (.bool true) rfl rfl (fun _ => by kernel_rfl) (by kernel_rfl) (by kernel_rfl) (by kernel_rfl) (fun _ _ _ h => h) K ?_
    simp only [Act.put, List.setIfInBounds_toArray, List.set_cons_zero, List.set_cons_succ]
    refine pureH (i := 12) (some 60) rfl (.slice s1 s c1) rfl rfl (fun _ => by kernel_rfl) (by kernel_rfl) (by kernel_rfl) (by kernel_rfl) (fun _ _ _ h => h) K ?_
    simp only [Act.put, List.setIfInBounds_toArray, List.set_cons_zero, List.set_cons_succ]
    refine pureH (i := 13) (some 61) rfl (.slice s2 (min s 2000) c2) rfl rfl (fun _ => by kernel_rfl) (by kernel_rfl) (by kernel_rfl) (by kernel_rfl) (fun _ _ _ h => h) K ?_
    simp only [Act.put, List.setIfInBounds_toArray, List.set_cons_zero, List.set_cons_succ]
    refine pureH (i := 14) (some 62) rfl (.int .i64 (((min s 2000) : Nat) : Int)) rfl rfl (fun w => lenS _ 22 5 s2 (min s 2000) c2 rfl Tryd.underlying22 rfl w) (by kernel_rfl) (by kernel_rfl) (by kernel_rfl) (fun _ _ _ h => h) K ?_
    simp only [Act.put, List.setIfInBounds_toArray, List.set_cons_zero, List.set_cons_succ]
    refine pureH (i := 15) (some 63) rfl (.slice sq (min s 2000) c1) rfl rfl (fun w => cutHi _ _ _ _ _ _ rfl rfl rfl (hcut w)) (by kernel_rfl) (by kernel_rfl) (by kernel_rfl) (fun _ _ _ h => h) K ?_
    simp only [Act.put, List.setIfInBounds_toArray, List.set_cons_zero, List.set_cons_succ]
    refine readH (i := 16) (some 64) rfl (.string (txt ((min s 2000)) (kex k len z))) rfl rfl (fun w' h => conv_txt 22 5 9 _ rfl Tryd.underlying22 Tryd.underlying5 Tryd.underlying9 (sq) ((min s 2000)) (c1) (kex k len z) rfl w' (h.one) (Src.none (h.one))) (by kernel_rfl) (by kernel_rfl) (by kernel_rfl) (fun _ _ _ h => h) K ?_
    simp only [Act.put, List.setIfInBounds_toArray, List.set_cons_zero, List.set_cons_succ]
    refine pureH (i := 17) (some 65) rfl (.slice s2 (min s 2000) c2) rfl rfl (fun _ => by kernel_rfl) (by kernel_rfl) (by kernel_rfl) (by kernel_rfl) (fun _ _ _ h => h) K ?_
    simp only [Act.put, List.setIfInBounds_toArray, List.set_cons_zero, List.set_cons_succ]
    refine readH (i := 18) (some 66) rfl (.string (txt ((min s 2000)) (kex k len z))) rfl rfl (fun w' h => conv_txt 22 5 9 _ rfl Tryd.underlying22 Tryd.underlying5 Tryd.underlying9 (s2) ((min s 2000)) (c2) (kex k len z) rfl w' (h.two) (Src.none (h.two))) (by kernel_rfl) (by kernel_rfl) (by kernel_rfl) (fun _ _ _ h => h) K ?_
    simp only [Act.put, List.setIfInBounds_toArray, List.set_cons_zero, List.set_cons_succ]
    refine pureH (i := 19) (some 67) rfl (.bool true) rfl rfl (fun w => eqlS _ _ _ _ _ _ rfl rfl rfl rfl w) (by kernel_rfl) (by kernel_rfl) (by kernel_rfl) (fun _ _ _ h => h) K ?_
    simp only [Act.put, List.setIfInBounds_toArray, List.set_cons_zero, List.set_cons_succ]
    refine pureH (i := 20) (some 68) rfl (.bool true) rfl rfl (fun _ => by kernel_rfl) (by kernel_rfl) (by kernel_rfl) (by kernel_rfl) (fun _ _ _ h => h) K ?_
    simp only [Act.put, List.setIfInBounds_toArray, List.set_cons_zero, List.set_cons_succ]
    refine pureH (i := 21) (some 69) rfl (.bool true) rfl rfl (fun _ => by kernel_rfl) (by kernel_rfl) (by kernel_rfl) (by kernel_rfl) (fun _ _ _ h => h) K ?_
    simp only [Act.put, List.setIfInBounds_toArray, List.set_cons_zero, List.set_cons_succ]
    refine pureH (i := 22) (some 70) rfl (.slice qb len cb) rfl rfl (fun _ => by kernel_rfl) (by kernel_rfl) (by kernel_rfl) (by kernel_rfl) (fun _ _ _ h => h) K ?_
    simp only [Act.put, List.setIfInBounds_toArray, List.set_cons_zero, List.set_cons_succ]
    refine readH (i := 23) (some 71) rfl (.string (txt (len) (z))) rfl rfl (fun w' h => conv_txt 22 5 9 _ rfl Tryd.underlying22 Tryd.underlying5 Tryd.underlying9 (qb) (len) (cb) (z) rfl w' (h.three) (Src.none (h.three))) (by kernel_rfl) (by kernel_rfl) (by kernel_rfl) (fun _ _ _ h => h) K ?_
    simp only [Act.put, List.setIfInBounds_toArray, List.set_cons_zero, List.set_cons_succ]
    refine pureH (i := 24) (some 72) rfl (.slice sp len cap) rfl rfl (fun _ => by kernel_rfl) (by kernel_rfl) (by kernel_rfl) (by kernel_rfl) (fun _ _ _ h => h) K ?_
    simp only [Act.put, List.setIfInBounds_toArray, List.set_cons_zero, List.set_cons_succ]
    refine readH (i := 25) (some 73) rfl (.string (txt (len) (z))) rfl rfl (fun w' h => conv_txt 22 5 9 _ rfl Tryd.underlying22 Tryd.underlying5 Tryd.underlying9 (sp) (len) (cap) (z) rfl w' (h.four) (Src.none (h.four))) (by kernel_rfl) (by kernel_rfl) (by kernel_rfl) (fun _ _ _ h => h) K ?_
    simp only [Act.put, List.setIfInBounds_toArray, List.set_cons_zero, List.set_cons_succ]
    refine pureH (i := 26) (some 74) rfl (.bool true) rfl rfl (fun w => eqlS _ _ _ _ _ _ rfl rfl rfl rfl w) (by kernel_rfl) (by kernel_rfl) (by kernel_rfl) (fun _ _ _ h => h) K ?_
    simp only [Act.put, List.setIfInBounds_toArray, List.set_cons_zero, List.set_cons_succ]
    refine pureH (i := 27) (some 75) rfl (.bool true) rfl rfl (fun _ => by kernel_rfl) (by kernel_rfl) (by kernel_rfl) (by kernel_rfl) (fun _ _ _ h => h) K ?_
    simp only [Act.put, List.setIfInBounds_toArray, List.set_cons_zero, List.set_cons_succ]
    refine pureH (i := 28) (some 6) rfl (.bool true) rfl rfl (fun _ => by kernel_rfl) (by kernel_rfl) (by kernel_rfl) (by kernel_rfl) (fun _ _ _ h => h) K ?_
    simp only [Act.put, List.setIfInBounds_toArray, List.set_cons_zero, List.set_cons_succ]
    refine wpAnyH_done (by kernel_rfl) ?_ _
    have hB := K.below
    clear K hcut
    go_wp2
    go_ret
    exact ⟨rfl, hB⟩
end Go.Proofs.YtcdbkbcfjdpdoaaDoor
