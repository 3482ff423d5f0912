/- Texts of Fs Opn Open14, joined. -/
import Derived.Test.YtglnmmajgedinaaP3WindowOrder
import Derived.WalkMore
import Derived.Test.YtglnmmajgedinaaP1WindowOrder
import Derived.ProofKit
import Derived.LaidMore
import Derived.OpenShut
import Derived.SizedLaws
import Derived.Deep.Strs
import Derived.Stop.Joined
import Derived.Test.YtglnmmajgedinaaRows
import Derived.JoinedCond
import Derived.Carry
set_option maxRecDepth 20000
set_option maxHeartbeats 64000000
namespace Go.Proofs.Ytglnmmajgedinaa
open Go.RowKit
theorem row_form {w : World} {base : Nat} {e : TypeId} {size n : Nat} {xs : List Value} {v : Value} (h : w.ownsRow base e size v n xs) : ∃ sp cap, v = .slice sp n cap ∧ n ≤ cap ∧ (sp = none → cap = 0) := by
  rcases h.2 with ⟨rfl, rfl⟩ | ⟨g, cap, cur, rfl, _, _, hc, _⟩
  · exact ⟨none, 0, rfl, Nat.le_refl _, fun _ => rfl⟩
  · exact ⟨_, cap, rfl, hc, fun e => by cases e⟩
theorem vrev_any (w1 w : World) (fl : List (Int × Int)) (v : Value) (hfl : fl.length ≤ 1099511627776) (hb : Below w1.heap.size w1 w) (V : w.ownsRow w1.heap.size 36 2 v fl.length (wrc fl)) :
    Calls Try.prog 26 #[v] w fun e w' => e = .returned (.tuple #[]) ∧ NewW w' w1.heap.size fl.reverse v ∧ Below w1.heap.size w1 w' := by
  rcases V.2 with ⟨rfl, h0⟩ | ⟨g, cap, cur, rfl, hg, _, hc, _⟩
  · obtain rfl : fl = [] := List.eq_nil_of_length_eq_zero h0
    refine (vreverse_nil w).mono ?_
    rintro e w' ⟨rfl, l⟩
    exact ⟨rfl, ⟨none, 0, rfl, Nat.le_refl _, fun _ => rfl, fun j u hu => (by cases hu), fun a e => (by cases e)⟩, hb.trans (l.mono hb.size)⟩
  · have M : Mm w1 [(g, wrc fl)] w := Mm.ofRow (Mm.of hb) V rfl (Nat.le_refl _) (fun p hp => by cases hp)
    refine (vreverse_any w1 w g cap fl hfl M).mono ?_
    rintro e w' ⟨rfl, N⟩
    exact ⟨rfl, ⟨some ⟨g, 0, none⟩, cap, by rw [List.length_reverse], by rw [List.length_reverse]; exact hc, fun e => (by cases e), fun j u hu => ⟨_, rfl, N.rangeAt mS j u hu⟩, fun a e => by cases e; exact ⟨N.lo mS, N.lt mS⟩⟩, N.below⟩
theorem wbl_skip {L : List Int} {most : Int} {k : Nat} {l : List (Int × Int)} {last : Int} (h : wnx L last = wnx L (last - 1)) : wbl L most k l last = wbl L most k l (last - 1) := by
  cases k with
  | zero => rfl
  | succ k => unfold wbl; rw [h]
theorem wrc_last (t : List (Int × Int)) (a b : Int) : (wrc (((a, b) :: t).reverse))[t.length * 2]? = some (.int .i64 a) := by
  rw [List.reverse_cons, wrc_app, List.getElem?_append_right (by rw [wrc_len, List.length_reverse]; exact Nat.le_refl _), wrc_len, List.length_reverse, Nat.sub_self]
  rfl
theorem wrc_wide (t : List (Int × Int)) (a b m : Int) : (wrc (((a, b) :: t).reverse)).set (t.length * 2) (.int .i64 m) = wrc (((m, b) :: t).reverse) := by
  rw [List.reverse_cons, List.reverse_cons, wrc_app, wrc_app, List.set_append_right _ _ (by rw [wrc_len, List.length_reverse]; exact Nat.le_refl _), wrc_len, List.length_reverse, Nat.sub_self]
  rfl
theorem vbelow14_any (w0 w : World) (R : Nat) (l : List (Nat × List Value)) (L : List Int) (W : Nat → Nat) (hL : WinL L) (hW : Wds W L) (most : Int) (M : Mm w0 ((R, wcv (wtop L) W) :: l) w) :
    Calls Try.prog 19 #[.pointer (some ⟨R, 0, none⟩), .int .i64 most] w fun e w' => (∃ u, e = .returned u ∧ NewW w' w.heap.size (wbel L most) u) ∧ Below w.heap.size w w' := by
  have hB := Below.refl w.heap.size w
  go_enter Try.func19, Try.ntmps19
  have hT1 := wtop_ge L
  have hT2 := wtop_max hL
  have hM0 := M.below.size
  have hML : ∀ p ∈ ((R, wcv (wtop L) W) :: l), p.1 < w.heap.size := fun p hp => (M.rows p hp).2.2
  go_upto_region 0 with fail
  refine wp_region_list ?_
  refine readL (.slice none 0 0) rfl (by kernel_rfl) ?_
  simp only [aP, lI, l0, lS]
  first | show Exit.then _ _ _ _ _ | show Exit.inBlock _ _ _ _ _
  go_wp2
  go_step3
  go_upto_region 1 with fail
  refine wp_region_list ?_
  refine readL (.slice none 0 0) rfl (by kernel_rfl) ?_
  simp only [aP, lI, l0, lS]
  first | show Exit.then _ _ _ _ _ | show Exit.inBlock _ _ _ _ _
  go_wp2
  go_step3
  go_upto_region 2 with fail
  refine wp_region_list ?_
  refine readL (.int .i64 0) rfl (by kernel_rfl) ?_
  simp only [aP, lI, l0, lS]
  first | show Exit.then _ _ _ _ _ | show Exit.inBlock _ _ _ _ _
  have HI := show Hid _ from (And.intro M hB)
  clear M hB
  go_wp2
  go_loopw [5, 9] (fun fv i w' => ∃ (j k : Nat) (rl : List (Int × Int)) (v : Value), j ≤ 1023 ∧ i = .int .i64 (j : Int) ∧ rl.length ≤ j ∧ wlt L (wtop L - (j : Int)) < k ∧ wbl L most k rl (wtop L - (j : Int)) = wbel L most ∧ v = fv ∧ w'.ownsRow w.heap.size 36 2 v rl.length (wrc rl.reverse) ∧ Mm w0 ((R, wcv (wtop L) W) :: l) w' ∧ Below w.heap.size w w') (fun _ i _ => 1023 - (intOf i).toNat)
  case atStart => exact ⟨0, L.length + 1, [], .slice none 0 0, Nat.zero_le _, rfl, Nat.le_refl _, by have := wlt_le L (wtop L - ((0 : Nat) : Int)); omega, by rw [show wtop L - ((0 : Nat) : Int) = wtop L by omega]; rfl, rfl, World.ownsRow_nil _ _ _ _, HI.out⟩
  case round =>
    clear HI
    obtain ⟨j, k, rl, v, hj, rfl, hrl, hk, hbel, rfl, V, M, hB⟩ := hrel
    replace hbel := show Hid _ from hbel
    obtain ⟨sp, cap, rfl, hcap, hnil⟩ := row_form V
    by_cases hlt : j < 1023
    · obtain ⟨m, hm⟩ : ∃ m : Int, m = wtop L - (j : Int) - 1 := ⟨_, rfl⟩
      have hlt1 : wtop L - ((j + 1 : Nat) : Int) = m := by omega
      obtain ⟨k, rfl⟩ : ∃ k', k = k' + 1 := ⟨k - 1, by omega⟩
      by_cases hi : m ∈ L
      · go_upto_region 3 with fail
        refine wp_region_list ?_
        refine readL (.bool true) rfl (lssI .i64 _ _ _ _ _ _ rfl rfl rfl true (decide_eq_true (by omega)) _) ?_
        simp only [aP, lI, l0, lS]
        first | show Exit.then _ _ _ _ _ | show Exit.inBlock _ _ _ _ _
        go_upto_region 4 with fail
        refine wp_region_list ?_
        refine readL (.int .i64 (j : Int)) rfl (by kernel_rfl) ?_
        simp only [aP, lI, l0, lS]
        refine readL (.int .i64 (j : Int)) rfl (by kernel_rfl) ?_
        simp only [aP, lI, l0, lS]
        first | show Exit.then _ _ _ _ _ | show Exit.inBlock _ _ _ _ _
        go_upto_region 5 with fail
        refine wp_region_list ?_
        refine readL (.pointer (some ⟨R, 0, none⟩)) rfl (by kernel_rfl) ?_
        simp only [aP, lI, l0, lS]
        refine callL rfl (fun _ => by kernel_rfl) (vtop14_any w0 _ R _ (wtop L) W hT1 hT2 M) ?_
        rintro e w4 ⟨rfl, l1⟩
        replace M := M.call l1
        replace hB := hB.trans (l1.mono hB.size)
        replace V := ownsRow_low (X := []) V (Off.of_below l1) (fun _ h => by cases h)
        clear l1
        refine ⟨_, rfl, ?_⟩
        simp only [aP, lI, l0, lS]
        refine readL (.int .i64 ((wtop L) - 1)) rfl (subI .i64 _ _ _ _ _ _ _ rfl rfl rfl (by rw [IntKind.wrap_i64]; omega) _) ?_
        simp only [aP, lI, l0, lS]
        refine readL (.int .i64 (j : Int)) rfl (by kernel_rfl) ?_
        simp only [aP, lI, l0, lS]
        refine readL (.int .i64 m) rfl (subI .i64 _ _ _ _ _ _ _ rfl rfl rfl (by rw [IntKind.wrap_i64]; omega) _) ?_
        simp only [aP, lI, l0, lS]
        refine readL (.int .i64 m) rfl (by kernel_rfl) ?_
        simp only [aP, lI, l0, lS]
        first | show Exit.then _ _ _ _ _ | show Exit.inBlock _ _ _ _ _
        go_upto_region 6 with fail
        refine wp_region_list ?_
        refine readL (.slice sp rl.length cap) rfl (by kernel_rfl) ?_
        simp only [aP, lI, l0, lS]
        refine readL (.int .i64 ((rl.length : Nat) : Int)) rfl (lenS _ 33 36 sp rl.length cap rfl Try.underlying33 rfl _) ?_
        simp only [aP, lI, l0, lS]
        refine readL (.int .i64 (((rl.length : Nat) : Int) - 1)) rfl (subI .i64 _ _ _ _ _ _ _ rfl rfl rfl (by rw [IntKind.wrap_i64]; omega) _) ?_
        simp only [aP, lI, l0, lS]
        refine readL (.int .i64 (((rl.length : Nat) : Int) - 1)) rfl (by kernel_rfl) ?_
        simp only [aP, lI, l0, lS]
        first | show Exit.then _ _ _ _ _ | show Exit.inBlock _ _ _ _ _
        go_upto_region 8 with fail
        refine wp_region_list ?_
        refine readL (.pointer (some ⟨R, 0, none⟩)) rfl (by kernel_rfl) ?_
        simp only [aP, lI, l0, lS]
        refine readL (.int .i64 m) rfl (by kernel_rfl) ?_
        simp only [aP, lI, l0, lS]
        refine callL rfl (fun _ => by kernel_rfl) (vmarked_any w0 _ R _ (wtop L) W hT1 hT2 hW.lt m (j + 1) (by omega) (by omega) true ((hW.at (show wtop L - m = ((j + 1 : Nat) : Int) by omega) (by omega)).trans (decide_eq_true hi)) M) ?_
        rintro e w5 ⟨rfl, l1⟩
        replace M := M.call l1
        replace hB := hB.trans (l1.mono hB.size)
        replace V := ownsRow_low (X := []) V (Off.of_below l1) (fun _ h => by cases h)
        clear l1
        refine ⟨_, rfl, ?_⟩
        simp only [aP, lI, l0, lS]
        refine readL (.bool false) rfl (by kernel_rfl) ?_
        simp only [aP, lI, l0, lS]
        refine readL (.bool false) rfl (by kernel_rfl) ?_
        simp only [aP, lI, l0, lS]
        first | show Exit.then _ _ _ _ _ | show Exit.inBlock _ _ _ _ _
        have hm0 := hL.ge _ hi
        have hnx : wnx L (wtop L - (j : Int)) = m := by rw [wnx_hit hL (by rw [← hm]; exact hi) (by omega), ← hm]
        have hn : ¬ wnx L (wtop L - (j : Int)) < 0 := by rw [hnx]; omega
        have hwl := wlt_lt (show m < wtop L - (j : Int) by omega) hi
        have hT3 := wtop_le hi
        by_cases h0 : rl.length = 0
        · obtain rfl : rl = [] := List.eq_nil_of_length_eq_zero h0
          go_upto_region 9 with fail
          refine wp_region_list ?_
          refine readL (.int .i64 (((([] : List (Int × Int)).length : Nat) : Int) - 1)) rfl (by kernel_rfl) ?_
          simp only [aP, lI, l0, lS]
          refine readL (.bool false) rfl (geqI .i64 _ _ _ _ _ _ rfl rfl rfl false (decide_eq_false (by rw [List.length_nil]; omega)) _) ?_
          simp only [aP, lI, l0, lS]
          refine readL (.bool false) rfl (by kernel_rfl) ?_
          simp only [aP, lI, l0, lS]
          with_reducible refine skipL ?_ ?_
          · rfl
          simp only [aP, lI, l0, lS]
          with_reducible refine skipL ?_ ?_
          · rfl
          simp only [aP, lI, l0, lS]
          with_reducible refine skipL ?_ ?_
          · rfl
          simp only [aP, lI, l0, lS]
          with_reducible refine skipL ?_ ?_
          · rfl
          simp only [aP, lI, l0, lS]
          with_reducible refine skipL ?_ ?_
          · rfl
          simp only [aP, lI, l0, lS]
          with_reducible refine skipL ?_ ?_
          · rfl
          simp only [aP, lI, l0, lS]
          with_reducible refine skipL ?_ ?_
          · rfl
          simp only [aP, lI, l0, lS]
          with_reducible refine skipL ?_ ?_
          · rfl
          simp only [aP, lI, l0, lS]
          refine readL (.bool false) rfl (by kernel_rfl) ?_
          simp only [aP, lI, l0, lS]
          refine readL (.bool false) rfl (by kernel_rfl) ?_
          simp only [aP, lI, l0, lS]
          first | show Exit.then _ _ _ _ _ | show Exit.inBlock _ _ _ _ _
          by_cases hmo : most ≤ 0
          · go_upto_region 11 with fail
            refine wp_region_list ?_
            refine readL (.slice sp (([] : List (Int × Int)).length) cap) rfl (by kernel_rfl) ?_
            simp only [aP, lI, l0, lS]
            refine readL (.int .i64 ((([] : List (Int × Int)).length : Nat) : Int)) rfl (lenS _ 33 36 sp (([] : List (Int × Int)).length) cap rfl Try.underlying33 rfl _) ?_
            simp only [aP, lI, l0, lS]
            refine readL (.int .i64 most) rfl (by kernel_rfl) ?_
            simp only [aP, lI, l0, lS]
            refine readL (.bool true) rfl (geqI .i64 _ _ _ _ _ _ rfl rfl rfl true (decide_eq_true (by rw [List.length_nil]; omega)) _) ?_
            simp only [aP, lI, l0, lS]
            refine readL (.bool true) rfl (by kernel_rfl) ?_
            simp only [aP, lI, l0, lS]
            first | show Exit.then _ _ _ _ _ | show Exit.inBlock _ _ _ _ _
            go_upto_region 13 with fail
            refine wp_region_list ?_
            refine readL (.slice sp (([] : List (Int × Int)).length) cap) rfl (by kernel_rfl) ?_
            simp only [aP, lI, l0, lS]
            refine callL rfl (fun _ => by kernel_rfl) (vrev_any w _ ([] : List (Int × Int)).reverse _ (by rw [List.length_reverse]; omega) hB (by rw [List.length_reverse]; exact V)) ?_
            rintro e w6 ⟨rfl, N, hB'⟩
            clear M hB V
            refine ⟨_, rfl, ?_⟩
            simp only [aP, lI, l0, lS]
            first | show Exit.then _ _ _ _ _ | show Exit.inBlock _ _ _ _ _
            go_upto_region 14 with fail
            refine wp_region_list ?_
            refine readL (.slice sp (([] : List (Int × Int)).length) cap) rfl (by kernel_rfl) ?_
            simp only [aP, lI, l0, lS]
            refine readL (.slice sp (([] : List (Int × Int)).length) cap) rfl (by kernel_rfl) ?_
            simp only [aP, lI, l0, lS]
            first | show Exit.then _ _ _ _ _ | show Exit.inBlock _ _ _ _ _
            have hE := show Hid _ from (hbel.out.symm.trans (wbl_full hn (wput_nilfull hmo)))
            rw [List.reverse_reverse] at N
            have HS := show Hid _ from (And.intro N hB')
            clear N hB' hW hL
            go_wp2
            try rw [Exit.noGoto_ret]
            go_ret
            exact ⟨⟨_, rfl, by rw [hE.out]; exact HS.out.1⟩, HS.out.2⟩
          · go_upto_region 11 with fail
            refine wp_region_list ?_
            refine readL (.slice sp (([] : List (Int × Int)).length) cap) rfl (by kernel_rfl) ?_
            simp only [aP, lI, l0, lS]
            refine readL (.int .i64 ((([] : List (Int × Int)).length : Nat) : Int)) rfl (lenS _ 33 36 sp (([] : List (Int × Int)).length) cap rfl Try.underlying33 rfl _) ?_
            simp only [aP, lI, l0, lS]
            refine readL (.int .i64 most) rfl (by kernel_rfl) ?_
            simp only [aP, lI, l0, lS]
            refine readL (.bool false) rfl (geqI .i64 _ _ _ _ _ _ rfl rfl rfl false (decide_eq_false (by rw [List.length_nil]; omega)) _) ?_
            simp only [aP, lI, l0, lS]
            refine readL (.bool false) rfl (by kernel_rfl) ?_
            simp only [aP, lI, l0, lS]
            first | show Exit.then _ _ _ _ _ | show Exit.inBlock _ _ _ _ _
            go_upto_region 7 with fail
            refine wp_region_list ?_
            refine readL (.slice sp (([] : List (Int × Int)).length) cap) rfl (by kernel_rfl) ?_
            simp only [aP, lI, l0, lS]
            refine readL (.int .i64 m) rfl (by kernel_rfl) ?_
            simp only [aP, lI, l0, lS]
            refine readL (.int .i64 m) rfl (by kernel_rfl) ?_
            simp only [aP, lI, l0, lS]
            refine readL (.int .i64 (m + 1)) rfl (addI .i64 _ _ _ _ _ _ _ rfl rfl rfl (by rw [IntKind.wrap_i64]; omega) _) ?_
            simp only [aP, lI, l0, lS]
            refine readL (.agg #[.int .i64 m, .int .i64 (m + 1)]) rfl (by kernel_rfl) ?_
            simp only [aP, lI, l0, lS]
            have S_1 := World.ownsRow.cells (row_lit w5 w5.heap.size m (m + 1) (Nat.le_refl _)) (g := w5.heap.size) rfl
            have hlb := (Below.refl w5.heap.size w5).alloc (Nat.le_refl _) (.cells #[.int .i64 m, .int .i64 (m + 1)] 36)
            refine actL (w' := w5.alloc (.cells #[.int .i64 m, .int .i64 (m + 1)] 36)) (.slice (some ⟨w5.heap.size, 0, none⟩) 1 1) rfl (by kernel_rfl) ?_
            simp only [aP, lI, l0, lS]
            replace M := M.call hlb
            replace hB := hB.trans (hlb.mono hB.size)
            replace V := ownsRow_low (X := []) V (Off.of_below hlb) (fun _ h => by cases h)
            clear hlb
            generalize w5.alloc (.cells #[.int .i64 m, .int .i64 (m + 1)] 36) = w7 at M hB V S_1 ⊢
            generalize w5.heap.size = bz at S_1 ⊢
            obtain ⟨v2, w8, hr, V2, hgr, hg2⟩ := run_append_OwnV (P := Try.prog) (ty := 33) Try.underlying33 manyW rfl (by decide) V ⟨bz, 0, none⟩ 1 1 [.int .i64 m, .int .i64 (m + 1)] rfl S_1 (wrc_one [(m, m + 1)]) (by unfold maxLen; omega) (by omega) hB.size
            have hlo : ∀ b_, (.slice sp (([] : List (Int × Int)).length) cap : Value).ownBlock = some b_ → w.heap.size ≤ b_ := fun b_ hb_ => (World.ownsRow.lt V b_ hb_).1
            replace M := M.grown hgr w.heap.size hML hM0 hB.size hlo
            replace hB := Below.grown hB hgr hB.size hlo
            refine actL v2 rfl (appendOp _ _ 33 _ _ _ rfl rfl rfl hr) ?_
            simp only [aP, lI, l0, lS]
            replace V2 : w8.ownsRow w.heap.size 36 2 v2 ((m, m + 1) :: []).length (wrc (((m, m + 1) :: []).reverse)) := by rw [List.reverse_cons, wrc_app]; exact V2
            clear hr hgr hg2 V S_1 hlo
            refine readL (v2) rfl (by kernel_rfl) ?_
            simp only [aP, lI, l0, lS]
            first | show Exit.then _ _ _ _ _ | show Exit.inBlock _ _ _ _ _
            have hk2 := show Hid _ from ((by have h_ := (wbl_more (k := k) hn (by rw [hnx]; exact wput_nil (nx := m) hmo)).symm.trans hbel.out; rw [hnx] at h_; exact h_ : wbl L most k [(m, m + 1)] m = wbel L most))
            have HS := show Hid _ from (And.intro V2 (And.intro M hB))
            clear M hB V2 hW hL
            go_wp2
            go_roundw
            case rel => exact ⟨j + 1, k, [(m, m + 1)], _, by omega, by go_num, by simp only [List.length_cons, List.length_nil]; omega, by rw [hlt1]; omega, by rw [hlt1]; exact hk2.out, rfl, HS.out⟩
            case measure => simp [intOf]; omega
        · obtain ⟨⟨a, b⟩, t, rfl⟩ := List.exists_cons_of_ne_nil (fun e => h0 (by rw [e]; rfl) : rl ≠ [])
          obtain ⟨g, cap2, e_, _⟩ := row_slice V (by rw [List.length_cons]; omega)
          injection e_ with e1_ e2_ e3_
          subst e1_
          subst e3_
          clear e2_
          have hlast : (((((a, b) :: t).length : Nat) : Int) - 1) = ((t.length : Nat) : Int) := by rw [List.length_cons]; omega
          rw [hlast]
          have htl : t.length + 1 ≤ j := hrl
          by_cases ha : a = m + 1
          · go_upto_region 9 with fail
            refine wp_region_list ?_
            refine readL (.int .i64 ((t.length : Nat) : Int)) rfl (by kernel_rfl) ?_
            simp only [aP, lI, l0, lS]
            refine readL (.bool true) rfl (geqI .i64 _ _ _ _ _ _ rfl rfl rfl true (decide_eq_true (by omega)) _) ?_
            simp only [aP, lI, l0, lS]
            refine readL (.bool true) rfl (by kernel_rfl) ?_
            simp only [aP, lI, l0, lS]
            refine readL (.slice (some ⟨g, 0, none⟩) (((a, b) :: t).length) cap) rfl (by kernel_rfl) ?_
            simp only [aP, lI, l0, lS]
            refine readL (.int .i64 ((t.length : Nat) : Int)) rfl (by kernel_rfl) ?_
            simp only [aP, lI, l0, lS]
            refine readL (.pointer (some ⟨g, t.length * 2, none⟩)) rfl (idxRg g _ _ t.length (by rw [List.length_cons]; omega) _ _ rfl rfl rfl _) ?_
            simp only [aP, lI, l0, lS]
            refine readL (.pointer (some ⟨g, t.length * 2, none⟩)) rfl (by kernel_rfl) ?_
            simp only [aP, lI, l0, lS]
            refine readL (.int .i64 a) rfl (load1 3 _ ⟨g, t.length * 2, none⟩ _ rfl rfl (fun _ => by kernel_rfl) (by have h_ := World.ownsRow.cells V (g := g) rfl _ _ (wrc_last t a b); rw [Addr.add_mid, Nat.zero_add] at h_; exact h_)) ?_
            simp only [aP, lI, l0, lS]
            refine readL (.int .i64 m) rfl (by kernel_rfl) ?_
            simp only [aP, lI, l0, lS]
            refine readL (.int .i64 (m + 1)) rfl (addI .i64 _ _ _ _ _ _ _ rfl rfl rfl (by rw [IntKind.wrap_i64]; omega) _) ?_
            simp only [aP, lI, l0, lS]
            refine readL (.bool true) rfl (eqlI .i64 _ _ _ _ _ _ rfl rfl rfl true (by rw [beq_iff_eq]; exact ha) _) ?_
            simp only [aP, lI, l0, lS]
            refine readL (.bool true) rfl (by kernel_rfl) ?_
            simp only [aP, lI, l0, lS]
            refine readL (.bool true) rfl (by kernel_rfl) ?_
            simp only [aP, lI, l0, lS]
            first | show Exit.then _ _ _ _ _ | show Exit.inBlock _ _ _ _ _
            go_upto_region 10 with fail
            refine wp_region_list ?_
            refine readL (.slice (some ⟨g, 0, none⟩) (((a, b) :: t).length) cap) rfl (by kernel_rfl) ?_
            simp only [aP, lI, l0, lS]
            refine readL (.int .i64 ((t.length : Nat) : Int)) rfl (by kernel_rfl) ?_
            simp only [aP, lI, l0, lS]
            refine readL (.int .i64 m) rfl (by kernel_rfl) ?_
            simp only [aP, lI, l0, lS]
            refine readL (.pointer (some ⟨g, t.length * 2, none⟩)) rfl (idxRg g _ _ t.length (by rw [List.length_cons]; omega) _ _ rfl rfl rfl _) ?_
            simp only [aP, lI, l0, lS]
            refine readL (.pointer (some ⟨g, t.length * 2, none⟩)) rfl (by kernel_rfl) ?_
            simp only [aP, lI, l0, lS]
            have hgw := (World.ownsRow.lt V g rfl).1
            refine skipOpL rfl (storeAny (.int .i64 m) g (t.length * 2) 3 _ _ rfl rfl rfl rfl rfl (by have h_ := World.ownsRow.cells V (g := g) rfl _ _ (wrc_last t a b); rw [Addr.add_mid, Nat.zero_add] at h_; rw [h_]; rfl) (World.ownsRow.frozenAt V _) (by kernel_rfl)) ?_
            simp only [Act.put]
            obtain ⟨V2, hgr⟩ := World.ownsRow.stored V (t.length * 2) (.int .i64 m)
            rw [wrc_wide] at V2
            replace M := M.grown hgr w.heap.size hML hM0 hB.size (fun b_ hb_ => by cases hb_; exact hgw)
            replace hB := Below.grown hB hgr hB.size (fun b_ hb_ => by cases hb_; exact hgw)
            clear V hgr
            generalize w5.setCell ⟨g, t.length * 2, none⟩ (.int .i64 m) = w9 at M hB V2 ⊢
            first | show Exit.then _ _ _ _ _ | show Exit.inBlock _ _ _ _ _
            have hk2 := show Hid _ from ((by have h_ := (wbl_more (k := k) hn (by rw [hnx]; exact wput_wide (most := most) (b := b) (t := t) ha)).symm.trans hbel.out; rw [hnx] at h_; exact h_ : wbl L most k ((m, b) :: t) m = wbel L most))
            have HS := show Hid _ from (And.intro V2 (And.intro M hB))
            clear M hB V2 hW hL
            go_wp2
            go_roundw
            case rel => exact ⟨j + 1, k, ((m, b) :: t), _, by omega, by go_num, by rw [List.length_cons]; omega, by rw [hlt1]; omega, by rw [hlt1]; exact hk2.out, rfl, HS.out⟩
            case measure => simp [intOf]; omega
          · go_upto_region 9 with fail
            refine wp_region_list ?_
            refine readL (.int .i64 ((t.length : Nat) : Int)) rfl (by kernel_rfl) ?_
            simp only [aP, lI, l0, lS]
            refine readL (.bool true) rfl (geqI .i64 _ _ _ _ _ _ rfl rfl rfl true (decide_eq_true (by omega)) _) ?_
            simp only [aP, lI, l0, lS]
            refine readL (.bool true) rfl (by kernel_rfl) ?_
            simp only [aP, lI, l0, lS]
            refine readL (.slice (some ⟨g, 0, none⟩) (((a, b) :: t).length) cap) rfl (by kernel_rfl) ?_
            simp only [aP, lI, l0, lS]
            refine readL (.int .i64 ((t.length : Nat) : Int)) rfl (by kernel_rfl) ?_
            simp only [aP, lI, l0, lS]
            refine readL (.pointer (some ⟨g, t.length * 2, none⟩)) rfl (idxRg g _ _ t.length (by rw [List.length_cons]; omega) _ _ rfl rfl rfl _) ?_
            simp only [aP, lI, l0, lS]
            refine readL (.pointer (some ⟨g, t.length * 2, none⟩)) rfl (by kernel_rfl) ?_
            simp only [aP, lI, l0, lS]
            refine readL (.int .i64 a) rfl (load1 3 _ ⟨g, t.length * 2, none⟩ _ rfl rfl (fun _ => by kernel_rfl) (by have h_ := World.ownsRow.cells V (g := g) rfl _ _ (wrc_last t a b); rw [Addr.add_mid, Nat.zero_add] at h_; exact h_)) ?_
            simp only [aP, lI, l0, lS]
            refine readL (.int .i64 m) rfl (by kernel_rfl) ?_
            simp only [aP, lI, l0, lS]
            refine readL (.int .i64 (m + 1)) rfl (addI .i64 _ _ _ _ _ _ _ rfl rfl rfl (by rw [IntKind.wrap_i64]; omega) _) ?_
            simp only [aP, lI, l0, lS]
            refine readL (.bool false) rfl (eqlI .i64 _ _ _ _ _ _ rfl rfl rfl false (by rw [beq_eq_false_iff_ne]; exact ha) _) ?_
            simp only [aP, lI, l0, lS]
            refine readL (.bool false) rfl (by kernel_rfl) ?_
            simp only [aP, lI, l0, lS]
            refine readL (.bool false) rfl (by kernel_rfl) ?_
            simp only [aP, lI, l0, lS]
            first | show Exit.then _ _ _ _ _ | show Exit.inBlock _ _ _ _ _
            by_cases hmo : most ≤ (((a, b) :: t).length : Int)
            · go_upto_region 11 with fail
              refine wp_region_list ?_
              refine readL (.slice (some ⟨g, 0, none⟩) (((a, b) :: t).length) cap) rfl (by kernel_rfl) ?_
              simp only [aP, lI, l0, lS]
              refine readL (.int .i64 ((((a, b) :: t).length : Nat) : Int)) rfl (lenS _ 33 36 (some ⟨g, 0, none⟩) (((a, b) :: t).length) cap rfl Try.underlying33 rfl _) ?_
              simp only [aP, lI, l0, lS]
              refine readL (.int .i64 most) rfl (by kernel_rfl) ?_
              simp only [aP, lI, l0, lS]
              refine readL (.bool true) rfl (geqI .i64 _ _ _ _ _ _ rfl rfl rfl true (decide_eq_true (hmo)) _) ?_
              simp only [aP, lI, l0, lS]
              refine readL (.bool true) rfl (by kernel_rfl) ?_
              simp only [aP, lI, l0, lS]
              first | show Exit.then _ _ _ _ _ | show Exit.inBlock _ _ _ _ _
              go_upto_region 13 with fail
              refine wp_region_list ?_
              refine readL (.slice (some ⟨g, 0, none⟩) (((a, b) :: t).length) cap) rfl (by kernel_rfl) ?_
              simp only [aP, lI, l0, lS]
              refine callL rfl (fun _ => by kernel_rfl) (vrev_any w _ ((a, b) :: t).reverse _ (by rw [List.length_reverse]; omega) hB (by rw [List.length_reverse]; exact V)) ?_
              rintro e w10 ⟨rfl, N, hB'⟩
              clear M hB V
              refine ⟨_, rfl, ?_⟩
              simp only [aP, lI, l0, lS]
              first | show Exit.then _ _ _ _ _ | show Exit.inBlock _ _ _ _ _
              go_upto_region 14 with fail
              refine wp_region_list ?_
              refine readL (.slice (some ⟨g, 0, none⟩) (((a, b) :: t).length) cap) rfl (by kernel_rfl) ?_
              simp only [aP, lI, l0, lS]
              refine readL (.slice (some ⟨g, 0, none⟩) (((a, b) :: t).length) cap) rfl (by kernel_rfl) ?_
              simp only [aP, lI, l0, lS]
              first | show Exit.then _ _ _ _ _ | show Exit.inBlock _ _ _ _ _
              have hE := show Hid _ from (hbel.out.symm.trans (wbl_full hn (by rw [hnx]; exact wput_full ha hmo)))
              rw [List.reverse_reverse] at N
              have HS := show Hid _ from (And.intro N hB')
              clear N hB' hW hL
              go_wp2
              try rw [Exit.noGoto_ret]
              go_ret
              exact ⟨⟨_, rfl, by rw [hE.out]; exact HS.out.1⟩, HS.out.2⟩
            · go_upto_region 11 with fail
              refine wp_region_list ?_
              refine readL (.slice (some ⟨g, 0, none⟩) (((a, b) :: t).length) cap) rfl (by kernel_rfl) ?_
              simp only [aP, lI, l0, lS]
              refine readL (.int .i64 ((((a, b) :: t).length : Nat) : Int)) rfl (lenS _ 33 36 (some ⟨g, 0, none⟩) (((a, b) :: t).length) cap rfl Try.underlying33 rfl _) ?_
              simp only [aP, lI, l0, lS]
              refine readL (.int .i64 most) rfl (by kernel_rfl) ?_
              simp only [aP, lI, l0, lS]
              refine readL (.bool false) rfl (geqI .i64 _ _ _ _ _ _ rfl rfl rfl false (decide_eq_false (hmo)) _) ?_
              simp only [aP, lI, l0, lS]
              refine readL (.bool false) rfl (by kernel_rfl) ?_
              simp only [aP, lI, l0, lS]
              first | show Exit.then _ _ _ _ _ | show Exit.inBlock _ _ _ _ _
              go_upto_region 7 with fail
              refine wp_region_list ?_
              refine readL (.slice (some ⟨g, 0, none⟩) (((a, b) :: t).length) cap) rfl (by kernel_rfl) ?_
              simp only [aP, lI, l0, lS]
              refine readL (.int .i64 m) rfl (by kernel_rfl) ?_
              simp only [aP, lI, l0, lS]
              refine readL (.int .i64 m) rfl (by kernel_rfl) ?_
              simp only [aP, lI, l0, lS]
              refine readL (.int .i64 (m + 1)) rfl (addI .i64 _ _ _ _ _ _ _ rfl rfl rfl (by rw [IntKind.wrap_i64]; omega) _) ?_
              simp only [aP, lI, l0, lS]
              refine readL (.agg #[.int .i64 m, .int .i64 (m + 1)]) rfl (by kernel_rfl) ?_
              simp only [aP, lI, l0, lS]
              have S_1 := World.ownsRow.cells (row_lit w5 w5.heap.size m (m + 1) (Nat.le_refl _)) (g := w5.heap.size) rfl
              have hlb := (Below.refl w5.heap.size w5).alloc (Nat.le_refl _) (.cells #[.int .i64 m, .int .i64 (m + 1)] 36)
              refine actL (w' := w5.alloc (.cells #[.int .i64 m, .int .i64 (m + 1)] 36)) (.slice (some ⟨w5.heap.size, 0, none⟩) 1 1) rfl (by kernel_rfl) ?_
              simp only [aP, lI, l0, lS]
              replace M := M.call hlb
              replace hB := hB.trans (hlb.mono hB.size)
              replace V := ownsRow_low (X := []) V (Off.of_below hlb) (fun _ h => by cases h)
              clear hlb
              generalize w5.alloc (.cells #[.int .i64 m, .int .i64 (m + 1)] 36) = w11 at M hB V S_1 ⊢
              generalize w5.heap.size = bz at S_1 ⊢
              obtain ⟨v2, w12, hr, V2, hgr, hg2⟩ := run_append_OwnV (P := Try.prog) (ty := 33) Try.underlying33 manyW rfl (by decide) V ⟨bz, 0, none⟩ 1 1 [.int .i64 m, .int .i64 (m + 1)] rfl S_1 (wrc_one [(m, m + 1)]) (by unfold maxLen; omega) (by omega) hB.size
              have hlo : ∀ b_, (.slice (some ⟨g, 0, none⟩) (((a, b) :: t).length) cap : Value).ownBlock = some b_ → w.heap.size ≤ b_ := fun b_ hb_ => (World.ownsRow.lt V b_ hb_).1
              replace M := M.grown hgr w.heap.size hML hM0 hB.size hlo
              replace hB := Below.grown hB hgr hB.size hlo
              refine actL v2 rfl (appendOp _ _ 33 _ _ _ rfl rfl rfl hr) ?_
              simp only [aP, lI, l0, lS]
              replace V2 : w12.ownsRow w.heap.size 36 2 v2 ((m, m + 1) :: ((a, b) :: t)).length (wrc (((m, m + 1) :: ((a, b) :: t)).reverse)) := by rw [List.reverse_cons, wrc_app]; exact V2
              clear hr hgr hg2 V S_1 hlo
              refine readL (v2) rfl (by kernel_rfl) ?_
              simp only [aP, lI, l0, lS]
              first | show Exit.then _ _ _ _ _ | show Exit.inBlock _ _ _ _ _
              have hk2 := show Hid _ from ((by have h_ := (wbl_more (k := k) hn (by rw [hnx]; exact wput_new ha hmo)).symm.trans hbel.out; rw [hnx] at h_; exact h_ : wbl L most k ((m, m + 1) :: (a, b) :: t) m = wbel L most))
              have HS := show Hid _ from (And.intro V2 (And.intro M hB))
              clear M hB V2 hW hL
              go_wp2
              go_roundw
              case rel => exact ⟨j + 1, k, ((m, m + 1) :: (a, b) :: t), _, by omega, by go_num, by simp only [List.length_cons] at hrl ⊢; omega, by rw [hlt1]; omega, by rw [hlt1]; exact hk2.out, rfl, HS.out⟩
              case measure => simp [intOf]; omega
      · go_upto_region 3 with fail
        refine wp_region_list ?_
        refine readL (.bool true) rfl (lssI .i64 _ _ _ _ _ _ rfl rfl rfl true (decide_eq_true (by omega)) _) ?_
        simp only [aP, lI, l0, lS]
        first | show Exit.then _ _ _ _ _ | show Exit.inBlock _ _ _ _ _
        go_upto_region 4 with fail
        refine wp_region_list ?_
        refine readL (.int .i64 (j : Int)) rfl (by kernel_rfl) ?_
        simp only [aP, lI, l0, lS]
        refine readL (.int .i64 (j : Int)) rfl (by kernel_rfl) ?_
        simp only [aP, lI, l0, lS]
        first | show Exit.then _ _ _ _ _ | show Exit.inBlock _ _ _ _ _
        go_upto_region 5 with fail
        refine wp_region_list ?_
        refine readL (.pointer (some ⟨R, 0, none⟩)) rfl (by kernel_rfl) ?_
        simp only [aP, lI, l0, lS]
        refine callL rfl (fun _ => by kernel_rfl) (vtop14_any w0 _ R _ (wtop L) W hT1 hT2 M) ?_
        rintro e w2 ⟨rfl, l1⟩
        replace M := M.call l1
        replace hB := hB.trans (l1.mono hB.size)
        replace V := ownsRow_low (X := []) V (Off.of_below l1) (fun _ h => by cases h)
        clear l1
        refine ⟨_, rfl, ?_⟩
        simp only [aP, lI, l0, lS]
        refine readL (.int .i64 ((wtop L) - 1)) rfl (subI .i64 _ _ _ _ _ _ _ rfl rfl rfl (by rw [IntKind.wrap_i64]; omega) _) ?_
        simp only [aP, lI, l0, lS]
        refine readL (.int .i64 (j : Int)) rfl (by kernel_rfl) ?_
        simp only [aP, lI, l0, lS]
        refine readL (.int .i64 m) rfl (subI .i64 _ _ _ _ _ _ _ rfl rfl rfl (by rw [IntKind.wrap_i64]; omega) _) ?_
        simp only [aP, lI, l0, lS]
        refine readL (.int .i64 m) rfl (by kernel_rfl) ?_
        simp only [aP, lI, l0, lS]
        first | show Exit.then _ _ _ _ _ | show Exit.inBlock _ _ _ _ _
        go_upto_region 6 with fail
        refine wp_region_list ?_
        refine readL (.slice sp rl.length cap) rfl (by kernel_rfl) ?_
        simp only [aP, lI, l0, lS]
        refine readL (.int .i64 ((rl.length : Nat) : Int)) rfl (lenS _ 33 36 sp rl.length cap rfl Try.underlying33 rfl _) ?_
        simp only [aP, lI, l0, lS]
        refine readL (.int .i64 (((rl.length : Nat) : Int) - 1)) rfl (subI .i64 _ _ _ _ _ _ _ rfl rfl rfl (by rw [IntKind.wrap_i64]; omega) _) ?_
        simp only [aP, lI, l0, lS]
        refine readL (.int .i64 (((rl.length : Nat) : Int) - 1)) rfl (by kernel_rfl) ?_
        simp only [aP, lI, l0, lS]
        first | show Exit.then _ _ _ _ _ | show Exit.inBlock _ _ _ _ _
        go_upto_region 8 with fail
        refine wp_region_list ?_
        refine readL (.pointer (some ⟨R, 0, none⟩)) rfl (by kernel_rfl) ?_
        simp only [aP, lI, l0, lS]
        refine readL (.int .i64 m) rfl (by kernel_rfl) ?_
        simp only [aP, lI, l0, lS]
        refine callL rfl (fun _ => by kernel_rfl) (vmarked_any w0 _ R _ (wtop L) W hT1 hT2 hW.lt m (j + 1) (by omega) (by omega) false ((hW.at (show wtop L - m = ((j + 1 : Nat) : Int) by omega) (by omega)).trans (decide_eq_false hi)) M) ?_
        rintro e w3 ⟨rfl, l1⟩
        replace M := M.call l1
        replace hB := hB.trans (l1.mono hB.size)
        replace V := ownsRow_low (X := []) V (Off.of_below l1) (fun _ h => by cases h)
        clear l1
        refine ⟨_, rfl, ?_⟩
        simp only [aP, lI, l0, lS]
        refine readL (.bool true) rfl (by kernel_rfl) ?_
        simp only [aP, lI, l0, lS]
        refine readL (.bool true) rfl (by kernel_rfl) ?_
        simp only [aP, lI, l0, lS]
        first | show Exit.then _ _ _ _ _ | show Exit.inBlock _ _ _ _ _
        have hsk := wnx_skip (L := L) (last := wtop L - (j : Int)) (fun h => hi (by rw [hm]; exact h.1))
        rw [← hm] at hsk
        have hwl := wlt_mono (show m ≤ wtop L - (j : Int) by omega) L
        have hmm : m = wtop L - (j : Int) - 1 := hm
        have hk2 := show Hid _ from ((by rw [hm]; exact (wbl_skip (by rw [← hm]; exact hsk)).symm.trans hbel.out : wbl L most (k + 1) rl m = wbel L most))
        have HS := show Hid _ from (And.intro V (And.intro M hB))
        clear M hB V hW hL
        go_wp2
        go_roundw
        case rel => exact ⟨j + 1, k + 1, rl, _, by omega, by go_num, by omega, by rw [hlt1]; omega, by rw [hlt1]; exact hk2.out, rfl, HS.out⟩
        case measure => simp [intOf]; omega
    · obtain rfl : j = 1023 := by omega
      go_upto_region 3 with fail
      refine wp_region_list ?_
      refine readL (.bool false) rfl (lssI .i64 _ _ _ _ _ _ rfl rfl rfl false (decide_eq_false (by omega)) _) ?_
      simp only [aP, lI, l0, lS]
      first | show Exit.then _ _ _ _ _ | show Exit.inBlock _ _ _ _ _
      go_upto_region 13 with fail
      refine wp_region_list ?_
      refine readL (.slice sp rl.length cap) rfl (by kernel_rfl) ?_
      simp only [aP, lI, l0, lS]
      refine callL rfl (fun _ => by kernel_rfl) (vrev_any w _ rl.reverse _ (by rw [List.length_reverse]; omega) hB (by rw [List.length_reverse]; exact V)) ?_
      rintro e w1 ⟨rfl, N, hB'⟩
      clear M hB V
      refine ⟨_, rfl, ?_⟩
      simp only [aP, lI, l0, lS]
      first | show Exit.then _ _ _ _ _ | show Exit.inBlock _ _ _ _ _
      go_upto_region 14 with fail
      refine wp_region_list ?_
      refine readL (.slice sp rl.length cap) rfl (by kernel_rfl) ?_
      simp only [aP, lI, l0, lS]
      refine readL (.slice sp rl.length cap) rfl (by kernel_rfl) ?_
      simp only [aP, lI, l0, lS]
      first | show Exit.then _ _ _ _ _ | show Exit.inBlock _ _ _ _ _
      have hE := show Hid _ from (hbel.out.symm.trans (wbl_stop (wnx_end (.inl (by omega)) hL)))
      rw [List.reverse_reverse] at N
      have HS := show Hid _ from (And.intro N hB')
      clear N hB' hW hL
      go_wp2
      try rw [Exit.noGoto_ret]
      go_ret
      exact ⟨⟨_, rfl, by rw [hE.out]; exact HS.out.1⟩, HS.out.2⟩
theorem vwin_any : WinOK VI where
  ptr := fun v L bs h => by obtain ⟨R, W, rfl, _⟩ := h; exact ⟨R, rfl⟩
  new := fun w0 w l M => vnew14_any w0 w l M
  chk := fun w0 w v L bs l n hL hn h M => by
    obtain ⟨R, W, rfl, hW, rfl⟩ := h
    exact vcheck14_any w0 w R l L W hL hW n hn M
  mrk := fun w0 w v L bs l n hL _ hn h M => by
    obtain ⟨R, W, rfl, hW, rfl⟩ := h
    refine (vmark14_any w0 w R l L W hL hW n hn M).mono ?_
    rintro e w' ⟨rfl, V, hV, M', o1⟩
    exact ⟨rfl, [(R, wcv (wtop (wmk L n)) V)], ⟨R, V, rfl, hV, rfl⟩, fun p hp => by obtain rfl := List.mem_singleton.1 hp; exact .inl mS, M', o1⟩
  top := fun w0 w v L bs l hL h M => by
    obtain ⟨R, W, rfl, hW, rfl⟩ := h
    exact vtop14_any w0 w R l (wtop L) W (wtop_ge L) (wtop_max hL) M
  cnt := fun w0 w v L bs l hL h M => by
    obtain ⟨R, W, rfl, hW, rfl⟩ := h
    exact vcount_any w0 w R l L W hL hW M
  bel := fun w0 w v L bs l most hL _ h M => by
    obtain ⟨R, W, rfl, hW, rfl⟩ := h
    exact vbelow14_any w0 w R l L W hL hW most M
section
open Go.ChangeShapes Go.WideShapes Go.ChangeAt Go.WideMaps Go.WideElems Go.RowKit
section
variable {H : Type} {enc : TypeId × Value → H} {P : Program} {w : World} {base : Nat} {sp : Nat → Bool} {held : Bool}
end
theorem wf_i64 {n : Int} : (Lit.int .i64 n).wf = true ↔ -9223372036854775808 ≤ n ∧ n ≤ 9223372036854775807 := by
  simp [Lit.wf, IntKind.min, IntKind.max, IntKind.signed, IntKind.bits]
end
section
open Go.ChangeShapes Go.WideShapes Go.ChangeAt Go.WideMaps Go.WideElems Go.RowKit
theorem own : ownKnob Try.prog.godebug = none := by kernel_rfl
theorem cellsInt : Try.prog.cellsOf 3 = 1 := by kernel_rfl
theorem laidOut : laidOutB Try.prog = true := by kernel_rfl
structure Fit (H : Type) (Q : TypeId → DataW H → Prop) (m : Nat) : Prop where
  ints : ∀ a b, Q 22 (.slice a b) → a.length ≤ m
theorem i64_of {n : Int} (h : (Lit.int .i64 n).wf = true) : i64 n := by have := wf_i64.1 h; unfold i64; omega
def Wok {H : Type} (t : TypeId) (d : DataW H) : Prop := ∀ n ∈ d.weights Try.prog t, n ≤ reachBytes
theorem fitWok (H : Type) : Fit H Wok 140737488351232 where
  ints a b h := by
    have h1 := h ((a.length + b.length) * Try.prog.bytesOf 3) (by simp only [DataW.weights, Try.underlying22]; exact mS)
    rw [show Try.prog.bytesOf 3 = 8 by kernel_rfl] at h1
    simp only [reachBytes] at h1
    omega
section
variable {H : Type} {enc : TypeId × Value → H} {W : World} {Q : TypeId → DataW H → Prop} {m : Nat}
theorem again {t : TypeId} (hr : Try.prog.readableRec t = true) (hrow : t < Try.prog.types.size) {v : Value} {d : DataW H} {p : List MemPlace} (h : DataW.Trod enc Try.prog W 0 (fun _ => true) true t v d p) (W' : World) (hb : Below W.heap.size W W') : DataW.Trod enc Try.prog W' 0 (fun b => decide (b < W.heap.size)) true t v d p :=
  hb.trod laidOut hr hrow h (by obtain ⟨fuel, hf⟩ := h; exact fun x hx => DataW.trod_lt _ _ _ _ hf x hx)
theorem open_nums (F : Fit H Q m) {fuel : Nat} {cs : List Value} {x : DataW H × List MemPlace} (h : DataW.trod enc Try.prog W 0 (fun _ => true) true fuel 22 cs = some x) (hq : Q 22 x.1) :
    ∃ (sp : Option Addr) (cap : Nat) (l : List Int), cs = [.slice sp l.length cap] ∧ (SrcI W sp l.length (bl l) ∧ ∀ x ∈ l, i64 x) ∧ l.length ≤ cap ∧ (sp = none → cap = 0) ∧ l.length ≤ m := by
  rcases open_ints Try.underlying22 Try.underlying3 cellsInt h with ⟨rfl, rfl⟩ | ⟨ad, len, cap, zs, rfl, _, hle, hmax, hall, rfl, hcell, hwf⟩
  · exact ⟨none, 0, [], rfl, ⟨fun j hj => absurd hj (Nat.not_lt_zero j), fun x hx => (by cases hx)⟩, Nat.le_refl _, fun _ => rfl, Nat.zero_le _⟩
  · simp only [if_true] at hall
    have hm := F.ints _ _ hq
    simp only [lits, List.length_map, List.length_take] at hm
    have hl : (zs.take len).length = len := by rw [List.length_take]; omega
    refine ⟨some ad, cap, zs.take len, by rw [hl], ⟨fun j hj => ⟨ad, rfl, ?_⟩, fun y hy => i64_of (hwf y (List.mem_of_mem_take hy))⟩, by rw [hl]; exact hle, fun e => (by cases e), by rw [hl]; omega⟩
    rw [hl] at hj
    rw [bl_take _ _ _ hj]
    exact hcell j (by omega)
theorem arg_ints (F : Fit H Q m) {r : Reach} {b0 : Nat} {v : Value} {d : DataW H} {p : List MemPlace} (hv : Value.okWide Try.prog W r b0 22 v) (h : DataW.Trod enc Try.prog W 0 (fun _ => true) true 22 v d p) (hq : Q 22 d) :
    ∃ (sp : Option Addr) (cap : Nat) (l : List Int), v = .slice sp l.length cap ∧ (SrcI W sp l.length (bl l) ∧ ∀ x ∈ l, i64 x) ∧ l.length ≤ cap ∧ (sp = none → cap = 0) ∧ l.length ≤ m := by
  obtain ⟨sp, len, cap, rfl⟩ := okWide_slice Try.underlying22 hv
  obtain ⟨fuel, hf⟩ := h
  obtain ⟨sp', cap', l, h1, h2⟩ := open_nums F hf hq
  simp [Value.cells] at h1
  obtain ⟨rfl, rfl, rfl⟩ := h1
  exact ⟨_, _, l, rfl, h2⟩
end
end
end Go.Proofs.Ytglnmmajgedinaa
