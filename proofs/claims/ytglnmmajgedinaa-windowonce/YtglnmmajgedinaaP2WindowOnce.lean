/- Texts of LawWindowOnce Fl Fm Fn Fq Fo, joined. -/
import Derived.Test.YtglnmmajgedinaaP1WindowOnce
import Derived.Deep.Cut
set_option maxRecDepth 20000
set_option maxHeartbeats 64000000
namespace Go.Proofs.Ytglnmmajgedinaa
open Go.RowKit
theorem law_WindowOnce {I : Value → List Int → List (Nat × List Value) → Prop} (hK : WinOK I) (sp : Option Addr) (cap : Nat) (l : List Int) (_hnl : l.length ≤ 140737488351232) (_hcl : l.length ≤ cap) (hl : ∀ x ∈ l, i64 x) (w0 : World) (hs : SrcI w0 sp l.length (bl l)) :
    Calls Try.prog 4 #[.slice sp l.length cap] w0 fun e w' => e = .returned (.bool true) ∧ Below w0.heap.size w0 w' := by
  have M := Mm.init w0
  go_enter Try.func4, Try.ntmps4
  go_upto_region 0 with fail
  refine wp_region_list ?_
  refine readL (.bool false) rfl (by kernel_rfl) ?_
  simp only [aP, lI, l0, lS]
  first | show Exit.then _ _ _ _ _ | show Exit.inBlock _ _ _ _ _
  go_upto_region 1 with fail
  refine wp_region_list ?_
  refine callL rfl (fun _ => by kernel_rfl) (shown14_any hK _) ?_
  rintro e w1 ⟨rfl, l⟩
  replace M := M.call l
  clear l
  refine ⟨_, rfl, ?_⟩
  simp only [aP, lI, l0, lS]
  refine readL (.bool true) rfl (by kernel_rfl) ?_
  simp only [aP, lI, l0, lS]
  first | show Exit.then _ _ _ _ _ | show Exit.inBlock _ _ _ _ _
  go_upto_region 2 with fail
  refine wp_region_list ?_
  have key := hK.new w0 _ _ M
  refine callL rfl (fun _ => by kernel_rfl) key ?_
  clear key
  rintro e w2 ⟨v_, ba0, rfl, hIa, M', l⟩
  obtain ⟨Ra, rfl⟩ := hK.ptr _ _ _ hIa
  clear M
  have M := M'.perm (pull0 ([] : List (Nat × List Value)) ba0 ([] : List (Nat × List Value))).symm
  clear M'
  clear l
  replace M : Mm w0 ((ba0 ++ ([] : List (Nat × List Value)))) w2 := M
  refine ⟨_, rfl, ?_⟩
  simp only [aP, lI, l0, lS]
  refine readL (.pointer (some ⟨Ra, 0, none⟩)) rfl (by kernel_rfl) ?_
  simp only [aP, lI, l0, lS]
  first | show Exit.then _ _ _ _ _ | show Exit.inBlock _ _ _ _ _
  go_upto_region 3 with fail
  refine wp_region_list ?_
  refine readL (.bool true) rfl (by kernel_rfl) ?_
  simp only [aP, lI, l0, lS]
  refine readL (.bool false) rfl (by kernel_rfl) ?_
  simp only [aP, lI, l0, lS]
  refine readL (.bool false) rfl (by kernel_rfl) ?_
  simp only [aP, lI, l0, lS]
  refine readL (.pointer (some ⟨Ra, 0, none⟩)) rfl (by kernel_rfl) ?_
  simp only [aP, lI, l0, lS]
  refine readL (.bool false) rfl (by kernel_rfl) ?_
  simp only [aP, lI, l0, lS]
  refine readL (.bool false) rfl (by kernel_rfl) ?_
  simp only [aP, lI, l0, lS]
  first | show Exit.then _ _ _ _ _ | show Exit.inBlock _ _ _ _ _
  go_upto_region 5 with fail
  refine wp_region_list ?_
  refine readL (.int .i64 0) rfl (by kernel_rfl) ?_
  simp only [aP, lI, l0, lS]
  first | show Exit.then _ _ _ _ _ | show Exit.inBlock _ _ _ _ _
  have HI := show Hid _ from (show WinL ([] : List Int) ∧ (([] : List Int)).length ≤ 0 ∧ I (.pointer (some ⟨Ra, 0, none⟩)) ([] : List Int) ba0 ∧ Mm w0 (ba0 ++ ([] : List (Nat × List Value))) w2 ∧ ∀ j, j < 0 → ¬ wchk ([] : List Int) (bl l j) = 0 from ⟨winL_nil, Nat.le_refl _, hIa, M, fun j hj => absurd hj (Nat.not_lt_zero j)⟩)
  clear M hIa
  go_wp2
  go_loopw [5] (fun i w' => ∃ (q : Nat) (L : List Int) (bs : List (Nat × List Value)), q ≤ 300 ∧ q ≤ l.length ∧ i = .int .i64 (q : Int) ∧ WinL L ∧ (L).length ≤ q ∧ I (.pointer (some ⟨Ra, 0, none⟩)) L bs ∧ Mm w0 (bs ++ ([] : List (Nat × List Value))) w' ∧ ∀ j, j < q → ¬ wchk L (bl l j) = 0) (fun i _ => l.length - (intOf i).toNat)
  case atStart => exact ⟨0, _, _, by omega, by omega, rfl, HI.out⟩
  case round =>
    clear HI
    obtain ⟨q, L, bs, hq, hq2, rfl, hW, hLn, hIa, M, hall⟩ := hrel
    go_upto_region 6 with fail
    refine wp_region_list ?_
    refine readL (.int .i64 (q : Int)) rfl (by kernel_rfl) ?_
    simp only [aP, lI, l0, lS]
    refine readL (.slice sp l.length cap) rfl (by kernel_rfl) ?_
    simp only [aP, lI, l0, lS]
    refine readL (.int .i64 ((l.length : Nat) : Int)) rfl (lenS _ 22 3 sp l.length cap rfl Try.underlying22 rfl _) ?_
    simp only [aP, lI, l0, lS]
    obtain ⟨b1, hb1⟩ : ∃ y_, y_ = (decide ((q : Int) < ((l.length : Nat) : Int))) := ⟨_, rfl⟩
    refine readL (.bool b1) rfl (lssI .i64 _ _ _ _ _ _ rfl rfl rfl b1 hb1.symm _) ?_
    simp only [aP, lI, l0, lS]
    refine readL (.bool b1) rfl (by kernel_rfl) ?_
    simp only [aP, lI, l0, lS]
    refine mayL (b1) (.int .i64 (q : Int)) ((bif b1 then (.int .i64 (q : Int)) else undef)) (by cases b1 <;> rfl) (by cases b1 <;> rfl) (fun hc => by cases b1 <;> first | (cases hc; done) | kernel_rfl) ?_
    simp only [aP, lI, l0, lS]
    obtain ⟨b2, hb2⟩ : ∃ y_, y_ = (decide ((q : Int) < 300)) := ⟨_, rfl⟩
    refine mayL (b1) (.bool b2) ((bif b1 then (.bool b2) else undef)) (by cases b1 <;> rfl) (by cases b1 <;> rfl) (fun hc => by cases b1 <;> first | (cases hc; done) | exact (lssI .i64 _ _ _ _ _ _ rfl rfl rfl b2 hb2.symm _)) ?_
    simp only [aP, lI, l0, lS]
    obtain ⟨b3, hb3⟩ : ∃ y_, y_ = (b1 && b2) := ⟨_, rfl⟩
    refine readL (.bool b3) rfl (by subst hb3; cases b1 <;> rfl) ?_
    simp only [aP, lI, l0, lS]
    first | show Exit.then _ _ _ _ _ | show Exit.inBlock _ _ _ _ _
    cases b3 with
    | true =>
      have hlt_l : q < l.length ∧ q < 300 := by
        simp only [hb1, hb2] at hb3
        simp at hb3
        omega
      try clear hb1
      try clear hb2
      try clear hb3
      obtain ⟨hlt_l, hlt2⟩ := hlt_l
      obtain ⟨adl, rfl, _⟩ := hs q hlt_l
      go_upto_region 8 with fail
      refine wp_region_list ?_
      refine readL (.pointer (some ⟨Ra, 0, none⟩)) rfl (by kernel_rfl) ?_
      simp only [aP, lI, l0, lS]
      refine readL (.slice (some adl) l.length cap) rfl (by kernel_rfl) ?_
      simp only [aP, lI, l0, lS]
      refine readL (.int .i64 (q : Int)) rfl (by kernel_rfl) ?_
      simp only [aP, lI, l0, lS]
      refine readL (.pointer (some (adl.add q))) rfl (idxSl 22 3 l.length cap .i64 adl q _ _ Try.underlying22 (fun _ => by kernel_rfl) hlt_l rfl rfl rfl _) ?_
      simp only [aP, lI, l0, lS]
      refine readL (.int .i64 (bl l q)) rfl (load1 3 _ (adl.add q) _ rfl rfl (fun _ => by kernel_rfl) ((hs.below M.below (Nat.le_refl _)).at q hlt_l)) ?_
      simp only [aP, lI, l0, lS]
      have Mp := M.perm (pull0 ([] : List (Nat × List Value)) bs ([] : List (Nat × List Value)))
      have key := hK.chk w0 _ _ L bs _ (bl l q) hW (hl _ (bl_mem hlt_l)) hIa Mp
      clear Mp
      refine callL rfl (fun _ => by kernel_rfl) key ?_
      clear key
      rintro e w3 ⟨rfl, l⟩
      replace M := M.call l
      clear l
      refine ⟨_, rfl, ?_⟩
      simp only [aP, lI, l0, lS]
      refine readL (.int .i64 (wchk L (bl l q))) rfl (by kernel_rfl) ?_
      simp only [aP, lI, l0, lS]
      first | show Exit.then _ _ _ _ _ | show Exit.inBlock _ _ _ _ _
      go_upto_region 9 with fail
      refine wp_region_list ?_
      refine readL (.pointer (some ⟨Ra, 0, none⟩)) rfl (by kernel_rfl) ?_
      simp only [aP, lI, l0, lS]
      refine readL (.slice (some adl) l.length cap) rfl (by kernel_rfl) ?_
      simp only [aP, lI, l0, lS]
      refine readL (.int .i64 (q : Int)) rfl (by kernel_rfl) ?_
      simp only [aP, lI, l0, lS]
      refine readL (.pointer (some (adl.add q))) rfl (idxSl 22 3 l.length cap .i64 adl q _ _ Try.underlying22 (fun _ => by kernel_rfl) hlt_l rfl rfl rfl _) ?_
      simp only [aP, lI, l0, lS]
      refine readL (.int .i64 (bl l q)) rfl (load1 3 _ (adl.add q) _ rfl rfl (fun _ => by kernel_rfl) ((hs.below M.below (Nat.le_refl _)).at q hlt_l)) ?_
      simp only [aP, lI, l0, lS]
      have Mp := M.perm (pull0 ([] : List (Nat × List Value)) bs ([] : List (Nat × List Value)))
      have key := hK.mrk w0 _ _ L bs _ (bl l q) hW (by omega) (hl _ (bl_mem hlt_l)) hIa Mp
      refine callL rfl (fun _ => by kernel_rfl) key ?_
      clear key
      rintro e w4 ⟨rfl, ba1, hI_, hsub, M', o1⟩
      clear o1 hsub Mp M hIa
      have hIa := hI_
      clear hI_
      have M : Mm w0 ((ba1 ++ ([] : List (Nat × List Value)))) w4 := M'.perm (pull0 ([] : List (Nat × List Value)) ba1 ([] : List (Nat × List Value))).symm
      clear M'
      refine ⟨_, rfl, ?_⟩
      simp only [aP, lI, l0, lS]
      refine readL (.int .i64 (wchk L (bl l q))) rfl (by kernel_rfl) ?_
      simp only [aP, lI, l0, lS]
      first | show Exit.then _ _ _ _ _ | show Exit.inBlock _ _ _ _ _
      by_cases hc : wchk L (bl l q) = 0
      · go_upto_region 10 with fail
        refine wp_region_list ?_
        refine readL (.int .i64 (wchk L (bl l q))) rfl (by kernel_rfl) ?_
        simp only [aP, lI, l0, lS]
        refine readL (.int .i64 (wchk L (bl l q))) rfl (by kernel_rfl) ?_
        simp only [aP, lI, l0, lS]
        refine readL (.bool false) rfl (neqI .i64 _ _ _ _ _ _ rfl rfl rfl false (by simp) _) ?_
        simp only [aP, lI, l0, lS]
        refine readL (.bool false) rfl (by kernel_rfl) ?_
        simp only [aP, lI, l0, lS]
        refine readL (.int .i64 (wchk L (bl l q))) rfl (by kernel_rfl) ?_
        simp only [aP, lI, l0, lS]
        refine readL (.bool true) rfl (eqlI .i64 _ _ _ _ _ _ rfl rfl rfl true (by rw [hc]; rfl) _) ?_
        simp only [aP, lI, l0, lS]
        refine readL (.bool true) rfl (by kernel_rfl) ?_
        simp only [aP, lI, l0, lS]
        refine readL (.pointer (some ⟨Ra, 0, none⟩)) rfl (by kernel_rfl) ?_
        simp only [aP, lI, l0, lS]
        refine readL (.slice (some adl) l.length cap) rfl (by kernel_rfl) ?_
        simp only [aP, lI, l0, lS]
        refine readL (.int .i64 (q : Int)) rfl (by kernel_rfl) ?_
        simp only [aP, lI, l0, lS]
        refine readL (.pointer (some (adl.add q))) rfl (idxSl 22 3 l.length cap .i64 adl q _ _ Try.underlying22 (fun _ => by kernel_rfl) hlt_l rfl rfl rfl _) ?_
        simp only [aP, lI, l0, lS]
        refine readL (.int .i64 (bl l q)) rfl (load1 3 _ (adl.add q) _ rfl rfl (fun _ => by kernel_rfl) ((hs.below M.below (Nat.le_refl _)).at q hlt_l)) ?_
        simp only [aP, lI, l0, lS]
        have Mp := M.perm (pull0 ([] : List (Nat × List Value)) ba1 ([] : List (Nat × List Value)))
        have key := hK.mrk w0 _ _ (wmk L (bl l q)) ba1 _ (bl l q) (wmk_w hW (bl l q)) (by have := wmk_len L (bl l q); omega) (hl _ (bl_mem hlt_l)) hIa Mp
        rw [wchk_marked hc, wmk_err (show ¬ wchk (wmk L (bl l q)) (bl l q) = 0 by rw [wchk_marked hc]; decide)] at key
        refine callL rfl (fun _ => by kernel_rfl) key ?_
        clear key
        rintro e w5 ⟨rfl, ba2, hI_, hsub, M', o1⟩
        clear o1 hsub Mp M hIa
        have hIa := hI_
        clear hI_
        have M : Mm w0 ((ba2 ++ ([] : List (Nat × List Value)))) w5 := M'.perm (pull0 ([] : List (Nat × List Value)) ba2 ([] : List (Nat × List Value))).symm
        clear M'
        refine ⟨_, rfl, ?_⟩
        simp only [aP, lI, l0, lS]
        refine readL (.bool false) rfl (neqI .i64 _ _ _ _ _ _ rfl rfl rfl false (by decide) _) ?_
        simp only [aP, lI, l0, lS]
        refine readL (.bool false) rfl (by kernel_rfl) ?_
        simp only [aP, lI, l0, lS]
        refine readL (.bool false) rfl (by kernel_rfl) ?_
        simp only [aP, lI, l0, lS]
        first | show Exit.then _ _ _ _ _ | show Exit.inBlock _ _ _ _ _
        have HS := show Hid _ from (show WinL (wmk L (bl l q)) ∧ (wmk L (bl l q)).length ≤ (q + 1) ∧ I (.pointer (some ⟨Ra, 0, none⟩)) (wmk L (bl l q)) ba2 ∧ Mm w0 (ba2 ++ ([] : List (Nat × List Value))) w5 ∧ ∀ j, j < (q + 1) → ¬ wchk (wmk L (bl l q)) (bl l j) = 0 from ⟨wmk_w hW _, by have := wmk_len L (bl l q); omega, hIa, M, fun j hj => by
          by_cases e : j = q
          · subst e; exact wchk_after
          · exact wchk_mono (hall j (by omega)) _⟩)
        clear M hIa hall hW hc
        go_wp2
        go_roundw
        case rel => exact ⟨q + 1, _, _, by omega, by omega, by go_num, HS.out⟩
        case measure => simp [intOf]; omega
      · go_upto_region 10 with fail
        refine wp_region_list ?_
        refine readL (.int .i64 (wchk L (bl l q))) rfl (by kernel_rfl) ?_
        simp only [aP, lI, l0, lS]
        refine readL (.int .i64 (wchk L (bl l q))) rfl (by kernel_rfl) ?_
        simp only [aP, lI, l0, lS]
        refine readL (.bool false) rfl (neqI .i64 _ _ _ _ _ _ rfl rfl rfl false (by simp) _) ?_
        simp only [aP, lI, l0, lS]
        refine readL (.bool false) rfl (by kernel_rfl) ?_
        simp only [aP, lI, l0, lS]
        refine readL (.int .i64 (wchk L (bl l q))) rfl (by kernel_rfl) ?_
        simp only [aP, lI, l0, lS]
        refine readL (.bool false) rfl (eqlI .i64 _ _ _ _ _ _ rfl rfl rfl false (by rw [beq_eq_false_iff_ne]; exact hc) _) ?_
        simp only [aP, lI, l0, lS]
        refine readL (.bool false) rfl (by kernel_rfl) ?_
        simp only [aP, lI, l0, lS]
        with_reducible refine skipL ?_ ?_
        · rfl
        simp only [aP, lI, l0, lS]
        with_reducible refine skipL ?_ ?_
        · rfl
        simp only [aP, lI, l0, lS]
        with_reducible refine skipL ?_ ?_
        · rfl
        simp only [aP, lI, l0, lS]
        with_reducible refine skipL ?_ ?_
        · rfl
        simp only [aP, lI, l0, lS]
        with_reducible refine skipL ?_ ?_
        · rfl
        simp only [aP, lI, l0, lS]
        with_reducible refine skipL ?_ ?_
        · rfl
        simp only [aP, lI, l0, lS]
        with_reducible refine skipL ?_ ?_
        · rfl
        simp only [aP, lI, l0, lS]
        refine readL (.bool false) rfl (by kernel_rfl) ?_
        simp only [aP, lI, l0, lS]
        refine readL (.bool false) rfl (by kernel_rfl) ?_
        simp only [aP, lI, l0, lS]
        first | show Exit.then _ _ _ _ _ | show Exit.inBlock _ _ _ _ _
        have HS := show Hid _ from (show WinL (wmk L (bl l q)) ∧ (wmk L (bl l q)).length ≤ (q + 1) ∧ I (.pointer (some ⟨Ra, 0, none⟩)) (wmk L (bl l q)) ba1 ∧ Mm w0 (ba1 ++ ([] : List (Nat × List Value))) w4 ∧ ∀ j, j < (q + 1) → ¬ wchk (wmk L (bl l q)) (bl l j) = 0 from ⟨wmk_w hW _, by have := wmk_len L (bl l q); omega, hIa, M, fun j hj => by
          by_cases e : j = q
          · subst e; exact wchk_after
          · exact wchk_mono (hall j (by omega)) _⟩)
        clear M hIa hall hW hc
        go_wp2
        go_roundw
        case rel => exact ⟨q + 1, _, _, by omega, by omega, by go_num, HS.out⟩
        case measure => simp [intOf]; omega
    | false =>
      have hge : ¬ (q < l.length ∧ q < 300) := by
        simp only [hb1, hb2] at hb3
        simp at hb3
        omega
      try clear hb1
      try clear hb2
      try clear hb3
      go_upto_region 12 with fail
      refine wp_region_list ?_
      refine readL (.int .i64 0) rfl (by kernel_rfl) ?_
      simp only [aP, lI, l0, lS]
      first | show Exit.then _ _ _ _ _ | show Exit.inBlock _ _ _ _ _
      have HI := show Hid _ from M
      replace hall := show Hid _ from hall
      clear M
      go_wp2
      go_loopw [8] (fun i w' => ∃ (k : Nat), k ≤ 300 ∧ k ≤ l.length ∧ i = .int .i64 (k : Int) ∧ Mm w0 (bs ++ ([] : List (Nat × List Value))) w') (fun i _ => l.length - (intOf i).toNat)
      case atStart => exact ⟨0, by omega, by omega, rfl, HI.out⟩
      case round =>
        clear HI
        obtain ⟨k, hk, hk2, rfl, M⟩ := hrel
        go_upto_region 13 with fail
        refine wp_region_list ?_
        refine readL (.int .i64 (k : Int)) rfl (by kernel_rfl) ?_
        simp only [aP, lI, l0, lS]
        refine readL (.slice sp l.length cap) rfl (by kernel_rfl) ?_
        simp only [aP, lI, l0, lS]
        refine readL (.int .i64 ((l.length : Nat) : Int)) rfl (lenS _ 22 3 sp l.length cap rfl Try.underlying22 rfl _) ?_
        simp only [aP, lI, l0, lS]
        obtain ⟨b4, hb4⟩ : ∃ y_, y_ = (decide ((k : Int) < ((l.length : Nat) : Int))) := ⟨_, rfl⟩
        refine readL (.bool b4) rfl (lssI .i64 _ _ _ _ _ _ rfl rfl rfl b4 hb4.symm _) ?_
        simp only [aP, lI, l0, lS]
        refine readL (.bool b4) rfl (by kernel_rfl) ?_
        simp only [aP, lI, l0, lS]
        refine mayL (b4) (.int .i64 (k : Int)) ((bif b4 then (.int .i64 (k : Int)) else undef)) (by cases b4 <;> rfl) (by cases b4 <;> rfl) (fun hc => by cases b4 <;> first | (cases hc; done) | kernel_rfl) ?_
        simp only [aP, lI, l0, lS]
        obtain ⟨b5, hb5⟩ : ∃ y_, y_ = (decide ((k : Int) < 300)) := ⟨_, rfl⟩
        refine mayL (b4) (.bool b5) ((bif b4 then (.bool b5) else undef)) (by cases b4 <;> rfl) (by cases b4 <;> rfl) (fun hc => by cases b4 <;> first | (cases hc; done) | exact (lssI .i64 _ _ _ _ _ _ rfl rfl rfl b5 hb5.symm _)) ?_
        simp only [aP, lI, l0, lS]
        obtain ⟨b6, hb6⟩ : ∃ y_, y_ = (b4 && b5) := ⟨_, rfl⟩
        refine readL (.bool b6) rfl (by subst hb6; cases b4 <;> rfl) ?_
        simp only [aP, lI, l0, lS]
        first | show Exit.then _ _ _ _ _ | show Exit.inBlock _ _ _ _ _
        cases b6 with
        | true =>
          have hlt_l : k < l.length ∧ k < 300 := by
            simp only [hb4, hb5] at hb6
            simp at hb6
            omega
          try clear hb4
          try clear hb5
          try clear hb6
          obtain ⟨hlt_l, hlt2⟩ := hlt_l
          have hne := hall.out k (by omega)
          obtain ⟨adl, rfl, _⟩ := hs k hlt_l
          go_upto_region 15 with fail
          refine wp_region_list ?_
          refine readL (.pointer (some ⟨Ra, 0, none⟩)) rfl (by kernel_rfl) ?_
          simp only [aP, lI, l0, lS]
          refine readL (.slice (some adl) l.length cap) rfl (by kernel_rfl) ?_
          simp only [aP, lI, l0, lS]
          refine readL (.int .i64 (k : Int)) rfl (by kernel_rfl) ?_
          simp only [aP, lI, l0, lS]
          refine readL (.pointer (some (adl.add k))) rfl (idxSl 22 3 l.length cap .i64 adl k _ _ Try.underlying22 (fun _ => by kernel_rfl) hlt_l rfl rfl rfl _) ?_
          simp only [aP, lI, l0, lS]
          refine readL (.int .i64 (bl l k)) rfl (load1 3 _ (adl.add k) _ rfl rfl (fun _ => by kernel_rfl) ((hs.below M.below (Nat.le_refl _)).at k hlt_l)) ?_
          simp only [aP, lI, l0, lS]
          have Mp := M.perm (pull0 ([] : List (Nat × List Value)) bs ([] : List (Nat × List Value)))
          have key := hK.chk w0 _ _ L bs _ (bl l k) hW (hl _ (bl_mem hlt_l)) hIa Mp
          clear Mp
          refine callL rfl (fun _ => by kernel_rfl) key ?_
          clear key
          rintro e w6 ⟨rfl, l⟩
          replace M := M.call l
          clear l
          refine ⟨_, rfl, ?_⟩
          simp only [aP, lI, l0, lS]
          refine readL (.bool false) rfl (eqlI .i64 _ _ _ _ _ _ rfl rfl rfl false (by rw [beq_eq_false_iff_ne]; exact hne) _) ?_
          simp only [aP, lI, l0, lS]
          first | show Exit.then _ _ _ _ _ | show Exit.inBlock _ _ _ _ _
          have HS := show Hid _ from M
          clear M hne
          go_wp2
          go_roundw
          case rel => exact ⟨k + 1, by omega, by omega, by go_num, HS.out⟩
          case measure => simp [intOf]; omega
        | false =>
          try clear hb4
          try clear hb5
          try clear hb6
          go_upto_region 17 with fail
          refine wp_region_list ?_
          refine readL (.bool true) rfl (by kernel_rfl) ?_
          simp only [aP, lI, l0, lS]
          first | show Exit.then _ _ _ _ _ | show Exit.inBlock _ _ _ _ _
          have hbel := M.below
          clear M 
          go_wp2
          go_ret
          exact ⟨rfl, hbel⟩
theorem wlt_all {L : List Int} {c : Int} (h : ∀ x ∈ L, x < c) : wlt L c = L.length := by
  unfold wlt
  rw [List.filter_eq_self.2 (fun x hx => decide_eq_true (h x hx))]
theorem wcnt_lt (c : Int) : ∀ L : List Int, (L.filter (fun x => decide (c < x))).length + wlt L (c + 1) = L.length
  | [] => rfl
  | x :: L => by
    have ih := wcnt_lt c L
    unfold wlt at ih ⊢
    by_cases h : c < x
    · rw [List.filter_cons_of_pos (by simpa using h), List.filter_cons_of_neg (by simp; omega), List.length_cons, List.length_cons]
      omega
    · rw [List.filter_cons_of_neg (by simpa using h), List.filter_cons_of_pos (by simp; omega), List.length_cons, List.length_cons]
      omega
theorem wnx_hit {L : List Int} {last : Int} (h : WinL L) (hm : last - 1 ∈ L) (hs : wtop L - 1024 < last - 1) : wnx L last = last - 1 := by
  have h1 := wnx_ge (last := last) hm (by omega) hs
  have h0 := h.ge _ hm
  have h2 := (wnx_mem (L := L) (last := last) (by omega)).2.1
  omega
theorem wnx_skip {L : List Int} {last : Int} (h : ¬ (last - 1 ∈ L ∧ wtop L - 1024 < last - 1)) : wnx L last = wnx L (last - 1) := by
  have key : ∀ x, (x < last ∧ x ∈ L ∧ wtop L - 1024 < x) ↔ (x < last - 1 ∧ x ∈ L ∧ wtop L - 1024 < x) := fun x => by
    constructor
    · rintro ⟨h1, h2, h3⟩
      refine ⟨?_, h2, h3⟩
      by_cases e : x = last - 1
      · subst e; exact absurd ⟨h2, h3⟩ h
      · omega
    · rintro ⟨h1, h2, h3⟩
      exact ⟨by omega, h2, h3⟩
  by_cases a : wnx L last < 0
  · by_cases b : wnx L (last - 1) < 0
    · have := wnx_lo L last
      have := wnx_lo L (last - 1)
      omega
    · have hb := wnx_mem b
      have := wnx_ge hb.1 (by omega) hb.2.2 (last := last)
      omega
  · have ha := wnx_mem a
    have h1 := (key _).1 ⟨ha.2.1, ha.1, ha.2.2⟩
    have h2 := wnx_ge (last := last - 1) h1.2.1 h1.1 h1.2.2
    have hb := wnx_mem (L := L) (last := last - 1) (by omega)
    have h3 := wnx_ge hb.1 (by omega) hb.2.2 (last := last)
    omega
theorem wnx_end {L : List Int} {last : Int} (h : last ≤ wtop L - 1023 ∨ last ≤ 0) (hW : WinL L) : wnx L last < 0 := Decidable.byContradiction fun hn => by
  have h1 := wnx_mem hn
  have h2 := hW.ge _ h1.1
  omega
structure Bts (W : Nat → Nat) (f : Nat → Bool) : Prop where
  lt : ∀ i, i < 16 → W i < 2 ^ 64
  bit : ∀ i b, i < 16 → b < 64 → (W i).testBit b = f (64 * i + b)
def wsee (L : List Int) (k : Nat) : Bool := decide (wtop L - (k : Int) ∈ L)
theorem Bts.nil : Bts (fun _ => 0) (wsee []) := ⟨fun _ _ => by decide, fun i b _ _ => by rw [Nat.zero_testBit]; exact (decide_eq_false (by simp)).symm⟩
theorem Bts.congr {W : Nat → Nat} {f g : Nat → Bool} (h : Bts W f) (e : ∀ k, k < 1024 → f k = g k) : Bts W g := ⟨h.lt, fun i b hi hb => by rw [h.bit i b hi hb]; exact e _ (by omega)⟩
theorem Bts.at {W : Nat → Nat} {f : Nat → Bool} (h : Bts W f) (k : Nat) (hk : k < 1024) : (W (k / 64)).testBit (k % 64) = f k := by
  rw [h.bit _ _ (by omega) (by omega)]
  congr 1
  omega
theorem Bts.put {W V : Nat → Nat} {f : Nat → Bool} (h : Bts W f) (k : Nat) (hV : ∀ i, i < 16 → V i = if i = k / 64 then W i ||| 2 ^ (k % 64) else W i) : Bts V (fun j => decide (j = k) || f j) := by
  refine ⟨fun i hi => ?_, fun i b hi hb => ?_⟩
  · rw [hV i hi]
    split
    · exact Nat.or_lt_two_pow (h.lt i hi) (Nat.pow_lt_pow_right (by decide) (by omega))
    · exact h.lt i hi
  · rw [hV i hi]
    split
    · next e =>
      rw [Nat.testBit_or, h.bit i b hi hb, Nat.testBit_two_pow, Bool.or_comm]
      congr 1
      exact decide_eq_decide.2 (by omega)
    · next e =>
      rw [h.bit i b hi hb, decide_eq_false (by omega), Bool.false_or]
def wup (W : Nat → Nat) (d i : Nat) : Nat := if d / 64 ≤ i then W (i - d / 64) * 2 ^ (d % 64) % 2 ^ 64 else 0
def wdn (W : Nat → Nat) (d i : Nat) : Nat := if d / 64 < i then W (i - d / 64 - 1) / 2 ^ (64 - d % 64) else 0
def wst (W : Nat → Nat) (d i : Nat) : Nat := wup W d i ||| wdn W d i
theorem wup_lt (W : Nat → Nat) (d i : Nat) : wup W d i < 2 ^ 64 := by
  unfold wup
  split
  · exact Nat.mod_lt _ (by decide)
  · decide
theorem Bts.div_lt {W : Nat → Nat} {f : Nat → Bool} (h : Bts W f) (i e : Nat) (hi : i < 16) : W i / 2 ^ e < 2 ^ 64 := Nat.lt_of_le_of_lt (Nat.div_le_self _ _) (h.lt i hi)
theorem Bts.up {W : Nat → Nat} {f : Nat → Bool} (h : Bts W f) (d : Nat) : Bts (wst W d) (fun k => decide (d ≤ k) && f (k - d)) := by
  refine ⟨fun i hi => ?_, fun i b hi hb => ?_⟩
  · refine Nat.or_lt_two_pow (wup_lt W d i) ?_
    unfold wdn
    split
    · exact h.div_lt _ _ (by omega)
    · decide
  · have e1 : (wup W d i).testBit b = (decide (64 * (d / 64) + d % 64 ≤ 64 * i + b ∧ d % 64 ≤ b) && f (64 * i + b - d)) := by
      unfold wup
      by_cases c : d / 64 ≤ i
      · rw [if_pos c, Nat.testBit_mod_two_pow, decide_eq_true hb, Bool.true_and, Nat.testBit_mul_two_pow]
        by_cases c2 : d % 64 ≤ b
        · rw [decide_eq_true (show b ≥ d % 64 from c2), Bool.true_and, h.bit _ _ (by omega) (by omega), decide_eq_true (by omega), Bool.true_and]
          congr 1
          omega
        · rw [decide_eq_false (show ¬ b ≥ d % 64 from c2), Bool.false_and, decide_eq_false (by omega), Bool.false_and]
      · rw [if_neg c, Nat.zero_testBit, decide_eq_false (by omega), Bool.false_and]
    have e2 : (wdn W d i).testBit b = (decide (64 * (d / 64) + d % 64 ≤ 64 * i + b ∧ b < d % 64) && f (64 * i + b - d)) := by
      unfold wdn
      by_cases c : d / 64 < i
      · rw [if_pos c, Nat.testBit_div_two_pow]
        by_cases c2 : b < d % 64
        · rw [h.bit _ _ (by omega) (by omega), decide_eq_true (by omega), Bool.true_and]
          congr 1
          omega
        · rw [Nat.testBit_lt_two_pow (Nat.lt_of_lt_of_le (h.lt _ (by omega)) (Nat.pow_le_pow_right (by decide) (by omega))), decide_eq_false (by omega), Bool.false_and]
      · rw [if_neg c, Nat.zero_testBit, decide_eq_false (by omega), Bool.false_and]
    unfold wst
    rw [Nat.testBit_or, e1, e2, ← Bool.and_or_distrib_right]
    congr 1
    rw [← Bool.decide_or]
    exact decide_eq_decide.2 (by omega)
theorem wsee_put {L : List Int} {n : Int} {k : Nat} (hk : wtop L - n = (k : Int)) (j : Nat) : (decide (j = k) || wsee L j) = wsee (L ++ [n]) j := by
  unfold wsee
  rw [← Bool.decide_or, wtop_app, show max (wtop L) n = wtop L by omega]
  refine decide_eq_decide.2 ?_
  rw [List.mem_append, List.mem_singleton]
  constructor
  · rintro (h | h)
    · exact .inr (by omega)
    · exact .inl h
  · rintro (h | h)
    · exact .inr h
    · exact .inl (by omega)
theorem wsee_up {L : List Int} {n : Int} {d : Nat} (hd : n - wtop L = (d : Int)) (h1 : 1 ≤ d) (j : Nat) : (decide (j = 0) || (decide (d ≤ j) && wsee L (j - d))) = wsee (L ++ [n]) j := by
  unfold wsee
  rw [← Bool.decide_and, ← Bool.decide_or, wtop_app, show max (wtop L) n = n by omega]
  refine decide_eq_decide.2 ?_
  rw [List.mem_append, List.mem_singleton]
  constructor
  · rintro (h | ⟨h, h2⟩)
    · exact .inr (by omega)
    · refine .inl ?_
      rw [show n - (j : Int) = wtop L - ((j - d : Nat) : Int) by omega]
      exact h2
  · rintro (h | h)
    · have := wtop_le h
      refine .inr ⟨by omega, ?_⟩
      rw [show wtop L - ((j - d : Nat) : Int) = n - (j : Int) by omega]
      exact h
    · exact .inl (by omega)
def Wds (W : Nat → Nat) (L : List Int) : Prop := Bts W (wsee L)
theorem Wds.at {W : Nat → Nat} {L : List Int} (h : Wds W L) {n : Int} {k : Nat} (hk : wtop L - n = (k : Int)) (hlt : k < 1024) : (W (k / 64)).testBit (k % 64) = decide (n ∈ L) := by
  rw [Bts.at h k hlt]
  unfold wsee
  rw [← hk]
  exact decide_eq_decide.2 (by rw [show wtop L - (wtop L - n) = n by omega])
def fct (f : Nat → Bool) : Nat → Nat
  | 0 => 0
  | n + 1 => fct f n + (if f n then 1 else 0)
theorem fct_succ (f : Nat → Bool) (n : Nat) : fct f (n + 1) = fct f n + (if f n then 1 else 0) := rfl
theorem fct_le (f : Nat → Bool) : ∀ n, fct f n ≤ n
  | 0 => Nat.le_refl _
  | n + 1 => by
    have := fct_le f n
    unfold fct
    split <;> omega
theorem fct_add (f : Nat → Bool) (m : Nat) : ∀ n, fct f (m + n) = fct f m + fct (fun j => f (m + j)) n
  | 0 => rfl
  | n + 1 => by
    have ih := fct_add f m n
    rw [show m + (n + 1) = m + n + 1 by omega, fct_succ, fct_succ, ih]
    omega
theorem fct_congr {f g : Nat → Bool} : ∀ n, (∀ j, j < n → f j = g j) → fct f n = fct g n
  | 0, _ => rfl
  | n + 1, h => by
    rw [fct_succ, fct_succ, fct_congr n (fun j hj => h j (by omega)), h n (by omega)]
theorem fct_see (L : List Int) (hL : WinL L) : ∀ n : Nat, wlt L (wtop L + 1) = wlt L (wtop L + 1 - (n : Int)) + fct (wsee L) n
  | 0 => by rw [show wtop L + 1 - ((0 : Nat) : Int) = wtop L + 1 by omega]; rfl
  | n + 1 => by
    rw [fct_see L hL n, fct_succ, show wtop L + 1 - ((n + 1 : Nat) : Int) = wtop L - (n : Int) by omega, show wtop L + 1 - (n : Int) = wtop L - (n : Int) + 1 by omega]
    by_cases hm : wtop L - (n : Int) ∈ L
    · rw [show wsee L n = true from decide_eq_true hm, if_pos rfl, wlt_step (nx := wtop L - (n : Int)) (by omega) hL.nd hm (fun x _ hx => by omega)]
      omega
    · rw [show wsee L n = false from decide_eq_false hm, if_neg (by decide), wlt_same (nx := wtop L - (n : Int)) (by omega) hm (fun x _ hx => by omega)]
      omega
theorem fct_cnt {L : List Int} (h : WinL L) : fct (wsee L) 1024 = wcnt L := by
  have h1 := fct_see L h 1024
  have h2 := wcnt_lt (wtop L - 1024) L
  have h3 : wlt L (wtop L + 1) = L.length := wlt_all fun x hx => by have := wtop_le hx; omega
  rw [show wtop L + 1 - ((1024 : Nat) : Int) = wtop L - 1024 + 1 by omega] at h1
  unfold wcnt
  omega
def pc64 (x : Nat) : Nat := fct x.testBit 64
theorem Bts.sum {W : Nat → Nat} {f : Nat → Bool} (h : Bts W f) (j : Nat) (hj : j < 16) : fct f (64 * j) + pc64 (W j) = fct f (64 * (j + 1)) := by
  rw [show 64 * (j + 1) = 64 * j + 64 by omega, fct_add]
  unfold pc64
  rw [fct_congr 64 (fun b hb => h.bit j b hj hb)]
theorem shr64 (x e : Nat) (he : e ≤ 64) : (x : Int) / 2 ^ min ((e : Nat) : Int).toNat IntKind.u64.bits = ((x / 2 ^ e : Nat) : Int) := by
  have h1 : min ((e : Nat) : Int).toNat IntKind.u64.bits = e := by
    show min ((e : Nat) : Int).toNat 64 = e
    omega
  rw [h1]
  norm_cast
theorem shl64 (x e : Nat) (he : e ≤ 64) : IntKind.u64.wrap ((x : Int) * 2 ^ min ((e : Nat) : Int).toNat IntKind.u64.bits) = ((x * 2 ^ e % 2 ^ 64 : Nat) : Int) := by
  have h1 : min ((e : Nat) : Int).toNat IntKind.u64.bits = e := by
    show min ((e : Nat) : Int).toNat 64 = e
    omega
  rw [h1, show (x : Int) * 2 ^ e = ((x * 2 ^ e : Nat) : Int) by norm_cast, IntKind.wrap_u64]
  omega
theorem and64 (x y : Nat) (hx : x < 2 ^ 64) (hy : y < 2 ^ 64) : bits .and .u64 (x : Int) (y : Int) = ((x &&& y : Nat) : Int) := by
  have key : (BitVec.ofInt 64 (x : Int) &&& BitVec.ofInt 64 (y : Int)).toNat = x &&& y := by
    rw [BitVec.toNat_and, BitVec.toNat_ofInt, BitVec.toNat_ofInt, show ((x : Int) % ((2 ^ 64 : Nat) : Int)).toNat = x by omega, show ((y : Int) % ((2 ^ 64 : Nat) : Int)).toNat = y by omega]
  show IntKind.u64.wrap ((BitVec.ofInt 64 (x : Int) &&& BitVec.ofInt 64 (y : Int)).toNat : Nat) = _
  rw [key, IntKind.wrap_u64]
  have := Nat.and_lt_two_pow x hy
  omega
theorem or64 (x y : Nat) (hx : x < 2 ^ 64) (hy : y < 2 ^ 64) : bits .or .u64 (x : Int) (y : Int) = ((x ||| y : Nat) : Int) := by
  have key : (BitVec.ofInt 64 (x : Int) ||| BitVec.ofInt 64 (y : Int)).toNat = x ||| y := by
    rw [BitVec.toNat_or, BitVec.toNat_ofInt, BitVec.toNat_ofInt, show ((x : Int) % ((2 ^ 64 : Nat) : Int)).toNat = x by omega, show ((y : Int) % ((2 ^ 64 : Nat) : Int)).toNat = y by omega]
  show IntKind.u64.wrap ((BitVec.ofInt 64 (x : Int) ||| BitVec.ofInt 64 (y : Int)).toNat : Nat) = _
  rw [key, IntKind.wrap_u64]
  have := Nat.or_lt_two_pow hx hy
  omega
theorem and_i64 (x : Nat) (hx : x < 2 ^ 63) : bits .and .i64 (x : Int) 127 = ((x % 128 : Nat) : Int) := by
  have h127 : (BitVec.ofInt 64 127).toNat = 2 ^ 7 - 1 := by decide
  have key : (BitVec.ofInt 64 (x : Int) &&& BitVec.ofInt 64 127).toNat = x % 2 ^ 7 := by
    rw [BitVec.toNat_and, BitVec.toNat_ofInt, h127, Nat.and_two_pow_sub_one_eq_mod, show ((x : Int) % ((2 ^ 64 : Nat) : Int)).toNat = x by omega]
  show IntKind.i64.wrap ((BitVec.ofInt 64 (x : Int) &&& BitVec.ofInt 64 127).toNat : Nat) = _
  rw [key, IntKind.wrap_i64]
  omega
theorem bit64 (x e : Nat) (hx : x < 2 ^ 64) : bits .and .u64 ((x / 2 ^ e : Nat) : Int) 1 = (if x.testBit e then 1 else 0) := by
  rw [show (1 : Int) = ((1 : Nat) : Int) from rfl, and64 _ 1 (Nat.lt_of_le_of_lt (Nat.div_le_self _ _) hx) (by decide), Nat.and_one_is_mod]
  rw [Nat.testBit_eq_decide_div_mod_eq]
  by_cases h : x / 2 ^ e % 2 = 1
  · rw [h, decide_eq_true rfl]; rfl
  · rw [decide_eq_false h, show x / 2 ^ e % 2 = 0 by omega]; rfl
def rep8 (d : Nat) : Nat → Nat
  | 0 => 0
  | k + 1 => d + 256 * rep8 d k
theorem and_byte (a b c d : Nat) (ha : a < 256) (hc : c < 256) : (a + 256 * b) &&& (c + 256 * d) = (a &&& c) + 256 * (b &&& d) := by
  have h1 : ((a + 256 * b) &&& (c + 256 * d)) % 2 ^ 8 = a &&& c := by
    rw [Nat.and_mod_two_pow, show (a + 256 * b) % 2 ^ 8 = a by omega, show (c + 256 * d) % 2 ^ 8 = c by omega]
  have h2 : ((a + 256 * b) &&& (c + 256 * d)) / 2 ^ 8 = b &&& d := by
    rw [Nat.and_div_two_pow, show (a + 256 * b) / 2 ^ 8 = b by omega, show (c + 256 * d) / 2 ^ 8 = d by omega]
  omega
def oc1 (x m : Nat) : Nat := (x / 2 &&& m) + (x &&& m)
def oc2 (x m : Nat) : Nat := (x / 4 &&& m) + (x &&& m)
def oc3 (x m : Nat) : Nat := (x / 16 + x) &&& m
theorem oc1_b : ∀ b, b < 256 → ∀ e, e < 2 → ((b / 2 + 128 * e) &&& 85) = (b / 2 &&& 85) ∧ oc1 b 85 < 256 := by decide +kernel
theorem oc2_b : ∀ b, b < 256 → ∀ e, e < 4 → ((b / 4 + 64 * e) &&& 51) = (b / 4 &&& 51) ∧ oc2 b 51 < 256 := by decide +kernel
theorem oc3_b : ∀ b, b < 69 → ∀ e, e < 5 → ((b / 16 + b + 16 * e) &&& 15) = oc3 b 15 := by decide +kernel
theorem oc_b : ∀ b, b < 256 → oc2 (oc1 b 85) 51 < 69 ∧ oc2 (oc1 b 85) 51 % 16 < 5 ∧ oc3 (oc2 (oc1 b 85) 51) 15 = fct b.testBit 8 := by decide +kernel
theorem oc1_step (b c m : Nat) (hb : b < 256) : oc1 (b + 256 * c) (85 + 256 * m) = oc1 b 85 + 256 * oc1 c m := by
  unfold oc1
  rw [show (b + 256 * c) / 2 = (b / 2 + 128 * (c % 2)) + 256 * (c / 2) by omega, and_byte _ _ _ _ (by omega) (by decide), and_byte _ _ _ _ hb (by decide), (oc1_b b hb (c % 2) (by omega)).1]
  omega
theorem oc2_step (b c m : Nat) (hb : b < 256) : oc2 (b + 256 * c) (51 + 256 * m) = oc2 b 51 + 256 * oc2 c m := by
  unfold oc2
  rw [show (b + 256 * c) / 4 = (b / 4 + 64 * (c % 4)) + 256 * (c / 4) by omega, and_byte _ _ _ _ (by omega) (by decide), and_byte _ _ _ _ hb (by decide), (oc2_b b hb (c % 4) (by omega)).1]
  omega
theorem oc3_step (b c m : Nat) (hb : b < 69) (hc : c % 16 < 5) : oc3 (b + 256 * c) (15 + 256 * m) = oc3 b 15 + 256 * oc3 c m := by
  have e := oc3_b b hb (c % 16) hc
  unfold oc3 at e ⊢
  rw [show (b + 256 * c) / 16 + (b + 256 * c) = (b / 16 + b + 16 * (c % 16)) + 256 * (c / 16 + c) by omega, and_byte _ _ _ _ (by omega) (by decide), e]
def ocs : Nat → Nat → Nat
  | 0, _ => 0
  | k + 1, x => fct (x % 256).testBit 8 + 256 * ocs k (x / 256)
theorem oc_all : ∀ (k x : Nat), x < 256 ^ k → oc2 (oc1 x (rep8 85 k)) (rep8 51 k) % 16 < 5 ∧ oc3 (oc2 (oc1 x (rep8 85 k)) (rep8 51 k)) (rep8 15 k) = ocs k x
  | 0, x, hx => by
    obtain rfl : x = 0 := by simpa using hx
    decide
  | k + 1, x, hx => by
    have hx' : x / 256 < 256 ^ k := by rw [Nat.pow_succ] at hx; omega
    obtain ⟨ih1, ih2⟩ := oc_all k (x / 256) hx'
    obtain ⟨b1, b2, b3⟩ := oc_b (x % 256) (by omega)
    have l1 := (oc1_b (x % 256) (by omega) 0 (by decide)).2
    have l2 := (oc2_b (oc1 (x % 256) 85) l1 0 (by decide)).2
    have e : oc2 (oc1 x (rep8 85 (k + 1))) (rep8 51 (k + 1)) = oc2 (oc1 (x % 256) 85) 51 + 256 * oc2 (oc1 (x / 256) (rep8 85 k)) (rep8 51 k) := by
      show oc2 (oc1 x (85 + 256 * rep8 85 k)) (51 + 256 * rep8 51 k) = _
      rw [show oc1 x (85 + 256 * rep8 85 k) = oc1 (x % 256 + 256 * (x / 256)) (85 + 256 * rep8 85 k) by rw [Nat.mod_add_div], oc1_step _ _ _ (by omega), oc2_step _ _ _ l1]
    rw [e]
    refine ⟨by omega, ?_⟩
    show oc3 _ (15 + 256 * rep8 15 k) = fct (x % 256).testBit 8 + 256 * ocs k (x / 256)
    rw [oc3_step _ _ _ b1 ih1, b3, ih2]
theorem ocs_pc : ∀ k x : Nat, fct x.testBit (8 * (k + 1)) = fct (x % 256).testBit 8 + fct (x / 256).testBit (8 * k) := fun k x => by
  rw [show 8 * (k + 1) = 8 + 8 * k by omega, fct_add, show (256 : Nat) = 2 ^ 8 from rfl]
  congr 1
  · exact fct_congr 8 fun j hj => by rw [Nat.testBit_mod_two_pow, decide_eq_true hj, Bool.true_and]
  · exact fct_congr _ fun j _ => by rw [Nat.testBit_div_two_pow, Nat.add_comm]
def osm : Nat → Nat → Nat
  | 0, _ => 0
  | k + 1, x => fct (x % 256).testBit 8 + osm k (x / 256)
theorem osm_pc : ∀ k x : Nat, fct x.testBit (8 * k) = osm k x
  | 0, _ => rfl
  | k + 1, x => by rw [ocs_pc, osm_pc k]; rfl
def oc4 (x : Nat) : Nat := x + x / 256
def oc5 (x : Nat) : Nat := x + x / 65536
def oc6 (x : Nat) : Nat := x + x / 4294967296
theorem oc_sum (a b c d e f g h : Nat) (ha : a ≤ 8) (hb : b ≤ 8) (hc : c ≤ 8) (hd : d ≤ 8) (he : e ≤ 8) (hf : f ≤ 8) (hg : g ≤ 8) (hh : h ≤ 8) :
    oc6 (oc5 (oc4 (a + 256 * (b + 256 * (c + 256 * (d + 256 * (e + 256 * (f + 256 * (g + 256 * h))))))))) % 128 = a + b + c + d + e + f + g + h := by
  have h4 : oc4 (a + 256 * (b + 256 * (c + 256 * (d + 256 * (e + 256 * (f + 256 * (g + 256 * h))))))) = (a + b) + 256 * ((b + c) + 256 * ((c + d) + 256 * ((d + e) + 256 * ((e + f) + 256 * ((f + g) + 256 * ((g + h) + 256 * h)))))) := by unfold oc4; omega
  have h5 : oc5 ((a + b) + 256 * ((b + c) + 256 * ((c + d) + 256 * ((d + e) + 256 * ((e + f) + 256 * ((f + g) + 256 * ((g + h) + 256 * h))))))) = (a + b + c + d) + 256 * ((b + c + d + e) + 256 * ((c + d + e + f) + 256 * ((d + e + f + g) + 256 * ((e + f + g + h) + 256 * ((f + g + h) + 256 * ((g + h) + 256 * h)))))) := by unfold oc5; omega
  have h6 : ((a + b + c + d) + 256 * ((b + c + d + e) + 256 * ((c + d + e + f) + 256 * ((d + e + f + g) + 256 * ((e + f + g + h) + 256 * ((f + g + h) + 256 * ((g + h) + 256 * h))))))) / 4294967296 = (e + f + g + h) + 256 * ((f + g + h) + 256 * ((g + h) + 256 * h)) := by omega
  rw [h4, h5]
  unfold oc6
  rw [h6]
  clear h4 h5 h6
  omega
theorem oc_pc (x : Nat) (hx : x < 2 ^ 64) : oc6 (oc5 (oc4 (oc3 (oc2 (oc1 x 6148914691236517205) 3689348814741910323) 1085102592571150095))) % 128 = pc64 x := by
  have e := (oc_all 8 x (by simpa using hx)).2
  rw [show rep8 85 8 = 6148914691236517205 from rfl, show rep8 51 8 = 3689348814741910323 from rfl, show rep8 15 8 = 1085102592571150095 from rfl] at e
  rw [e]
  unfold pc64
  rw [show (64 : Nat) = 8 * 8 from rfl, osm_pc]
  show oc6 (oc5 (oc4 (_ + 256 * (_ + 256 * (_ + 256 * (_ + 256 * (_ + 256 * (_ + 256 * (_ + 256 * (_ + 256 * 0)))))))))) % 128 = _
  rw [Nat.mul_zero, Nat.add_zero, oc_sum _ _ _ _ _ _ _ _ (fct_le _ _) (fct_le _ _) (fct_le _ _) (fct_le _ _) (fct_le _ _) (fct_le _ _) (fct_le _ _) (fct_le _ _)]
  show _ = _ + (_ + (_ + (_ + (_ + (_ + (_ + (_ + 0)))))))
  omega
theorem oc1_lt (x : Nat) : oc1 x 6148914691236517205 < 2 ^ 64 := by
  have h1 := Nat.and_le_right (n := x / 2) (m := 6148914691236517205)
  have h2 := Nat.and_le_right (n := x) (m := 6148914691236517205)
  unfold oc1
  omega
theorem oc2_lt (x : Nat) : oc2 x 3689348814741910323 ≤ 7378697629483820646 := by
  have h1 := Nat.and_le_right (n := x / 4) (m := 3689348814741910323)
  have h2 := Nat.and_le_right (n := x) (m := 3689348814741910323)
  unfold oc2
  omega
theorem oc3_lt (x : Nat) : oc3 x 1085102592571150095 ≤ 1085102592571150095 := Nat.and_le_right
theorem setL_left : ∀ (ds a rest : List Value), ds.length = a.length → setL (a ++ rest) 0 ds = ds ++ rest := by
  have key : ∀ (ds pre a rest : List Value), ds.length = a.length → setL (pre ++ (a ++ rest)) pre.length ds = pre ++ (ds ++ rest) := by
    intro ds
    induction ds with
    | nil =>
      intro pre a rest h
      have : a = [] := List.eq_nil_of_length_eq_zero (by simpa using h.symm)
      subst this
      rfl
    | cons d ds ih =>
      intro pre a rest h
      cases a with
      | nil => cases h
      | cons x a =>
        have h2 : ds.length = a.length := by simpa using h
        have e : (pre ++ (x :: a ++ rest)).set pre.length d = (pre ++ [d]) ++ (a ++ rest) := by simp
        show setL ((pre ++ (x :: a ++ rest)).set pre.length d) (pre.length + 1) ds = _
        rw [e]
        have := ih (pre ++ [d]) a rest h2
        rw [List.length_append] at this
        rw [show pre.length + 1 = pre.length + [d].length from rfl, this]
        simp
  intro ds a rest h
  have := key ds [] a rest h
  simpa using this
theorem setL_pre (pre : List Value) : ∀ (ds l : List Value) (o : Nat), setL (pre ++ l) (pre.length + o) ds = pre ++ setL l o ds
  | [], _, _ => rfl
  | d :: ds, l, o => by
    show setL ((pre ++ l).set (pre.length + o) d) (pre.length + o + 1) ds = pre ++ setL (l.set o d) (o + 1) ds
    rw [List.set_append_right _ _ (by omega), Nat.add_sub_cancel_left, Nat.add_assoc, setL_pre pre ds (l.set o d) (o + 1)]
section
section
variable {P : Program} {ops : Array Oper} {Q : Exit → Act → World → Prop} {md : Region.Mode} {S S2 : World → Prop} {c : Nat}
theorem readC {i : Nat} {oi oc : Oper} (dst : Option Tmp) (hdst : oi.dst = dst) {n : Nat} {l : Array Bool} {a : Act} {w : World} (v : Value) (hi : ops[i]? = some oi) (hc : ops[c]? = some oc) (hwait : (oc.after.any fun e => Region.binds md e && e.on == i) = true)
    (hw : Region.wanted oi (yielded ops a.tmps) = true) (hv : ∀ w, S w → (execOp a.eval oi).run P w = .ok (.value v) w)
    (hs : Region.noSelect ops = true) (hf : Region.free md ops l i = true) (hl : l.getD c true = false) (hr : (Region.ready md ops l).contains i = true)
    (hQ : ∀ p a w, Q (.panic p) (a.put dst v) w → Q (.panic p) a w) (hS : S w)
    (h : wpAnyC P md ops Q S c n (l.setIfInBounds i true) (a.put dst v) w) : wpAnyC P md ops Q S c (n + 1) l a w := by
  subst hdst
  exact wpAnyC_take hi hc hwait hs hf hl hr hQ (.inl ⟨hw, hv⟩) hS h
theorem skipC (dst : Option Tmp) {oc : Oper} (hdst : oc.dst = dst) {n : Nat} {l : Array Bool} {a : Act} {w w' : World} (hr : Region.ready md ops l = [c]) (hi : ops[c]? = some oc)
    (hw : Region.wanted oc (yielded ops a.tmps) = true) (he : (execOp a.eval oc).run P w = .ok .skip w') (hl : (l.setIfInBounds c true).getD c true = true)
    (h : wpAnyH P md ops Q S2 n (l.setIfInBounds c true) (a.put dst undef) w') : wpAnyC P md ops Q S c (n + 1) l a w :=
  ⟨fun h0 => (by rw [h0] at hr; cases hr), fun j hj => by
    rw [hr] at hj
    obtain rfl := List.mem_singleton.1 hj
    unfold wpOp
    simp only [hi, hw, if_true]
    refine .inl ?_
    unfold Oper.wp
    rw [he]
    subst hdst
    exact ⟨fun hf => (by rw [hl] at hf; cases hf), wpAnyC_rest n _ _ _ hl (wpAny_of_held n _ _ _ h)⟩⟩
end
def wcv (T : Int) (W : Nat → Nat) : List Value := .int .i64 (T + 1) :: row .u64 16 (fun i => (W i : Int))
theorem wcv_len (T : Int) (W : Nat → Nat) : (wcv T W).length = 17 := by unfold wcv; rw [List.length_cons, row_length]
theorem wcv_get (T : Int) (W : Nat → Nat) (i : Nat) (h : i < 16) : (wcv T W)[1 + i]? = some (.int .u64 (W i : Int)) := by
  unfold wcv
  rw [Nat.add_comm, List.getElem?_cons_succ]
  exact row_get .u64 16 _ i h
theorem wcv_arr (T : Int) (W : Nat → Nat) : ((wcv T W).drop 1).take (row .u64 16 (fun i => (W i : Int))).length = row .u64 16 (fun i => (W i : Int)) := List.take_length
theorem row_put (k : IntKind) (n : Nat) (f : Nat → Int) (i : Nat) (v : Int) : (row k n f).set i (.int k v) = row k n (fun j => if j = i then v else f j) := by
  refine List.ext_getElem? fun j => ?_
  rw [List.getElem?_set]
  by_cases hj : j < n
  · rw [row_get k n _ j hj, row_get k n _ j hj, row_length]
    by_cases e : i = j
    · rw [if_pos e, if_pos (by omega), if_pos e.symm]
    · rw [if_neg e, if_neg (fun h => e h.symm)]
  · rw [List.getElem?_eq_none (by rw [row_length]; omega), List.getElem?_eq_none (by rw [row_length]; omega), row_length]
    split
    · rw [if_neg (by omega)]
    · rfl
theorem row_nat (n : Nat) (W : Nat → Nat) (i v : Nat) : row .u64 n (fun j => if j = i then ((v : Nat) : Int) else (W j : Int)) = row .u64 n (fun j => ((if j = i then v else W j : Nat) : Int)) := row_congr _ _ fun j _ => by split <;> rfl
theorem wcv_set (T : Int) (W : Nat → Nat) (i v : Nat) : (wcv T W).set (1 + i) (.int .u64 (v : Int)) = wcv T (fun j => if j = i then v else W j) := by
  unfold wcv
  rw [Nat.add_comm, List.set_cons_succ, row_put, row_nat]
theorem wcv_setA (T : Int) (W V : Nat → Nat) : setL (wcv T W) 1 (row .u64 16 (fun i => (V i : Int))) = wcv T V := by
  have h := setL_pre [.int .i64 (T + 1)] (row .u64 16 (fun i => (V i : Int))) (row .u64 16 (fun i => (W i : Int))) 0
  have h2 := setL_left (row .u64 16 (fun i => (V i : Int))) (row .u64 16 (fun i => (W i : Int))) [] (by rw [row_length, row_length])
  rw [List.append_nil, List.append_nil] at h2
  rw [h2] at h
  exact h
theorem wcv_congr {T : Int} {W V : Nat → Nat} (h : ∀ i, i < 16 → W i = V i) : wcv T W = wcv T V := by
  unfold wcv
  rw [row_congr .u64 16 (fun j hj => by rw [h j hj])]
theorem quo64 (k : Nat) (hk : k ≤ 562949953421312) : IntKind.i64.wrap ((k : Int).tdiv 64) = ((k / 64 : Nat) : Int) := by
  rw [Int.tdiv_eq_ediv_of_nonneg (by omega), IntKind.wrap_i64]
  omega
theorem rem64 (k : Nat) : (k : Int).tmod 64 = ((k % 64 : Nat) : Int) := by
  rw [Int.tmod_eq_emod_of_nonneg (by omega)]
  omega
def ib (b : Bool) : Int := if b then 1 else 0
theorem ib_eq (b : Bool) : (ib b == 1) = b := by cases b <;> rfl
theorem ib64 (x e : Nat) (hx : x < 2 ^ 64) : bits .and .u64 ((x / 2 ^ e : Nat) : Int) 1 = ib (x.testBit e) := bit64 x e hx
theorem vtop14_any (w0 w : World) (R : Nat) (l : List (Nat × List Value)) (T : Int) (W : Nat → Nat) (hT1 : -1 ≤ T) (hT2 : T ≤ 281474976710655) (M : Mm w0 ((R, wcv T W) :: l) w) :
    Calls Try.prog 15 #[.pointer (some ⟨R, 0, none⟩)] w fun e w' => e = .returned (.int .i64 T) ∧ Below w.heap.size w w' := by
  have hB := Below.refl w.heap.size w
  go_enter Try.func15, Try.ntmps15
  go_upto_region 0 with fail
  refine wp_region_list ?_
  refine readL (.int .i64 0) rfl (by kernel_rfl) ?_
  simp only [aP, lI, l0, lS]
  first | show Exit.then _ _ _ _ _ | show Exit.inBlock _ _ _ _ _
  go_upto_region 1 with fail
  refine wp_region_list ?_
  refine readL (.pointer (some ⟨R, 0, none⟩)) rfl (by kernel_rfl) ?_
  simp only [aP, lI, l0, lS]
  refine readL (.pointer (some ⟨R, 0, none⟩)) rfl (by kernel_rfl) ?_
  simp only [aP, lI, l0, lS]
  refine readL (.pointer (some ⟨R, 0, none⟩)) rfl (by kernel_rfl) ?_
  simp only [aP, lI, l0, lS]
  refine readL (.int .i64 (T + 1)) rfl (load1 3 _ ⟨R, 0, none⟩ _ rfl rfl (fun _ => by kernel_rfl) (M.get mS 0 _ rfl)) ?_
  simp only [aP, lI, l0, lS]
  refine readL (.int .i64 T) rfl (subI .i64 _ _ _ _ _ _ _ rfl rfl rfl (by rw [IntKind.wrap_i64]; omega) _) ?_
  simp only [aP, lI, l0, lS]
  refine readL (.int .i64 T) rfl (by kernel_rfl) ?_
  simp only [aP, lI, l0, lS]
  first | show Exit.then _ _ _ _ _ | show Exit.inBlock _ _ _ _ _
  have HS := show Hid _ from hB
  clear M hB
  go_wp2
  go_ret
  exact ⟨rfl, HS.out⟩
theorem vplace_any (w0 w : World) (R : Nat) (l : List (Nat × List Value)) (T : Int) (W : Nat → Nat) (hT1 : -1 ≤ T) (hT2 : T ≤ 281474976710655) (n : Int) (k : Nat) (hk : T - n = (k : Int)) (hk2 : k < 1024) (M : Mm w0 ((R, wcv T W) :: l) w) :
    Calls Try.prog 22 #[.pointer (some ⟨R, 0, none⟩), .int .i64 n] w fun e w' => e = .returned (.tuple #[.int .i64 ((k / 64 : Nat) : Int), .int .i64 ((k % 64 : Nat) : Int)]) ∧ Below w.heap.size w w' := by
  have hB := Below.refl w.heap.size w
  go_enter Try.func22, Try.ntmps22
  go_upto_region 0 with fail
  refine wp_region_list ?_
  refine readL (.int .i64 0) rfl (by kernel_rfl) ?_
  simp only [aP, lI, l0, lS]
  refine readL (.int .i64 0) rfl (by kernel_rfl) ?_
  simp only [aP, lI, l0, lS]
  first | show Exit.then _ _ _ _ _ | show Exit.inBlock _ _ _ _ _
  go_upto_region 1 with fail
  refine wp_region_list ?_
  refine readL (.pointer (some ⟨R, 0, none⟩)) rfl (by kernel_rfl) ?_
  simp only [aP, lI, l0, lS]
  refine callL rfl (fun _ => by kernel_rfl) (vtop14_any w0 _ R _ T W hT1 hT2 M) ?_
  rintro e w1 ⟨rfl, l1⟩
  replace M := M.call l1
  replace hB := hB.trans (l1.mono hB.size)
  clear l1
  refine ⟨_, rfl, ?_⟩
  simp only [aP, lI, l0, lS]
  refine readL (.int .i64 n) rfl (by kernel_rfl) ?_
  simp only [aP, lI, l0, lS]
  refine readL (.int .i64 ((k : Nat) : Int)) rfl (subI .i64 _ _ _ _ _ _ _ rfl rfl rfl (by rw [hk, IntKind.wrap_i64]; omega) _) ?_
  simp only [aP, lI, l0, lS]
  refine readL (.int .i64 ((k : Nat) : Int)) rfl (by kernel_rfl) ?_
  simp only [aP, lI, l0, lS]
  first | show Exit.then _ _ _ _ _ | show Exit.inBlock _ _ _ _ _
  go_upto_region 2 with fail
  refine wp_region_list ?_
  refine readL (.int .i64 ((k : Nat) : Int)) rfl (by kernel_rfl) ?_
  simp only [aP, lI, l0, lS]
  refine readL (.int .i64 ((k / 64 : Nat) : Int)) rfl (quoI .i64 _ _ _ _ _ _ _ rfl rfl rfl (by decide) (quo64 k (by omega)) _) ?_
  simp only [aP, lI, l0, lS]
  refine readL (.int .i64 ((k : Nat) : Int)) rfl (by kernel_rfl) ?_
  simp only [aP, lI, l0, lS]
  refine readL (.int .i64 ((k % 64 : Nat) : Int)) rfl (remI .i64 _ _ _ _ _ _ _ rfl rfl rfl (by decide) (rem64 k) _) ?_
  simp only [aP, lI, l0, lS]
  refine readL (.int .i64 ((k / 64 : Nat) : Int)) rfl (by kernel_rfl) ?_
  simp only [aP, lI, l0, lS]
  refine readL (.int .i64 ((k % 64 : Nat) : Int)) rfl (by kernel_rfl) ?_
  simp only [aP, lI, l0, lS]
  first | show Exit.then _ _ _ _ _ | show Exit.inBlock _ _ _ _ _
  have HS := show Hid _ from hB
  clear M hB
  go_wp2
  go_ret2
  exact ⟨rfl, HS.out⟩
theorem vmarked_any (w0 w : World) (R : Nat) (l : List (Nat × List Value)) (T : Int) (W : Nat → Nat) (hT1 : -1 ≤ T) (hT2 : T ≤ 281474976710655) (hW : ∀ i, i < 16 → W i < 2 ^ 64) (n : Int) (k : Nat) (hk : T - n = (k : Int)) (hk2 : k < 1024) (b : Bool) (hb : (W (k / 64)).testBit (k % 64) = b) (M : Mm w0 ((R, wcv T W) :: l) w) :
    Calls Try.prog 23 #[.pointer (some ⟨R, 0, none⟩), .int .i64 n] w fun e w' => e = .returned (.bool b) ∧ Below w.heap.size w w' := by
  have hB := Below.refl w.heap.size w
  go_enter Try.func23, Try.ntmps23
  go_upto_region 0 with fail
  refine wp_region_list ?_
  refine readL (.bool false) rfl (by kernel_rfl) ?_
  simp only [aP, lI, l0, lS]
  first | show Exit.then _ _ _ _ _ | show Exit.inBlock _ _ _ _ _
  go_upto_region 1 with fail
  refine wp_region_list ?_
  refine readL (.pointer (some ⟨R, 0, none⟩)) rfl (by kernel_rfl) ?_
  simp only [aP, lI, l0, lS]
  refine readL (.int .i64 n) rfl (by kernel_rfl) ?_
  simp only [aP, lI, l0, lS]
  refine callL rfl (fun _ => by kernel_rfl) (vplace_any w0 _ R _ T W hT1 hT2 n k hk hk2 M) ?_
  rintro e w1 ⟨rfl, l1⟩
  replace M := M.call l1
  replace hB := hB.trans (l1.mono hB.size)
  clear l1
  refine ⟨_, rfl, ?_⟩
  simp only [aP, lI, l0, lS]
  refine readL (.tuple #[.int .i64 ((k / 64 : Nat) : Int), .int .i64 ((k % 64 : Nat) : Int)]) rfl (by kernel_rfl) ?_
  simp only [aP, lI, l0, lS]
  refine readL (.int .i64 ((k / 64 : Nat) : Int)) rfl (by kernel_rfl) ?_
  simp only [aP, lI, l0, lS]
  refine readL (.int .i64 ((k % 64 : Nat) : Int)) rfl (by kernel_rfl) ?_
  simp only [aP, lI, l0, lS]
  refine readL (.int .i64 ((k / 64 : Nat) : Int)) rfl (by kernel_rfl) ?_
  simp only [aP, lI, l0, lS]
  refine readL (.int .i64 ((k % 64 : Nat) : Int)) rfl (by kernel_rfl) ?_
  simp only [aP, lI, l0, lS]
  first | show Exit.then _ _ _ _ _ | show Exit.inBlock _ _ _ _ _
  go_upto_region 2 with fail
  refine wp_region_list ?_
  refine readL (.pointer (some ⟨R, 0, none⟩)) rfl (by kernel_rfl) ?_
  simp only [aP, lI, l0, lS]
  refine readL (.int .i64 ((k / 64 : Nat) : Int)) rfl (by kernel_rfl) ?_
  simp only [aP, lI, l0, lS]
  refine readL (.pointer (some ⟨R, 0, none⟩)) rfl (by kernel_rfl) ?_
  simp only [aP, lI, l0, lS]
  refine readL (.pointer (some ⟨R, 1, none⟩)) rfl (by kernel_rfl) ?_
  simp only [aP, lI, l0, lS]
  refine readL (.pointer (some ⟨R, 1 + (k / 64), none⟩)) rfl (idxArr 43 42 16 .i64 R 1 (k / 64) _ _ Try.underlying43 (fun _ => by kernel_rfl) (by omega) rfl rfl rfl _) ?_
  simp only [aP, lI, l0, lS]
  refine readL (.int .u64 ((W (k / 64) : Nat) : Int)) rfl (load1 42 _ ⟨R, 1 + (k / 64), none⟩ _ rfl rfl (fun _ => by kernel_rfl) (M.get mS _ _ (wcv_get T W (k / 64) (by omega)))) ?_
  simp only [aP, lI, l0, lS]
  refine readL (.int .i64 ((k % 64 : Nat) : Int)) rfl (by kernel_rfl) ?_
  simp only [aP, lI, l0, lS]
  refine readL (.int .u64 ((W (k / 64) / 2 ^ (k % 64) : Nat) : Int)) rfl (shrI .u64 .i64 _ _ _ _ _ _ _ rfl rfl rfl (by omega) (shr64 _ _ (by omega)) _) ?_
  simp only [aP, lI, l0, lS]
  refine readL (.int .u64 (ib ((W (k / 64)).testBit (k % 64)))) rfl (vandI .u64 _ _ _ _ _ _ _ rfl rfl rfl (ib64 _ _ (hW _ (by omega))) _) ?_
  simp only [aP, lI, l0, lS]
  refine readL (.bool b) rfl (eqlI .u64 _ _ _ _ _ _ rfl rfl rfl b (by rw [ib_eq]; exact hb) _) ?_
  simp only [aP, lI, l0, lS]
  refine readL (.bool b) rfl (by kernel_rfl) ?_
  simp only [aP, lI, l0, lS]
  first | show Exit.then _ _ _ _ _ | show Exit.inBlock _ _ _ _ _
  have HS := show Hid _ from hB
  clear M hB
  go_wp2
  go_ret
  exact ⟨rfl, HS.out⟩
theorem wck_arg {L : List Int} {n : Int} (h : n < 0 ∨ 281474976710655 < n) : wchk L n = 1 := if_pos h
theorem wck_old {L : List Int} {n : Int} (h : ¬ (n < 0 ∨ 281474976710655 < n)) (h2 : n ≤ wtop L - 1024 ∨ n ∈ L) : wchk L n = 140 := by unfold wchk; rw [if_neg h, if_pos h2]
theorem wck_new {L : List Int} {n : Int} (h : ¬ (n < 0 ∨ 281474976710655 < n)) (h2 : ¬ (n ≤ wtop L - 1024 ∨ n ∈ L)) : wchk L n = 0 := by unfold wchk; rw [if_neg h, if_neg h2]
theorem vcheck14_any (w0 w : World) (R : Nat) (l : List (Nat × List Value)) (L : List Int) (W : Nat → Nat) (hL : WinL L) (hW : Wds W L) (n : Int) (hn : i64 n) (M : Mm w0 ((R, wcv (wtop L) W) :: l) w) :
    Calls Try.prog 13 #[.pointer (some ⟨R, 0, none⟩), .int .i64 n] w fun e w' => e = .returned (.int .i64 (wchk L n)) ∧ Below w.heap.size w w' := by
  have hB := Below.refl w.heap.size w
  go_enter Try.func13, Try.ntmps13
  have hT1 := wtop_ge L
  have hT2 := wtop_max hL
  unfold i64 at hn
  go_upto_region 0 with fail
  refine wp_region_list ?_
  refine readL (.int .i64 0) rfl (by kernel_rfl) ?_
  simp only [aP, lI, l0, lS]
  first | show Exit.then _ _ _ _ _ | show Exit.inBlock _ _ _ _ _
  by_cases h1 : n < 0
  · go_upto_region 1 with fail
    refine wp_region_list ?_
    refine readL (.int .i64 n) rfl (by kernel_rfl) ?_
    simp only [aP, lI, l0, lS]
    refine readL (.bool true) rfl (lssI .i64 _ _ _ _ _ _ rfl rfl rfl true (decide_eq_true (by omega)) _) ?_
    simp only [aP, lI, l0, lS]
    refine readL (.bool true) rfl (by kernel_rfl) ?_
    simp only [aP, lI, l0, lS]
    with_reducible refine skipL ?_ ?_
    · rfl
    simp only [aP, lI, l0, lS]
    with_reducible refine skipL ?_ ?_
    · rfl
    simp only [aP, lI, l0, lS]
    refine readL (.bool true) rfl (by kernel_rfl) ?_
    simp only [aP, lI, l0, lS]
    refine readL (.bool true) rfl (by kernel_rfl) ?_
    simp only [aP, lI, l0, lS]
    first | show Exit.then _ _ _ _ _ | show Exit.inBlock _ _ _ _ _
    go_upto_region 2 with fail
    refine wp_region_list ?_
    refine readL (.int .i64 1) rfl (by kernel_rfl) ?_
    simp only [aP, lI, l0, lS]
    first | show Exit.then _ _ _ _ _ | show Exit.inBlock _ _ _ _ _
    have hk_ := show Hid _ from (wck_arg (L := L) (.inl h1))
    have HS := show Hid _ from hB
    clear M hB hW hL
    go_wp2
    go_ret
    exact ⟨by rw [hk_.out]; rfl, HS.out⟩
  · by_cases h2 : 281474976710655 < n
    · go_upto_region 1 with fail
      refine wp_region_list ?_
      refine readL (.int .i64 n) rfl (by kernel_rfl) ?_
      simp only [aP, lI, l0, lS]
      refine readL (.bool false) rfl (lssI .i64 _ _ _ _ _ _ rfl rfl rfl false (decide_eq_false (by omega)) _) ?_
      simp only [aP, lI, l0, lS]
      refine readL (.bool false) rfl (by kernel_rfl) ?_
      simp only [aP, lI, l0, lS]
      refine readL (.int .i64 n) rfl (by kernel_rfl) ?_
      simp only [aP, lI, l0, lS]
      refine readL (.bool true) rfl (gtrI .i64 _ _ _ _ _ _ rfl rfl rfl true (decide_eq_true (by omega)) _) ?_
      simp only [aP, lI, l0, lS]
      refine readL (.bool true) rfl (by kernel_rfl) ?_
      simp only [aP, lI, l0, lS]
      refine readL (.bool true) rfl (by kernel_rfl) ?_
      simp only [aP, lI, l0, lS]
      first | show Exit.then _ _ _ _ _ | show Exit.inBlock _ _ _ _ _
      go_upto_region 2 with fail
      refine wp_region_list ?_
      refine readL (.int .i64 1) rfl (by kernel_rfl) ?_
      simp only [aP, lI, l0, lS]
      first | show Exit.then _ _ _ _ _ | show Exit.inBlock _ _ _ _ _
      have hk_ := show Hid _ from (wck_arg (L := L) (.inr h2))
      have HS := show Hid _ from hB
      clear M hB hW hL
      go_wp2
      go_ret
      exact ⟨by rw [hk_.out]; rfl, HS.out⟩
    · go_upto_region 1 with fail
      refine wp_region_list ?_
      refine readL (.int .i64 n) rfl (by kernel_rfl) ?_
      simp only [aP, lI, l0, lS]
      refine readL (.bool false) rfl (lssI .i64 _ _ _ _ _ _ rfl rfl rfl false (decide_eq_false (by omega)) _) ?_
      simp only [aP, lI, l0, lS]
      refine readL (.bool false) rfl (by kernel_rfl) ?_
      simp only [aP, lI, l0, lS]
      refine readL (.int .i64 n) rfl (by kernel_rfl) ?_
      simp only [aP, lI, l0, lS]
      refine readL (.bool false) rfl (gtrI .i64 _ _ _ _ _ _ rfl rfl rfl false (decide_eq_false (by omega)) _) ?_
      simp only [aP, lI, l0, lS]
      refine readL (.bool false) rfl (by kernel_rfl) ?_
      simp only [aP, lI, l0, lS]
      refine readL (.bool false) rfl (by kernel_rfl) ?_
      simp only [aP, lI, l0, lS]
      first | show Exit.then _ _ _ _ _ | show Exit.inBlock _ _ _ _ _
      by_cases h3 : n > wtop L
      · go_upto_region 3 with fail
        refine wp_region_list ?_
        refine readL (.int .i64 n) rfl (by kernel_rfl) ?_
        simp only [aP, lI, l0, lS]
        refine readL (.pointer (some ⟨R, 0, none⟩)) rfl (by kernel_rfl) ?_
        simp only [aP, lI, l0, lS]
        refine callL rfl (fun _ => by kernel_rfl) (vtop14_any w0 _ R _ (wtop L) W hT1 hT2 M) ?_
        rintro e w1 ⟨rfl, l1⟩
        replace M := M.call l1
        replace hB := hB.trans (l1.mono hB.size)
        clear l1
        refine ⟨_, rfl, ?_⟩
        simp only [aP, lI, l0, lS]
        refine readL (.bool true) rfl (gtrI .i64 _ _ _ _ _ _ rfl rfl rfl true (decide_eq_true (by omega)) _) ?_
        simp only [aP, lI, l0, lS]
        refine readL (.bool true) rfl (by kernel_rfl) ?_
        simp only [aP, lI, l0, lS]
        first | show Exit.then _ _ _ _ _ | show Exit.inBlock _ _ _ _ _
        go_upto_region 4 with fail
        refine wp_region_list ?_
        refine readL (.int .i64 0) rfl (by kernel_rfl) ?_
        simp only [aP, lI, l0, lS]
        first | show Exit.then _ _ _ _ _ | show Exit.inBlock _ _ _ _ _
        have hk_ := show Hid _ from (wck_new (L := L) (n := n) (by omega) (fun h => h.elim (fun h => by omega) (fun h => by have := wtop_le h; omega)))
        have HS := show Hid _ from hB
        clear M hB hW hL
        go_wp2
        go_ret
        exact ⟨by rw [hk_.out]; rfl, HS.out⟩
      · go_upto_region 3 with fail
        refine wp_region_list ?_
        refine readL (.int .i64 n) rfl (by kernel_rfl) ?_
        simp only [aP, lI, l0, lS]
        refine readL (.pointer (some ⟨R, 0, none⟩)) rfl (by kernel_rfl) ?_
        simp only [aP, lI, l0, lS]
        refine callL rfl (fun _ => by kernel_rfl) (vtop14_any w0 _ R _ (wtop L) W hT1 hT2 M) ?_
        rintro e w2 ⟨rfl, l1⟩
        replace M := M.call l1
        replace hB := hB.trans (l1.mono hB.size)
        clear l1
        refine ⟨_, rfl, ?_⟩
        simp only [aP, lI, l0, lS]
        refine readL (.bool false) rfl (gtrI .i64 _ _ _ _ _ _ rfl rfl rfl false (decide_eq_false (by omega)) _) ?_
        simp only [aP, lI, l0, lS]
        refine readL (.bool false) rfl (by kernel_rfl) ?_
        simp only [aP, lI, l0, lS]
        first | show Exit.then _ _ _ _ _ | show Exit.inBlock _ _ _ _ _
        by_cases h4 : n ≤ wtop L - 1024
        · go_upto_region 5 with fail
          refine wp_region_list ?_
          refine readL (.int .i64 n) rfl (by kernel_rfl) ?_
          simp only [aP, lI, l0, lS]
          refine readL (.pointer (some ⟨R, 0, none⟩)) rfl (by kernel_rfl) ?_
          simp only [aP, lI, l0, lS]
          refine callL rfl (fun _ => by kernel_rfl) (vtop14_any w0 _ R _ (wtop L) W hT1 hT2 M) ?_
          rintro e w3 ⟨rfl, l1⟩
          replace M := M.call l1
          replace hB := hB.trans (l1.mono hB.size)
          clear l1
          refine ⟨_, rfl, ?_⟩
          simp only [aP, lI, l0, lS]
          refine readL (.int .i64 ((wtop L) - 1024)) rfl (subI .i64 _ _ _ _ _ _ _ rfl rfl rfl (by rw [IntKind.wrap_i64]; omega) _) ?_
          simp only [aP, lI, l0, lS]
          refine readL (.bool true) rfl (leqI .i64 _ _ _ _ _ _ rfl rfl rfl true (decide_eq_true (by omega)) _) ?_
          simp only [aP, lI, l0, lS]
          refine readL (.bool true) rfl (by kernel_rfl) ?_
          simp only [aP, lI, l0, lS]
          with_reducible refine skipL ?_ ?_
          · rfl
          simp only [aP, lI, l0, lS]
          with_reducible refine skipL ?_ ?_
          · rfl
          simp only [aP, lI, l0, lS]
          with_reducible refine skipL ?_ ?_
          · rfl
          simp only [aP, lI, l0, lS]
          refine readL (.bool true) rfl (by kernel_rfl) ?_
          simp only [aP, lI, l0, lS]
          refine readL (.bool true) rfl (by kernel_rfl) ?_
          simp only [aP, lI, l0, lS]
          first | show Exit.then _ _ _ _ _ | show Exit.inBlock _ _ _ _ _
          go_upto_region 6 with fail
          refine wp_region_list ?_
          refine readL (.int .i64 140) rfl (by kernel_rfl) ?_
          simp only [aP, lI, l0, lS]
          first | show Exit.then _ _ _ _ _ | show Exit.inBlock _ _ _ _ _
          have hk_ := show Hid _ from (wck_old (L := L) (n := n) (by omega) (.inl h4))
          have HS := show Hid _ from hB
          clear M hB hW hL
          go_wp2
          go_ret
          exact ⟨by rw [hk_.out]; rfl, HS.out⟩
        · have hk : wtop L - n = ((wtop L - n).toNat : Int) := by omega
          by_cases hm : n ∈ L
          · go_upto_region 5 with fail
            refine wp_region_list ?_
            refine readL (.int .i64 n) rfl (by kernel_rfl) ?_
            simp only [aP, lI, l0, lS]
            refine readL (.pointer (some ⟨R, 0, none⟩)) rfl (by kernel_rfl) ?_
            simp only [aP, lI, l0, lS]
            refine callL rfl (fun _ => by kernel_rfl) (vtop14_any w0 _ R _ (wtop L) W hT1 hT2 M) ?_
            rintro e w4 ⟨rfl, l1⟩
            replace M := M.call l1
            replace hB := hB.trans (l1.mono hB.size)
            clear l1
            refine ⟨_, rfl, ?_⟩
            simp only [aP, lI, l0, lS]
            refine readL (.int .i64 ((wtop L) - 1024)) rfl (subI .i64 _ _ _ _ _ _ _ rfl rfl rfl (by rw [IntKind.wrap_i64]; omega) _) ?_
            simp only [aP, lI, l0, lS]
            refine readL (.bool false) rfl (leqI .i64 _ _ _ _ _ _ rfl rfl rfl false (decide_eq_false (by omega)) _) ?_
            simp only [aP, lI, l0, lS]
            refine readL (.bool false) rfl (by kernel_rfl) ?_
            simp only [aP, lI, l0, lS]
            refine readL (.pointer (some ⟨R, 0, none⟩)) rfl (by kernel_rfl) ?_
            simp only [aP, lI, l0, lS]
            refine readL (.int .i64 n) rfl (by kernel_rfl) ?_
            simp only [aP, lI, l0, lS]
            refine callL rfl (fun _ => by kernel_rfl) (vmarked_any w0 _ R _ (wtop L) W hT1 hT2 hW.lt n (wtop L - n).toNat hk (by omega) true ((hW.at hk (by omega)).trans (decide_eq_true hm)) M) ?_
            rintro e w5 ⟨rfl, l1⟩
            replace M := M.call l1
            replace hB := hB.trans (l1.mono hB.size)
            clear l1
            refine ⟨_, rfl, ?_⟩
            simp only [aP, lI, l0, lS]
            refine readL (.bool true) rfl (by kernel_rfl) ?_
            simp only [aP, lI, l0, lS]
            refine readL (.bool true) rfl (by kernel_rfl) ?_
            simp only [aP, lI, l0, lS]
            first | show Exit.then _ _ _ _ _ | show Exit.inBlock _ _ _ _ _
            go_upto_region 6 with fail
            refine wp_region_list ?_
            refine readL (.int .i64 140) rfl (by kernel_rfl) ?_
            simp only [aP, lI, l0, lS]
            first | show Exit.then _ _ _ _ _ | show Exit.inBlock _ _ _ _ _
            have hk_ := show Hid _ from (wck_old (L := L) (n := n) (by omega) (.inr hm))
            have HS := show Hid _ from hB
            clear M hB hW hL
            go_wp2
            go_ret
            exact ⟨by rw [hk_.out]; rfl, HS.out⟩
          · go_upto_region 5 with fail
            refine wp_region_list ?_
            refine readL (.int .i64 n) rfl (by kernel_rfl) ?_
            simp only [aP, lI, l0, lS]
            refine readL (.pointer (some ⟨R, 0, none⟩)) rfl (by kernel_rfl) ?_
            simp only [aP, lI, l0, lS]
            refine callL rfl (fun _ => by kernel_rfl) (vtop14_any w0 _ R _ (wtop L) W hT1 hT2 M) ?_
            rintro e w6 ⟨rfl, l1⟩
            replace M := M.call l1
            replace hB := hB.trans (l1.mono hB.size)
            clear l1
            refine ⟨_, rfl, ?_⟩
            simp only [aP, lI, l0, lS]
            refine readL (.int .i64 ((wtop L) - 1024)) rfl (subI .i64 _ _ _ _ _ _ _ rfl rfl rfl (by rw [IntKind.wrap_i64]; omega) _) ?_
            simp only [aP, lI, l0, lS]
            refine readL (.bool false) rfl (leqI .i64 _ _ _ _ _ _ rfl rfl rfl false (decide_eq_false (by omega)) _) ?_
            simp only [aP, lI, l0, lS]
            refine readL (.bool false) rfl (by kernel_rfl) ?_
            simp only [aP, lI, l0, lS]
            refine readL (.pointer (some ⟨R, 0, none⟩)) rfl (by kernel_rfl) ?_
            simp only [aP, lI, l0, lS]
            refine readL (.int .i64 n) rfl (by kernel_rfl) ?_
            simp only [aP, lI, l0, lS]
            refine callL rfl (fun _ => by kernel_rfl) (vmarked_any w0 _ R _ (wtop L) W hT1 hT2 hW.lt n (wtop L - n).toNat hk (by omega) false ((hW.at hk (by omega)).trans (decide_eq_false hm)) M) ?_
            rintro e w7 ⟨rfl, l1⟩
            replace M := M.call l1
            replace hB := hB.trans (l1.mono hB.size)
            clear l1
            refine ⟨_, rfl, ?_⟩
            simp only [aP, lI, l0, lS]
            refine readL (.bool false) rfl (by kernel_rfl) ?_
            simp only [aP, lI, l0, lS]
            refine readL (.bool false) rfl (by kernel_rfl) ?_
            simp only [aP, lI, l0, lS]
            first | show Exit.then _ _ _ _ _ | show Exit.inBlock _ _ _ _ _
            go_upto_region 7 with fail
            refine wp_region_list ?_
            refine readL (.int .i64 0) rfl (by kernel_rfl) ?_
            simp only [aP, lI, l0, lS]
            first | show Exit.then _ _ _ _ _ | show Exit.inBlock _ _ _ _ _
            have hk_ := show Hid _ from (wck_new (L := L) (n := n) (by omega) (fun h => h.elim h4 hm))
            have HS := show Hid _ from hB
            clear M hB hW hL
            go_wp2
            go_ret
            exact ⟨by rw [hk_.out]; rfl, HS.out⟩
theorem vones_any (w : World) (x : Nat) (hx : x < 2 ^ 64) :
    Calls Try.prog 25 #[.int .u64 (x : Int)] w fun e w' => e = .returned (.int .i64 ((pc64 x : Nat) : Int)) ∧ Below w.heap.size w w' := by
  have hpc := oc_pc x hx
  have l1 := oc1_lt x
  generalize e1 : oc1 x 6148914691236517205 = x1 at l1 hpc
  have l2 := oc2_lt x1
  generalize e2 : oc2 x1 3689348814741910323 = x2 at l2 hpc
  have l3 := oc3_lt x2
  generalize e3 : oc3 x2 1085102592571150095 = x3 at l3 hpc
  generalize e4 : oc4 x3 = x4 at hpc
  generalize e5 : oc5 x4 = x5 at hpc
  generalize e6 : oc6 x5 = x6 at hpc
  unfold oc1 at e1
  unfold oc2 at e2
  unfold oc3 at e3
  unfold oc4 at e4
  unfold oc5 at e5
  unfold oc6 at e6
  go_enter Try.func25, Try.ntmps25
  go_upto_region 0 with fail
  refine wp_region_list ?_
  refine readL (.int .i64 0) rfl (by kernel_rfl) ?_
  simp only [aP, lI, l0, lS]
  first | show Exit.then _ _ _ _ _ | show Exit.inBlock _ _ _ _ _
  go_upto_region 1 with fail
  refine wp_region_list ?_
  refine readL (.int .u64 (x : Int)) rfl (by kernel_rfl) ?_
  simp only [aP, lI, l0, lS]
  refine readL (.int .u64 ((x / 2 : Nat) : Int)) rfl (shrI .u64 .u64 _ _ _ _ _ _ _ rfl rfl rfl (by decide) (shr64 x 1 (by decide)) _) ?_
  simp only [aP, lI, l0, lS]
  refine readL (.int .u64 ((x / 2 &&& 6148914691236517205 : Nat) : Int)) rfl (vandI .u64 _ _ _ _ _ _ _ rfl rfl rfl (and64 _ 6148914691236517205 (by omega) (by decide)) _) ?_
  simp only [aP, lI, l0, lS]
  refine readL (.int .u64 (x : Int)) rfl (by kernel_rfl) ?_
  simp only [aP, lI, l0, lS]
  refine readL (.int .u64 ((x &&& 6148914691236517205 : Nat) : Int)) rfl (vandI .u64 _ _ _ _ _ _ _ rfl rfl rfl (and64 _ 6148914691236517205 (hx) (by decide)) _) ?_
  simp only [aP, lI, l0, lS]
  refine readL (.int .u64 ((x1 : Nat) : Int)) rfl (addI .u64 _ _ _ _ _ _ _ rfl rfl rfl (by rw [IntKind.wrap_u64]; omega) _) ?_
  simp only [aP, lI, l0, lS]
  refine readL (.int .u64 ((x1 : Nat) : Int)) rfl (by kernel_rfl) ?_
  simp only [aP, lI, l0]
  first | show Exit.then _ _ _ _ _ | show Exit.inBlock _ _ _ _ _
  go_upto_region 2 with fail
  refine wp_region_list ?_
  refine readL (.int .u64 ((x1 : Nat) : Int)) rfl (by kernel_rfl) ?_
  simp only [aP, lI, l0, lS]
  refine readL (.int .u64 ((x1 / 4 : Nat) : Int)) rfl (shrI .u64 .u64 _ _ _ _ _ _ _ rfl rfl rfl (by decide) (shr64 x1 2 (by decide)) _) ?_
  simp only [aP, lI, l0, lS]
  refine readL (.int .u64 ((x1 / 4 &&& 3689348814741910323 : Nat) : Int)) rfl (vandI .u64 _ _ _ _ _ _ _ rfl rfl rfl (and64 _ 3689348814741910323 (by omega) (by decide)) _) ?_
  simp only [aP, lI, l0, lS]
  refine readL (.int .u64 ((x1 : Nat) : Int)) rfl (by kernel_rfl) ?_
  simp only [aP, lI, l0, lS]
  refine readL (.int .u64 ((x1 &&& 3689348814741910323 : Nat) : Int)) rfl (vandI .u64 _ _ _ _ _ _ _ rfl rfl rfl (and64 _ 3689348814741910323 (l1) (by decide)) _) ?_
  simp only [aP, lI, l0, lS]
  refine readL (.int .u64 ((x2 : Nat) : Int)) rfl (addI .u64 _ _ _ _ _ _ _ rfl rfl rfl (by rw [IntKind.wrap_u64]; omega) _) ?_
  simp only [aP, lI, l0, lS]
  refine readL (.int .u64 ((x2 : Nat) : Int)) rfl (by kernel_rfl) ?_
  simp only [aP, lI, l0]
  first | show Exit.then _ _ _ _ _ | show Exit.inBlock _ _ _ _ _
  go_upto_region 3 with fail
  refine wp_region_list ?_
  refine readL (.int .u64 ((x2 : Nat) : Int)) rfl (by kernel_rfl) ?_
  simp only [aP, lI, l0, lS]
  refine readL (.int .u64 ((x2 / 16 : Nat) : Int)) rfl (shrI .u64 .u64 _ _ _ _ _ _ _ rfl rfl rfl (by decide) (shr64 x2 4 (by decide)) _) ?_
  simp only [aP, lI, l0, lS]
  refine readL (.int .u64 ((x2 : Nat) : Int)) rfl (by kernel_rfl) ?_
  simp only [aP, lI, l0, lS]
  refine readL (.int .u64 ((x2 / 16 + x2 : Nat) : Int)) rfl (addI .u64 _ _ _ _ _ _ _ rfl rfl rfl (by rw [IntKind.wrap_u64]; omega) _) ?_
  simp only [aP, lI, l0, lS]
  refine readL (.int .u64 ((x3 : Nat) : Int)) rfl (vandI .u64 _ _ _ _ _ _ _ rfl rfl rfl (by rw [← e3]; exact and64 _ 1085102592571150095 (by omega) (by decide)) _) ?_
  simp only [aP, lI, l0, lS]
  refine readL (.int .u64 ((x3 : Nat) : Int)) rfl (by kernel_rfl) ?_
  simp only [aP, lI, l0]
  first | show Exit.then _ _ _ _ _ | show Exit.inBlock _ _ _ _ _
  go_upto_region 4 with fail
  refine wp_region_list ?_
  refine readL (.int .u64 ((x3 : Nat) : Int)) rfl (by kernel_rfl) ?_
  simp only [aP, lI, l0, lS]
  refine readL (.int .u64 ((x3 : Nat) : Int)) rfl (by kernel_rfl) ?_
  simp only [aP, lI, l0, lS]
  refine readL (.int .u64 ((x3 / 256 : Nat) : Int)) rfl (shrI .u64 .u64 _ _ _ _ _ _ _ rfl rfl rfl (by decide) (shr64 x3 8 (by decide)) _) ?_
  simp only [aP, lI, l0, lS]
  refine readL (.int .u64 ((x4 : Nat) : Int)) rfl (addI .u64 _ _ _ _ _ _ _ rfl rfl rfl (by rw [IntKind.wrap_u64]; omega) _) ?_
  simp only [aP, lI, l0, lS]
  refine readL (.int .u64 ((x4 : Nat) : Int)) rfl (by kernel_rfl) ?_
  simp only [aP, lI, l0]
  first | show Exit.then _ _ _ _ _ | show Exit.inBlock _ _ _ _ _
  go_upto_region 5 with fail
  refine wp_region_list ?_
  refine readL (.int .u64 ((x4 : Nat) : Int)) rfl (by kernel_rfl) ?_
  simp only [aP, lI, l0, lS]
  refine readL (.int .u64 ((x4 : Nat) : Int)) rfl (by kernel_rfl) ?_
  simp only [aP, lI, l0, lS]
  refine readL (.int .u64 ((x4 / 65536 : Nat) : Int)) rfl (shrI .u64 .u64 _ _ _ _ _ _ _ rfl rfl rfl (by decide) (shr64 x4 16 (by decide)) _) ?_
  simp only [aP, lI, l0, lS]
  refine readL (.int .u64 ((x5 : Nat) : Int)) rfl (addI .u64 _ _ _ _ _ _ _ rfl rfl rfl (by rw [IntKind.wrap_u64]; omega) _) ?_
  simp only [aP, lI, l0, lS]
  refine readL (.int .u64 ((x5 : Nat) : Int)) rfl (by kernel_rfl) ?_
  simp only [aP, lI, l0]
  first | show Exit.then _ _ _ _ _ | show Exit.inBlock _ _ _ _ _
  go_upto_region 6 with fail
  refine wp_region_list ?_
  refine readL (.int .u64 ((x5 : Nat) : Int)) rfl (by kernel_rfl) ?_
  simp only [aP, lI, l0, lS]
  refine readL (.int .u64 ((x5 : Nat) : Int)) rfl (by kernel_rfl) ?_
  simp only [aP, lI, l0, lS]
  refine readL (.int .u64 ((x5 / 4294967296 : Nat) : Int)) rfl (shrI .u64 .u64 _ _ _ _ _ _ _ rfl rfl rfl (by decide) (shr64 x5 32 (by decide)) _) ?_
  simp only [aP, lI, l0, lS]
  refine readL (.int .u64 ((x6 : Nat) : Int)) rfl (addI .u64 _ _ _ _ _ _ _ rfl rfl rfl (by rw [IntKind.wrap_u64]; omega) _) ?_
  simp only [aP, lI, l0, lS]
  refine readL (.int .u64 ((x6 : Nat) : Int)) rfl (by kernel_rfl) ?_
  simp only [aP, lI, l0]
  first | show Exit.then _ _ _ _ _ | show Exit.inBlock _ _ _ _ _
  go_upto_region 7 with fail
  refine wp_region_list ?_
  refine readL (.int .u64 ((x6 : Nat) : Int)) rfl (by kernel_rfl) ?_
  simp only [aP, lI, l0, lS]
  refine readL (.int .i64 ((x6 : Nat) : Int)) rfl (convI .u64 .i64 _ _ _ _ _ rfl (by kernel_rfl) Try.underlying3 (by kernel_rfl) rfl (by rw [IntKind.wrap_i64]; omega) _) ?_
  simp only [aP, lI, l0, lS]
  refine readL (.int .i64 ((x6 % 128 : Nat) : Int)) rfl (vandI .i64 _ _ _ _ _ _ _ rfl rfl rfl (and_i64 x6 (by omega)) _) ?_
  simp only [aP, lI, l0, lS]
  refine readL (.int .i64 ((x6 % 128 : Nat) : Int)) rfl (by kernel_rfl) ?_
  simp only [aP, lI, l0, lS]
  first | show Exit.then _ _ _ _ _ | show Exit.inBlock _ _ _ _ _
  rw [hpc]
  go_wp2
  go_ret
  exact ⟨rfl, Below.refl _ _⟩
theorem idxA16 {o : Oper} {a : Act} (f : Nat → Int) (j : Nat) (hj : j < 16) (x y : Operand) (ho : o.op = .index 43 x y) (hx : a.eval x = .agg (row .u64 16 f).toArray) (hy : a.eval y = .int .i64 (j : Int)) (w : World) :
    (execOp a.eval o).run Try.prog w = .ok (.value (.int .u64 (f j))) w := by
  have hs : ∀ w, (sizeOf 42).run Try.prog w = .ok 1 w := fun w => by kernel_rfl
  have ha : ∀ w, (isAgg 42).run Try.prog w = .ok false w := fun w => by kernel_rfl
  have hg := row_get .u64 16 f j hj
  have e1 : (Instr.index 43 (.agg (row .u64 16 f).toArray) (.int .i64 (j : Int))).run Try.prog w = .ok (.int .u64 (f j)) w := by
    simp [Instr.index, run_underlying Try.underlying43, asIntOf, hs, ha, part, hg, hj, go_sem]
  unfold execOp
  simp only [ho, hx, hy, Sem.run_bind, e1, Result.andThen_ok, Sem.run_pure]
theorem vcount_any (w0 w : World) (R : Nat) (l : List (Nat × List Value)) (L : List Int) (W : Nat → Nat) (hL : WinL L) (hW : Wds W L) (M : Mm w0 ((R, wcv (wtop L) W) :: l) w) :
    Calls Try.prog 17 #[.pointer (some ⟨R, 0, none⟩)] w fun e w' => e = .returned (.int .i64 ((wcnt L : Nat) : Int)) ∧ Below w.heap.size w w' := by
  have hB := Below.refl w.heap.size w
  go_enter Try.func17, Try.ntmps17
  have hcl := fct_le (wsee L)
  go_upto_region 0 with fail
  refine wp_region_list ?_
  refine readL (.int .i64 0) rfl (by kernel_rfl) ?_
  simp only [aP, lI, l0, lS]
  first | show Exit.then _ _ _ _ _ | show Exit.inBlock _ _ _ _ _
  go_upto_region 1 with fail
  refine wp_region_list ?_
  refine readL (.int .i64 0) rfl (by kernel_rfl) ?_
  simp only [aP, lI, l0, lS]
  first | show Exit.then _ _ _ _ _ | show Exit.inBlock _ _ _ _ _
  go_upto_region 2 with fail
  refine wp_region_list ?_
  refine readL (.pointer (some ⟨R, 0, none⟩)) rfl (by kernel_rfl) ?_
  simp only [aP, lI, l0, lS]
  refine readL (.pointer (some ⟨R, 0, none⟩)) rfl (by kernel_rfl) ?_
  simp only [aP, lI, l0, lS]
  refine readL (.pointer (some ⟨R, 1, none⟩)) rfl (by kernel_rfl) ?_
  simp only [aP, lI, l0, lS]
  refine readL (.agg (row .u64 16 (fun i => (W i : Int))).toArray) rfl (loadN 43 _ ⟨R, 1, none⟩ (row .u64 16 (fun i => (W i : Int))) rfl rfl (fun _ => by kernel_rfl) (fun _ => by rw [row_length]; kernel_rfl) (M.part mS 1 _ (wcv_arr (wtop L) W))) ?_
  simp only [aP, lI, l0, lS]
  refine readL (.int .i64 0) rfl (by kernel_rfl) ?_
  simp only [aP, lI, l0, lS]
  first | show Exit.then _ _ _ _ _ | show Exit.inBlock _ _ _ _ _
  have HI := show Hid _ from (And.intro M hB)
  clear M hB
  go_wp2
  go_loopw [3, 10] (fun s i w' => ∃ j : Nat, j ≤ 16 ∧ s = .int .i64 ((fct (wsee L) (64 * j) : Nat) : Int) ∧ i = .int .i64 (j : Int) ∧ Mm w0 ((R, wcv (wtop L) W) :: l) w' ∧ Below w.heap.size w w') (fun _ i _ => 16 - (intOf i).toNat)
  case atStart => exact ⟨0, Nat.zero_le _, rfl, rfl, HI.out⟩
  case round =>
    clear HI
    obtain ⟨j, hj, rfl, rfl, M, hB⟩ := hrel
    by_cases hlt : j < 16
    · have hc1 := hcl (64 * j)
      have hc2 := fct_le (W j).testBit 64
      have hs := Bts.sum hW j hlt
      have hc3 : pc64 (W j) ≤ 64 := hc2
      go_upto_region 3 with fail
      refine wp_region_list ?_
      refine readL (.bool true) rfl (lssI .i64 _ _ _ _ _ _ rfl rfl rfl true (decide_eq_true (by omega)) _) ?_
      simp only [aP, lI, l0, lS]
      first | show Exit.then _ _ _ _ _ | show Exit.inBlock _ _ _ _ _
      go_upto_region 4 with fail
      refine wp_region_list ?_
      refine readL (.int .u64 ((W j : Nat) : Int)) rfl (idxA16 (fun i => (W i : Int)) j hlt _ _ rfl rfl rfl _) ?_
      simp only [aP, lI, l0, lS]
      refine readL (.int .u64 ((W j : Nat) : Int)) rfl (by kernel_rfl) ?_
      simp only [aP, lI, l0, lS]
      first | show Exit.then _ _ _ _ _ | show Exit.inBlock _ _ _ _ _
      go_upto_region 5 with fail
      refine wp_region_list ?_
      refine readL (.int .i64 ((fct (wsee L) (64 * j) : Nat) : Int)) rfl (by kernel_rfl) ?_
      simp only [aP, lI, l0, lS]
      refine readL (.int .u64 ((W j : Nat) : Int)) rfl (by kernel_rfl) ?_
      simp only [aP, lI, l0, lS]
      refine callL rfl (fun _ => by kernel_rfl) (vones_any _ (W j) (hW.lt j hlt)) ?_
      rintro e w1 ⟨rfl, l1⟩
      replace M := M.call l1
      replace hB := hB.trans (l1.mono hB.size)
      clear l1
      refine ⟨_, rfl, ?_⟩
      simp only [aP, lI, l0, lS]
      refine readL (.int .i64 ((fct (wsee L) (64 * (j + 1)) : Nat) : Int)) rfl (addI .i64 _ _ _ _ _ _ _ rfl rfl rfl (by rw [IntKind.wrap_i64]; omega) _) ?_
      simp only [aP, lI, l0, lS]
      refine readL (.int .i64 ((fct (wsee L) (64 * (j + 1)) : Nat) : Int)) rfl (by kernel_rfl) ?_
      simp only [aP, lI, l0, lS]
      first | show Exit.then _ _ _ _ _ | show Exit.inBlock _ _ _ _ _
      have HS := show Hid _ from (And.intro M hB)
      clear M hB hW hL hs
      go_wp2
      go_roundw
      case rel => exact ⟨j + 1, by omega, rfl, by go_num, HS.out⟩
      case measure => simp [intOf]; omega
    · obtain rfl : j = 16 := by omega
      rw [show 64 * 16 = 1024 from rfl, fct_cnt hL]
      go_upto_region 3 with fail
      refine wp_region_list ?_
      refine readL (.bool false) rfl (lssI .i64 _ _ _ _ _ _ rfl rfl rfl false (decide_eq_false (by omega)) _) ?_
      simp only [aP, lI, l0, lS]
      first | show Exit.then _ _ _ _ _ | show Exit.inBlock _ _ _ _ _
      go_upto_region 7 with fail
      refine wp_region_list ?_
      refine readL (.int .i64 ((wcnt L : Nat) : Int)) rfl (by kernel_rfl) ?_
      simp only [aP, lI, l0, lS]
      refine readL (.int .i64 ((wcnt L : Nat) : Int)) rfl (by kernel_rfl) ?_
      simp only [aP, lI, l0, lS]
      first | show Exit.then _ _ _ _ _ | show Exit.inBlock _ _ _ _ _
      have HS := show Hid _ from hB
      clear M hB hW hL
      go_wp2
      go_ret
      exact ⟨rfl, HS.out⟩
def VI (v : Value) (L : List Int) (bs : List (Nat × List Value)) : Prop := ∃ R W, v = .pointer (some ⟨R, 0, none⟩) ∧ Wds W L ∧ bs = [(R, wcv (wtop L) W)]
theorem vnew14_any (w0 w : World) (l : List (Nat × List Value)) (M : Mm w0 l w) :
    Calls Try.prog 8 #[] w fun e w' => ∃ v bs, e = .returned v ∧ VI v [] bs ∧ Mm w0 (bs ++ l) w' ∧ Below w.heap.size w w' := by
  have hB := Below.refl w.heap.size w
  go_enter Try.func8, Try.ntmps8
  go_upto_region 0 with fail
  refine wp_region_list ?_
  refine readL (.pointer none) rfl (by kernel_rfl) ?_
  simp only [aP, lI, l0]
  first | show Exit.then _ _ _ _ _ | show Exit.inBlock _ _ _ _ _
  go_upto_region 1 with fail
  refine wp_region_list ?_
  refine readL (.agg (wcv (-1) (fun _ => 0)).toArray) rfl (by kernel_rfl) ?_
  simp only [aP, lI, l0, lS]
  have hlb := (Below.refl w.heap.size w).alloc (Nat.le_refl _) (.cells (wcv (-1) (fun _ => 0)).toArray 45)
  refine actL (w' := w.alloc (.cells (wcv (-1) (fun _ => 0)).toArray 45)) (.pointer (some ⟨w.heap.size, 0, none⟩)) rfl (by kernel_rfl) ?_
  simp only [aP, lI, l0, lS]
  replace hB := hB.trans (hlb.mono hB.size)
  replace M := M.box (wcv (-1) (fun _ => 0)).toArray 45 w.heap.size rfl
  clear hlb
  generalize w.alloc (.cells (wcv (-1) (fun _ => 0)).toArray 45) = w1 at M hB ⊢
  generalize eB : w.heap.size = B at M ⊢
  have hBz : w.heap.size ≤ B := by rw [← eB]; exact Nat.le_refl _
  clear eB
  replace M : Mm w0 ((B, wcv (-1) (fun _ => 0)) :: l) w1 := M
  refine readL (.pointer (some ⟨B, 0, none⟩)) rfl (by kernel_rfl) ?_
  simp only [aP, lI, l0]
  first | show Exit.then _ _ _ _ _ | show Exit.inBlock _ _ _ _ _
  have HS := show Hid _ from (And.intro M hB)
  clear M hB
  go_wp2
  go_ret
  exact ⟨_, _, rfl, ⟨B, fun _ => 0, rfl, Bts.nil, rfl⟩, HS.out.1, HS.out.2⟩
end
end Go.Proofs.Ytglnmmajgedinaa
