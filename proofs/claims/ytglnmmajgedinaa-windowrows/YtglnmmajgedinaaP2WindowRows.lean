/- Texts of LawWindowRows Fl Fm Fn Fq, joined. -/
import Derived.Test.YtglnmmajgedinaaP1WindowRows
set_option maxRecDepth 20000
set_option maxHeartbeats 64000000
namespace Go.Proofs.Ytglnmmajgedinaa
open Go.RowKit
theorem wrow_w {a : Int} (ha : 0 ≤ a) : ∀ n : Nat, a + n ≤ 281474976710655 → WinL (wrow a n)
  | 0, _ => winL_nil
  | n + 1, h => by
    rw [← wrow_mk ha n (by omega)]
    exact wmk_w (wrow_w ha n (by omega)) _
theorem tmod_nat (m : Int) (h : 0 ≤ m) (k : Nat) (hk : 0 < k) : ∃ N : Nat, m.tmod k = (N : Int) ∧ N < k := by
  obtain ⟨x, rfl⟩ := Int.eq_ofNat_of_zero_le h
  exact ⟨x % k, (Int.ofNat_tmod x k).symm, Nat.mod_lt _ hk⟩
theorem law_WindowRows {I : Value → List Int → List (Nat × List Value) → Prop} (hK : WinOK I) (a z : Int) (hi : i64 a) (hz : i64 z) (w0 : World) :
    Calls Try.prog 5 #[.int .i64 a, .int .i64 z] w0 fun e w' => e = .returned (.bool true) ∧ Below w0.heap.size w0 w' := by
  have M := Mm.init w0
  go_enter Try.func5, Try.ntmps5
  unfold i64 at hi hz
  go_upto_region 0 with fail
  refine wp_region_list ?_
  refine readL (.bool false) rfl (by kernel_rfl) ?_
  simp only [aP, lI, l0, lS]
  first | show Exit.then _ _ _ _ _ | show Exit.inBlock _ _ _ _ _
  go_upto_region 1 with fail
  refine wp_region_list ?_
  refine callL rfl (fun _ => by kernel_rfl) (shown14_any hK _) ?_
  rintro e w1 ⟨rfl, l⟩
  replace M := M.call l
  clear l
  refine ⟨_, rfl, ?_⟩
  simp only [aP, lI, l0, lS]
  refine readL (.bool true) rfl (by kernel_rfl) ?_
  simp only [aP, lI, l0, lS]
  first | show Exit.then _ _ _ _ _ | show Exit.inBlock _ _ _ _ _
  go_upto_region 2 with fail
  refine wp_region_list ?_
  have key := hK.new w0 _ _ M
  refine callL rfl (fun _ => by kernel_rfl) key ?_
  clear key
  rintro e w2 ⟨v_, ba0, rfl, hIa, M', l⟩
  obtain ⟨Ra, rfl⟩ := hK.ptr _ _ _ hIa
  clear M
  have M := M'.perm (pull0 ([] : List (Nat × List Value)) ba0 ([] : List (Nat × List Value))).symm
  clear M'
  clear l
  replace M : Mm w0 ((ba0 ++ ([] : List (Nat × List Value)))) w2 := M
  refine ⟨_, rfl, ?_⟩
  simp only [aP, lI, l0, lS]
  refine readL (.pointer (some ⟨Ra, 0, none⟩)) rfl (by kernel_rfl) ?_
  simp only [aP, lI, l0, lS]
  first | show Exit.then _ _ _ _ _ | show Exit.inBlock _ _ _ _ _
  go_upto_region 3 with fail
  refine wp_region_list ?_
  refine readL (.bool true) rfl (by kernel_rfl) ?_
  simp only [aP, lI, l0, lS]
  refine readL (.bool false) rfl (by kernel_rfl) ?_
  simp only [aP, lI, l0, lS]
  refine readL (.bool false) rfl (by kernel_rfl) ?_
  simp only [aP, lI, l0, lS]
  refine readL (.pointer (some ⟨Ra, 0, none⟩)) rfl (by kernel_rfl) ?_
  simp only [aP, lI, l0, lS]
  refine readL (.bool false) rfl (by kernel_rfl) ?_
  simp only [aP, lI, l0, lS]
  refine readL (.bool false) rfl (by kernel_rfl) ?_
  simp only [aP, lI, l0, lS]
  first | show Exit.then _ _ _ _ _ | show Exit.inBlock _ _ _ _ _
  go_upto_region 5 with fail
  refine wp_region_list ?_
  refine readL (.int .i64 a) rfl (by kernel_rfl) ?_
  simp only [aP, lI, l0, lS]
  obtain ⟨b1, hb1⟩ : ∃ y_, y_ = (decide (a < 0)) := ⟨_, rfl⟩
  refine readL (.bool b1) rfl (lssI .i64 _ _ _ _ _ _ rfl rfl rfl b1 hb1.symm _) ?_
  simp only [aP, lI, l0, lS]
  refine readL (.bool b1) rfl (by kernel_rfl) ?_
  simp only [aP, lI, l0, lS]
  refine mayL (!b1) (.int .i64 a) ((bif b1 then undef else (.int .i64 a))) (by cases b1 <;> rfl) (by cases b1 <;> rfl) (fun hc => by cases b1 <;> first | (cases hc; done) | kernel_rfl) ?_
  simp only [aP, lI, l0, lS]
  obtain ⟨b2, hb2⟩ : ∃ y_, y_ = (decide (a > 281474976707655)) := ⟨_, rfl⟩
  refine mayL (!b1) (.bool b2) ((bif b1 then undef else (.bool b2))) (by cases b1 <;> rfl) (by cases b1 <;> rfl) (fun hc => by cases b1 <;> first | (cases hc; done) | exact (gtrI .i64 _ _ _ _ _ _ rfl rfl rfl b2 hb2.symm _)) ?_
  simp only [aP, lI, l0, lS]
  obtain ⟨b3, hb3⟩ : ∃ y_, y_ = (b1 || b2) := ⟨_, rfl⟩
  refine readL (.bool b3) rfl (by subst hb3; cases b1 <;> rfl) ?_
  simp only [aP, lI, l0, lS]
  first | show Exit.then _ _ _ _ _ | show Exit.inBlock _ _ _ _ _
  cases b3 with
  | true =>
    try clear hb1
    try clear hb2
    try clear hb3
    go_upto_region 6 with fail
    refine wp_region_list ?_
    refine readL (.bool true) rfl (by kernel_rfl) ?_
    simp only [aP, lI, l0, lS]
    first | show Exit.then _ _ _ _ _ | show Exit.inBlock _ _ _ _ _
    have hbel := M.below
    clear M 
    go_wp2
    go_ret
    exact ⟨rfl, hbel⟩
  | false =>
    have hr : 0 ≤ a ∧ a ≤ 281474976707655 := by
      simp only [hb1, hb2] at hb3
      simp at hb3
      omega
    obtain ⟨ha, ha2⟩ := hr
    try clear hb1
    try clear hb2
    try clear hb3
    by_cases hneg : z < 0
    · go_upto_region 7 with fail
      refine wp_region_list ?_
      refine readL (.int .i64 z) rfl (by kernel_rfl) ?_
      simp only [aP, lI, l0, lS]
      refine readL (.bool true) rfl (lssI .i64 _ _ _ _ _ _ rfl rfl rfl true (decide_eq_true hneg) _) ?_
      simp only [aP, lI, l0, lS]
      first | show Exit.then _ _ _ _ _ | show Exit.inBlock _ _ _ _ _
      go_upto_region 8 with fail
      refine wp_region_list ?_
      refine readL (.int .i64 z) rfl (by kernel_rfl) ?_
      simp only [aP, lI, l0, lS]
      refine readL (.int .i64 (z + 1)) rfl (addI .i64 _ _ _ _ _ _ _ rfl rfl rfl (by rw [IntKind.wrap_i64]; omega) _) ?_
      simp only [aP, lI, l0, lS]
      refine readL (.int .i64 (-(z + 1))) rfl (negI .i64 _ _ _ _ rfl rfl (by rw [IntKind.wrap_i64]; omega) _) ?_
      simp only [aP, lI, l0, lS]
      refine readL (.int .i64 (-(z + 1))) rfl (by kernel_rfl) ?_
      simp only [aP, lI, l0, lS]
      first | show Exit.then _ _ _ _ _ | show Exit.inBlock _ _ _ _ _
      obtain ⟨N, hN, hN2⟩ := tmod_nat (-(z + 1)) (by omega) 2000 (by decide)
      go_upto_region 9 with fail
      refine wp_region_list ?_
      refine readL (.int .i64 (-(z + 1))) rfl (by kernel_rfl) ?_
      simp only [aP, lI, l0, lS]
      refine readL (.int .i64 (N : Int)) rfl (remI .i64 _ _ _ _ _ _ _ rfl rfl rfl (by decide) hN _) ?_
      simp only [aP, lI, l0, lS]
      refine readL (.int .i64 ((N + 2 : Nat) : Int)) rfl (addI .i64 _ _ _ _ _ _ _ rfl rfl rfl (by rw [IntKind.wrap_i64]; omega) _) ?_
      simp only [aP, lI, l0, lS]
      refine readL (.int .i64 ((N + 2 : Nat) : Int)) rfl (by kernel_rfl) ?_
      simp only [aP, lI, l0, lS]
      first | show Exit.then _ _ _ _ _ | show Exit.inBlock _ _ _ _ _
      go_upto_region 10 with fail
      refine wp_region_list ?_
      refine readL (.int .i64 0) rfl (by kernel_rfl) ?_
      simp only [aP, lI, l0, lS]
      first | show Exit.then _ _ _ _ _ | show Exit.inBlock _ _ _ _ _
      have HI := show Hid _ from (show I (.pointer (some ⟨Ra, 0, none⟩)) (wrow a 0) ba0 ∧ Mm w0 (ba0 ++ ([] : List (Nat × List Value))) w2 from ⟨hIa, M⟩)
      clear M hIa hN
      go_wp2
      go_loopw [8] (fun i w' => ∃ (q : Nat) (bs : List (Nat × List Value)), q ≤ N + 2 ∧ i = .int .i64 (q : Int) ∧ I (.pointer (some ⟨Ra, 0, none⟩)) (wrow a q) bs ∧ Mm w0 (bs ++ ([] : List (Nat × List Value))) w') (fun i _ => N + 2 - (intOf i).toNat)
      case atStart => exact ⟨0, _, by omega, rfl, HI.out⟩
      case round =>
        clear HI
        obtain ⟨q, bs, hq, rfl, hIa, M⟩ := hrel
        by_cases hlt : q < N + 2
        · go_upto_region 11 with fail
          refine wp_region_list ?_
          refine readL (.int .i64 (q : Int)) rfl (by kernel_rfl) ?_
          simp only [aP, lI, l0, lS]
          refine readL (.int .i64 ((N + 2 : Nat) : Int)) rfl (by kernel_rfl) ?_
          simp only [aP, lI, l0, lS]
          refine readL (.bool true) rfl (lssI .i64 _ _ _ _ _ _ rfl rfl rfl true (decide_eq_true (by omega)) _) ?_
          simp only [aP, lI, l0, lS]
          first | show Exit.then _ _ _ _ _ | show Exit.inBlock _ _ _ _ _
          go_upto_region 13 with fail
          refine wp_region_list ?_
          refine readL (.pointer (some ⟨Ra, 0, none⟩)) rfl (by kernel_rfl) ?_
          simp only [aP, lI, l0, lS]
          refine readL (.int .i64 a) rfl (by kernel_rfl) ?_
          simp only [aP, lI, l0, lS]
          refine readL (.int .i64 (q : Int)) rfl (by kernel_rfl) ?_
          simp only [aP, lI, l0, lS]
          refine readL (.int .i64 (a + (q : Int))) rfl (addI .i64 _ _ _ _ _ _ _ rfl rfl rfl (by rw [IntKind.wrap_i64]; omega) _) ?_
          simp only [aP, lI, l0, lS]
          have Mp := M.perm (pull0 ([] : List (Nat × List Value)) bs ([] : List (Nat × List Value)))
          have key := hK.mrk w0 _ _ (wrow a q) bs _ (a + (q : Int)) (wrow_w ha q (by omega)) (by rw [wrow_len]; omega) (by unfold i64; omega) hIa Mp
          rw [wrow_chk ha q (by omega), wrow_mk ha q (by omega)] at key
          refine callL rfl (fun _ => by kernel_rfl) key ?_
          clear key
          rintro e w3 ⟨rfl, ba1, hI_, hsub, M', o1⟩
          clear o1 hsub Mp M hIa
          have hIa := hI_
          clear hI_
          have M : Mm w0 ((ba1 ++ ([] : List (Nat × List Value)))) w3 := M'.perm (pull0 ([] : List (Nat × List Value)) ba1 ([] : List (Nat × List Value))).symm
          clear M'
          refine ⟨_, rfl, ?_⟩
          simp only [aP, lI, l0, lS]
          refine readL (.bool false) rfl (neqI .i64 _ _ _ _ _ _ rfl rfl rfl false (by decide) _) ?_
          simp only [aP, lI, l0, lS]
          first | show Exit.then _ _ _ _ _ | show Exit.inBlock _ _ _ _ _
          have HS := show Hid _ from (And.intro hIa M)
          clear M hIa
          go_wp2
          go_roundw
          case rel => exact ⟨q + 1, _, by omega, by go_num, HS.out⟩
          case measure => simp [intOf]; omega
        · obtain rfl : q = N + 2 := by omega
          go_upto_region 11 with fail
          refine wp_region_list ?_
          refine readL (.int .i64 ((N + 2 : Nat) : Int)) rfl (by kernel_rfl) ?_
          simp only [aP, lI, l0, lS]
          refine readL (.int .i64 ((N + 2 : Nat) : Int)) rfl (by kernel_rfl) ?_
          simp only [aP, lI, l0, lS]
          refine readL (.bool false) rfl (lssI .i64 _ _ _ _ _ _ rfl rfl rfl false (decide_eq_false (by omega)) _) ?_
          simp only [aP, lI, l0, lS]
          first | show Exit.then _ _ _ _ _ | show Exit.inBlock _ _ _ _ _
          go_upto_region 15 with fail
          refine wp_region_list ?_
          refine readL (.pointer (some ⟨Ra, 0, none⟩)) rfl (by kernel_rfl) ?_
          simp only [aP, lI, l0, lS]
          have Mp := M.perm (pull0 ([] : List (Nat × List Value)) bs ([] : List (Nat × List Value)))
          have hq_4_a := Mp.lts
          have key := hK.bel w0 _ _ (wrow a (N + 2)) bs _ 3 (wrow_w ha (N + 2) (by omega)) (by unfold i64; decide) hIa Mp
          clear Mp
          rw [wrow_bel ha N] at key
          refine callL rfl (fun _ => by kernel_rfl) key ?_
          clear key
          rintro e w4 ⟨⟨v_, rfl, N_4⟩, l⟩
          replace M := M.call l
          clear l
          obtain ⟨p4, c4, rfl, hcc_4⟩ := NewW.slice N_4
          refine ⟨_, rfl, ?_⟩
          simp only [aP, lI, l0, lS]
          refine readL (.slice p4 (([(max a (a + ((N + 1 : Nat) : Int) - 1023), a + ((N + 1 : Nat) : Int))] : List (Int × Int)).length) c4) rfl (by kernel_rfl) ?_
          simp only [aP, lI, l0, lS]
          first | show Exit.then _ _ _ _ _ | show Exit.inBlock _ _ _ _ _
          go_upto_region 16 with fail
          refine wp_region_list ?_
          refine readL (.int .i64 ((N + 2 : Nat) : Int)) rfl (by kernel_rfl) ?_
          simp only [aP, lI, l0, lS]
          refine readL (.int .i64 ((min (N + 2) 1024 : Nat) : Int)) rfl (minI .i64 .i64 _ _ _ _ _ _ _ rfl rfl rfl (by split <;> omega) _) ?_
          simp only [aP, lI, l0, lS]
          refine readL (.int .i64 ((min (N + 2) 1024 : Nat) : Int)) rfl (by kernel_rfl) ?_
          simp only [aP, lI, l0, lS]
          first | show Exit.then _ _ _ _ _ | show Exit.inBlock _ _ _ _ _
          go_upto_region 17 with fail
          refine wp_region_list ?_
          refine readL (.int .i64 a) rfl (by kernel_rfl) ?_
          simp only [aP, lI, l0, lS]
          refine readL (.int .i64 ((N + 2 : Nat) : Int)) rfl (by kernel_rfl) ?_
          simp only [aP, lI, l0, lS]
          refine readL (.int .i64 (a + ((N + 2 : Nat) : Int))) rfl (addI .i64 _ _ _ _ _ _ _ rfl rfl rfl (by rw [IntKind.wrap_i64]; omega) _) ?_
          simp only [aP, lI, l0, lS]
          refine readL (.int .i64 (a + ((N + 1 : Nat) : Int))) rfl (subI .i64 _ _ _ _ _ _ _ rfl rfl rfl (by rw [IntKind.wrap_i64]; omega) _) ?_
          simp only [aP, lI, l0, lS]
          refine readL (.int .i64 (a + ((N + 1 : Nat) : Int))) rfl (by kernel_rfl) ?_
          simp only [aP, lI, l0, lS]
          first | show Exit.then _ _ _ _ _ | show Exit.inBlock _ _ _ _ _
          by_cases h24 : a + ((N + 1 : Nat) : Int) < 1024
          · go_upto_region 18 with fail
            refine wp_region_list ?_
            refine readL (.pointer (some ⟨Ra, 0, none⟩)) rfl (by kernel_rfl) ?_
            simp only [aP, lI, l0, lS]
            have Mp := M.perm (pull0 ([] : List (Nat × List Value)) bs ([] : List (Nat × List Value)))
            have key := hK.top w0 _ _ (wrow a (N + 2)) bs _ (wrow_w ha (N + 2) (by omega)) hIa Mp
            clear Mp
            rw [show wtop (wrow a (N + 2)) = a + ((N + 1 : Nat) : Int) from wrow_top ha (N + 1)] at key
            refine callL rfl (fun _ => by kernel_rfl) key ?_
            clear key
            rintro e w5 ⟨rfl, l⟩
            replace M := M.call l
            replace N_4 := NewW.below N_4 l
            clear l
            refine ⟨_, rfl, ?_⟩
            simp only [aP, lI, l0, lS]
            refine readL (.int .i64 (a + ((N + 1 : Nat) : Int))) rfl (by kernel_rfl) ?_
            simp only [aP, lI, l0, lS]
            refine readL (.bool true) rfl (eqlI .i64 _ _ _ _ _ _ rfl rfl rfl true (beq_self_eq_true _) _) ?_
            simp only [aP, lI, l0, lS]
            refine readL (.bool true) rfl (by kernel_rfl) ?_
            simp only [aP, lI, l0, lS]
            refine readL (.pointer (some ⟨Ra, 0, none⟩)) rfl (by kernel_rfl) ?_
            simp only [aP, lI, l0, lS]
            have Mp := M.perm (pull0 ([] : List (Nat × List Value)) bs ([] : List (Nat × List Value)))
            have key := hK.cnt w0 _ _ (wrow a (N + 2)) bs _ (wrow_w ha (N + 2) (by omega)) hIa Mp
            clear Mp
            rw [show wcnt (wrow a (N + 2)) = min (N + 2) 1024 from wrow_cnt ha (N + 1)] at key
            refine callL rfl (fun _ => by kernel_rfl) key ?_
            clear key
            rintro e w6 ⟨rfl, l⟩
            replace M := M.call l
            replace N_4 := NewW.below N_4 l
            clear l
            refine ⟨_, rfl, ?_⟩
            simp only [aP, lI, l0, lS]
            refine readL (.int .i64 ((min (N + 2) 1024 : Nat) : Int)) rfl (by kernel_rfl) ?_
            simp only [aP, lI, l0, lS]
            refine readL (.bool true) rfl (eqlI .i64 _ _ _ _ _ _ rfl rfl rfl true (beq_self_eq_true _) _) ?_
            simp only [aP, lI, l0, lS]
            refine readL (.bool true) rfl (by kernel_rfl) ?_
            simp only [aP, lI, l0, lS]
            refine readL (.bool true) rfl (by kernel_rfl) ?_
            simp only [aP, lI, l0, lS]
            refine readL (.slice p4 (([(max a (a + ((N + 1 : Nat) : Int) - 1023), a + ((N + 1 : Nat) : Int))] : List (Int × Int)).length) c4) rfl (by kernel_rfl) ?_
            simp only [aP, lI, l0, lS]
            refine readL (.int .i64 ((([(max a (a + ((N + 1 : Nat) : Int) - 1023), a + ((N + 1 : Nat) : Int))] : List (Int × Int)).length : Nat) : Int)) rfl (lenS _ 33 36 p4 (([(max a (a + ((N + 1 : Nat) : Int) - 1023), a + ((N + 1 : Nat) : Int))] : List (Int × Int)).length) c4 rfl Try.underlying33 rfl _) ?_
            simp only [aP, lI, l0, lS]
            refine readL (.bool true) rfl (eqlI .i64 _ _ _ _ _ _ rfl rfl rfl true rfl _) ?_
            simp only [aP, lI, l0, lS]
            refine readL (.bool true) rfl (by kernel_rfl) ?_
            simp only [aP, lI, l0, lS]
            refine readL (.bool true) rfl (by kernel_rfl) ?_
            simp only [aP, lI, l0, lS]
            refine readL (.slice p4 (([(max a (a + ((N + 1 : Nat) : Int) - 1023), a + ((N + 1 : Nat) : Int))] : List (Int × Int)).length) c4) rfl (by kernel_rfl) ?_
            simp only [aP, lI, l0, lS]
            obtain ⟨adr, rfl, hc0, hc1⟩ := NewW.at (i := 0) (p := (max a (a + ((N + 1 : Nat) : Int) - 1023), a + ((N + 1 : Nat) : Int))) N_4 rfl
            refine readL (.pointer (some (adr.add (0 * 2)))) rfl (idxR2 adr _ _ 0 (Nat.zero_lt_one) _ _ rfl rfl rfl _) ?_
            simp only [aP, lI, l0, lS]
            refine readL (.agg #[.int .i64 (((max a (a + ((N + 1 : Nat) : Int) - 1023), a + ((N + 1 : Nat) : Int)) : Int × Int).1), .int .i64 (((max a (a + ((N + 1 : Nat) : Int) - 1023), a + ((N + 1 : Nat) : Int)) : Int × Int).2)]) rfl (loadN 36 _ (adr.add (0 * 2)) [.int .i64 (((max a (a + ((N + 1 : Nat) : Int) - 1023), a + ((N + 1 : Nat) : Int)) : Int × Int).1), .int .i64 (((max a (a + ((N + 1 : Nat) : Int) - 1023), a + ((N + 1 : Nat) : Int)) : Int × Int).2)] rfl rfl (fun _ => by kernel_rfl) (fun _ => by kernel_rfl) (fun j u hu => by rcases j with _ | _ | j <;> simp at hu; all_goals (subst hu; assumption))) ?_
            simp only [aP, lI, l0, lS]
            refine readL (.int .i64 (a + ((N + 1 : Nat) : Int))) rfl (by kernel_rfl) ?_
            simp only [aP, lI, l0, lS]
            refine readL (.int .i64 ((min (N + 2) 1024 : Nat) : Int)) rfl (by kernel_rfl) ?_
            simp only [aP, lI, l0, lS]
            refine readL (.int .i64 (a + ((N + 1 : Nat) : Int) - ((min (N + 2) 1024 : Nat) : Int))) rfl (subI .i64 _ _ _ _ _ _ _ rfl rfl rfl (by rw [IntKind.wrap_i64]; omega) _) ?_
            simp only [aP, lI, l0, lS]
            refine readL (.int .i64 (a + ((N + 1 : Nat) : Int) - ((min (N + 2) 1024 : Nat) : Int) + 1)) rfl (addI .i64 _ _ _ _ _ _ _ rfl rfl rfl (by rw [IntKind.wrap_i64]; omega) _) ?_
            simp only [aP, lI, l0, lS]
            refine readL (.int .i64 (a + ((N + 1 : Nat) : Int))) rfl (by kernel_rfl) ?_
            simp only [aP, lI, l0, lS]
            refine readL (.agg #[.int .i64 (a + ((N + 1 : Nat) : Int) - ((min (N + 2) 1024 : Nat) : Int) + 1), .int .i64 (a + ((N + 1 : Nat) : Int))]) rfl (by kernel_rfl) ?_
            simp only [aP, lI, l0, lS]
            refine readL (.bool true) rfl (eqlRg _ _ _ _ _ _ rfl rfl rfl (by show max _ _ = _; omega) rfl _) ?_
            simp only [aP, lI, l0, lS]
            refine readL (.bool true) rfl (by kernel_rfl) ?_
            simp only [aP, lI, l0, lS]
            refine readL (.bool true) rfl (by kernel_rfl) ?_
            simp only [aP, lI, l0, lS]
            refine readL (.int .i64 (a + ((N + 1 : Nat) : Int))) rfl (by kernel_rfl) ?_
            simp only [aP, lI, l0, lS]
            refine readL (.bool true) rfl (lssI .i64 _ _ _ _ _ _ rfl rfl rfl true (decide_eq_true h24) _) ?_
            simp only [aP, lI, l0, lS]
            refine readL (.bool true) rfl (by kernel_rfl) ?_
            simp only [aP, lI, l0, lS]
            with_reducible refine skipL ?_ ?_
            · rfl
            simp only [aP, lI, l0, lS]
            with_reducible refine skipL ?_ ?_
            · rfl
            simp only [aP, lI, l0, lS]
            with_reducible refine skipL ?_ ?_
            · rfl
            simp only [aP, lI, l0, lS]
            with_reducible refine skipL ?_ ?_
            · rfl
            simp only [aP, lI, l0, lS]
            with_reducible refine skipL ?_ ?_
            · rfl
            simp only [aP, lI, l0, lS]
            refine readL (.bool true) rfl (by kernel_rfl) ?_
            simp only [aP, lI, l0, lS]
            refine readL (.bool true) rfl (by kernel_rfl) ?_
            simp only [aP, lI, l0, lS]
            refine readL (.bool true) rfl (by kernel_rfl) ?_
            simp only [aP, lI, l0, lS]
            first | show Exit.then _ _ _ _ _ | show Exit.inBlock _ _ _ _ _
            have hbel := M.below
            clear M N_4
            go_wp2
            go_ret
            exact ⟨rfl, hbel⟩
          · go_upto_region 18 with fail
            refine wp_region_list ?_
            refine readL (.pointer (some ⟨Ra, 0, none⟩)) rfl (by kernel_rfl) ?_
            simp only [aP, lI, l0, lS]
            have Mp := M.perm (pull0 ([] : List (Nat × List Value)) bs ([] : List (Nat × List Value)))
            have key := hK.top w0 _ _ (wrow a (N + 2)) bs _ (wrow_w ha (N + 2) (by omega)) hIa Mp
            clear Mp
            rw [show wtop (wrow a (N + 2)) = a + ((N + 1 : Nat) : Int) from wrow_top ha (N + 1)] at key
            refine callL rfl (fun _ => by kernel_rfl) key ?_
            clear key
            rintro e w7 ⟨rfl, l⟩
            replace M := M.call l
            replace N_4 := NewW.below N_4 l
            clear l
            refine ⟨_, rfl, ?_⟩
            simp only [aP, lI, l0, lS]
            refine readL (.int .i64 (a + ((N + 1 : Nat) : Int))) rfl (by kernel_rfl) ?_
            simp only [aP, lI, l0, lS]
            refine readL (.bool true) rfl (eqlI .i64 _ _ _ _ _ _ rfl rfl rfl true (beq_self_eq_true _) _) ?_
            simp only [aP, lI, l0, lS]
            refine readL (.bool true) rfl (by kernel_rfl) ?_
            simp only [aP, lI, l0, lS]
            refine readL (.pointer (some ⟨Ra, 0, none⟩)) rfl (by kernel_rfl) ?_
            simp only [aP, lI, l0, lS]
            have Mp := M.perm (pull0 ([] : List (Nat × List Value)) bs ([] : List (Nat × List Value)))
            have key := hK.cnt w0 _ _ (wrow a (N + 2)) bs _ (wrow_w ha (N + 2) (by omega)) hIa Mp
            clear Mp
            rw [show wcnt (wrow a (N + 2)) = min (N + 2) 1024 from wrow_cnt ha (N + 1)] at key
            refine callL rfl (fun _ => by kernel_rfl) key ?_
            clear key
            rintro e w8 ⟨rfl, l⟩
            replace M := M.call l
            replace N_4 := NewW.below N_4 l
            clear l
            refine ⟨_, rfl, ?_⟩
            simp only [aP, lI, l0, lS]
            refine readL (.int .i64 ((min (N + 2) 1024 : Nat) : Int)) rfl (by kernel_rfl) ?_
            simp only [aP, lI, l0, lS]
            refine readL (.bool true) rfl (eqlI .i64 _ _ _ _ _ _ rfl rfl rfl true (beq_self_eq_true _) _) ?_
            simp only [aP, lI, l0, lS]
            refine readL (.bool true) rfl (by kernel_rfl) ?_
            simp only [aP, lI, l0, lS]
            refine readL (.bool true) rfl (by kernel_rfl) ?_
            simp only [aP, lI, l0, lS]
            refine readL (.slice p4 (([(max a (a + ((N + 1 : Nat) : Int) - 1023), a + ((N + 1 : Nat) : Int))] : List (Int × Int)).length) c4) rfl (by kernel_rfl) ?_
            simp only [aP, lI, l0, lS]
            refine readL (.int .i64 ((([(max a (a + ((N + 1 : Nat) : Int) - 1023), a + ((N + 1 : Nat) : Int))] : List (Int × Int)).length : Nat) : Int)) rfl (lenS _ 33 36 p4 (([(max a (a + ((N + 1 : Nat) : Int) - 1023), a + ((N + 1 : Nat) : Int))] : List (Int × Int)).length) c4 rfl Try.underlying33 rfl _) ?_
            simp only [aP, lI, l0, lS]
            refine readL (.bool true) rfl (eqlI .i64 _ _ _ _ _ _ rfl rfl rfl true rfl _) ?_
            simp only [aP, lI, l0, lS]
            refine readL (.bool true) rfl (by kernel_rfl) ?_
            simp only [aP, lI, l0, lS]
            refine readL (.bool true) rfl (by kernel_rfl) ?_
            simp only [aP, lI, l0, lS]
            refine readL (.slice p4 (([(max a (a + ((N + 1 : Nat) : Int) - 1023), a + ((N + 1 : Nat) : Int))] : List (Int × Int)).length) c4) rfl (by kernel_rfl) ?_
            simp only [aP, lI, l0, lS]
            obtain ⟨adr, rfl, hc0, hc1⟩ := NewW.at (i := 0) (p := (max a (a + ((N + 1 : Nat) : Int) - 1023), a + ((N + 1 : Nat) : Int))) N_4 rfl
            refine readL (.pointer (some (adr.add (0 * 2)))) rfl (idxR2 adr _ _ 0 (Nat.zero_lt_one) _ _ rfl rfl rfl _) ?_
            simp only [aP, lI, l0, lS]
            refine readL (.agg #[.int .i64 (((max a (a + ((N + 1 : Nat) : Int) - 1023), a + ((N + 1 : Nat) : Int)) : Int × Int).1), .int .i64 (((max a (a + ((N + 1 : Nat) : Int) - 1023), a + ((N + 1 : Nat) : Int)) : Int × Int).2)]) rfl (loadN 36 _ (adr.add (0 * 2)) [.int .i64 (((max a (a + ((N + 1 : Nat) : Int) - 1023), a + ((N + 1 : Nat) : Int)) : Int × Int).1), .int .i64 (((max a (a + ((N + 1 : Nat) : Int) - 1023), a + ((N + 1 : Nat) : Int)) : Int × Int).2)] rfl rfl (fun _ => by kernel_rfl) (fun _ => by kernel_rfl) (fun j u hu => by rcases j with _ | _ | j <;> simp at hu; all_goals (subst hu; assumption))) ?_
            simp only [aP, lI, l0, lS]
            refine readL (.int .i64 (a + ((N + 1 : Nat) : Int))) rfl (by kernel_rfl) ?_
            simp only [aP, lI, l0, lS]
            refine readL (.int .i64 ((min (N + 2) 1024 : Nat) : Int)) rfl (by kernel_rfl) ?_
            simp only [aP, lI, l0, lS]
            refine readL (.int .i64 (a + ((N + 1 : Nat) : Int) - ((min (N + 2) 1024 : Nat) : Int))) rfl (subI .i64 _ _ _ _ _ _ _ rfl rfl rfl (by rw [IntKind.wrap_i64]; omega) _) ?_
            simp only [aP, lI, l0, lS]
            refine readL (.int .i64 (a + ((N + 1 : Nat) : Int) - ((min (N + 2) 1024 : Nat) : Int) + 1)) rfl (addI .i64 _ _ _ _ _ _ _ rfl rfl rfl (by rw [IntKind.wrap_i64]; omega) _) ?_
            simp only [aP, lI, l0, lS]
            refine readL (.int .i64 (a + ((N + 1 : Nat) : Int))) rfl (by kernel_rfl) ?_
            simp only [aP, lI, l0, lS]
            refine readL (.agg #[.int .i64 (a + ((N + 1 : Nat) : Int) - ((min (N + 2) 1024 : Nat) : Int) + 1), .int .i64 (a + ((N + 1 : Nat) : Int))]) rfl (by kernel_rfl) ?_
            simp only [aP, lI, l0, lS]
            refine readL (.bool true) rfl (eqlRg _ _ _ _ _ _ rfl rfl rfl (by show max _ _ = _; omega) rfl _) ?_
            simp only [aP, lI, l0, lS]
            refine readL (.bool true) rfl (by kernel_rfl) ?_
            simp only [aP, lI, l0, lS]
            refine readL (.bool true) rfl (by kernel_rfl) ?_
            simp only [aP, lI, l0, lS]
            refine readL (.int .i64 (a + ((N + 1 : Nat) : Int))) rfl (by kernel_rfl) ?_
            simp only [aP, lI, l0, lS]
            refine readL (.bool false) rfl (lssI .i64 _ _ _ _ _ _ rfl rfl rfl false (decide_eq_false h24) _) ?_
            simp only [aP, lI, l0, lS]
            refine readL (.bool false) rfl (by kernel_rfl) ?_
            simp only [aP, lI, l0, lS]
            refine readL (.pointer (some ⟨Ra, 0, none⟩)) rfl (by kernel_rfl) ?_
            simp only [aP, lI, l0, lS]
            refine readL (.int .i64 (a + ((N + 1 : Nat) : Int))) rfl (by kernel_rfl) ?_
            simp only [aP, lI, l0, lS]
            refine readL (.int .i64 (a + ((N + 1 : Nat) : Int) - 1024)) rfl (subI .i64 _ _ _ _ _ _ _ rfl rfl rfl (by rw [IntKind.wrap_i64]; omega) _) ?_
            simp only [aP, lI, l0, lS]
            have Mp := M.perm (pull0 ([] : List (Nat × List Value)) bs ([] : List (Nat × List Value)))
            have key := hK.chk w0 _ _ (wrow a (N + 2)) bs _ (a + ((N + 1 : Nat) : Int) - 1024) (wrow_w ha (N + 2) (by omega)) (by unfold i64; omega) hIa Mp
            clear Mp
            rw [show wchk (wrow a (N + 2)) (a + ((N + 1 : Nat) : Int) - 1024) = 140 from wchk_old (by omega) (.inl (by rw [show wtop (wrow a (N + 2)) = a + ((N + 1 : Nat) : Int) from wrow_top ha (N + 1)]; omega))] at key
            refine callL rfl (fun _ => by kernel_rfl) key ?_
            clear key
            rintro e w9 ⟨rfl, l⟩
            replace M := M.call l
            replace N_4 := NewW.below N_4 l
            clear l
            refine ⟨_, rfl, ?_⟩
            simp only [aP, lI, l0, lS]
            refine readL (.bool true) rfl (eqlI .i64 _ _ _ _ _ _ rfl rfl rfl true (by decide) _) ?_
            simp only [aP, lI, l0, lS]
            refine readL (.bool true) rfl (by kernel_rfl) ?_
            simp only [aP, lI, l0, lS]
            refine readL (.bool true) rfl (by kernel_rfl) ?_
            simp only [aP, lI, l0, lS]
            refine readL (.bool true) rfl (by kernel_rfl) ?_
            simp only [aP, lI, l0, lS]
            first | show Exit.then _ _ _ _ _ | show Exit.inBlock _ _ _ _ _
            have hbel := M.below
            clear M N_4
            go_wp2
            go_ret
            exact ⟨rfl, hbel⟩
    · go_upto_region 7 with fail
      refine wp_region_list ?_
      refine readL (.int .i64 z) rfl (by kernel_rfl) ?_
      simp only [aP, lI, l0, lS]
      refine readL (.bool false) rfl (lssI .i64 _ _ _ _ _ _ rfl rfl rfl false (decide_eq_false hneg) _) ?_
      simp only [aP, lI, l0, lS]
      first | show Exit.then _ _ _ _ _ | show Exit.inBlock _ _ _ _ _
      obtain ⟨N, hN, hN2⟩ := tmod_nat z (by omega) 2000 (by decide)
      go_upto_region 9 with fail
      refine wp_region_list ?_
      refine readL (.int .i64 z) rfl (by kernel_rfl) ?_
      simp only [aP, lI, l0, lS]
      refine readL (.int .i64 (N : Int)) rfl (remI .i64 _ _ _ _ _ _ _ rfl rfl rfl (by decide) hN _) ?_
      simp only [aP, lI, l0, lS]
      refine readL (.int .i64 ((N + 2 : Nat) : Int)) rfl (addI .i64 _ _ _ _ _ _ _ rfl rfl rfl (by rw [IntKind.wrap_i64]; omega) _) ?_
      simp only [aP, lI, l0, lS]
      refine readL (.int .i64 ((N + 2 : Nat) : Int)) rfl (by kernel_rfl) ?_
      simp only [aP, lI, l0, lS]
      first | show Exit.then _ _ _ _ _ | show Exit.inBlock _ _ _ _ _
      go_upto_region 10 with fail
      refine wp_region_list ?_
      refine readL (.int .i64 0) rfl (by kernel_rfl) ?_
      simp only [aP, lI, l0, lS]
      first | show Exit.then _ _ _ _ _ | show Exit.inBlock _ _ _ _ _
      have HI := show Hid _ from (show I (.pointer (some ⟨Ra, 0, none⟩)) (wrow a 0) ba0 ∧ Mm w0 (ba0 ++ ([] : List (Nat × List Value))) w2 from ⟨hIa, M⟩)
      clear M hIa hN
      go_wp2
      go_loopw [8] (fun i w' => ∃ (q : Nat) (bs : List (Nat × List Value)), q ≤ N + 2 ∧ i = .int .i64 (q : Int) ∧ I (.pointer (some ⟨Ra, 0, none⟩)) (wrow a q) bs ∧ Mm w0 (bs ++ ([] : List (Nat × List Value))) w') (fun i _ => N + 2 - (intOf i).toNat)
      case atStart => exact ⟨0, _, by omega, rfl, HI.out⟩
      case round =>
        clear HI
        obtain ⟨q, bs, hq, rfl, hIa, M⟩ := hrel
        by_cases hlt : q < N + 2
        · go_upto_region 11 with fail
          refine wp_region_list ?_
          refine readL (.int .i64 (q : Int)) rfl (by kernel_rfl) ?_
          simp only [aP, lI, l0, lS]
          refine readL (.int .i64 ((N + 2 : Nat) : Int)) rfl (by kernel_rfl) ?_
          simp only [aP, lI, l0, lS]
          refine readL (.bool true) rfl (lssI .i64 _ _ _ _ _ _ rfl rfl rfl true (decide_eq_true (by omega)) _) ?_
          simp only [aP, lI, l0, lS]
          first | show Exit.then _ _ _ _ _ | show Exit.inBlock _ _ _ _ _
          go_upto_region 13 with fail
          refine wp_region_list ?_
          refine readL (.pointer (some ⟨Ra, 0, none⟩)) rfl (by kernel_rfl) ?_
          simp only [aP, lI, l0, lS]
          refine readL (.int .i64 a) rfl (by kernel_rfl) ?_
          simp only [aP, lI, l0, lS]
          refine readL (.int .i64 (q : Int)) rfl (by kernel_rfl) ?_
          simp only [aP, lI, l0, lS]
          refine readL (.int .i64 (a + (q : Int))) rfl (addI .i64 _ _ _ _ _ _ _ rfl rfl rfl (by rw [IntKind.wrap_i64]; omega) _) ?_
          simp only [aP, lI, l0, lS]
          have Mp := M.perm (pull0 ([] : List (Nat × List Value)) bs ([] : List (Nat × List Value)))
          have key := hK.mrk w0 _ _ (wrow a q) bs _ (a + (q : Int)) (wrow_w ha q (by omega)) (by rw [wrow_len]; omega) (by unfold i64; omega) hIa Mp
          rw [wrow_chk ha q (by omega), wrow_mk ha q (by omega)] at key
          refine callL rfl (fun _ => by kernel_rfl) key ?_
          clear key
          rintro e w10 ⟨rfl, ba1, hI_, hsub, M', o1⟩
          clear o1 hsub Mp M hIa
          have hIa := hI_
          clear hI_
          have M : Mm w0 ((ba1 ++ ([] : List (Nat × List Value)))) w10 := M'.perm (pull0 ([] : List (Nat × List Value)) ba1 ([] : List (Nat × List Value))).symm
          clear M'
          refine ⟨_, rfl, ?_⟩
          simp only [aP, lI, l0, lS]
          refine readL (.bool false) rfl (neqI .i64 _ _ _ _ _ _ rfl rfl rfl false (by decide) _) ?_
          simp only [aP, lI, l0, lS]
          first | show Exit.then _ _ _ _ _ | show Exit.inBlock _ _ _ _ _
          have HS := show Hid _ from (And.intro hIa M)
          clear M hIa
          go_wp2
          go_roundw
          case rel => exact ⟨q + 1, _, by omega, by go_num, HS.out⟩
          case measure => simp [intOf]; omega
        · obtain rfl : q = N + 2 := by omega
          go_upto_region 11 with fail
          refine wp_region_list ?_
          refine readL (.int .i64 ((N + 2 : Nat) : Int)) rfl (by kernel_rfl) ?_
          simp only [aP, lI, l0, lS]
          refine readL (.int .i64 ((N + 2 : Nat) : Int)) rfl (by kernel_rfl) ?_
          simp only [aP, lI, l0, lS]
          refine readL (.bool false) rfl (lssI .i64 _ _ _ _ _ _ rfl rfl rfl false (decide_eq_false (by omega)) _) ?_
          simp only [aP, lI, l0, lS]
          first | show Exit.then _ _ _ _ _ | show Exit.inBlock _ _ _ _ _
          go_upto_region 15 with fail
          refine wp_region_list ?_
          refine readL (.pointer (some ⟨Ra, 0, none⟩)) rfl (by kernel_rfl) ?_
          simp only [aP, lI, l0, lS]
          have Mp := M.perm (pull0 ([] : List (Nat × List Value)) bs ([] : List (Nat × List Value)))
          have hq_11_a := Mp.lts
          have key := hK.bel w0 _ _ (wrow a (N + 2)) bs _ 3 (wrow_w ha (N + 2) (by omega)) (by unfold i64; decide) hIa Mp
          clear Mp
          rw [wrow_bel ha N] at key
          refine callL rfl (fun _ => by kernel_rfl) key ?_
          clear key
          rintro e w11 ⟨⟨v_, rfl, N_11⟩, l⟩
          replace M := M.call l
          clear l
          obtain ⟨p11, c11, rfl, hcc_11⟩ := NewW.slice N_11
          refine ⟨_, rfl, ?_⟩
          simp only [aP, lI, l0, lS]
          refine readL (.slice p11 (([(max a (a + ((N + 1 : Nat) : Int) - 1023), a + ((N + 1 : Nat) : Int))] : List (Int × Int)).length) c11) rfl (by kernel_rfl) ?_
          simp only [aP, lI, l0, lS]
          first | show Exit.then _ _ _ _ _ | show Exit.inBlock _ _ _ _ _
          go_upto_region 16 with fail
          refine wp_region_list ?_
          refine readL (.int .i64 ((N + 2 : Nat) : Int)) rfl (by kernel_rfl) ?_
          simp only [aP, lI, l0, lS]
          refine readL (.int .i64 ((min (N + 2) 1024 : Nat) : Int)) rfl (minI .i64 .i64 _ _ _ _ _ _ _ rfl rfl rfl (by split <;> omega) _) ?_
          simp only [aP, lI, l0, lS]
          refine readL (.int .i64 ((min (N + 2) 1024 : Nat) : Int)) rfl (by kernel_rfl) ?_
          simp only [aP, lI, l0, lS]
          first | show Exit.then _ _ _ _ _ | show Exit.inBlock _ _ _ _ _
          go_upto_region 17 with fail
          refine wp_region_list ?_
          refine readL (.int .i64 a) rfl (by kernel_rfl) ?_
          simp only [aP, lI, l0, lS]
          refine readL (.int .i64 ((N + 2 : Nat) : Int)) rfl (by kernel_rfl) ?_
          simp only [aP, lI, l0, lS]
          refine readL (.int .i64 (a + ((N + 2 : Nat) : Int))) rfl (addI .i64 _ _ _ _ _ _ _ rfl rfl rfl (by rw [IntKind.wrap_i64]; omega) _) ?_
          simp only [aP, lI, l0, lS]
          refine readL (.int .i64 (a + ((N + 1 : Nat) : Int))) rfl (subI .i64 _ _ _ _ _ _ _ rfl rfl rfl (by rw [IntKind.wrap_i64]; omega) _) ?_
          simp only [aP, lI, l0, lS]
          refine readL (.int .i64 (a + ((N + 1 : Nat) : Int))) rfl (by kernel_rfl) ?_
          simp only [aP, lI, l0, lS]
          first | show Exit.then _ _ _ _ _ | show Exit.inBlock _ _ _ _ _
          by_cases h24 : a + ((N + 1 : Nat) : Int) < 1024
          · go_upto_region 18 with fail
            refine wp_region_list ?_
            refine readL (.pointer (some ⟨Ra, 0, none⟩)) rfl (by kernel_rfl) ?_
            simp only [aP, lI, l0, lS]
            have Mp := M.perm (pull0 ([] : List (Nat × List Value)) bs ([] : List (Nat × List Value)))
            have key := hK.top w0 _ _ (wrow a (N + 2)) bs _ (wrow_w ha (N + 2) (by omega)) hIa Mp
            clear Mp
            rw [show wtop (wrow a (N + 2)) = a + ((N + 1 : Nat) : Int) from wrow_top ha (N + 1)] at key
            refine callL rfl (fun _ => by kernel_rfl) key ?_
            clear key
            rintro e w12 ⟨rfl, l⟩
            replace M := M.call l
            replace N_11 := NewW.below N_11 l
            clear l
            refine ⟨_, rfl, ?_⟩
            simp only [aP, lI, l0, lS]
            refine readL (.int .i64 (a + ((N + 1 : Nat) : Int))) rfl (by kernel_rfl) ?_
            simp only [aP, lI, l0, lS]
            refine readL (.bool true) rfl (eqlI .i64 _ _ _ _ _ _ rfl rfl rfl true (beq_self_eq_true _) _) ?_
            simp only [aP, lI, l0, lS]
            refine readL (.bool true) rfl (by kernel_rfl) ?_
            simp only [aP, lI, l0, lS]
            refine readL (.pointer (some ⟨Ra, 0, none⟩)) rfl (by kernel_rfl) ?_
            simp only [aP, lI, l0, lS]
            have Mp := M.perm (pull0 ([] : List (Nat × List Value)) bs ([] : List (Nat × List Value)))
            have key := hK.cnt w0 _ _ (wrow a (N + 2)) bs _ (wrow_w ha (N + 2) (by omega)) hIa Mp
            clear Mp
            rw [show wcnt (wrow a (N + 2)) = min (N + 2) 1024 from wrow_cnt ha (N + 1)] at key
            refine callL rfl (fun _ => by kernel_rfl) key ?_
            clear key
            rintro e w13 ⟨rfl, l⟩
            replace M := M.call l
            replace N_11 := NewW.below N_11 l
            clear l
            refine ⟨_, rfl, ?_⟩
            simp only [aP, lI, l0, lS]
            refine readL (.int .i64 ((min (N + 2) 1024 : Nat) : Int)) rfl (by kernel_rfl) ?_
            simp only [aP, lI, l0, lS]
            refine readL (.bool true) rfl (eqlI .i64 _ _ _ _ _ _ rfl rfl rfl true (beq_self_eq_true _) _) ?_
            simp only [aP, lI, l0, lS]
            refine readL (.bool true) rfl (by kernel_rfl) ?_
            simp only [aP, lI, l0, lS]
            refine readL (.bool true) rfl (by kernel_rfl) ?_
            simp only [aP, lI, l0, lS]
            refine readL (.slice p11 (([(max a (a + ((N + 1 : Nat) : Int) - 1023), a + ((N + 1 : Nat) : Int))] : List (Int × Int)).length) c11) rfl (by kernel_rfl) ?_
            simp only [aP, lI, l0, lS]
            refine readL (.int .i64 ((([(max a (a + ((N + 1 : Nat) : Int) - 1023), a + ((N + 1 : Nat) : Int))] : List (Int × Int)).length : Nat) : Int)) rfl (lenS _ 33 36 p11 (([(max a (a + ((N + 1 : Nat) : Int) - 1023), a + ((N + 1 : Nat) : Int))] : List (Int × Int)).length) c11 rfl Try.underlying33 rfl _) ?_
            simp only [aP, lI, l0, lS]
            refine readL (.bool true) rfl (eqlI .i64 _ _ _ _ _ _ rfl rfl rfl true rfl _) ?_
            simp only [aP, lI, l0, lS]
            refine readL (.bool true) rfl (by kernel_rfl) ?_
            simp only [aP, lI, l0, lS]
            refine readL (.bool true) rfl (by kernel_rfl) ?_
            simp only [aP, lI, l0, lS]
            refine readL (.slice p11 (([(max a (a + ((N + 1 : Nat) : Int) - 1023), a + ((N + 1 : Nat) : Int))] : List (Int × Int)).length) c11) rfl (by kernel_rfl) ?_
            simp only [aP, lI, l0, lS]
            obtain ⟨adr, rfl, hc0, hc1⟩ := NewW.at (i := 0) (p := (max a (a + ((N + 1 : Nat) : Int) - 1023), a + ((N + 1 : Nat) : Int))) N_11 rfl
            refine readL (.pointer (some (adr.add (0 * 2)))) rfl (idxR2 adr _ _ 0 (Nat.zero_lt_one) _ _ rfl rfl rfl _) ?_
            simp only [aP, lI, l0, lS]
            refine readL (.agg #[.int .i64 (((max a (a + ((N + 1 : Nat) : Int) - 1023), a + ((N + 1 : Nat) : Int)) : Int × Int).1), .int .i64 (((max a (a + ((N + 1 : Nat) : Int) - 1023), a + ((N + 1 : Nat) : Int)) : Int × Int).2)]) rfl (loadN 36 _ (adr.add (0 * 2)) [.int .i64 (((max a (a + ((N + 1 : Nat) : Int) - 1023), a + ((N + 1 : Nat) : Int)) : Int × Int).1), .int .i64 (((max a (a + ((N + 1 : Nat) : Int) - 1023), a + ((N + 1 : Nat) : Int)) : Int × Int).2)] rfl rfl (fun _ => by kernel_rfl) (fun _ => by kernel_rfl) (fun j u hu => by rcases j with _ | _ | j <;> simp at hu; all_goals (subst hu; assumption))) ?_
            simp only [aP, lI, l0, lS]
            refine readL (.int .i64 (a + ((N + 1 : Nat) : Int))) rfl (by kernel_rfl) ?_
            simp only [aP, lI, l0, lS]
            refine readL (.int .i64 ((min (N + 2) 1024 : Nat) : Int)) rfl (by kernel_rfl) ?_
            simp only [aP, lI, l0, lS]
            refine readL (.int .i64 (a + ((N + 1 : Nat) : Int) - ((min (N + 2) 1024 : Nat) : Int))) rfl (subI .i64 _ _ _ _ _ _ _ rfl rfl rfl (by rw [IntKind.wrap_i64]; omega) _) ?_
            simp only [aP, lI, l0, lS]
            refine readL (.int .i64 (a + ((N + 1 : Nat) : Int) - ((min (N + 2) 1024 : Nat) : Int) + 1)) rfl (addI .i64 _ _ _ _ _ _ _ rfl rfl rfl (by rw [IntKind.wrap_i64]; omega) _) ?_
            simp only [aP, lI, l0, lS]
            refine readL (.int .i64 (a + ((N + 1 : Nat) : Int))) rfl (by kernel_rfl) ?_
            simp only [aP, lI, l0, lS]
            refine readL (.agg #[.int .i64 (a + ((N + 1 : Nat) : Int) - ((min (N + 2) 1024 : Nat) : Int) + 1), .int .i64 (a + ((N + 1 : Nat) : Int))]) rfl (by kernel_rfl) ?_
            simp only [aP, lI, l0, lS]
            refine readL (.bool true) rfl (eqlRg _ _ _ _ _ _ rfl rfl rfl (by show max _ _ = _; omega) rfl _) ?_
            simp only [aP, lI, l0, lS]
            refine readL (.bool true) rfl (by kernel_rfl) ?_
            simp only [aP, lI, l0, lS]
            refine readL (.bool true) rfl (by kernel_rfl) ?_
            simp only [aP, lI, l0, lS]
            refine readL (.int .i64 (a + ((N + 1 : Nat) : Int))) rfl (by kernel_rfl) ?_
            simp only [aP, lI, l0, lS]
            refine readL (.bool true) rfl (lssI .i64 _ _ _ _ _ _ rfl rfl rfl true (decide_eq_true h24) _) ?_
            simp only [aP, lI, l0, lS]
            refine readL (.bool true) rfl (by kernel_rfl) ?_
            simp only [aP, lI, l0, lS]
            with_reducible refine skipL ?_ ?_
            · rfl
            simp only [aP, lI, l0, lS]
            with_reducible refine skipL ?_ ?_
            · rfl
            simp only [aP, lI, l0, lS]
            with_reducible refine skipL ?_ ?_
            · rfl
            simp only [aP, lI, l0, lS]
            with_reducible refine skipL ?_ ?_
            · rfl
            simp only [aP, lI, l0, lS]
            with_reducible refine skipL ?_ ?_
            · rfl
            simp only [aP, lI, l0, lS]
            refine readL (.bool true) rfl (by kernel_rfl) ?_
            simp only [aP, lI, l0, lS]
            refine readL (.bool true) rfl (by kernel_rfl) ?_
            simp only [aP, lI, l0, lS]
            refine readL (.bool true) rfl (by kernel_rfl) ?_
            simp only [aP, lI, l0, lS]
            first | show Exit.then _ _ _ _ _ | show Exit.inBlock _ _ _ _ _
            have hbel := M.below
            clear M N_11
            go_wp2
            go_ret
            exact ⟨rfl, hbel⟩
          · go_upto_region 18 with fail
            refine wp_region_list ?_
            refine readL (.pointer (some ⟨Ra, 0, none⟩)) rfl (by kernel_rfl) ?_
            simp only [aP, lI, l0, lS]
            have Mp := M.perm (pull0 ([] : List (Nat × List Value)) bs ([] : List (Nat × List Value)))
            have key := hK.top w0 _ _ (wrow a (N + 2)) bs _ (wrow_w ha (N + 2) (by omega)) hIa Mp
            clear Mp
            rw [show wtop (wrow a (N + 2)) = a + ((N + 1 : Nat) : Int) from wrow_top ha (N + 1)] at key
            refine callL rfl (fun _ => by kernel_rfl) key ?_
            clear key
            rintro e w14 ⟨rfl, l⟩
            replace M := M.call l
            replace N_11 := NewW.below N_11 l
            clear l
            refine ⟨_, rfl, ?_⟩
            simp only [aP, lI, l0, lS]
            refine readL (.int .i64 (a + ((N + 1 : Nat) : Int))) rfl (by kernel_rfl) ?_
            simp only [aP, lI, l0, lS]
            refine readL (.bool true) rfl (eqlI .i64 _ _ _ _ _ _ rfl rfl rfl true (beq_self_eq_true _) _) ?_
            simp only [aP, lI, l0, lS]
            refine readL (.bool true) rfl (by kernel_rfl) ?_
            simp only [aP, lI, l0, lS]
            refine readL (.pointer (some ⟨Ra, 0, none⟩)) rfl (by kernel_rfl) ?_
            simp only [aP, lI, l0, lS]
            have Mp := M.perm (pull0 ([] : List (Nat × List Value)) bs ([] : List (Nat × List Value)))
            have key := hK.cnt w0 _ _ (wrow a (N + 2)) bs _ (wrow_w ha (N + 2) (by omega)) hIa Mp
            clear Mp
            rw [show wcnt (wrow a (N + 2)) = min (N + 2) 1024 from wrow_cnt ha (N + 1)] at key
            refine callL rfl (fun _ => by kernel_rfl) key ?_
            clear key
            rintro e w15 ⟨rfl, l⟩
            replace M := M.call l
            replace N_11 := NewW.below N_11 l
            clear l
            refine ⟨_, rfl, ?_⟩
            simp only [aP, lI, l0, lS]
            refine readL (.int .i64 ((min (N + 2) 1024 : Nat) : Int)) rfl (by kernel_rfl) ?_
            simp only [aP, lI, l0, lS]
            refine readL (.bool true) rfl (eqlI .i64 _ _ _ _ _ _ rfl rfl rfl true (beq_self_eq_true _) _) ?_
            simp only [aP, lI, l0, lS]
            refine readL (.bool true) rfl (by kernel_rfl) ?_
            simp only [aP, lI, l0, lS]
            refine readL (.bool true) rfl (by kernel_rfl) ?_
            simp only [aP, lI, l0, lS]
            refine readL (.slice p11 (([(max a (a + ((N + 1 : Nat) : Int) - 1023), a + ((N + 1 : Nat) : Int))] : List (Int × Int)).length) c11) rfl (by kernel_rfl) ?_
            simp only [aP, lI, l0, lS]
            refine readL (.int .i64 ((([(max a (a + ((N + 1 : Nat) : Int) - 1023), a + ((N + 1 : Nat) : Int))] : List (Int × Int)).length : Nat) : Int)) rfl (lenS _ 33 36 p11 (([(max a (a + ((N + 1 : Nat) : Int) - 1023), a + ((N + 1 : Nat) : Int))] : List (Int × Int)).length) c11 rfl Try.underlying33 rfl _) ?_
            simp only [aP, lI, l0, lS]
            refine readL (.bool true) rfl (eqlI .i64 _ _ _ _ _ _ rfl rfl rfl true rfl _) ?_
            simp only [aP, lI, l0, lS]
            refine readL (.bool true) rfl (by kernel_rfl) ?_
            simp only [aP, lI, l0, lS]
            refine readL (.bool true) rfl (by kernel_rfl) ?_
            simp only [aP, lI, l0, lS]
            refine readL (.slice p11 (([(max a (a + ((N + 1 : Nat) : Int) - 1023), a + ((N + 1 : Nat) : Int))] : List (Int × Int)).length) c11) rfl (by kernel_rfl) ?_
            simp only [aP, lI, l0, lS]
            obtain ⟨adr, rfl, hc0, hc1⟩ := NewW.at (i := 0) (p := (max a (a + ((N + 1 : Nat) : Int) - 1023), a + ((N + 1 : Nat) : Int))) N_11 rfl
            refine readL (.pointer (some (adr.add (0 * 2)))) rfl (idxR2 adr _ _ 0 (Nat.zero_lt_one) _ _ rfl rfl rfl _) ?_
            simp only [aP, lI, l0, lS]
            refine readL (.agg #[.int .i64 (((max a (a + ((N + 1 : Nat) : Int) - 1023), a + ((N + 1 : Nat) : Int)) : Int × Int).1), .int .i64 (((max a (a + ((N + 1 : Nat) : Int) - 1023), a + ((N + 1 : Nat) : Int)) : Int × Int).2)]) rfl (loadN 36 _ (adr.add (0 * 2)) [.int .i64 (((max a (a + ((N + 1 : Nat) : Int) - 1023), a + ((N + 1 : Nat) : Int)) : Int × Int).1), .int .i64 (((max a (a + ((N + 1 : Nat) : Int) - 1023), a + ((N + 1 : Nat) : Int)) : Int × Int).2)] rfl rfl (fun _ => by kernel_rfl) (fun _ => by kernel_rfl) (fun j u hu => by rcases j with _ | _ | j <;> simp at hu; all_goals (subst hu; assumption))) ?_
            simp only [aP, lI, l0, lS]
            refine readL (.int .i64 (a + ((N + 1 : Nat) : Int))) rfl (by kernel_rfl) ?_
            simp only [aP, lI, l0, lS]
            refine readL (.int .i64 ((min (N + 2) 1024 : Nat) : Int)) rfl (by kernel_rfl) ?_
            simp only [aP, lI, l0, lS]
            refine readL (.int .i64 (a + ((N + 1 : Nat) : Int) - ((min (N + 2) 1024 : Nat) : Int))) rfl (subI .i64 _ _ _ _ _ _ _ rfl rfl rfl (by rw [IntKind.wrap_i64]; omega) _) ?_
            simp only [aP, lI, l0, lS]
            refine readL (.int .i64 (a + ((N + 1 : Nat) : Int) - ((min (N + 2) 1024 : Nat) : Int) + 1)) rfl (addI .i64 _ _ _ _ _ _ _ rfl rfl rfl (by rw [IntKind.wrap_i64]; omega) _) ?_
            simp only [aP, lI, l0, lS]
            refine readL (.int .i64 (a + ((N + 1 : Nat) : Int))) rfl (by kernel_rfl) ?_
            simp only [aP, lI, l0, lS]
            refine readL (.agg #[.int .i64 (a + ((N + 1 : Nat) : Int) - ((min (N + 2) 1024 : Nat) : Int) + 1), .int .i64 (a + ((N + 1 : Nat) : Int))]) rfl (by kernel_rfl) ?_
            simp only [aP, lI, l0, lS]
            refine readL (.bool true) rfl (eqlRg _ _ _ _ _ _ rfl rfl rfl (by show max _ _ = _; omega) rfl _) ?_
            simp only [aP, lI, l0, lS]
            refine readL (.bool true) rfl (by kernel_rfl) ?_
            simp only [aP, lI, l0, lS]
            refine readL (.bool true) rfl (by kernel_rfl) ?_
            simp only [aP, lI, l0, lS]
            refine readL (.int .i64 (a + ((N + 1 : Nat) : Int))) rfl (by kernel_rfl) ?_
            simp only [aP, lI, l0, lS]
            refine readL (.bool false) rfl (lssI .i64 _ _ _ _ _ _ rfl rfl rfl false (decide_eq_false h24) _) ?_
            simp only [aP, lI, l0, lS]
            refine readL (.bool false) rfl (by kernel_rfl) ?_
            simp only [aP, lI, l0, lS]
            refine readL (.pointer (some ⟨Ra, 0, none⟩)) rfl (by kernel_rfl) ?_
            simp only [aP, lI, l0, lS]
            refine readL (.int .i64 (a + ((N + 1 : Nat) : Int))) rfl (by kernel_rfl) ?_
            simp only [aP, lI, l0, lS]
            refine readL (.int .i64 (a + ((N + 1 : Nat) : Int) - 1024)) rfl (subI .i64 _ _ _ _ _ _ _ rfl rfl rfl (by rw [IntKind.wrap_i64]; omega) _) ?_
            simp only [aP, lI, l0, lS]
            have Mp := M.perm (pull0 ([] : List (Nat × List Value)) bs ([] : List (Nat × List Value)))
            have key := hK.chk w0 _ _ (wrow a (N + 2)) bs _ (a + ((N + 1 : Nat) : Int) - 1024) (wrow_w ha (N + 2) (by omega)) (by unfold i64; omega) hIa Mp
            clear Mp
            rw [show wchk (wrow a (N + 2)) (a + ((N + 1 : Nat) : Int) - 1024) = 140 from wchk_old (by omega) (.inl (by rw [show wtop (wrow a (N + 2)) = a + ((N + 1 : Nat) : Int) from wrow_top ha (N + 1)]; omega))] at key
            refine callL rfl (fun _ => by kernel_rfl) key ?_
            clear key
            rintro e w16 ⟨rfl, l⟩
            replace M := M.call l
            replace N_11 := NewW.below N_11 l
            clear l
            refine ⟨_, rfl, ?_⟩
            simp only [aP, lI, l0, lS]
            refine readL (.bool true) rfl (eqlI .i64 _ _ _ _ _ _ rfl rfl rfl true (by decide) _) ?_
            simp only [aP, lI, l0, lS]
            refine readL (.bool true) rfl (by kernel_rfl) ?_
            simp only [aP, lI, l0, lS]
            refine readL (.bool true) rfl (by kernel_rfl) ?_
            simp only [aP, lI, l0, lS]
            refine readL (.bool true) rfl (by kernel_rfl) ?_
            simp only [aP, lI, l0, lS]
            first | show Exit.then _ _ _ _ _ | show Exit.inBlock _ _ _ _ _
            have hbel := M.below
            clear M N_11
            go_wp2
            go_ret
            exact ⟨rfl, hbel⟩
theorem wlt_all {L : List Int} {c : Int} (h : ∀ x ∈ L, x < c) : wlt L c = L.length := by
  unfold wlt
  rw [List.filter_eq_self.2 (fun x hx => decide_eq_true (h x hx))]
theorem wcnt_lt (c : Int) : ∀ L : List Int, (L.filter (fun x => decide (c < x))).length + wlt L (c + 1) = L.length
  | [] => rfl
  | x :: L => by
    have ih := wcnt_lt c L
    unfold wlt at ih ⊢
    by_cases h : c < x
    · rw [List.filter_cons_of_pos (by simpa using h), List.filter_cons_of_neg (by simp; omega), List.length_cons, List.length_cons]
      omega
    · rw [List.filter_cons_of_neg (by simpa using h), List.filter_cons_of_pos (by simp; omega), List.length_cons, List.length_cons]
      omega
theorem wnx_hit {L : List Int} {last : Int} (h : WinL L) (hm : last - 1 ∈ L) (hs : wtop L - 1024 < last - 1) : wnx L last = last - 1 := by
  have h1 := wnx_ge (last := last) hm (by omega) hs
  have h0 := h.ge _ hm
  have h2 := (wnx_mem (L := L) (last := last) (by omega)).2.1
  omega
theorem wnx_skip {L : List Int} {last : Int} (h : ¬ (last - 1 ∈ L ∧ wtop L - 1024 < last - 1)) : wnx L last = wnx L (last - 1) := by
  have key : ∀ x, (x < last ∧ x ∈ L ∧ wtop L - 1024 < x) ↔ (x < last - 1 ∧ x ∈ L ∧ wtop L - 1024 < x) := fun x => by
    constructor
    · rintro ⟨h1, h2, h3⟩
      refine ⟨?_, h2, h3⟩
      by_cases e : x = last - 1
      · subst e; exact absurd ⟨h2, h3⟩ h
      · omega
    · rintro ⟨h1, h2, h3⟩
      exact ⟨by omega, h2, h3⟩
  by_cases a : wnx L last < 0
  · by_cases b : wnx L (last - 1) < 0
    · have := wnx_lo L last
      have := wnx_lo L (last - 1)
      omega
    · have hb := wnx_mem b
      have := wnx_ge hb.1 (by omega) hb.2.2 (last := last)
      omega
  · have ha := wnx_mem a
    have h1 := (key _).1 ⟨ha.2.1, ha.1, ha.2.2⟩
    have h2 := wnx_ge (last := last - 1) h1.2.1 h1.1 h1.2.2
    have hb := wnx_mem (L := L) (last := last - 1) (by omega)
    have h3 := wnx_ge hb.1 (by omega) hb.2.2 (last := last)
    omega
theorem wnx_end {L : List Int} {last : Int} (h : last ≤ wtop L - 1023 ∨ last ≤ 0) (hW : WinL L) : wnx L last < 0 := Decidable.byContradiction fun hn => by
  have h1 := wnx_mem hn
  have h2 := hW.ge _ h1.1
  omega
structure Bts (W : Nat → Nat) (f : Nat → Bool) : Prop where
  lt : ∀ i, i < 16 → W i < 2 ^ 64
  bit : ∀ i b, i < 16 → b < 64 → (W i).testBit b = f (64 * i + b)
def wsee (L : List Int) (k : Nat) : Bool := decide (wtop L - (k : Int) ∈ L)
theorem Bts.nil : Bts (fun _ => 0) (wsee []) := ⟨fun _ _ => by decide, fun i b _ _ => by rw [Nat.zero_testBit]; exact (decide_eq_false (by simp)).symm⟩
theorem Bts.congr {W : Nat → Nat} {f g : Nat → Bool} (h : Bts W f) (e : ∀ k, k < 1024 → f k = g k) : Bts W g := ⟨h.lt, fun i b hi hb => by rw [h.bit i b hi hb]; exact e _ (by omega)⟩
theorem Bts.at {W : Nat → Nat} {f : Nat → Bool} (h : Bts W f) (k : Nat) (hk : k < 1024) : (W (k / 64)).testBit (k % 64) = f k := by
  rw [h.bit _ _ (by omega) (by omega)]
  congr 1
  omega
theorem Bts.put {W V : Nat → Nat} {f : Nat → Bool} (h : Bts W f) (k : Nat) (hV : ∀ i, i < 16 → V i = if i = k / 64 then W i ||| 2 ^ (k % 64) else W i) : Bts V (fun j => decide (j = k) || f j) := by
  refine ⟨fun i hi => ?_, fun i b hi hb => ?_⟩
  · rw [hV i hi]
    split
    · exact Nat.or_lt_two_pow (h.lt i hi) (Nat.pow_lt_pow_right (by decide) (by omega))
    · exact h.lt i hi
  · rw [hV i hi]
    split
    · next e =>
      rw [Nat.testBit_or, h.bit i b hi hb, Nat.testBit_two_pow, Bool.or_comm]
      congr 1
      exact decide_eq_decide.2 (by omega)
    · next e =>
      rw [h.bit i b hi hb, decide_eq_false (by omega), Bool.false_or]
def wup (W : Nat → Nat) (d i : Nat) : Nat := if d / 64 ≤ i then W (i - d / 64) * 2 ^ (d % 64) % 2 ^ 64 else 0
def wdn (W : Nat → Nat) (d i : Nat) : Nat := if d / 64 < i then W (i - d / 64 - 1) / 2 ^ (64 - d % 64) else 0
def wst (W : Nat → Nat) (d i : Nat) : Nat := wup W d i ||| wdn W d i
theorem wup_lt (W : Nat → Nat) (d i : Nat) : wup W d i < 2 ^ 64 := by
  unfold wup
  split
  · exact Nat.mod_lt _ (by decide)
  · decide
theorem Bts.div_lt {W : Nat → Nat} {f : Nat → Bool} (h : Bts W f) (i e : Nat) (hi : i < 16) : W i / 2 ^ e < 2 ^ 64 := Nat.lt_of_le_of_lt (Nat.div_le_self _ _) (h.lt i hi)
theorem Bts.up {W : Nat → Nat} {f : Nat → Bool} (h : Bts W f) (d : Nat) : Bts (wst W d) (fun k => decide (d ≤ k) && f (k - d)) := by
  refine ⟨fun i hi => ?_, fun i b hi hb => ?_⟩
  · refine Nat.or_lt_two_pow (wup_lt W d i) ?_
    unfold wdn
    split
    · exact h.div_lt _ _ (by omega)
    · decide
  · have e1 : (wup W d i).testBit b = (decide (64 * (d / 64) + d % 64 ≤ 64 * i + b ∧ d % 64 ≤ b) && f (64 * i + b - d)) := by
      unfold wup
      by_cases c : d / 64 ≤ i
      · rw [if_pos c, Nat.testBit_mod_two_pow, decide_eq_true hb, Bool.true_and, Nat.testBit_mul_two_pow]
        by_cases c2 : d % 64 ≤ b
        · rw [decide_eq_true (show b ≥ d % 64 from c2), Bool.true_and, h.bit _ _ (by omega) (by omega), decide_eq_true (by omega), Bool.true_and]
          congr 1
          omega
        · rw [decide_eq_false (show ¬ b ≥ d % 64 from c2), Bool.false_and, decide_eq_false (by omega), Bool.false_and]
      · rw [if_neg c, Nat.zero_testBit, decide_eq_false (by omega), Bool.false_and]
    have e2 : (wdn W d i).testBit b = (decide (64 * (d / 64) + d % 64 ≤ 64 * i + b ∧ b < d % 64) && f (64 * i + b - d)) := by
      unfold wdn
      by_cases c : d / 64 < i
      · rw [if_pos c, Nat.testBit_div_two_pow]
        by_cases c2 : b < d % 64
        · rw [h.bit _ _ (by omega) (by omega), decide_eq_true (by omega), Bool.true_and]
          congr 1
          omega
        · rw [Nat.testBit_lt_two_pow (Nat.lt_of_lt_of_le (h.lt _ (by omega)) (Nat.pow_le_pow_right (by decide) (by omega))), decide_eq_false (by omega), Bool.false_and]
      · rw [if_neg c, Nat.zero_testBit, decide_eq_false (by omega), Bool.false_and]
    unfold wst
    rw [Nat.testBit_or, e1, e2, ← Bool.and_or_distrib_right]
    congr 1
    rw [← Bool.decide_or]
    exact decide_eq_decide.2 (by omega)
theorem wsee_put {L : List Int} {n : Int} {k : Nat} (hk : wtop L - n = (k : Int)) (j : Nat) : (decide (j = k) || wsee L j) = wsee (L ++ [n]) j := by
  unfold wsee
  rw [← Bool.decide_or, wtop_app, show max (wtop L) n = wtop L by omega]
  refine decide_eq_decide.2 ?_
  rw [List.mem_append, List.mem_singleton]
  constructor
  · rintro (h | h)
    · exact .inr (by omega)
    · exact .inl h
  · rintro (h | h)
    · exact .inr h
    · exact .inl (by omega)
theorem wsee_up {L : List Int} {n : Int} {d : Nat} (hd : n - wtop L = (d : Int)) (h1 : 1 ≤ d) (j : Nat) : (decide (j = 0) || (decide (d ≤ j) && wsee L (j - d))) = wsee (L ++ [n]) j := by
  unfold wsee
  rw [← Bool.decide_and, ← Bool.decide_or, wtop_app, show max (wtop L) n = n by omega]
  refine decide_eq_decide.2 ?_
  rw [List.mem_append, List.mem_singleton]
  constructor
  · rintro (h | ⟨h, h2⟩)
    · exact .inr (by omega)
    · refine .inl ?_
      rw [show n - (j : Int) = wtop L - ((j - d : Nat) : Int) by omega]
      exact h2
  · rintro (h | h)
    · have := wtop_le h
      refine .inr ⟨by omega, ?_⟩
      rw [show wtop L - ((j - d : Nat) : Int) = n - (j : Int) by omega]
      exact h
    · exact .inl (by omega)
def Wds (W : Nat → Nat) (L : List Int) : Prop := Bts W (wsee L)
theorem Wds.at {W : Nat → Nat} {L : List Int} (h : Wds W L) {n : Int} {k : Nat} (hk : wtop L - n = (k : Int)) (hlt : k < 1024) : (W (k / 64)).testBit (k % 64) = decide (n ∈ L) := by
  rw [Bts.at h k hlt]
  unfold wsee
  rw [← hk]
  exact decide_eq_decide.2 (by rw [show wtop L - (wtop L - n) = n by omega])
def fct (f : Nat → Bool) : Nat → Nat
  | 0 => 0
  | n + 1 => fct f n + (if f n then 1 else 0)
theorem fct_succ (f : Nat → Bool) (n : Nat) : fct f (n + 1) = fct f n + (if f n then 1 else 0) := rfl
theorem fct_le (f : Nat → Bool) : ∀ n, fct f n ≤ n
  | 0 => Nat.le_refl _
  | n + 1 => by
    have := fct_le f n
    unfold fct
    split <;> omega
theorem fct_add (f : Nat → Bool) (m : Nat) : ∀ n, fct f (m + n) = fct f m + fct (fun j => f (m + j)) n
  | 0 => rfl
  | n + 1 => by
    have ih := fct_add f m n
    rw [show m + (n + 1) = m + n + 1 by omega, fct_succ, fct_succ, ih]
    omega
theorem fct_congr {f g : Nat → Bool} : ∀ n, (∀ j, j < n → f j = g j) → fct f n = fct g n
  | 0, _ => rfl
  | n + 1, h => by
    rw [fct_succ, fct_succ, fct_congr n (fun j hj => h j (by omega)), h n (by omega)]
theorem fct_see (L : List Int) (hL : WinL L) : ∀ n : Nat, wlt L (wtop L + 1) = wlt L (wtop L + 1 - (n : Int)) + fct (wsee L) n
  | 0 => by rw [show wtop L + 1 - ((0 : Nat) : Int) = wtop L + 1 by omega]; rfl
  | n + 1 => by
    rw [fct_see L hL n, fct_succ, show wtop L + 1 - ((n + 1 : Nat) : Int) = wtop L - (n : Int) by omega, show wtop L + 1 - (n : Int) = wtop L - (n : Int) + 1 by omega]
    by_cases hm : wtop L - (n : Int) ∈ L
    · rw [show wsee L n = true from decide_eq_true hm, if_pos rfl, wlt_step (nx := wtop L - (n : Int)) (by omega) hL.nd hm (fun x _ hx => by omega)]
      omega
    · rw [show wsee L n = false from decide_eq_false hm, if_neg (by decide), wlt_same (nx := wtop L - (n : Int)) (by omega) hm (fun x _ hx => by omega)]
      omega
theorem fct_cnt {L : List Int} (h : WinL L) : fct (wsee L) 1024 = wcnt L := by
  have h1 := fct_see L h 1024
  have h2 := wcnt_lt (wtop L - 1024) L
  have h3 : wlt L (wtop L + 1) = L.length := wlt_all fun x hx => by have := wtop_le hx; omega
  rw [show wtop L + 1 - ((1024 : Nat) : Int) = wtop L - 1024 + 1 by omega] at h1
  unfold wcnt
  omega
def pc64 (x : Nat) : Nat := fct x.testBit 64
theorem Bts.sum {W : Nat → Nat} {f : Nat → Bool} (h : Bts W f) (j : Nat) (hj : j < 16) : fct f (64 * j) + pc64 (W j) = fct f (64 * (j + 1)) := by
  rw [show 64 * (j + 1) = 64 * j + 64 by omega, fct_add]
  unfold pc64
  rw [fct_congr 64 (fun b hb => h.bit j b hj hb)]
theorem shr64 (x e : Nat) (he : e ≤ 64) : (x : Int) / 2 ^ min ((e : Nat) : Int).toNat IntKind.u64.bits = ((x / 2 ^ e : Nat) : Int) := by
  have h1 : min ((e : Nat) : Int).toNat IntKind.u64.bits = e := by
    show min ((e : Nat) : Int).toNat 64 = e
    omega
  rw [h1]
  norm_cast
theorem shl64 (x e : Nat) (he : e ≤ 64) : IntKind.u64.wrap ((x : Int) * 2 ^ min ((e : Nat) : Int).toNat IntKind.u64.bits) = ((x * 2 ^ e % 2 ^ 64 : Nat) : Int) := by
  have h1 : min ((e : Nat) : Int).toNat IntKind.u64.bits = e := by
    show min ((e : Nat) : Int).toNat 64 = e
    omega
  rw [h1, show (x : Int) * 2 ^ e = ((x * 2 ^ e : Nat) : Int) by norm_cast, IntKind.wrap_u64]
  omega
theorem and64 (x y : Nat) (hx : x < 2 ^ 64) (hy : y < 2 ^ 64) : bits .and .u64 (x : Int) (y : Int) = ((x &&& y : Nat) : Int) := by
  have key : (BitVec.ofInt 64 (x : Int) &&& BitVec.ofInt 64 (y : Int)).toNat = x &&& y := by
    rw [BitVec.toNat_and, BitVec.toNat_ofInt, BitVec.toNat_ofInt, show ((x : Int) % ((2 ^ 64 : Nat) : Int)).toNat = x by omega, show ((y : Int) % ((2 ^ 64 : Nat) : Int)).toNat = y by omega]
  show IntKind.u64.wrap ((BitVec.ofInt 64 (x : Int) &&& BitVec.ofInt 64 (y : Int)).toNat : Nat) = _
  rw [key, IntKind.wrap_u64]
  have := Nat.and_lt_two_pow x hy
  omega
theorem or64 (x y : Nat) (hx : x < 2 ^ 64) (hy : y < 2 ^ 64) : bits .or .u64 (x : Int) (y : Int) = ((x ||| y : Nat) : Int) := by
  have key : (BitVec.ofInt 64 (x : Int) ||| BitVec.ofInt 64 (y : Int)).toNat = x ||| y := by
    rw [BitVec.toNat_or, BitVec.toNat_ofInt, BitVec.toNat_ofInt, show ((x : Int) % ((2 ^ 64 : Nat) : Int)).toNat = x by omega, show ((y : Int) % ((2 ^ 64 : Nat) : Int)).toNat = y by omega]
  show IntKind.u64.wrap ((BitVec.ofInt 64 (x : Int) ||| BitVec.ofInt 64 (y : Int)).toNat : Nat) = _
  rw [key, IntKind.wrap_u64]
  have := Nat.or_lt_two_pow hx hy
  omega
theorem and_i64 (x : Nat) (hx : x < 2 ^ 63) : bits .and .i64 (x : Int) 127 = ((x % 128 : Nat) : Int) := by
  have h127 : (BitVec.ofInt 64 127).toNat = 2 ^ 7 - 1 := by decide
  have key : (BitVec.ofInt 64 (x : Int) &&& BitVec.ofInt 64 127).toNat = x % 2 ^ 7 := by
    rw [BitVec.toNat_and, BitVec.toNat_ofInt, h127, Nat.and_two_pow_sub_one_eq_mod, show ((x : Int) % ((2 ^ 64 : Nat) : Int)).toNat = x by omega]
  show IntKind.i64.wrap ((BitVec.ofInt 64 (x : Int) &&& BitVec.ofInt 64 127).toNat : Nat) = _
  rw [key, IntKind.wrap_i64]
  omega
theorem bit64 (x e : Nat) (hx : x < 2 ^ 64) : bits .and .u64 ((x / 2 ^ e : Nat) : Int) 1 = (if x.testBit e then 1 else 0) := by
  rw [show (1 : Int) = ((1 : Nat) : Int) from rfl, and64 _ 1 (Nat.lt_of_le_of_lt (Nat.div_le_self _ _) hx) (by decide), Nat.and_one_is_mod]
  rw [Nat.testBit_eq_decide_div_mod_eq]
  by_cases h : x / 2 ^ e % 2 = 1
  · rw [h, decide_eq_true rfl]; rfl
  · rw [decide_eq_false h, show x / 2 ^ e % 2 = 0 by omega]; rfl
def rep8 (d : Nat) : Nat → Nat
  | 0 => 0
  | k + 1 => d + 256 * rep8 d k
theorem and_byte (a b c d : Nat) (ha : a < 256) (hc : c < 256) : (a + 256 * b) &&& (c + 256 * d) = (a &&& c) + 256 * (b &&& d) := by
  have h1 : ((a + 256 * b) &&& (c + 256 * d)) % 2 ^ 8 = a &&& c := by
    rw [Nat.and_mod_two_pow, show (a + 256 * b) % 2 ^ 8 = a by omega, show (c + 256 * d) % 2 ^ 8 = c by omega]
  have h2 : ((a + 256 * b) &&& (c + 256 * d)) / 2 ^ 8 = b &&& d := by
    rw [Nat.and_div_two_pow, show (a + 256 * b) / 2 ^ 8 = b by omega, show (c + 256 * d) / 2 ^ 8 = d by omega]
  omega
def oc1 (x m : Nat) : Nat := (x / 2 &&& m) + (x &&& m)
def oc2 (x m : Nat) : Nat := (x / 4 &&& m) + (x &&& m)
def oc3 (x m : Nat) : Nat := (x / 16 + x) &&& m
theorem oc1_b : ∀ b, b < 256 → ∀ e, e < 2 → ((b / 2 + 128 * e) &&& 85) = (b / 2 &&& 85) ∧ oc1 b 85 < 256 := by decide +kernel
theorem oc2_b : ∀ b, b < 256 → ∀ e, e < 4 → ((b / 4 + 64 * e) &&& 51) = (b / 4 &&& 51) ∧ oc2 b 51 < 256 := by decide +kernel
theorem oc3_b : ∀ b, b < 69 → ∀ e, e < 5 → ((b / 16 + b + 16 * e) &&& 15) = oc3 b 15 := by decide +kernel
theorem oc_b : ∀ b, b < 256 → oc2 (oc1 b 85) 51 < 69 ∧ oc2 (oc1 b 85) 51 % 16 < 5 ∧ oc3 (oc2 (oc1 b 85) 51) 15 = fct b.testBit 8 := by decide +kernel
theorem oc1_step (b c m : Nat) (hb : b < 256) : oc1 (b + 256 * c) (85 + 256 * m) = oc1 b 85 + 256 * oc1 c m := by
  unfold oc1
  rw [show (b + 256 * c) / 2 = (b / 2 + 128 * (c % 2)) + 256 * (c / 2) by omega, and_byte _ _ _ _ (by omega) (by decide), and_byte _ _ _ _ hb (by decide), (oc1_b b hb (c % 2) (by omega)).1]
  omega
theorem oc2_step (b c m : Nat) (hb : b < 256) : oc2 (b + 256 * c) (51 + 256 * m) = oc2 b 51 + 256 * oc2 c m := by
  unfold oc2
  rw [show (b + 256 * c) / 4 = (b / 4 + 64 * (c % 4)) + 256 * (c / 4) by omega, and_byte _ _ _ _ (by omega) (by decide), and_byte _ _ _ _ hb (by decide), (oc2_b b hb (c % 4) (by omega)).1]
  omega
theorem oc3_step (b c m : Nat) (hb : b < 69) (hc : c % 16 < 5) : oc3 (b + 256 * c) (15 + 256 * m) = oc3 b 15 + 256 * oc3 c m := by
  have e := oc3_b b hb (c % 16) hc
  unfold oc3 at e ⊢
  rw [show (b + 256 * c) / 16 + (b + 256 * c) = (b / 16 + b + 16 * (c % 16)) + 256 * (c / 16 + c) by omega, and_byte _ _ _ _ (by omega) (by decide), e]
def ocs : Nat → Nat → Nat
  | 0, _ => 0
  | k + 1, x => fct (x % 256).testBit 8 + 256 * ocs k (x / 256)
theorem oc_all : ∀ (k x : Nat), x < 256 ^ k → oc2 (oc1 x (rep8 85 k)) (rep8 51 k) % 16 < 5 ∧ oc3 (oc2 (oc1 x (rep8 85 k)) (rep8 51 k)) (rep8 15 k) = ocs k x
  | 0, x, hx => by
    obtain rfl : x = 0 := by simpa using hx
    decide
  | k + 1, x, hx => by
    have hx' : x / 256 < 256 ^ k := by rw [Nat.pow_succ] at hx; omega
    obtain ⟨ih1, ih2⟩ := oc_all k (x / 256) hx'
    obtain ⟨b1, b2, b3⟩ := oc_b (x % 256) (by omega)
    have l1 := (oc1_b (x % 256) (by omega) 0 (by decide)).2
    have l2 := (oc2_b (oc1 (x % 256) 85) l1 0 (by decide)).2
    have e : oc2 (oc1 x (rep8 85 (k + 1))) (rep8 51 (k + 1)) = oc2 (oc1 (x % 256) 85) 51 + 256 * oc2 (oc1 (x / 256) (rep8 85 k)) (rep8 51 k) := by
      show oc2 (oc1 x (85 + 256 * rep8 85 k)) (51 + 256 * rep8 51 k) = _
      rw [show oc1 x (85 + 256 * rep8 85 k) = oc1 (x % 256 + 256 * (x / 256)) (85 + 256 * rep8 85 k) by rw [Nat.mod_add_div], oc1_step _ _ _ (by omega), oc2_step _ _ _ l1]
    rw [e]
    refine ⟨by omega, ?_⟩
    show oc3 _ (15 + 256 * rep8 15 k) = fct (x % 256).testBit 8 + 256 * ocs k (x / 256)
    rw [oc3_step _ _ _ b1 ih1, b3, ih2]
theorem ocs_pc : ∀ k x : Nat, fct x.testBit (8 * (k + 1)) = fct (x % 256).testBit 8 + fct (x / 256).testBit (8 * k) := fun k x => by
  rw [show 8 * (k + 1) = 8 + 8 * k by omega, fct_add, show (256 : Nat) = 2 ^ 8 from rfl]
  congr 1
  · exact fct_congr 8 fun j hj => by rw [Nat.testBit_mod_two_pow, decide_eq_true hj, Bool.true_and]
  · exact fct_congr _ fun j _ => by rw [Nat.testBit_div_two_pow, Nat.add_comm]
def osm : Nat → Nat → Nat
  | 0, _ => 0
  | k + 1, x => fct (x % 256).testBit 8 + osm k (x / 256)
theorem osm_pc : ∀ k x : Nat, fct x.testBit (8 * k) = osm k x
  | 0, _ => rfl
  | k + 1, x => by rw [ocs_pc, osm_pc k]; rfl
def oc4 (x : Nat) : Nat := x + x / 256
def oc5 (x : Nat) : Nat := x + x / 65536
def oc6 (x : Nat) : Nat := x + x / 4294967296
theorem oc_sum (a b c d e f g h : Nat) (ha : a ≤ 8) (hb : b ≤ 8) (hc : c ≤ 8) (hd : d ≤ 8) (he : e ≤ 8) (hf : f ≤ 8) (hg : g ≤ 8) (hh : h ≤ 8) :
    oc6 (oc5 (oc4 (a + 256 * (b + 256 * (c + 256 * (d + 256 * (e + 256 * (f + 256 * (g + 256 * h))))))))) % 128 = a + b + c + d + e + f + g + h := by
  have h4 : oc4 (a + 256 * (b + 256 * (c + 256 * (d + 256 * (e + 256 * (f + 256 * (g + 256 * h))))))) = (a + b) + 256 * ((b + c) + 256 * ((c + d) + 256 * ((d + e) + 256 * ((e + f) + 256 * ((f + g) + 256 * ((g + h) + 256 * h)))))) := by unfold oc4; omega
  have h5 : oc5 ((a + b) + 256 * ((b + c) + 256 * ((c + d) + 256 * ((d + e) + 256 * ((e + f) + 256 * ((f + g) + 256 * ((g + h) + 256 * h))))))) = (a + b + c + d) + 256 * ((b + c + d + e) + 256 * ((c + d + e + f) + 256 * ((d + e + f + g) + 256 * ((e + f + g + h) + 256 * ((f + g + h) + 256 * ((g + h) + 256 * h)))))) := by unfold oc5; omega
  have h6 : ((a + b + c + d) + 256 * ((b + c + d + e) + 256 * ((c + d + e + f) + 256 * ((d + e + f + g) + 256 * ((e + f + g + h) + 256 * ((f + g + h) + 256 * ((g + h) + 256 * h))))))) / 4294967296 = (e + f + g + h) + 256 * ((f + g + h) + 256 * ((g + h) + 256 * h)) := by omega
  rw [h4, h5]
  unfold oc6
  rw [h6]
  clear h4 h5 h6
  omega
theorem oc_pc (x : Nat) (hx : x < 2 ^ 64) : oc6 (oc5 (oc4 (oc3 (oc2 (oc1 x 6148914691236517205) 3689348814741910323) 1085102592571150095))) % 128 = pc64 x := by
  have e := (oc_all 8 x (by simpa using hx)).2
  rw [show rep8 85 8 = 6148914691236517205 from rfl, show rep8 51 8 = 3689348814741910323 from rfl, show rep8 15 8 = 1085102592571150095 from rfl] at e
  rw [e]
  unfold pc64
  rw [show (64 : Nat) = 8 * 8 from rfl, osm_pc]
  show oc6 (oc5 (oc4 (_ + 256 * (_ + 256 * (_ + 256 * (_ + 256 * (_ + 256 * (_ + 256 * (_ + 256 * (_ + 256 * 0)))))))))) % 128 = _
  rw [Nat.mul_zero, Nat.add_zero, oc_sum _ _ _ _ _ _ _ _ (fct_le _ _) (fct_le _ _) (fct_le _ _) (fct_le _ _) (fct_le _ _) (fct_le _ _) (fct_le _ _) (fct_le _ _)]
  show _ = _ + (_ + (_ + (_ + (_ + (_ + (_ + (_ + 0)))))))
  omega
theorem oc1_lt (x : Nat) : oc1 x 6148914691236517205 < 2 ^ 64 := by
  have h1 := Nat.and_le_right (n := x / 2) (m := 6148914691236517205)
  have h2 := Nat.and_le_right (n := x) (m := 6148914691236517205)
  unfold oc1
  omega
theorem oc2_lt (x : Nat) : oc2 x 3689348814741910323 ≤ 7378697629483820646 := by
  have h1 := Nat.and_le_right (n := x / 4) (m := 3689348814741910323)
  have h2 := Nat.and_le_right (n := x) (m := 3689348814741910323)
  unfold oc2
  omega
theorem oc3_lt (x : Nat) : oc3 x 1085102592571150095 ≤ 1085102592571150095 := Nat.and_le_right
theorem setL_left : ∀ (ds a rest : List Value), ds.length = a.length → setL (a ++ rest) 0 ds = ds ++ rest := by
  have key : ∀ (ds pre a rest : List Value), ds.length = a.length → setL (pre ++ (a ++ rest)) pre.length ds = pre ++ (ds ++ rest) := by
    intro ds
    induction ds with
    | nil =>
      intro pre a rest h
      have : a = [] := List.eq_nil_of_length_eq_zero (by simpa using h.symm)
      subst this
      rfl
    | cons d ds ih =>
      intro pre a rest h
      cases a with
      | nil => cases h
      | cons x a =>
        have h2 : ds.length = a.length := by simpa using h
        have e : (pre ++ (x :: a ++ rest)).set pre.length d = (pre ++ [d]) ++ (a ++ rest) := by simp
        show setL ((pre ++ (x :: a ++ rest)).set pre.length d) (pre.length + 1) ds = _
        rw [e]
        have := ih (pre ++ [d]) a rest h2
        rw [List.length_append] at this
        rw [show pre.length + 1 = pre.length + [d].length from rfl, this]
        simp
  intro ds a rest h
  have := key ds [] a rest h
  simpa using this
theorem setL_pre (pre : List Value) : ∀ (ds l : List Value) (o : Nat), setL (pre ++ l) (pre.length + o) ds = pre ++ setL l o ds
  | [], _, _ => rfl
  | d :: ds, l, o => by
    show setL ((pre ++ l).set (pre.length + o) d) (pre.length + o + 1) ds = pre ++ setL (l.set o d) (o + 1) ds
    rw [List.set_append_right _ _ (by omega), Nat.add_sub_cancel_left, Nat.add_assoc, setL_pre pre ds (l.set o d) (o + 1)]
end Go.Proofs.Ytglnmmajgedinaa
