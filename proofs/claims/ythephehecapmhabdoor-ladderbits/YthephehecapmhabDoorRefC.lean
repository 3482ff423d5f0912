/- The document's own reduce, walked. -/
import Derived.Test.YthephehecapmhabDoorRefB
namespace Go.Proofs.YthephehecapmhabDoor
open Go.RowKit

set_option maxRecDepth 20000 in
set_option maxHeartbeats 8000000 in
theorem reduce_any (f : Nat → Int) (B : Nat) (w : World) (hf : ∀ j, j < 32 → 0 ≤ f j ∧ f j ≤ 1099511627776) (hB : B < w.heap.size) (ht : Has w B .i64 32 f) :
    Calls Tryd.prog 17 #[.slice (some ⟨B, 0, none⟩) 32 32] w fun e w' => ∃ g : Nat → Int, e = .returned (.agg (row .u8 32 (g)).toArray) ∧ (In 256 32 g ∧ val 256 g 32 = val D f 32 % Q) ∧ Below B w w' := by
  have rs0 : RS f B w (w.alloc (.cells #[.int .u8 0, .int .u8 0, .int .u8 0, .int .u8 0, .int .u8 0, .int .u8 0, .int .u8 0, .int .u8 0, .int .u8 0, .int .u8 0, .int .u8 0, .int .u8 0, .int .u8 0, .int .u8 0, .int .u8 0, .int .u8 0, .int .u8 0, .int .u8 0, .int .u8 0, .int .u8 0, .int .u8 0, .int .u8 0, .int .u8 0, .int .u8 0, .int .u8 0, .int .u8 0, .int .u8 0, .int .u8 0, .int .u8 0, .int .u8 0, .int .u8 0, .int .u8 0] 23)) := ⟨ht.alloc _ hB, key_zero _ _ _ rfl, (Below.refl _ _).alloc (by omega) _, by simp⟩
  clear ht
  go_enter Tryd.func17, Tryd.ntmps17
  go_wp2
  go_loopw [3] (fun i w' => ∃ m : Nat, m ≤ 16 ∧ i = .int .i64 ((m : Int) + 16) ∧ RS (F1 f m) B w w') (fun i _ => 32 - (intOf i).toNat)
  case atStart => exact ⟨0, by omega, rfl, by rw [show F1 f 0 = f from by funext j; unfold F1; simp]; exact rs0⟩
  case round =>
    obtain ⟨m, hm, rfl, hI⟩ := hrel
    clear rs0
    by_cases hlt : m < 16
    · have HS := show Hid (RS (F1 f (m + 1)) B w ((wr.setCell ⟨B, m, none⟩ (.int .i64 (F1 f m m + 38 * F1 f m (m + 16)))).drew)) from by
        rw [← F1_step]; exact (hI.set hB m (by omega) _).drew
      have c1 := hI.ht.cell m (by omega)
      have c2 := hI.ht.cell (m + 16) (by omega)
      have f1 := hI.ht.free m (by omega)
      have i1 : 0 ≤ F1 f m m ∧ F1 f m m ≤ 1099511627776 := by unfold F1; rw [if_neg (by omega)]; exact hf m (by omega)
      have i2 : 0 ≤ F1 f m (m + 16) ∧ F1 f m (m + 16) ≤ 1099511627776 := by unfold F1; rw [if_neg (by omega)]; exact hf (m + 16) (by omega)
      have g1 : (0 : Int) ≤ (m : Int) := by omega
      have g2 : (m : Int) < 16 := by omega
      have g3 : ((m : Int) + 16).toNat = m + 16 := by omega
      clear hI
      generalize F1 f m (m + 16) = y at *
      generalize F1 f m m = x at *
      obtain ⟨x0, x1⟩ := i1
      obtain ⟨y0, y1⟩ := i2
      go_wp2
      go_region
      go_wp2
      go_roundw
      case rel => exact ⟨m + 1, by omega, by go_num, HS.out⟩
      case measure => simp [intOf]; omega
    · obtain rfl : m = 16 := by omega
      have hv := F1_val f
      have h2 : R2 (val D f 32) 1 (F1 f 16) B w wr := ⟨by decide, fun j hj => by
        have a := hf j (by omega)
        have b := hf (j + 16) (by omega)
        unfold F1; rw [if_pos hj]; omega, hv, fun h => (by cases h), hI⟩
      clear hv hI hlt hm
      go_wp2
      obtain ⟨w1, rfl⟩ : ∃ w1 : World, w1 = wr := ⟨_, rfl⟩
      go_loopw [4] (fun r w' => ∃ (rv : Int) (f2 : Nat → Int), r = .int .i64 rv ∧ R2 (val D f 32) rv f2 B w w') (fun r w' => mu2 B r w')
      case atStart => exact ⟨1, _, rfl, h2⟩
      case round =>
        obtain ⟨rv, f2, rfl, hI⟩ := hrel
        clear h2
        by_cases hpos : 0 < rv
        · obtain ⟨w2, rfl⟩ : ∃ w2 : World, w2 = wr := ⟨_, rfl⟩
          have q1 : rv > 0 := hpos
          go_wp2
          go_loopw [4, 5] (fun r i w' => ∃ (k : Nat) (rk : Int) (g : Nat → Int), k ≤ 16 ∧ i = .int .i64 k ∧ r = .int .i64 rk ∧ R3 f2 k rk g B w w') (fun _ i _ => 16 - (intOf i).toNat)
          case atStart => exact ⟨0, 0, f2, by omega, rfl, rfl, ⟨by omega, by omega, fun j hj => by omega, fun _ _ => rfl, by simp [val], hI.rs⟩⟩
          case round =>
            obtain ⟨k, rk, g, hk, rfl, rfl, h3⟩ := hrel
            by_cases hlt : k < 16
            · have HS := show Hid _ from h3.step hB hlt hI.big
              have c1 := h3.rs.ht.cell k (by omega)
              have f1 := h3.rs.ht.free k (by omega)
              have a0 := h3.r0
              have a1 := h3.r1
              have i1 : 0 ≤ g k ∧ g k ≤ 70368744177664 := by rw [h3.rest k (Nat.le_refl k)]; exact hI.big k hlt
              have g1 : (0 : Int) ≤ (k : Int) := by omega
              have g2 : (k : Int) < 16 := by omega
              have HI := show Hid _ from hI
              clear h3 hI
              generalize g k = x at *
              obtain ⟨x0, x1⟩ := i1
              go_wp2
              go_roundw
              case rel => exact ⟨k + 1, _, _, by omega, by go_num, rfl, HS.out⟩
              case measure => simp [intOf]; omega
            · obtain rfl : k = 16 := by omega
              have HN := show Hid _ from h3.next hB hI
              have HL := show Hid _ from h3.less hB hI hpos
              have c1 := h3.rs.ht.cell 0 (by omega)
              have f1 := h3.rs.ht.free 0 (by omega)
              have a0 := h3.r0
              have a1 := h3.r1
              have i1 := h3.done 0 (by omega)
              clear h3 hI hlt hk
              generalize g 0 = x at *
              obtain ⟨x0, x1⟩ := i1
              go_wp2
              go_roundw
              case rel => exact ⟨rk, _, rfl, HN.out⟩
              case measure => exact HL.out
        · obtain rfl : rv = 0 := by have := hI.r0; omega
          have h4 : R4 (val D f 32) f2 B w wr := ⟨hI.inn rfl, hI.eq, hI.rs⟩
          clear hI hpos
          go_wp2
          obtain ⟨w2, rfl⟩ : ∃ w2 : World, w2 = wr := ⟨_, rfl⟩
          go_loopw [6] (fun _ w' => ∃ f4 : Nat → Int, R4 (val D f 32) f4 B w w') (fun _ w' => mu4 B w')
          case atStart => exact ⟨f2, h4⟩
          case round =>
            obtain ⟨f4, hI⟩ := hrel
            clear h4
            go_wp2_with fail
            refine (whole_any f4 B _ hI.inn hI.rs.ht).mono ?_
            rintro e w3 ⟨rfl, l3⟩
            have rs3 := hI.rs.call hB l3
            by_cases hq : Q ≤ val D f4 16
            · rw [show decide (Q ≤ val D f4 16) = true from decide_eq_true hq]
              have HI := show Hid _ from hI
              have HQ := show Hid _ from hq
              clear hI hq l3
              go_wp2
              obtain ⟨w4, rfl⟩ : ∃ w4 : World, w4 = wr := ⟨_, rfl⟩
              go_loopw [6, 7] (fun ls i w' => ∃ (k : Nat) (l : Int) (g : Nat → Int), k ≤ 16 ∧ i = .int .i64 k ∧ ls = .int .i64 l ∧ R5 f4 k l g B w w') (fun _ i _ => 16 - (intOf i).toNat)
              case atStart => exact ⟨0, 0, f4, by omega, rfl, rfl, ⟨Or.inl rfl, fun j hj => by omega, fun _ _ => rfl, by simp [val], rs3⟩⟩
              case round =>
                obtain ⟨k, l, g, hk, rfl, rfl, h5⟩ := hrel
                clear rs3
                by_cases hlt : k < 16
                · have h5' : ∀ q, R5 f4 k l g B w (wr.drewN q) := fun q => ⟨h5.l01, h5.done, h5.rest, h5.eq, h5.rs.drewN⟩
                  have HS := show Hid _ from fun q l' hl => (h5' q).step hB hlt HI.out.inn l' hl
                  have c1 := h5.rs.ht.cell k (by omega)
                  have f1 := h5.rs.ht.free k (by omega)
                  have l0 : -1 ≤ l := by have := h5.l01; omega
                  have l1 : l ≤ 0 := by have := h5.l01; omega
                  have i1 : 0 ≤ g k ∧ g k < 65536 := by rw [h5.rest k (Nat.le_refl k)]; exact HI.out.inn k hlt
                  have i2 := pD_in k
                  have g1 : (0 : Int) ≤ (k : Int) := by omega
                  have g2 : (k : Int) < 16 := by omega
                  clear h5 h5'
                  obtain ⟨x0, x1⟩ := i1
                  obtain ⟨y0, y1⟩ := i2
                  by_cases hn : l + g k - pD k < 0
                  · have HT := show Hid _ from fun q => HS.out q (-1) (by rw [if_pos hn])
                    clear HS
                    go_upto_region 20 with fail
                    go_quiet ((go_at_call 29; exact Calls.quiet_of_same (refPrime_any k hlt _)))
                    go_wp2
                    go_roundw
                    case rel => exact ⟨k + 1, _, _, by omega, by go_num, rfl, HT.out nq⟩
                    case measure => simp [intOf]; omega
                  · have HT := show Hid _ from fun q => HS.out q 0 (by rw [if_neg hn])
                    have hn' : 0 ≤ l + g k - pD k := by omega
                    clear HS
                    go_upto_region 20 with fail
                    go_quiet ((go_at_call 29; exact Calls.quiet_of_same (refPrime_any k hlt _)))
                    go_wp2
                    go_roundw
                    case rel => exact ⟨k + 1, _, _, by omega, by go_num, rfl, HT.out nq⟩
                    case measure => simp [intOf]; omega
                · obtain rfl : k = 16 := by omega
                  have hN := h5.next HI.out.inn HQ.out
                  have HN := show Hid _ from hN
                  have hmu : mu4 B wr < mu4 B w4 := by
                    unfold mu4
                    rw [num_eq h5.rs.ht, num_eq HI.out.rs.ht, hN.2]
                    have hb := val_in D (by decide) f4 16 HI.out.inn
                    have hq := HQ.out
                    simp only [Q] at *
                    omega
                  have HM := show Hid _ from hmu
                  have hR4 : R4 (val D f 32) g B w wr := ⟨hN.1, by rw [hN.2, ← HI.out.eq]; simp only [Q]; omega, h5.rs⟩
                  have H4 := show Hid _ from hR4
                  clear hmu hR4 hN HN h5 hlt hk
                  go_wp2
                  go_roundw
                  case rel => first | exact ⟨g, H4.out⟩ | ((repeat apply Exists.intro); exact ⟨⟨g, H4.out⟩, rfl⟩)
                  case measure => exact HM.out
            · rw [show decide (Q ≤ val D f4 16) = false from decide_eq_false hq]
              clear l3
              have HI := show Hid _ from hI
              have HQ := show Hid _ from hq
              clear hI hq
              have o0 := key_zero w3 23 w3.heap.size rfl
              have tok : True := trivial
              go_wp2_with (have _t := tok; refine wpList_store_mid rfl 23 _ _ rfl (w3.heap.size) 0 (row .u8 32 (fun _ => 0)).toArray rfl rfl (key_there (o0)) (key_info' _) (all_oneCell_toArray (row_one _ _ _)) ?_; clear tok)
              have hO : w.heap.size < w3.heap.size := by have := rs3.size; omega
              have rs5 : RS f4 B w ((w3.alloc (.cells #[.int .u8 0, .int .u8 0, .int .u8 0, .int .u8 0, .int .u8 0, .int .u8 0, .int .u8 0, .int .u8 0, .int .u8 0, .int .u8 0, .int .u8 0, .int .u8 0, .int .u8 0, .int .u8 0, .int .u8 0, .int .u8 0, .int .u8 0, .int .u8 0, .int .u8 0, .int .u8 0, .int .u8 0, .int .u8 0, .int .u8 0, .int .u8 0, .int .u8 0, .int .u8 0, .int .u8 0, .int .u8 0, .int .u8 0, .int .u8 0, .int .u8 0, .int .u8 0] 23)).setCells w3.heap.size 0 (row .u8 32 (fun _ => 0))) :=
                ⟨(rs3.ht.alloc _ (by omega)).setAll_other _ (by omega) 0 _, (rs3.hr.alloc _ (by omega)).setAll_other _ (by omega) 0 _, below_setAll (rs3.below.alloc (by omega) _) _ (by omega) 0 _, by rw [size_setAll]; simp; omega⟩
              have o1 := Has.all o0.there .u8 (fun _ => 0)
              clear o0 rs3
              generalize w3.heap.size = O at *
              go_loopw [9] (fun i w' => ∃ (k : Nat) (h : Nat → Int), k ≤ 16 ∧ i = .int .i64 k ∧ R6 f4 k h B O w w') (fun i _ => 16 - (intOf i).toNat)
              case atStart => exact ⟨0, fun _ => 0, by omega, rfl, ⟨fun _ _ => ⟨Int.le_refl 0, by decide⟩, rfl, o1, rs5⟩⟩
              case round =>
                obtain ⟨k, h, hk, rfl, h6⟩ := hrel
                clear rs5 o1
                by_cases hlt : k < 16
                · have HS := show Hid _ from h6.step hO hB hlt HI.out.inn
                  have c1 := h6.rs.ht.cell k (by omega)
                  have d1 := h6.ho.cell (2 * k) (by omega)
                  have d2 := h6.ho.cell (2 * k + 1) (by omega)
                  have e1 := h6.ho.free (2 * k) (by omega)
                  have e2 := h6.ho.free (2 * k + 1) (by omega)
                  have i1 : 0 ≤ f4 k ∧ f4 k < 65536 := HI.out.inn k hlt
                  have g1 : (0 : Int) ≤ (k : Int) := by omega
                  have g2 : (k : Int) < 16 := by omega
                  have g3 : (2 * (k : Int)).toNat = 2 * k := by omega
                  have g4 : (2 * (k : Int) + 1).toNat = 2 * k + 1 := by omega
                  have n1 : ∀ v, (wr.setCell ⟨O, 2 * k, none⟩ v).cell? ⟨B, k, none⟩ = some (.int .i64 (f4 k)) := fun v => by
                    rw [World.cell?_setCell_other _ _ _ _ (by intro h'; injection h'; omega)]; exact c1
                  clear h6
                  obtain ⟨x0, x1⟩ := i1
                  go_wp2
                  go_roundw
                  case rel => exact ⟨k + 1, _, by omega, by go_num, HS.out⟩
                  case measure => simp [intOf]; omega
                · obtain rfl : k = 16 := by omega
                  have ho := h6.ho
                  have hz := h6.rs.hr
                  have hE : In 256 32 h ∧ val 256 h 32 = val D f 32 % Q := ⟨h6.inn, by
                    have a := h6.eq
                    have b := HI.out.eq
                    have c := val_in D (by decide) f4 16 HI.out.inn
                    have q := HQ.out
                    have e : val 256 h (2 * 16) = val 256 h 32 := rfl
                    rw [← e, a, ← b, Int.emod_eq_of_lt c.1 (Int.not_le.1 q)]⟩
                  have HE := show Hid _ from hE
                  have hW := below_setAll h6.rs.below w.heap.size (by omega) 0 (row .u8 32 h)
                  clear hE hlt hk h6
                  go_wp2_with (first | (refine wpList_load_mid rfl 23 _ rfl (O) 0 rfl (row .u8 32 (h)) _ (Has.range (ho)) Tryd.underlying23 rfl (key_info _) ?_) | (refine wpList_store_mid rfl 23 _ _ rfl (w.heap.size) 0 (row .u8 32 (h)).toArray rfl rfl (key_there (hz)) (key_info' _) (all_oneCell_toArray (row_one _ _ _)) ?_))
                  exact bodyPost_ret (v := (.agg (row .u8 32 (h)).toArray)) (results_row Tryd.results17 rfl (Has.all hz.there .u8 h).range Tryd.underlying23 rfl (key_info h)) rfl ⟨h, rfl, HE.out, hW⟩
end Go.Proofs.YthephehecapmhabDoor
