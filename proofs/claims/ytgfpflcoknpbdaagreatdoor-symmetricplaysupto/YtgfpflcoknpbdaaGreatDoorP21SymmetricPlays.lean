/- Texts of Ht Ir Is, joined. -/
import Derived.Test.YtgfpflcoknpbdaaGreatDoorP1SymmetricPlays
import Derived.Test.YtgfpflcoknpbdaaGreatDoorP6SymmetricPlays
import Derived.Test.YtgfpflcoknpbdaaGreatDoorP20SymmetricPlays
import Derived.Test.YtgfpflcoknpbdaaGreatDoorP5SymmetricPlays
import Derived.Test.YtgfpflcoknpbdaaGreatDoorP16SymmetricPlays
import Derived.Lib.Bytes
set_option maxRecDepth 20000
set_option maxHeartbeats 64000000
namespace Go.Proofs.YtgfpflcoknpbdaaGreatDoor
open Go.RowKit
structure HXI (k : Nat → Int) (c : Int) (n : Nat → Int) (z : Nat → Int) (w : World) (m : Nat) (s : Value) (w' : World) : Prop where
  K : Kr w (w.heap.size + 1 + 1) [(w.heap.size + 1, .u8, 12, n), (w.heap.size, .u8, 32, k)] [] w'
  own : Own w' (w.heap.size + 1 + 1) 5 .u8 m (hxor k c n z) s
structure HXD (k : Nat → Int) (c : Int) (n : Nat → Int) (z : Nat → Int) (C : Int) (D : Nat) (w : World) (m : Nat) (s : Value) (w' : World) : Prop where
  K : Kr w (D + 1) [(D, .u8, 64, hblk k C n), (w.heap.size + 1, .u8, 12, n), (w.heap.size, .u8, 32, k)] [] w'
  own : Own w' (w.heap.size + 1 + 1) 5 .u8 m (hxor k c n z) s
  ne : s.ownBlock ≠ some D
theorem HXD.more {k : Nat → Int} {c : Int} {n : Nat → Int} {z : Nat → Int} {C : Int} {D : Nat} {w : World} {m : Nat} {s : Value} {w' : World} (h : HXD k c n z C D w m s w') (hD : w.heap.size + 1 + 1 ≤ D) (hm : m < 140737488355328) (x : Int) (hx : hxor k c n z m = x) (ty : TypeId) :
    ∃ v w'', (Builtin.append_ #[28, 28] ty #[s, .slice (some ⟨w'.heap.size, 0, none⟩) 1 1]).run Tryz.prog (w'.alloc (.cells #[.int .u8 x] 5)) = .ok v w'' ∧ HXD k c n z C D w (m + 1) v w'' := by
  have H1 := Has.new w' .u8 1 (fun _ => x) 5 w'.heap.size rfl
  have K1 := h.K.call ((Below.refl w'.heap.size w').alloc (Nat.le_refl _) (.cells (row .u8 1 (fun _ => x)).toArray 5))
  have hDs := (h.K.rows (D, .u8, 64, hblk k C n) mS).2
  have hsz := h.K.size
  obtain ⟨v, w'', hr, ho, hg, hw⟩ := run_append_Own (P := Tryz.prog) (ty := ty) Tryz.underlying28 one8 (h.own.alloc (.cells (row .u8 1 (fun _ => x)).toArray 5)) (some ⟨w'.heap.size, 0, none⟩) 1 1 (fun _ => x) (fun j hj => ⟨_, rfl, by rw [Addr.add_mid, Nat.zero_add]; exact H1.cell j hj⟩) (fun e => by cases e) (by unfold maxLen; omega) (by omega) (by simp; omega)
  have hlo : ∀ b, s.ownBlock = some b → w.heap.size + 1 + 1 ≤ b := fun b hb => (World.ownsRow.lt h.own b hb).1
  refine ⟨v, w'', hr, K1.grown' hg (fun p hp => ?_) (fun q hq => by cases hq) (fun b hb => by have := hlo b hb; omega), ho.congr fun j hj => ?_, fun e => ?_⟩
  · intro e
    have := hlo _ e
    rcases List.mem_cons.1 hp with rfl | hp
    · exact h.ne e
    · rcases List.mem_cons.1 hp with rfl | hp
      · simp only at this; omega
      · obtain rfl := List.mem_singleton.1 hp; simp only at this; omega
  · unfold app
    by_cases e : j < m
    · rw [if_pos e]
    · rw [if_neg e, ← hx, show j = m by omega]
  · rcases hw D e with h1 | h1
    · exact h.ne h1
    · simp at h1; omega
theorem refXor_own (k : Nat → Int) (c : Int) (n : Nat → Int) (hk : In 256 32 k) (hn : In 256 12 n) (sp : Option Addr) (len cap : Nat) (hlen : len ≤ 140737488355328) (z : Nat → Int) (w : World) (hs : Src w sp len z) :
    Calls Tryz.prog 41 #[(.agg (row .u8 32 (k)).toArray), .int .u32 c, (.agg (row .u8 12 (n)).toArray), .slice sp len cap] w fun e w' => ∃ sp' cap', e = .returned (.slice sp' len cap') ∧ Own w' w.heap.size 5 .u8 len (hxor k c n z) (.slice sp' len cap') ∧ Below w.heap.size w w' := by
  have K := Kr.init w
  replace K := K.box .u8 32 k 38 w.heap.size rfl
  replace K := K.box .u8 12 n 53 (w.heap.size + 1) (by simp)
  go_enter Tryz.func41, Tryz.ntmps41
  go_upto_region 1 with fail
  have s0 : ((w.alloc (.cells (row .u8 32 k).toArray 38)).alloc (.cells (row .u8 12 n).toArray 53)).heap.size = w.heap.size + 1 + 1 := by simp
  generalize ((w.alloc (.cells (row .u8 32 k).toArray 38)).alloc (.cells (row .u8 12 n).toArray 53)) = w0 at K s0 ⊢
  refine wp_region_list ?_
  refine actL (w' := w0.alloc (.cells #[] 5)) (.slice (some ⟨w0.heap.size, 0, none⟩) 0 0) rfl (by kernel_rfl) ?_
  simp only [aP, lI, l0, lS]
  refine pureL (.slice (some ⟨w0.heap.size, 0, none⟩) 0 0) rfl (fun _ => by kernel_rfl) ?_
  simp only [aP, lI, l0, lS]
  have HI : HXI k c n z w 0 (.slice (some ⟨w0.heap.size, 0, none⟩) 0 0) (w0.alloc (.cells #[] 5)) :=
    ⟨K.call ((Below.refl w0.heap.size w0).alloc (Nat.le_refl _) _), Own.lit w0 (w.heap.size + 1 + 1) 5 .u8 0 (hxor k c n z) (by omega) (by unfold maxLen; omega)⟩
  clear K
  generalize (w0.alloc (.cells #[] 5)) = w1 at HI ⊢
  generalize (Value.slice (some ⟨w0.heap.size, 0, none⟩) 0 0) = s1 at HI ⊢
  show Exit.then _ _ _ _ _
  go_wp2
  go_loopw [9, 10] (fun s i w' => ∃ t : Nat, 64 * t < len + 64 ∧ i = .int .i64 (64 * (t : Int)) ∧ HXI k c n z w (min (64 * t) len) s w') (fun _ i _ => len + 64 - (intOf i).toNat)
  case atStart => exact ⟨0, by omega, rfl, by rw [show min (64 * 0) len = 0 by omega]; exact HI⟩
  case round =>
    clear HI
    obtain ⟨t, ht, rfl, HI⟩ := hrel
    have g1 : (0 : Int) ≤ 64 * (t : Int) := by omega
    by_cases hlt : 64 * t < len
    · have g2 : 64 * (t : Int) < (len : Int) := by omega
      obtain ⟨C, hC⟩ : ∃ C, (c + (t : Int)) % 4294967296 = C := ⟨_, rfl⟩
      have HC := show Hid _ from hC
      rw [show min (64 * t) len = 64 * t by omega] at HI
      have K := HI.K
      have O := HI.own
      clear HI
      go_upto_region 5 with fail
      refine wp_region_list ?_
      refine rowKL .u8 32 k w.heap.size 0 38 _ _ rfl rfl rfl Tryz.underlying38 rfl (key_info _) (K.get _ _ _ _ (mT _ mS)).range ?_
      simp only [aP, lI, l0, lS]
      refine pureL (.int .u32 c) rfl (fun _ => by kernel_rfl) ?_
      simp only [aP, lI, l0, lS]
      refine pureL (.int .i64 (64 * (t : Int))) rfl (fun _ => by kernel_rfl) ?_
      simp only [aP, lI, l0, lS]
      refine pureL (.int .i64 (t : Int)) rfl (fun w => quoI .i64 _ _ _ _ _ _ _ rfl rfl rfl (by decide) (by rw [Int.tdiv_eq_ediv_of_nonneg g1, IntKind.wrap_i64]; omega) w) ?_
      simp only [aP, lI, l0, lS]
      refine pureL (.int .u32 ((t : Int) % 4294967296)) rfl (fun w => convI .i64 .u32 _ _ _ _ _ rfl (by kernel_rfl) Tryz.underlying63 (by kernel_rfl) rfl (IntKind.wrap_u32' _) w) ?_
      simp only [aP, lI, l0, lS]
      refine pureL (.int .u32 C) rfl (fun w => addI .u32 _ _ _ _ _ _ _ rfl rfl rfl (by rw [IntKind.wrap_u32', ← hC]; omega) w) ?_
      simp only [aP, lI, l0, lS]
      refine rowKL .u8 12 n (w.heap.size + 1) 0 53 _ _ rfl rfl rfl Tryz.underlying53 rfl (hn_info _) (K.get _ _ _ _ mS).range ?_
      simp only [aP, lI, l0, lS]
      refine callL rfl (fun _ => by kernel_rfl) (hrefBlock_any k C n hk hn _) ?_
      rintro e w2 ⟨rfl, l⟩
      replace O := O.below l
      replace K := K.call l
      clear l hC
      refine ⟨_, rfl, ?_⟩
      simp only [aP, lI, l0, lS]
      refine allocL zu8_64 75 rfl (fun _ => by kernel_rfl) ?_
      simp only [aP, lI, l0, lS]
      refine storesL .u8 64 (hblk k C n) w2.heap.size 75 _ _ rfl rfl rfl rfl (room_of (hb_zero _ _ _ rfl).there) (hb_info' _) ?_
      simp only [Act.put]
      have z2 := K.size
      have hOl : u9.ownBlock ≠ some w2.heap.size := fun e => by have := (World.ownsRow.lt O _ e).2; omega
      have hbl : Below w2.heap.size w2 ((w2.alloc (.cells zu8_64 75)).setCells w2.heap.size 0 (row .u8 64 (hblk k C n))) := below_setAll ((Below.refl w2.heap.size w2).alloc (Nat.le_refl _) _) _ (Nat.le_refl _) 0 _
      have K2 := K.fresh .u8 64 (hblk k C n) zu8_64 75 (hb_zero _ _ _ rfl).there
      have O2 := O.below hbl
      clear K O hbl
      generalize ((w2.alloc (.cells zu8_64 75)).setCells w2.heap.size 0 (row .u8 64 (hblk k C n))) = w3 at K2 O2 ⊢
      generalize w2.heap.size = D at *
      have HJ := HXD.mk K2 O2 hOl
      clear K2 O2 hOl
      show Exit.then _ _ _ _ _
      go_wp2
      go_loopw [9, 12] (fun s v w' => ∃ i : Nat, 64 * t ≤ i ∧ i ≤ min (64 * t + 64) len ∧ v = .int .i64 (i : Int) ∧ HXD k c n z C D w i s w') (fun _ v _ => len + 64 - (intOf v).toNat)
      case atStart => exact ⟨64 * t, by omega, by omega, by go_num, HJ⟩
      case round =>
        clear HJ
        obtain ⟨i, hi0, hi1, rfl, HJ⟩ := hrel
        have g3 : (0 : Int) ≤ (i : Int) := by omega
        by_cases hlt2 : i < min (64 * t + 64) len
        · have g4 : (i : Int) < (len : Int) := by omega
          have g5 : (i : Int) < 64 * (t : Int) + 64 := by omega
          have hil : i < len := by omega
          have hit : i - 64 * t < 64 := by omega
          obtain ⟨ad, rfl, ca⟩ := hs i hil
          go_upto_region 9 with fail
          have hv : bits .xor .u8 (z i) (hblk k C n (i - 64 * t)) = hxor k c n z i := by
            unfold hxor
            rw [show i / 64 = t by omega, show i % 64 = i - 64 * t by omega, HC.out]
          have K := HJ.K
          have O := HJ.own
          have N := HJ.ne
          clear HJ
          refine wp_region_held_drew (S := fun w' => Kr w (D + 1) [(D, .u8, 64, hblk k C n), (w.heap.size + 1, .u8, 12, n), (w.heap.size, .u8, 32, k)] [] w') (by kernel_rfl) K.drew ?_
          clear K
          intro K
          replace O := O.drew
          generalize wr.drew = w4 at K O ⊢
          refine pureHg (i := 0) (some 41) rfl u9 rfl rfl (fun _ => by kernel_rfl) K ?_
          simp only [aP, lI, l0, lS]
          refine pureHg (i := 1) (some 42) rfl (.slice (some ad) len cap) rfl rfl (fun _ => by kernel_rfl) K ?_
          simp only [aP, lI, l0, lS]
          refine pureHg (i := 2) (some 43) rfl (.int .i64 (i : Int)) rfl rfl (fun _ => by kernel_rfl) K ?_
          simp only [aP, lI, l0, lS]
          refine pureHg (i := 3) (some 44) rfl (.pointer (some (ad.add i))) rfl rfl (fun w => idxSl 28 5 len cap .i64 ad i _ _ Tryz.underlying28 (fun _ => by kernel_rfl) hil rfl rfl rfl w) K ?_
          simp only [aP, lI, l0, lS]
          refine cellPH (i := 4) (some 45) rfl .u8 (.int .u8 (z i)) (ad.add i) 5 _ rfl rfl rfl rfl (by kernel_rfl) (by kernel_rfl) (by kernel_rfl) (fun _ _ _ h => h) Tryz.underlying5 K (fun w' h => by rw [h.below.cell (World.block_lt_of_cell? w _ ca)]; exact ca) ?_
          simp only [aP, lI, l0, lS]
          refine pureHg (i := 5) (some 46) rfl (.int .i64 (i : Int)) rfl rfl (fun _ => by kernel_rfl) K ?_
          simp only [aP, lI, l0, lS]
          refine pureHg (i := 6) (some 47) rfl (.int .i64 (64 * (t : Int))) rfl rfl (fun _ => by kernel_rfl) K ?_
          simp only [aP, lI, l0, lS]
          refine pureHg (i := 7) (some 48) rfl (.int .i64 ((i - 64 * t : Nat) : Int)) rfl rfl (fun w => subI .i64 (i : Int) (64 * (t : Int)) _ _ _ _ _ rfl rfl rfl (by rw [IntKind.wrap_i64]; omega) w) K ?_
          simp only [aP, lI, l0, lS]
          refine pureHg (i := 8) (some 49) rfl (.pointer (some ⟨D, i - 64 * t, none⟩)) rfl rfl (fun w => idx64 D (i - 64 * t) hit w _ _ rfl rfl rfl) K ?_
          simp only [aP, lI, l0, lS]
          refine cellH (i := 9) (some 50) rfl .u8 (.int .u8 (hblk k C n (i - 64 * t))) D (i - 64 * t) 5 _ rfl rfl rfl rfl (by kernel_rfl) (by kernel_rfl) (by kernel_rfl) (fun _ _ _ h => h) Tryz.underlying5 K (fun _ h => (h.get _ _ _ _ mS).cell (i - 64 * t) hit) ?_
          simp only [aP, lI, l0, lS]
          refine pureHg (i := 10) (some 51) rfl (.int .u8 (hxor k c n z i)) rfl rfl (fun w => xorI .u8 _ _ _ _ _ _ _ rfl rfl rfl hv w) K ?_
          simp only [aP, lI, l0, lS]
          refine actH (i := 11) (w' := w4.alloc (.cells #[.int .u8 (hxor k c n z i)] 5)) (some 52) rfl (.slice (some ⟨w4.heap.size, 0, none⟩) 1 1) (by kernel_rfl) rfl rfl (by kernel_rfl) (K.call ((Below.refl w4.heap.size w4).alloc (Nat.le_refl _) _)) ?_
          simp only [aP, lI, l0, lS]
          obtain ⟨v, w5, hr, HJ⟩ := (HXD.mk K O N).more z2 (by omega) _ rfl 28
          clear K O N
          have K := HJ.K
          refine actH (i := 12) (some 53) rfl v (by kernel_rfl) rfl rfl (appendOp _ _ 28 _ _ _ rfl rfl rfl hr) K ?_
          simp only [aP, lI, l0, lS]
          refine pureHg (i := 13) (some 9) rfl v rfl rfl (fun _ => by kernel_rfl) K ?_
          simp only [aP, lI, l0, lS]
          refine wpAnyH_done (by kernel_rfl) ?_ _
          have HS := show Hid _ from HJ
          clear K HJ hr hv ca hs
          go_wp2
          go_roundw
          case rel => first | exact ⟨i + 1, by omega, by omega, by go_num, HS.out⟩ | ((repeat apply Exists.intro); refine ⟨⟨i + 1, by omega, by omega, ?_, HS.out⟩, rfl⟩ <;> first | rfl | go_num)
          case measure => simp [intOf]; omega
        · have K0 := HJ.K.back [(w.heap.size + 1, .u8, 12, n), (w.heap.size, .u8, 32, k)] (w.heap.size + 1 + 1) (fun p hp => mT _ hp) (fun p hp => by
            rcases List.mem_cons.1 hp with rfl | hp
            · simp only; omega
            · obtain rfl := List.mem_singleton.1 hp; simp only; omega) (fun q hq => by cases hq) (by omega) (by omega)
          obtain ⟨hi2, hi3⟩ : i = min (64 * (t + 1)) len ∧ (i = len ∨ i = 64 * t + 64) := by omega
          have O := HJ.own
          have HS := show Hid _ from (show HXI k c n z w (min (64 * (t + 1)) len) u9 wr from ⟨K0, by rw [← hi2]; exact O⟩)
          clear K0 O HJ HC hs hi2 hlt2
          have g5 : (len : Int) ≤ (i : Int) ∨ (i : Int) = 64 * (t : Int) + 64 := by omega
          rcases Nat.lt_or_ge i len with h | h
          · have g6 : (i : Int) < (len : Int) := by omega
            have g7 : ¬ (i : Int) < 64 * (t : Int) + 64 := by omega
            clear g5 hi3
            go_wp2
            go_roundw
            case rel => first | exact ⟨t + 1, by omega, by go_num, HS.out⟩ | ((repeat apply Exists.intro); refine ⟨⟨t + 1, by omega, ?_, HS.out⟩, rfl⟩ <;> first | rfl | go_num)
            case measure => simp [intOf]; omega
          · have g6 : ¬ (i : Int) < (len : Int) := by omega
            clear g5 hi3
            go_wp2
            go_roundw
            case rel => first | exact ⟨t + 1, by omega, by go_num, HS.out⟩ | ((repeat apply Exists.intro); refine ⟨⟨t + 1, by omega, ?_, HS.out⟩, rfl⟩ <;> first | rfl | go_num)
            case measure => simp [intOf]; omega
    · have g2 : ¬ 64 * (t : Int) < (len : Int) := by omega
      have O := HI.own
      rw [show min (64 * t) len = len by omega] at O
      have hbl := HI.K.below
      obtain ⟨sp', cap', rfl, hno, hsr⟩ := O.isSlice
      have HS := show Hid _ from (Own.lower O (show w.heap.size ≤ w.heap.size + 1 + 1 by omega))
      clear HI O hsr
      go_wp2
      go_ret
      exact ⟨sp', cap', rfl, HS.out, hbl⟩
theorem refEight_any (x : Nat) (w : World) :
    Calls Tryz.prog 57 #[.int .i64 (x : Int)] w fun e w' => ∃ v, e = .returned v ∧ Own w' w.heap.size 5 .u8 8 (dig x) v ∧ Below w.heap.size w w' := by
  go_enter Tryz.func57, Tryz.ntmps57
  go_upto_region 1 with fail
  refine wp_region_list ?_
  refine actL (w' := w.alloc (.cells #[] 5)) (.slice (some ⟨w.heap.size, 0, none⟩) 0 0) rfl (by kernel_rfl) ?_
  simp only [aP, lI, l0, lS]
  refine pureL (.slice (some ⟨w.heap.size, 0, none⟩) 0 0) rfl (fun _ => by kernel_rfl) ?_
  simp only [aP, lI, l0, lS]
  have K := (Below.refl w.heap.size w).alloc (Nat.le_refl _) (.cells #[] 5)
  have HO : Own (w.alloc (.cells #[] 5)) w.heap.size 5 .u8 0 (dig x) (.slice (some ⟨w.heap.size, 0, none⟩) 0 0) := Own.lit w w.heap.size 5 .u8 0 (dig x) (Nat.le_refl _) (by unfold maxLen; omega)
  generalize w.alloc (.cells #[] 5) = w0 at K HO ⊢
  generalize Value.slice (some ⟨w.heap.size, 0, none⟩) 0 0 = v0 at HO ⊢
  show Exit.then _ _ _ _ _
  go_wp2
  go_loopw [3, 4] (fun bw i w' => ∃ (n : Nat) (v : Value), n ≤ 8 ∧ i = .int .i64 (n : Int) ∧ v = bw ∧ Own w' w.heap.size 5 .u8 n (dig x) v ∧ Below w.heap.size w w') (fun _ i _ => 8 - (intOf i).toNat)
  case atStart => exact ⟨0, _, by omega, rfl, rfl, HO, K⟩
  case round =>
    clear K HO
    obtain ⟨n, v, hn, rfl, rfl, HO, K⟩ := hrel
    have g1 : (0 : Int) ≤ (n : Int) := by omega
    by_cases hlt : n < 8
    · have g2 : (n : Int) < 8 := by omega
      go_upto_region 5 with fail
      refine wp_region_list ?_
      refine pureL v rfl (fun _ => by kernel_rfl) ?_
      simp only [aP, lI, l0, lS]
      refine pureL (.int .i64 (x : Int)) rfl (fun _ => by kernel_rfl) ?_
      simp only [aP, lI, l0, lS]
      refine pureL (.int .i64 (n : Int)) rfl (fun _ => by kernel_rfl) ?_
      simp only [aP, lI, l0, lS]
      refine pureL (.int .i64 ((8 * n : Nat) : Int)) rfl (fun w => mulI .i64 _ _ _ _ _ _ _ rfl rfl rfl (by rw [IntKind.wrap_i64]; omega) w) ?_
      simp only [aP, lI, l0, lS]
      refine pureL (.int .i64 ((x / 256 ^ n : Nat) : Int)) rfl (fun w => shrI .i64 .i64 _ _ _ _ _ _ _ rfl rfl rfl (by omega) (dig_shr x n hlt) w) ?_
      simp only [aP, lI, l0, lS]
      refine pureL (.int .u8 (dig x n)) rfl (fun w => convI .i64 .u8 _ _ _ _ _ rfl (by kernel_rfl) Tryz.underlying5 (by kernel_rfl) rfl (by rw [IntKind.wrap_u8']; unfold dig; omega) w) ?_
      simp only [aP, lI, l0, lS]
      refine actL (w' := wr.alloc (.cells #[.int .u8 (dig x n)] 5)) (.slice (some ⟨wr.heap.size, 0, none⟩) 1 1) rfl (by kernel_rfl) ?_
      simp only [aP, lI, l0, lS]
      obtain ⟨v2, w2, hr, ho, hg⟩ := HO.more8 (by omega) (dig x n) rfl 28 K.size
      refine actL v2 rfl (appendOp _ _ 28 _ _ _ rfl rfl rfl hr) ?_
      simp only [aP, lI, l0, lS]
      refine pureL v2 rfl (fun _ => by kernel_rfl) ?_
      simp only [aP, lI, l0, lS]
      have hb := Below.grown (K.alloc K.size (.cells #[.int .u8 (dig x n)] 5)) hg (by have := K.size; simp; omega) (fun b hb => (World.ownsRow.lt HO b hb).1)
      have HS := show Hid _ from (And.intro ho hb)
      clear K HO hr ho hg hb
      show Exit.inBlock _ _ _ _ _
      go_wp2
      go_roundw
      case rel => first | exact ⟨n + 1, v2, by omega, by go_num, rfl, HS.out⟩ | ((repeat apply Exists.intro); refine ⟨⟨n + 1, v2, by omega, by go_num, rfl, HS.out⟩, rfl⟩)
      case measure => simp [intOf]; omega
    · obtain rfl : n = 8 := by omega
      clear hlt hn g1
      go_wp2
      go_ret
      exact ⟨v, rfl, HO, K⟩
theorem up16_le (n : Nat) : n ≤ up16 n ∧ up16 n ≤ n + 15 ∧ up16 n % 16 = 0 := by unfold up16; omega
theorem refFull_any (sp : Option Addr) (len cap : Nat) (hlen : len ≤ 35184372088832) (hnil : sp = none → cap = 0) (z : Nat → Int) (w : World) (hs : Src w sp len z) :
    Calls Tryz.prog 56 #[.slice sp len cap] w fun e w' => ∃ v, e = .returned v ∧ Own w' w.heap.size 5 .u8 (up16 len) (padz len z) v ∧ Below w.heap.size w w' := by
  obtain ⟨hu1, hu2, hu3⟩ := up16_le len
  go_enter Tryz.func56, Tryz.ntmps56
  go_upto_region 1 with fail
  refine wp_region_list ?_
  refine actL (w' := w.alloc (.cells #[] 5)) (.slice (some ⟨w.heap.size, 0, none⟩) 0 0) rfl (by kernel_rfl) ?_
  simp only [aP, lI, l0, lS]
  refine pureL (.slice sp len cap) rfl (fun _ => by kernel_rfl) ?_
  simp only [aP, lI, l0, lS]
  have K := (Below.refl w.heap.size w).alloc (Nat.le_refl _) (.cells #[] 5)
  have HO : Own (w.alloc (.cells #[] 5)) w.heap.size 5 .u8 0 (padz len z) (.slice (some ⟨w.heap.size, 0, none⟩) 0 0) := Own.lit w w.heap.size 5 .u8 0 (padz len z) (Nat.le_refl _) (by unfold maxLen; omega)
  obtain ⟨v, w1, hr, ho, hg, _⟩ := run_append_Own (P := Tryz.prog) (ty := 28) Tryz.underlying28 one8 HO sp len cap z (hs.below K (Nat.le_refl _)) hnil (by unfold maxLen; omega) (by omega) K.size
  have hb := Below.grown K hg (by simp) (fun b hb => (World.ownsRow.lt HO b hb).1)
  refine actL v rfl (appendOp _ _ 28 _ _ _ rfl rfl rfl hr) ?_
  simp only [aP, lI, l0, lS]
  refine pureL v rfl (fun _ => by kernel_rfl) ?_
  simp only [aP, lI, l0, lS]
  replace HO : Own w1 w.heap.size 5 .u8 len (padz len z) v := by
    rw [Nat.zero_add] at ho
    exact ho.congr fun j hj => by unfold app padz; rw [if_neg (Nat.not_lt_zero j), if_pos hj, Nat.sub_zero]
  replace K := hb
  clear hr ho hg hb hs
  show Exit.then _ _ _ _ _
  go_wp2
  go_loopw [3] (fun ow w' => ∃ (n : Nat) (v : Value), v = ow ∧ len ≤ n ∧ n ≤ up16 len ∧ Own w' w.heap.size 5 .u8 n (padz len z) v ∧ Below w.heap.size w w') (fun ow _ => up16 len - slen ow)
  case atStart => exact ⟨len, v, rfl, Nat.le_refl _, hu1, HO, K⟩
  case round =>
    clear K HO
    obtain ⟨n, v, rfl, hn1, hn2, HO, K⟩ := hrel
    obtain ⟨ts, tc, rfl, _, _⟩ := HO.bytes
    by_cases hm : n % 16 = 0
    · have hm1 : ¬ 0 < (n : Int) % 16 := by omega
      have hm2 : (n : Int) % 16 = 0 := by omega
      have hm3 : (n : Int).tmod 16 = 0 := by rw [Int.tmod_eq_emod_of_nonneg (by omega)]; omega
      have HS := show Hid _ from (show n = up16 len by omega)
      clear hm hu1 hu2 hu3
      go_wp2
      go_ret
      exact ⟨_, rfl, by rw [← HS.out]; exact HO, K⟩
    · have hm1 : 0 < (n : Int) % 16 := by omega
      have hm4 : 1 ≤ (n : Int) % 16 := by omega
      have hm3 : (n : Int).tmod 16 = (n : Int) % 16 := Int.tmod_eq_emod_of_nonneg (by omega)
      go_upto_region 3 with fail
      refine wp_region_list ?_
      refine pureL (.slice ts n tc) rfl (fun _ => by kernel_rfl) ?_
      simp only [aP, lI, l0, lS]
      refine actL (w' := wr.alloc (.cells #[.int .u8 0] 5)) (.slice (some ⟨wr.heap.size, 0, none⟩) 1 1) rfl (by kernel_rfl) ?_
      simp only [aP, lI, l0, lS]
      obtain ⟨v2, w2, hr, ho, hg⟩ := HO.more8 (by omega) 0 (by unfold padz; rw [if_neg (by omega)]) 28 K.size
      refine actL v2 rfl (appendOp _ _ 28 _ _ _ rfl rfl rfl hr) ?_
      simp only [aP, lI, l0, lS]
      refine pureL v2 rfl (fun _ => by kernel_rfl) ?_
      simp only [aP, lI, l0, lS]
      have hb := Below.grown (K.alloc K.size (.cells #[.int .u8 0] 5)) hg (by have := K.size; simp; omega) (fun b hb => (World.ownsRow.lt HO b hb).1)
      obtain ⟨ts2, tc2, rfl, _, _⟩ := ho.bytes
      have HS := show Hid _ from (And.intro ho hb)
      clear K HO hr ho hg hb hm1 hm4 hm3
      show Exit.inBlock _ _ _ _ _
      go_wp2
      go_roundw
      case rel => first | exact ⟨n + 1, _, rfl, by omega, by omega, HS.out⟩ | ((repeat apply Exists.intro); refine ⟨⟨n + 1, _, rfl, by omega, by omega, HS.out⟩, rfl⟩)
      case measure => simp [slen]; omega
theorem refTag_any (k n : Nat → Int) (hk : In 256 32 k) (hn : In 256 12 n) (bp : Option Addr) (bl bc : Nat) (hbl : bl ≤ 35184372088832) (hbn : bp = none → bc = 0) (b : Nat → Int) (hb : In 256 bl b) (sp : Option Addr) (sl sc : Nat) (hsl : sl ≤ 35184372088832) (hsn : sp = none → sc = 0) (s : Nat → Int) (hs : In 256 sl s) (w : World) (hsb : Src w bp bl b) (hss : Src w sp sl s) :
    Calls Tryz.prog 42 #[(.agg (row .u8 32 (k)).toArray), (.agg (row .u8 12 (n)).toArray), .slice bp bl bc, .slice sp sl sc] w fun e w' => e = .returned (.agg (row .u8 16 (atag k n bl b sl s)).toArray) ∧ Below w.heap.size w w' := by
  obtain ⟨ub1, ub2, _⟩ := up16_le bl
  obtain ⟨us1, us2, _⟩ := up16_le sl
  have K := Kr.init w
  replace K := K.box .u8 32 k 38 (w.heap.size) rfl
  replace K := K.box .u8 12 n 53 (w.heap.size + 1) (by simp)
  replace K := K.make 16 zu8_16 65 (w.heap.size + 1 + 1) (by simp) (tag_zero _ _ _ (by simp)).there
  go_enter Tryz.func42, Tryz.ntmps42
  go_upto_region 1 with fail
  generalize (((w.alloc (.cells (row .u8 32 k).toArray 38)).alloc (.cells (row .u8 12 n).toArray 53)).alloc (.cells zu8_16 65)) = w0 at K ⊢
  refine wp_region_list ?_
  refine rowKL .u8 32 (k) (w.heap.size) 0 38 _ _ rfl rfl rfl Tryz.underlying38 rfl (key_info _) ((K.get _ _ _ _ (mT _ mS)).range) ?_
  simp only [aP, lI, l0, lS]
  refine rowKL .u8 12 (n) (w.heap.size + 1) 0 53 _ _ rfl rfl rfl Tryz.underlying53 rfl (hn_info _) ((K.get _ _ _ _ mS).range) ?_
  simp only [aP, lI, l0, lS]
  refine callL rfl (fun _ => by kernel_rfl) (hrefBlock_any k 0 n hk hn _) ?_
  rintro e w1 ⟨rfl, l⟩
  replace K := K.call l
  clear l
  refine ⟨_, rfl, ?_⟩
  simp only [aP, lI, l0, lS]
  refine allocL zu8_64 75 rfl (fun _ => by kernel_rfl) ?_
  simp only [aP, lI, l0, lS]
  refine storesL .u8 64 (hblk k 0 n) w1.heap.size 75 _ _ rfl rfl rfl rfl (room_of (hb_zero _ _ _ rfl).there) (hb_info' _) ?_
  simp only [Act.put]
  have zS := K.size
  replace K := K.fresh .u8 64 (hblk k 0 n) zu8_64 75 (hb_zero _ _ _ rfl).there
  generalize ((w1.alloc (.cells zu8_64 75)).setCells w1.heap.size 0 (row .u8 64 (hblk k 0 n))) = w2 at K ⊢
  generalize w1.heap.size = S at *
  show Exit.then _ _ _ _ _
  go_upto_region 2 with fail
  refine wp_region_list ?_
  refine pureL (.agg (row .u8 32 (fun _ => 0)).toArray) rfl (fun _ => by kernel_rfl) ?_
  simp only [aP, lI, l0, lS]
  refine allocL zu8_32 38 rfl (fun _ => by kernel_rfl) ?_
  simp only [aP, lI, l0, lS]
  refine storesL .u8 32 (fun _ => 0) w2.heap.size 38 _ _ rfl rfl rfl rfl (room_of (key_zero _ _ _ rfl).there) (key_info' _) ?_
  simp only [Act.put]
  have zY := K.size
  replace K := K.fresh .u8 32 (fun _ => 0) zu8_32 38 (key_zero _ _ _ rfl).there
  generalize ((w2.alloc (.cells zu8_32 38)).setCells w2.heap.size 0 (row .u8 32 (fun _ => 0))) = w3 at K ⊢
  generalize w2.heap.size = Y at *
  show Exit.then _ _ _ _ _
  have hkk := hblk_in k 0 n 32
  generalize hBe : hblk k 0 n = B at *
  go_wp2
  go_loopw [11] (fun i w' => ∃ (m : Nat) (f : Nat → Int), m ≤ 32 ∧ i = .int .i64 (m : Int) ∧ Kr w (Y + 1) [(Y, .u8, 32, f), (S, .u8, 64, B)] [(w.heap.size + 1 + 1, 16)] w' ∧ ∀ j, j < m → f j = B j) (fun i _ => 32 - (intOf i).toNat)
  case atStart => exact ⟨0, _, by omega, rfl, K.sub _ (fun p hp => by rcases List.mem_cons.1 hp with rfl | hp; exact mS; obtain rfl := List.mem_singleton.1 hp; exact (mT _ mS)), fun j hj => by omega⟩
  case round =>
    clear K
    obtain ⟨m, f, hm, rfl, K, hd⟩ := hrel
    have g1 : (0 : Int) ≤ (m : Int) := by omega
    by_cases hlt : m < 32
    · have g2 : (m : Int) < 32 := by omega
      go_upto_region 6 with fail
      refine wp_region_list ?_
      refine pureL (.int .i64 (m : Int)) rfl (fun _ => by kernel_rfl) ?_
      simp only [aP, lI, l0, lS]
      refine pureL (.int .i64 (m : Int)) rfl (fun _ => by kernel_rfl) ?_
      simp only [aP, lI, l0, lS]
      refine pureL (.pointer (some ⟨S, m, none⟩)) rfl (fun w' => idxB S m (by omega) w' _ _ rfl rfl rfl) ?_
      simp only [aP, lI, l0, lS]
      refine cellL .u8 (.int .u8 (B m)) S m 5 _ rfl rfl rfl Tryz.underlying5 ((K.get _ _ _ _ (mT _ mS)).cell m (by omega)) ?_
      simp only [aP, lI, l0, lS]
      refine pureL (.pointer (some ⟨Y, m, none⟩)) rfl (fun w' => idxKy Y m hlt w' _ _ rfl rfl rfl) ?_
      simp only [aP, lI, l0, lS]
      refine storeL .u8 (B m) Y m 5 _ _ rfl rfl rfl rfl (by rw [(K.get _ _ _ _ mS).cell m hlt]; rfl) ((K.get _ _ _ _ mS).free m hlt) (by kernel_rfl) ?_
      simp only [Act.put]
      replace K := K.setCell [(S, .u8, 64, B)] Y .u8 32 f m hlt (B m) mS (fun p hp => by obtain rfl := List.mem_singleton.1 hp; exact (mT _ mS)) (fun p hp => by obtain rfl := List.mem_singleton.1 hp; simp only; omega) (by omega)
      have HS := show Hid _ from (And.intro K (show ∀ j, j < m + 1 → upd f m (B m) j = B j from fun j hj => by
        by_cases e : j = m
        · subst e; rw [upd_same]
        · rw [upd_other _ _ _ _ e]; exact hd j (by omega)))
      clear K hd
      generalize wr.setCell ⟨Y, m, none⟩ (.int .u8 (B m)) = w4 at HS ⊢
      generalize upd f m (B m) = f' at HS
      show Exit.inBlock _ _ _ _ _
      go_wp2
      go_roundw
      case rel => first | exact ⟨m + 1, f', by omega, by go_num, HS.out⟩ | ((repeat apply Exists.intro); refine ⟨⟨m + 1, f', by omega, by go_num, HS.out⟩, rfl⟩)
      case measure => simp [intOf]; omega
    · obtain rfl : m = 32 := by omega
      replace K := K.congr B (fun j hj => hd j hj)
      replace K := K.sub [(Y, .u8, 32, B)] (fun p hp => by obtain rfl := List.mem_singleton.1 hp; exact mS)
      clear hd hlt hm g1
      go_upto_region 7 with fail
      refine wp_region_list ?_
      refine pureL (.slice bp bl bc) rfl (fun _ => by kernel_rfl) ?_
      simp only [aP, lI, l0, lS]
      refine callL rfl (fun _ => by kernel_rfl) (refFull_any bp bl bc hbl hbn b _ (hsb.below K.below (Nat.le_refl _))) ?_
      rintro e w5 ⟨P1v, rfl, P1, l⟩
      replace P1 := P1.lower K.size
      replace K := K.call l
      clear l
      refine ⟨_, rfl, ?_⟩
      simp only [aP, lI, l0, lS]
      refine pureL (.slice sp sl sc) rfl (fun _ => by kernel_rfl) ?_
      simp only [aP, lI, l0, lS]
      refine callL rfl (fun _ => by kernel_rfl) (refFull_any sp sl sc hsl hsn s _ (hss.below K.below (Nat.le_refl _))) ?_
      rintro e w6 ⟨P2v, rfl, P2, l⟩
      replace P2 := P2.lower K.size
      replace K := K.call l
      replace P1 := P1.below l
      clear l
      refine ⟨_, rfl, ?_⟩
      simp only [aP, lI, l0, lS]
      obtain ⟨q2, c2, rfl, hq1, hq2⟩ := P2.bytes
      obtain ⟨v7, w7, hr, ho, hg, _⟩ := run_append_Own (P := Tryz.prog) (ty := 28) Tryz.underlying28 one8 P1 q2 (up16 sl) c2 (padz sl s) hq2 P2.nilCap (by unfold maxLen; omega) (by omega) K.size
      refine actL v7 rfl (appendOp _ _ 28 _ _ _ rfl rfl rfl hr) ?_
      simp only [aP, lI, l0, lS]
      refine pureL v7 rfl (fun _ => by kernel_rfl) ?_
      simp only [aP, lI, l0, lS]
      replace K := K.grown hg (fun b hb => (World.ownsRow.lt P1 b hb).1)
      replace P1 := ho
      clear hr ho hg hq1 hq2 P2
      show Exit.then _ _ _ _ _
      go_upto_region 8 with fail
      refine wp_region_list ?_
      refine pureL v7 rfl (fun _ => by kernel_rfl) ?_
      simp only [aP, lI, l0, lS]
      refine pureL (.slice bp bl bc) rfl (fun _ => by kernel_rfl) ?_
      simp only [aP, lI, l0, lS]
      refine pureL (.int .i64 (bl : Int)) rfl (fun w => lenS _ 28 5 bp bl bc rfl Tryz.underlying28 rfl w) ?_
      simp only [aP, lI, l0, lS]
      refine callL rfl (fun _ => by kernel_rfl) (refEight_any bl _) ?_
      rintro e w8 ⟨p8, rfl, P8, l⟩
      replace P8 := P8.lower K.size
      replace K := K.call l
      replace P1 := P1.below l
      clear l
      refine ⟨_, rfl, ?_⟩
      simp only [aP, lI, l0, lS]
      obtain ⟨q2, c2, rfl, hq1, hq2⟩ := P8.bytes
      obtain ⟨v9, w9, hr, ho, hg, _⟩ := run_append_Own (P := Tryz.prog) (ty := 28) Tryz.underlying28 one8 P1 q2 (8) c2 (dig bl) hq2 P8.nilCap (by unfold maxLen; omega) (by omega) K.size
      refine actL v9 rfl (appendOp _ _ 28 _ _ _ rfl rfl rfl hr) ?_
      simp only [aP, lI, l0, lS]
      refine pureL v9 rfl (fun _ => by kernel_rfl) ?_
      simp only [aP, lI, l0, lS]
      replace K := K.grown hg (fun b hb => (World.ownsRow.lt P1 b hb).1)
      replace P1 := ho
      clear hr ho hg hq1 hq2 P8
      show Exit.then _ _ _ _ _
      go_upto_region 9 with fail
      refine wp_region_list ?_
      refine pureL v9 rfl (fun _ => by kernel_rfl) ?_
      simp only [aP, lI, l0, lS]
      refine pureL (.slice sp sl sc) rfl (fun _ => by kernel_rfl) ?_
      simp only [aP, lI, l0, lS]
      refine pureL (.int .i64 (sl : Int)) rfl (fun w => lenS _ 28 5 sp sl sc rfl Tryz.underlying28 rfl w) ?_
      simp only [aP, lI, l0, lS]
      refine callL rfl (fun _ => by kernel_rfl) (refEight_any sl _) ?_
      rintro e w10 ⟨p8, rfl, P8, l⟩
      replace P8 := P8.lower K.size
      replace K := K.call l
      replace P1 := P1.below l
      clear l
      refine ⟨_, rfl, ?_⟩
      simp only [aP, lI, l0, lS]
      obtain ⟨q2, c2, rfl, hq1, hq2⟩ := P8.bytes
      obtain ⟨v11, w11, hr, ho, hg, _⟩ := run_append_Own (P := Tryz.prog) (ty := 28) Tryz.underlying28 one8 P1 q2 (8) c2 (dig sl) hq2 P8.nilCap (by unfold maxLen; omega) (by omega) K.size
      refine actL v11 rfl (appendOp _ _ 28 _ _ _ rfl rfl rfl hr) ?_
      simp only [aP, lI, l0, lS]
      refine pureL v11 rfl (fun _ => by kernel_rfl) ?_
      simp only [aP, lI, l0, lS]
      replace K := K.grown hg (fun b hb => (World.ownsRow.lt P1 b hb).1)
      replace P1 := ho
      clear hr ho hg hq1 hq2 P8
      show Exit.then _ _ _ _ _
      obtain ⟨q3, c3, rfl, hq1, hq2⟩ := P1.bytes
      clear P1
      go_upto_region 10 with fail
      refine wp_region_list ?_
      refine rowKL .u8 32 (B) (Y) 0 38 _ _ rfl rfl rfl Tryz.underlying38 rfl (key_info _) ((K.get _ _ _ _ mS).range) ?_
      simp only [aP, lI, l0, lS]
      refine pureL (.slice q3 (up16 bl + up16 sl + 8 + 8) c3) rfl (fun _ => by kernel_rfl) ?_
      simp only [aP, lI, l0, lS]
      refine callL rfl (fun _ => by kernel_rfl) (refSum_any B hkk q3 (up16 bl + up16 sl + 8 + 8) c3 (by omega) hq1 (amx bl b sl s) (amx_in bl b sl s hb hs) _ hq2) ?_
      rintro e w12 ⟨f2, rfl, ⟨hf1, hf2⟩, l⟩
      replace K := K.call l
      clear l
      refine ⟨_, rfl, ?_⟩
      simp only [aP, lI, l0, lS]
      have HE := show Hid _ from (show row .u8 16 f2 = row .u8 16 (dig (ptag B (amt bl sl) (amx bl b sl s)).toNat) from row_congr .u8 16 (fun j hj => by
        have h0 : 0 ≤ ptag B (amt bl sl) (amx bl b sl s) ∧ ptag B (amt bl sl) (amx bl b sl s) < 340282366920938463463374607431768211456 := by
          unfold ptag
          generalize acc _ _ _ _ % Q + pS _ = y
          omega
        exact val_inj 256 (by decide) f2 _ 16 hf1 (dig_in _ _) (by rw [hf2, val_dig, show (256 : Nat) ^ 16 = 340282366920938463463374607431768211456 from by decide]; show ptag B (amt bl sl) (amx bl b sl s) = _; omega) j hj))
      have hz' := (K.room _ mS).1
      refine storesL .u8 16 f2 (w.heap.size + 1 + 1) 65 _ _ rfl rfl rfl rfl (room_of hz') (tag_info' _) ?_
      simp only [Act.put]
      have hB := (K.fill _ _ mS (row .u8 16 f2)).below
      clear K hf1 hf2 hq1 hq2
      show Exit.then _ _ _ _ _
      go_wp2
      exact bodyPost_ret (v := (.agg (row .u8 16 (f2)).toArray)) (results_row Tryz.results42 rfl (Has.all hz' .u8 f2).range Tryz.underlying65 rfl (tag_info f2)) rfl ⟨by rw [HE.out, ← hBe]; rfl, hB⟩
theorem icut_tag (b : Nat) (w : World) : (Instr.sliceAt 65 (.pointer (some ⟨b, 0, none⟩)) none none none).run Tryz.prog w = .ok (.slice (some ⟨b, 0, none⟩) 16 16) w := by kernel_rfl
theorem refSeal_any (k n : Nat → Int) (hk : In 256 32 k) (hn : In 256 12 n) (bp : Option Addr) (bl bc : Nat) (hbl : bl ≤ 35184372088832) (hbn : bp = none → bc = 0) (b : Nat → Int) (hb : In 256 bl b) (sp : Option Addr) (len cap : Nat) (hlen : len ≤ 35184372088832) (z : Nat → Int) (hz : In 256 len z) (w : World) (hsb : Src w bp bl b) (hs : Src w sp len z) :
    Calls Tryz.prog 29 #[(.agg (row .u8 32 (k)).toArray), (.agg (row .u8 12 (n)).toArray), .slice bp bl bc, .slice sp len cap] w fun e w' => ∃ sp' cap', e = .returned (.slice sp' (len + 16) cap') ∧ Own w' w.heap.size 5 .u8 (len + 16) (aout k n bl b len z) (.slice sp' (len + 16) cap') ∧ Below w.heap.size w w' := by
  have K := Kr.init w
  replace K := K.box .u8 32 k 38 (w.heap.size) rfl
  replace K := K.box .u8 12 n 53 (w.heap.size + 1) (by simp)
  go_enter Tryz.func29, Tryz.ntmps29
  go_upto_region 1 with fail
  generalize ((w.alloc (.cells (row .u8 32 k).toArray 38)).alloc (.cells (row .u8 12 n).toArray 53)) = w0 at K ⊢
  refine wp_region_list ?_
  refine rowKL .u8 32 (k) (w.heap.size) 0 38 _ _ rfl rfl rfl Tryz.underlying38 rfl (key_info _) ((K.get _ _ _ _ (mT _ mS)).range) ?_
  simp only [aP, lI, l0, lS]
  refine rowKL .u8 12 (n) (w.heap.size + 1) 0 53 _ _ rfl rfl rfl Tryz.underlying53 rfl (hn_info _) ((K.get _ _ _ _ mS).range) ?_
  simp only [aP, lI, l0, lS]
  refine pureL (.slice sp len cap) rfl (fun _ => by kernel_rfl) ?_
  simp only [aP, lI, l0, lS]
  refine callL rfl (fun _ => by kernel_rfl) (refXor_own k 1 n hk hn sp len cap (by omega) z _ (hs.below K.below (Nat.le_refl _))) ?_
  rintro e w1 ⟨so, co, rfl, P1, l⟩
  replace P1 := P1.lower K.size
  replace K := K.call l
  clear l
  refine ⟨_, rfl, ?_⟩
  simp only [aP, lI, l0, lS]
  refine pureL (.slice so len co) rfl (fun _ => by kernel_rfl) ?_
  simp only [aP, lI, l0, lS]
  obtain ⟨_, _, hv, _, hq2⟩ := P1.bytes
  injection hv with hv1 _ hv3
  subst hv1 hv3
  show Exit.then _ _ _ _ _
  go_upto_region 2 with fail
  refine wp_region_list ?_
  refine rowKL .u8 32 (k) (w.heap.size) 0 38 _ _ rfl rfl rfl Tryz.underlying38 rfl (key_info _) ((K.get _ _ _ _ (mT _ mS)).range) ?_
  simp only [aP, lI, l0, lS]
  refine rowKL .u8 12 (n) (w.heap.size + 1) 0 53 _ _ rfl rfl rfl Tryz.underlying53 rfl (hn_info _) ((K.get _ _ _ _ mS).range) ?_
  simp only [aP, lI, l0, lS]
  refine pureL (.slice bp bl bc) rfl (fun _ => by kernel_rfl) ?_
  simp only [aP, lI, l0, lS]
  refine pureL (.slice so len co) rfl (fun _ => by kernel_rfl) ?_
  simp only [aP, lI, l0, lS]
  refine callL rfl (fun _ => by kernel_rfl) (refTag_any k n hk hn bp bl bc hbl hbn b hb so len co hlen P1.nilCap (hxor k 1 n z) (hxor_in k 1 n z len hz) _ (hsb.below K.below (Nat.le_refl _)) hq2) ?_
  rintro e w2 ⟨rfl, l⟩
  replace K := K.call l
  replace P1 := P1.below l
  clear l hq2
  refine ⟨_, rfl, ?_⟩
  simp only [aP, lI, l0, lS]
  have zT := K.size
  have l2 := below_setAll ((Below.refl w2.heap.size w2).alloc (Nat.le_refl _) (.cells zu8_16 65)) w2.heap.size (Nat.le_refl _) 0 (row .u8 16 (atag k n bl b len (hxor k 1 n z)))
  replace P1 := P1.below l2
  clear l2
  refine allocL zu8_16 65 rfl (fun _ => by kernel_rfl) ?_
  simp only [aP, lI, l0, lS]
  refine storesL .u8 16 (atag k n bl b len (hxor k 1 n z)) w2.heap.size 65 _ _ rfl rfl rfl rfl (room_of (tag_zero _ _ _ rfl).there) (tag_info' _) ?_
  simp only [Act.put]
  have zT := K.size
  replace K := K.fresh .u8 16 (atag k n bl b len (hxor k 1 n z)) zu8_16 65 (tag_zero _ _ _ rfl).there
  generalize ((w2.alloc (.cells zu8_16 65)).setCells w2.heap.size 0 (row .u8 16 (atag k n bl b len (hxor k 1 n z)))) = w3 at K P1 ⊢
  generalize w2.heap.size = T at *
  show Exit.then _ _ _ _ _
  go_upto_region 3 with fail
  refine wp_region_list ?_
  refine pureL (.slice so len co) rfl (fun _ => by kernel_rfl) ?_
  simp only [aP, lI, l0, lS]
  refine pureL (.slice (some ⟨T, 0, none⟩) 16 16) rfl (fun w' => cutAll _ _ _ _ rfl rfl (icut_tag T w')) ?_
  simp only [aP, lI, l0, lS]
  have hT := (K.get _ _ _ _ mS).src0
  obtain ⟨v4, w4, hr, ho, hg, _⟩ := run_append_Own (P := Tryz.prog) (ty := 28) Tryz.underlying28 one8 P1 (some ⟨T, 0, none⟩) 16 16 (atag k n bl b len (hxor k 1 n z)) hT (fun e => by cases e) (by unfold maxLen; omega) (by omega) (by have := K.size; omega)
  have hB := Below.grown K.below hg K.below.size (fun b hb => by have := (World.ownsRow.lt P1 b hb).1; omega)
  refine actL v4 rfl (appendOp _ _ 28 _ _ _ rfl rfl rfl hr) ?_
  simp only [aP, lI, l0, lS]
  refine pureL v4 rfl (fun _ => by kernel_rfl) ?_
  simp only [aP, lI, l0, lS]
  obtain ⟨s4, c4, rfl, _, _⟩ := ho.bytes
  have HS := show Hid _ from (show Own w4 w.heap.size 5 .u8 (len + 16) (aout k n bl b len z) (.slice s4 (len + 16) c4) from ho.lower (by omega))
  clear K P1 hT hr ho hg
  show Exit.then _ _ _ _ _
  go_wp2
  go_ret
  exact ⟨s4, c4, rfl, HS.out, hB⟩
theorem aneqS {P : Program} {o : Oper} {a : Act} (s s' : ByteArray) (t t' : TypeId) (x y : Operand) (ho : o.op = .binOp .neq t x y t') (hx : a.eval x = .string s) (hy : a.eval y = .string s') (r : Bool) (hr : (!(s.toList == s'.toList)) = r) (w : World) : (execOp a.eval o).run P w = .ok (.value (.bool r)) w := by
  unfold execOp
  simp only [ho, hx, hy, Sem.run_bind, eqGuard_at_string, binOp_string_neq, Sem.run_pure, Result.andThen_ok, hr]
theorem txt_told (n : Nat) (f g : Nat → Int) (hf : In 256 n f) (hg : In 256 n g) : ((txt n f).toList == (txt n g).toList) = decide (val 256 f n = val 256 g n) := by
  rw [← bytesOf_inj n f g hf hg]
  unfold txt
  rw [Lib.strOfNums_toList, Lib.strOfNums_toList]
  unfold Lib.bytesOf bytesOf
  rw [List.map_map, List.map_map]
  rfl
theorem cut_hi2 {P : Program} {t : TypeId} (ht : P.underlying t = some (.slice (P.elem t))) (hsz : ∀ w, (sizeOf (P.elem t)).run P w = .ok 1 w) (sp : Option Addr) (len cap m : Nat) (hm : m ≤ len) (hc : len ≤ cap) :
    ∃ sp', (∀ w, (Instr.sliceAt t (.slice sp len cap) none (some (.int .i64 (m : Int))) none).run P w = .ok (.slice sp' m cap) w) ∧ (∀ w z, Src w sp len z → Src w sp' m z) ∧ (sp' = none → sp = none) := by
  refine ⟨if cap = 0 then sp else sp.map (·.add (0 * 1)), fun w => ?_, fun w z h j hj => ?_, fun e => ?_⟩
  · rw [run_sliceAt_slice w t _ _ _ _ ht, run_slice_h w t sp len cap ht .i64 (m : Int) (by omega) (by omega), hsz]
    simp only [Result.andThen, sliced, Int.toNat_natCast, Nat.sub_zero]
  · obtain ⟨ad, rfl, hc'⟩ := h j (by omega)
    rw [if_neg (by omega)]
    exact ⟨ad.add (0 * 1), rfl, by rw [Nat.zero_mul, Addr.add_add, Nat.zero_add]; exact hc'⟩
  · by_cases h0 : cap = 0
    · rw [if_pos h0] at e; exact e
    · rw [if_neg h0] at e; simpa using e
theorem tag_told (k n : Nat → Int) (bl : Nat) (b : Nat → Int) (m : Nat) (z : Nat → Int) (hz : In 256 (m + 16) z) : (!((txt 16 (atag k n bl b m z)).toList == (txt 16 (fun j => z (m + j))).toList)) = !decide (atg k n bl b m z = val 256 (fun j => z (m + j)) 16) := by
  rw [txt_told 16 _ _ (atag_in _ _ _ _ _ _ _) (fun j hj => hz _ (by omega)), atag_val]
theorem refOpen_short (k n : Nat → Int) (bp : Option Addr) (bl bc : Nat) (sp : Option Addr) (len cap : Nat) (h16 : len < 16) (w : World) :
    Calls Tryz.prog 32 #[(.agg (row .u8 32 (k)).toArray), (.agg (row .u8 12 (n)).toArray), .slice bp bl bc, .slice sp len cap] w fun e w' => e = .returned (.tuple #[.slice none 0 0, .int .i64 3]) ∧ Below w.heap.size w w' := by
  have K := Kr.init w
  replace K := K.box .u8 32 k 38 (w.heap.size) rfl
  replace K := K.box .u8 12 n 53 (w.heap.size + 1) (by simp)
  go_enter Tryz.func32, Tryz.ntmps32
  go_upto_region 1 with fail
  generalize ((w.alloc (.cells (row .u8 32 k).toArray 38)).alloc (.cells (row .u8 12 n).toArray 53)) = w0 at K ⊢
  refine wp_region_list ?_
  refine pureL (.slice sp (len) cap) rfl (fun _ => by kernel_rfl) ?_
  simp only [aP, lI, l0, lS]
  refine pureL (.int .i64 ((len : Nat) : Int)) rfl (fun w => lenS _ 28 5 sp (len) cap rfl Tryz.underlying28 rfl w) ?_
  simp only [aP, lI, l0, lS]
  refine pureL (.int .i64 ((len : Int) - 16)) rfl (fun w => subI .i64 _ _ _ _ _ _ _ rfl rfl rfl (by rw [IntKind.wrap_i64]; omega) w) ?_
  simp only [aP, lI, l0, lS]
  refine pureL (.int .i64 ((len : Int) - 16)) rfl (fun _ => by kernel_rfl) ?_
  simp only [aP, lI, l0, lS]
  show Exit.then _ _ _ _ _
  go_upto_region 2 with fail
  refine wp_region_list ?_
  refine pureL (.int .i64 ((len : Int) - 16)) rfl (fun _ => by kernel_rfl) ?_
  simp only [aP, lI, l0, lS]
  refine pureL (.bool true) rfl (fun w => lssI .i64 _ _ _ _ _ _ rfl rfl rfl true (decide_eq_true (by omega)) w) ?_
  simp only [aP, lI, l0, lS]
  have hB := K.below
  clear K
  show Exit.then _ _ _ _ _
  go_wp2
  go_ret2
  exact ⟨rfl, hB⟩
theorem refOpen_good (k n : Nat → Int) (hk : In 256 32 k) (hn : In 256 12 n) (bp : Option Addr) (bl bc : Nat) (hbl : bl ≤ 35184372088832) (hbn : bp = none → bc = 0) (b : Nat → Int) (hb : In 256 bl b) (sp : Option Addr) (m cap : Nat) (hlen : m ≤ 35184372088832) (hcap : m + 16 ≤ cap) (hsn : sp = none → cap = 0) (z : Nat → Int) (hz : In 256 (m + 16) z) (hok : Hid (atg k n bl b m z = val 256 (fun j => z (m + j)) 16)) (w : World) (hsb : Src w bp bl b) (hs : Src w sp (m + 16) z) :
    Calls Tryz.prog 32 #[(.agg (row .u8 32 (k)).toArray), (.agg (row .u8 12 (n)).toArray), .slice bp bl bc, .slice sp (m + 16) cap] w fun e w' => ∃ sp' cap', e = .returned (.tuple #[.slice sp' m cap', .int .i64 0]) ∧ Own w' w.heap.size 5 .u8 m (hxor k 1 n z) (.slice sp' m cap') ∧ Below w.heap.size w w' := by
  obtain ⟨sh, hh1, hh2, hh3⟩ := cut_hi2 (P := Tryz.prog) (t := 28) (by kernel_rfl) (fun _ => by kernel_rfl) sp (m + 16) cap m (by omega) hcap
  obtain ⟨sl, hl1, hl2⟩ := cut_lo (P := Tryz.prog) (t := 28) (by kernel_rfl) (fun _ => by kernel_rfl) sp (m + 16) cap m (by omega) hcap
  rw [show m + 16 - m = 16 by omega] at hl1 hl2
  have hshn : sh = none → cap = 0 := fun e => hsn (hh3 e)
  clear hh3
  have K := Kr.init w
  replace K := K.box .u8 32 k 38 (w.heap.size) rfl
  replace K := K.box .u8 12 n 53 (w.heap.size + 1) (by simp)
  go_enter Tryz.func32, Tryz.ntmps32
  go_upto_region 1 with fail
  generalize ((w.alloc (.cells (row .u8 32 k).toArray 38)).alloc (.cells (row .u8 12 n).toArray 53)) = w0 at K ⊢
  refine wp_region_list ?_
  refine pureL (.slice sp (m + 16) cap) rfl (fun _ => by kernel_rfl) ?_
  simp only [Act.put, lI, l0, lS]
  refine pureL (.int .i64 ((m + 16 : Nat) : Int)) rfl (fun w => lenS _ 28 5 sp (m + 16) cap rfl Tryz.underlying28 rfl w) ?_
  simp only [Act.put, lI, l0, lS]
  refine pureL (.int .i64 (m : Int)) rfl (fun w => subI .i64 _ _ _ _ _ _ _ rfl rfl rfl (by rw [IntKind.wrap_i64]; omega) w) ?_
  simp only [Act.put, lI, l0, lS]
  refine pureL (.int .i64 (m : Int)) rfl (fun _ => by kernel_rfl) ?_
  simp only [Act.put, lI, l0, lS]
  show Exit.then _ _ _ _ _
  go_upto_region 2 with fail
  refine wp_region_list ?_
  refine pureL (.int .i64 (m : Int)) rfl (fun _ => by kernel_rfl) ?_
  simp only [Act.put, lI, l0, lS]
  refine pureL (.bool false) rfl (fun w => lssI .i64 _ _ _ _ _ _ rfl rfl rfl false (decide_eq_false (by omega)) w) ?_
  simp only [Act.put, lI, l0, lS]
  show Exit.then _ _ _ _ _
  go_upto_region 4 with fail
  refine wp_region_held_drew (S := fun w' => Kr w (w.heap.size + 1 + 1) [(w.heap.size + 1, .u8, 12, n), (w.heap.size, .u8, 32, k)] [] w') (by kernel_rfl) K.drew ?_
  clear K
  intro K
  refine rowKH (i := 0) (some 17) rfl .u8 32 (k) (w.heap.size) 0 38 _ _ rfl rfl rfl rfl (by kernel_rfl) (by kernel_rfl) (by kernel_rfl) (fun _ _ _ h => h) Tryz.underlying38 rfl (key_info _) K (fun _ h => (h.get _ _ _ _ (mT _ mS)).range) ?_
  simp only [Act.put, lI, l0, lS]
  refine rowKH (i := 1) (some 18) rfl .u8 12 (n) (w.heap.size + 1) 0 53 _ _ rfl rfl rfl rfl (by kernel_rfl) (by kernel_rfl) (by kernel_rfl) (fun _ _ _ h => h) Tryz.underlying53 rfl (hn_info _) K (fun _ h => (h.get _ _ _ _ mS).range) ?_
  simp only [Act.put, lI, l0, lS]
  refine pureHg (i := 2) (some 19) rfl (.slice bp bl bc) rfl rfl (fun _ => by kernel_rfl) K ?_
  simp only [Act.put, lI, l0, lS]
  refine pureHg (i := 3) (some 20) rfl (.slice sp (m + 16) cap) rfl rfl (fun _ => by kernel_rfl) K ?_
  simp only [Act.put, lI, l0, lS]
  refine pureHg (i := 4) (some 21) rfl (.int .i64 (m : Int)) rfl rfl (fun _ => by kernel_rfl) K ?_
  simp only [Act.put, lI, l0, lS]
  refine pureHg (i := 5) (some 22) rfl (.slice sh m cap) rfl rfl (fun w' => cutHi _ _ _ _ _ _ rfl rfl rfl (hh1 w')) K ?_
  simp only [Act.put, lI, l0, lS]
  refine Chain.go (z := 7) (t := 11) (n := 16) (w0 := w.heap.size + 1 + 1) (k := 1) ?_ zu8_16 65 rfl rfl rfl (fun _ _ => by kernel_rfl) (fun _ => (tag_zero _ _ _ rfl).there) (fun _ h => h.size) (fun _ _ h l => h.call l) _ K
  refine Chain.call 6 23 (fun v => v = .agg (row .u8 16 (atag k n bl b m z)).toArray) (by kernel_rfl) (by kernel_rfl) rfl rfl rfl (by decide) (by decide) (by intros; simp) (by decide +kernel) (fun _ => by kernel_rfl) (fun w' h => (refTag_any k n hk hn bp bl bc hbl hbn b hb sh m cap hlen hshn z (fun j hj => hz j (by omega)) w' (hsb.below h.below (Nat.le_refl _)) ((hh2 _ _ hs).below h.below (Nat.le_refl _))).mono fun e w'' ⟨he, l⟩ => ⟨_, he, rfl, l⟩) ?_
  rintro _ rfl
  simp only [Act.put, lI, l0, lS]
  refine Chain.last (by kernel_rfl) ?_
  clear K
  intro G w4 K hFb
  simp only [Act.put, lI, l0, lS]
  refine storesH (i := 8) none rfl .u8 16 (atag k n bl b m z) G 65 _ _ (by kernel_rfl) rfl rfl rfl rfl rfl (room_of hFb.th) (tag_info' _) (K.past G hFb.lo _) ?_
  refine wpAnyH_done (by kernel_rfl) ?_ _
  replace K := K.land hFb .u8 (atag k n bl b m z)
  clear hFb
  generalize w4.setCells G 0 (row .u8 16 (atag k n bl b m z)) = w5 at K ⊢
  generalize w4.heap.size = M5 at K
  go_upto_region 5 with fail
  refine wp_region_held_drew (S := fun w' => Kr w M5 [(G, .u8, 16, atag k n bl b m z), (w.heap.size + 1, .u8, 12, n), (w.heap.size, .u8, 32, k)] [] w') (by kernel_rfl) K.drew ?_
  clear K
  intro K
  refine pureHg (i := 0) (some 24) rfl (.slice (some ⟨G, 0, none⟩) 16 16) rfl rfl (fun w' => cutAll _ _ _ _ rfl rfl (icut_tag G w')) K ?_
  simp only [Act.put, lI, l0, lS]
  refine readHg (i := 1) (some 25) rfl (.string (txt 16 (atag k n bl b m z))) rfl rfl (fun w h => conv_txt 28 5 9 _ rfl Tryz.underlying28 Tryz.underlying5 Tryz.underlying9 (some ⟨G, 0, none⟩) 16 16 (atag k n bl b m z) rfl w (h.get _ _ _ _ mS).src0 (fun e => by cases e)) K ?_
  simp only [Act.put, lI, l0, lS]
  refine pureHg (i := 2) (some 26) rfl (.slice sp (m + 16) cap) rfl rfl (fun _ => by kernel_rfl) K ?_
  simp only [Act.put, lI, l0, lS]
  refine pureHg (i := 3) (some 27) rfl (.int .i64 (m : Int)) rfl rfl (fun _ => by kernel_rfl) K ?_
  simp only [Act.put, lI, l0, lS]
  refine pureHg (i := 4) (some 28) rfl (.slice sl 16 (cap - m)) rfl rfl (fun w' => cutOp _ _ _ _ _ _ rfl rfl rfl (hl1 w')) K ?_
  simp only [Act.put, lI, l0, lS]
  refine readHg (i := 5) (some 29) rfl (.string (txt 16 (fun j => z (m + j)))) rfl rfl (fun w h => conv_txt 28 5 9 _ rfl Tryz.underlying28 Tryz.underlying5 Tryz.underlying9 sl 16 (cap - m) (fun j => z (m + j)) rfl w ((hl2 _ _ hs).below h.below (Nat.le_refl _)) (Src.none ((hl2 _ _ hs)))) K ?_
  simp only [Act.put, lI, l0, lS]
  refine pureHg (i := 6) (some 30) rfl (.bool false) rfl rfl (fun w => aneqS _ _ _ _ _ _ rfl rfl rfl false (by rw [tag_told k n bl b m z hz, decide_eq_true hok.out]; rfl) w) K ?_
  simp only [Act.put, lI, l0, lS]
  refine wpAnyH_done (by kernel_rfl) ?_ _
  clear hl1 hl2
  go_upto_region 7 with fail
  refine wp_region_held_drew (S := fun w' => Kr w M5 [(G, .u8, 16, atag k n bl b m z), (w.heap.size + 1, .u8, 12, n), (w.heap.size, .u8, 32, k)] [] w') (by kernel_rfl) K.drew ?_
  clear K
  intro K
  refine rowKH (i := 0) (some 31) rfl .u8 32 (k) (w.heap.size) 0 38 _ _ rfl rfl rfl rfl (by kernel_rfl) (by kernel_rfl) (by kernel_rfl) (fun _ _ _ h => h) Tryz.underlying38 rfl (key_info _) K (fun _ h => (h.get _ _ _ _ (mT _ (mT _ mS))).range) ?_
  simp only [Act.put, lI, l0, lS]
  refine rowKH (i := 1) (some 32) rfl .u8 12 (n) (w.heap.size + 1) 0 53 _ _ rfl rfl rfl rfl (by kernel_rfl) (by kernel_rfl) (by kernel_rfl) (fun _ _ _ h => h) Tryz.underlying53 rfl (hn_info _) K (fun _ h => (h.get _ _ _ _ (mT _ mS)).range) ?_
  simp only [Act.put, lI, l0, lS]
  refine pureHg (i := 2) (some 33) rfl (.slice sp (m + 16) cap) rfl rfl (fun _ => by kernel_rfl) K ?_
  simp only [Act.put, lI, l0, lS]
  refine pureHg (i := 3) (some 34) rfl (.int .i64 (m : Int)) rfl rfl (fun _ => by kernel_rfl) K ?_
  simp only [Act.put, lI, l0, lS]
  refine pureHg (i := 4) (some 35) rfl (.slice sh m cap) rfl rfl (fun w' => cutHi _ _ _ _ _ _ rfl rfl rfl (hh1 w')) K ?_
  simp only [Act.put, lI, l0, lS]
  refine callH (i := 5) (some 36) rfl (by kernel_rfl) rfl rfl (fun _ => by kernel_rfl) (refXor_own k 1 n hk hn sh m cap (by omega) z _ ((hh2 _ _ hs).below K.below (Nat.le_refl _))) ?_
  rintro e w7 ⟨so, co, rfl, hso, l⟩
  replace hso := hso.lower K.below.size
  replace K := K.call l
  clear l
  refine ⟨_, rfl, K, ?_⟩
  simp only [Act.put, lI, l0, lS]
  refine pureHg (i := 6) (some 8) rfl (.slice so m co) rfl rfl (fun _ => by kernel_rfl) K ?_
  simp only [Act.put, lI, l0, lS]
  refine pureHg (i := 7) (some 9) rfl (.int .i64 0) rfl rfl (fun _ => by kernel_rfl) K ?_
  simp only [Act.put, lI, l0, lS]
  refine wpAnyH_done (by kernel_rfl) ?_ _
  have hB := K.below
  clear K hh1 hh2
  go_wp2
  go_ret2
  exact ⟨so, co, rfl, hso, hB⟩
theorem refOpen_bad (k n : Nat → Int) (hk : In 256 32 k) (hn : In 256 12 n) (bp : Option Addr) (bl bc : Nat) (hbl : bl ≤ 35184372088832) (hbn : bp = none → bc = 0) (b : Nat → Int) (hb : In 256 bl b) (sp : Option Addr) (m cap : Nat) (hlen : m ≤ 35184372088832) (hcap : m + 16 ≤ cap) (hsn : sp = none → cap = 0) (z : Nat → Int) (hz : In 256 (m + 16) z) (hok : Hid (¬ atg k n bl b m z = val 256 (fun j => z (m + j)) 16)) (w : World) (hsb : Src w bp bl b) (hs : Src w sp (m + 16) z) :
    Calls Tryz.prog 32 #[(.agg (row .u8 32 (k)).toArray), (.agg (row .u8 12 (n)).toArray), .slice bp bl bc, .slice sp (m + 16) cap] w fun e w' => e = .returned (.tuple #[.slice none 0 0, .int .i64 70]) ∧ Below w.heap.size w w' := by
  obtain ⟨sh, hh1, hh2, hh3⟩ := cut_hi2 (P := Tryz.prog) (t := 28) (by kernel_rfl) (fun _ => by kernel_rfl) sp (m + 16) cap m (by omega) hcap
  obtain ⟨sl, hl1, hl2⟩ := cut_lo (P := Tryz.prog) (t := 28) (by kernel_rfl) (fun _ => by kernel_rfl) sp (m + 16) cap m (by omega) hcap
  rw [show m + 16 - m = 16 by omega] at hl1 hl2
  have hshn : sh = none → cap = 0 := fun e => hsn (hh3 e)
  clear hh3
  have K := Kr.init w
  replace K := K.box .u8 32 k 38 (w.heap.size) rfl
  replace K := K.box .u8 12 n 53 (w.heap.size + 1) (by simp)
  go_enter Tryz.func32, Tryz.ntmps32
  go_upto_region 1 with fail
  generalize ((w.alloc (.cells (row .u8 32 k).toArray 38)).alloc (.cells (row .u8 12 n).toArray 53)) = w0 at K ⊢
  refine wp_region_list ?_
  refine pureL (.slice sp (m + 16) cap) rfl (fun _ => by kernel_rfl) ?_
  simp only [Act.put, lI, l0, lS]
  refine pureL (.int .i64 ((m + 16 : Nat) : Int)) rfl (fun w => lenS _ 28 5 sp (m + 16) cap rfl Tryz.underlying28 rfl w) ?_
  simp only [Act.put, lI, l0, lS]
  refine pureL (.int .i64 (m : Int)) rfl (fun w => subI .i64 _ _ _ _ _ _ _ rfl rfl rfl (by rw [IntKind.wrap_i64]; omega) w) ?_
  simp only [Act.put, lI, l0, lS]
  refine pureL (.int .i64 (m : Int)) rfl (fun _ => by kernel_rfl) ?_
  simp only [Act.put, lI, l0, lS]
  show Exit.then _ _ _ _ _
  go_upto_region 2 with fail
  refine wp_region_list ?_
  refine pureL (.int .i64 (m : Int)) rfl (fun _ => by kernel_rfl) ?_
  simp only [Act.put, lI, l0, lS]
  refine pureL (.bool false) rfl (fun w => lssI .i64 _ _ _ _ _ _ rfl rfl rfl false (decide_eq_false (by omega)) w) ?_
  simp only [Act.put, lI, l0, lS]
  show Exit.then _ _ _ _ _
  go_upto_region 4 with fail
  refine wp_region_held_drew (S := fun w' => Kr w (w.heap.size + 1 + 1) [(w.heap.size + 1, .u8, 12, n), (w.heap.size, .u8, 32, k)] [] w') (by kernel_rfl) K.drew ?_
  clear K
  intro K
  refine rowKH (i := 0) (some 17) rfl .u8 32 (k) (w.heap.size) 0 38 _ _ rfl rfl rfl rfl (by kernel_rfl) (by kernel_rfl) (by kernel_rfl) (fun _ _ _ h => h) Tryz.underlying38 rfl (key_info _) K (fun _ h => (h.get _ _ _ _ (mT _ mS)).range) ?_
  simp only [Act.put, lI, l0, lS]
  refine rowKH (i := 1) (some 18) rfl .u8 12 (n) (w.heap.size + 1) 0 53 _ _ rfl rfl rfl rfl (by kernel_rfl) (by kernel_rfl) (by kernel_rfl) (fun _ _ _ h => h) Tryz.underlying53 rfl (hn_info _) K (fun _ h => (h.get _ _ _ _ mS).range) ?_
  simp only [Act.put, lI, l0, lS]
  refine pureHg (i := 2) (some 19) rfl (.slice bp bl bc) rfl rfl (fun _ => by kernel_rfl) K ?_
  simp only [Act.put, lI, l0, lS]
  refine pureHg (i := 3) (some 20) rfl (.slice sp (m + 16) cap) rfl rfl (fun _ => by kernel_rfl) K ?_
  simp only [Act.put, lI, l0, lS]
  refine pureHg (i := 4) (some 21) rfl (.int .i64 (m : Int)) rfl rfl (fun _ => by kernel_rfl) K ?_
  simp only [Act.put, lI, l0, lS]
  refine pureHg (i := 5) (some 22) rfl (.slice sh m cap) rfl rfl (fun w' => cutHi _ _ _ _ _ _ rfl rfl rfl (hh1 w')) K ?_
  simp only [Act.put, lI, l0, lS]
  refine Chain.go (z := 7) (t := 11) (n := 16) (w0 := w.heap.size + 1 + 1) (k := 1) ?_ zu8_16 65 rfl rfl rfl (fun _ _ => by kernel_rfl) (fun _ => (tag_zero _ _ _ rfl).there) (fun _ h => h.size) (fun _ _ h l => h.call l) _ K
  refine Chain.call 6 23 (fun v => v = .agg (row .u8 16 (atag k n bl b m z)).toArray) (by kernel_rfl) (by kernel_rfl) rfl rfl rfl (by decide) (by decide) (by intros; simp) (by decide +kernel) (fun _ => by kernel_rfl) (fun w' h => (refTag_any k n hk hn bp bl bc hbl hbn b hb sh m cap hlen hshn z (fun j hj => hz j (by omega)) w' (hsb.below h.below (Nat.le_refl _)) ((hh2 _ _ hs).below h.below (Nat.le_refl _))).mono fun e w'' ⟨he, l⟩ => ⟨_, he, rfl, l⟩) ?_
  rintro _ rfl
  simp only [Act.put, lI, l0, lS]
  refine Chain.last (by kernel_rfl) ?_
  clear K
  intro G w4 K hFb
  simp only [Act.put, lI, l0, lS]
  refine storesH (i := 8) none rfl .u8 16 (atag k n bl b m z) G 65 _ _ (by kernel_rfl) rfl rfl rfl rfl rfl (room_of hFb.th) (tag_info' _) (K.past G hFb.lo _) ?_
  refine wpAnyH_done (by kernel_rfl) ?_ _
  replace K := K.land hFb .u8 (atag k n bl b m z)
  clear hFb
  generalize w4.setCells G 0 (row .u8 16 (atag k n bl b m z)) = w5 at K ⊢
  generalize w4.heap.size = M5 at K
  go_upto_region 5 with fail
  refine wp_region_held_drew (S := fun w' => Kr w M5 [(G, .u8, 16, atag k n bl b m z), (w.heap.size + 1, .u8, 12, n), (w.heap.size, .u8, 32, k)] [] w') (by kernel_rfl) K.drew ?_
  clear K
  intro K
  refine pureHg (i := 0) (some 24) rfl (.slice (some ⟨G, 0, none⟩) 16 16) rfl rfl (fun w' => cutAll _ _ _ _ rfl rfl (icut_tag G w')) K ?_
  simp only [Act.put, lI, l0, lS]
  refine readHg (i := 1) (some 25) rfl (.string (txt 16 (atag k n bl b m z))) rfl rfl (fun w h => conv_txt 28 5 9 _ rfl Tryz.underlying28 Tryz.underlying5 Tryz.underlying9 (some ⟨G, 0, none⟩) 16 16 (atag k n bl b m z) rfl w (h.get _ _ _ _ mS).src0 (fun e => by cases e)) K ?_
  simp only [Act.put, lI, l0, lS]
  refine pureHg (i := 2) (some 26) rfl (.slice sp (m + 16) cap) rfl rfl (fun _ => by kernel_rfl) K ?_
  simp only [Act.put, lI, l0, lS]
  refine pureHg (i := 3) (some 27) rfl (.int .i64 (m : Int)) rfl rfl (fun _ => by kernel_rfl) K ?_
  simp only [Act.put, lI, l0, lS]
  refine pureHg (i := 4) (some 28) rfl (.slice sl 16 (cap - m)) rfl rfl (fun w' => cutOp _ _ _ _ _ _ rfl rfl rfl (hl1 w')) K ?_
  simp only [Act.put, lI, l0, lS]
  refine readHg (i := 5) (some 29) rfl (.string (txt 16 (fun j => z (m + j)))) rfl rfl (fun w h => conv_txt 28 5 9 _ rfl Tryz.underlying28 Tryz.underlying5 Tryz.underlying9 sl 16 (cap - m) (fun j => z (m + j)) rfl w ((hl2 _ _ hs).below h.below (Nat.le_refl _)) (Src.none ((hl2 _ _ hs)))) K ?_
  simp only [Act.put, lI, l0, lS]
  refine pureHg (i := 6) (some 30) rfl (.bool true) rfl rfl (fun w => aneqS _ _ _ _ _ _ rfl rfl rfl true (by rw [tag_told k n bl b m z hz, decide_eq_false hok.out]; rfl) w) K ?_
  simp only [Act.put, lI, l0, lS]
  refine wpAnyH_done (by kernel_rfl) ?_ _
  have hB := K.below
  clear K hl1 hl2 hh1 hh2
  go_wp2
  go_ret2
  exact ⟨rfl, hB⟩
theorem refOpen_own (k n : Nat → Int) (hk : In 256 32 k) (hn : In 256 12 n) (bp : Option Addr) (bl bc : Nat) (hbl : bl ≤ 35184372088832) (hbn : bp = none → bc = 0) (b : Nat → Int) (hb : In 256 bl b) (sp : Option Addr) (len cap : Nat) (hlen : len ≤ 35184372088832) (hcap : len ≤ cap) (hsn : sp = none → cap = 0) (z : Nat → Int) (hz : In 256 len z) (w : World) (hsb : Src w bp bl b) (hs : Src w sp len z) :
    Calls Tryz.prog 32 #[(.agg (row .u8 32 (k)).toArray), (.agg (row .u8 12 (n)).toArray), .slice bp bl bc, .slice sp len cap] w fun e w' => ∃ sp' cap', e = .returned (.tuple #[.slice sp' (aoL k n bl b len z) cap', .int .i64 (aoE k n bl b len z)]) ∧ Own w' w.heap.size 5 .u8 (aoL k n bl b len z) (hxor k 1 n z) (.slice sp' (aoL k n bl b len z) cap') ∧ Below w.heap.size w w' := by
  by_cases h16 : len < 16
  · have e0 : ¬ aok k n bl b len z := fun h => by have := h.1; omega
    have e1 : aoL k n bl b len z = 0 := by unfold aoL; rw [if_neg e0]
    have e2 : aoE k n bl b len z = 3 := by unfold aoE; rw [if_pos h16]
    rw [e1, e2]
    exact (refOpen_short k n bp bl bc sp len cap h16 w).mono fun e w' h => ⟨none, 0, h.1, World.ownsRow_nil _ _ _ _, h.2⟩
  · obtain ⟨m, rfl⟩ : ∃ m, len = m + 16 := ⟨len - 16, by omega⟩
    have e3 : m + 16 - 16 = m := by omega
    by_cases h : atg k n bl b m z = val 256 (fun j => z (m + j)) 16
    · have e0 : aok k n bl b (m + 16) z := ⟨by omega, by rw [e3]; exact h⟩
      have e1 : aoL k n bl b (m + 16) z = m := by unfold aoL; rw [if_pos e0, e3]
      have e2 : aoE k n bl b (m + 16) z = 0 := by unfold aoE; rw [if_neg h16, if_pos e0]
      rw [e1, e2]
      exact refOpen_good k n hk hn bp bl bc hbl hbn b hb sp m cap (by omega) hcap hsn z hz h w hsb hs
    · have e0 : ¬ aok k n bl b (m + 16) z := fun h' => h (by have := h'.2; rw [e3] at this; exact this)
      have e1 : aoL k n bl b (m + 16) z = 0 := by unfold aoL; rw [if_neg e0]
      have e2 : aoE k n bl b (m + 16) z = 70 := by unfold aoE; rw [if_neg h16, if_neg e0]
      rw [e1, e2]
      exact (refOpen_bad k n hk hn bp bl bc hbl hbn b hb sp m cap (by omega) hcap hsn z hz h w hsb hs).mono fun e w' h => ⟨none, 0, h.1, World.ownsRow_nil _ _ _ _, h.2⟩
end Go.Proofs.YtgfpflcoknpbdaaGreatDoor
