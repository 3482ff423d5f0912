/- Texts of Rm Rl Pr, joined. -/
import Derived.Test.YtgfpflcoknpbdaaGreatDoorP1SymmetricPlays
import Derived.Test.YtgfpflcoknpbdaaGreatDoorP15SymmetricPlays
import Derived.Test.YtgfpflcoknpbdaaGreatDoorP3SymmetricPlays
import Derived.Test.YtgfpflcoknpbdaaGreatDoorP4SymmetricPlays
import Derived.Lib.SlBytesConst
import Derived.Deep.QuietTactic
import Derived.BigQuiet
import Derived.Test.YtgfpflcoknpbdaaGreatDoorP14SymmetricPlays
import Derived.Test.YtgfpflcoknpbdaaGreatDoorP6SymmetricPlays
import Derived.Test.YtgfpflcoknpbdaaGreatDoorP5SymmetricPlays
set_option maxRecDepth 20000
set_option maxHeartbeats 64000000
namespace Go.Proofs.YtgfpflcoknpbdaaGreatDoor
open Go.RowKit
theorem made11_zero (w : World) (t : TypeId) (b : Nat) (hb : b = w.heap.size) : Has (w.alloc (.cells zi64_11 t)) b .i64 11 (fun _ => 0) := Has.new w .i64 11 (fun _ => 0) t b hb
theorem made11 (w : World) : (Instr.makeSlice 89 (.int .i64 11) (.int .i64 11)).run Tryz.prog w = .ok (.slice (some ⟨w.heap.size, 0, none⟩) 11 11) (w.alloc (.cells zi64_11 3)) := by kernel_rfl
structure MU (a b : Nat → Int) (i k : Nat) (f : Nat → Int) (B1 B2 B3 : Nat) (w w' : World) : Prop where
  eq : val D f 11 = val D (dg 26 (nb a)) i * val D (dg 26 (nb b)) 6 + D ^ i * dg 26 (nb a) i * val D (dg 26 (nb b)) k
  big : ∀ j, j < 11 → 0 ≤ f j ∧ f j ≤ (i : Int) * 4503599627370496 + (if i ≤ j ∧ j < i + k then 4503599627370496 else 0)
  h1 : Has w' B1 .i64 6 (dg 26 (nb a))
  h2 : Has w' B2 .i64 6 (dg 26 (nb b))
  h3 : Has w' B3 .i64 11 f
  hr : w'.there (w.heap.size + 1 + 1) 0 17
  fr : Fr w 3 w'
  hi : B3 < w'.heap.size
theorem mul_le {x y : Int} (x0 : 0 ≤ x) (x1 : x < 67108864) (y0 : 0 ≤ y) (y1 : y < 67108864) : 0 ≤ x * y ∧ x * y ≤ 4503599493152769 :=
  ⟨Int.mul_nonneg x0 y0, Int.mul_le_mul (show x ≤ 67108863 by omega) (show y ≤ 67108863 by omega) y0 (by omega)⟩
theorem MU.step {a b : Nat → Int} {i k : Nat} {f : Nat → Int} {B1 B2 B3 : Nat} {w w' : World} (h : MU a b i k f B1 B2 B3 w w') (lo : w.heap.size + 3 ≤ B3) (n1 : B3 ≠ B1) (n2 : B3 ≠ B2) (hi : i < 6) (hk : k < 6) :
    MU a b i (k + 1) (upd f (i + k) (f (i + k) + dg 26 (nb a) i * dg 26 (nb b) k)) B1 B2 B3 w ((w'.setCell ⟨B3, i + k, none⟩ (.int .i64 (f (i + k) + dg 26 (nb a) i * dg 26 (nb b) k))).drew) := by
  have da := dig_bound (nb a) i
  have db := dig_bound (nb b) k
  have hp := mul_le da.1 da.2 db.1 db.2
  refine ⟨?_, fun j hj => ?_, (h.h1.set_other _ _ (by simpa using n1)).drew, (h.h2.set_other _ _ (by simpa using n2)).drew, (h.h3.set _ (by omega) _).drew, fun j hj => ?_, (h.fr.set _ _ (by simp; omega)).drew, by have := h.hi; simpa using this⟩
  · rw [val_upd_in D f (i + k) _ 11 (by omega), val_succ D (dg 26 (nb b)) k, h.eq]
    have e1 : D ^ i * dg 26 (nb a) i * (D ^ k * dg 26 (nb b) k) = D ^ (i + k) * (dg 26 (nb a) i * dg 26 (nb b) k) := by rw [Int.pow_add, Int.mul_assoc, Int.mul_left_comm (dg 26 (nb a) i), ← Int.mul_assoc]
    rw [Int.mul_add (D ^ (i + k)), Int.mul_add (D ^ i * dg 26 (nb a) i), e1]
    omega
  · have bj := h.big j hj
    by_cases e : j = i + k
    · subst e
      rw [upd_same]
      rw [if_neg (by omega)] at bj
      rw [if_pos (by omega)]
      omega
    · rw [upd_other _ _ _ _ e]
      by_cases c : i ≤ j ∧ j < i + k
      · rw [if_pos c] at bj; rw [if_pos (by omega)]; exact bj
      · rw [if_neg c] at bj; rw [if_neg (by omega)]; exact bj
  · have hne : (⟨B3, i + k, none⟩ : Addr) ≠ ⟨w.heap.size + 1 + 1, 0 + j, none⟩ := by intro h'; injection h'; omega
    show ((w'.setCell _ _).cell? _).isSome = true ∧ (w'.setCell _ _).frozen? _ = false
    rw [World.cell?_setCell_other _ _ _ _ hne, World.frozen?_setCell]; exact h.hr j hj
theorem MU.next {a b : Nat → Int} {i : Nat} {f : Nat → Int} {B1 B2 B3 : Nat} {w w' : World} (h : MU a b i 6 f B1 B2 B3 w w') : MU a b (i + 1) 0 f B1 B2 B3 w w' := by
  refine ⟨?_, fun j hj => ?_, h.h1, h.h2, h.h3, h.hr, h.fr, h.hi⟩
  · rw [h.eq, val_succ D (dg 26 (nb a)) i, Int.add_mul, show val D (dg 26 (nb b)) 0 = 0 from rfl, Int.mul_zero, Int.add_zero]
  · have bj := h.big j hj
    rw [if_neg (by omega)]
    have e : ((i + 1 : Nat) : Int) * 4503599627370496 = (i : Int) * 4503599627370496 + 4503599627370496 := by omega
    rw [e]
    split at bj <;> omega
theorem refMul_any (a b : Nat → Int) (ha : In 256 17 a) (hb : In 256 17 b) (w : World) :
    Calls Tryz.prog 77 #[(.agg (row .u8 17 (a)).toArray), (.agg (row .u8 17 (b)).toArray)] w fun e w' => ∃ f : Nat → Int, e = .returned (.agg (row .u8 17 (f)).toArray) ∧ (In 256 17 f ∧ val 256 f 17 = (val 256 a 17 * val 256 b 17) % Q) ∧ Below w.heap.size w w' := by
  have t0 := Two.new a b w
  have a0 := t0.ha
  have hmk := made11
  go_enter Tryz.func77, Tryz.ntmps77
  go_wp2_with (refine wpList_load_mid rfl 96 _ rfl (w.heap.size) 0 rfl (row .u8 17 (a)) _ (Has.range (a0)) Tryz.underlying96 rfl (big_info _) ?_)
  refine (digits_any a ha _).mono ?_
  rintro e w1 ⟨B1, rfl, h1, l1⟩
  have t1 := t0.call l1
  have lo1 : w.heap.size + 3 ≤ B1 := by have := h1.1; simp at this; omega
  have b1 := t1.hb
  clear t0 a0 l1
  go_wp2_with (refine wpList_load_mid rfl 96 _ rfl (w.heap.size + 1) 0 rfl (row .u8 17 (b)) _ (Has.range (b1)) Tryz.underlying96 rfl (big_info _) ?_)
  refine (digits_any b hb _).mono ?_
  rintro e w2 ⟨B2, rfl, h2, l2⟩
  have t2 := t1.call l2
  have x1 := h1.2.2.below l2 h1.2.1
  have hi1 : B1 < w2.heap.size := by have := h1.2.1; have := l2.size; omega
  have hi2 := h2.2.1
  have x2 := h2.2.2
  have mu0 : MU a b 0 0 (fun _ => 0) B1 B2 w2.heap.size w (w2.alloc (.cells zi64_11 3)) := by
    refine ⟨by rw [show val D (dg 26 (nb a)) 0 = 0 from rfl, show val D (dg 26 (nb b)) 0 = 0 from rfl, Int.zero_mul, Int.mul_zero]; exact val_zero D 11, fun j _ => by simp, x1.alloc _ hi1, x2.alloc _ hi2, made11_zero _ _ _ rfl, ?_, t2.fr.alloc _ |>.below |> (fun b => ⟨b, by have := t2.fr.size; simp; omega⟩), by simp⟩
    have := there_below (w' := w2.alloc (.cells zi64_11 3)) t2.hr ((Below.refl w2.heap.size w2).alloc (Nat.le_refl _) _) (by have := t2.fr.size; omega)
    exact this
  have lo3 : w.heap.size + 3 ≤ w2.heap.size := t2.fr.size
  have n1 : w2.heap.size ≠ B1 := by omega
  have n2 : w2.heap.size ≠ B2 := by omega
  clear t1 t2 b1 h1 h2 l2 x1 x2 hi1 hi2 lo1
  go_wp2
  clear hmk
  generalize w2.heap.size = B3 at *
  generalize w2.alloc (.cells zi64_11 3) = w3 at *
  go_loopw [8] (fun i w' => ∃ (m : Nat) (f : Nat → Int), m ≤ 6 ∧ i = .int .i64 m ∧ MU a b m 0 f B1 B2 B3 w w') (fun i _ => 6 - (intOf i).toNat)
  case atStart => exact ⟨0, _, by omega, rfl, mu0⟩
  case round =>
    obtain ⟨m, f0, hm, rfl, hO⟩ := hrel
    clear mu0
    by_cases hlt : m < 6
    · obtain ⟨wo, rfl⟩ : ∃ wo : World, wo = wr := ⟨_, rfl⟩
      have g1 : (0 : Int) ≤ (m : Int) := by omega
      have g2 : (m : Int) < 6 := by omega
      go_wp2
      go_loopw [9] (fun i w' => ∃ (k : Nat) (f : Nat → Int), k ≤ 6 ∧ i = .int .i64 k ∧ MU a b m k f B1 B2 B3 w w') (fun i _ => 6 - (intOf i).toNat)
      case atStart => exact ⟨0, f0, by omega, rfl, hO⟩
      case round =>
        obtain ⟨k, f, hk, rfl, hI⟩ := hrel
        clear hO
        by_cases hlt2 : k < 6
        · have HS := show Hid _ from hI.step lo3 n1 n2 hlt hlt2
          have c1 := hI.h1.cell m (by omega)
          have c2 := hI.h2.cell k (by omega)
          have c3 := hI.h3.cell (m + k) (by omega)
          have f1 := hI.h3.free (m + k) (by omega)
          have ix := dig_bound (nb a) m
          have iy := dig_bound (nb b) k
          have ip := mul_le ix.1 ix.2 iy.1 iy.2
          have iz := hI.big (m + k) (by omega)
          rw [if_neg (by omega)] at iz
          have iz1 : f (m + k) ≤ 27021597764222976 := by omega
          have iz0 := iz.1
          have g3 : (0 : Int) ≤ (k : Int) := by omega
          have g4 : (k : Int) < 6 := by omega
          have g7 : ((m : Int) + (k : Int)).toNat = m + k := by omega
          clear hI iz ix iy
          generalize dg 26 (nb a) m = x at *
          generalize dg 26 (nb b) k = y at *
          generalize f (m + k) = z at *
          obtain ⟨p0, p1⟩ := ip
          go_wp2
          go_region
          go_wp2
          go_roundw
          case rel => exact ⟨k + 1, _, by omega, by go_num, HS.out⟩
          case measure => simp [intOf]; omega
        · obtain rfl : k = 6 := by omega
          have hN := hI.next
          clear hI hlt2 hk
          go_wp2
          go_roundw
          case rel => exact ⟨m + 1, _, by omega, by go_num, hN⟩
          case measure => simp [intOf]; omega
    · obtain rfl : m = 6 := by omega
      clear hlt hm
      go_wp2_with fail
      refine (reduce_any 11 B3 f0 _ (Or.inr rfl) (fun j hj => by have := hO.big j hj; rw [if_neg (by omega)] at this; omega) hO.hi hO.h3).mono ?_
      rintro e w4 ⟨g, rfl, s3, l3⟩
      have hz := there_below hO.hr l3 (by have := hO.fr.size; omega)
      have hE : In 256 17 g ∧ val 256 g 17 = (val 256 a 17 * val 256 b 17) % Q := ⟨s3.1, by
        rw [s3.2, hO.eq, dig_val a ha, dig_val b hb, show val D (dg 26 (nb b)) 0 = 0 from rfl, Int.mul_zero, Int.add_zero]⟩
      have HE := show Hid _ from hE
      have hL := ((hO.fr.call l3).setAll (w.heap.size + 1 + 1) (by omega) (row .u8 17 g)).below
      clear hE s3 hO l3
      go_wp2_with (refine wpList_store_mid rfl 96 _ _ rfl (w.heap.size + 1 + 1) 0 (row .u8 17 g).toArray rfl rfl (big_there' hz) (big_info' _) (all_oneCell_toArray (row_one _ _ _)) ?_)
      exact bodyPost_ret (v := (.agg (row .u8 17 (g)).toArray)) (results_row Tryz.results77 rfl (Has.all hz .u8 g).range Tryz.underlying96 rfl (big_info g)) rfl ⟨g, rfl, HE.out, hL⟩
structure LI (x s : Nat → Int) (X O : Nat) (k : Nat) (f : Nat → Int) (w w' : World) : Prop where
  done : ∀ j, j < k → f j = summ x s j
  hx : Has w' X .u8 17 x
  hs : Has w' (w.heap.size + 1) .u8 16 s
  ho : Has w' O .u8 16 f
  hr : w'.there (w.heap.size + 1 + 1) 0 16
  fr : Fr w 3 w'
theorem LI.step {x s : Nat → Int} {X O k : Nat} {f : Nat → Int} {w w' : World} (h : LI x s X O k f w w') (hk : k < 16) (lo : w.heap.size + 3 ≤ O) (ne : O ≠ X) : LI x s X O (k + 1) (upd f k (summ x s k)) w (w'.setCell ⟨O, k, none⟩ (.int .u8 (summ x s k))) := by
  refine ⟨fun j hj => ?_, h.hx.set_other _ _ (by simpa using ne), h.hs.set_other _ _ (by simp; omega), h.ho.set k hk _, fun j hj => ?_, h.fr.set _ _ (by simp; omega)⟩
  · by_cases e : j = k
    · subst e; rw [upd_same]
    · rw [upd_other _ _ _ _ e]; exact h.done j (by omega)
  · have hne : (⟨O, k, none⟩ : Addr) ≠ ⟨w.heap.size + 1 + 1, 0 + j, none⟩ := by intro h'; injection h'; omega
    show ((w'.setCell _ _).cell? _).isSome = true ∧ (w'.setCell _ _).frozen? _ = false
    rw [World.cell?_setCell_other _ _ _ _ hne, World.frozen?_setCell]; exact h.hr j hj
theorem LI.drewN {x s : Nat → Int} {X O k : Nat} {f : Nat → Int} {w w' : World} (h : LI x s X O k f w w') {q : Nat} : LI x s X O k f w (w'.drewN q) :=
  ⟨h.done, ⟨h.hx.cell, h.hx.free⟩, ⟨h.hs.cell, h.hs.free⟩, ⟨h.ho.cell, h.ho.free⟩, h.hr, ⟨below_drewN h.fr.below, h.fr.size⟩⟩
theorem refLow_any (a s : Nat → Int) (ha : In 256 17 a) (hs : In 256 16 s) (w : World) :
    Calls Tryz.prog 79 #[(.agg (row .u8 17 (a)).toArray), (.agg (row .u8 16 (s)).toArray)] w fun e w' => ∃ f : Nat → Int, e = .returned (.agg (row .u8 16 (f)).toArray) ∧ (In 256 16 f ∧ val 256 f 16 = (val 256 a 17 % Q + val 256 s 16) % 340282366920938463463374607431768211456) ∧ Below w.heap.size w w' := by
  have K := Kr.init w
  replace K := K.box .u8 17 a 96 w.heap.size rfl
  replace K := K.box .u8 16 s 65 (w.heap.size + 1) (by simp)
  replace K := K.make 16 zu8_16 65 (w.heap.size + 1 + 1) (by simp) (tag_zero _ _ _ (by simp)).there
  go_enter Tryz.func79, Tryz.ntmps79
  go_upto_region 1 with fail
  generalize (((w.alloc (.cells (row .u8 17 a).toArray 96)).alloc (.cells (row .u8 16 s).toArray 65)).alloc (.cells zu8_16 65)) = w0 at K ⊢
  refine wp_region_list ?_
  refine rowKL .u8 17 a w.heap.size 0 96 _ _ rfl rfl rfl Tryz.underlying96 rfl (big_info _) (K.get _ _ _ _ (mT _ mS)).range ?_
  simp only [aP, lI, l0, lS]
  refine callL rfl (fun _ => by kernel_rfl) (refCanon_any a ha _) ?_
  rintro e w1 ⟨x, rfl, sx, l⟩
  replace K := K.call l
  clear l
  refine ⟨_, rfl, ?_⟩
  simp only [aP, lI, l0, lS]
  refine allocL zu8_17 96 rfl (fun _ => by kernel_rfl) ?_
  simp only [aP, lI, l0, lS]
  refine storesL .u8 17 x w1.heap.size 96 _ _ rfl rfl rfl rfl (room_of (big_zero _ _ _ rfl).there) (big_info' _) ?_
  simp only [Act.put]
  have s1 := K.size
  replace K := K.fresh .u8 17 x zu8_17 96 (big_zero _ _ _ rfl).there
  generalize ((w1.alloc (.cells zu8_17 96)).setCells w1.heap.size 0 (row .u8 17 x)) = w2 at K ⊢
  generalize w1.heap.size = X at *
  show Exit.then _ _ _ _ _
  go_upto_region 2 with fail
  refine wp_region_list ?_
  refine pureL (.agg (row .u8 16 (fun _ => 0)).toArray) rfl (fun _ => by kernel_rfl) ?_
  simp only [aP, lI, l0, lS]
  refine allocL zu8_16 65 rfl (fun _ => by kernel_rfl) ?_
  simp only [aP, lI, l0, lS]
  refine storesL .u8 16 (fun _ => 0) w2.heap.size 65 _ _ rfl rfl rfl rfl (room_of (tag_zero _ _ _ rfl).there) (tag_info' _) ?_
  simp only [Act.put]
  have s2 := K.size
  replace K := K.fresh .u8 16 (fun _ => 0) zu8_16 65 (tag_zero _ _ _ rfl).there
  generalize ((w2.alloc (.cells zu8_16 65)).setCells w2.heap.size 0 (row .u8 16 (fun _ => 0))) = w3 at K ⊢
  generalize w2.heap.size = O at *
  show Exit.then _ _ _ _ _
  have hI0 : LI x s X O 0 (fun _ => 0) w w3 := ⟨fun j hj => by omega, K.get _ _ _ _ (mT _ mS), K.get _ _ _ _ (mT _ (mT _ mS)), K.get _ _ _ _ mS, (K.room _ mS).1, ⟨K.below, by have := K.size; omega⟩⟩
  have lo : w.heap.size + 3 ≤ O := by omega
  have ne : O ≠ X := by omega
  have hcr := carr_in x s 16 (fun j hj => sx.1 j (by omega)) hs
  have hx := fun j (hj : j < 16) => sx.1 j (by omega)
  have HC := show Hid _ from hcr
  have HX := show Hid _ from And.intro hx hs
  have HV := show Hid _ from sx
  clear K hcr hx sx s1 s2
  go_wp2
  go_loopw [7, 8] (fun r i w' => ∃ (k : Nat) (f : Nat → Int), k ≤ 16 ∧ i = .int .i64 k ∧ r = .int .i64 (carr x s k) ∧ LI x s X O k f w w') (fun _ i _ => 16 - (intOf i).toNat)
  case atStart => exact ⟨0, _, by omega, rfl, rfl, hI0⟩
  case round =>
    obtain ⟨k, f, hk, rfl, rfl, hI⟩ := hrel
    clear hI0
    by_cases hlt : k < 16
    · have c1 := hI.hx.cell k (by omega)
      have c2 := hI.hs.cell k hlt
      obtain ⟨r0, r1⟩ := HC.out k (by omega)
      obtain ⟨x0, x1⟩ := HX.out.1 k hlt
      obtain ⟨y0, y1⟩ := HX.out.2 k hlt
      have g1 : (0 : Int) ≤ (k : Int) := by omega
      have g2 : (k : Int) < 16 := by omega
      have g3 : (k : Int) < 17 := by omega
      have HS := show Hid _ from fun q => (hI.drewN (q := q)).step hlt lo ne
      have HN := show Hid (carr x s (k + 1) = (carr x s k + x k + s k) / 256) from rfl
      have HM := show Hid (summ x s k = (carr x s k + x k + s k) % 256) from rfl
      have c3 := hI.ho.cell k hlt
      have f3 := hI.ho.free k hlt
      clear hI
      generalize summ x s k = d at *
      generalize carr x s k = r at *
      generalize x k = u at *
      generalize s k = y at *
      generalize f k = z at *
      have v1 : IntKind.i64.wrap (r + u) = r + u := by rw [IntKind.wrap_i64]; omega
      have v2 : IntKind.i64.wrap (r + u + y) = r + u + y := by rw [IntKind.wrap_i64]; omega
      go_wp2
      go_quiet (fail)
      have c4 : (wr.drewN nq).cell? ⟨O, k, none⟩ = some (.int .u8 z) := c3
      have f4 : (wr.drewN nq).frozen? ⟨O, k, none⟩ = false := f3
      have HT := show Hid _ from HS.out nq
      clear HS c1 c2 c3 f3
      generalize wr.drewN nq = w4 at *
      go_wp2
      go_roundw
      case rel => exact ⟨k + 1, _, by omega, by go_num, by rw [HN.out], by have h := HT.out; rw [HM.out] at h; exact h⟩
      case measure => simp [intOf]; omega
    · obtain rfl : k = 16 := by omega
      have ho := hI.ho
      have hz := hI.hr
      have hE : In 256 16 f ∧ val 256 f 16 = (val 256 a 17 % Q + val 256 s 16) % 340282366920938463463374607431768211456 := by
        have hd : In 256 16 (summ x s) := fun j _ => by unfold summ; omega
        refine ⟨fun j hj => by rw [hI.done j hj]; exact hd j hj, ?_⟩
        rw [val_congr 256 16 (f := f) (g := summ x s) (fun j hj => hI.done j hj), ← HV.out.2]
        have v := summ_val x s 16
        have i := val_in 256 (by decide) (summ x s) 16 hd
        have e := low_val x HV.out.1
        rw [show (256 : Int) ^ 16 = 340282366920938463463374607431768211456 from by decide] at v i
        omega
      have HE := show Hid _ from hE
      have hL := (hI.fr.setAll (w.heap.size + 1 + 1) (by omega) (row .u8 16 f)).below
      clear hE hI hlt hk
      go_wp2_with (first | (refine wpList_load_mid rfl 65 _ rfl (O) 0 rfl (row .u8 16 (f)) _ (Has.range (ho)) Tryz.underlying65 rfl (tag_info _) ?_) | (refine wpList_store_mid rfl 65 _ _ rfl (w.heap.size + 1 + 1) 0 (row .u8 16 f).toArray rfl rfl (room_of hz) (tag_info' _) (all_oneCell_toArray (row_one _ _ _)) ?_))
      exact bodyPost_ret (v := (.agg (row .u8 16 (f)).toArray)) (results_row Tryz.results79 rfl (Has.all hz .u8 f).range Tryz.underlying65 rfl (tag_info f)) rfl ⟨f, rfl, HE.out, hL⟩
theorem idxTag (b i : Nat) (hi : i < 16) (w : World) {o : Oper} {a : Act} (x y : Operand) (ho : o.op = .indexAddr 65 x y) (hx : a.eval x = .pointer (some ⟨b, 0, none⟩)) (hy : a.eval y = .int .i64 (i : Int)) :
    (execOp a.eval o).run Tryz.prog w = .ok (.value (.pointer (some ⟨b, i, none⟩))) w := by
  have h := idxArr (P := Tryz.prog) 65 5 16 .i64 b 0 i x y Tryz.underlying65 (fun _ => by kernel_rfl) hi ho hx hy w
  rw [Nat.zero_add] at h
  exact h
theorem idxBig (b i : Nat) (hi : i < 17) (w : World) {o : Oper} {a : Act} (x y : Operand) (ho : o.op = .indexAddr 96 x y) (hx : a.eval x = .pointer (some ⟨b, 0, none⟩)) (hy : a.eval y = .int .i64 (i : Int)) :
    (execOp a.eval o).run Tryz.prog w = .ok (.value (.pointer (some ⟨b, i, none⟩))) w := by
  have h := idxArr (P := Tryz.prog) 96 5 17 .i64 b 0 i x y Tryz.underlying96 (fun _ => by kernel_rfl) hi ho hx hy w
  rw [Nat.zero_add] at h
  exact h
theorem idxKy (b i : Nat) (hi : i < 32) (w : World) {o : Oper} {a : Act} (x y : Operand) (ho : o.op = .indexAddr 38 x y) (hx : a.eval x = .pointer (some ⟨b, 0, none⟩)) (hy : a.eval y = .int .i64 (i : Int)) :
    (execOp a.eval o).run Tryz.prog w = .ok (.value (.pointer (some ⟨b, i, none⟩))) w := by
  have h := idxArr (P := Tryz.prog) 38 5 32 .i64 b 0 i x y Tryz.underlying38 (fun _ => by kernel_rfl) hi ho hx hy w
  rw [Nat.zero_add] at h
  exact h
theorem refSum_any (k : Nat → Int) (hk : In 256 32 k) (sp : Option Addr) (len cap : Nat) (hlen : len ≤ 281474976710656) (hcap : len ≤ cap) (z : Nat → Int) (hz : In 256 len z) (w : World) (hs : Src w sp len z) :
    Calls Tryz.prog 58 #[(.agg (row .u8 32 (k)).toArray), .slice sp len cap] w fun e w' => ∃ f : Nat → Int, e = .returned (.agg (row .u8 16 (f)).toArray) ∧ (In 256 16 f ∧ val 256 f 16 = ptag k len z) ∧ Below w.heap.size w w' := by
  have hk1 : In 256 16 k := fun j hj => hk j (by omega)
  have hk2 : In 256 16 (fun j => k (16 + j)) := fun j hj => hk (16 + j) (by omega)
  have K := Kr.init w
  replace K := K.box .u8 32 k 38 w.heap.size rfl
  replace K := K.make 16 zu8_16 65 (w.heap.size + 1) (by simp) (tag_zero _ _ _ (by simp)).there
  go_enter Tryz.func58, Tryz.ntmps58
  go_upto_region 1 with fail
  generalize ((w.alloc (.cells (row .u8 32 k).toArray 38)).alloc (.cells zu8_16 65)) = w0 at K ⊢
  refine wp_region_list ?_
  refine pureL (.agg (row .u8 16 (fun _ => 0)).toArray) rfl (fun _ => by kernel_rfl) ?_
  simp only [aP, lI, l0, lS]
  refine allocL zu8_16 65 rfl (fun _ => by kernel_rfl) ?_
  simp only [aP, lI, l0, lS]
  refine storesL .u8 16 (fun _ => 0) w0.heap.size 65 _ _ rfl rfl rfl rfl (room_of (tag_zero _ _ _ rfl).there) (tag_info' _) ?_
  simp only [Act.put]
  have zR := K.size
  replace K := K.fresh .u8 16 (fun _ => 0) zu8_16 65 (tag_zero _ _ _ rfl).there
  generalize ((w0.alloc (.cells zu8_16 65)).setCells w0.heap.size 0 (row .u8 16 (fun _ => 0))) = w1 at K ⊢
  generalize w0.heap.size = R at *
  show Exit.then _ _ _ _ _
  go_upto_region 2 with fail
  refine wp_region_list ?_
  refine pureL (.agg (row .u8 16 (fun _ => 0)).toArray) rfl (fun _ => by kernel_rfl) ?_
  simp only [aP, lI, l0, lS]
  refine allocL zu8_16 65 rfl (fun _ => by kernel_rfl) ?_
  simp only [aP, lI, l0, lS]
  refine storesL .u8 16 (fun _ => 0) w1.heap.size 65 _ _ rfl rfl rfl rfl (room_of (tag_zero _ _ _ rfl).there) (tag_info' _) ?_
  simp only [Act.put]
  have zS := K.size
  replace K := K.fresh .u8 16 (fun _ => 0) zu8_16 65 (tag_zero _ _ _ rfl).there
  generalize ((w1.alloc (.cells zu8_16 65)).setCells w1.heap.size 0 (row .u8 16 (fun _ => 0))) = w2 at K ⊢
  generalize w1.heap.size = S at *
  show Exit.then _ _ _ _ _
  go_wp2
  go_loopw [7] (fun i w' => ∃ (m : Nat) (f g : Nat → Int), m ≤ 16 ∧ i = .int .i64 m ∧ Kr w (S + 1) [(S, .u8, 16, g), (R, .u8, 16, f), (w.heap.size, .u8, 32, k)] [(w.heap.size + 1, 16)] w' ∧ (∀ j, j < m → f j = k j) ∧ ∀ j, j < m → g j = k (16 + j)) (fun i _ => 16 - (intOf i).toNat)
  case atStart => exact ⟨0, _, _, by omega, rfl, K, fun j hj => by omega, fun j hj => by omega⟩
  case round =>
    clear K
    obtain ⟨m, f, g, hm, rfl, K, hf, hg⟩ := hrel
    have g1 : (0 : Int) ≤ (m : Int) := by omega
    by_cases hlt : m < 16
    · have g2 : (m : Int) < 16 := by omega
      have hlt2 : 16 + m < 32 := by omega
      go_upto_region 6 with fail
      refine wp_region_list ?_
      refine pureL (.int .i64 (m : Int)) rfl (fun _ => by kernel_rfl) ?_
      simp only [aP, lI, l0, lS]
      refine pureL (.int .i64 (m : Int)) rfl (fun _ => by kernel_rfl) ?_
      simp only [aP, lI, l0, lS]
      refine pureL (.pointer (some ⟨w.heap.size, m, none⟩)) rfl (fun w' => idxKy w.heap.size m (by omega) w' _ _ rfl rfl rfl) ?_
      simp only [aP, lI, l0, lS]
      refine cellL .u8 (.int .u8 (k m)) w.heap.size m 5 _ rfl rfl rfl Tryz.underlying5 ((K.get _ _ _ _ (mT _ (mT _ mS))).cell m (by omega)) ?_
      simp only [aP, lI, l0, lS]
      refine pureL (.pointer (some ⟨R, m, none⟩)) rfl (fun w' => idxTag R m hlt w' _ _ rfl rfl rfl) ?_
      simp only [aP, lI, l0, lS]
      refine storeL .u8 (k m) R m 5 _ _ rfl rfl rfl rfl (by rw [(K.get _ _ _ _ (mT _ mS)).cell _ hlt]; rfl) ((K.get _ _ _ _ (mT _ mS)).free _ hlt) (by kernel_rfl) ?_
      simp only [Act.put]
      replace K := K.setCell [(S, .u8, 16, g), (w.heap.size, .u8, 32, k)] R .u8 16 f m hlt (k m) (mT _ mS) (fun p hp => by rcases List.mem_cons.1 hp with rfl | hp; exact mS; obtain rfl := List.mem_singleton.1 hp; exact (mT _ (mT _ mS))) (fun p hp => by rcases List.mem_cons.1 hp with rfl | hp; simp only; omega; obtain rfl := List.mem_singleton.1 hp; simp only; omega) (by omega)
      generalize wr.setCell ⟨R, m, none⟩ (.int .u8 (k m)) = w4 at K ⊢
      show Exit.then _ _ _ _ _
      go_upto_region 7 with fail
      refine wp_region_list ?_
      refine pureL (.int .i64 (m : Int)) rfl (fun _ => by kernel_rfl) ?_
      simp only [aP, lI, l0, lS]
      refine pureL (.int .i64 (m : Int)) rfl (fun _ => by kernel_rfl) ?_
      simp only [aP, lI, l0, lS]
      refine pureL (.int .i64 ((16 + m : Nat) : Int)) rfl (fun w => addI .i64 16 (m : Int) _ _ _ _ _ rfl rfl rfl (by rw [IntKind.wrap_i64]; omega) w) ?_
      simp only [aP, lI, l0, lS]
      refine pureL (.pointer (some ⟨w.heap.size, 16 + m, none⟩)) rfl (fun w' => idxKy w.heap.size (16 + m) hlt2 w' _ _ rfl rfl rfl) ?_
      simp only [aP, lI, l0, lS]
      refine cellL .u8 (.int .u8 (k (16 + m))) w.heap.size (16 + m) 5 _ rfl rfl rfl Tryz.underlying5 ((K.get _ _ _ _ (mT _ (mT _ mS))).cell (16 + m) hlt2) ?_
      simp only [aP, lI, l0, lS]
      refine pureL (.pointer (some ⟨S, m, none⟩)) rfl (fun w' => idxTag S m hlt w' _ _ rfl rfl rfl) ?_
      simp only [aP, lI, l0, lS]
      refine storeL .u8 (k (16 + m)) S m 5 _ _ rfl rfl rfl rfl (by rw [(K.get _ _ _ _ (mT _ mS)).cell _ hlt]; rfl) ((K.get _ _ _ _ (mT _ mS)).free _ hlt) (by kernel_rfl) ?_
      simp only [Act.put]
      replace K := K.setCell [(R, .u8, 16, upd f m (k m)), (w.heap.size, .u8, 32, k)] S .u8 16 g m hlt (k (16 + m)) (mT _ mS) (fun p hp => by rcases List.mem_cons.1 hp with rfl | hp; exact mS; obtain rfl := List.mem_singleton.1 hp; exact (mT _ (mT _ mS))) (fun p hp => by rcases List.mem_cons.1 hp with rfl | hp; simp only; omega; obtain rfl := List.mem_singleton.1 hp; simp only; omega) (by omega)
      generalize w4.setCell ⟨S, m, none⟩ (.int .u8 (k (16 + m))) = w5 at K ⊢
      have HS := show Hid _ from (And.intro K (And.intro (show ∀ j, j < m + 1 → upd f m (k m) j = k j from fun j hj => by
        by_cases e : j = m
        · subst e; rw [upd_same]
        · rw [upd_other _ _ _ _ e]; exact hf j (by omega)) (show ∀ j, j < m + 1 → upd g m (k (16 + m)) j = k (16 + j) from fun j hj => by
        by_cases e : j = m
        · subst e; rw [upd_same]
        · rw [upd_other _ _ _ _ e]; exact hg j (by omega))))
      clear K hf hg
      show Exit.inBlock _ _ _ _ _
      go_wp2
      go_roundw
      case rel => first | exact ⟨m + 1, _, _, by omega, by go_num, HS.out⟩ | ((repeat apply Exists.intro); refine ⟨⟨m + 1, _, _, by omega, by go_num, HS.out⟩, rfl⟩)
      case measure => simp [intOf]; omega
    · obtain rfl : m = 16 := by omega
      clear hlt hm g1
      go_upto_region 8 with fail
      refine wp_region_list ?_
      refine rowKL .u8 16 (f) (R) 0 65 _ _ rfl rfl rfl Tryz.underlying65 rfl (tag_info _) ((K.get _ _ _ _ (mT _ mS)).range) ?_
      simp only [aP, lI, l0, lS]
      refine callL rfl (fun _ => by kernel_rfl) (refTrim_any f (fun j hj => by rw [hf j hj]; exact hk1 j hj) _) ?_
      rintro e w4 ⟨rfl, l⟩
      replace K := K.call l
      clear l
      refine ⟨_, rfl, ?_⟩
      simp only [aP, lI, l0, lS]
      refine storesL .u8 16 (trimT f) R 65 _ _ rfl rfl rfl rfl (tag_there (K.get _ _ _ _ (mT _ mS))) (tag_info' _) ?_
      simp only [Act.put]
      replace K := K.set [(S, .u8, 16, g), (w.heap.size, .u8, 32, k)] R .u8 16 f (trimT f) (mT _ mS) (fun p hp => by rcases List.mem_cons.1 hp with rfl | hp; exact mS; obtain rfl := List.mem_singleton.1 hp; exact (mT _ (mT _ mS))) (fun p hp => by rcases List.mem_cons.1 hp with rfl | hp; simp only; omega; obtain rfl := List.mem_singleton.1 hp; simp only; omega) (by omega)
      generalize w4.setCells R 0 (row .u8 16 (trimT f)) = w5 at K ⊢
      have hS := (K.get _ _ _ _ (mT _ mS)).congr (g := fun j => k (16 + j)) (fun j hj => hg j hj)
      have hR := (K.get _ _ _ _ mS).congr (g := trimT k) (fun j hj => by unfold trimT; rw [hf j hj])
      replace K : Kr w (S + 1) [(R, .u8, 16, trimT k), (S, .u8, 16, fun j => k (16 + j))] [(w.heap.size + 1, 16)] w5 := ⟨fun p hp => by
        rcases List.mem_cons.1 hp with rfl | hp
        · exact ⟨hR, (K.rows _ mS).2⟩
        · obtain rfl := List.mem_singleton.1 hp; exact ⟨hS, (K.rows _ (mT _ mS)).2⟩, K.room, (fun p hp q hq => by
        rcases List.mem_cons.1 hp with rfl | hp
        · exact K.apart _ mS q hq
        · obtain rfl := List.mem_singleton.1 hp; exact K.apart _ (mT _ mS) q hq), K.size, K.base, K.below⟩
      clear hS hR hf hg
      show Exit.then _ _ _ _ _
      go_upto_region 9 with fail
      refine wp_region_list ?_
      refine pureL (.agg (row .u8 17 (fun _ => 0)).toArray) rfl (fun _ => by kernel_rfl) ?_
      simp only [aP, lI, l0, lS]
      refine allocL zu8_17 96 rfl (fun _ => by kernel_rfl) ?_
      simp only [aP, lI, l0, lS]
      refine storesL .u8 17 (fun _ => 0) w5.heap.size 96 _ _ rfl rfl rfl rfl (room_of (big_zero _ _ _ rfl).there) (big_info' _) ?_
      simp only [Act.put]
      have zY := K.size
      replace K := K.fresh .u8 17 (fun _ => 0) zu8_17 96 (big_zero _ _ _ rfl).there
      generalize ((w5.alloc (.cells zu8_17 96)).setCells w5.heap.size 0 (row .u8 17 (fun _ => 0))) = w6 at K ⊢
      generalize w5.heap.size = Y at *
      show Exit.then _ _ _ _ _
      go_wp2
      go_loopw [9] (fun i w' => ∃ (m : Nat) (y : Nat → Int), m ≤ 16 ∧ i = .int .i64 m ∧ Kr w (Y + 1) [(Y, .u8, 17, y), (R, .u8, 16, trimT k), (S, .u8, 16, fun j => k (16 + j))] [(w.heap.size + 1, 16)] w' ∧ (∀ j, j < m → y j = trimT k j) ∧ ∀ j, m ≤ j → y j = 0) (fun i _ => 16 - (intOf i).toNat)
      case atStart => exact ⟨0, _, by omega, rfl, K, fun j hj => by omega, fun _ _ => rfl⟩
      case round =>
        clear K
        obtain ⟨m, y, hm, rfl, K, hy, hy0⟩ := hrel
        have g1 : (0 : Int) ≤ (m : Int) := by omega
        by_cases hlt : m < 16
        · have g2 : (m : Int) < 16 := by omega
          have hlt2 : m < 17 := by omega
          go_upto_region 13 with fail
          refine wp_region_list ?_
          refine pureL (.int .i64 (m : Int)) rfl (fun _ => by kernel_rfl) ?_
          simp only [aP, lI, l0, lS]
          refine pureL (.int .i64 (m : Int)) rfl (fun _ => by kernel_rfl) ?_
          simp only [aP, lI, l0, lS]
          refine pureL (.pointer (some ⟨R, m, none⟩)) rfl (fun w' => idxTag R m hlt w' _ _ rfl rfl rfl) ?_
          simp only [aP, lI, l0, lS]
          refine cellL .u8 (.int .u8 (trimT k m)) R m 5 _ rfl rfl rfl Tryz.underlying5 ((K.get _ _ _ _ (mT _ mS)).cell m hlt) ?_
          simp only [aP, lI, l0, lS]
          refine pureL (.pointer (some ⟨Y, m, none⟩)) rfl (fun w' => idxBig Y m hlt2 w' _ _ rfl rfl rfl) ?_
          simp only [aP, lI, l0, lS]
          refine storeL .u8 (trimT k m) Y m 5 _ _ rfl rfl rfl rfl (by rw [(K.get _ _ _ _ mS).cell _ hlt2]; rfl) ((K.get _ _ _ _ mS).free _ hlt2) (by kernel_rfl) ?_
          simp only [Act.put]
          replace K := K.setCell [(R, .u8, 16, trimT k), (S, .u8, 16, fun j => k (16 + j))] Y .u8 17 y m hlt2 (trimT k m) mS (fun p hp => mT _ hp) (fun p hp => by rcases List.mem_cons.1 hp with rfl | hp; simp only; omega; obtain rfl := List.mem_singleton.1 hp; simp only; omega) (by omega)
          generalize wr.setCell ⟨Y, m, none⟩ (.int .u8 (trimT k m)) = w8 at K ⊢
          have HS := show Hid _ from (And.intro K (And.intro (show ∀ j, j < m + 1 → upd y m (trimT k m) j = trimT k j from fun j hj => by
            by_cases e : j = m
            · subst e; rw [upd_same]
            · rw [upd_other _ _ _ _ e]; exact hy j (by omega)) (show ∀ j, m + 1 ≤ j → upd y m (trimT k m) j = 0 from fun j hj => by
            rw [upd_other _ _ _ _ (by omega)]; exact hy0 j (by omega))))
          clear K hy hy0
          show Exit.inBlock _ _ _ _ _
          go_wp2
          go_roundw
          case rel => first | exact ⟨m + 1, _, by omega, by go_num, HS.out⟩ | ((repeat apply Exists.intro); refine ⟨⟨m + 1, _, by omega, by go_num, HS.out⟩, rfl⟩)
          case measure => simp [intOf]; omega
        · obtain rfl : m = 16 := by omega
          clear hlt hm g1
          have hY := (K.get _ _ _ _ mS).congr (g := byB (trimT k)) (fun j hj => by
            unfold byB
            by_cases e : j < 16
            · rw [if_pos e]; exact hy j e
            · rw [if_neg e]; exact hy0 j (by omega))
          replace K : Kr w (Y + 1) [(Y, .u8, 17, byB (trimT k)), (S, .u8, 16, fun j => k (16 + j))] [(w.heap.size + 1, 16)] wr := ⟨fun p hp => by
            rcases List.mem_cons.1 hp with rfl | hp
            · exact ⟨hY, (K.rows _ mS).2⟩
            · obtain rfl := List.mem_singleton.1 hp; exact K.rows _ (mT _ (mT _ mS)), K.room, (fun p hp q hq => by
            rcases List.mem_cons.1 hp with rfl | hp
            · exact K.apart _ mS q hq
            · obtain rfl := List.mem_singleton.1 hp; exact K.apart _ (mT _ (mT _ mS)) q hq), K.size, K.base, K.below⟩
          clear hY hy hy0
          go_upto_region 14 with fail
          refine wp_region_list ?_
          refine pureL (.agg (row .u8 17 (fun _ => 0)).toArray) rfl (fun _ => by kernel_rfl) ?_
          simp only [aP, lI, l0, lS]
          refine allocL zu8_17 96 rfl (fun _ => by kernel_rfl) ?_
          simp only [aP, lI, l0, lS]
          refine storesL .u8 17 (fun _ => 0) wr.heap.size 96 _ _ rfl rfl rfl rfl (room_of (big_zero _ _ _ rfl).there) (big_info' _) ?_
          simp only [Act.put]
          have zX := K.size
          replace K := K.fresh .u8 17 (fun _ => 0) zu8_17 96 (big_zero _ _ _ rfl).there
          generalize ((wr.alloc (.cells zu8_17 96)).setCells wr.heap.size 0 (row .u8 17 (fun _ => 0))) = w8 at K ⊢
          generalize wr.heap.size = X at *
          show Exit.then _ _ _ _ _
          go_wp2
          go_loopw [11] (fun i w' => ∃ (t : Nat) (a : Nat → Int), 16 * t < len + 16 ∧ i = .int .i64 (16 * (t : Int)) ∧ Kr w (X + 1) [(X, .u8, 17, a), (Y, .u8, 17, byB (trimT k)), (S, .u8, 16, fun j => k (16 + j))] [(w.heap.size + 1, 16)] w' ∧ In 256 17 a ∧ val 256 a 17 = acc (pR k) len z t) (fun i _ => len + 16 - (intOf i).toNat)
          case atStart => exact ⟨0, _, by omega, rfl, K, fun _ _ => ⟨Int.le_refl 0, (by decide : (0 : Int) < 256)⟩, by show val 256 (fun _ => 0) 17 = 0; decide⟩
          case round =>
            clear K
            obtain ⟨t, a, ht, rfl, K, ha, hv⟩ := hrel
            have g1 : (0 : Int) ≤ 16 * (t : Int) := by omega
            by_cases hlt : 16 * t < len
            · have g2 : 16 * (t : Int) < (len : Int) := by omega
              obtain ⟨M, hM⟩ : ∃ M : Nat, M = min (16 * t + 16) len := ⟨_, rfl⟩
              have hm : (if (len : Int) < 16 * (t : Int) + 16 then (len : Int) else 16 * (t : Int) + 16) = (M : Int) := by rw [hM]; split <;> omega
              obtain ⟨sq, hq1, hq2⟩ := cut_lh (P := Tryz.prog) (t := 28) (by kernel_rfl) (fun _ => by kernel_rfl) sp len cap (16 * t) M (by omega) (by omega) hcap
              have hpc : M - 16 * t = pcN len t := by unfold pcN; omega
              rw [hpc] at hq1 hq2
              have ec : ((16 * t : Nat) : Int) = 16 * (t : Int) := by omega
              rw [ec] at hq1
              go_upto_region 18 with fail
              refine wp_region_list ?_
              refine pureL (.slice sp len cap) rfl (fun _ => by kernel_rfl) ?_
              simp only [aP, lI, l0, lS]
              refine pureL (.int .i64 (16 * (t : Int))) rfl (fun _ => by kernel_rfl) ?_
              simp only [aP, lI, l0, lS]
              refine pureL (.int .i64 (16 * (t : Int))) rfl (fun _ => by kernel_rfl) ?_
              simp only [aP, lI, l0, lS]
              refine pureL (.int .i64 (16 * (t : Int) + 16)) rfl (fun w => addI .i64 _ _ _ _ _ _ _ rfl rfl rfl (by rw [IntKind.wrap_i64]; omega) w) ?_
              simp only [aP, lI, l0, lS]
              refine pureL (.slice sp len cap) rfl (fun _ => by kernel_rfl) ?_
              simp only [aP, lI, l0, lS]
              refine pureL (.int .i64 (len : Int)) rfl (fun w => lenS _ 28 5 sp len cap rfl Tryz.underlying28 rfl w) ?_
              simp only [aP, lI, l0, lS]
              refine pureL (.int .i64 (M : Int)) rfl (fun w => minI .i64 .i64 _ _ _ _ _ _ _ rfl rfl rfl hm w) ?_
              simp only [aP, lI, l0, lS]
              refine pureL (.slice sq (pcN len t) (cap - 16 * t)) rfl (fun w => cutLHop _ _ _ _ _ _ _ _ rfl rfl rfl rfl (hq1 w)) ?_
              simp only [aP, lI, l0, lS]
              refine callL rfl (fun _ => by kernel_rfl) (refBlock_any sq (pcN len t) (cap - 16 * t) (fun j => z (16 * t + j)) _ ((hq2 _ _ hs).below K.below (Nat.le_refl _))) ?_
              rintro e w9 ⟨rfl, l⟩
              replace K := K.call l
              clear l
              refine ⟨_, rfl, ?_⟩
              simp only [aP, lI, l0, lS]
              refine pureL (.tuple #[.agg (row .u8 17 (piece len z t)).toArray, .int .i64 (blkE (pcN len t))]) rfl (fun _ => by kernel_rfl) ?_
              simp only [aP, lI, l0, lS]
              refine pureL (.agg (row .u8 17 (piece len z t)).toArray) rfl (fun _ => by kernel_rfl) ?_
              simp only [aP, lI, l0, lS]
              refine pureL (.int .i64 (blkE (pcN len t))) rfl (fun _ => by kernel_rfl) ?_
              simp only [aP, lI, l0, lS]
              refine allocL zu8_17 96 rfl (fun _ => by kernel_rfl) ?_
              simp only [aP, lI, l0, lS]
              refine storesL .u8 17 (piece len z t) w9.heap.size 96 _ _ rfl rfl rfl rfl (room_of (big_zero _ _ _ rfl).there) (big_info' _) ?_
              simp only [Act.put]
              have zG := K.size
              replace K := K.fresh .u8 17 (piece len z t) zu8_17 96 (big_zero _ _ _ rfl).there
              generalize ((w9.alloc (.cells zu8_17 96)).setCells w9.heap.size 0 (row .u8 17 (piece len z t))) = w10 at K ⊢
              generalize w9.heap.size = G at *
              refine pureL (.int .i64 (blkE (pcN len t))) rfl (fun _ => by kernel_rfl) ?_
              simp only [aP, lI, l0, lS]
              show Exit.then _ _ _ _ _
              clear hm hM hq1 hq2 hpc ec
              go_upto_region 19 with fail
              refine wp_region_C (S := fun w' => Kr w (G + 1) [(G, .u8, 17, piece len z t), (X, .u8, 17, a), (Y, .u8, 17, byB (trimT k)), (S, .u8, 16, fun j => k (16 + j))] [(w.heap.size + 1, 16)] w') 5 (by kernel_rfl) K.drew ?_
              clear K
              intro K
              refine rowC (i := 0) (some 62) rfl .u8 17 (a) (X) 0 96 _ _ rfl rfl (by kernel_rfl) rfl rfl rfl (by kernel_rfl) (by kernel_rfl) (by kernel_rfl) (by kernel_rfl) (fun _ _ _ h => h) Tryz.underlying96 rfl (big_info _) K (fun _ h => (h.get _ _ _ _ (mT _ mS)).range) ?_
              simp only [aP, lI, l0, lS]
              refine rowC (i := 1) (some 63) rfl .u8 17 (piece len z t) (G) 0 96 _ _ rfl rfl (by kernel_rfl) rfl rfl rfl (by kernel_rfl) (by kernel_rfl) (by kernel_rfl) (by kernel_rfl) (fun _ _ _ h => h) Tryz.underlying96 rfl (big_info _) K (fun _ h => (h.get _ _ _ _ mS).range) ?_
              simp only [aP, lI, l0, lS]
              refine rowC (i := 3) (some 65) rfl .u8 17 (byB (trimT k)) (Y) 0 96 _ _ rfl rfl (by kernel_rfl) rfl rfl rfl (by kernel_rfl) (by kernel_rfl) (by kernel_rfl) (by kernel_rfl) (fun _ _ _ h => h) Tryz.underlying96 rfl (big_info _) K (fun _ h => (h.get _ _ _ _ (mT _ (mT _ mS))).range) ?_
              simp only [aP, lI, l0, lS]
              refine callMC (i := 2) (some 64) rfl (by kernel_rfl) rfl rfl (fun _ => by kernel_rfl) (refAdd_any a (piece len z t) ha (piece_in len z t hz) _) ?_
              rintro e w11 ⟨f1, rfl, s1, l⟩
              replace K := K.call l
              clear l
              refine ⟨_, rfl, K, ?_⟩
              simp only [aP, lI, l0, lS]
              refine callMC (i := 4) (some 66) rfl (by kernel_rfl) rfl rfl (fun _ => by kernel_rfl) (refMul_any f1 (byB (trimT k)) s1.1 (byB_in _ (trimT_in k hk1)) _) ?_
              rintro e w12 ⟨f2, rfl, s2, l⟩
              replace K := K.call l
              clear l
              refine ⟨_, rfl, K, ?_⟩
              simp only [aP, lI, l0, lS]
              refine storesC (S2 := fun _ => True) none rfl .u8 17 f2 X 96 _ _ (by kernel_rfl) rfl rfl rfl rfl rfl (big_there (K.get _ _ _ _ (mT _ mS))) (big_info' _) (by kernel_rfl) ?_
              simp only [Act.put]
              refine wpAnyH_done (by kernel_rfl) ?_ _
              have hv2 : val 256 f2 17 = acc (pR k) len z (t + 1) := acc_step (by rw [s1.2, hv]) (byB_val (trimT k)) s2.2
              replace K := K.set [(G, .u8, 17, piece len z t), (Y, .u8, 17, byB (trimT k)), (S, .u8, 16, fun j => k (16 + j))] X .u8 17 a f2 (mT _ mS) (fun p hp => by rcases List.mem_cons.1 hp with rfl | hp; exact mS; rcases List.mem_cons.1 hp with rfl | hp; exact (mT _ (mT _ mS)); obtain rfl := List.mem_singleton.1 hp; exact (mT _ (mT _ (mT _ mS)))) (fun p hp => by rcases List.mem_cons.1 hp with rfl | hp; simp only; omega; rcases List.mem_cons.1 hp with rfl | hp; simp only; omega; obtain rfl := List.mem_singleton.1 hp; simp only; omega) (by omega)
              replace K := K.back [(X, .u8, 17, f2), (Y, .u8, 17, byB (trimT k)), (S, .u8, 16, fun j => k (16 + j))] (X + 1) (fun p hp => by rcases List.mem_cons.1 hp with rfl | hp; exact mS; rcases List.mem_cons.1 hp with rfl | hp; exact (mT _ (mT _ mS)); obtain rfl := List.mem_singleton.1 hp; exact (mT _ (mT _ (mT _ mS)))) (fun p hp => by rcases List.mem_cons.1 hp with rfl | hp; simp only; omega; rcases List.mem_cons.1 hp with rfl | hp; simp only; omega; obtain rfl := List.mem_singleton.1 hp; simp only; omega) (fun q hq => by obtain rfl := List.mem_singleton.1 hq; simp only; omega) (by omega) (by omega)
              have HS := show Hid _ from (And.intro K (And.intro s2.1 hv2))
              clear K s1 s2 hv hv2 ha
              generalize w12.setCells X 0 (row .u8 17 f2) = w13 at HS ⊢
              go_wp2
              go_roundw
              case rel => first | exact ⟨t + 1, f2, by omega, by go_num, HS.out⟩ | ((repeat apply Exists.intro); refine ⟨⟨t + 1, f2, by omega, by go_num, HS.out⟩, rfl⟩)
              case measure => simp [intOf]; omega
            · obtain rfl : t = npc len := by unfold npc; omega
              go_upto_region 20 with fail
              refine wp_region_list ?_
              refine rowKL .u8 17 (a) (X) 0 96 _ _ rfl rfl rfl Tryz.underlying96 rfl (big_info _) ((K.get _ _ _ _ mS).range) ?_
              simp only [aP, lI, l0, lS]
              refine rowKL .u8 16 (fun j => k (16 + j)) (S) 0 65 _ _ rfl rfl rfl Tryz.underlying65 rfl (tag_info _) ((K.get _ _ _ _ (mT _ (mT _ mS))).range) ?_
              simp only [aP, lI, l0, lS]
              refine callL rfl (fun _ => by kernel_rfl) (refLow_any a (fun j => k (16 + j)) ha hk2 _) ?_
              rintro e w9 ⟨f, rfl, s1, l⟩
              replace K := K.call l
              clear l
              refine ⟨_, rfl, ?_⟩
              simp only [aP, lI, l0, lS]
              have hz' := (K.room _ mS).1
              refine storesL .u8 16 f (w.heap.size + 1) 65 _ _ rfl rfl rfl rfl (room_of hz') (tag_info' _) ?_
              simp only [Act.put]
              have hB := (K.fill _ _ mS (row .u8 16 f)).below
              have HE := show Hid _ from (And.intro s1.1 (show val 256 f 16 = ptag k len z by rw [s1.2, hv]; rfl))
              clear K s1 hv ha hlt ht g1
              show Exit.then _ _ _ _ _
              go_wp2
              exact bodyPost_ret (v := (.agg (row .u8 16 (f)).toArray)) (results_row Tryz.results58 rfl (Has.all hz' .u8 f).range Tryz.underlying65 rfl (tag_info f)) rfl ⟨f, rfl, HE.out, hB⟩
end Go.Proofs.YtgfpflcoknpbdaaGreatDoor
