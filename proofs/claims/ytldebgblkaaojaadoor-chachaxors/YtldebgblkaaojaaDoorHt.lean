/- What the document's own Xor answers. -/
import Derived.Test.YtldebgblkaaojaaDoorHs
import Derived.Test.YtldebgblkaaojaaDoorHg
namespace Go.Proofs.YtldebgblkaaojaaDoor
open Go.RowKit

theorem one8 : One Tryd.prog 5 .u8 1 := ⟨by kernel_rfl⟩
/-- What is laid over so far. -/
structure HXI (k : Nat → Int) (c : Int) (n : Nat → Int) (z : Nat → Int) (w : World) (m : Nat) (s : Value) (w' : World) : Prop where
  K : Kr w (w.heap.size + 1 + 1) [(w.heap.size + 1, .u8, 12, n), (w.heap.size, .u8, 32, k)] [] w'
  own : Own w' (w.heap.size + 1 + 1) 5 .u8 m (hxor k c n z) s
/-- The same, with a block of the stream beside it. -/
structure HXD (k : Nat → Int) (c : Int) (n : Nat → Int) (z : Nat → Int) (C : Int) (D : Nat) (w : World) (m : Nat) (s : Value) (w' : World) : Prop where
  K : Kr w (D + 1) [(D, .u8, 64, hblk k C n), (w.heap.size + 1, .u8, 12, n), (w.heap.size, .u8, 32, k)] [] w'
  own : Own w' (w.heap.size + 1 + 1) 5 .u8 m (hxor k c n z) s
  ne : s.ownBlock ≠ some D
/-- A byte more. -/
theorem HXD.more {k : Nat → Int} {c : Int} {n : Nat → Int} {z : Nat → Int} {C : Int} {D : Nat} {w : World} {m : Nat} {s : Value} {w' : World} (h : HXD k c n z C D w m s w') (hD : w.heap.size + 1 + 1 ≤ D) (hm : m < 140737488355328) (x : Int) (hx : hxor k c n z m = x) (ty : TypeId) :
    ∃ v w'', (Builtin.append_ #[36, 36] ty #[s, .slice (some ⟨w'.heap.size, 0, none⟩) 1 1]).run Tryd.prog (w'.alloc (.cells #[.int .u8 x] 5)) = .ok v w'' ∧ HXD k c n z C D w (m + 1) v w'' := by
  have H1 := Has.new w' .u8 1 (fun _ => x) 5 w'.heap.size rfl
  have K1 := h.K.call ((Below.refl w'.heap.size w').alloc (Nat.le_refl _) (.cells (row .u8 1 (fun _ => x)).toArray 5))
  have hDs := (h.K.rows (D, .u8, 64, hblk k C n) List.mem_cons_self).2
  have hsz := h.K.size
  obtain ⟨v, w'', hr, ho, hg, hw⟩ := run_append_Own (P := Tryd.prog) (ty := ty) Tryd.underlying36 one8 (h.own.alloc (.cells (row .u8 1 (fun _ => x)).toArray 5)) (some ⟨w'.heap.size, 0, none⟩) 1 1 (fun _ => x) (fun j hj => ⟨_, rfl, by rw [Addr.add_mid, Nat.zero_add]; exact H1.cell j hj⟩) (fun e => by cases e) (by unfold maxLen; omega) (by omega) (by simp; omega)
  have hlo : ∀ b, s.ownBlock = some b → w.heap.size + 1 + 1 ≤ b := fun b hb => (World.ownsRow.lt h.own b hb).1
  refine ⟨v, w'', hr, K1.grown' hg (fun p hp => ?_) (fun q hq => by cases hq) (fun b hb => by have := hlo b hb; omega), ho.congr fun j hj => ?_, fun e => ?_⟩
  · intro e
    have := hlo _ e
    rcases List.mem_cons.1 hp with rfl | hp
    · exact h.ne e
    · rcases List.mem_cons.1 hp with rfl | hp
      · simp only at this; omega
      · obtain rfl := List.mem_singleton.1 hp; simp only at this; omega
  · unfold app
    by_cases e : j < m
    · rw [if_pos e]
    · rw [if_neg e, ← hx, show j = m by omega]
  · rcases hw D e with h1 | h1
    · exact h.ne h1
    · simp at h1; omega

set_option maxRecDepth 10000 in
set_option maxHeartbeats 8000000 in
theorem refXor_any (k : Nat → Int) (c : Int) (n : Nat → Int) (hk : In 256 32 k) (hn : In 256 12 n) (sp : Option Addr) (len cap : Nat) (hlen : len ≤ 140737488355328) (z : Nat → Int) (w : World) (hs : Src w sp len z) :
    Calls Tryd.prog 15 #[(.agg (row .u8 32 (k)).toArray), .int .u32 c, (.agg (row .u8 12 (n)).toArray), .slice sp len cap] w fun e w' => ∃ sp' cap', e = .returned (.slice sp' len cap') ∧ ((sp' = none → len = 0) ∧ Src w' sp' len (hxor k c n z)) ∧ Below w.heap.size w w' := by
  have K := Kr.init w
  replace K := K.box .u8 32 k 28 w.heap.size rfl
  replace K := K.box .u8 12 n 30 (w.heap.size + 1) (by simp)
  go_enter Tryd.func15, Tryd.ntmps15
  go_upto_region 1 with fail
  have s0 : ((w.alloc (.cells (row .u8 32 k).toArray 28)).alloc (.cells (row .u8 12 n).toArray 30)).heap.size = w.heap.size + 1 + 1 := by simp
  generalize ((w.alloc (.cells (row .u8 32 k).toArray 28)).alloc (.cells (row .u8 12 n).toArray 30)) = w0 at K s0 ⊢
  refine wp_region_list ?_
  refine actL (w' := w0.alloc (.cells #[] 5)) (.slice (some ⟨w0.heap.size, 0, none⟩) 0 0) rfl (by kernel_rfl) ?_
  simp only [Act.put, List.setIfInBounds_toArray, List.set_cons_zero, List.set_cons_succ]
  refine pureL (.slice (some ⟨w0.heap.size, 0, none⟩) 0 0) rfl (fun _ => by kernel_rfl) ?_
  simp only [Act.put, List.setIfInBounds_toArray, List.set_cons_zero, List.set_cons_succ]
  have HI : HXI k c n z w 0 (.slice (some ⟨w0.heap.size, 0, none⟩) 0 0) (w0.alloc (.cells #[] 5)) :=
    ⟨K.call ((Below.refl w0.heap.size w0).alloc (Nat.le_refl _) _), Own.lit w0 (w.heap.size + 1 + 1) 5 .u8 0 (hxor k c n z) (by omega) (by unfold maxLen; omega)⟩
  clear K
  generalize (w0.alloc (.cells #[] 5)) = w1 at HI ⊢
  generalize (Value.slice (some ⟨w0.heap.size, 0, none⟩) 0 0) = s1 at HI ⊢
  show Exit.then _ _ _ _ _
  go_wp2
  go_loopw [9, 10] (fun s i w' => ∃ t : Nat, 64 * t < len + 64 ∧ i = .int .i64 (64 * (t : Int)) ∧ HXI k c n z w (min (64 * t) len) s w') (fun _ i _ => len + 64 - (intOf i).toNat)
  case atStart => exact ⟨0, by omega, rfl, by rw [show min (64 * 0) len = 0 by omega]; exact HI⟩
  case round =>
    clear HI
    obtain ⟨t, ht, rfl, HI⟩ := hrel
    have g1 : (0 : Int) ≤ 64 * (t : Int) := by omega
    by_cases hlt : 64 * t < len
    · have g2 : 64 * (t : Int) < (len : Int) := by omega
      obtain ⟨C, hC⟩ : ∃ C, (c + (t : Int)) % 4294967296 = C := ⟨_, rfl⟩
      have HC := show Hid _ from hC
      rw [show min (64 * t) len = 64 * t by omega] at HI
      have K := HI.K
      have O := HI.own
      clear HI
      go_upto_region 5 with fail
      refine wp_region_list ?_
      refine rowKL .u8 32 k w.heap.size 0 28 _ _ rfl rfl rfl Tryd.underlying28 rfl (key_info _) (K.get _ _ _ _ (List.mem_cons_of_mem _ List.mem_cons_self)).range ?_
      simp only [Act.put, List.setIfInBounds_toArray, List.set_cons_zero, List.set_cons_succ]
      refine pureL (.int .u32 c) rfl (fun _ => by kernel_rfl) ?_
      simp only [Act.put, List.setIfInBounds_toArray, List.set_cons_zero, List.set_cons_succ]
      refine pureL (.int .i64 (64 * (t : Int))) rfl (fun _ => by kernel_rfl) ?_
      simp only [Act.put, List.setIfInBounds_toArray, List.set_cons_zero, List.set_cons_succ]
      refine pureL (.int .i64 (t : Int)) rfl (fun w => quoI .i64 _ _ _ _ _ _ _ rfl rfl rfl (by decide) (by rw [Int.tdiv_eq_ediv_of_nonneg g1, IntKind.wrap_i64]; omega) w) ?_
      simp only [Act.put, List.setIfInBounds_toArray, List.set_cons_zero, List.set_cons_succ]
      refine pureL (.int .u32 ((t : Int) % 4294967296)) rfl (fun w => convI .i64 .u32 _ _ _ _ _ rfl (by kernel_rfl) Tryd.underlying22 (by kernel_rfl) rfl (IntKind.wrap_u32' _) w) ?_
      simp only [Act.put, List.setIfInBounds_toArray, List.set_cons_zero, List.set_cons_succ]
      refine pureL (.int .u32 C) rfl (fun w => addI .u32 _ _ _ _ _ _ _ rfl rfl rfl (by rw [IntKind.wrap_u32', ← hC]; omega) w) ?_
      simp only [Act.put, List.setIfInBounds_toArray, List.set_cons_zero, List.set_cons_succ]
      refine rowKL .u8 12 n (w.heap.size + 1) 0 30 _ _ rfl rfl rfl Tryd.underlying30 rfl (hn_info _) (K.get _ _ _ _ List.mem_cons_self).range ?_
      simp only [Act.put, List.setIfInBounds_toArray, List.set_cons_zero, List.set_cons_succ]
      refine callL rfl (fun _ => by kernel_rfl) (refBlock_any k C n hk hn _) ?_
      rintro e w2 ⟨rfl, l⟩
      replace O := O.below l
      replace K := K.call l
      clear l hC
      refine ⟨_, rfl, ?_⟩
      simp only [Act.put, List.setIfInBounds_toArray, List.set_cons_zero, List.set_cons_succ]
      refine allocL #[.int .u8 0, .int .u8 0, .int .u8 0, .int .u8 0, .int .u8 0, .int .u8 0, .int .u8 0, .int .u8 0, .int .u8 0, .int .u8 0, .int .u8 0, .int .u8 0, .int .u8 0, .int .u8 0, .int .u8 0, .int .u8 0, .int .u8 0, .int .u8 0, .int .u8 0, .int .u8 0, .int .u8 0, .int .u8 0, .int .u8 0, .int .u8 0, .int .u8 0, .int .u8 0, .int .u8 0, .int .u8 0, .int .u8 0, .int .u8 0, .int .u8 0, .int .u8 0, .int .u8 0, .int .u8 0, .int .u8 0, .int .u8 0, .int .u8 0, .int .u8 0, .int .u8 0, .int .u8 0, .int .u8 0, .int .u8 0, .int .u8 0, .int .u8 0, .int .u8 0, .int .u8 0, .int .u8 0, .int .u8 0, .int .u8 0, .int .u8 0, .int .u8 0, .int .u8 0, .int .u8 0, .int .u8 0, .int .u8 0, .int .u8 0, .int .u8 0, .int .u8 0, .int .u8 0, .int .u8 0, .int .u8 0, .int .u8 0, .int .u8 0, .int .u8 0] 31 rfl (fun _ => by kernel_rfl) ?_
      simp only [Act.put, List.setIfInBounds_toArray, List.set_cons_zero, List.set_cons_succ]
      refine storesL .u8 64 (hblk k C n) w2.heap.size 31 _ _ rfl rfl rfl rfl (room_of (hb_zero _ _ _ rfl).there) (hb_info' _) ?_
      simp only [Act.put]
      have z2 := K.size
      have hOl : u9.ownBlock ≠ some w2.heap.size := fun e => by have := (World.ownsRow.lt O _ e).2; omega
      have hbl : Below w2.heap.size w2 ((w2.alloc (.cells #[.int .u8 0, .int .u8 0, .int .u8 0, .int .u8 0, .int .u8 0, .int .u8 0, .int .u8 0, .int .u8 0, .int .u8 0, .int .u8 0, .int .u8 0, .int .u8 0, .int .u8 0, .int .u8 0, .int .u8 0, .int .u8 0, .int .u8 0, .int .u8 0, .int .u8 0, .int .u8 0, .int .u8 0, .int .u8 0, .int .u8 0, .int .u8 0, .int .u8 0, .int .u8 0, .int .u8 0, .int .u8 0, .int .u8 0, .int .u8 0, .int .u8 0, .int .u8 0, .int .u8 0, .int .u8 0, .int .u8 0, .int .u8 0, .int .u8 0, .int .u8 0, .int .u8 0, .int .u8 0, .int .u8 0, .int .u8 0, .int .u8 0, .int .u8 0, .int .u8 0, .int .u8 0, .int .u8 0, .int .u8 0, .int .u8 0, .int .u8 0, .int .u8 0, .int .u8 0, .int .u8 0, .int .u8 0, .int .u8 0, .int .u8 0, .int .u8 0, .int .u8 0, .int .u8 0, .int .u8 0, .int .u8 0, .int .u8 0, .int .u8 0, .int .u8 0] 31)).setCells w2.heap.size 0 (row .u8 64 (hblk k C n))) := below_setAll ((Below.refl w2.heap.size w2).alloc (Nat.le_refl _) _) _ (Nat.le_refl _) 0 _
      have K2 := K.fresh .u8 64 (hblk k C n) #[.int .u8 0, .int .u8 0, .int .u8 0, .int .u8 0, .int .u8 0, .int .u8 0, .int .u8 0, .int .u8 0, .int .u8 0, .int .u8 0, .int .u8 0, .int .u8 0, .int .u8 0, .int .u8 0, .int .u8 0, .int .u8 0, .int .u8 0, .int .u8 0, .int .u8 0, .int .u8 0, .int .u8 0, .int .u8 0, .int .u8 0, .int .u8 0, .int .u8 0, .int .u8 0, .int .u8 0, .int .u8 0, .int .u8 0, .int .u8 0, .int .u8 0, .int .u8 0, .int .u8 0, .int .u8 0, .int .u8 0, .int .u8 0, .int .u8 0, .int .u8 0, .int .u8 0, .int .u8 0, .int .u8 0, .int .u8 0, .int .u8 0, .int .u8 0, .int .u8 0, .int .u8 0, .int .u8 0, .int .u8 0, .int .u8 0, .int .u8 0, .int .u8 0, .int .u8 0, .int .u8 0, .int .u8 0, .int .u8 0, .int .u8 0, .int .u8 0, .int .u8 0, .int .u8 0, .int .u8 0, .int .u8 0, .int .u8 0, .int .u8 0, .int .u8 0] 31 (hb_zero _ _ _ rfl).there
      have O2 := O.below hbl
      clear K O hbl
      generalize ((w2.alloc (.cells #[.int .u8 0, .int .u8 0, .int .u8 0, .int .u8 0, .int .u8 0, .int .u8 0, .int .u8 0, .int .u8 0, .int .u8 0, .int .u8 0, .int .u8 0, .int .u8 0, .int .u8 0, .int .u8 0, .int .u8 0, .int .u8 0, .int .u8 0, .int .u8 0, .int .u8 0, .int .u8 0, .int .u8 0, .int .u8 0, .int .u8 0, .int .u8 0, .int .u8 0, .int .u8 0, .int .u8 0, .int .u8 0, .int .u8 0, .int .u8 0, .int .u8 0, .int .u8 0, .int .u8 0, .int .u8 0, .int .u8 0, .int .u8 0, .int .u8 0, .int .u8 0, .int .u8 0, .int .u8 0, .int .u8 0, .int .u8 0, .int .u8 0, .int .u8 0, .int .u8 0, .int .u8 0, .int .u8 0, .int .u8 0, .int .u8 0, .int .u8 0, .int .u8 0, .int .u8 0, .int .u8 0, .int .u8 0, .int .u8 0, .int .u8 0, .int .u8 0, .int .u8 0, .int .u8 0, .int .u8 0, .int .u8 0, .int .u8 0, .int .u8 0, .int .u8 0] 31)).setCells w2.heap.size 0 (row .u8 64 (hblk k C n))) = w3 at K2 O2 ⊢
      generalize w2.heap.size = D at *
      have HJ := HXD.mk K2 O2 hOl
      clear K2 O2 hOl
      show Exit.then _ _ _ _ _
      go_wp2
      go_loopw [9, 12] (fun s v w' => ∃ i : Nat, 64 * t ≤ i ∧ i ≤ min (64 * t + 64) len ∧ v = .int .i64 (i : Int) ∧ HXD k c n z C D w i s w') (fun _ v _ => len + 64 - (intOf v).toNat)
      case atStart => exact ⟨64 * t, by omega, by omega, by go_num, HJ⟩
      case round =>
        clear HJ
        obtain ⟨i, hi0, hi1, rfl, HJ⟩ := hrel
        have g3 : (0 : Int) ≤ (i : Int) := by omega
        by_cases hlt2 : i < min (64 * t + 64) len
        · have g4 : (i : Int) < (len : Int) := by omega
          have g5 : (i : Int) < 64 * (t : Int) + 64 := by omega
          have hil : i < len := by omega
          have hit : i - 64 * t < 64 := by omega
          obtain ⟨ad, rfl, ca⟩ := hs i hil
          go_upto_region 9 with fail
          have hv : bits .xor .u8 (z i) (hblk k C n (i - 64 * t)) = hxor k c n z i := by
            unfold hxor
            rw [show i / 64 = t by omega, show i % 64 = i - 64 * t by omega, HC.out]
          have K := HJ.K
          have O := HJ.own
          have N := HJ.ne
          clear HJ
          refine wp_region_held_drew (S := fun w' => Kr w (D + 1) [(D, .u8, 64, hblk k C n), (w.heap.size + 1, .u8, 12, n), (w.heap.size, .u8, 32, k)] [] w') (by kernel_rfl) K.drew ?_
          clear K
          intro K
          replace O := O.drew
          generalize wr.drew = w4 at K O ⊢
          refine pureH (i := 0) (some 41) rfl u9 rfl rfl (fun _ => by kernel_rfl) (by kernel_rfl) (by kernel_rfl) (by kernel_rfl) (fun _ _ _ h => h) K ?_
          simp only [Act.put, List.setIfInBounds_toArray, List.set_cons_zero, List.set_cons_succ]
          refine pureH (i := 1) (some 42) rfl (.slice (some ad) len cap) rfl rfl (fun _ => by kernel_rfl) (by kernel_rfl) (by kernel_rfl) (by kernel_rfl) (fun _ _ _ h => h) K ?_
          simp only [Act.put, List.setIfInBounds_toArray, List.set_cons_zero, List.set_cons_succ]
          refine pureH (i := 2) (some 43) rfl (.int .i64 (i : Int)) rfl rfl (fun _ => by kernel_rfl) (by kernel_rfl) (by kernel_rfl) (by kernel_rfl) (fun _ _ _ h => h) K ?_
          simp only [Act.put, List.setIfInBounds_toArray, List.set_cons_zero, List.set_cons_succ]
          refine pureH (i := 3) (some 44) rfl (.pointer (some (ad.add i))) rfl rfl (fun w => idxSl 36 5 len cap .i64 ad i _ _ Tryd.underlying36 (fun _ => by kernel_rfl) hil rfl rfl rfl w) (by kernel_rfl) (by kernel_rfl) (by kernel_rfl) (fun _ _ _ h => h) K ?_
          simp only [Act.put, List.setIfInBounds_toArray, List.set_cons_zero, List.set_cons_succ]
          refine cellPH (i := 4) (some 45) rfl .u8 (.int .u8 (z i)) (ad.add i) 5 _ rfl rfl rfl rfl (by kernel_rfl) (by kernel_rfl) (by kernel_rfl) (fun _ _ _ h => h) Tryd.underlying5 K (fun w' h => by rw [h.below.cell (World.block_lt_of_cell? w _ ca)]; exact ca) ?_
          simp only [Act.put, List.setIfInBounds_toArray, List.set_cons_zero, List.set_cons_succ]
          refine pureH (i := 5) (some 46) rfl (.int .i64 (i : Int)) rfl rfl (fun _ => by kernel_rfl) (by kernel_rfl) (by kernel_rfl) (by kernel_rfl) (fun _ _ _ h => h) K ?_
          simp only [Act.put, List.setIfInBounds_toArray, List.set_cons_zero, List.set_cons_succ]
          refine pureH (i := 6) (some 47) rfl (.int .i64 (64 * (t : Int))) rfl rfl (fun _ => by kernel_rfl) (by kernel_rfl) (by kernel_rfl) (by kernel_rfl) (fun _ _ _ h => h) K ?_
          simp only [Act.put, List.setIfInBounds_toArray, List.set_cons_zero, List.set_cons_succ]
          refine pureH (i := 7) (some 48) rfl (.int .i64 ((i - 64 * t : Nat) : Int)) rfl rfl (fun w => subI .i64 (i : Int) (64 * (t : Int)) _ _ _ _ _ rfl rfl rfl (by rw [IntKind.wrap_i64]; omega) w) (by kernel_rfl) (by kernel_rfl) (by kernel_rfl) (fun _ _ _ h => h) K ?_
          simp only [Act.put, List.setIfInBounds_toArray, List.set_cons_zero, List.set_cons_succ]
          refine pureH (i := 8) (some 49) rfl (.pointer (some ⟨D, i - 64 * t, none⟩)) rfl rfl (fun w => idx64 D (i - 64 * t) hit w _ _ rfl rfl rfl) (by kernel_rfl) (by kernel_rfl) (by kernel_rfl) (fun _ _ _ h => h) K ?_
          simp only [Act.put, List.setIfInBounds_toArray, List.set_cons_zero, List.set_cons_succ]
          refine cellH (i := 9) (some 50) rfl .u8 (.int .u8 (hblk k C n (i - 64 * t))) D (i - 64 * t) 5 _ rfl rfl rfl rfl (by kernel_rfl) (by kernel_rfl) (by kernel_rfl) (fun _ _ _ h => h) Tryd.underlying5 K (fun _ h => (h.get _ _ _ _ List.mem_cons_self).cell (i - 64 * t) hit) ?_
          simp only [Act.put, List.setIfInBounds_toArray, List.set_cons_zero, List.set_cons_succ]
          refine pureH (i := 10) (some 51) rfl (.int .u8 (hxor k c n z i)) rfl rfl (fun w => xorI .u8 _ _ _ _ _ _ _ rfl rfl rfl hv w) (by kernel_rfl) (by kernel_rfl) (by kernel_rfl) (fun _ _ _ h => h) K ?_
          simp only [Act.put, List.setIfInBounds_toArray, List.set_cons_zero, List.set_cons_succ]
          refine actH (i := 11) (w' := w4.alloc (.cells #[.int .u8 (hxor k c n z i)] 5)) (some 52) rfl (.slice (some ⟨w4.heap.size, 0, none⟩) 1 1) (by kernel_rfl) rfl rfl (by kernel_rfl) (K.call ((Below.refl w4.heap.size w4).alloc (Nat.le_refl _) _)) ?_
          simp only [Act.put, List.setIfInBounds_toArray, List.set_cons_zero, List.set_cons_succ]
          obtain ⟨v, w5, hr, HJ⟩ := (HXD.mk K O N).more z2 (by omega) _ rfl 36
          clear K O N
          have K := HJ.K
          refine actH (i := 12) (some 53) rfl v (by kernel_rfl) rfl rfl (appendOp _ _ 36 _ _ _ rfl rfl rfl hr) K ?_
          simp only [Act.put, List.setIfInBounds_toArray, List.set_cons_zero, List.set_cons_succ]
          refine pureH (i := 13) (some 9) rfl v rfl rfl (fun _ => by kernel_rfl) (by kernel_rfl) (by kernel_rfl) (by kernel_rfl) (fun _ _ _ h => h) K ?_
          simp only [Act.put, List.setIfInBounds_toArray, List.set_cons_zero, List.set_cons_succ]
          refine wpAnyH_done (by kernel_rfl) ?_ _
          have HS := show Hid _ from HJ
          clear K HJ hr hv ca hs
          go_wp2
          go_roundw
          case rel => first | exact ⟨i + 1, by omega, by omega, by go_num, HS.out⟩ | ((repeat apply Exists.intro); refine ⟨⟨i + 1, by omega, by omega, ?_, HS.out⟩, rfl⟩ <;> first | rfl | go_num)
          case measure => simp [intOf]; omega
        · have K0 := HJ.K.back [(w.heap.size + 1, .u8, 12, n), (w.heap.size, .u8, 32, k)] (w.heap.size + 1 + 1) (fun p hp => List.mem_cons_of_mem _ hp) (fun p hp => by
            rcases List.mem_cons.1 hp with rfl | hp
            · simp only; omega
            · obtain rfl := List.mem_singleton.1 hp; simp only; omega) (fun q hq => by cases hq) (by omega) (by omega)
          obtain ⟨hi2, hi3⟩ : i = min (64 * (t + 1)) len ∧ (i = len ∨ i = 64 * t + 64) := by omega
          have O := HJ.own
          have HS := show Hid _ from (show HXI k c n z w (min (64 * (t + 1)) len) u9 wr from ⟨K0, by rw [← hi2]; exact O⟩)
          clear K0 O HJ HC hs hi2 hlt2
          have g5 : (len : Int) ≤ (i : Int) ∨ (i : Int) = 64 * (t : Int) + 64 := by omega
          rcases Nat.lt_or_ge i len with h | h
          · have g6 : (i : Int) < (len : Int) := by omega
            have g7 : ¬ (i : Int) < 64 * (t : Int) + 64 := by omega
            clear g5 hi3
            go_wp2
            go_roundw
            case rel => first | exact ⟨t + 1, by omega, by go_num, HS.out⟩ | ((repeat apply Exists.intro); refine ⟨⟨t + 1, by omega, ?_, HS.out⟩, rfl⟩ <;> first | rfl | go_num)
            case measure => simp [intOf]; omega
          · have g6 : ¬ (i : Int) < (len : Int) := by omega
            clear g5 hi3
            go_wp2
            go_roundw
            case rel => first | exact ⟨t + 1, by omega, by go_num, HS.out⟩ | ((repeat apply Exists.intro); refine ⟨⟨t + 1, by omega, ?_, HS.out⟩, rfl⟩ <;> first | rfl | go_num)
            case measure => simp [intOf]; omega
    · have g2 : ¬ 64 * (t : Int) < (len : Int) := by omega
      have O := HI.own
      rw [show min (64 * t) len = len by omega] at O
      have hbl := HI.K.below
      obtain ⟨sp', cap', rfl, hno, hsr⟩ := O.isSlice
      have HS := show Hid _ from hsr
      clear HI O hsr
      go_wp2
      go_ret
      exact ⟨sp', ⟨cap', rfl⟩, ⟨hno, HS.out⟩, hbl⟩
end Go.Proofs.YtldebgblkaaojaaDoor
