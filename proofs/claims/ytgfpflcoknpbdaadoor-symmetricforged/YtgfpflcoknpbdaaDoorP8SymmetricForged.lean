/- Texts of Iy Nw Iz Bg Ye, joined. -/
import Derived.Test.YtgfpflcoknpbdaaDoorP1SymmetricForged
import Derived.Test.YtgfpflcoknpbdaaDoorP6SymmetricForged
import Derived.Test.YtgfpflcoknpbdaaDoorP7SymmetricForged
import Derived.Test.YtgfpflcoknpbdaaDoorP5SymmetricForged
import Derived.Test.YtgfpflcoknpbdaaDoorProg
set_option maxRecDepth 20000
set_option maxHeartbeats 64000000
namespace Go.Proofs.YtgfpflcoknpbdaaDoor
open Go.RowKit
theorem byt_dig (x : Nat) : ∀ j, j < 8 → byt (x : Int) j = dig x j
  | 0, _ => by show (x : Int) % 256 = ((x / 1 % 256 : Nat) : Int); omega
  | 1, _ => by show (x : Int) / 256 % 256 = ((x / 256 % 256 : Nat) : Int); omega
  | 2, _ => by show (x : Int) / 65536 % 256 = ((x / 65536 % 256 : Nat) : Int); omega
  | 3, _ => by show (x : Int) / 16777216 % 256 = ((x / 16777216 % 256 : Nat) : Int); omega
  | 4, _ => by show (x : Int) / 4294967296 % 256 = ((x / 4294967296 % 256 : Nat) : Int); omega
  | 5, _ => by show (x : Int) / 1099511627776 % 256 = ((x / 1099511627776 % 256 : Nat) : Int); omega
  | 6, _ => by show (x : Int) / 281474976710656 % 256 = ((x / 281474976710656 % 256 : Nat) : Int); omega
  | 7, _ => by show (x : Int) / 72057594037927936 % 256 = ((x / 72057594037927936 % 256 : Nat) : Int); omega
  | _ + 8, h => by omega
theorem cat3 (bl : Nat) (b : Nat → Int) (sl : Nat) (s : Nat → Int) (j : Nat) : catz (pk3 (up16 bl) (up16 sl) 16) (pk3 (padz bl b) (padz sl s) (app (dig bl) 8 (dig sl))) 3 j = amx bl b sl s j := by
  show app (app (app (fun _ => 0) 0 (padz bl b)) (0 + up16 bl) (padz sl s)) (0 + up16 bl + up16 sl) (app (dig bl) 8 (dig sl)) j = _
  unfold amx
  generalize up16 bl = x
  generalize up16 sl = y
  simp only [app, Nat.zero_add, Nat.not_lt_zero, if_false, Nat.sub_zero]
  by_cases h1 : j < x + y
  · rw [if_pos h1, if_pos (show j < x + y + 8 by omega), if_pos h1]
  · rw [if_neg h1]
    by_cases h2 : j < x + y + 8
    · rw [if_pos (by omega), if_pos h2, if_neg h1]
    · rw [if_neg (by omega), if_neg h2, show j - (x + y) - 8 = j - (x + y + 8) by omega]
theorem once_any (k n : Nat → Int) (hk : In 256 32 k) (hn : In 256 12 n) (w : World) (hg : HGlob w) :
    Calls Tryd.prog 34 #[(.agg (row .u8 32 (k)).toArray), (.agg (row .u8 12 (n)).toArray)] w fun e w' => e = .returned (.agg (row .u8 32 (hblk k 0 n)).toArray) ∧ Below w.heap.size w w' := by
  have K := Kr.init w
  replace K := K.box .u8 32 k 36 (w.heap.size) rfl
  replace K := K.box .u8 12 n 52 (w.heap.size + 1) (by simp)
  replace K := K.make 32 zu8_32 36 (w.heap.size + 1 + 1) (by simp) (key_zero _ _ _ (by simp)).there
  go_enter Tryd.func34, Tryd.ntmps34
  go_upto_region 1 with fail
  generalize (((w.alloc (.cells (row .u8 32 k).toArray 36)).alloc (.cells (row .u8 12 n).toArray 52)).alloc (.cells zu8_32 36)) = w0 at K ⊢
  refine wp_region_list ?_
  refine rowKL .u8 32 (k) (w.heap.size) 0 36 _ _ rfl rfl rfl Tryd.underlying36 rfl (key_info _) ((K.get _ _ _ _ (mT _ mS)).range) ?_
  simp only [aP, lI, l0, lS]
  refine rowKL .u8 12 (n) (w.heap.size + 1) 0 52 _ _ rfl rfl rfl Tryd.underlying52 rfl (hn_info _) ((K.get _ _ _ _ mS).range) ?_
  simp only [aP, lI, l0, lS]
  refine callL rfl (fun _ => by kernel_rfl) (hblock_any k 0 n hk hn _ (hg.below K.below hg.size)) ?_
  rintro e w1 ⟨rfl, l⟩
  replace K := K.call l
  clear l
  refine ⟨_, rfl, ?_⟩
  simp only [aP, lI, l0, lS]
  refine allocL zu8_64 70 rfl (fun _ => by kernel_rfl) ?_
  simp only [aP, lI, l0, lS]
  refine storesL .u8 64 (hblk k 0 n) w1.heap.size 70 _ _ rfl rfl rfl rfl (room_of (hb_zero _ _ _ rfl).there) (hb_info' _) ?_
  simp only [Act.put]
  have zX := K.size
  replace K := K.fresh .u8 64 (hblk k 0 n) zu8_64 70 (hb_zero _ _ _ rfl).there
  generalize ((w1.alloc (.cells zu8_64 70)).setCells w1.heap.size 0 (row .u8 64 (hblk k 0 n))) = w2 at K ⊢
  generalize w1.heap.size = X at *
  show Exit.then _ _ _ _ _
  go_upto_region 2 with fail
  refine wp_region_list ?_
  refine pureL (.slice (some ⟨X, 0, none⟩) 32 64) rfl (fun _ => by kernel_rfl) ?_
  simp only [aP, lI, l0, lS]
  refine pureL (.pointer (some ⟨X, 0, none⟩)) rfl (fun _ => by kernel_rfl) ?_
  simp only [aP, lI, l0, lS]
  refine rowKL .u8 32 (hblk k 0 n) X 0 36 _ _ rfl rfl rfl Tryd.underlying36 rfl (key_info _) ((K.get _ _ _ _ mS).head 32 (by decide)) ?_
  simp only [aP, lI, l0, lS]
  have hz' := (K.room _ mS).1
  refine storesL .u8 32 (hblk k 0 n) (w.heap.size + 1 + 1) 36 _ _ rfl rfl rfl rfl (room_of hz') (key_info' _) ?_
  simp only [Act.put]
  have hB := (K.fill _ _ mS (row .u8 32 (hblk k 0 n))).below
  clear K
  generalize hGe : hblk k 0 n = G at *
  show Exit.then _ _ _ _ _
  go_wp2
  exact bodyPost_ret (v := (.agg (row .u8 32 (G)).toArray)) (results_row Tryd.results34 rfl (Has.all hz' .u8 G).range Tryd.underlying36 rfl (key_info G)) rfl ⟨by first | rfl | rw [hGe] | (rw [← hGe]; done), hB⟩
theorem filled_any (sp : Option Addr) (len cap : Nat) (hlen : len ≤ 140737488351232) (hcap : len ≤ cap) (z : Nat → Int) (w : World) (hs : Src w sp len z) :
    Calls Tryd.prog 35 #[.slice sp len cap] w fun e w' => ∃ sp' cap', e = .returned (.slice sp' (up16 len) cap') ∧ (up16 len ≤ cap' ∧ (sp' = none → cap' = 0) ∧ Src w' sp' (up16 len) (padz len z)) ∧ Below w.heap.size w w' := by
  have hu : up16 len = len + (16 - len % 16) % 16 := by unfold up16; omega
  obtain ⟨q, hq1, hq2⟩ := cut_full (P := Tryd.prog) (t := 27) (by kernel_rfl) (fun _ => by kernel_rfl) sp len cap hcap
  obtain ⟨p, c, w1, hr, hc, hp, hB, hn⟩ := run_append_full (P := Tryd.prog) (w := w) (ty := 27) Tryd.underlying27 Tryd.underlying3 one8 q len z (hq2 w z hs) ((16 - len % 16) % 16) (by omega) (by omega)
  rw [hu]
  go_enter Tryd.func35, Tryd.ntmps35
  go_upto_region 1 with fail
  refine wp_region_list ?_
  refine pureL (.slice sp len cap) rfl (fun _ => by kernel_rfl) ?_
  simp only [aP, lI, l0, lS]
  refine pureL (.slice sp len cap) rfl (fun _ => by kernel_rfl) ?_
  simp only [aP, lI, l0, lS]
  refine pureL (.int .i64 (len : Int)) rfl (fun w => lenS _ 27 5 (sp) (len) (cap) rfl Tryd.underlying27 rfl w) ?_
  simp only [aP, lI, l0, lS]
  refine pureL (.slice sp len cap) rfl (fun _ => by kernel_rfl) ?_
  simp only [aP, lI, l0, lS]
  refine pureL (.int .i64 (len : Int)) rfl (fun w => lenS _ 27 5 (sp) (len) (cap) rfl Tryd.underlying27 rfl w) ?_
  simp only [aP, lI, l0, lS]
  refine pureL (.slice q len len) rfl (fun w => cutHMop _ _ _ _ _ _ _ _ rfl rfl rfl rfl (hq1 w)) ?_
  simp only [aP, lI, l0, lS]
  refine pureL (.slice sp len cap) rfl (fun _ => by kernel_rfl) ?_
  simp only [aP, lI, l0, lS]
  refine pureL (.int .i64 (len : Int)) rfl (fun w => lenS _ 27 5 (sp) (len) (cap) rfl Tryd.underlying27 rfl w) ?_
  simp only [aP, lI, l0, lS]
  refine pureL (.int .i64 ((len % 16 : Nat) : Int)) rfl (fun w => remI .i64 _ _ _ _ _ _ _ rfl rfl rfl (by decide) (by rw [Int.tmod_eq_emod_of_nonneg (by omega)]; omega) w) ?_
  simp only [aP, lI, l0, lS]
  refine pureL (.int .i64 ((16 - len % 16 : Nat) : Int)) rfl (fun w => subI .i64 _ _ _ _ _ _ _ rfl rfl rfl (by rw [IntKind.wrap_i64]; omega) w) ?_
  simp only [aP, lI, l0, lS]
  refine pureL (.int .i64 (((16 - len % 16) % 16 : Nat) : Int)) rfl (fun w => remI .i64 _ _ _ _ _ _ _ rfl rfl rfl (by decide) (by rw [Int.tmod_eq_emod_of_nonneg (by omega)]; omega) w) ?_
  simp only [aP, lI, l0, lS]
  refine actL (.slice p (len + (16 - len % 16) % 16) c) rfl (appendNOp _ _ 27 3 _ _ _ rfl rfl rfl hr) ?_
  simp only [aP, lI, l0, lS]
  refine pureL (.slice p (len + (16 - len % 16) % 16) c) rfl (fun _ => by kernel_rfl) ?_
  simp only [aP, lI, l0, lS]
  show Exit.then _ _ _ _ _
  clear hr hq1 hq2 hu
  go_wp2
  go_ret
  exact ⟨p, c, rfl, ⟨hc, hn, hp⟩, hB⟩
theorem tagOf_any (k n : Nat → Int) (hk : In 256 32 k) (hn : In 256 12 n) (bp : Option Addr) (bl bc : Nat) (hbl : bl ≤ 140737488351232) (hbc : bl ≤ bc) (b : Nat → Int) (hb : In 256 bl b) (sp : Option Addr) (len cap : Nat) (hlen : len ≤ 140737488351232) (hcap : len ≤ cap) (z : Nat → Int) (hz : In 256 len z) (w : World) (hg : AGlob w) (hsb : Src w bp bl b) (hs : Src w sp len z) :
    Calls Tryd.prog 26 #[(.agg (row .u8 32 (k)).toArray), (.agg (row .u8 12 (n)).toArray), .slice bp bl bc, .slice sp len cap] w fun e w' => e = .returned (.agg (row .u8 16 (atag k n bl b len z)).toArray) ∧ Below w.heap.size w w' := by
  have K := Kr.init w
  replace K := K.box .u8 32 k 36 (w.heap.size) rfl
  replace K := K.box .u8 12 n 52 (w.heap.size + 1) (by simp)
  replace K := K.make 16 zu8_16 42 (w.heap.size + 1 + 1) (by simp) (tag_zero _ _ _ (by simp)).there
  replace K := K.boxO .u8 16 (fun _ => 0) (.cells zu8_16 41) (w.heap.size + 1 + 1 + 1) (by simp) (tag_zero _ _ _ (by simp))
  go_enter Tryd.func26, Tryd.ntmps26
  go_upto_region 2 with fail
  generalize ((((w.alloc (.cells (row .u8 32 k).toArray 36)).alloc (.cells (row .u8 12 n).toArray 52)).alloc (.cells zu8_16 42)).alloc (.cells zu8_16 41)) = w0 at K ⊢
  refine wp_region_list ?_
  refine pureL (.slice (some ⟨w.heap.size + 1 + 1 + 1, 0, none⟩) 16 16) rfl (fun _ => by kernel_rfl) ?_
  simp only [aP, lI, l0, lS]
  refine pureL (.slice bp bl bc) rfl (fun _ => by kernel_rfl) ?_
  simp only [aP, lI, l0, lS]
  refine pureL (.int .i64 (bl : Int)) rfl (fun w => lenS _ 27 5 (bp) (bl) (bc) rfl Tryd.underlying27 rfl w) ?_
  simp only [aP, lI, l0, lS]
  refine pureL (.int .u64 (bl : Int)) rfl (fun w => convI .i64 .u64 _ _ _ _ _ rfl (by kernel_rfl) Tryd.underlying45 (by kernel_rfl) rfl (by rw [IntKind.wrap_u64]; omega) w) ?_
  simp only [aP, lI, l0, lS]
  refine callL rfl (fun _ => by kernel_rfl) (put16_any (w.heap.size + 1 + 1 + 1) 0 16 16 _ (bl : Int) (by decide) _ (K.get _ _ _ _ mS)) ?_
  rintro e w1 ⟨rfl, rfl⟩
  replace K := K.part [(w.heap.size + 1, .u8, 12, n), (w.heap.size, .u8, 32, k)] (w.heap.size + 1 + 1 + 1) .u8 16 _ 0 8 (by decide) (byt (bl : Int)) mS (fun p hp => by rcases List.mem_cons.1 hp with rfl | hp; exact (mT _ mS); obtain rfl := List.mem_singleton.1 hp; exact (mT _ (mT _ mS))) (fun p hp => by rcases List.mem_cons.1 hp with rfl | hp; simp only; omega; obtain rfl := List.mem_singleton.1 hp; simp only; omega) (by omega)
  generalize w0.setCells (w.heap.size + 1 + 1 + 1) 0 (row .u8 8 (byt (bl : Int))) = w1 at K ⊢
  refine ⟨_, rfl, ?_⟩
  simp only [aP, lI, l0, lS]
  show Exit.then _ _ _ _ _
  go_upto_region 3 with fail
  refine wp_region_list ?_
  refine pureL (.slice (some ⟨w.heap.size + 1 + 1 + 1, 8, none⟩) 8 8) rfl (fun _ => by kernel_rfl) ?_
  simp only [aP, lI, l0, lS]
  refine pureL (.slice sp len cap) rfl (fun _ => by kernel_rfl) ?_
  simp only [aP, lI, l0, lS]
  refine pureL (.int .i64 (len : Int)) rfl (fun w => lenS _ 27 5 (sp) (len) (cap) rfl Tryd.underlying27 rfl w) ?_
  simp only [aP, lI, l0, lS]
  refine pureL (.int .u64 (len : Int)) rfl (fun w => convI .i64 .u64 _ _ _ _ _ rfl (by kernel_rfl) Tryd.underlying45 (by kernel_rfl) rfl (by rw [IntKind.wrap_u64]; omega) w) ?_
  simp only [aP, lI, l0, lS]
  refine callL rfl (fun _ => by kernel_rfl) (put_any (w.heap.size + 1 + 1 + 1) 8 16 8 _ (len : Int) (by decide) _ (K.get _ _ _ _ mS)) ?_
  rintro e w2 ⟨rfl, rfl⟩
  replace K := K.part [(w.heap.size + 1, .u8, 12, n), (w.heap.size, .u8, 32, k)] (w.heap.size + 1 + 1 + 1) .u8 16 _ 8 8 (by decide) (byt (len : Int)) mS (fun p hp => by rcases List.mem_cons.1 hp with rfl | hp; exact (mT _ mS); obtain rfl := List.mem_singleton.1 hp; exact (mT _ (mT _ mS))) (fun p hp => by rcases List.mem_cons.1 hp with rfl | hp; simp only; omega; obtain rfl := List.mem_singleton.1 hp; simp only; omega) (by omega)
  generalize w1.setCells (w.heap.size + 1 + 1 + 1) 8 (row .u8 8 (byt (len : Int))) = w2 at K ⊢
  replace K := K.headC (app (dig bl) 8 (dig len)) (fun j hj => by
    unfold over app
    by_cases e : j < 8
    · rw [if_neg (by omega), if_pos (by omega), if_pos e, Nat.sub_zero]; exact byt_dig bl j e
    · rw [if_pos (by omega), if_neg e]; exact byt_dig len (j - 8) (by omega))
  refine ⟨_, rfl, ?_⟩
  simp only [aP, lI, l0, lS]
  show Exit.then _ _ _ _ _
  go_upto_region 4 with fail
  refine wp_region_held_drew (S := fun w' => Kr w (w.heap.size + 1 + 1 + 1 + 1) [(w.heap.size + 1 + 1 + 1, .u8, 16, (app (dig bl) 8 (dig len))), (w.heap.size + 1, .u8, 12, n), (w.heap.size, .u8, 32, k)] [(w.heap.size + 1 + 1, 16)] w') (by kernel_rfl) K.drew ?_
  clear K
  intro K
  refine rowKH (i := 0) (some 20) rfl .u8 32 (k) (w.heap.size) 0 36 _ _ rfl rfl rfl rfl (by kernel_rfl) (by kernel_rfl) (by kernel_rfl) (fun _ _ _ h => h) Tryd.underlying36 rfl (key_info _) K (fun _ h => (h.get _ _ _ _ (mT _ (mT _ mS))).range) ?_
  simp only [aP, lI, l0, lS]
  refine rowKH (i := 1) (some 21) rfl .u8 12 (n) (w.heap.size + 1) 0 52 _ _ rfl rfl rfl rfl (by kernel_rfl) (by kernel_rfl) (by kernel_rfl) (fun _ _ _ h => h) Tryd.underlying52 rfl (hn_info _) K (fun _ h => (h.get _ _ _ _ (mT _ mS)).range) ?_
  simp only [aP, lI, l0, lS]
  refine pureHg (i := 3) (some 23) rfl (.slice bp bl bc) rfl rfl (fun _ => by kernel_rfl) K ?_
  simp only [aP, lI, l0, lS]
  refine pureHg (i := 5) (some 25) rfl (.slice sp len cap) rfl rfl (fun _ => by kernel_rfl) K ?_
  simp only [aP, lI, l0, lS]
  refine pureHg (i := 7) (some 27) rfl (.slice (some ⟨w.heap.size + 1 + 1 + 1, 0, none⟩) 16 16) rfl rfl (fun _ => by kernel_rfl) K ?_
  simp only [aP, lI, l0, lS]
  refine callH (i := 2) (some 22) rfl (by kernel_rfl) rfl rfl (fun _ => by kernel_rfl) (once_any k n hk hn _ (hg.h.below K.below hg.size)) ?_
  rintro e w3 ⟨rfl, l⟩
  replace K := K.call l
  clear l
  refine ⟨_, rfl, K, ?_⟩
  simp only [aP, lI, l0, lS]
  refine callH (i := 4) (some 24) rfl (by kernel_rfl) rfl rfl (fun _ => by kernel_rfl) (filled_any bp bl bc hbl hbc b _ (hsb.below K.below (Nat.le_refl _))) ?_
  rintro e w4 ⟨p1, c1, rfl, ⟨_, n1, S1⟩, l⟩
  replace K := K.call l
  clear l
  refine ⟨_, rfl, K, ?_⟩
  simp only [aP, lI, l0, lS]
  refine callH (i := 6) (some 26) rfl (by kernel_rfl) rfl rfl (fun _ => by kernel_rfl) (filled_any sp len cap hlen hcap z _ (hs.below K.below (Nat.le_refl _))) ?_
  rintro e w5 ⟨p2, c2, rfl, ⟨_, n2, S2⟩, l⟩
  replace K := K.call l
  replace S1 := S1.below l (Nat.le_refl _)
  clear l
  refine ⟨_, rfl, K, ?_⟩
  simp only [aP, lI, l0, lS]
  have HC := catIn3 w5.heap.size p1 p2 (some ⟨w.heap.size + 1 + 1 + 1, 0, none⟩) (up16 bl) (up16 len) 16 c1 c2 16 (padz bl b) (padz len z) (app (dig bl) 8 (dig len)) 27 rfl S1 S2 (K.get _ _ _ _ mS).src0 n1 n2 (fun e => by cases e)
  replace K := K.call ((Below.refl w5.heap.size w5).alloc (Nat.le_refl _) (.cells #[.slice p1 (up16 bl) c1, .slice p2 (up16 len) c2, .slice (some ⟨w.heap.size + 1 + 1 + 1, 0, none⟩) 16 16] 27))
  refine actH (i := 8) (w' := w5.alloc (.cells #[.slice p1 (up16 bl) c1, .slice p2 (up16 len) c2, .slice (some ⟨w.heap.size + 1 + 1 + 1, 0, none⟩) 16 16] 27)) (some 28) rfl (.slice (some ⟨w5.heap.size, 0, none⟩) 3 3) (by kernel_rfl) rfl rfl (by kernel_rfl) K ?_
  simp only [aP, lI, l0, lS]
  generalize (w5.alloc (.cells #[.slice p1 (up16 bl) c1, .slice p2 (up16 len) c2, .slice (some ⟨w.heap.size + 1 + 1 + 1, 0, none⟩) 16 16] 27)) = w6 at K HC ⊢
  generalize w5.heap.size = C at HC ⊢
  clear S1 S2
  have u1 : up16 bl ≤ 140737488351232 := by unfold up16; omega
  have u2 : up16 len ≤ 140737488351232 := by unfold up16; omega
  refine callH (i := 9) (some 29) rfl (by kernel_rfl) rfl rfl (fun _ => by kernel_rfl) (concat_any ⟨C, 0, none⟩ 3 3 _ _ _ _ (by decide) (by rw [tot3]; omega) _ HC) ?_
  rintro e w7 ⟨v, rfl, O, l⟩
  replace K := K.call l
  clear l HC
  rw [tot3] at O
  replace O := O.congr (fun j _ => cat3 bl b len z j)
  obtain ⟨p3, c3, rfl, hc3, S3⟩ := O.bytes
  refine ⟨_, rfl, K, ?_⟩
  simp only [aP, lI, l0, lS]
  have hA : up16 bl + up16 len + 16 = amt bl len := by unfold amt; omega
  rw [hA] at hc3 S3 ⊢
  have hA2 : amt bl len ≤ 281474976710656 := by omega
  clear O hA u1 u2
  refine callH (i := 10) (some 30) rfl (by kernel_rfl) rfl rfl (fun _ => by kernel_rfl) (psum_any (hblk k 0 n) (hblk_in k 0 n 32) p3 (amt bl len) c3 hA2 hc3 _ (amx_in bl b len z hb hz) _ (hg.c.below K.below hg.size) S3) ?_
  rintro e w8 ⟨f, rfl, ⟨hf1, hf2⟩, l⟩
  replace K := K.call l
  clear l S3
  rw [row_congr .u8 16 (tag_is hf1 hf2)]
  clear hf1 hf2
  refine ⟨_, rfl, K, ?_⟩
  simp only [aP, lI, l0, lS]
  have hz' := (K.room _ mS).1
  refine storesH (i := 11) none rfl .u8 16 (atag k n bl b len z) (w.heap.size + 1 + 1) 42 _ _ (by kernel_rfl) rfl rfl rfl rfl rfl (room_of hz') (tag_info' _) (K.fill _ _ mS _) ?_
  simp only [Act.put]
  refine wpAnyH_done (by kernel_rfl) ?_ _
  have hB := (K.fill _ _ mS (row .u8 16 (atag k n bl b len z))).below
  clear K
  generalize hGe : atag k n bl b len z = G at *
  go_wp2
  exact bodyPost_ret (v := (.agg (row .u8 16 (G)).toArray)) (results_row Tryd.results26 rfl (Has.all hz' .u8 G).range Tryd.underlying42 rfl (tag_info G)) rfl ⟨by first | rfl | rw [hGe] | (rw [← hGe]; done), hB⟩
def NewF (w : World) (base n : Nat) (f : Nat → Int) (v : Value) : Prop := ∃ sp cap, v = .slice sp n cap ∧ n ≤ cap ∧ (sp = none → cap = 0) ∧ Src w sp n f ∧ ∀ a, sp = some a → base ≤ a.block ∧ a.block < w.heap.size
theorem NewF.nil (w : World) (base : Nat) (f : Nat → Int) : NewF w base 0 f (.slice none 0 0) := ⟨none, 0, rfl, Nat.le_refl _, fun _ => rfl, fun j hj => absurd hj (Nat.not_lt_zero j), fun _ h => by cases h⟩
theorem NewF.src {w : World} {base n : Nat} {f : Nat → Int} {sp : Option Addr} {cap : Nat} (h : NewF w base n f (.slice sp n cap)) : Src w sp n f := by
  obtain ⟨sp', cap', hv, _, _, hs, _⟩ := h
  injection hv with h1 _ _
  subst h1
  exact hs
theorem NewF.of_own {w : World} {base n : Nat} {f : Nat → Int} {v : Value} (h : Own w base 5 .u8 n f v) : NewF w base n f v := by
  obtain ⟨sp, cap, rfl, hc, hs⟩ := h.bytes
  exact ⟨sp, cap, rfl, hc, h.nilCap, hs, fun a e => by subst e; exact World.ownsRow.lt h a.block rfl⟩
theorem NewF.at {w : World} {base n : Nat} {f : Nat → Int} {sp : Option Addr} {cap : Nat} (h : NewF w base n f (.slice sp n cap)) : ∀ a, sp = some a → base ≤ a.block ∧ a.block < w.heap.size := by
  obtain ⟨sp', cap', hv, _, _, _, ha⟩ := h
  injection hv with h1 _ _
  subst h1
  exact ha
theorem NewF.congr {w : World} {base n : Nat} {f g : Nat → Int} {v : Value} (h : NewF w base n f v) (he : ∀ j, j < n → f j = g j) : NewF w base n g v := by
  obtain ⟨sp, cap, hv, hc, hn, hs, ha⟩ := h
  exact ⟨sp, cap, hv, hc, hn, fun j hj => by rw [← he j hj]; exact hs j hj, ha⟩
def NewL (w : World) (base : Nat) (l : List Int) (v : Value) : Prop := NewF w base l.length (bl l) v
theorem NewF.off {w w' : World} {base n : Nat} {f : Nat → Int} {v : Value} {X : List Nat} (h : NewF w base n f v) (o : Off X w w') (hX : ∀ b ∈ X, b < base) : NewF w' base n f v := by
  obtain ⟨sp, cap, hv, hc, hn, hs, ha⟩ := h
  have hsz := o.size
  refine ⟨sp, cap, hv, hc, hn, fun j hj => ?_, fun a e => ⟨(ha a e).1, by have := (ha a e).2; omega⟩⟩
  obtain ⟨p, hp, hcell⟩ := hs j hj
  exact ⟨p, hp, o.cell hcell (by rw [add_block]; exact fun hm => by have := hX _ hm; have := (ha p hp).1; omega)⟩
theorem NewF.below {w w' : World} {base n : Nat} {f : Nat → Int} {v : Value} (h : NewF w base n f v) (l : Below w.heap.size w w') : NewF w' base n f v := h.off (X := []) (Off.of_below l) (fun _ hb => by cases hb)
theorem NewF.lower {w : World} {base base' n : Nat} {f : Nat → Int} {v : Value} (h : NewF w base n f v) (hb : base' ≤ base) : NewF w base' n f v := by
  obtain ⟨sp, cap, hv, hc, hn, hs, ha⟩ := h
  exact ⟨sp, cap, hv, hc, hn, hs, fun a e => ⟨Nat.le_trans hb (ha a e).1, (ha a e).2⟩⟩
theorem NewF.srcA {w : World} {base n : Nat} {f : Nat → Int} {sp : Option Addr} {cap : Nat} {X : List Nat} (h : NewF w base n f (.slice sp n cap)) (hX : ∀ b ∈ X, b < base) : SrcA X w sp n f := by
  obtain ⟨sp', cap', hv, _, _, hs, ha⟩ := h
  injection hv with h1 _ _
  subst h1
  exact ⟨hs, fun a e _ hm => by have := hX _ hm; have := (ha a e).1; omega⟩
theorem loadArr {P : Program} {o : Oper} {a : Act} {w : World} (ty : TypeId) (x : Operand) (ad : Addr) (n : Nat) (f : Nat → Int) (d : TypeDesc) (ho : o.op = .load ty x) (hx : a.eval x = .pointer (some ad)) (hu : P.underlying ty = some d) (hd : d.isRow = true) (hz : (P.info? ty).map (·.size) = some n) (hs : Src w (some ad) n f) :
    (execOp a.eval o).run P w = .ok (.value (.agg (row .u8 n f).toArray)) w := by
  have hl : (loadCells ad n).run P w = .ok (row .u8 n f).toArray w := by
    have := run_loadCells_list (P := P) w ad (row .u8 n f) (fun j v hv => by
      obtain ⟨hj, rfl⟩ := row_get_some hv
      obtain ⟨ad', he, hc⟩ := hs j hj
      injection he with he
      subst he
      exact hc)
    rw [row_length] at this
    exact this
  have e : (loadVar ty ad).run P w = .ok (.agg (row .u8 n f).toArray) w := by
    cases hq : P.info? ty with
    | none => simp [hq] at hz
    | some i =>
      have hs' : i.size = n := by simpa [hq] using hz
      have hagg : (isAgg ty).run P w = .ok true w := by
        unfold isAgg
        rw [Sem.run_bind, run_underlying hu w]
        cases d <;> simp_all
      simp [loadVar, Sem.run_bind, hagg, sizeOf, typeInfo, hq, hs', hl]
  unfold execOp
  simp only [ho, hx, Instr.loadAt, Instr.sureAddr, Sem.run_bind, Sem.run_pure, Result.andThen_ok, e]
theorem run_copy_mid {P : Program} {o : Oper} {a : Act} {w : World} (d s : Operand) (dT sT elem : TypeId) (ho : o.op = .call { callee := .builtin .copy, args := #[d, s], argTypes := #[dT, sT] }) (hu : P.underlying dT = some (.slice elem)) (hsz : (P.info? elem).map (·.size) = some 1)
    (b o' dCap m n sCap : Nat) (f z : Nat → Int) (ad : Addr) (hd : a.eval d = .slice (some ⟨b, o', none⟩) m dCap) (hs : a.eval s = .slice (some ad) m sCap) (hb : Has w b .u8 n f) (hm : o' + m ≤ n) (hc : Src w (some ad) m z) :
    (execOp a.eval o).run P w = .ok (.value (.int .i64 (m : Int))) (w.setCells b o' (row .u8 m z)) := by
  have hrun := run_copy_cells (P := P) w dT sT o.type elem b o' m dCap ad m sCap (row .u8 m z) hu hsz (by rw [row_length]; exact (Nat.min_self m).symm) (fun j v hv => by
    obtain ⟨hj, rfl⟩ := row_get_some hv
    obtain ⟨ad', he, hc'⟩ := hc j hj
    injection he with he
    subst he
    exact hc') (fun j hj => by rw [row_length] at hj; rw [hb.cell (o' + j) (by omega)]; rfl) (fun j hj => by rw [row_length] at hj; exact hb.free (o' + j) (by omega)) (row_one .u8 m z)
  rw [row_length] at hrun
  simp [execOp, ho, resolve, invoke, builtin, hd, hs, hrun, Result.andThen, goInt]
theorem icut (g n c : Nat) (hn : n + 16 ≤ c) (w : World) : (Instr.sliceAt 27 (.slice (some ⟨g, 0, none⟩) (n + 16) c) (some (.int .i64 (n : Int))) none none).run Tryd.prog w = .ok (.slice (some ⟨g, n, none⟩) 16 (c - n)) w := by
  rw [run_sliceAt_slice w 27 _ _ _ _ (by kernel_rfl), run_slice_l w 27 _ (n + 16) c (by kernel_rfl) .i64 (n : Int) (by omega) (by omega), show (sizeOf (Tryd.prog.elem 27)).run Tryd.prog w = .ok 1 w by kernel_rfl]
  have h1 : ¬ c = n := by omega
  simp [Result.andThen, sliced, Addr.add_mid, h1]
theorem aseal_any : ASealOK := by
  intro k n hk hn bp bl bc hbl hbc hbn b hb sp len cap hlen hcap hsn z hz w hg hsb hs
  have K := Kr.init w
  replace K := K.box .u8 32 k 36 (w.heap.size) rfl
  replace K := K.box .u8 12 n 52 (w.heap.size + 1) (by simp)
  go_enter Tryd.func20, Tryd.ntmps20
  go_upto_region 1 with fail
  generalize ((w.alloc (.cells (row .u8 32 k).toArray 36)).alloc (.cells (row .u8 12 n).toArray 52)) = w0 at K ⊢
  refine wp_region_list ?_
  refine rowKL .u8 32 (k) (w.heap.size) 0 36 _ _ rfl rfl rfl Tryd.underlying36 rfl (key_info _) ((K.get _ _ _ _ (mT _ mS)).range) ?_
  simp only [aP, lI, l0, lS]
  refine rowKL .u8 12 (n) (w.heap.size + 1) 0 52 _ _ rfl rfl rfl Tryd.underlying52 rfl (hn_info _) ((K.get _ _ _ _ mS).range) ?_
  simp only [aP, lI, l0, lS]
  refine pureL (.slice sp len cap) rfl (fun _ => by kernel_rfl) ?_
  simp only [aP, lI, l0, lS]
  refine callL rfl (fun _ => by kernel_rfl) (hxor_any k 1 n hk hn (by decide) sp len cap (by omega) z _ (hg.h.below K.below hg.size) (hs.below K.below (Nat.le_refl _))) ?_
  rintro e w1 ⟨X, rfl, ⟨hX1, hX2, HX⟩, l⟩
  have zX := K.size
  replace K := (K.call l).own (by omega) hX2 HX
  clear l HX
  refine ⟨_, rfl, ?_⟩
  simp only [aP, lI, l0, lS]
  refine pureL (.slice (some ⟨X, 0, none⟩) len len) rfl (fun _ => by kernel_rfl) ?_
  simp only [aP, lI, l0, lS]
  generalize w1.heap.size = m1 at K hX2
  show Exit.then _ _ _ _ _
  go_upto_region 2 with fail
  refine wp_region_list ?_
  refine rowKL .u8 32 (k) (w.heap.size) 0 36 _ _ rfl rfl rfl Tryd.underlying36 rfl (key_info _) ((K.get _ _ _ _ (mT _ (mT _ mS))).range) ?_
  simp only [aP, lI, l0, lS]
  refine rowKL .u8 12 (n) (w.heap.size + 1) 0 52 _ _ rfl rfl rfl Tryd.underlying52 rfl (hn_info _) ((K.get _ _ _ _ (mT _ mS)).range) ?_
  simp only [aP, lI, l0, lS]
  refine pureL (.slice bp bl bc) rfl (fun _ => by kernel_rfl) ?_
  simp only [aP, lI, l0, lS]
  refine pureL (.slice (some ⟨X, 0, none⟩) len len) rfl (fun _ => by kernel_rfl) ?_
  simp only [aP, lI, l0, lS]
  refine callL rfl (fun _ => by kernel_rfl) (tagOf_any k n hk hn bp bl bc hbl hbc b hb (some ⟨X, 0, none⟩) len len hlen (Nat.le_refl _) (hxor k 1 n z) (hxor_in k 1 n z len hz) _ (hg.below K.below hg.size) (hsb.below K.below (Nat.le_refl _)) (K.get _ _ _ _ mS).src0) ?_
  rintro e w2 ⟨rfl, l⟩
  replace K := K.call l
  clear l
  refine ⟨_, rfl, ?_⟩
  simp only [aP, lI, l0, lS]
  refine allocL zu8_16 42 rfl (fun _ => by kernel_rfl) ?_
  simp only [aP, lI, l0, lS]
  refine storesL .u8 16 (atag k n bl b len (hxor k 1 n z)) w2.heap.size 42 _ _ rfl rfl rfl rfl (room_of (tag_zero _ _ _ rfl).there) (tag_info' _) ?_
  simp only [Act.put]
  have zT := K.size
  replace K := K.fresh .u8 16 (atag k n bl b len (hxor k 1 n z)) zu8_16 42 (tag_zero _ _ _ rfl).there
  generalize ((w2.alloc (.cells zu8_16 42)).setCells w2.heap.size 0 (row .u8 16 (atag k n bl b len (hxor k 1 n z)))) = w3 at K ⊢
  generalize w2.heap.size = T at *
  show Exit.then _ _ _ _ _
  go_upto_region 3 with fail
  refine wp_region_list ?_
  refine pureL (.slice (some ⟨X, 0, none⟩) len len) rfl (fun _ => by kernel_rfl) ?_
  simp only [aP, lI, l0, lS]
  refine pureL (.int .i64 (len : Int)) rfl (fun w => lenS _ 27 5 (some ⟨X, 0, none⟩) (len) (len) rfl Tryd.underlying27 rfl w) ?_
  simp only [aP, lI, l0, lS]
  refine pureL (.int .i64 ((len + 16 : Nat) : Int)) rfl (fun w => addI .i64 _ _ _ _ _ _ _ rfl rfl rfl (by rw [IntKind.wrap_i64]; omega) w) ?_
  simp only [aP, lI, l0, lS]
  refine actL (w' := w3.alloc (.cells (row .u8 (len + 16) (fun _ => 0)).toArray 5)) (.slice (some ⟨w3.heap.size, 0, none⟩) (len + 16) (len + 16)) rfl (makeOp 27 _ _ _ _ _ rfl rfl rfl (made8 (len + 16) (by omega) w3)) ?_
  simp only [aP, lI, l0, lS]
  have zY := K.size
  replace K := K.box .u8 (len + 16) (fun _ => 0) 5 w3.heap.size rfl
  generalize w3.alloc (.cells (row .u8 (len + 16) (fun _ => 0)).toArray 5) = w4 at K ⊢
  generalize w3.heap.size = Y at *
  refine pureL (.slice (some ⟨Y, 0, none⟩) (len + 16) (len + 16)) rfl (fun _ => by kernel_rfl) ?_
  simp only [aP, lI, l0, lS]
  show Exit.then _ _ _ _ _
  go_upto_region 4 with fail
  refine wp_region_list ?_
  refine pureL (.slice (some ⟨Y, 0, none⟩) (len + 16) (len + 16)) rfl (fun _ => by kernel_rfl) ?_
  simp only [aP, lI, l0, lS]
  refine pureL (.slice (some ⟨X, 0, none⟩) len len) rfl (fun _ => by kernel_rfl) ?_
  simp only [aP, lI, l0, lS]
  refine actL (.int .i64 (len : Int)) rfl (run_copy_src _ _ 27 27 5 rfl Tryd.underlying27 (by kernel_rfl) Y (len + 16) (len + 16) len len (len + 16) (some ⟨X, 0, none⟩) (hxor k 1 n z) rfl rfl (by omega) (by omega) (K.get _ _ _ _ mS).there (K.get _ _ _ _ (mT _ (mT _ mS))).src0) ?_
  simp only [aP, lI, l0, lS]
  replace K := K.part [(T, .u8, 16, atag k n bl b len (hxor k 1 n z)), (X, .u8, len, hxor k 1 n z)] Y .u8 (len + 16) _ 0 len (by omega) (hxor k 1 n z) mS (fun p hp => by rcases List.mem_cons.1 hp with rfl | hp; exact (mT _ mS); obtain rfl := List.mem_singleton.1 hp; exact (mT _ (mT _ mS))) (fun p hp => by rcases List.mem_cons.1 hp with rfl | hp; simp only; omega; obtain rfl := List.mem_singleton.1 hp; simp only; omega) (by omega)
  generalize w4.setCells Y 0 (row .u8 len (hxor k 1 n z)) = w5 at K ⊢
  show Exit.then _ _ _ _ _
  go_upto_region 5 with fail
  have HY := K.get _ _ _ _ mS
  replace K := K.loose [(T, .u8, 16, atag k n bl b len (hxor k 1 n z)), (X, .u8, len, hxor k 1 n z)] Y .u8 (len + 16) _ mS (fun p hp => mT _ hp) (fun p hp => by rcases List.mem_cons.1 hp with rfl | hp; simp only; omega; obtain rfl := List.mem_singleton.1 hp; simp only; omega) (by omega)
  refine wp_region_held_drew (S := fun w' => Kr w (Y + 1) [(T, .u8, 16, atag k n bl b len (hxor k 1 n z)), (X, .u8, len, hxor k 1 n z)] [(Y, len + 16)] w') (by kernel_rfl) K.drew ?_
  clear K
  intro K
  replace HY := HY.drew
  generalize w5.drew = w6 at K HY ⊢
  refine pureHg (i := 0) (some 28) rfl (.slice (some ⟨Y, 0, none⟩) (len + 16) (len + 16)) rfl rfl (fun _ => by kernel_rfl) K ?_
  simp only [aP, lI, l0, lS]
  refine pureHg (i := 1) (some 29) rfl (.slice (some ⟨X, 0, none⟩) len len) rfl rfl (fun _ => by kernel_rfl) K ?_
  simp only [aP, lI, l0, lS]
  refine pureHg (i := 2) (some 30) rfl (.int .i64 (len : Int)) rfl rfl (fun w => lenS _ 27 5 (some ⟨X, 0, none⟩) (len) (len) rfl Tryd.underlying27 rfl w) K ?_
  simp only [aP, lI, l0, lS]
  refine pureHg (i := 3) (some 31) rfl (.slice (some ⟨Y, len, none⟩) 16 (len + 16 - len)) rfl rfl (fun w => cutOp _ _ _ _ _ _ rfl rfl rfl (icut Y len (len + 16) (Nat.le_refl _) w)) K ?_
  simp only [aP, lI, l0, lS]
  refine pureHg (i := 4) (some 32) rfl (.slice (some ⟨T, 0, none⟩) 16 16) rfl rfl (fun _ => by kernel_rfl) K ?_
  simp only [aP, lI, l0, lS]
  refine actH (i := 5) (some 33) rfl (.int .i64 ((16 : Nat) : Int)) (by kernel_rfl) rfl rfl (run_copy_mid _ _ 27 27 5 rfl Tryd.underlying27 (by kernel_rfl) Y len (len + 16 - len) 16 (len + 16) 16 _ (atag k n bl b len (hxor k 1 n z)) ⟨T, 0, none⟩ rfl rfl HY (by omega) (K.get _ _ _ _ mS).src0) (K.poke Y (len + 16) mS len _) ?_
  simp only [aP, lI, l0, lS]
  refine wpAnyH_done (by kernel_rfl) ?_ _
  have hY := (HY.part len 16 (by omega) (atag k n bl b len (hxor k 1 n z))).congr (g := aout k n bl b len z) (fun j hj => by
    unfold aout app over
    by_cases e : j < len
    · rw [if_neg (by omega), if_pos (by omega), if_pos e, Nat.sub_zero]
    · rw [if_pos (by omega), if_neg e])
  have hB := (K.poke Y (len + 16) mS len (row .u8 16 (atag k n bl b len (hxor k 1 n z)))).below
  have hs6 := K.size
  clear K HY
  generalize hw7 : w6.setCells Y len (row .u8 16 (atag k n bl b len (hxor k 1 n z))) = w7 at hY hB ⊢
  have hs7 : Y < w7.heap.size := by rw [← hw7, size_setAll]; omega
  clear hw7 hs6
  have hYl : w.heap.size ≤ Y := by omega
  go_wp2
  go_ret
  exact ⟨Y, len + 16, rfl, ⟨Nat.le_refl _, hYl, hs7, hY⟩, hB⟩
theorem aopen_short (k n : Nat → Int) (bp : Option Addr) (bl bc : Nat) (sp : Option Addr) (len cap : Nat) (hl : len < 16) (w : World) :
    Calls Tryd.prog 18 #[(.agg (row .u8 32 (k)).toArray), (.agg (row .u8 12 (n)).toArray), .slice bp bl bc, .slice sp len cap] w fun e w' => e = .returned (.tuple #[.slice none 0 0, .int .i64 3]) ∧ Below w.heap.size w w' := by
  have g1 : (len : Int) < 16 := by omega
  have K := Kr.init w
  replace K := K.box .u8 32 k 36 (w.heap.size) rfl
  replace K := K.box .u8 12 n 52 (w.heap.size + 1) (by simp)
  go_enter Tryd.func18, Tryd.ntmps18
  go_upto_region 1 with fail
  generalize ((w.alloc (.cells (row .u8 32 k).toArray 36)).alloc (.cells (row .u8 12 n).toArray 52)) = w0 at K ⊢
  have hB := K.below
  clear K
  go_wp2
  go_ret2
  exact ⟨rfl, hB⟩
theorem NewF.of_has {w : World} {base n c B : Nat} {f : Nat → Int} (h : Has w B .u8 n f) (hc : n ≤ c) (h1 : base ≤ B) (h2 : B < w.heap.size) : NewF w base n f (.slice (some ⟨B, 0, none⟩) n c) := ⟨_, c, rfl, hc, fun e => (by cases e), h.src0, fun a e => by cases e; exact ⟨h1, h2⟩⟩
theorem aopen_long (k n : Nat → Int) (hk : In 256 32 k) (hn : In 256 12 n) (bp : Option Addr) (bl bc : Nat) (hbl : bl ≤ 140737488351232) (hbc : bl ≤ bc) (b : Nat → Int) (hb : In 256 bl b) (sp : Option Addr) (len cap : Nat) (hlen : len ≤ 140737488351248) (hcap : len ≤ cap) (hl : 16 ≤ len) (z : Nat → Int) (hz : In 256 len z) (w : World) (hg : AGlob w) (hsb : Src w bp bl b) (hs : Src w sp len z) :
    Calls Tryd.prog 18 #[(.agg (row .u8 32 (k)).toArray), (.agg (row .u8 12 (n)).toArray), .slice bp bl bc, .slice sp len cap] w fun e w' => (∃ v, e = .returned (.tuple #[v, .int .i64 (aoE k n bl b len z)]) ∧ NewF w' w.heap.size (aoL k n bl b len z) (hxor k 1 n z) v) ∧ Below w.heap.size w w' := by
  have g1 : ¬ (len : Int) < 16 := by omega
  have hz1 : In 256 (len - 16) z := fun j hj => hz j (by omega)
  have hz2 : In 256 16 (fun j => z (len - 16 + j)) := fun j hj => hz _ (by omega)
  obtain ⟨q, hq1, hq2⟩ := cut_hi (P := Tryd.prog) (t := 27) (by kernel_rfl) (fun _ => by kernel_rfl) sp len cap (len - 16) (by omega) hcap
  obtain ⟨q', hr1, hr2⟩ := cut_lo (P := Tryd.prog) (t := 27) (by kernel_rfl) (fun _ => by kernel_rfl) sp len cap (len - 16) (by omega) hcap
  rw [show len - (len - 16) = 16 by omega] at hr1 hr2
  obtain ⟨ad, rfl, _⟩ := hr2 w z hs 0 (by decide)
  have hcq : len - 16 ≤ cap := by omega
  have K := Kr.init w
  replace K := K.box .u8 32 k 36 (w.heap.size) rfl
  replace K := K.box .u8 12 n 52 (w.heap.size + 1) (by simp)
  go_enter Tryd.func18, Tryd.ntmps18
  go_upto_region 1 with fail
  generalize ((w.alloc (.cells (row .u8 32 k).toArray 36)).alloc (.cells (row .u8 12 n).toArray 52)) = w0 at K ⊢
  go_upto_region 3 with fail
  clear g1
  refine wp_region_list ?_
  refine pureL (.slice sp len cap) rfl (fun _ => by kernel_rfl) ?_
  simp only [aP, lI, l0, lS]
  refine pureL (.int .i64 (len : Int)) rfl (fun w => lenS _ 27 5 (sp) (len) (cap) rfl Tryd.underlying27 rfl w) ?_
  simp only [aP, lI, l0, lS]
  refine pureL (.int .i64 ((len - 16 : Nat) : Int)) rfl (fun w => subI .i64 _ _ _ _ _ _ _ rfl rfl rfl (by rw [IntKind.wrap_i64]; omega) w) ?_
  simp only [aP, lI, l0, lS]
  refine pureL (.int .i64 ((len - 16 : Nat) : Int)) rfl (fun _ => by kernel_rfl) ?_
  simp only [aP, lI, l0, lS]
  show Exit.then _ _ _ _ _
  go_upto_region 4 with fail
  have zX := K.size
  refine wp_region_held_drew (S := fun w' => Kr w (w.heap.size + 1 + 1) [(w.heap.size + 1, .u8, 12, n), (w.heap.size, .u8, 32, k)] [] w') (by kernel_rfl) K.drew ?_
  clear K
  intro K
  refine pureHg (i := 0) (some 19) rfl (.slice sp len cap) rfl rfl (fun _ => by kernel_rfl) K ?_
  simp only [aP, lI, l0, lS]
  refine pureHg (i := 1) (some 20) rfl (.int .i64 ((len - 16 : Nat) : Int)) rfl rfl (fun _ => by kernel_rfl) K ?_
  simp only [aP, lI, l0, lS]
  refine pureHg (i := 2) (some 21) rfl (.slice q (len - 16) cap) rfl rfl (fun w => cutHi _ _ _ _ _ _ rfl rfl rfl (hq1 w)) K ?_
  simp only [aP, lI, l0, lS]
  refine pureHg (i := 3) (some 22) rfl (.slice sp len cap) rfl rfl (fun _ => by kernel_rfl) K ?_
  simp only [aP, lI, l0, lS]
  refine pureHg (i := 4) (some 23) rfl (.int .i64 ((len - 16 : Nat) : Int)) rfl rfl (fun _ => by kernel_rfl) K ?_
  simp only [aP, lI, l0, lS]
  refine pureHg (i := 5) (some 24) rfl (.slice (some ad) 16 (cap - (len - 16))) rfl rfl (fun w => cutOp _ _ _ _ _ _ rfl rfl rfl (hr1 w)) K ?_
  simp only [aP, lI, l0, lS]
  refine pureHg (i := 6) (some 25) rfl (.pointer (some ad)) rfl rfl (fun _ => by kernel_rfl) K ?_
  simp only [aP, lI, l0, lS]
  refine readHg (i := 7) (some 26) rfl (.agg (row .u8 16 ((fun j => z (len - 16 + j)))).toArray) rfl rfl (fun w' h => loadArr 42 _ ad 16 (fun j => z (len - 16 + j)) _ rfl rfl Tryd.underlying42 rfl (by kernel_rfl) (hr2 w' z (hs.below h.below (Nat.le_refl _)))) K ?_
  simp only [aP, lI, l0, lS]
  generalize w0.drew = w1 at K ⊢
  refine actH (i := 8) (w' := w1.alloc (.cells zu8_16 42)) (some 12) rfl (.pointer (some ⟨w1.heap.size, 0, none⟩)) (by kernel_rfl) rfl rfl (by kernel_rfl) (K.call ((Below.refl w1.heap.size w1).alloc (Nat.le_refl _) _)) ?_
  simp only [aP, lI, l0, lS]
  refine pureHg (i := 9) (some 11) rfl (.slice q (len - 16) cap) rfl rfl (fun _ => by kernel_rfl) (K.call ((Below.refl w1.heap.size w1).alloc (Nat.le_refl _) _)) ?_
  simp only [aP, lI, l0, lS]
  have KF := K.fresh .u8 16 (fun j => z (len - 16 + j)) zu8_16 42 (tag_zero _ _ _ rfl).there
  have zT := K.size
  refine storesH (i := 10) none rfl .u8 16 (fun j => z (len - 16 + j)) w1.heap.size 42 _ _ (by kernel_rfl) rfl rfl rfl rfl rfl (room_of (tag_zero _ _ _ rfl).there) (tag_info' _) (KF.sub _ (fun p hp => mT _ hp) |>.back _ _ (fun _ hp => hp) (fun p hp => by rcases List.mem_cons.1 hp with rfl | hp; simp only; omega; obtain rfl := List.mem_singleton.1 hp; simp only; omega) (fun _ hq => by cases hq) (by omega) (by omega)) ?_
  simp only [Act.put]
  refine wpAnyH_done (by kernel_rfl) ?_ _
  clear K
  generalize ((w1.alloc (.cells zu8_16 42)).setCells w1.heap.size 0 (row .u8 16 (fun j => z (len - 16 + j)))) = w2 at KF ⊢
  generalize w1.heap.size = T at *
  go_upto_region 5 with fail
  refine wp_region_held_drew (S := fun w' => Kr w (T + 1) [(T, .u8, 16, (fun j => z (len - 16 + j))), (w.heap.size + 1, .u8, 12, n), (w.heap.size, .u8, 32, k)] [] w') (by kernel_rfl) KF.drew ?_
  clear KF
  intro K
  refine rowKH (i := 0) (some 27) rfl .u8 16 ((fun j => z (len - 16 + j))) (T) 0 42 _ _ rfl rfl rfl rfl (by kernel_rfl) (by kernel_rfl) (by kernel_rfl) (fun _ _ _ h => h) Tryd.underlying42 rfl (tag_info _) K (fun _ h => (h.get _ _ _ _ mS).range) ?_
  simp only [aP, lI, l0, lS]
  refine rowKH (i := 1) (some 28) rfl .u8 32 (k) (w.heap.size) 0 36 _ _ rfl rfl rfl rfl (by kernel_rfl) (by kernel_rfl) (by kernel_rfl) (fun _ _ _ h => h) Tryd.underlying36 rfl (key_info _) K (fun _ h => (h.get _ _ _ _ (mT _ (mT _ mS))).range) ?_
  simp only [aP, lI, l0, lS]
  refine rowKH (i := 2) (some 29) rfl .u8 12 (n) (w.heap.size + 1) 0 52 _ _ rfl rfl rfl rfl (by kernel_rfl) (by kernel_rfl) (by kernel_rfl) (fun _ _ _ h => h) Tryd.underlying52 rfl (hn_info _) K (fun _ h => (h.get _ _ _ _ (mT _ mS)).range) ?_
  simp only [aP, lI, l0, lS]
  refine pureHg (i := 3) (some 30) rfl (.slice bp bl bc) rfl rfl (fun _ => by kernel_rfl) K ?_
  simp only [aP, lI, l0, lS]
  refine pureHg (i := 4) (some 31) rfl (.slice q (len - 16) cap) rfl rfl (fun _ => by kernel_rfl) K ?_
  simp only [aP, lI, l0, lS]
  refine callH (i := 5) (some 32) rfl (by kernel_rfl) rfl rfl (fun _ => by kernel_rfl) (tagOf_any k n hk hn bp bl bc hbl hbc b hb q (len - 16) cap (by omega) hcq z hz1 _ (hg.below K.below hg.size) (hsb.below K.below (Nat.le_refl _)) (hq2 _ z (hs.below K.below (Nat.le_refl _)))) ?_
  rintro e w4 ⟨rfl, l⟩
  replace K := K.call l
  clear l
  refine ⟨_, rfl, K, ?_⟩
  simp only [aP, lI, l0, lS]
  refine callH (i := 6) (some 33) rfl (by kernel_rfl) rfl rfl (fun _ => by kernel_rfl) (psame_any (fun j => z (len - 16 + j)) (atag k n bl b (len - 16) z) hz2 (atag_in _ _ _ _ _ _ _) _ (hg.c.below K.below hg.size)) ?_
  rintro e w5 ⟨rfl, l⟩
  replace K := K.call l
  clear l
  refine ⟨_, rfl, K, ?_⟩
  simp only [aP, lI, l0, lS]
  by_cases hok : aok k n bl b len z
  · have hd : decide (val 256 (fun j => z (len - 16 + j)) 16 = val 256 (atag k n bl b (len - 16) z) 16) = true := decide_eq_true (by rw [atag_val]; exact hok.2.symm)
    rw [hd]
    have e1 : aoL k n bl b len z = len - 16 := by unfold aoL; rw [if_pos hok]
    have e2 : aoE k n bl b len z = 0 := by unfold aoE; rw [if_neg (by omega), if_pos hok]
    have HE := show Hid _ from And.intro e1 e2
    clear e1 e2
    refine pureHg (i := 7) (some 34) rfl (.bool false) rfl rfl (fun _ => by kernel_rfl) K ?_
    simp only [aP, lI, l0, lS]
    refine wpAnyH_done (by kernel_rfl) ?_ _
    clear hd hok
    go_upto_region 7 with fail
    refine wp_region_list ?_
    refine rowKL .u8 32 (k) (w.heap.size) 0 36 _ _ rfl rfl rfl Tryd.underlying36 rfl (key_info _) ((K.get _ _ _ _ (mT _ (mT _ mS))).range) ?_
    simp only [aP, lI, l0, lS]
    refine rowKL .u8 12 (n) (w.heap.size + 1) 0 52 _ _ rfl rfl rfl Tryd.underlying52 rfl (hn_info _) ((K.get _ _ _ _ (mT _ mS)).range) ?_
    simp only [aP, lI, l0, lS]
    refine pureL (.slice q (len - 16) cap) rfl (fun _ => by kernel_rfl) ?_
    simp only [aP, lI, l0, lS]
    refine callL rfl (fun _ => by kernel_rfl) (hxor_any k 1 n hk hn (by decide) q (len - 16) cap (by omega) z _ (hg.h.below K.below hg.size) (hq2 _ z (hs.below K.below (Nat.le_refl _)))) ?_
    rintro e w6 ⟨X, rfl, ⟨hX1, hX2, HX⟩, l⟩
    replace hX1 := Nat.le_trans K.below.size hX1
    replace K := K.call l
    clear l
    refine ⟨_, rfl, ?_⟩
    simp only [aP, lI, l0, lS]
    refine pureL (.slice (some ⟨X, 0, none⟩) (len - 16) (len - 16)) rfl (fun _ => by kernel_rfl) ?_
    simp only [aP, lI, l0, lS]
    refine pureL (.int .i64 0) rfl (fun _ => by kernel_rfl) ?_
    simp only [aP, lI, l0, lS]
    have hB := K.below
    clear K
    show Exit.then _ _ _ _ _
    go_wp2
    go_ret2
    exact ⟨⟨.slice (some ⟨X, 0, none⟩) (len - 16) (len - 16), by rw [HE.out.2]; rfl, by rw [HE.out.1]; exact NewF.of_has HX (Nat.le_refl _) hX1 hX2⟩, hB⟩
  · have hd : decide (val 256 (fun j => z (len - 16 + j)) 16 = val 256 (atag k n bl b (len - 16) z) 16) = false := decide_eq_false (by rw [atag_val]; exact fun h => hok ⟨hl, h.symm⟩)
    rw [hd]
    have e1 : aoL k n bl b len z = 0 := by unfold aoL; rw [if_neg hok]
    have e2 : aoE k n bl b len z = 70 := by unfold aoE; rw [if_neg (by omega), if_neg hok]
    have HE := show Hid _ from And.intro e1 e2
    clear e1 e2
    refine pureHg (i := 7) (some 34) rfl (.bool true) rfl rfl (fun _ => by kernel_rfl) K ?_
    simp only [aP, lI, l0, lS]
    refine wpAnyH_done (by kernel_rfl) ?_ _
    have hB := K.below
    clear hd hok K
    go_wp2
    go_ret2
    exact ⟨⟨.slice none 0 0, by rw [HE.out.2]; rfl, by rw [HE.out.1]; exact NewF.nil _ _ _⟩, hB⟩
theorem aopen_new (k n : Nat → Int) (hk : In 256 32 k) (hn : In 256 12 n) (bp : Option Addr) (bl bc : Nat) (hbl : bl ≤ 140737488351232) (hbc : bl ≤ bc) (b : Nat → Int) (hb : In 256 bl b) (sp : Option Addr) (len cap : Nat) (hlen : len ≤ 140737488351248) (hcap : len ≤ cap) (z : Nat → Int) (hz : In 256 len z) (w : World) (hg : AGlob w) (hsb : Src w bp bl b) (hs : Src w sp len z) :
    Calls Tryd.prog 18 #[(.agg (row .u8 32 (k)).toArray), (.agg (row .u8 12 (n)).toArray), .slice bp bl bc, .slice sp len cap] w fun e w' => (∃ v, e = .returned (.tuple #[v, .int .i64 (aoE k n bl b len z)]) ∧ NewF w' w.heap.size (aoL k n bl b len z) (hxor k 1 n z) v) ∧ Below w.heap.size w w' := by
  by_cases hl : len < 16
  · have e1 : aoL k n bl b len z = 0 := by unfold aoL; rw [if_neg (fun h => by have := h.1; omega)]
    have e2 : aoE k n bl b len z = 3 := by unfold aoE; rw [if_pos hl]
    rw [e1, e2]
    exact (aopen_short k n bp bl bc sp len cap hl w).mono fun e w' h => ⟨⟨_, h.1, NewF.nil _ _ _⟩, h.2⟩
  · exact aopen_long k n hk hn bp bl bc hbl hbc b hb sp len cap hlen hcap (by omega) z hz w hg hsb hs
def bplc (j : Nat) : Int := if j % 4 = 0 then (pA (j / 4) : Int) else if j % 4 = 1 then (pB (j / 4) : Int) else if j % 4 = 2 then (pC (j / 4) : Int) else (pD (j / 4) : Int)
structure BGlob (w : World) : Prop where
  first : ∀ j, j < 8 → w.cell? ⟨0, j, none⟩ = some (.int .u32 (iv j))
  order : ∀ j, j < 160 → w.cell? ⟨2, j, none⟩ = some (.int .u8 (sgL.getD j 0 : Nat))
  place : ∀ j, j < 32 → w.cell? ⟨1, j, none⟩ = some (.int .u8 (bplc j))
  size : 7 ≤ w.heap.size
theorem BGlob.below {w w' : World} (h : BGlob w) {B : Nat} (l : Below B w w') (hB : 7 ≤ B) : BGlob w' :=
  ⟨fun j hj => by rw [l.cell (p := ⟨0, j, none⟩) (Nat.lt_of_lt_of_le (show 0 < 7 by decide) hB)]; exact h.first j hj, fun j hj => by rw [l.cell (p := ⟨2, j, none⟩) (Nat.lt_of_lt_of_le (show 2 < 7 by decide) hB)]; exact h.order j hj, fun j hj => by rw [l.cell (p := ⟨1, j, none⟩) (Nat.lt_of_lt_of_le (show 1 < 7 by decide) hB)]; exact h.place j hj, Nat.le_trans h.size l.size⟩
theorem BGlob.four {w : World} (h : BGlob w) (k : Nat) (hk : k < 8) : w.cell? ⟨1, k * 4, none⟩ = some (.int .u8 (pA k)) ∧ w.cell? ⟨1, k * 4 + 1, none⟩ = some (.int .u8 (pB k)) ∧ w.cell? ⟨1, k * 4 + 2, none⟩ = some (.int .u8 (pC k)) ∧ w.cell? ⟨1, k * 4 + 3, none⟩ = some (.int .u8 (pD k)) := by
  have e1 : bplc (k * 4) = (pA k : Int) := by unfold bplc; rw [if_pos (by omega), show k * 4 / 4 = k by omega]
  have e2 : bplc (k * 4 + 1) = (pB k : Int) := by unfold bplc; rw [if_neg (by omega), if_pos (by omega), show (k * 4 + 1) / 4 = k by omega]
  have e3 : bplc (k * 4 + 2) = (pC k : Int) := by unfold bplc; rw [if_neg (by omega), if_neg (by omega), if_pos (by omega), show (k * 4 + 2) / 4 = k by omega]
  have e4 : bplc (k * 4 + 3) = (pD k : Int) := by unfold bplc; rw [if_neg (by omega), if_neg (by omega), if_neg (by omega), show (k * 4 + 3) / 4 = k by omega]
  rw [← e1, ← e2, ← e3, ← e4]
  exact ⟨h.place _ (by omega), h.place _ (by omega), h.place _ (by omega), h.place _ (by omega)⟩
theorem BGlob.sg {w : World} (h : BGlob w) (r i : Nat) (hr : r < 10) (hi : i < 16) : w.cell? ⟨2, r * 16 + i, none⟩ = some (.int .u8 (sg r i)) := by
  have e : (sgL.getD (r * 16 + i) 0 : Nat) = Go.Proofs.YtgfpflcoknpbdaaDoor.sg r i := by unfold Go.Proofs.YtgfpflcoknpbdaaDoor.sg; rw [Nat.mul_comm]
  rw [← e]
  exact h.order _ (by omega)
structure SGlob (w : World) : Prop where
  a : AGlob w
  b : BGlob w
theorem SGlob.size {w : World} (g : SGlob w) : 7 ≤ w.heap.size := g.b.size
theorem SGlob.below {w w' : World} (g : SGlob w) (l : Below w.heap.size w w') : SGlob w' := ⟨g.a.below l g.size, g.b.below l g.size⟩
theorem SGlob.mm {w w' : World} (g : SGlob w) {l : List (Nat × List Value)} (h : Mm w l w') : SGlob w' := g.below h.below
structure SymOK (pcs : Sym → List Value) : Prop where
  new : ∀ (w0 w : World) (l : List (Nat × List Value)), SGlob w0 → Mm w0 l w → Calls Tryd.prog 6 #[] w fun e w' => ∃ Q, e = .returned (.pointer (some ⟨Q, 0, none⟩)) ∧ w.heap.size ≤ Q ∧ Mm w0 ((Q, pcs snew) :: l) w' ∧ Below w.heap.size w w'
  hash : ∀ (w0 w : World) (R : Nat) (l : List (Nat × List Value)) (s : Sym), SGlob w0 → Mm w0 ((R, pcs s) :: l) w → Calls Tryd.prog 13 #[.pointer (some ⟨R, 0, none⟩)] w fun e w' => e = .returned (.agg (row .u8 32 (s.h)).toArray) ∧ Below w.heap.size w w'
  mix : ∀ (w0 w : World) (R : Nat) (l : List (Nat × List Value)) (s : Sym), SGlob w0 → SymW s → ∀ (sp : Option Addr) (cap : Nat) (b : List Int), b.length ≤ 140737488351248 → b.length ≤ cap → (sp = none → cap = 0) → Byts b → Mm w0 ((R, pcs s) :: l) w → SrcA [R] w sp b.length (bl b) → Calls Tryd.prog 8 #[.pointer (some ⟨R, 0, none⟩), .slice sp b.length cap] w fun e w' => e = .returned (.tuple #[]) ∧ Mm w0 ((R, pcs (smix s b)) :: l) w' ∧ Off [R] w w'
  key : ∀ (w0 w : World) (R : Nat) (l : List (Nat × List Value)) (s : Sym), SGlob w0 → SymW s → ∀ (sp : Option Addr) (cap : Nat) (b : List Int), b.length ≤ 140737488351232 → b.length ≤ cap → (sp = none → cap = 0) → Byts b → Mm w0 ((R, pcs s) :: l) w → SrcA [R] w sp b.length (bl b) → Calls Tryd.prog 9 #[.pointer (some ⟨R, 0, none⟩), .slice sp b.length cap] w fun e w' => e = .returned (.tuple #[]) ∧ Mm w0 ((R, pcs (skey s b)) :: l) w' ∧ Off [R] w w'
  sel : ∀ (w0 w : World) (R : Nat) (l : List (Nat × List Value)) (s : Sym), SGlob w0 → SymW s → s.n < 4611686018427387904 → ∀ (sp : Option Addr) (cap : Nat) (b : List Int), b.length ≤ 140737488351232 → b.length ≤ cap → (sp = none → cap = 0) → Byts b → Mm w0 ((R, pcs s) :: l) w → SrcA [R] w sp b.length (bl b) → Calls Tryd.prog 11 #[.pointer (some ⟨R, 0, none⟩), .slice sp b.length cap] w fun e w' => (∃ v, e = .returned v ∧ NewL w' w.heap.size (sout s b) v) ∧ Mm w0 ((R, pcs (sseal s b)) :: l) w' ∧ Off [R] w w'
  opn : ∀ (w0 w : World) (R : Nat) (l : List (Nat × List Value)) (s : Sym), SGlob w0 → SymW s → s.n < 4611686018427387904 → ∀ (sp : Option Addr) (cap : Nat) (b : List Int), b.length ≤ 140737488351248 → b.length ≤ cap → (sp = none → cap = 0) → Byts b → Mm w0 ((R, pcs s) :: l) w → SrcA [R] w sp b.length (bl b) → Calls Tryd.prog 10 #[.pointer (some ⟨R, 0, none⟩), .slice sp b.length cap] w fun e w' => (∃ v, e = .returned (.tuple #[v, .int .i64 (soE s b)]) ∧ NewL w' w.heap.size (soT s b) v) ∧ Mm w0 ((R, pcs (sopen s b)) :: l) w' ∧ Off [R] w w'
  split : ∀ (w0 w : World) (R : Nat) (l : List (Nat × List Value)) (s : Sym), SGlob w0 → SymW s → Mm w0 ((R, pcs s) :: l) w → Calls Tryd.prog 12 #[.pointer (some ⟨R, 0, none⟩)] w fun e w' => e = .returned (.tuple #[(.agg (row .u8 32 (kA s.c 0 (bl []))).toArray), (.agg (row .u8 32 (kB s.c 0 (bl []))).toArray)]) ∧ Below w.heap.size w w'
end Go.Proofs.YtgfpflcoknpbdaaDoor
