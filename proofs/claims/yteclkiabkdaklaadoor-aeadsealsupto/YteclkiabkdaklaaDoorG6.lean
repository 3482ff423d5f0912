/- Texts of Ia Ir Is Ib Id Ie Iv Ij Hx Ub Open7 Og Iy Iz, joined. -/
import Derived.Test.YteclkiabkdaklaaDoorG1
import Derived.Test.YteclkiabkdaklaaDoorG4
import Derived.Test.YteclkiabkdaklaaDoorG2
import Derived.Test.YteclkiabkdaklaaDoorG5
import Derived.Lib.Bytes
import Derived.Test.YteclkiabkdaklaaDoorRows
import Derived.Test.YteclkiabkdaklaaDoorG3
import Derived.SizedLaws
namespace Go.Proofs.YteclkiabkdaklaaDoor
open Go.RowKit

/-- A number's bytes, the lowest first. -/
def dig (x : Nat) : Nat → Int := fun j => ((x / 256 ^ j % 256 : Nat) : Int)
theorem dig_in (x n : Nat) : In 256 n (dig x) := fun j _ => by
  have : x / 256 ^ j % 256 < 256 := Nat.mod_lt _ (by decide)
  unfold dig
  omega
theorem val_dig (x : Nat) : ∀ n, val 256 (dig x) n = ((x % 256 ^ n : Nat) : Int)
  | 0 => by show (0 : Int) = ((x % 1 : Nat) : Int); rw [Nat.mod_one]; rfl
  | n + 1 => by
    have e : val 256 (dig x) (n + 1) = val 256 (dig x) n + 256 ^ n * dig x n := rfl
    rw [e, val_dig x n, Nat.pow_succ, Nat.mod_mul, Int.natCast_add, Int.natCast_mul, Int.natCast_pow]
    rfl
theorem dig_shr (x i : Nat) (hi : i < 8) : (x : Int) / 2 ^ min (((8 * i : Nat) : Int)).toNat IntKind.i64.bits = ((x / 256 ^ i : Nat) : Int) := by
  rw [Int.toNat_natCast, Nat.min_eq_left (by show 8 * i ≤ 64; omega), Nat.pow_mul 2 8 i |> fun h => show ((2 : Int) ^ (8 * i)) = ((256 ^ i : Nat) : Int) from by rw [show ((256 : Nat) ^ i) = 2 ^ (8 * i) from h.symm, Int.natCast_pow]; rfl]
  exact (Int.natCast_ediv x (256 ^ i)).symm
/-- So many bytes, up to a multiple of 16. -/
def up16 (n : Nat) : Nat := (n + 15) / 16 * 16
/-- What a tag is of. -/
def amt (bl sl : Nat) : Nat := up16 bl + up16 sl + 8 + 8
def amx (bl : Nat) (b : Nat → Int) (sl : Nat) (s : Nat → Int) : Nat → Int := app (app (app (padz bl b) (up16 bl) (padz sl s)) (up16 bl + up16 sl) (dig bl)) (up16 bl + up16 sl + 8) (dig sl)
theorem app_in' (n m : Nat) (f g : Nat → Int) (hf : In 256 n f) (hg : In 256 m g) : In 256 (n + m) (app f n g) := fun j hj => by
  unfold app
  split
  · exact hf j (by assumption)
  · exact hg _ (by omega)
theorem amx_in (bl : Nat) (b : Nat → Int) (sl : Nat) (s : Nat → Int) (hb : In 256 bl b) (hs : In 256 sl s) : In 256 (amt bl sl) (amx bl b sl s) :=
  app_in' _ 8 _ _ (app_in' _ 8 _ _ (app_in' _ _ _ _ (padz_in bl b hb _) (padz_in sl s hs _)) (dig_in bl 8)) (dig_in sl 8)
theorem padz_congr (n : Nat) (f g : Nat → Int) (h : ∀ j, j < n → f j = g j) : padz n f = padz n g := by
  funext j
  unfold padz
  by_cases e : j < n
  · rw [if_pos e, if_pos e, h j e]
  · rw [if_neg e, if_neg e]
/-- A tag, as a number, and its bytes. -/
def atg (k n : Nat → Int) (bl : Nat) (b : Nat → Int) (sl : Nat) (s : Nat → Int) : Int := ptag (hblk k 0 n) (amt bl sl) (amx bl b sl s)
def atag (k n : Nat → Int) (bl : Nat) (b : Nat → Int) (sl : Nat) (s : Nat → Int) : Nat → Int := dig (atg k n bl b sl s).toNat
theorem atg_in (k n : Nat → Int) (bl : Nat) (b : Nat → Int) (sl : Nat) (s : Nat → Int) : 0 ≤ atg k n bl b sl s ∧ atg k n bl b sl s < 340282366920938463463374607431768211456 := by
  unfold atg ptag
  generalize acc _ _ _ _ % Q + pS _ = x
  omega
theorem atag_in (k n : Nat → Int) (bl : Nat) (b : Nat → Int) (sl : Nat) (s : Nat → Int) (m : Nat) : In 256 m (atag k n bl b sl s) := dig_in _ _
theorem atag_val (k n : Nat → Int) (bl : Nat) (b : Nat → Int) (sl : Nat) (s : Nat → Int) : val 256 (atag k n bl b sl s) 16 = atg k n bl b sl s := by
  have h := atg_in k n bl b sl s
  unfold atag
  rw [val_dig, show (256 : Nat) ^ 16 = 340282366920938463463374607431768211456 from by decide]
  omega
theorem atg_congr (k n : Nat → Int) (bl : Nat) (b b' : Nat → Int) (sl : Nat) (s s' : Nat → Int) (hb : ∀ j, j < bl → b j = b' j) (hs : ∀ j, j < sl → s j = s' j) : atg k n bl b sl s = atg k n bl b' sl s' := by
  unfold atg amx
  rw [padz_congr bl b b' hb, padz_congr sl s s' hs]
theorem atag_congr (k n : Nat → Int) (bl : Nat) (b b' : Nat → Int) (sl : Nat) (s s' : Nat → Int) (hb : ∀ j, j < bl → b j = b' j) (hs : ∀ j, j < sl → s j = s' j) : atag k n bl b sl s = atag k n bl b' sl s' := by
  unfold atag
  rw [atg_congr k n bl b b' sl s s' hb hs]
theorem tag_is {f : Nat → Int} {k n : Nat → Int} {bl : Nat} {b : Nat → Int} {sl : Nat} {s : Nat → Int} (hf : In 256 16 f) (hv : val 256 f 16 = atg k n bl b sl s) : ∀ j, j < 16 → f j = atag k n bl b sl s j :=
  val_inj 256 (by decide) f _ 16 hf (atag_in _ _ _ _ _ _ _) (by rw [hv, atag_val])
/-- What Seal answers; whether Open opens, how many bytes it answers, and which error. -/
def aout (k n : Nat → Int) (bl : Nat) (b : Nat → Int) (len : Nat) (z : Nat → Int) : Nat → Int := app (hxor k 1 n z) len (atag k n bl b len (hxor k 1 n z))
theorem aout_in (k n : Nat → Int) (bl : Nat) (b : Nat → Int) (len : Nat) (z : Nat → Int) (hz : In 256 len z) : In 256 (len + 16) (aout k n bl b len z) := app_in' _ _ _ _ (hxor_in k 1 n z len hz) (atag_in _ _ _ _ _ _ _)
abbrev aok (k n : Nat → Int) (bl : Nat) (b : Nat → Int) (len : Nat) (z : Nat → Int) : Prop := 16 ≤ len ∧ atg k n bl b (len - 16) z = val 256 (fun j => z (len - 16 + j)) 16
def aoL (k n : Nat → Int) (bl : Nat) (b : Nat → Int) (len : Nat) (z : Nat → Int) : Nat := if aok k n bl b len z then len - 16 else 0
def aoE (k n : Nat → Int) (bl : Nat) (b : Nat → Int) (len : Nat) (z : Nat → Int) : Int := if len < 16 then 3 else if aok k n bl b len z then 0 else 70
end Go.Proofs.YteclkiabkdaklaaDoor

namespace Go.Proofs.YteclkiabkdaklaaDoor
open Go.RowKit

set_option maxRecDepth 10000 in
set_option maxHeartbeats 4000000 in
theorem refEight_any (x : Nat) (w : World) :
    Calls Tryd.prog 26 #[.int .i64 (x : Int)] w fun e w' => ∃ v, e = .returned v ∧ Own w' w.heap.size 5 .u8 8 (dig x) v ∧ Below w.heap.size w w' := by
  go_enter Tryd.func26, Tryd.ntmps26
  go_upto_region 1 with fail
  refine wp_region_list ?_
  refine actL (w' := w.alloc (.cells #[] 5)) (.slice (some ⟨w.heap.size, 0, none⟩) 0 0) rfl (by kernel_rfl) ?_
  simp only [Act.put, List.setIfInBounds_toArray, List.set_cons_zero, List.set_cons_succ]
  refine pureL (.slice (some ⟨w.heap.size, 0, none⟩) 0 0) rfl (fun _ => by kernel_rfl) ?_
  simp only [Act.put, List.setIfInBounds_toArray, List.set_cons_zero, List.set_cons_succ]
  have K := (Below.refl w.heap.size w).alloc (Nat.le_refl _) (.cells #[] 5)
  have HO : Own (w.alloc (.cells #[] 5)) w.heap.size 5 .u8 0 (dig x) (.slice (some ⟨w.heap.size, 0, none⟩) 0 0) := Own.lit w w.heap.size 5 .u8 0 (dig x) (Nat.le_refl _) (by unfold maxLen; omega)
  generalize w.alloc (.cells #[] 5) = w0 at K HO ⊢
  generalize Value.slice (some ⟨w.heap.size, 0, none⟩) 0 0 = v0 at HO ⊢
  show Exit.then _ _ _ _ _
  go_wp2
  go_loopw [3, 4] (fun bw i w' => ∃ (n : Nat) (v : Value), n ≤ 8 ∧ i = .int .i64 (n : Int) ∧ v = bw ∧ Own w' w.heap.size 5 .u8 n (dig x) v ∧ Below w.heap.size w w') (fun _ i _ => 8 - (intOf i).toNat)
  case atStart => exact ⟨0, _, by omega, rfl, rfl, HO, K⟩
  case round =>
    clear K HO
    obtain ⟨n, v, hn, rfl, rfl, HO, K⟩ := hrel
    have g1 : (0 : Int) ≤ (n : Int) := by omega
    by_cases hlt : n < 8
    · have g2 : (n : Int) < 8 := by omega
      go_upto_region 5 with fail
      refine wp_region_list ?_
      refine pureL v rfl (fun _ => by kernel_rfl) ?_
      simp only [Act.put, List.setIfInBounds_toArray, List.set_cons_zero, List.set_cons_succ]
      refine pureL (.int .i64 (x : Int)) rfl (fun _ => by kernel_rfl) ?_
      simp only [Act.put, List.setIfInBounds_toArray, List.set_cons_zero, List.set_cons_succ]
      refine pureL (.int .i64 (n : Int)) rfl (fun _ => by kernel_rfl) ?_
      simp only [Act.put, List.setIfInBounds_toArray, List.set_cons_zero, List.set_cons_succ]
      refine pureL (.int .i64 ((8 * n : Nat) : Int)) rfl (fun w => mulI .i64 _ _ _ _ _ _ _ rfl rfl rfl (by rw [IntKind.wrap_i64]; omega) w) ?_
      simp only [Act.put, List.setIfInBounds_toArray, List.set_cons_zero, List.set_cons_succ]
      refine pureL (.int .i64 ((x / 256 ^ n : Nat) : Int)) rfl (fun w => shrI .i64 .i64 _ _ _ _ _ _ _ rfl rfl rfl (by omega) (dig_shr x n hlt) w) ?_
      simp only [Act.put, List.setIfInBounds_toArray, List.set_cons_zero, List.set_cons_succ]
      refine pureL (.int .u8 (dig x n)) rfl (fun w => convI .i64 .u8 _ _ _ _ _ rfl (by kernel_rfl) Tryd.underlying5 (by kernel_rfl) rfl (by rw [IntKind.wrap_u8']; unfold dig; omega) w) ?_
      simp only [Act.put, List.setIfInBounds_toArray, List.set_cons_zero, List.set_cons_succ]
      refine actL (w' := wr.alloc (.cells #[.int .u8 (dig x n)] 5)) (.slice (some ⟨wr.heap.size, 0, none⟩) 1 1) rfl (by kernel_rfl) ?_
      simp only [Act.put, List.setIfInBounds_toArray, List.set_cons_zero, List.set_cons_succ]
      obtain ⟨v2, w2, hr, ho, hg⟩ := HO.more8 (by omega) (dig x n) rfl 26 K.size
      refine actL v2 rfl (appendOp _ _ 26 _ _ _ rfl rfl rfl hr) ?_
      simp only [Act.put, List.setIfInBounds_toArray, List.set_cons_zero, List.set_cons_succ]
      refine pureL v2 rfl (fun _ => by kernel_rfl) ?_
      simp only [Act.put, List.setIfInBounds_toArray, List.set_cons_zero, List.set_cons_succ]
      have hb := Below.grown (K.alloc K.size (.cells #[.int .u8 (dig x n)] 5)) hg (by have := K.size; simp; omega) (fun b hb => (World.ownsRow.lt HO b hb).1)
      have HS := show Hid _ from (And.intro ho hb)
      clear K HO hr ho hg hb
      show Exit.inBlock _ _ _ _ _
      go_wp2
      go_roundw
      case rel => first | exact ⟨n + 1, v2, by omega, by go_num, rfl, HS.out⟩ | ((repeat apply Exists.intro); refine ⟨⟨n + 1, v2, by omega, by go_num, rfl, HS.out⟩, rfl⟩)
      case measure => simp [intOf]; omega
    · obtain rfl : n = 8 := by omega
      clear hlt hn g1
      go_wp2
      go_ret
      exact ⟨v, rfl, HO, K⟩

theorem up16_le (n : Nat) : n ≤ up16 n ∧ up16 n ≤ n + 15 ∧ up16 n % 16 = 0 := by unfold up16; omega
set_option maxRecDepth 10000 in
set_option maxHeartbeats 4000000 in
theorem refFull_any (sp : Option Addr) (len cap : Nat) (hlen : len ≤ 35184372088832) (hnil : sp = none → cap = 0) (z : Nat → Int) (w : World) (hs : Src w sp len z) :
    Calls Tryd.prog 25 #[.slice sp len cap] w fun e w' => ∃ v, e = .returned v ∧ Own w' w.heap.size 5 .u8 (up16 len) (padz len z) v ∧ Below w.heap.size w w' := by
  obtain ⟨hu1, hu2, hu3⟩ := up16_le len
  go_enter Tryd.func25, Tryd.ntmps25
  go_upto_region 1 with fail
  refine wp_region_list ?_
  refine actL (w' := w.alloc (.cells #[] 5)) (.slice (some ⟨w.heap.size, 0, none⟩) 0 0) rfl (by kernel_rfl) ?_
  simp only [Act.put, List.setIfInBounds_toArray, List.set_cons_zero, List.set_cons_succ]
  refine pureL (.slice sp len cap) rfl (fun _ => by kernel_rfl) ?_
  simp only [Act.put, List.setIfInBounds_toArray, List.set_cons_zero, List.set_cons_succ]
  have K := (Below.refl w.heap.size w).alloc (Nat.le_refl _) (.cells #[] 5)
  have HO : Own (w.alloc (.cells #[] 5)) w.heap.size 5 .u8 0 (padz len z) (.slice (some ⟨w.heap.size, 0, none⟩) 0 0) := Own.lit w w.heap.size 5 .u8 0 (padz len z) (Nat.le_refl _) (by unfold maxLen; omega)
  obtain ⟨v, w1, hr, ho, hg, _⟩ := run_append_Own (P := Tryd.prog) (ty := 26) Tryd.underlying26 one8 HO sp len cap z (hs.below K (Nat.le_refl _)) hnil (by unfold maxLen; omega) (by omega) K.size
  have hb := Below.grown K hg (by simp) (fun b hb => (World.ownsRow.lt HO b hb).1)
  refine actL v rfl (appendOp _ _ 26 _ _ _ rfl rfl rfl hr) ?_
  simp only [Act.put, List.setIfInBounds_toArray, List.set_cons_zero, List.set_cons_succ]
  refine pureL v rfl (fun _ => by kernel_rfl) ?_
  simp only [Act.put, List.setIfInBounds_toArray, List.set_cons_zero, List.set_cons_succ]
  replace HO : Own w1 w.heap.size 5 .u8 len (padz len z) v := by
    rw [Nat.zero_add] at ho
    exact ho.congr fun j hj => by unfold app padz; rw [if_neg (Nat.not_lt_zero j), if_pos hj, Nat.sub_zero]
  replace K := hb
  clear hr ho hg hb hs
  show Exit.then _ _ _ _ _
  go_wp2
  go_loopw [3] (fun ow w' => ∃ (n : Nat) (v : Value), v = ow ∧ len ≤ n ∧ n ≤ up16 len ∧ Own w' w.heap.size 5 .u8 n (padz len z) v ∧ Below w.heap.size w w') (fun ow _ => up16 len - slen ow)
  case atStart => exact ⟨len, v, rfl, Nat.le_refl _, hu1, HO, K⟩
  case round =>
    clear K HO
    obtain ⟨n, v, rfl, hn1, hn2, HO, K⟩ := hrel
    obtain ⟨ts, tc, rfl, _, _⟩ := HO.bytes
    by_cases hm : n % 16 = 0
    · have hm1 : ¬ 0 < (n : Int) % 16 := by omega
      have hm2 : (n : Int) % 16 = 0 := by omega
      have hm3 : (n : Int).tmod 16 = 0 := by rw [Int.tmod_eq_emod_of_nonneg (by omega)]; omega
      have HS := show Hid _ from (show n = up16 len by omega)
      clear hm hu1 hu2 hu3
      go_wp2
      go_ret
      exact ⟨_, rfl, by rw [← HS.out]; exact HO, K⟩
    · have hm1 : 0 < (n : Int) % 16 := by omega
      have hm4 : 1 ≤ (n : Int) % 16 := by omega
      have hm3 : (n : Int).tmod 16 = (n : Int) % 16 := Int.tmod_eq_emod_of_nonneg (by omega)
      go_upto_region 3 with fail
      refine wp_region_list ?_
      refine pureL (.slice ts n tc) rfl (fun _ => by kernel_rfl) ?_
      simp only [Act.put, List.setIfInBounds_toArray, List.set_cons_zero, List.set_cons_succ]
      refine actL (w' := wr.alloc (.cells #[.int .u8 0] 5)) (.slice (some ⟨wr.heap.size, 0, none⟩) 1 1) rfl (by kernel_rfl) ?_
      simp only [Act.put, List.setIfInBounds_toArray, List.set_cons_zero, List.set_cons_succ]
      obtain ⟨v2, w2, hr, ho, hg⟩ := HO.more8 (by omega) 0 (by unfold padz; rw [if_neg (by omega)]) 26 K.size
      refine actL v2 rfl (appendOp _ _ 26 _ _ _ rfl rfl rfl hr) ?_
      simp only [Act.put, List.setIfInBounds_toArray, List.set_cons_zero, List.set_cons_succ]
      refine pureL v2 rfl (fun _ => by kernel_rfl) ?_
      simp only [Act.put, List.setIfInBounds_toArray, List.set_cons_zero, List.set_cons_succ]
      have hb := Below.grown (K.alloc K.size (.cells #[.int .u8 0] 5)) hg (by have := K.size; simp; omega) (fun b hb => (World.ownsRow.lt HO b hb).1)
      obtain ⟨ts2, tc2, rfl, _, _⟩ := ho.bytes
      have HS := show Hid _ from (And.intro ho hb)
      clear K HO hr ho hg hb hm1 hm4 hm3
      show Exit.inBlock _ _ _ _ _
      go_wp2
      go_roundw
      case rel => first | exact ⟨n + 1, _, rfl, by omega, by omega, HS.out⟩ | ((repeat apply Exists.intro); refine ⟨⟨n + 1, _, rfl, by omega, by omega, HS.out⟩, rfl⟩)
      case measure => simp [slen]; omega

set_option maxRecDepth 10000 in
set_option maxHeartbeats 8000000 in
theorem refTag_any (k n : Nat → Int) (hk : In 256 32 k) (hn : In 256 12 n) (bp : Option Addr) (bl bc : Nat) (hbl : bl ≤ 35184372088832) (hbn : bp = none → bc = 0) (b : Nat → Int) (hb : In 256 bl b) (sp : Option Addr) (sl sc : Nat) (hsl : sl ≤ 35184372088832) (hsn : sp = none → sc = 0) (s : Nat → Int) (hs : In 256 sl s) (w : World) (hsb : Src w bp bl b) (hss : Src w sp sl s) :
    Calls Tryd.prog 16 #[(.agg (row .u8 32 (k)).toArray), (.agg (row .u8 12 (n)).toArray), .slice bp bl bc, .slice sp sl sc] w fun e w' => e = .returned (.agg (row .u8 16 (atag k n bl b sl s)).toArray) ∧ Below w.heap.size w w' := by
  obtain ⟨ub1, ub2, _⟩ := up16_le bl
  obtain ⟨us1, us2, _⟩ := up16_le sl
  have K := Kr.init w
  replace K := K.box .u8 32 k 23 (w.heap.size) rfl
  replace K := K.box .u8 12 n 25 (w.heap.size + 1) (by simp)
  replace K := K.make 16 #[.int .u8 0, .int .u8 0, .int .u8 0, .int .u8 0, .int .u8 0, .int .u8 0, .int .u8 0, .int .u8 0, .int .u8 0, .int .u8 0, .int .u8 0, .int .u8 0, .int .u8 0, .int .u8 0, .int .u8 0, .int .u8 0] 36 (w.heap.size + 1 + 1) (by simp) (tag_zero _ _ _ (by simp)).there
  go_enter Tryd.func16, Tryd.ntmps16
  go_upto_region 1 with fail
  generalize (((w.alloc (.cells (row .u8 32 k).toArray 23)).alloc (.cells (row .u8 12 n).toArray 25)).alloc (.cells #[.int .u8 0, .int .u8 0, .int .u8 0, .int .u8 0, .int .u8 0, .int .u8 0, .int .u8 0, .int .u8 0, .int .u8 0, .int .u8 0, .int .u8 0, .int .u8 0, .int .u8 0, .int .u8 0, .int .u8 0, .int .u8 0] 36)) = w0 at K ⊢
  refine wp_region_list ?_
  refine rowKL .u8 32 (k) (w.heap.size) 0 23 _ _ rfl rfl rfl Tryd.underlying23 rfl (key_info _) ((K.get _ _ _ _ (List.mem_cons_of_mem _ List.mem_cons_self)).range) ?_
  simp only [Act.put, List.setIfInBounds_toArray, List.set_cons_zero, List.set_cons_succ]
  refine rowKL .u8 12 (n) (w.heap.size + 1) 0 25 _ _ rfl rfl rfl Tryd.underlying25 rfl (hn_info _) ((K.get _ _ _ _ List.mem_cons_self).range) ?_
  simp only [Act.put, List.setIfInBounds_toArray, List.set_cons_zero, List.set_cons_succ]
  refine callL rfl (fun _ => by kernel_rfl) (hrefBlock_any k 0 n hk hn _) ?_
  rintro e w1 ⟨rfl, l⟩
  replace K := K.call l
  clear l
  refine ⟨_, rfl, ?_⟩
  simp only [Act.put, List.setIfInBounds_toArray, List.set_cons_zero, List.set_cons_succ]
  refine allocL #[.int .u8 0, .int .u8 0, .int .u8 0, .int .u8 0, .int .u8 0, .int .u8 0, .int .u8 0, .int .u8 0, .int .u8 0, .int .u8 0, .int .u8 0, .int .u8 0, .int .u8 0, .int .u8 0, .int .u8 0, .int .u8 0, .int .u8 0, .int .u8 0, .int .u8 0, .int .u8 0, .int .u8 0, .int .u8 0, .int .u8 0, .int .u8 0, .int .u8 0, .int .u8 0, .int .u8 0, .int .u8 0, .int .u8 0, .int .u8 0, .int .u8 0, .int .u8 0, .int .u8 0, .int .u8 0, .int .u8 0, .int .u8 0, .int .u8 0, .int .u8 0, .int .u8 0, .int .u8 0, .int .u8 0, .int .u8 0, .int .u8 0, .int .u8 0, .int .u8 0, .int .u8 0, .int .u8 0, .int .u8 0, .int .u8 0, .int .u8 0, .int .u8 0, .int .u8 0, .int .u8 0, .int .u8 0, .int .u8 0, .int .u8 0, .int .u8 0, .int .u8 0, .int .u8 0, .int .u8 0, .int .u8 0, .int .u8 0, .int .u8 0, .int .u8 0] 43 rfl (fun _ => by kernel_rfl) ?_
  simp only [Act.put, List.setIfInBounds_toArray, List.set_cons_zero, List.set_cons_succ]
  refine storesL .u8 64 (hblk k 0 n) w1.heap.size 43 _ _ rfl rfl rfl rfl (room_of (hb_zero _ _ _ rfl).there) (hb_info' _) ?_
  simp only [Act.put]
  have zS := K.size
  replace K := K.fresh .u8 64 (hblk k 0 n) #[.int .u8 0, .int .u8 0, .int .u8 0, .int .u8 0, .int .u8 0, .int .u8 0, .int .u8 0, .int .u8 0, .int .u8 0, .int .u8 0, .int .u8 0, .int .u8 0, .int .u8 0, .int .u8 0, .int .u8 0, .int .u8 0, .int .u8 0, .int .u8 0, .int .u8 0, .int .u8 0, .int .u8 0, .int .u8 0, .int .u8 0, .int .u8 0, .int .u8 0, .int .u8 0, .int .u8 0, .int .u8 0, .int .u8 0, .int .u8 0, .int .u8 0, .int .u8 0, .int .u8 0, .int .u8 0, .int .u8 0, .int .u8 0, .int .u8 0, .int .u8 0, .int .u8 0, .int .u8 0, .int .u8 0, .int .u8 0, .int .u8 0, .int .u8 0, .int .u8 0, .int .u8 0, .int .u8 0, .int .u8 0, .int .u8 0, .int .u8 0, .int .u8 0, .int .u8 0, .int .u8 0, .int .u8 0, .int .u8 0, .int .u8 0, .int .u8 0, .int .u8 0, .int .u8 0, .int .u8 0, .int .u8 0, .int .u8 0, .int .u8 0, .int .u8 0] 43 (hb_zero _ _ _ rfl).there
  generalize ((w1.alloc (.cells #[.int .u8 0, .int .u8 0, .int .u8 0, .int .u8 0, .int .u8 0, .int .u8 0, .int .u8 0, .int .u8 0, .int .u8 0, .int .u8 0, .int .u8 0, .int .u8 0, .int .u8 0, .int .u8 0, .int .u8 0, .int .u8 0, .int .u8 0, .int .u8 0, .int .u8 0, .int .u8 0, .int .u8 0, .int .u8 0, .int .u8 0, .int .u8 0, .int .u8 0, .int .u8 0, .int .u8 0, .int .u8 0, .int .u8 0, .int .u8 0, .int .u8 0, .int .u8 0, .int .u8 0, .int .u8 0, .int .u8 0, .int .u8 0, .int .u8 0, .int .u8 0, .int .u8 0, .int .u8 0, .int .u8 0, .int .u8 0, .int .u8 0, .int .u8 0, .int .u8 0, .int .u8 0, .int .u8 0, .int .u8 0, .int .u8 0, .int .u8 0, .int .u8 0, .int .u8 0, .int .u8 0, .int .u8 0, .int .u8 0, .int .u8 0, .int .u8 0, .int .u8 0, .int .u8 0, .int .u8 0, .int .u8 0, .int .u8 0, .int .u8 0, .int .u8 0] 43)).setCells w1.heap.size 0 (row .u8 64 (hblk k 0 n))) = w2 at K ⊢
  generalize w1.heap.size = S at *
  show Exit.then _ _ _ _ _
  go_upto_region 2 with fail
  refine wp_region_list ?_
  refine pureL (.agg (row .u8 32 (fun _ => 0)).toArray) rfl (fun _ => by kernel_rfl) ?_
  simp only [Act.put, List.setIfInBounds_toArray, List.set_cons_zero, List.set_cons_succ]
  refine allocL #[.int .u8 0, .int .u8 0, .int .u8 0, .int .u8 0, .int .u8 0, .int .u8 0, .int .u8 0, .int .u8 0, .int .u8 0, .int .u8 0, .int .u8 0, .int .u8 0, .int .u8 0, .int .u8 0, .int .u8 0, .int .u8 0, .int .u8 0, .int .u8 0, .int .u8 0, .int .u8 0, .int .u8 0, .int .u8 0, .int .u8 0, .int .u8 0, .int .u8 0, .int .u8 0, .int .u8 0, .int .u8 0, .int .u8 0, .int .u8 0, .int .u8 0, .int .u8 0] 23 rfl (fun _ => by kernel_rfl) ?_
  simp only [Act.put, List.setIfInBounds_toArray, List.set_cons_zero, List.set_cons_succ]
  refine storesL .u8 32 (fun _ => 0) w2.heap.size 23 _ _ rfl rfl rfl rfl (room_of (key_zero _ _ _ rfl).there) (key_info' _) ?_
  simp only [Act.put]
  have zY := K.size
  replace K := K.fresh .u8 32 (fun _ => 0) #[.int .u8 0, .int .u8 0, .int .u8 0, .int .u8 0, .int .u8 0, .int .u8 0, .int .u8 0, .int .u8 0, .int .u8 0, .int .u8 0, .int .u8 0, .int .u8 0, .int .u8 0, .int .u8 0, .int .u8 0, .int .u8 0, .int .u8 0, .int .u8 0, .int .u8 0, .int .u8 0, .int .u8 0, .int .u8 0, .int .u8 0, .int .u8 0, .int .u8 0, .int .u8 0, .int .u8 0, .int .u8 0, .int .u8 0, .int .u8 0, .int .u8 0, .int .u8 0] 23 (key_zero _ _ _ rfl).there
  generalize ((w2.alloc (.cells #[.int .u8 0, .int .u8 0, .int .u8 0, .int .u8 0, .int .u8 0, .int .u8 0, .int .u8 0, .int .u8 0, .int .u8 0, .int .u8 0, .int .u8 0, .int .u8 0, .int .u8 0, .int .u8 0, .int .u8 0, .int .u8 0, .int .u8 0, .int .u8 0, .int .u8 0, .int .u8 0, .int .u8 0, .int .u8 0, .int .u8 0, .int .u8 0, .int .u8 0, .int .u8 0, .int .u8 0, .int .u8 0, .int .u8 0, .int .u8 0, .int .u8 0, .int .u8 0] 23)).setCells w2.heap.size 0 (row .u8 32 (fun _ => 0))) = w3 at K ⊢
  generalize w2.heap.size = Y at *
  show Exit.then _ _ _ _ _
  have hkk := hblk_in k 0 n 32
  generalize hBe : hblk k 0 n = B at *
  go_wp2
  go_loopw [11] (fun i w' => ∃ (m : Nat) (f : Nat → Int), m ≤ 32 ∧ i = .int .i64 (m : Int) ∧ Kr w (Y + 1) [(Y, .u8, 32, f), (S, .u8, 64, B)] [(w.heap.size + 1 + 1, 16)] w' ∧ ∀ j, j < m → f j = B j) (fun i _ => 32 - (intOf i).toNat)
  case atStart => exact ⟨0, _, by omega, rfl, K.sub _ (fun p hp => by rcases List.mem_cons.1 hp with rfl | hp; exact List.mem_cons_self; obtain rfl := List.mem_singleton.1 hp; exact (List.mem_cons_of_mem _ List.mem_cons_self)), fun j hj => by omega⟩
  case round =>
    clear K
    obtain ⟨m, f, hm, rfl, K, hd⟩ := hrel
    have g1 : (0 : Int) ≤ (m : Int) := by omega
    by_cases hlt : m < 32
    · have g2 : (m : Int) < 32 := by omega
      go_upto_region 6 with fail
      refine wp_region_list ?_
      refine pureL (.int .i64 (m : Int)) rfl (fun _ => by kernel_rfl) ?_
      simp only [Act.put, List.setIfInBounds_toArray, List.set_cons_zero, List.set_cons_succ]
      refine pureL (.int .i64 (m : Int)) rfl (fun _ => by kernel_rfl) ?_
      simp only [Act.put, List.setIfInBounds_toArray, List.set_cons_zero, List.set_cons_succ]
      refine pureL (.pointer (some ⟨S, m, none⟩)) rfl (fun w' => idxB S m (by omega) w' _ _ rfl rfl rfl) ?_
      simp only [Act.put, List.setIfInBounds_toArray, List.set_cons_zero, List.set_cons_succ]
      refine cellL .u8 (.int .u8 (B m)) S m 5 _ rfl rfl rfl Tryd.underlying5 ((K.get _ _ _ _ (List.mem_cons_of_mem _ List.mem_cons_self)).cell m (by omega)) ?_
      simp only [Act.put, List.setIfInBounds_toArray, List.set_cons_zero, List.set_cons_succ]
      refine pureL (.pointer (some ⟨Y, m, none⟩)) rfl (fun w' => idxKy Y m hlt w' _ _ rfl rfl rfl) ?_
      simp only [Act.put, List.setIfInBounds_toArray, List.set_cons_zero, List.set_cons_succ]
      refine storeL .u8 (B m) Y m 5 _ _ rfl rfl rfl rfl (by rw [(K.get _ _ _ _ List.mem_cons_self).cell m hlt]; rfl) ((K.get _ _ _ _ List.mem_cons_self).free m hlt) (by kernel_rfl) ?_
      simp only [Act.put]
      replace K := K.setCell [(S, .u8, 64, B)] Y .u8 32 f m hlt (B m) List.mem_cons_self (fun p hp => by obtain rfl := List.mem_singleton.1 hp; exact (List.mem_cons_of_mem _ List.mem_cons_self)) (fun p hp => by obtain rfl := List.mem_singleton.1 hp; simp only; omega) (by omega)
      have HS := show Hid _ from (And.intro K (show ∀ j, j < m + 1 → upd f m (B m) j = B j from fun j hj => by
        by_cases e : j = m
        · subst e; rw [upd_same]
        · rw [upd_other _ _ _ _ e]; exact hd j (by omega)))
      clear K hd
      generalize wr.setCell ⟨Y, m, none⟩ (.int .u8 (B m)) = w4 at HS ⊢
      generalize upd f m (B m) = f' at HS
      show Exit.inBlock _ _ _ _ _
      go_wp2
      go_roundw
      case rel => first | exact ⟨m + 1, f', by omega, by go_num, HS.out⟩ | ((repeat apply Exists.intro); refine ⟨⟨m + 1, f', by omega, by go_num, HS.out⟩, rfl⟩)
      case measure => simp [intOf]; omega
    · obtain rfl : m = 32 := by omega
      replace K := K.congr B (fun j hj => hd j hj)
      replace K := K.sub [(Y, .u8, 32, B)] (fun p hp => by obtain rfl := List.mem_singleton.1 hp; exact List.mem_cons_self)
      clear hd hlt hm g1
      go_upto_region 7 with fail
      refine wp_region_list ?_
      refine pureL (.slice bp bl bc) rfl (fun _ => by kernel_rfl) ?_
      simp only [Act.put, List.setIfInBounds_toArray, List.set_cons_zero, List.set_cons_succ]
      refine callL rfl (fun _ => by kernel_rfl) (refFull_any bp bl bc hbl hbn b _ (hsb.below K.below (Nat.le_refl _))) ?_
      rintro e w5 ⟨P1v, rfl, P1, l⟩
      replace P1 := P1.lower K.size
      replace K := K.call l
      clear l
      refine ⟨_, rfl, ?_⟩
      simp only [Act.put, List.setIfInBounds_toArray, List.set_cons_zero, List.set_cons_succ]
      refine pureL (.slice sp sl sc) rfl (fun _ => by kernel_rfl) ?_
      simp only [Act.put, List.setIfInBounds_toArray, List.set_cons_zero, List.set_cons_succ]
      refine callL rfl (fun _ => by kernel_rfl) (refFull_any sp sl sc hsl hsn s _ (hss.below K.below (Nat.le_refl _))) ?_
      rintro e w6 ⟨P2v, rfl, P2, l⟩
      replace P2 := P2.lower K.size
      replace K := K.call l
      replace P1 := P1.below l
      clear l
      refine ⟨_, rfl, ?_⟩
      simp only [Act.put, List.setIfInBounds_toArray, List.set_cons_zero, List.set_cons_succ]
      obtain ⟨q2, c2, rfl, hq1, hq2⟩ := P2.bytes
      obtain ⟨v7, w7, hr, ho, hg, _⟩ := run_append_Own (P := Tryd.prog) (ty := 26) Tryd.underlying26 one8 P1 q2 (up16 sl) c2 (padz sl s) hq2 P2.nilCap (by unfold maxLen; omega) (by omega) K.size
      refine actL v7 rfl (appendOp _ _ 26 _ _ _ rfl rfl rfl hr) ?_
      simp only [Act.put, List.setIfInBounds_toArray, List.set_cons_zero, List.set_cons_succ]
      refine pureL v7 rfl (fun _ => by kernel_rfl) ?_
      simp only [Act.put, List.setIfInBounds_toArray, List.set_cons_zero, List.set_cons_succ]
      replace K := K.grown hg (fun b hb => (World.ownsRow.lt P1 b hb).1)
      replace P1 := ho
      clear hr ho hg hq1 hq2 P2
      show Exit.then _ _ _ _ _
      go_upto_region 8 with fail
      refine wp_region_list ?_
      refine pureL v7 rfl (fun _ => by kernel_rfl) ?_
      simp only [Act.put, List.setIfInBounds_toArray, List.set_cons_zero, List.set_cons_succ]
      refine pureL (.slice bp bl bc) rfl (fun _ => by kernel_rfl) ?_
      simp only [Act.put, List.setIfInBounds_toArray, List.set_cons_zero, List.set_cons_succ]
      refine pureL (.int .i64 (bl : Int)) rfl (fun w => lenS _ 26 5 bp bl bc rfl Tryd.underlying26 rfl w) ?_
      simp only [Act.put, List.setIfInBounds_toArray, List.set_cons_zero, List.set_cons_succ]
      refine callL rfl (fun _ => by kernel_rfl) (refEight_any bl _) ?_
      rintro e w8 ⟨p8, rfl, P8, l⟩
      replace P8 := P8.lower K.size
      replace K := K.call l
      replace P1 := P1.below l
      clear l
      refine ⟨_, rfl, ?_⟩
      simp only [Act.put, List.setIfInBounds_toArray, List.set_cons_zero, List.set_cons_succ]
      obtain ⟨q2, c2, rfl, hq1, hq2⟩ := P8.bytes
      obtain ⟨v9, w9, hr, ho, hg, _⟩ := run_append_Own (P := Tryd.prog) (ty := 26) Tryd.underlying26 one8 P1 q2 (8) c2 (dig bl) hq2 P8.nilCap (by unfold maxLen; omega) (by omega) K.size
      refine actL v9 rfl (appendOp _ _ 26 _ _ _ rfl rfl rfl hr) ?_
      simp only [Act.put, List.setIfInBounds_toArray, List.set_cons_zero, List.set_cons_succ]
      refine pureL v9 rfl (fun _ => by kernel_rfl) ?_
      simp only [Act.put, List.setIfInBounds_toArray, List.set_cons_zero, List.set_cons_succ]
      replace K := K.grown hg (fun b hb => (World.ownsRow.lt P1 b hb).1)
      replace P1 := ho
      clear hr ho hg hq1 hq2 P8
      show Exit.then _ _ _ _ _
      go_upto_region 9 with fail
      refine wp_region_list ?_
      refine pureL v9 rfl (fun _ => by kernel_rfl) ?_
      simp only [Act.put, List.setIfInBounds_toArray, List.set_cons_zero, List.set_cons_succ]
      refine pureL (.slice sp sl sc) rfl (fun _ => by kernel_rfl) ?_
      simp only [Act.put, List.setIfInBounds_toArray, List.set_cons_zero, List.set_cons_succ]
      refine pureL (.int .i64 (sl : Int)) rfl (fun w => lenS _ 26 5 sp sl sc rfl Tryd.underlying26 rfl w) ?_
      simp only [Act.put, List.setIfInBounds_toArray, List.set_cons_zero, List.set_cons_succ]
      refine callL rfl (fun _ => by kernel_rfl) (refEight_any sl _) ?_
      rintro e w10 ⟨p8, rfl, P8, l⟩
      replace P8 := P8.lower K.size
      replace K := K.call l
      replace P1 := P1.below l
      clear l
      refine ⟨_, rfl, ?_⟩
      simp only [Act.put, List.setIfInBounds_toArray, List.set_cons_zero, List.set_cons_succ]
      obtain ⟨q2, c2, rfl, hq1, hq2⟩ := P8.bytes
      obtain ⟨v11, w11, hr, ho, hg, _⟩ := run_append_Own (P := Tryd.prog) (ty := 26) Tryd.underlying26 one8 P1 q2 (8) c2 (dig sl) hq2 P8.nilCap (by unfold maxLen; omega) (by omega) K.size
      refine actL v11 rfl (appendOp _ _ 26 _ _ _ rfl rfl rfl hr) ?_
      simp only [Act.put, List.setIfInBounds_toArray, List.set_cons_zero, List.set_cons_succ]
      refine pureL v11 rfl (fun _ => by kernel_rfl) ?_
      simp only [Act.put, List.setIfInBounds_toArray, List.set_cons_zero, List.set_cons_succ]
      replace K := K.grown hg (fun b hb => (World.ownsRow.lt P1 b hb).1)
      replace P1 := ho
      clear hr ho hg hq1 hq2 P8
      show Exit.then _ _ _ _ _
      obtain ⟨q3, c3, rfl, hq1, hq2⟩ := P1.bytes
      clear P1
      go_upto_region 10 with fail
      refine wp_region_list ?_
      refine rowKL .u8 32 (B) (Y) 0 23 _ _ rfl rfl rfl Tryd.underlying23 rfl (key_info _) ((K.get _ _ _ _ List.mem_cons_self).range) ?_
      simp only [Act.put, List.setIfInBounds_toArray, List.set_cons_zero, List.set_cons_succ]
      refine pureL (.slice q3 (up16 bl + up16 sl + 8 + 8) c3) rfl (fun _ => by kernel_rfl) ?_
      simp only [Act.put, List.setIfInBounds_toArray, List.set_cons_zero, List.set_cons_succ]
      refine callL rfl (fun _ => by kernel_rfl) (refSum_any B hkk q3 (up16 bl + up16 sl + 8 + 8) c3 (by omega) hq1 (amx bl b sl s) (amx_in bl b sl s hb hs) _ hq2) ?_
      rintro e w12 ⟨f2, rfl, ⟨hf1, hf2⟩, l⟩
      replace K := K.call l
      clear l
      refine ⟨_, rfl, ?_⟩
      simp only [Act.put, List.setIfInBounds_toArray, List.set_cons_zero, List.set_cons_succ]
      have HE := show Hid _ from (show row .u8 16 f2 = row .u8 16 (dig (ptag B (amt bl sl) (amx bl b sl s)).toNat) from row_congr .u8 16 (fun j hj => by
        have h0 : 0 ≤ ptag B (amt bl sl) (amx bl b sl s) ∧ ptag B (amt bl sl) (amx bl b sl s) < 340282366920938463463374607431768211456 := by
          unfold ptag
          generalize acc _ _ _ _ % Q + pS _ = y
          omega
        exact val_inj 256 (by decide) f2 _ 16 hf1 (dig_in _ _) (by rw [hf2, val_dig, show (256 : Nat) ^ 16 = 340282366920938463463374607431768211456 from by decide]; show ptag B (amt bl sl) (amx bl b sl s) = _; omega) j hj))
      have hz' := (K.room _ List.mem_cons_self).1
      refine storesL .u8 16 f2 (w.heap.size + 1 + 1) 36 _ _ rfl rfl rfl rfl (room_of hz') (tag_info' _) ?_
      simp only [Act.put]
      have hB := (K.fill _ _ List.mem_cons_self (row .u8 16 f2)).below
      clear K hf1 hf2 hq1 hq2
      show Exit.then _ _ _ _ _
      go_wp2
      exact bodyPost_ret (v := (.agg (row .u8 16 (f2)).toArray)) (results_row Tryd.results16 rfl (Has.all hz' .u8 f2).range Tryd.underlying36 rfl (tag_info f2)) rfl ⟨by rw [HE.out, ← hBe]; rfl, hB⟩
end Go.Proofs.YteclkiabkdaklaaDoor

namespace Go.Proofs.YteclkiabkdaklaaDoor
open Go.RowKit

theorem icut_tag (b : Nat) (w : World) : (Instr.sliceAt 36 (.pointer (some ⟨b, 0, none⟩)) none none none).run Tryd.prog w = .ok (.slice (some ⟨b, 0, none⟩) 16 16) w := by kernel_rfl
set_option maxRecDepth 10000 in
set_option maxHeartbeats 8000000 in
theorem refSeal_any (k n : Nat → Int) (hk : In 256 32 k) (hn : In 256 12 n) (bp : Option Addr) (bl bc : Nat) (hbl : bl ≤ 35184372088832) (hbn : bp = none → bc = 0) (b : Nat → Int) (hb : In 256 bl b) (sp : Option Addr) (len cap : Nat) (hlen : len ≤ 35184372088832) (z : Nat → Int) (hz : In 256 len z) (w : World) (hsb : Src w bp bl b) (hs : Src w sp len z) :
    Calls Tryd.prog 10 #[(.agg (row .u8 32 (k)).toArray), (.agg (row .u8 12 (n)).toArray), .slice bp bl bc, .slice sp len cap] w fun e w' => ∃ sp' cap', e = .returned (.slice sp' (len + 16) cap') ∧ Own w' w.heap.size 5 .u8 (len + 16) (aout k n bl b len z) (.slice sp' (len + 16) cap') ∧ Below w.heap.size w w' := by
  have K := Kr.init w
  replace K := K.box .u8 32 k 23 (w.heap.size) rfl
  replace K := K.box .u8 12 n 25 (w.heap.size + 1) (by simp)
  go_enter Tryd.func10, Tryd.ntmps10
  go_upto_region 1 with fail
  generalize ((w.alloc (.cells (row .u8 32 k).toArray 23)).alloc (.cells (row .u8 12 n).toArray 25)) = w0 at K ⊢
  refine wp_region_list ?_
  refine rowKL .u8 32 (k) (w.heap.size) 0 23 _ _ rfl rfl rfl Tryd.underlying23 rfl (key_info _) ((K.get _ _ _ _ (List.mem_cons_of_mem _ List.mem_cons_self)).range) ?_
  simp only [Act.put, List.setIfInBounds_toArray, List.set_cons_zero, List.set_cons_succ]
  refine rowKL .u8 12 (n) (w.heap.size + 1) 0 25 _ _ rfl rfl rfl Tryd.underlying25 rfl (hn_info _) ((K.get _ _ _ _ List.mem_cons_self).range) ?_
  simp only [Act.put, List.setIfInBounds_toArray, List.set_cons_zero, List.set_cons_succ]
  refine pureL (.slice sp len cap) rfl (fun _ => by kernel_rfl) ?_
  simp only [Act.put, List.setIfInBounds_toArray, List.set_cons_zero, List.set_cons_succ]
  refine callL rfl (fun _ => by kernel_rfl) (refXor_own k 1 n hk hn sp len cap (by omega) z _ (hs.below K.below (Nat.le_refl _))) ?_
  rintro e w1 ⟨so, co, rfl, P1, l⟩
  replace P1 := P1.lower K.size
  replace K := K.call l
  clear l
  refine ⟨_, rfl, ?_⟩
  simp only [Act.put, List.setIfInBounds_toArray, List.set_cons_zero, List.set_cons_succ]
  refine pureL (.slice so len co) rfl (fun _ => by kernel_rfl) ?_
  simp only [Act.put, List.setIfInBounds_toArray, List.set_cons_zero, List.set_cons_succ]
  obtain ⟨_, _, hv, _, hq2⟩ := P1.bytes
  injection hv with hv1 _ hv3
  subst hv1 hv3
  show Exit.then _ _ _ _ _
  go_upto_region 2 with fail
  refine wp_region_list ?_
  refine rowKL .u8 32 (k) (w.heap.size) 0 23 _ _ rfl rfl rfl Tryd.underlying23 rfl (key_info _) ((K.get _ _ _ _ (List.mem_cons_of_mem _ List.mem_cons_self)).range) ?_
  simp only [Act.put, List.setIfInBounds_toArray, List.set_cons_zero, List.set_cons_succ]
  refine rowKL .u8 12 (n) (w.heap.size + 1) 0 25 _ _ rfl rfl rfl Tryd.underlying25 rfl (hn_info _) ((K.get _ _ _ _ List.mem_cons_self).range) ?_
  simp only [Act.put, List.setIfInBounds_toArray, List.set_cons_zero, List.set_cons_succ]
  refine pureL (.slice bp bl bc) rfl (fun _ => by kernel_rfl) ?_
  simp only [Act.put, List.setIfInBounds_toArray, List.set_cons_zero, List.set_cons_succ]
  refine pureL (.slice so len co) rfl (fun _ => by kernel_rfl) ?_
  simp only [Act.put, List.setIfInBounds_toArray, List.set_cons_zero, List.set_cons_succ]
  refine callL rfl (fun _ => by kernel_rfl) (refTag_any k n hk hn bp bl bc hbl hbn b hb so len co hlen P1.nilCap (hxor k 1 n z) (hxor_in k 1 n z len hz) _ (hsb.below K.below (Nat.le_refl _)) hq2) ?_
  rintro e w2 ⟨rfl, l⟩
  replace K := K.call l
  replace P1 := P1.below l
  clear l hq2
  refine ⟨_, rfl, ?_⟩
  simp only [Act.put, List.setIfInBounds_toArray, List.set_cons_zero, List.set_cons_succ]
  have zT := K.size
  have l2 := below_setAll ((Below.refl w2.heap.size w2).alloc (Nat.le_refl _) (.cells #[.int .u8 0, .int .u8 0, .int .u8 0, .int .u8 0, .int .u8 0, .int .u8 0, .int .u8 0, .int .u8 0, .int .u8 0, .int .u8 0, .int .u8 0, .int .u8 0, .int .u8 0, .int .u8 0, .int .u8 0, .int .u8 0] 36)) w2.heap.size (Nat.le_refl _) 0 (row .u8 16 (atag k n bl b len (hxor k 1 n z)))
  replace P1 := P1.below l2
  clear l2
  refine allocL #[.int .u8 0, .int .u8 0, .int .u8 0, .int .u8 0, .int .u8 0, .int .u8 0, .int .u8 0, .int .u8 0, .int .u8 0, .int .u8 0, .int .u8 0, .int .u8 0, .int .u8 0, .int .u8 0, .int .u8 0, .int .u8 0] 36 rfl (fun _ => by kernel_rfl) ?_
  simp only [Act.put, List.setIfInBounds_toArray, List.set_cons_zero, List.set_cons_succ]
  refine storesL .u8 16 (atag k n bl b len (hxor k 1 n z)) w2.heap.size 36 _ _ rfl rfl rfl rfl (room_of (tag_zero _ _ _ rfl).there) (tag_info' _) ?_
  simp only [Act.put]
  have zT := K.size
  replace K := K.fresh .u8 16 (atag k n bl b len (hxor k 1 n z)) #[.int .u8 0, .int .u8 0, .int .u8 0, .int .u8 0, .int .u8 0, .int .u8 0, .int .u8 0, .int .u8 0, .int .u8 0, .int .u8 0, .int .u8 0, .int .u8 0, .int .u8 0, .int .u8 0, .int .u8 0, .int .u8 0] 36 (tag_zero _ _ _ rfl).there
  generalize ((w2.alloc (.cells #[.int .u8 0, .int .u8 0, .int .u8 0, .int .u8 0, .int .u8 0, .int .u8 0, .int .u8 0, .int .u8 0, .int .u8 0, .int .u8 0, .int .u8 0, .int .u8 0, .int .u8 0, .int .u8 0, .int .u8 0, .int .u8 0] 36)).setCells w2.heap.size 0 (row .u8 16 (atag k n bl b len (hxor k 1 n z)))) = w3 at K P1 ⊢
  generalize w2.heap.size = T at *
  show Exit.then _ _ _ _ _
  go_upto_region 3 with fail
  refine wp_region_list ?_
  refine pureL (.slice so len co) rfl (fun _ => by kernel_rfl) ?_
  simp only [Act.put, List.setIfInBounds_toArray, List.set_cons_zero, List.set_cons_succ]
  refine pureL (.slice (some ⟨T, 0, none⟩) 16 16) rfl (fun w' => cutAll _ _ _ _ rfl rfl (icut_tag T w')) ?_
  simp only [Act.put, List.setIfInBounds_toArray, List.set_cons_zero, List.set_cons_succ]
  have hT := (K.get _ _ _ _ List.mem_cons_self).src0
  obtain ⟨v4, w4, hr, ho, hg, _⟩ := run_append_Own (P := Tryd.prog) (ty := 26) Tryd.underlying26 one8 P1 (some ⟨T, 0, none⟩) 16 16 (atag k n bl b len (hxor k 1 n z)) hT (fun e => by cases e) (by unfold maxLen; omega) (by omega) (by have := K.size; omega)
  have hB := Below.grown K.below hg K.below.size (fun b hb => by have := (World.ownsRow.lt P1 b hb).1; omega)
  refine actL v4 rfl (appendOp _ _ 26 _ _ _ rfl rfl rfl hr) ?_
  simp only [Act.put, List.setIfInBounds_toArray, List.set_cons_zero, List.set_cons_succ]
  refine pureL v4 rfl (fun _ => by kernel_rfl) ?_
  simp only [Act.put, List.setIfInBounds_toArray, List.set_cons_zero, List.set_cons_succ]
  obtain ⟨s4, c4, rfl, _, _⟩ := ho.bytes
  have HS := show Hid _ from (show Own w4 w.heap.size 5 .u8 (len + 16) (aout k n bl b len z) (.slice s4 (len + 16) c4) from ho.lower (by omega))
  clear K P1 hT hr ho hg
  show Exit.then _ _ _ _ _
  go_wp2
  go_ret
  exact ⟨s4, c4, rfl, HS.out, hB⟩

theorem neqS {P : Program} {o : Oper} {a : Act} (s s' : ByteArray) (t t' : TypeId) (x y : Operand) (ho : o.op = .binOp .neq t x y t') (hx : a.eval x = .string s) (hy : a.eval y = .string s') (r : Bool) (hr : (!(s.toList == s'.toList)) = r) (w : World) : (execOp a.eval o).run P w = .ok (.value (.bool r)) w := by
  unfold execOp
  simp only [ho, hx, hy, Sem.run_bind, eqGuard_at_string, binOp_string_neq, Sem.run_pure, Result.andThen_ok, hr]
theorem txt_told (n : Nat) (f g : Nat → Int) (hf : In 256 n f) (hg : In 256 n g) : ((txt n f).toList == (txt n g).toList) = decide (val 256 f n = val 256 g n) := by
  rw [← bytesOf_inj n f g hf hg]
  unfold txt
  rw [Lib.strOfNums_toList, Lib.strOfNums_toList]
  unfold Lib.bytesOf bytesOf
  rw [List.map_map, List.map_map]
  rfl
theorem cut_hi2 {P : Program} {t : TypeId} (ht : P.underlying t = some (.slice (P.elem t))) (hsz : ∀ w, (sizeOf (P.elem t)).run P w = .ok 1 w) (sp : Option Addr) (len cap m : Nat) (hm : m ≤ len) (hc : len ≤ cap) :
    ∃ sp', (∀ w, (Instr.sliceAt t (.slice sp len cap) none (some (.int .i64 (m : Int))) none).run P w = .ok (.slice sp' m cap) w) ∧ (∀ w z, Src w sp len z → Src w sp' m z) ∧ (sp' = none → sp = none) := by
  refine ⟨if cap = 0 then sp else sp.map (·.add (0 * 1)), fun w => ?_, fun w z h j hj => ?_, fun e => ?_⟩
  · rw [run_sliceAt_slice w t _ _ _ _ ht, run_slice_h w t sp len cap ht .i64 (m : Int) (by omega) (by omega), hsz]
    simp only [Result.andThen, sliced, Int.toNat_natCast, Nat.sub_zero]
  · obtain ⟨ad, rfl, hc'⟩ := h j (by omega)
    rw [if_neg (by omega)]
    exact ⟨ad.add (0 * 1), rfl, by rw [Nat.zero_mul, Addr.add_add, Nat.zero_add]; exact hc'⟩
  · by_cases h0 : cap = 0
    · rw [if_pos h0] at e; exact e
    · rw [if_neg h0] at e; simpa using e
theorem tag_told (k n : Nat → Int) (bl : Nat) (b : Nat → Int) (m : Nat) (z : Nat → Int) (hz : In 256 (m + 16) z) : (!((txt 16 (atag k n bl b m z)).toList == (txt 16 (fun j => z (m + j))).toList)) = !decide (atg k n bl b m z = val 256 (fun j => z (m + j)) 16) := by
  rw [txt_told 16 _ _ (atag_in _ _ _ _ _ _ _) (fun j hj => hz _ (by omega)), atag_val]

set_option maxRecDepth 10000 in
set_option maxHeartbeats 8000000 in
theorem refOpen_short (k n : Nat → Int) (bp : Option Addr) (bl bc : Nat) (sp : Option Addr) (len cap : Nat) (h16 : len < 16) (w : World) :
    Calls Tryd.prog 12 #[(.agg (row .u8 32 (k)).toArray), (.agg (row .u8 12 (n)).toArray), .slice bp bl bc, .slice sp len cap] w fun e w' => e = .returned (.tuple #[.slice none 0 0, .int .i64 3]) ∧ Below w.heap.size w w' := by
  have K := Kr.init w
  replace K := K.box .u8 32 k 23 (w.heap.size) rfl
  replace K := K.box .u8 12 n 25 (w.heap.size + 1) (by simp)
  go_enter Tryd.func12, Tryd.ntmps12
  go_upto_region 1 with fail
  generalize ((w.alloc (.cells (row .u8 32 k).toArray 23)).alloc (.cells (row .u8 12 n).toArray 25)) = w0 at K ⊢
  refine wp_region_list ?_
  refine pureL (.slice sp (len) cap) rfl (fun _ => by kernel_rfl) ?_
  simp only [Act.put, List.setIfInBounds_toArray, List.set_cons_zero, List.set_cons_succ]
  refine pureL (.int .i64 ((len : Nat) : Int)) rfl (fun w => lenS _ 26 5 sp (len) cap rfl Tryd.underlying26 rfl w) ?_
  simp only [Act.put, List.setIfInBounds_toArray, List.set_cons_zero, List.set_cons_succ]
  refine pureL (.int .i64 ((len : Int) - 16)) rfl (fun w => subI .i64 _ _ _ _ _ _ _ rfl rfl rfl (by rw [IntKind.wrap_i64]; omega) w) ?_
  simp only [Act.put, List.setIfInBounds_toArray, List.set_cons_zero, List.set_cons_succ]
  refine pureL (.int .i64 ((len : Int) - 16)) rfl (fun _ => by kernel_rfl) ?_
  simp only [Act.put, List.setIfInBounds_toArray, List.set_cons_zero, List.set_cons_succ]
  show Exit.then _ _ _ _ _
  go_upto_region 2 with fail
  refine wp_region_list ?_
  refine pureL (.int .i64 ((len : Int) - 16)) rfl (fun _ => by kernel_rfl) ?_
  simp only [Act.put, List.setIfInBounds_toArray, List.set_cons_zero, List.set_cons_succ]
  refine pureL (.bool true) rfl (fun w => lssI .i64 _ _ _ _ _ _ rfl rfl rfl true (decide_eq_true (by omega)) w) ?_
  simp only [Act.put, List.setIfInBounds_toArray, List.set_cons_zero, List.set_cons_succ]
  have hB := K.below
  clear K
  show Exit.then _ _ _ _ _
  go_wp2
  go_ret2
  exact ⟨rfl, hB⟩

set_option maxRecDepth 10000 in
set_option maxHeartbeats 8000000 in
theorem refOpen_good (k n : Nat → Int) (hk : In 256 32 k) (hn : In 256 12 n) (bp : Option Addr) (bl bc : Nat) (hbl : bl ≤ 35184372088832) (hbn : bp = none → bc = 0) (b : Nat → Int) (hb : In 256 bl b) (sp : Option Addr) (m cap : Nat) (hlen : m ≤ 35184372088832) (hcap : m + 16 ≤ cap) (hsn : sp = none → cap = 0) (z : Nat → Int) (hz : In 256 (m + 16) z) (hok : Hid (atg k n bl b m z = val 256 (fun j => z (m + j)) 16)) (w : World) (hsb : Src w bp bl b) (hs : Src w sp (m + 16) z) :
    Calls Tryd.prog 12 #[(.agg (row .u8 32 (k)).toArray), (.agg (row .u8 12 (n)).toArray), .slice bp bl bc, .slice sp (m + 16) cap] w fun e w' => ∃ sp' cap', e = .returned (.tuple #[.slice sp' m cap', .int .i64 0]) ∧ Src w' sp' m (hxor k 1 n z) ∧ Below w.heap.size w w' := by
  obtain ⟨sh, hh1, hh2, hh3⟩ := cut_hi2 (P := Tryd.prog) (t := 26) (by kernel_rfl) (fun _ => by kernel_rfl) sp (m + 16) cap m (by omega) hcap
  obtain ⟨sl, hl1, hl2⟩ := cut_lo (P := Tryd.prog) (t := 26) (by kernel_rfl) (fun _ => by kernel_rfl) sp (m + 16) cap m (by omega) hcap
  rw [show m + 16 - m = 16 by omega] at hl1 hl2
  have hshn : sh = none → cap = 0 := fun e => hsn (hh3 e)
  clear hh3
  have K := Kr.init w
  replace K := K.box .u8 32 k 23 (w.heap.size) rfl
  replace K := K.box .u8 12 n 25 (w.heap.size + 1) (by simp)
  go_enter Tryd.func12, Tryd.ntmps12
  go_upto_region 1 with fail
  generalize ((w.alloc (.cells (row .u8 32 k).toArray 23)).alloc (.cells (row .u8 12 n).toArray 25)) = w0 at K ⊢
  refine wp_region_list ?_
  refine pureL (.slice sp (m + 16) cap) rfl (fun _ => by kernel_rfl) ?_
  simp only [Act.put, List.setIfInBounds_toArray, List.set_cons_zero, List.set_cons_succ]
  refine pureL (.int .i64 ((m + 16 : Nat) : Int)) rfl (fun w => lenS _ 26 5 sp (m + 16) cap rfl Tryd.underlying26 rfl w) ?_
  simp only [Act.put, List.setIfInBounds_toArray, List.set_cons_zero, List.set_cons_succ]
  refine pureL (.int .i64 (m : Int)) rfl (fun w => subI .i64 _ _ _ _ _ _ _ rfl rfl rfl (by rw [IntKind.wrap_i64]; omega) w) ?_
  simp only [Act.put, List.setIfInBounds_toArray, List.set_cons_zero, List.set_cons_succ]
  refine pureL (.int .i64 (m : Int)) rfl (fun _ => by kernel_rfl) ?_
  simp only [Act.put, List.setIfInBounds_toArray, List.set_cons_zero, List.set_cons_succ]
  show Exit.then _ _ _ _ _
  go_upto_region 2 with fail
  refine wp_region_list ?_
  refine pureL (.int .i64 (m : Int)) rfl (fun _ => by kernel_rfl) ?_
  simp only [Act.put, List.setIfInBounds_toArray, List.set_cons_zero, List.set_cons_succ]
  refine pureL (.bool false) rfl (fun w => lssI .i64 _ _ _ _ _ _ rfl rfl rfl false (decide_eq_false (by omega)) w) ?_
  simp only [Act.put, List.setIfInBounds_toArray, List.set_cons_zero, List.set_cons_succ]
  show Exit.then _ _ _ _ _
  go_upto_region 4 with fail
  refine wp_region_held_drew (S := fun w' => Kr w (w.heap.size + 1 + 1) [(w.heap.size + 1, .u8, 12, n), (w.heap.size, .u8, 32, k)] [] w') (by kernel_rfl) K.drew ?_
  clear K
  intro K
  refine rowKH (i := 0) (some 17) rfl .u8 32 (k) (w.heap.size) 0 23 _ _ rfl rfl rfl rfl (by kernel_rfl) (by kernel_rfl) (by kernel_rfl) (fun _ _ _ h => h) Tryd.underlying23 rfl (key_info _) K (fun _ h => (h.get _ _ _ _ (List.mem_cons_of_mem _ List.mem_cons_self)).range) ?_
  simp only [Act.put, List.setIfInBounds_toArray, List.set_cons_zero, List.set_cons_succ]
  refine rowKH (i := 1) (some 18) rfl .u8 12 (n) (w.heap.size + 1) 0 25 _ _ rfl rfl rfl rfl (by kernel_rfl) (by kernel_rfl) (by kernel_rfl) (fun _ _ _ h => h) Tryd.underlying25 rfl (hn_info _) K (fun _ h => (h.get _ _ _ _ List.mem_cons_self).range) ?_
  simp only [Act.put, List.setIfInBounds_toArray, List.set_cons_zero, List.set_cons_succ]
  refine pureH (i := 2) (some 19) rfl (.slice bp bl bc) rfl rfl (fun _ => by kernel_rfl) (by kernel_rfl) (by kernel_rfl) (by kernel_rfl) (fun _ _ _ h => h) K ?_
  simp only [Act.put, List.setIfInBounds_toArray, List.set_cons_zero, List.set_cons_succ]
  refine pureH (i := 3) (some 20) rfl (.slice sp (m + 16) cap) rfl rfl (fun _ => by kernel_rfl) (by kernel_rfl) (by kernel_rfl) (by kernel_rfl) (fun _ _ _ h => h) K ?_
  simp only [Act.put, List.setIfInBounds_toArray, List.set_cons_zero, List.set_cons_succ]
  refine pureH (i := 4) (some 21) rfl (.int .i64 (m : Int)) rfl rfl (fun _ => by kernel_rfl) (by kernel_rfl) (by kernel_rfl) (by kernel_rfl) (fun _ _ _ h => h) K ?_
  simp only [Act.put, List.setIfInBounds_toArray, List.set_cons_zero, List.set_cons_succ]
  refine pureH (i := 5) (some 22) rfl (.slice sh m cap) rfl rfl (fun w' => cutHi _ _ _ _ _ _ rfl rfl rfl (hh1 w')) (by kernel_rfl) (by kernel_rfl) (by kernel_rfl) (fun _ _ _ h => h) K ?_
  simp only [Act.put, List.setIfInBounds_toArray, List.set_cons_zero, List.set_cons_succ]
  refine Chain.go (z := 7) (t := 11) (n := 16) (w0 := w.heap.size + 1 + 1) (k := 1) ?_ #[.int .u8 0, .int .u8 0, .int .u8 0, .int .u8 0, .int .u8 0, .int .u8 0, .int .u8 0, .int .u8 0, .int .u8 0, .int .u8 0, .int .u8 0, .int .u8 0, .int .u8 0, .int .u8 0, .int .u8 0, .int .u8 0] 36 rfl rfl rfl (fun _ _ => by kernel_rfl) (fun _ => (tag_zero _ _ _ rfl).there) (fun _ h => h.size) (fun _ _ h l => h.call l) _ K
  refine Chain.call 6 23 (fun v => v = .agg (row .u8 16 (atag k n bl b m z)).toArray) (by kernel_rfl) (by kernel_rfl) rfl rfl rfl (by decide) (by decide) (by intros; simp) (by decide +kernel) (fun _ => by kernel_rfl) (fun w' h => (refTag_any k n hk hn bp bl bc hbl hbn b hb sh m cap hlen hshn z (fun j hj => hz j (by omega)) w' (hsb.below h.below (Nat.le_refl _)) ((hh2 _ _ hs).below h.below (Nat.le_refl _))).mono fun e w'' ⟨he, l⟩ => ⟨_, he, rfl, l⟩) ?_
  rintro _ rfl
  simp only [Act.put, List.setIfInBounds_toArray, List.set_cons_zero, List.set_cons_succ]
  refine Chain.last (by kernel_rfl) ?_
  clear K
  intro G w4 K hFb
  simp only [Act.put, List.setIfInBounds_toArray, List.set_cons_zero, List.set_cons_succ]
  refine storesH (i := 8) none rfl .u8 16 (atag k n bl b m z) G 36 _ _ (by kernel_rfl) rfl rfl rfl rfl rfl (room_of hFb.th) (tag_info' _) (K.past G hFb.lo _) ?_
  refine wpAnyH_done (by kernel_rfl) ?_ _
  replace K := K.land hFb .u8 (atag k n bl b m z)
  clear hFb
  generalize w4.setCells G 0 (row .u8 16 (atag k n bl b m z)) = w5 at K ⊢
  generalize w4.heap.size = M5 at K
  go_upto_region 5 with fail
  refine wp_region_held_drew (S := fun w' => Kr w M5 [(G, .u8, 16, atag k n bl b m z), (w.heap.size + 1, .u8, 12, n), (w.heap.size, .u8, 32, k)] [] w') (by kernel_rfl) K.drew ?_
  clear K
  intro K
  refine pureH (i := 0) (some 24) rfl (.slice (some ⟨G, 0, none⟩) 16 16) rfl rfl (fun w' => cutAll _ _ _ _ rfl rfl (icut_tag G w')) (by kernel_rfl) (by kernel_rfl) (by kernel_rfl) (fun _ _ _ h => h) K ?_
  simp only [Act.put, List.setIfInBounds_toArray, List.set_cons_zero, List.set_cons_succ]
  refine readH (i := 1) (some 25) rfl (.string (txt 16 (atag k n bl b m z))) rfl rfl (fun w h => conv_txt 26 5 9 _ rfl Tryd.underlying26 Tryd.underlying5 Tryd.underlying9 (some ⟨G, 0, none⟩) 16 16 (atag k n bl b m z) rfl w (h.get _ _ _ _ List.mem_cons_self).src0 (fun e => by cases e)) (by kernel_rfl) (by kernel_rfl) (by kernel_rfl) (fun _ _ _ h => h) K ?_
  simp only [Act.put, List.setIfInBounds_toArray, List.set_cons_zero, List.set_cons_succ]
  refine pureH (i := 2) (some 26) rfl (.slice sp (m + 16) cap) rfl rfl (fun _ => by kernel_rfl) (by kernel_rfl) (by kernel_rfl) (by kernel_rfl) (fun _ _ _ h => h) K ?_
  simp only [Act.put, List.setIfInBounds_toArray, List.set_cons_zero, List.set_cons_succ]
  refine pureH (i := 3) (some 27) rfl (.int .i64 (m : Int)) rfl rfl (fun _ => by kernel_rfl) (by kernel_rfl) (by kernel_rfl) (by kernel_rfl) (fun _ _ _ h => h) K ?_
  simp only [Act.put, List.setIfInBounds_toArray, List.set_cons_zero, List.set_cons_succ]
  refine pureH (i := 4) (some 28) rfl (.slice sl 16 (cap - m)) rfl rfl (fun w' => cutOp _ _ _ _ _ _ rfl rfl rfl (hl1 w')) (by kernel_rfl) (by kernel_rfl) (by kernel_rfl) (fun _ _ _ h => h) K ?_
  simp only [Act.put, List.setIfInBounds_toArray, List.set_cons_zero, List.set_cons_succ]
  refine readH (i := 5) (some 29) rfl (.string (txt 16 (fun j => z (m + j)))) rfl rfl (fun w h => conv_txt 26 5 9 _ rfl Tryd.underlying26 Tryd.underlying5 Tryd.underlying9 sl 16 (cap - m) (fun j => z (m + j)) rfl w ((hl2 _ _ hs).below h.below (Nat.le_refl _)) (Src.none ((hl2 _ _ hs)))) (by kernel_rfl) (by kernel_rfl) (by kernel_rfl) (fun _ _ _ h => h) K ?_
  simp only [Act.put, List.setIfInBounds_toArray, List.set_cons_zero, List.set_cons_succ]
  refine pureH (i := 6) (some 30) rfl (.bool false) rfl rfl (fun w => neqS _ _ _ _ _ _ rfl rfl rfl false (by rw [tag_told k n bl b m z hz, decide_eq_true hok.out]; rfl) w) (by kernel_rfl) (by kernel_rfl) (by kernel_rfl) (fun _ _ _ h => h) K ?_
  simp only [Act.put, List.setIfInBounds_toArray, List.set_cons_zero, List.set_cons_succ]
  refine wpAnyH_done (by kernel_rfl) ?_ _
  clear hl1 hl2
  go_upto_region 7 with fail
  refine wp_region_held_drew (S := fun w' => Kr w M5 [(G, .u8, 16, atag k n bl b m z), (w.heap.size + 1, .u8, 12, n), (w.heap.size, .u8, 32, k)] [] w') (by kernel_rfl) K.drew ?_
  clear K
  intro K
  refine rowKH (i := 0) (some 31) rfl .u8 32 (k) (w.heap.size) 0 23 _ _ rfl rfl rfl rfl (by kernel_rfl) (by kernel_rfl) (by kernel_rfl) (fun _ _ _ h => h) Tryd.underlying23 rfl (key_info _) K (fun _ h => (h.get _ _ _ _ (List.mem_cons_of_mem _ (List.mem_cons_of_mem _ List.mem_cons_self))).range) ?_
  simp only [Act.put, List.setIfInBounds_toArray, List.set_cons_zero, List.set_cons_succ]
  refine rowKH (i := 1) (some 32) rfl .u8 12 (n) (w.heap.size + 1) 0 25 _ _ rfl rfl rfl rfl (by kernel_rfl) (by kernel_rfl) (by kernel_rfl) (fun _ _ _ h => h) Tryd.underlying25 rfl (hn_info _) K (fun _ h => (h.get _ _ _ _ (List.mem_cons_of_mem _ List.mem_cons_self)).range) ?_
  simp only [Act.put, List.setIfInBounds_toArray, List.set_cons_zero, List.set_cons_succ]
  refine pureH (i := 2) (some 33) rfl (.slice sp (m + 16) cap) rfl rfl (fun _ => by kernel_rfl) (by kernel_rfl) (by kernel_rfl) (by kernel_rfl) (fun _ _ _ h => h) K ?_
  simp only [Act.put, List.setIfInBounds_toArray, List.set_cons_zero, List.set_cons_succ]
  refine pureH (i := 3) (some 34) rfl (.int .i64 (m : Int)) rfl rfl (fun _ => by kernel_rfl) (by kernel_rfl) (by kernel_rfl) (by kernel_rfl) (fun _ _ _ h => h) K ?_
  simp only [Act.put, List.setIfInBounds_toArray, List.set_cons_zero, List.set_cons_succ]
  refine pureH (i := 4) (some 35) rfl (.slice sh m cap) rfl rfl (fun w' => cutHi _ _ _ _ _ _ rfl rfl rfl (hh1 w')) (by kernel_rfl) (by kernel_rfl) (by kernel_rfl) (fun _ _ _ h => h) K ?_
  simp only [Act.put, List.setIfInBounds_toArray, List.set_cons_zero, List.set_cons_succ]
  refine callH (i := 5) (some 36) rfl (by kernel_rfl) rfl rfl (fun _ => by kernel_rfl) (refXor_any k 1 n hk hn sh m cap (by omega) z _ ((hh2 _ _ hs).below K.below (Nat.le_refl _))) ?_
  rintro e w7 ⟨so, co, rfl, ⟨_, hso⟩, l⟩
  replace K := K.call l
  clear l
  refine ⟨_, rfl, K, ?_⟩
  simp only [Act.put, List.setIfInBounds_toArray, List.set_cons_zero, List.set_cons_succ]
  refine pureH (i := 6) (some 8) rfl (.slice so m co) rfl rfl (fun _ => by kernel_rfl) (by kernel_rfl) (by kernel_rfl) (by kernel_rfl) (fun _ _ _ h => h) K ?_
  simp only [Act.put, List.setIfInBounds_toArray, List.set_cons_zero, List.set_cons_succ]
  refine pureH (i := 7) (some 9) rfl (.int .i64 0) rfl rfl (fun _ => by kernel_rfl) (by kernel_rfl) (by kernel_rfl) (by kernel_rfl) (fun _ _ _ h => h) K ?_
  simp only [Act.put, List.setIfInBounds_toArray, List.set_cons_zero, List.set_cons_succ]
  refine wpAnyH_done (by kernel_rfl) ?_ _
  have hB := K.below
  clear K hh1 hh2
  go_wp2
  go_ret2
  exact ⟨so, co, rfl, hso, hB⟩

set_option maxRecDepth 10000 in
set_option maxHeartbeats 8000000 in
theorem refOpen_bad (k n : Nat → Int) (hk : In 256 32 k) (hn : In 256 12 n) (bp : Option Addr) (bl bc : Nat) (hbl : bl ≤ 35184372088832) (hbn : bp = none → bc = 0) (b : Nat → Int) (hb : In 256 bl b) (sp : Option Addr) (m cap : Nat) (hlen : m ≤ 35184372088832) (hcap : m + 16 ≤ cap) (hsn : sp = none → cap = 0) (z : Nat → Int) (hz : In 256 (m + 16) z) (hok : Hid (¬ atg k n bl b m z = val 256 (fun j => z (m + j)) 16)) (w : World) (hsb : Src w bp bl b) (hs : Src w sp (m + 16) z) :
    Calls Tryd.prog 12 #[(.agg (row .u8 32 (k)).toArray), (.agg (row .u8 12 (n)).toArray), .slice bp bl bc, .slice sp (m + 16) cap] w fun e w' => e = .returned (.tuple #[.slice none 0 0, .int .i64 70]) ∧ Below w.heap.size w w' := by
  obtain ⟨sh, hh1, hh2, hh3⟩ := cut_hi2 (P := Tryd.prog) (t := 26) (by kernel_rfl) (fun _ => by kernel_rfl) sp (m + 16) cap m (by omega) hcap
  obtain ⟨sl, hl1, hl2⟩ := cut_lo (P := Tryd.prog) (t := 26) (by kernel_rfl) (fun _ => by kernel_rfl) sp (m + 16) cap m (by omega) hcap
  rw [show m + 16 - m = 16 by omega] at hl1 hl2
  have hshn : sh = none → cap = 0 := fun e => hsn (hh3 e)
  clear hh3
  have K := Kr.init w
  replace K := K.box .u8 32 k 23 (w.heap.size) rfl
  replace K := K.box .u8 12 n 25 (w.heap.size + 1) (by simp)
  go_enter Tryd.func12, Tryd.ntmps12
  go_upto_region 1 with fail
  generalize ((w.alloc (.cells (row .u8 32 k).toArray 23)).alloc (.cells (row .u8 12 n).toArray 25)) = w0 at K ⊢
  refine wp_region_list ?_
  refine pureL (.slice sp (m + 16) cap) rfl (fun _ => by kernel_rfl) ?_
  simp only [Act.put, List.setIfInBounds_toArray, List.set_cons_zero, List.set_cons_succ]
  refine pureL (.int .i64 ((m + 16 : Nat) : Int)) rfl (fun w => lenS _ 26 5 sp (m + 16) cap rfl Tryd.underlying26 rfl w) ?_
  simp only [Act.put, List.setIfInBounds_toArray, List.set_cons_zero, List.set_cons_succ]
  refine pureL (.int .i64 (m : Int)) rfl (fun w => subI .i64 _ _ _ _ _ _ _ rfl rfl rfl (by rw [IntKind.wrap_i64]; omega) w) ?_
  simp only [Act.put, List.setIfInBounds_toArray, List.set_cons_zero, List.set_cons_succ]
  refine pureL (.int .i64 (m : Int)) rfl (fun _ => by kernel_rfl) ?_
  simp only [Act.put, List.setIfInBounds_toArray, List.set_cons_zero, List.set_cons_succ]
  show Exit.then _ _ _ _ _
  go_upto_region 2 with fail
  refine wp_region_list ?_
  refine pureL (.int .i64 (m : Int)) rfl (fun _ => by kernel_rfl) ?_
  simp only [Act.put, List.setIfInBounds_toArray, List.set_cons_zero, List.set_cons_succ]
  refine pureL (.bool false) rfl (fun w => lssI .i64 _ _ _ _ _ _ rfl rfl rfl false (decide_eq_false (by omega)) w) ?_
  simp only [Act.put, List.setIfInBounds_toArray, List.set_cons_zero, List.set_cons_succ]
  show Exit.then _ _ _ _ _
  go_upto_region 4 with fail
  refine wp_region_held_drew (S := fun w' => Kr w (w.heap.size + 1 + 1) [(w.heap.size + 1, .u8, 12, n), (w.heap.size, .u8, 32, k)] [] w') (by kernel_rfl) K.drew ?_
  clear K
  intro K
  refine rowKH (i := 0) (some 17) rfl .u8 32 (k) (w.heap.size) 0 23 _ _ rfl rfl rfl rfl (by kernel_rfl) (by kernel_rfl) (by kernel_rfl) (fun _ _ _ h => h) Tryd.underlying23 rfl (key_info _) K (fun _ h => (h.get _ _ _ _ (List.mem_cons_of_mem _ List.mem_cons_self)).range) ?_
  simp only [Act.put, List.setIfInBounds_toArray, List.set_cons_zero, List.set_cons_succ]
  refine rowKH (i := 1) (some 18) rfl .u8 12 (n) (w.heap.size + 1) 0 25 _ _ rfl rfl rfl rfl (by kernel_rfl) (by kernel_rfl) (by kernel_rfl) (fun _ _ _ h => h) Tryd.underlying25 rfl (hn_info _) K (fun _ h => (h.get _ _ _ _ List.mem_cons_self).range) ?_
  simp only [Act.put, List.setIfInBounds_toArray, List.set_cons_zero, List.set_cons_succ]
  refine pureH (i := 2) (some 19) rfl (.slice bp bl bc) rfl rfl (fun _ => by kernel_rfl) (by kernel_rfl) (by kernel_rfl) (by kernel_rfl) (fun _ _ _ h => h) K ?_
  simp only [Act.put, List.setIfInBounds_toArray, List.set_cons_zero, List.set_cons_succ]
  refine pureH (i := 3) (some 20) rfl (.slice sp (m + 16) cap) rfl rfl (fun _ => by kernel_rfl) (by kernel_rfl) (by kernel_rfl) (by kernel_rfl) (fun _ _ _ h => h) K ?_
  simp only [Act.put, List.setIfInBounds_toArray, List.set_cons_zero, List.set_cons_succ]
  refine pureH (i := 4) (some 21) rfl (.int .i64 (m : Int)) rfl rfl (fun _ => by kernel_rfl) (by kernel_rfl) (by kernel_rfl) (by kernel_rfl) (fun _ _ _ h => h) K ?_
  simp only [Act.put, List.setIfInBounds_toArray, List.set_cons_zero, List.set_cons_succ]
  refine pureH (i := 5) (some 22) rfl (.slice sh m cap) rfl rfl (fun w' => cutHi _ _ _ _ _ _ rfl rfl rfl (hh1 w')) (by kernel_rfl) (by kernel_rfl) (by kernel_rfl) (fun _ _ _ h => h) K ?_
  simp only [Act.put, List.setIfInBounds_toArray, List.set_cons_zero, List.set_cons_succ]
  refine Chain.go (z := 7) (t := 11) (n := 16) (w0 := w.heap.size + 1 + 1) (k := 1) ?_ #[.int .u8 0, .int .u8 0, .int .u8 0, .int .u8 0, .int .u8 0, .int .u8 0, .int .u8 0, .int .u8 0, .int .u8 0, .int .u8 0, .int .u8 0, .int .u8 0, .int .u8 0, .int .u8 0, .int .u8 0, .int .u8 0] 36 rfl rfl rfl (fun _ _ => by kernel_rfl) (fun _ => (tag_zero _ _ _ rfl).there) (fun _ h => h.size) (fun _ _ h l => h.call l) _ K
  refine Chain.call 6 23 (fun v => v = .agg (row .u8 16 (atag k n bl b m z)).toArray) (by kernel_rfl) (by kernel_rfl) rfl rfl rfl (by decide) (by decide) (by intros; simp) (by decide +kernel) (fun _ => by kernel_rfl) (fun w' h => (refTag_any k n hk hn bp bl bc hbl hbn b hb sh m cap hlen hshn z (fun j hj => hz j (by omega)) w' (hsb.below h.below (Nat.le_refl _)) ((hh2 _ _ hs).below h.below (Nat.le_refl _))).mono fun e w'' ⟨he, l⟩ => ⟨_, he, rfl, l⟩) ?_
  rintro _ rfl
  simp only [Act.put, List.setIfInBounds_toArray, List.set_cons_zero, List.set_cons_succ]
  refine Chain.last (by kernel_rfl) ?_
  clear K
  intro G w4 K hFb
  simp only [Act.put, List.setIfInBounds_toArray, List.set_cons_zero, List.set_cons_succ]
  refine storesH (i := 8) none rfl .u8 16 (atag k n bl b m z) G 36 _ _ (by kernel_rfl) rfl rfl rfl rfl rfl (room_of hFb.th) (tag_info' _) (K.past G hFb.lo _) ?_
  refine wpAnyH_done (by kernel_rfl) ?_ _
  replace K := K.land hFb .u8 (atag k n bl b m z)
  clear hFb
  generalize w4.setCells G 0 (row .u8 16 (atag k n bl b m z)) = w5 at K ⊢
  generalize w4.heap.size = M5 at K
  go_upto_region 5 with fail
  refine wp_region_held_drew (S := fun w' => Kr w M5 [(G, .u8, 16, atag k n bl b m z), (w.heap.size + 1, .u8, 12, n), (w.heap.size, .u8, 32, k)] [] w') (by kernel_rfl) K.drew ?_
  clear K
  intro K
  refine pureH (i := 0) (some 24) rfl (.slice (some ⟨G, 0, none⟩) 16 16) rfl rfl (fun w' => cutAll _ _ _ _ rfl rfl (icut_tag G w')) (by kernel_rfl) (by kernel_rfl) (by kernel_rfl) (fun _ _ _ h => h) K ?_
  simp only [Act.put, List.setIfInBounds_toArray, List.set_cons_zero, List.set_cons_succ]
  refine readH (i := 1) (some 25) rfl (.string (txt 16 (atag k n bl b m z))) rfl rfl (fun w h => conv_txt 26 5 9 _ rfl Tryd.underlying26 Tryd.underlying5 Tryd.underlying9 (some ⟨G, 0, none⟩) 16 16 (atag k n bl b m z) rfl w (h.get _ _ _ _ List.mem_cons_self).src0 (fun e => by cases e)) (by kernel_rfl) (by kernel_rfl) (by kernel_rfl) (fun _ _ _ h => h) K ?_
  simp only [Act.put, List.setIfInBounds_toArray, List.set_cons_zero, List.set_cons_succ]
  refine pureH (i := 2) (some 26) rfl (.slice sp (m + 16) cap) rfl rfl (fun _ => by kernel_rfl) (by kernel_rfl) (by kernel_rfl) (by kernel_rfl) (fun _ _ _ h => h) K ?_
  simp only [Act.put, List.setIfInBounds_toArray, List.set_cons_zero, List.set_cons_succ]
  refine pureH (i := 3) (some 27) rfl (.int .i64 (m : Int)) rfl rfl (fun _ => by kernel_rfl) (by kernel_rfl) (by kernel_rfl) (by kernel_rfl) (fun _ _ _ h => h) K ?_
  simp only [Act.put, List.setIfInBounds_toArray, List.set_cons_zero, List.set_cons_succ]
  refine pureH (i := 4) (some 28) rfl (.slice sl 16 (cap - m)) rfl rfl (fun w' => cutOp _ _ _ _ _ _ rfl rfl rfl (hl1 w')) (by kernel_rfl) (by kernel_rfl) (by kernel_rfl) (fun _ _ _ h => h) K ?_
  simp only [Act.put, List.setIfInBounds_toArray, List.set_cons_zero, List.set_cons_succ]
  refine readH (i := 5) (some 29) rfl (.string (txt 16 (fun j => z (m + j)))) rfl rfl (fun w h => conv_txt 26 5 9 _ rfl Tryd.underlying26 Tryd.underlying5 Tryd.underlying9 sl 16 (cap - m) (fun j => z (m + j)) rfl w ((hl2 _ _ hs).below h.below (Nat.le_refl _)) (Src.none ((hl2 _ _ hs)))) (by kernel_rfl) (by kernel_rfl) (by kernel_rfl) (fun _ _ _ h => h) K ?_
  simp only [Act.put, List.setIfInBounds_toArray, List.set_cons_zero, List.set_cons_succ]
  refine pureH (i := 6) (some 30) rfl (.bool true) rfl rfl (fun w => neqS _ _ _ _ _ _ rfl rfl rfl true (by rw [tag_told k n bl b m z hz, decide_eq_false hok.out]; rfl) w) (by kernel_rfl) (by kernel_rfl) (by kernel_rfl) (fun _ _ _ h => h) K ?_
  simp only [Act.put, List.setIfInBounds_toArray, List.set_cons_zero, List.set_cons_succ]
  refine wpAnyH_done (by kernel_rfl) ?_ _
  have hB := K.below
  clear K hl1 hl2 hh1 hh2
  go_wp2
  go_ret2
  exact ⟨rfl, hB⟩

theorem refOpen_any (k n : Nat → Int) (hk : In 256 32 k) (hn : In 256 12 n) (bp : Option Addr) (bl bc : Nat) (hbl : bl ≤ 35184372088832) (hbn : bp = none → bc = 0) (b : Nat → Int) (hb : In 256 bl b) (sp : Option Addr) (len cap : Nat) (hlen : len ≤ 35184372088832) (hcap : len ≤ cap) (hsn : sp = none → cap = 0) (z : Nat → Int) (hz : In 256 len z) (w : World) (hsb : Src w bp bl b) (hs : Src w sp len z) :
    Calls Tryd.prog 12 #[(.agg (row .u8 32 (k)).toArray), (.agg (row .u8 12 (n)).toArray), .slice bp bl bc, .slice sp len cap] w fun e w' => ∃ sp' cap', e = .returned (.tuple #[.slice sp' (aoL k n bl b len z) cap', .int .i64 (aoE k n bl b len z)]) ∧ Src w' sp' (aoL k n bl b len z) (hxor k 1 n z) ∧ Below w.heap.size w w' := by
  by_cases h16 : len < 16
  · have e0 : ¬ aok k n bl b len z := fun h => by have := h.1; omega
    have e1 : aoL k n bl b len z = 0 := by unfold aoL; rw [if_neg e0]
    have e2 : aoE k n bl b len z = 3 := by unfold aoE; rw [if_pos h16]
    rw [e1, e2]
    exact (refOpen_short k n bp bl bc sp len cap h16 w).mono fun e w' h => ⟨none, 0, h.1, fun j hj => absurd hj (Nat.not_lt_zero j), h.2⟩
  · obtain ⟨m, rfl⟩ : ∃ m, len = m + 16 := ⟨len - 16, by omega⟩
    have e3 : m + 16 - 16 = m := by omega
    by_cases h : atg k n bl b m z = val 256 (fun j => z (m + j)) 16
    · have e0 : aok k n bl b (m + 16) z := ⟨by omega, by rw [e3]; exact h⟩
      have e1 : aoL k n bl b (m + 16) z = m := by unfold aoL; rw [if_pos e0, e3]
      have e2 : aoE k n bl b (m + 16) z = 0 := by unfold aoE; rw [if_neg h16, if_pos e0]
      rw [e1, e2]
      exact refOpen_good k n hk hn bp bl bc hbl hbn b hb sp m cap (by omega) hcap hsn z hz h w hsb hs
    · have e0 : ¬ aok k n bl b (m + 16) z := fun h' => h (by have := h'.2; rw [e3] at this; exact this)
      have e1 : aoL k n bl b (m + 16) z = 0 := by unfold aoL; rw [if_neg e0]
      have e2 : aoE k n bl b (m + 16) z = 70 := by unfold aoE; rw [if_neg h16, if_neg e0]
      rw [e1, e2]
      exact (refOpen_bad k n hk hn bp bl bc hbl hbn b hb sp m cap (by omega) hcap hsn z hz h w hsb hs).mono fun e w' h => ⟨none, 0, h.1, fun j hj => absurd hj (Nat.not_lt_zero j), h.2⟩
end Go.Proofs.YteclkiabkdaklaaDoor

namespace Go.Proofs.YteclkiabkdaklaaDoor
open Go.RowKit

def boxm (k n : Nat → Int) (bp : Option Addr) (bl bc : Nat) : List Value := row .u8 32 k ++ (row .u8 12 n ++ [.slice bp bl bc])
structure Bx (w : World) (b : Nat) (k n : Nat → Int) (bp : Option Addr) (bl bc : Nat) : Prop where
  key : w.rangeAt b 0 (row .u8 32 k)
  non : w.rangeAt b 32 (row .u8 12 n)
  bes : w.cell? ⟨b, 44, none⟩ = some (.slice bp bl bc)
  lt : b < w.heap.size
theorem Bx.new (w : World) (k n : Nat → Int) (bp : Option Addr) (bl bc : Nat) (t : TypeId) : Bx (w.alloc (.cells (boxm k n bp bl bc).toArray t)) w.heap.size k n bp bl bc := by
  have h : ∀ i, (w.alloc (.cells (boxm k n bp bl bc).toArray t)).cell? ⟨w.heap.size, i, none⟩ = (boxm k n bp bl bc)[i]? := fun i => by rw [World.cell?_alloc_at _ _ _ _ rfl]; simp
  refine ⟨fun j v hv => ?_, fun j v hv => ?_, ?_, by simp⟩
  · obtain ⟨hj, rfl⟩ := row_get_some hv
    rw [Nat.zero_add, h]
    unfold boxm
    rw [List.getElem?_append_left (by rw [row_length]; exact hj)]
    exact row_get _ _ _ _ hj
  · obtain ⟨hj, rfl⟩ := row_get_some hv
    rw [h]
    unfold boxm
    rw [List.getElem?_append_right (by rw [row_length]; omega), row_length, show 32 + j - 32 = j by omega, List.getElem?_append_left (by rw [row_length]; exact hj)]
    exact row_get _ _ _ _ hj
  · rw [h]
    unfold boxm
    rw [List.getElem?_append_right (by rw [row_length]; decide), row_length, List.getElem?_append_right (by rw [row_length]; decide), row_length]
    rfl
theorem Bx.below {w w' : World} {b : Nat} {k n : Nat → Int} {bp : Option Addr} {bl bc : Nat} (h : Bx w b k n bp bl bc) (l : Below w.heap.size w w') : Bx w' b k n bp bl bc :=
  ⟨fun j v hv => by rw [l.cell (p := ⟨b, 0 + j, none⟩) h.lt]; exact h.key j v hv, fun j v hv => by rw [l.cell (p := ⟨b, 32 + j, none⟩) h.lt]; exact h.non j v hv, by rw [l.cell (p := ⟨b, 44, none⟩) h.lt]; exact h.bes, Nat.lt_of_lt_of_le h.lt l.size⟩
/-- The block, the slices of L, and what stood in w. -/
structure AL (w : World) (b : Nat) (k n : Nat → Int) (bp : Option Addr) (bl bc : Nat) (L : List (Option Addr × Nat × (Nat → Int))) (w' : World) : Prop where
  st : Bx w' b k n bp bl bc
  src : ∀ p ∈ L, Src w' p.1 p.2.1 p.2.2
  below : Below w.heap.size w w'
section
variable {w w' w'' : World} {b : Nat} {k n : Nat → Int} {bp : Option Addr} {bl bc : Nat} {L : List (Option Addr × Nat × (Nat → Int))}
theorem AL.call (h : AL w b k n bp bl bc L w') (l : Below w'.heap.size w' w'') : AL w b k n bp bl bc L w'' :=
  ⟨h.st.below l, fun p hp => (h.src p hp).below l (Nat.le_refl _), h.below.trans (l.mono h.below.size)⟩
theorem AL.drew (h : AL w b k n bp bl bc L w') : AL w b k n bp bl bc L w'.drew := h.call (Below.refl _ _).drew
theorem AL.add (h : AL w b k n bp bl bc L w') (sp : Option Addr) (len : Nat) (z : Nat → Int) (hs : Src w' sp len z) : AL w b k n bp bl bc ((sp, len, z) :: L) w' :=
  ⟨h.st, fun p hp => by
    rcases List.mem_cons.1 hp with rfl | hp
    · exact hs
    · exact h.src p hp, h.below⟩
theorem AL.get (h : AL w b k n bp bl bc L w') (sp : Option Addr) (len : Nat) (z : Nat → Int) (hp : (sp, len, z) ∈ L) : Src w' sp len z := h.src _ hp
end
theorem loadCell {P : Program} {o : Oper} {a : Act} {w : World} (ty e : TypeId) (x : Operand) (p : Addr) (v : Value) (ho : o.op = .load ty x) (hx : a.eval x = .pointer (some p)) (hu : P.underlying ty = some (.slice e)) (hc : w.cell? p = some v) : (execOp a.eval o).run P w = .ok (.value v) w := by
  have hagg : (isAgg ty).run P w = .ok false w := by
    unfold isAgg
    rw [Sem.run_bind, run_underlying hu w]
    rfl
  have e : (loadVar ty p).run P w = .ok v w := by simp [loadVar, Sem.run_bind, hagg, hc]
  unfold execOp
  simp only [ho, hx, Instr.loadAt, Instr.sureAddr, Sem.run_bind, Sem.run_pure, Result.andThen_ok, e]
end Go.Proofs.YteclkiabkdaklaaDoor

namespace Go.Proofs.YteclkiabkdaklaaDoor
open Go.RowKit

structure AGlob (w : World) : Prop where
  h : HGlob w
  c : Glob w
theorem AGlob.size {w : World} (g : AGlob w) : 4 ≤ w.heap.size := g.h.size
theorem AGlob.below {w w' : World} (g : AGlob w) {B : Nat} (l : Below B w w') (hB : 4 ≤ B) : AGlob w' := ⟨g.h.below l hB, g.c.below l hB⟩
def ASealOK : Prop := ∀ (k n : Nat → Int), In 256 32 k → In 256 12 n → ∀ (bp : Option Addr) (bl bc : Nat), bl ≤ 140737488351232 → bl ≤ bc → (bp = none → bc = 0) → ∀ b : Nat → Int, In 256 bl b → ∀ (sp : Option Addr) (len cap : Nat), len ≤ 140737488351232 → len ≤ cap → (sp = none → cap = 0) → ∀ z : Nat → Int, In 256 len z → ∀ w : World, AGlob w → Src w bp bl b → Src w sp len z →
    Calls Tryd.prog 9 #[(.agg (row .u8 32 (k)).toArray), (.agg (row .u8 12 (n)).toArray), .slice bp bl bc, .slice sp len cap] w fun e w' => ∃ B cap', e = .returned (.slice (some ⟨B, 0, none⟩) (len + 16) cap') ∧ (len + 16 ≤ cap' ∧ w.heap.size ≤ B ∧ B < w'.heap.size ∧ Has w' B .u8 (len + 16) (aout k n bl b len z)) ∧ Below w.heap.size w w'
def AOpenOK : Prop := ∀ (k n : Nat → Int), In 256 32 k → In 256 12 n → ∀ (bp : Option Addr) (bl bc : Nat), bl ≤ 140737488351232 → bl ≤ bc → (bp = none → bc = 0) → ∀ b : Nat → Int, In 256 bl b → ∀ (sp : Option Addr) (len cap : Nat), len ≤ 140737488351248 → len ≤ cap → (sp = none → cap = 0) → ∀ z : Nat → Int, In 256 len z → ∀ w : World, AGlob w → Src w bp bl b → Src w sp len z →
    Calls Tryd.prog 11 #[(.agg (row .u8 32 (k)).toArray), (.agg (row .u8 12 (n)).toArray), .slice bp bl bc, .slice sp len cap] w fun e w' => ∃ sp' cap', e = .returned (.tuple #[.slice sp' (aoL k n bl b len z) cap', .int .i64 (aoE k n bl b len z)]) ∧ Src w' sp' (aoL k n bl b len z) (hxor k 1 n z) ∧ Below w.heap.size w w'
end Go.Proofs.YteclkiabkdaklaaDoor

namespace Go.Proofs.YteclkiabkdaklaaDoor
open Go.RowKit

def ekk : Nat → Int := fun j => 128 + (j : Int)
def enn : Nat → Int := bl [7, 0, 0, 0, 64, 65, 66, 67, 68, 69, 70, 71]
def ebs : Nat → Int := bl [80, 81, 82, 83, 192, 193, 194, 195, 196, 197, 198, 199]
def etx : Nat → Int := bl [76, 97, 100, 105, 101, 115, 32, 97, 110, 100, 32, 71, 101, 110, 116, 108, 101, 109, 101, 110, 32, 111, 102, 32, 116, 104, 101, 32, 99, 108, 97, 115, 115, 32, 111, 102, 32, 39, 57, 57, 58, 32, 73, 102, 32, 73, 32, 99, 111, 117, 108, 100, 32, 111, 102, 102, 101, 114, 32, 121, 111, 117, 32, 111, 110, 108, 121, 32, 111, 110, 101, 32, 116, 105, 112, 32, 102, 111, 114, 32, 116, 104, 101, 32, 102, 117, 116, 117, 114, 101, 44, 32, 115, 117, 110, 115, 99, 114, 101, 101, 110, 32, 119, 111, 117, 108, 100, 32, 98, 101, 32, 105, 116, 46]
def ewn : Nat → Int := bl [26, 225, 11, 89, 79, 9, 226, 106, 126, 144, 46, 203, 208, 96, 6, 145]
def ect : Nat → Int := bl [211, 26, 141, 52, 100, 142, 96, 219, 123, 134, 175, 188, 83, 239, 126, 194, 164, 173, 237, 81, 41, 110, 8, 254, 169, 226, 181, 167, 54, 238, 98, 214, 61, 190, 164, 94, 140, 169, 103, 18, 130, 250, 251, 105, 218, 146, 114, 139, 26, 113, 222, 10, 158, 6, 11, 41, 5, 214, 165, 182, 126, 205, 59, 54, 146, 221, 189, 127, 45, 119, 139, 140, 152, 3, 174, 227, 40, 9, 27, 88, 250, 179, 36, 228, 250, 214, 117, 148, 85, 133, 128, 139, 72, 49, 215, 188, 63, 244, 222, 240, 142, 75, 122, 157, 229, 118, 210, 101, 134, 206, 198, 75, 97, 22]
theorem ekk_in : In 256 32 ekk := fun j hj => by unfold ekk; omega
theorem enn_in : In 256 12 enn := bl_in _ _ (by decide)
theorem ebs_in : In 256 12 ebs := bl_in _ _ (by decide)
theorem etx_in : In 256 114 etx := bl_in _ _ (by decide)
theorem ewn_in : In 256 16 ewn := bl_in _ _ (by decide)
/-- Double rounds, as a list. -/
def evS : Nat → Int → Int → Int → Int → Int → Int → Int → Int → Int → Int → Int → Int → Int → Int → Int → Int → List Int
  | 0, x0, x1, x2, x3, x4, x5, x6, x7, x8, x9, x10, x11, x12, x13, x14, x15 => [x0, x1, x2, x3, x4, x5, x6, x7, x8, x9, x10, x11, x12, x13, x14, x15]
  | n + 1, x0, x1, x2, x3, x4, x5, x6, x7, x8, x9, x10, x11, x12, x13, x14, x15 => ev8 x0 x1 x2 x3 x4 x5 x6 x7 x8 x9 x10 x11 x12 x13 x14 x15 (evS n)
theorem evS_eq : ∀ (m : Nat) (x0 x1 x2 x3 x4 x5 x6 x7 x8 x9 x10 x11 x12 x13 x14 x15 : Int) (i : Nat), i < 16 → (evS m x0 x1 x2 x3 x4 x5 x6 x7 x8 x9 x10 x11 x12 x13 x14 x15).getD i 0 = evN m x0 x1 x2 x3 x4 x5 x6 x7 x8 x9 x10 x11 x12 x13 x14 x15 i
  | 0, _, _, _, _, _, _, _, _, _, _, _, _, _, _, _, _, i, hi => by
    match i, hi with
    | 0, _ | 1, _ | 2, _ | 3, _ | 4, _ | 5, _ | 6, _ | 7, _ | 8, _ | 9, _ | 10, _ | 11, _ | 12, _ | 13, _ | 14, _ | 15, _ => rfl
    | _ + 16, hi => exact absurd hi (by omega)
  | m + 1, x0, x1, x2, x3, x4, x5, x6, x7, x8, x9, x10, x11, x12, x13, x14, x15, i, hi => by
    show (ev8 x0 x1 x2 x3 x4 x5 x6 x7 x8 x9 x10 x11 x12 x13 x14 x15 (evS m)).getD i 0 = ev8 x0 x1 x2 x3 x4 x5 x6 x7 x8 x9 x10 x11 x12 x13 x14 x15 (evN m) i
    simp only [ev8, forceI_eq]
    exact evS_eq m _ _ _ _ _ _ _ _ _ _ _ _ _ _ _ _ i hi
theorem eblk (c : Int) (L F : List Int) (h : evS 10 1634760805 857760878 2036477234 1797285236 (w32 ekk 0) (w32 ekk 4) (w32 ekk 8) (w32 ekk 12) (w32 ekk 16) (w32 ekk 20) (w32 ekk 24) (w32 ekk 28) c (w32 enn 0) (w32 enn 4) (w32 enn 8) = L) (hf : ∀ i : Fin 16, had (L.getD i.val 0) (hst ekk c enn i.val) = F.getD i.val 0) (j : Nat) (hj : j < 64) : hblk ekk c enn j = b32 (F.getD (j / 4) 0) (j % 4) := by
  have e : hwd ekk c enn (j / 4) = F.getD (j / 4) 0 := by
    have hq : j / 4 < 16 := by omega
    unfold hwd
    rw [← hf ⟨j / 4, hq⟩, ← h, evS_eq 10 _ _ _ _ _ _ _ _ _ _ _ _ _ _ _ _ (j / 4) hq, evN_eq]
    rfl
  unfold hblk
  rw [e]
def eR0 : List Int := [3283825686, 2082951103, 3692595415, 422937648, 4032061322, 1683156876, 3974826402, 1875199922, 1262087442, 481773081, 1224834617, 950300205, 2358556604, 2340244292, 4125472061, 3475201774]
def eF0 : List Int := [623619195, 2940711981, 1434105353, 2220222884, 1943462154, 3956897040, 2020971306, 4283684158, 3737943714, 3025001389, 3835434961, 3628272585, 2358556604, 2340244299, 958920317, 376022066]
theorem eblk0 (j : Nat) (hj : j < 64) : hblk ekk 0 enn j = b32 (eF0.getD (j / 4) 0) (j % 4) := eblk 0 eR0 eF0 (by decide +kernel) (by decide +kernel) j hj
def eR1 : List Int := [4235789114, 2267060371, 2184033507, 1122638786, 3154526017, 1458011013, 4232446293, 359986377, 2771979454, 2479356184, 1947746592, 1219771998, 1857160308, 1332570551, 2353226528, 299201229]
def eF1 : List Int := [1575582623, 3124821249, 4220510741, 2919924022, 1065926849, 3731751177, 2278591197, 2768470613, 952868430, 727617196, 263379640, 3897744378, 1857160309, 1332570558, 3481642080, 1494988817]
theorem eblk1 (j : Nat) (hj : j < 64) : hblk ekk 1 enn j = b32 (eF1.getD (j / 4) 0) (j % 4) := eblk 1 eR1 eF1 (by decide +kernel) (by decide +kernel) j hj
def eR2 : List Int := [4266932631, 2043524308, 1249656250, 222888154, 1086282254, 1501240856, 539121311, 1076541103, 36238540, 1517737548, 2853929208, 2202537544, 51132435, 3614193095, 3089184102, 498707097]
def eF2 : List Int := [1606726140, 2901285186, 3286133484, 2020173390, 3292650382, 3774981020, 2880233511, 3485025339, 2512094812, 4060965856, 1169562256, 585542628, 51132437, 3614193102, 4217599654, 1694494685]
theorem eblk2 (j : Nat) (hj : j < 64) : hblk ekk 2 enn j = b32 (eF2.getD (j / 4) 0) (j % 4) := eblk 2 eR2 eF2 (by decide +kernel) (by decide +kernel) j hj
theorem ect_lo : ∀ j : Fin 64, bits .xor .u8 (etx j.val) (b32 (eF1.getD (j.val / 4) 0) (j.val % 4)) = ect j.val := by decide +kernel
theorem ect_hi : ∀ j : Fin 50, bits .xor .u8 (etx (64 + j.val)) (b32 (eF2.getD (j.val / 4) 0) (j.val % 4)) = ect (64 + j.val) := by decide +kernel
theorem ect_is (j : Nat) (hj : j < 114) : hxor ekk 1 enn etx j = ect j := by
  unfold hxor
  by_cases e : j < 64
  · rw [show j / 64 = 0 by omega, show j % 64 = j by omega, show ((1 : Int) + ((0 : Nat) : Int)) % 4294967296 = 1 by decide, eblk1 j e]
    exact ect_lo ⟨j, e⟩
  · rw [show j / 64 = 1 by omega, show j % 64 = j - 64 by omega, show ((1 : Int) + ((1 : Nat) : Int)) % 4294967296 = 2 by decide, eblk2 (j - 64) (by omega)]
    have h := ect_hi ⟨j - 64, by omega⟩
    simp only [show 64 + (j - 64) = j by omega] at h
    exact h
def eky : Nat → Int := fun j => b32 (eF0.getD (j / 4) 0) (j % 4)
theorem ptag_key (k k' : Nat → Int) (len : Nat) (z : Nat → Int) (h : ∀ j, j < 32 → k j = k' j) : ptag k len z = ptag k' len z := by
  have e1 : pR k = pR k' := val_congr 256 16 fun j hj => by simp only [trimT, h j (by omega)]
  have e2 : pS k = pS k' := val_congr 256 16 fun j hj => h (16 + j) (by omega)
  unfold ptag
  rw [e1, e2]
theorem etag_val : ptag eky (amt 12 114) (amx 12 ebs 114 ect) = val 256 ewn 16 := by decide +kernel
theorem enot_val : ¬ ptag eky (amt 12 0) (amx 12 ebs 0 (fun _ => 0)) = val 256 (fun _ => 0) 16 := by decide +kernel
theorem etag (j : Nat) (hj : j < 16) : atag ekk enn 12 ebs 114 (hxor ekk 1 enn etx) j = ewn j := by
  refine val_inj 256 (by decide) _ _ 16 (atag_in _ _ _ _ _ _ _) ewn_in ?_ j hj
  rw [atag_val, atg_congr ekk enn 12 ebs ebs 114 _ ect (fun _ _ => rfl) ect_is, ← etag_val]
  exact ptag_key _ _ _ _ (fun j hj => eblk0 j (by omega))
theorem eout : aout ekk enn 12 ebs 114 etx 0 = 211 ∧ aout ekk enn 12 ebs 114 etx 1 = 26 ∧ ∀ j, j < 16 → aout ekk enn 12 ebs 114 etx (114 + j) = ewn j := by
  have h0 : ∀ j, j < 114 → aout ekk enn 12 ebs 114 etx j = ect j := fun j hj => by
    unfold aout app
    rw [if_pos hj, ect_is j hj]
  refine ⟨by rw [h0 0 (by decide)]; rfl, by rw [h0 1 (by decide)]; rfl, fun j hj => ?_⟩
  unfold aout app
  rw [if_neg (by omega), show 114 + j - 114 = j by omega]
  exact etag j hj
theorem eshort : aoE ekk enn 12 ebs 15 (fun _ => 0) = 3 := by unfold aoE; rw [if_pos (by decide)]
theorem eforged : aoE ekk enn 12 ebs 16 (fun _ => 0) = 70 := by
  unfold aoE
  rw [if_neg (by decide), if_neg]
  intro h
  have h2 := h.2
  unfold atg at h2
  rw [ptag_key _ eky _ _ (fun j hj => eblk0 j (by omega))] at h2
  exact enot_val h2
end Go.Proofs.YteclkiabkdaklaaDoor

namespace Go.Proofs.YteclkiabkdaklaaDoor
open Go.RowKit

theorem zeros_in (n : Nat) : In 256 n (fun _ => 0) := fun _ _ => ⟨Int.le_refl 0, (by decide : (0 : Int) < 256)⟩
theorem hn_zero2 (w : World) (t : TypeId) (b : Nat) (hb : b = w.heap.size) : Has (w.alloc (.cells #[.int .u8 0, .int .u8 0, .int .u8 0, .int .u8 0, .int .u8 0, .int .u8 0, .int .u8 0, .int .u8 0, .int .u8 0, .int .u8 0, .int .u8 0, .int .u8 0] t)) b .u8 12 (fun _ => 0) := Has.new w .u8 12 (fun _ => 0) t b hb
set_option maxRecDepth 10000 in
set_option maxHeartbeats 8000000 in
theorem ashown_any (hS : ASealOK) (hO : AOpenOK) (w : World) (hg : AGlob w) :
    Calls Tryd.prog 8 #[] w fun e w' => e = .returned (.bool true) ∧ Below w.heap.size w w' := by
  have K := Kr.init w
  go_enter Tryd.func8, Tryd.ntmps8
  go_upto_region 1 with fail
  refine wp_region_list ?_
  refine pureL (.agg (row .u8 32 (fun _ => 0)).toArray) rfl (fun _ => by kernel_rfl) ?_
  simp only [Act.put, List.setIfInBounds_toArray, List.set_cons_zero, List.set_cons_succ]
  refine allocL #[.int .u8 0, .int .u8 0, .int .u8 0, .int .u8 0, .int .u8 0, .int .u8 0, .int .u8 0, .int .u8 0, .int .u8 0, .int .u8 0, .int .u8 0, .int .u8 0, .int .u8 0, .int .u8 0, .int .u8 0, .int .u8 0, .int .u8 0, .int .u8 0, .int .u8 0, .int .u8 0, .int .u8 0, .int .u8 0, .int .u8 0, .int .u8 0, .int .u8 0, .int .u8 0, .int .u8 0, .int .u8 0, .int .u8 0, .int .u8 0, .int .u8 0, .int .u8 0] 23 rfl (fun _ => by kernel_rfl) ?_
  simp only [Act.put, List.setIfInBounds_toArray, List.set_cons_zero, List.set_cons_succ]
  refine storesL .u8 32 (fun _ => 0) w.heap.size 23 _ _ rfl rfl rfl rfl (room_of (key_zero _ _ _ rfl).there) (key_info' _) ?_
  simp only [Act.put]
  replace K := K.fresh .u8 32 (fun _ => 0) #[.int .u8 0, .int .u8 0, .int .u8 0, .int .u8 0, .int .u8 0, .int .u8 0, .int .u8 0, .int .u8 0, .int .u8 0, .int .u8 0, .int .u8 0, .int .u8 0, .int .u8 0, .int .u8 0, .int .u8 0, .int .u8 0, .int .u8 0, .int .u8 0, .int .u8 0, .int .u8 0, .int .u8 0, .int .u8 0, .int .u8 0, .int .u8 0, .int .u8 0, .int .u8 0, .int .u8 0, .int .u8 0, .int .u8 0, .int .u8 0, .int .u8 0, .int .u8 0] 23 (key_zero _ _ _ rfl).there
  generalize ((w.alloc (.cells #[.int .u8 0, .int .u8 0, .int .u8 0, .int .u8 0, .int .u8 0, .int .u8 0, .int .u8 0, .int .u8 0, .int .u8 0, .int .u8 0, .int .u8 0, .int .u8 0, .int .u8 0, .int .u8 0, .int .u8 0, .int .u8 0, .int .u8 0, .int .u8 0, .int .u8 0, .int .u8 0, .int .u8 0, .int .u8 0, .int .u8 0, .int .u8 0, .int .u8 0, .int .u8 0, .int .u8 0, .int .u8 0, .int .u8 0, .int .u8 0, .int .u8 0, .int .u8 0] 23)).setCells w.heap.size 0 (row .u8 32 (fun _ => 0))) = w0 at K ⊢
  show Exit.then _ _ _ _ _
  go_wp2
  go_loopw [2] (fun i w' => ∃ (m : Nat) (f : Nat → Int), m ≤ 32 ∧ i = .int .i64 (m : Int) ∧ Kr w (w.heap.size + 1) [(w.heap.size, .u8, 32, f)] [] w' ∧ ∀ j, j < m → f j = ekk j) (fun i _ => 32 - (intOf i).toNat)
  case atStart => exact ⟨0, _, by omega, rfl, K, fun j hj => by omega⟩
  case round =>
    clear K
    obtain ⟨m, f, hm, rfl, K, hd⟩ := hrel
    have g1 : (0 : Int) ≤ (m : Int) := by omega
    by_cases hlt : m < 32
    · have g2 : (m : Int) < 32 := by omega
      go_upto_region 5 with fail
      refine wp_region_list ?_
      refine pureL (.int .i64 (m : Int)) rfl (fun _ => by kernel_rfl) ?_
      simp only [Act.put, List.setIfInBounds_toArray, List.set_cons_zero, List.set_cons_succ]
      refine pureL (.int .i64 (m : Int)) rfl (fun _ => by kernel_rfl) ?_
      simp only [Act.put, List.setIfInBounds_toArray, List.set_cons_zero, List.set_cons_succ]
      refine pureL (.int .i64 (128 + (m : Int))) rfl (fun w => addI .i64 _ _ _ _ _ _ _ rfl rfl rfl (by rw [IntKind.wrap_i64]; omega) w) ?_
      simp only [Act.put, List.setIfInBounds_toArray, List.set_cons_zero, List.set_cons_succ]
      refine pureL (.int .u8 (ekk m)) rfl (fun w => convI .i64 .u8 _ _ _ _ _ rfl (by kernel_rfl) Tryd.underlying5 (by kernel_rfl) rfl (by rw [IntKind.wrap_u8']; unfold ekk; omega) w) ?_
      simp only [Act.put, List.setIfInBounds_toArray, List.set_cons_zero, List.set_cons_succ]
      refine pureL (.pointer (some ⟨w.heap.size, m, none⟩)) rfl (fun w' => idxKy (w.heap.size) m hlt w' _ _ rfl rfl rfl) ?_
      simp only [Act.put, List.setIfInBounds_toArray, List.set_cons_zero, List.set_cons_succ]
      refine storeL .u8 (ekk m) (w.heap.size) m 5 _ _ rfl rfl rfl rfl (by rw [(K.get _ _ _ _ List.mem_cons_self).cell m hlt]; rfl) ((K.get _ _ _ _ List.mem_cons_self).free m hlt) (by kernel_rfl) ?_
      simp only [Act.put]
      replace K := K.setCell [] (w.heap.size) .u8 32 f m hlt (ekk m) List.mem_cons_self (fun _ hp => by cases hp) (fun _ hp => by cases hp) (Nat.le_refl _)
      have HS := show Hid _ from (And.intro K (show ∀ j, j < m + 1 → upd f m (ekk m) j = ekk j from fun j hj => by
        by_cases e : j = m
        · subst e; rw [upd_same]
        · rw [upd_other _ _ _ _ e]; exact hd j (by omega)))
      clear K hd
      generalize wr.setCell ⟨w.heap.size, m, none⟩ (.int .u8 (ekk m)) = w4 at HS ⊢
      generalize upd f m (ekk m) = f' at HS
      show Exit.inBlock _ _ _ _ _
      go_wp2
      go_roundw
      case rel => first | exact ⟨m + 1, f', by omega, by go_num, HS.out⟩ | ((repeat apply Exists.intro); refine ⟨⟨m + 1, f', by omega, by go_num, HS.out⟩, rfl⟩)
      case measure => simp [intOf]; omega
    · obtain rfl : m = 32 := by omega
      replace K := K.congr ekk (fun j hj => hd j hj)
      clear hd hlt hm g1
      go_upto_region 6 with fail
      refine wp_region_list ?_
      refine pureL (.agg (row .u8 12 enn).toArray) rfl (fun _ => by kernel_rfl) ?_
      simp only [Act.put, List.setIfInBounds_toArray, List.set_cons_zero, List.set_cons_succ]
      refine allocL #[.int .u8 0, .int .u8 0, .int .u8 0, .int .u8 0, .int .u8 0, .int .u8 0, .int .u8 0, .int .u8 0, .int .u8 0, .int .u8 0, .int .u8 0, .int .u8 0] 25 rfl (fun _ => by kernel_rfl) ?_
      simp only [Act.put, List.setIfInBounds_toArray, List.set_cons_zero, List.set_cons_succ]
      refine storesL .u8 12 (enn) wr.heap.size 25 _ _ rfl rfl rfl rfl (room_of (hn_zero2 _ _ _ rfl).there) (hn_info' _) ?_
      simp only [Act.put]
      have zN := K.size
      replace K := K.fresh .u8 12 (enn) #[.int .u8 0, .int .u8 0, .int .u8 0, .int .u8 0, .int .u8 0, .int .u8 0, .int .u8 0, .int .u8 0, .int .u8 0, .int .u8 0, .int .u8 0, .int .u8 0] 25 (hn_zero2 _ _ _ rfl).there
      generalize ((wr.alloc (.cells #[.int .u8 0, .int .u8 0, .int .u8 0, .int .u8 0, .int .u8 0, .int .u8 0, .int .u8 0, .int .u8 0, .int .u8 0, .int .u8 0, .int .u8 0, .int .u8 0] 25)).setCells wr.heap.size 0 (row .u8 12 (enn))) = w5 at K ⊢
      generalize wr.heap.size = N at *
      show Exit.then _ _ _ _ _
      go_upto_region 7 with fail
      refine wp_region_list ?_
      refine actL (w' := w5.alloc (.cells (row .u8 12 ebs).toArray 5)) (.slice (some ⟨w5.heap.size, 0, none⟩) 12 12) rfl (by kernel_rfl) ?_
      simp only [Act.put, List.setIfInBounds_toArray, List.set_cons_zero, List.set_cons_succ]
      refine pureL (.slice (some ⟨w5.heap.size, 0, none⟩) 12 12) rfl (fun _ => by kernel_rfl) ?_
      simp only [Act.put, List.setIfInBounds_toArray, List.set_cons_zero, List.set_cons_succ]
      have zD := K.size
      replace K := K.box .u8 12 ebs 5 w5.heap.size rfl
      generalize w5.alloc (.cells (row .u8 12 ebs).toArray 5) = w6 at K ⊢
      generalize w5.heap.size = D at *
      show Exit.then _ _ _ _ _
      go_upto_region 8 with fail
      refine wp_region_list ?_
      refine rowKL .u8 32 (ekk) (w.heap.size) 0 23 _ _ rfl rfl rfl Tryd.underlying23 rfl (key_info _) ((K.get _ _ _ _ (List.mem_cons_of_mem _ (List.mem_cons_of_mem _ List.mem_cons_self))).range) ?_
      simp only [Act.put, List.setIfInBounds_toArray, List.set_cons_zero, List.set_cons_succ]
      refine rowKL .u8 12 (enn) (N) 0 25 _ _ rfl rfl rfl Tryd.underlying25 rfl (hn_info _) ((K.get _ _ _ _ (List.mem_cons_of_mem _ List.mem_cons_self)).range) ?_
      simp only [Act.put, List.setIfInBounds_toArray, List.set_cons_zero, List.set_cons_succ]
      refine pureL (.slice (some ⟨D, 0, none⟩) 12 12) rfl (fun _ => by kernel_rfl) ?_
      simp only [Act.put, List.setIfInBounds_toArray, List.set_cons_zero, List.set_cons_succ]
      refine actL (w' := w6.alloc (.cells (row .u8 114 etx).toArray 5)) (.slice (some ⟨w6.heap.size, 0, none⟩) 114 114) rfl (by kernel_rfl) ?_
      simp only [Act.put, List.setIfInBounds_toArray, List.set_cons_zero, List.set_cons_succ]
      refine actL (.slice (some ⟨w6.heap.size, 0, none⟩) 114 114) rfl (conv_const 26 5 (row .u8 114 etx).toArray 114 114 _ rfl rfl Tryd.underlying26 Tryd.underlying5) ?_
      simp only [Act.put, List.setIfInBounds_toArray, List.set_cons_zero, List.set_cons_succ]
      have hb2 := (Below.refl w6.heap.size w6).alloc (Nat.le_refl _) (.cells (row .u8 114 etx).toArray 5 ((row .u8 114 etx).toArray.size, (row .u8 114 etx).toArray.size + 1))
      have hc := (has_marked w6 .u8 114 etx 5).src0
      replace K := K.call hb2
      clear hb2
      generalize w6.alloc (.cells (row .u8 114 etx).toArray 5 ((row .u8 114 etx).toArray.size, (row .u8 114 etx).toArray.size + 1)) = w7 at K hc ⊢
      generalize w6.heap.size = Z at *
      refine callL rfl (fun _ => by kernel_rfl) (hS ekk enn ekk_in enn_in (some ⟨D, 0, none⟩) 12 12 (by decide) (by decide) (fun e => by cases e) ebs ebs_in (some ⟨Z, 0, none⟩) 114 114 (by decide) (by decide) (fun e => by cases e) etx etx_in _ (hg.below K.below hg.size) (K.get _ _ _ _ List.mem_cons_self).src0 hc) ?_
      rintro e w8 ⟨S, cs, rfl, ⟨hcs, hS1, hS2, HS⟩, l⟩
      have zS := K.size
      replace K := (K.call l).own (g := S) (by omega) hS2 HS
      clear l hc HS
      refine ⟨_, rfl, ?_⟩
      simp only [Act.put, List.setIfInBounds_toArray, List.set_cons_zero, List.set_cons_succ]
      refine pureL (.slice (some ⟨S, 0, none⟩) 130 cs) rfl (fun _ => by kernel_rfl) ?_
      simp only [Act.put, List.setIfInBounds_toArray, List.set_cons_zero, List.set_cons_succ]
      generalize hm8 : w8.heap.size = m8 at K
      show Exit.then _ _ _ _ _
      go_upto_region 9 with fail
      refine wp_region_list ?_
      refine actL (w' := w8.alloc (.cells (row .u8 16 ewn).toArray 5)) (.slice (some ⟨w8.heap.size, 0, none⟩) 16 16) rfl (by kernel_rfl) ?_
      simp only [Act.put, List.setIfInBounds_toArray, List.set_cons_zero, List.set_cons_succ]
      refine pureL (.slice (some ⟨w8.heap.size, 0, none⟩) 16 16) rfl (fun _ => by kernel_rfl) ?_
      simp only [Act.put, List.setIfInBounds_toArray, List.set_cons_zero, List.set_cons_succ]
      replace K := K.box .u8 16 ewn 5 w8.heap.size rfl
      generalize w8.alloc (.cells (row .u8 16 ewn).toArray 5) = w9 at K ⊢
      generalize w8.heap.size = E at *
      clear hm8
      show Exit.then _ _ _ _ _
      go_upto_region 10 with fail
      refine wp_region_held_drew (S := fun w' => Kr w (E + 1) [(E, .u8, 16, ewn), (S, .u8, 130, aout ekk enn 12 ebs 114 etx), (D, .u8, 12, ebs), (N, .u8, 12, enn), (w.heap.size, .u8, 32, ekk)] [] w') (by kernel_rfl) K.drew ?_
      clear K
      intro K
      refine rowKH (i := 0) (some 31) rfl .u8 32 (ekk) (w.heap.size) 0 23 _ _ rfl rfl rfl rfl (by kernel_rfl) (by kernel_rfl) (by kernel_rfl) (fun _ _ _ h => h) Tryd.underlying23 rfl (key_info _) K (fun _ h => (h.get _ _ _ _ (List.mem_cons_of_mem _ (List.mem_cons_of_mem _ (List.mem_cons_of_mem _ (List.mem_cons_of_mem _ List.mem_cons_self))))).range) ?_
      simp only [Act.put, List.setIfInBounds_toArray, List.set_cons_zero, List.set_cons_succ]
      refine rowKH (i := 1) (some 32) rfl .u8 12 (enn) (N) 0 25 _ _ rfl rfl rfl rfl (by kernel_rfl) (by kernel_rfl) (by kernel_rfl) (fun _ _ _ h => h) Tryd.underlying25 rfl (hn_info _) K (fun _ h => (h.get _ _ _ _ (List.mem_cons_of_mem _ (List.mem_cons_of_mem _ (List.mem_cons_of_mem _ List.mem_cons_self)))).range) ?_
      simp only [Act.put, List.setIfInBounds_toArray, List.set_cons_zero, List.set_cons_succ]
      refine pureH (i := 2) (some 33) rfl (.slice (some ⟨D, 0, none⟩) 12 12) rfl rfl (fun _ => by kernel_rfl) (by kernel_rfl) (by kernel_rfl) (by kernel_rfl) (fun _ _ _ h => h) K ?_
      simp only [Act.put, List.setIfInBounds_toArray, List.set_cons_zero, List.set_cons_succ]
      have hb3 := (Below.refl w9.drew.heap.size w9.drew).alloc (Nat.le_refl _) (.cells (row .u8 15 (fun _ => 0)).toArray 5)
      have hc := (Has.new w9.drew .u8 15 (fun _ => 0) 5 w9.drew.heap.size rfl).src0
      refine actH (i := 3) (some 34) rfl (.slice (some ⟨w9.drew.heap.size, 0, none⟩) 15 15) (by kernel_rfl) rfl rfl (makeOp 26 _ _ _ _ _ rfl rfl rfl (made8 15 (by decide) _)) (K.call hb3) ?_
      simp only [Act.put, List.setIfInBounds_toArray, List.set_cons_zero, List.set_cons_succ]
      replace K := K.call hb3
      generalize w9.drew.alloc (.cells (row .u8 15 (fun _ => 0)).toArray 5) = w9' at K hc ⊢
      generalize w9.drew.heap.size = Ga at *
      clear hb3
      refine callH (i := 4) (some 35) rfl (by kernel_rfl) rfl rfl (fun _ => by kernel_rfl) (hO ekk enn ekk_in enn_in (some ⟨D, 0, none⟩) 12 12 (by decide) (by decide) (fun e => by cases e) ebs ebs_in (some ⟨Ga, 0, none⟩) 15 15 (by decide) (by decide) (fun e => by cases e) (fun _ => 0) (zeros_in 15) _ (hg.below K.below hg.size) (K.get _ _ _ _ (List.mem_cons_of_mem _ (List.mem_cons_of_mem _ List.mem_cons_self))).src0 hc) ?_
      rintro e w92 ⟨pGa, cGa, rfl, _, l⟩
      rw [eshort]
      replace K := K.call l
      clear l hc
      refine ⟨_, rfl, K, ?_⟩
      simp only [Act.put, List.setIfInBounds_toArray, List.set_cons_zero, List.set_cons_succ]
      refine pureH (i := 5) (some 30) rfl (.tuple #[.slice pGa (aoL ekk enn 12 ebs 15 (fun _ => 0)) cGa, .int .i64 3]) rfl rfl (fun _ => by kernel_rfl) (by kernel_rfl) (by kernel_rfl) (by kernel_rfl) (fun _ _ _ h => h) K ?_
      simp only [Act.put, List.setIfInBounds_toArray, List.set_cons_zero, List.set_cons_succ]
      refine pureH (i := 6) (some 36) rfl (.slice pGa (aoL ekk enn 12 ebs 15 (fun _ => 0)) cGa) rfl rfl (fun _ => by kernel_rfl) (by kernel_rfl) (by kernel_rfl) (by kernel_rfl) (fun _ _ _ h => h) K ?_
      simp only [Act.put, List.setIfInBounds_toArray, List.set_cons_zero, List.set_cons_succ]
      refine pureH (i := 7) (some 37) rfl (.int .i64 3) rfl rfl (fun _ => by kernel_rfl) (by kernel_rfl) (by kernel_rfl) (by kernel_rfl) (fun _ _ _ h => h) K ?_
      simp only [Act.put, List.setIfInBounds_toArray, List.set_cons_zero, List.set_cons_succ]
      refine pureH (i := 8) (some 7) rfl (.slice pGa (aoL ekk enn 12 ebs 15 (fun _ => 0)) cGa) rfl rfl (fun _ => by kernel_rfl) (by kernel_rfl) (by kernel_rfl) (by kernel_rfl) (fun _ _ _ h => h) K ?_
      simp only [Act.put, List.setIfInBounds_toArray, List.set_cons_zero, List.set_cons_succ]
      refine pureH (i := 9) (some 8) rfl (.int .i64 3) rfl rfl (fun _ => by kernel_rfl) (by kernel_rfl) (by kernel_rfl) (by kernel_rfl) (fun _ _ _ h => h) K ?_
      simp only [Act.put, List.setIfInBounds_toArray, List.set_cons_zero, List.set_cons_succ]
      refine wpAnyH_done (by kernel_rfl) ?_ _
      go_upto_region 11 with fail
      refine wp_region_held_drew (S := fun w' => Kr w (E + 1) [(E, .u8, 16, ewn), (S, .u8, 130, aout ekk enn 12 ebs 114 etx), (D, .u8, 12, ebs), (N, .u8, 12, enn), (w.heap.size, .u8, 32, ekk)] [] w') (by kernel_rfl) K.drew ?_
      clear K
      intro K
      refine rowKH (i := 0) (some 39) rfl .u8 32 (ekk) (w.heap.size) 0 23 _ _ rfl rfl rfl rfl (by kernel_rfl) (by kernel_rfl) (by kernel_rfl) (fun _ _ _ h => h) Tryd.underlying23 rfl (key_info _) K (fun _ h => (h.get _ _ _ _ (List.mem_cons_of_mem _ (List.mem_cons_of_mem _ (List.mem_cons_of_mem _ (List.mem_cons_of_mem _ List.mem_cons_self))))).range) ?_
      simp only [Act.put, List.setIfInBounds_toArray, List.set_cons_zero, List.set_cons_succ]
      refine rowKH (i := 1) (some 40) rfl .u8 12 (enn) (N) 0 25 _ _ rfl rfl rfl rfl (by kernel_rfl) (by kernel_rfl) (by kernel_rfl) (fun _ _ _ h => h) Tryd.underlying25 rfl (hn_info _) K (fun _ h => (h.get _ _ _ _ (List.mem_cons_of_mem _ (List.mem_cons_of_mem _ (List.mem_cons_of_mem _ List.mem_cons_self)))).range) ?_
      simp only [Act.put, List.setIfInBounds_toArray, List.set_cons_zero, List.set_cons_succ]
      refine pureH (i := 2) (some 41) rfl (.slice (some ⟨D, 0, none⟩) 12 12) rfl rfl (fun _ => by kernel_rfl) (by kernel_rfl) (by kernel_rfl) (by kernel_rfl) (fun _ _ _ h => h) K ?_
      simp only [Act.put, List.setIfInBounds_toArray, List.set_cons_zero, List.set_cons_succ]
      have hb3 := (Below.refl w92.drew.heap.size w92.drew).alloc (Nat.le_refl _) (.cells (row .u8 16 (fun _ => 0)).toArray 5)
      have hc := (Has.new w92.drew .u8 16 (fun _ => 0) 5 w92.drew.heap.size rfl).src0
      refine actH (i := 3) (some 42) rfl (.slice (some ⟨w92.drew.heap.size, 0, none⟩) 16 16) (by kernel_rfl) rfl rfl (makeOp 26 _ _ _ _ _ rfl rfl rfl (made8 16 (by decide) _)) (K.call hb3) ?_
      simp only [Act.put, List.setIfInBounds_toArray, List.set_cons_zero, List.set_cons_succ]
      replace K := K.call hb3
      generalize w92.drew.alloc (.cells (row .u8 16 (fun _ => 0)).toArray 5) = w92' at K hc ⊢
      generalize w92.drew.heap.size = Gb at *
      clear hb3
      refine callH (i := 4) (some 43) rfl (by kernel_rfl) rfl rfl (fun _ => by kernel_rfl) (hO ekk enn ekk_in enn_in (some ⟨D, 0, none⟩) 12 12 (by decide) (by decide) (fun e => by cases e) ebs ebs_in (some ⟨Gb, 0, none⟩) 16 16 (by decide) (by decide) (fun e => by cases e) (fun _ => 0) (zeros_in 16) _ (hg.below K.below hg.size) (K.get _ _ _ _ (List.mem_cons_of_mem _ (List.mem_cons_of_mem _ List.mem_cons_self))).src0 hc) ?_
      rintro e w922 ⟨pGb, cGb, rfl, _, l⟩
      rw [eforged]
      replace K := K.call l
      clear l hc
      refine ⟨_, rfl, K, ?_⟩
      simp only [Act.put, List.setIfInBounds_toArray, List.set_cons_zero, List.set_cons_succ]
      refine pureH (i := 5) (some 38) rfl (.tuple #[.slice pGb (aoL ekk enn 12 ebs 16 (fun _ => 0)) cGb, .int .i64 70]) rfl rfl (fun _ => by kernel_rfl) (by kernel_rfl) (by kernel_rfl) (by kernel_rfl) (fun _ _ _ h => h) K ?_
      simp only [Act.put, List.setIfInBounds_toArray, List.set_cons_zero, List.set_cons_succ]
      refine pureH (i := 6) (some 44) rfl (.slice pGb (aoL ekk enn 12 ebs 16 (fun _ => 0)) cGb) rfl rfl (fun _ => by kernel_rfl) (by kernel_rfl) (by kernel_rfl) (by kernel_rfl) (fun _ _ _ h => h) K ?_
      simp only [Act.put, List.setIfInBounds_toArray, List.set_cons_zero, List.set_cons_succ]
      refine pureH (i := 7) (some 45) rfl (.int .i64 70) rfl rfl (fun _ => by kernel_rfl) (by kernel_rfl) (by kernel_rfl) (by kernel_rfl) (fun _ _ _ h => h) K ?_
      simp only [Act.put, List.setIfInBounds_toArray, List.set_cons_zero, List.set_cons_succ]
      refine pureH (i := 8) (some 9) rfl (.slice pGb (aoL ekk enn 12 ebs 16 (fun _ => 0)) cGb) rfl rfl (fun _ => by kernel_rfl) (by kernel_rfl) (by kernel_rfl) (by kernel_rfl) (fun _ _ _ h => h) K ?_
      simp only [Act.put, List.setIfInBounds_toArray, List.set_cons_zero, List.set_cons_succ]
      refine pureH (i := 9) (some 10) rfl (.int .i64 70) rfl rfl (fun _ => by kernel_rfl) (by kernel_rfl) (by kernel_rfl) (by kernel_rfl) (fun _ _ _ h => h) K ?_
      simp only [Act.put, List.setIfInBounds_toArray, List.set_cons_zero, List.set_cons_succ]
      refine wpAnyH_done (by kernel_rfl) ?_ _
      obtain ⟨sl, hl1, hl2⟩ := cut_lo (P := Tryd.prog) (t := 26) (by kernel_rfl) (fun _ => by kernel_rfl) (some ⟨S, 0, none⟩) 130 cs 114 (by decide) hcs
      rw [show (130 : Nat) - 114 = 16 from rfl] at hl1 hl2
      go_upto_region 12 with fail
      refine wp_region_held_drew (S := fun w' => Kr w (E + 1) [(E, .u8, 16, ewn), (S, .u8, 130, aout ekk enn 12 ebs 114 etx), (D, .u8, 12, ebs), (N, .u8, 12, enn), (w.heap.size, .u8, 32, ekk)] [] w') (by kernel_rfl) K.drew ?_
      clear K
      intro K
      refine pureH (i := 0) (some 46) rfl (.slice (some ⟨S, 0, none⟩) 130 cs) rfl rfl (fun _ => by kernel_rfl) (by kernel_rfl) (by kernel_rfl) (by kernel_rfl) (fun _ _ _ h => h) K ?_
      simp only [Act.put, List.setIfInBounds_toArray, List.set_cons_zero, List.set_cons_succ]
      refine pureH (i := 1) (some 47) rfl (.int .i64 ((130 : Nat) : Int)) rfl rfl (fun w => lenS _ 26 5 (some ⟨S, 0, none⟩) 130 cs rfl Tryd.underlying26 rfl w) (by kernel_rfl) (by kernel_rfl) (by kernel_rfl) (fun _ _ _ h => h) K ?_
      simp only [Act.put, List.setIfInBounds_toArray, List.set_cons_zero, List.set_cons_succ]
      refine pureH (i := 2) (some 48) rfl (.bool true) rfl rfl (fun w => eqlI .i64 _ _ _ _ _ _ rfl rfl rfl true (by decide) w) (by kernel_rfl) (by kernel_rfl) (by kernel_rfl) (fun _ _ _ h => h) K ?_
      simp only [Act.put, List.setIfInBounds_toArray, List.set_cons_zero, List.set_cons_succ]
      refine pureH (i := 3) (some 49) rfl (.bool true) rfl rfl (fun _ => by kernel_rfl) (by kernel_rfl) (by kernel_rfl) (by kernel_rfl) (fun _ _ _ h => h) K ?_
      simp only [Act.put, List.setIfInBounds_toArray, List.set_cons_zero, List.set_cons_succ]
      refine pureH (i := 4) (some 50) rfl (.slice (some ⟨S, 0, none⟩) 130 cs) rfl rfl (fun _ => by kernel_rfl) (by kernel_rfl) (by kernel_rfl) (by kernel_rfl) (fun _ _ _ h => h) K ?_
      simp only [Act.put, List.setIfInBounds_toArray, List.set_cons_zero, List.set_cons_succ]
      refine pureH (i := 5) (some 51) rfl (.pointer (some ⟨S, 0, none⟩)) rfl rfl (fun w' => idxO S 130 cs 0 (by decide) w' _ _ rfl rfl rfl) (by kernel_rfl) (by kernel_rfl) (by kernel_rfl) (fun _ _ _ h => h) K ?_
      simp only [Act.put, List.setIfInBounds_toArray, List.set_cons_zero, List.set_cons_succ]
      refine cellH (i := 6) (some 52) rfl .u8 (.int .u8 (aout ekk enn 12 ebs 114 etx 0)) S 0 5 _ rfl rfl rfl rfl (by kernel_rfl) (by kernel_rfl) (by kernel_rfl) (fun _ _ _ h => h) Tryd.underlying5 K (fun _ h => (h.get _ _ _ _ (List.mem_cons_of_mem _ List.mem_cons_self)).cell 0 (by decide)) ?_
      simp only [Act.put, List.setIfInBounds_toArray, List.set_cons_zero, List.set_cons_succ]
      refine pureH (i := 7) (some 53) rfl (.bool true) rfl rfl (fun w => eqlI .u8 _ _ _ _ _ _ rfl rfl rfl true (by rw [eout.1]; rfl) w) (by kernel_rfl) (by kernel_rfl) (by kernel_rfl) (fun _ _ _ h => h) K ?_
      simp only [Act.put, List.setIfInBounds_toArray, List.set_cons_zero, List.set_cons_succ]
      refine pureH (i := 8) (some 54) rfl (.bool true) rfl rfl (fun _ => by kernel_rfl) (by kernel_rfl) (by kernel_rfl) (by kernel_rfl) (fun _ _ _ h => h) K ?_
      simp only [Act.put, List.setIfInBounds_toArray, List.set_cons_zero, List.set_cons_succ]
      refine pureH (i := 9) (some 55) rfl (.bool true) rfl rfl (fun _ => by kernel_rfl) (by kernel_rfl) (by kernel_rfl) (by kernel_rfl) (fun _ _ _ h => h) K ?_
      simp only [Act.put, List.setIfInBounds_toArray, List.set_cons_zero, List.set_cons_succ]
      refine pureH (i := 10) (some 56) rfl (.slice (some ⟨S, 0, none⟩) 130 cs) rfl rfl (fun _ => by kernel_rfl) (by kernel_rfl) (by kernel_rfl) (by kernel_rfl) (fun _ _ _ h => h) K ?_
      simp only [Act.put, List.setIfInBounds_toArray, List.set_cons_zero, List.set_cons_succ]
      refine pureH (i := 11) (some 57) rfl (.pointer (some ⟨S, 1, none⟩)) rfl rfl (fun w' => idxO S 130 cs 1 (by decide) w' _ _ rfl rfl rfl) (by kernel_rfl) (by kernel_rfl) (by kernel_rfl) (fun _ _ _ h => h) K ?_
      simp only [Act.put, List.setIfInBounds_toArray, List.set_cons_zero, List.set_cons_succ]
      refine cellH (i := 12) (some 58) rfl .u8 (.int .u8 (aout ekk enn 12 ebs 114 etx 1)) S 1 5 _ rfl rfl rfl rfl (by kernel_rfl) (by kernel_rfl) (by kernel_rfl) (fun _ _ _ h => h) Tryd.underlying5 K (fun _ h => (h.get _ _ _ _ (List.mem_cons_of_mem _ List.mem_cons_self)).cell 1 (by decide)) ?_
      simp only [Act.put, List.setIfInBounds_toArray, List.set_cons_zero, List.set_cons_succ]
      refine pureH (i := 13) (some 59) rfl (.bool true) rfl rfl (fun w => eqlI .u8 _ _ _ _ _ _ rfl rfl rfl true (by rw [eout.2.1]; rfl) w) (by kernel_rfl) (by kernel_rfl) (by kernel_rfl) (fun _ _ _ h => h) K ?_
      simp only [Act.put, List.setIfInBounds_toArray, List.set_cons_zero, List.set_cons_succ]
      refine pureH (i := 14) (some 60) rfl (.bool true) rfl rfl (fun _ => by kernel_rfl) (by kernel_rfl) (by kernel_rfl) (by kernel_rfl) (fun _ _ _ h => h) K ?_
      simp only [Act.put, List.setIfInBounds_toArray, List.set_cons_zero, List.set_cons_succ]
      refine pureH (i := 15) (some 61) rfl (.bool true) rfl rfl (fun _ => by kernel_rfl) (by kernel_rfl) (by kernel_rfl) (by kernel_rfl) (fun _ _ _ h => h) K ?_
      simp only [Act.put, List.setIfInBounds_toArray, List.set_cons_zero, List.set_cons_succ]
      refine pureH (i := 16) (some 62) rfl (.slice (some ⟨S, 0, none⟩) 130 cs) rfl rfl (fun _ => by kernel_rfl) (by kernel_rfl) (by kernel_rfl) (by kernel_rfl) (fun _ _ _ h => h) K ?_
      simp only [Act.put, List.setIfInBounds_toArray, List.set_cons_zero, List.set_cons_succ]
      refine pureH (i := 17) (some 63) rfl (.slice sl 16 (cs - 114)) rfl rfl (fun w' => cutOp _ _ _ _ _ _ rfl rfl rfl (hl1 w')) (by kernel_rfl) (by kernel_rfl) (by kernel_rfl) (fun _ _ _ h => h) K ?_
      simp only [Act.put, List.setIfInBounds_toArray, List.set_cons_zero, List.set_cons_succ]
      refine readH (i := 18) (some 64) rfl (.string (txt 16 (fun j => aout ekk enn 12 ebs 114 etx (114 + j)))) rfl rfl (fun w h => conv_txt 26 5 9 _ rfl Tryd.underlying26 Tryd.underlying5 Tryd.underlying9 (sl) (16) (cs - 114) (fun j => aout ekk enn 12 ebs 114 etx (114 + j)) rfl w (hl2 _ _ (h.get _ _ _ _ (List.mem_cons_of_mem _ List.mem_cons_self)).src0) (Src.none (hl2 _ _ (h.get _ _ _ _ (List.mem_cons_of_mem _ List.mem_cons_self)).src0))) (by kernel_rfl) (by kernel_rfl) (by kernel_rfl) (fun _ _ _ h => h) K ?_
      simp only [Act.put, List.setIfInBounds_toArray, List.set_cons_zero, List.set_cons_succ]
      refine pureH (i := 19) (some 65) rfl (.slice (some ⟨E, 0, none⟩) 16 16) rfl rfl (fun _ => by kernel_rfl) (by kernel_rfl) (by kernel_rfl) (by kernel_rfl) (fun _ _ _ h => h) K ?_
      simp only [Act.put, List.setIfInBounds_toArray, List.set_cons_zero, List.set_cons_succ]
      refine readH (i := 20) (some 66) rfl (.string (txt 16 ewn)) rfl rfl (fun w h => conv_txt 26 5 9 _ rfl Tryd.underlying26 Tryd.underlying5 Tryd.underlying9 (some ⟨E, 0, none⟩) (16) (16) ewn rfl w (h.get _ _ _ _ List.mem_cons_self).src0 (Src.none (h.get _ _ _ _ List.mem_cons_self).src0)) (by kernel_rfl) (by kernel_rfl) (by kernel_rfl) (fun _ _ _ h => h) K ?_
      simp only [Act.put, List.setIfInBounds_toArray, List.set_cons_zero, List.set_cons_succ]
      refine pureH (i := 21) (some 67) rfl (.bool true) rfl rfl (fun w => eqlS _ _ _ _ _ _ rfl rfl rfl (txt_congr eout.2.2) w) (by kernel_rfl) (by kernel_rfl) (by kernel_rfl) (fun _ _ _ h => h) K ?_
      simp only [Act.put, List.setIfInBounds_toArray, List.set_cons_zero, List.set_cons_succ]
      refine pureH (i := 22) (some 68) rfl (.bool true) rfl rfl (fun _ => by kernel_rfl) (by kernel_rfl) (by kernel_rfl) (by kernel_rfl) (fun _ _ _ h => h) K ?_
      simp only [Act.put, List.setIfInBounds_toArray, List.set_cons_zero, List.set_cons_succ]
      refine pureH (i := 23) (some 69) rfl (.bool true) rfl rfl (fun _ => by kernel_rfl) (by kernel_rfl) (by kernel_rfl) (by kernel_rfl) (fun _ _ _ h => h) K ?_
      simp only [Act.put, List.setIfInBounds_toArray, List.set_cons_zero, List.set_cons_succ]
      refine pureH (i := 24) (some 70) rfl (.int .i64 3) rfl rfl (fun _ => by kernel_rfl) (by kernel_rfl) (by kernel_rfl) (by kernel_rfl) (fun _ _ _ h => h) K ?_
      simp only [Act.put, List.setIfInBounds_toArray, List.set_cons_zero, List.set_cons_succ]
      refine pureH (i := 25) (some 71) rfl (.bool true) rfl rfl (fun w => eqlI .i64 _ _ _ _ _ _ rfl rfl rfl true (by decide) w) (by kernel_rfl) (by kernel_rfl) (by kernel_rfl) (fun _ _ _ h => h) K ?_
      simp only [Act.put, List.setIfInBounds_toArray, List.set_cons_zero, List.set_cons_succ]
      refine pureH (i := 26) (some 72) rfl (.bool true) rfl rfl (fun _ => by kernel_rfl) (by kernel_rfl) (by kernel_rfl) (by kernel_rfl) (fun _ _ _ h => h) K ?_
      simp only [Act.put, List.setIfInBounds_toArray, List.set_cons_zero, List.set_cons_succ]
      refine pureH (i := 27) (some 73) rfl (.bool true) rfl rfl (fun _ => by kernel_rfl) (by kernel_rfl) (by kernel_rfl) (by kernel_rfl) (fun _ _ _ h => h) K ?_
      simp only [Act.put, List.setIfInBounds_toArray, List.set_cons_zero, List.set_cons_succ]
      refine pureH (i := 28) (some 74) rfl (.int .i64 70) rfl rfl (fun _ => by kernel_rfl) (by kernel_rfl) (by kernel_rfl) (by kernel_rfl) (fun _ _ _ h => h) K ?_
      simp only [Act.put, List.setIfInBounds_toArray, List.set_cons_zero, List.set_cons_succ]
      refine pureH (i := 29) (some 75) rfl (.bool true) rfl rfl (fun w => eqlI .i64 _ _ _ _ _ _ rfl rfl rfl true (by decide) w) (by kernel_rfl) (by kernel_rfl) (by kernel_rfl) (fun _ _ _ h => h) K ?_
      simp only [Act.put, List.setIfInBounds_toArray, List.set_cons_zero, List.set_cons_succ]
      refine pureH (i := 30) (some 76) rfl (.bool true) rfl rfl (fun _ => by kernel_rfl) (by kernel_rfl) (by kernel_rfl) (by kernel_rfl) (fun _ _ _ h => h) K ?_
      simp only [Act.put, List.setIfInBounds_toArray, List.set_cons_zero, List.set_cons_succ]
      refine pureH (i := 31) (some 0) rfl (.bool true) rfl rfl (fun _ => by kernel_rfl) (by kernel_rfl) (by kernel_rfl) (by kernel_rfl) (fun _ _ _ h => h) K ?_
      simp only [Act.put, List.setIfInBounds_toArray, List.set_cons_zero]
      refine wpAnyH_done (by kernel_rfl) ?_ _
      have hB := K.below
      clear K
      go_wp2
      go_ret
      exact ⟨rfl, hB⟩
end Go.Proofs.YteclkiabkdaklaaDoor

namespace Go.Proofs.YteclkiabkdaklaaDoor
open Go.RowKit

theorem aout_lo (k n : Nat → Int) (bl : Nat) (b : Nat → Int) (len : Nat) (z : Nat → Int) (j : Nat) (hj : j < len) : aout k n bl b len z j = hxor k 1 n z j := by
  unfold aout app
  rw [if_pos hj]
theorem aout_hi (k n : Nat → Int) (bl : Nat) (b : Nat → Int) (len : Nat) (z : Nat → Int) (j : Nat) : aout k n bl b len z (len + j) = atag k n bl b len (hxor k 1 n z) j := by
  unfold aout app
  rw [if_neg (by omega), show len + j - len = j by omega]
/-- What was sealed is opened. -/
theorem aback_ok (k n : Nat → Int) (bl : Nat) (b : Nat → Int) (len : Nat) (z : Nat → Int) : aok k n bl b (len + 16) (aout k n bl b len z) := by
  refine ⟨by omega, ?_⟩
  rw [show len + 16 - 16 = len by omega, atg_congr k n bl b b len _ (hxor k 1 n z) (fun _ _ => rfl) (fun j hj => aout_lo k n bl b len z j hj), ← atag_val]
  exact val_congr 256 16 fun j _ => (aout_hi k n bl b len z j).symm
theorem aback_L (k n : Nat → Int) (bl : Nat) (b : Nat → Int) (len : Nat) (z : Nat → Int) : aoL k n bl b (len + 16) (aout k n bl b len z) = len := by
  unfold aoL
  rw [if_pos (aback_ok k n bl b len z)]
  omega
theorem aback_E (k n : Nat → Int) (bl : Nat) (b : Nat → Int) (len : Nat) (z : Nat → Int) : aoE k n bl b (len + 16) (aout k n bl b len z) = 0 := by
  unfold aoE
  rw [if_neg (by omega), if_pos (aback_ok k n bl b len z)]
theorem aback_text (k n : Nat → Int) (bl : Nat) (b : Nat → Int) (len : Nat) (z : Nat → Int) (hz : In 256 len z) (j : Nat) (hj : j < len) : hxor k 1 n (aout k n bl b len z) j = z j := by
  have e := hxor_twice k 1 n z len hz j hj
  unfold hxor at e ⊢
  rw [aout_lo k n bl b len z j hj]
  exact e
/-- With bits of the tag turned nothing is opened. -/
theorem xor_moves (x y : Int) (hx : 0 ≤ x ∧ x < 256) (hy : 0 ≤ y ∧ y < 256) (h : bits .xor .u8 x y = x) : y = 0 := by
  obtain ⟨x, rfl⟩ := Int.eq_ofNat_of_zero_le hx.1
  obtain ⟨y, rfl⟩ := Int.eq_ofNat_of_zero_le hy.1
  rw [u8_xor_nat x y (by omega) (by omega)] at h
  have h2 : x ^^^ y = x := by omega
  have h3 : x ^^^ (x ^^^ y) = x ^^^ x := by rw [h2]
  rw [← Nat.xor_assoc, Nat.xor_self, Nat.zero_xor] at h3
  omega
theorem aturned_ok (k n : Nat → Int) (bl : Nat) (b : Nat → Int) (len : Nat) (z t f : Nat → Int) (ht : In 256 16 t) (hne : ¬ ∀ j, j < 16 → t j = 0) (hlo : ∀ j, j < len → f j = aout k n bl b len z j) (hhi : ∀ j, j < 16 → f (len + j) = bits .xor .u8 (aout k n bl b len z (len + j)) (t j)) (hf : In 256 (len + 16) f) : ¬ aok k n bl b (len + 16) f := fun h => hne fun j hj => by
  have h2 := h.2
  rw [show len + 16 - 16 = len by omega, atg_congr k n bl b b len f (hxor k 1 n z) (fun _ _ => rfl) (fun j hj => by rw [hlo j hj, aout_lo k n bl b len z j hj]), ← atag_val] at h2
  have h3 := val_inj 256 (by decide) _ _ 16 (atag_in _ _ _ _ _ _ _) (fun j hj => hf (len + j) (by omega)) h2 j hj
  rw [hhi j hj, aout_hi] at h3
  exact xor_moves _ _ (atag_in k n bl b len (hxor k 1 n z) 16 j hj) (ht j hj) h3.symm
theorem aturned_L (k n : Nat → Int) (bl : Nat) (b : Nat → Int) (len : Nat) (f : Nat → Int) (h : ¬ aok k n bl b (len + 16) f) : aoL k n bl b (len + 16) f = 0 := by
  unfold aoL
  rw [if_neg h]
theorem aturned_E (k n : Nat → Int) (bl : Nat) (b : Nat → Int) (len : Nat) (f : Nat → Int) (h : ¬ aok k n bl b (len + 16) f) : aoE k n bl b (len + 16) f = 70 := by
  unfold aoE
  rw [if_neg (by omega), if_neg h]
end Go.Proofs.YteclkiabkdaklaaDoor

namespace Go.Proofs.YteclkiabkdaklaaDoor
open Go.RowKit

section
variable {P : Program} {ops : Array Oper} {Q : Exit → Act → World → Prop} {md : Region.Mode}
theorem wpAnyH_more {S S' : World → Prop} (h : ∀ w, S' w → S w) : ∀ (n : Nat) (l : Array Bool) (a : Act) (w : World), wpAnyH P md ops Q S' n l a w → wpAnyH P md ops Q S n l a w
  | 0, _, _, _, H => H
  | n + 1, _, _, _, H => ⟨H.1, fun j hj => wpOp_mono (fun a' w' h3 => ⟨h w' h3.1, wpAnyH_more h n _ a' w' h3.2⟩) (H.2 j hj)⟩
end
end Go.Proofs.YteclkiabkdaklaaDoor

namespace Go.Proofs.YteclkiabkdaklaaDoor

theorem bulk_one {H : Type} (d : DataW H) : 1 ≤ Rows.uptoBulk d := by
  cases d with
  | lit l => cases l <;> simp [Rows.uptoBulk]
  | _ => simp [Rows.uptoBulk]
theorem bulk_count {H : Type} : ∀ l : List (DataW H), l.length ≤ Rows.uptoBulkAll l
  | [] => Nat.le_refl _
  | d :: l => by
    have h1 := bulk_one d
    have h2 := bulk_count l
    simp only [Rows.uptoBulkAll, List.length_cons]
    omega
theorem bulk_mem {H : Type} {d : DataW H} : ∀ {l : List (DataW H)}, d ∈ l → Rows.uptoBulk d ≤ Rows.uptoBulkAll l
  | x :: l, h => by
    simp only [Rows.uptoBulkAll]
    rcases List.mem_cons.1 h with rfl | h
    · omega
    · have := bulk_mem h
      omega
/-- A slice's places. -/
theorem bulk_slice {H : Type} {d : DataW H} {len : Nat} (hd : len = 0 ∨ ∃ elems spare, d = .slice elems spare ∧ len ≤ elems.length + spare.length) : len ≤ Rows.uptoBulk d := by
  rcases hd with rfl | ⟨elems, spare, rfl, hle⟩
  · exact Nat.zero_le _
  · have h1 := bulk_count elems
    have h2 := bulk_count spare
    simp only [Rows.uptoBulk]
    omega
theorem bulk_agg {H : Type} {d : DataW H} {l : List (DataW H)} (h : d ∈ l) : Rows.uptoBulk d ≤ Rows.uptoBulk (.agg l) := by
  have := bulk_mem h
  simp only [Rows.uptoBulk]
  omega
theorem bulk_bound {H : Type} {l : List (DataW H)} (h : Rows.uptoSmall H l = true) : Rows.uptoBulkAll l ≤ 1048576 := of_decide_eq_true h
end Go.Proofs.YteclkiabkdaklaaDoor

namespace Go.Proofs.YteclkiabkdaklaaDoor
open Go.ChangeShapes Go.WideShapes Go.ChangeAt Go.WideMaps Go.WideElems Go.RowKit

theorem own : ownKnob Tryd.prog.godebug = none := by kernel_rfl
theorem cellsKey : Tryd.prog.cellsOf 23 = 32 := by kernel_rfl
theorem cellsNon : Tryd.prog.cellsOf 25 = 12 := by kernel_rfl
theorem cellsTag : Tryd.prog.cellsOf 36 = 16 := by kernel_rfl
theorem cellsByte : Tryd.prog.cellsOf 5 = 1 := by kernel_rfl
theorem cellsSl : Tryd.prog.cellsOf 26 = 1 := by kernel_rfl
theorem cellsBox : Tryd.prog.cellsOf 28 = 45 := by kernel_rfl
theorem cellsNum : Tryd.prog.cellsOf 81 = 3 := by kernel_rfl
theorem cellsWord : Tryd.prog.cellsOf 46 = 1 := by kernel_rfl
theorem cellsW32 : Tryd.prog.cellsOf 39 = 1 := by kernel_rfl
theorem cellsInt : Tryd.prog.cellsOf 3 = 1 := by kernel_rfl
theorem cellsQ : Tryd.prog.cellsOf 54 = 4 := by kernel_rfl
theorem cells4 : Tryd.prog.cellsOf 75 = 4 := by kernel_rfl

/-- A slice of bytes within a struct, opened; it reads as before in every later memory. -/
theorem open_field {H : Type} {enc : TypeId × Value → H} {P : Program} {W : World} {t e : TypeId} (hu : P.underlying t = some (.slice e)) (he : P.underlying e = some (.int .u8)) (hce : P.cellsOf e = 1) {fuel : Nat} {cs : List Value} {x : DataW H × List MemPlace}
    (hf : DataW.trod enc P W 0 (fun _ => true) true fuel t cs = some x) :
    ∃ (sp : Option Addr) (len cap : Nat) (z : Nat → Int), cs = [.slice sp len cap] ∧ In 256 len z ∧ Src W sp len z ∧ len ≤ cap ∧ (sp = none → cap = 0) ∧
      (len = 0 ∨ ∃ elems spare, x.1 = .slice elems spare ∧ len ≤ elems.length + spare.length) ∧ ∀ W', Below W.heap.size W W' → DataW.trod enc P W' 0 (fun b => decide (b < W.heap.size)) true 2 t cs = some x := by
  rcases open_ints hu he hce hf with ⟨rfl, rfl⟩ | ⟨ad, len, cap, zs, rfl, _, hle, hmax, hall, rfl, hcell, hwf⟩
  · exact ⟨none, 0, 0, fun _ => 0, rfl, fun j hj => absurd hj (Nat.not_lt_zero j), fun j hj => absurd hj (Nat.not_lt_zero j), Nat.le_refl _, fun _ => rfl, .inl rfl, fun W' _ => by
      show DataW.trod enc P W' 0 _ true (1 + 1) t [.slice none 0 0] = _
      unfold DataW.trod
      rw [hu]
      rfl⟩
  · simp only [if_true] at hall
    refine ⟨some ad, len, cap, fun j => zs.getD j 0, rfl, fun j hj => ?_, fun j hj => ⟨ad, rfl, hcell j (by omega)⟩, hle, fun e => (by cases e), .inr ⟨_, _, rfl, ?_⟩, fun W' hlow => ?_⟩
    · have hj' : j < zs.length := by omega
      refine wf_u8.1 (hwf _ ?_)
      have e : zs.getD j 0 = zs[j] := by simp [List.getD, hj']
      show zs.getD j 0 ∈ zs
      rw [e]
      exact List.getElem_mem hj'
    · simp only [lits, List.length_map, List.length_take, List.length_drop]
      omega
    · have hcell' : ∀ i, i < zs.length → W'.cell? (ad.add i) = some (.int .u8 (zs.getD i 0)) := fun i hi => by
        rw [hlow.cell (p := ad.add i) (World.block_lt_of_cell? W _ (hcell i hi))]
        exact hcell i hi
      have hz' : zs.length = (if (fun b => decide (b < W.heap.size)) ad.block then cap else len) := by
        by_cases h0 : 0 < zs.length
        · have hb := World.block_lt_of_cell? W _ (hcell 0 h0)
          rw [block_add] at hb
          simp [hb, hall]
        · split <;> omega
      exact shut_ints (enc := enc) (w := W') (base := 0) (spare := fun b => decide (b < W.heap.size)) (held := true) (a := ad) (len := len) (cap := cap) (zs := zs) 0 hu he hce (Nat.zero_le _) hle hmax hz' hcell' hwf
/-- A key, a nonce, bytes beside: opened. -/
theorem open_box {H : Type} {enc : TypeId × Value → H} {W : World} {r : Reach} {b0 : Nat} {v : Value} {d : DataW H} {p : List MemPlace} (hv : Value.okWide Tryd.prog W r b0 28 v) (h : DataW.Trod enc Tryd.prog W 0 (fun _ => true) true 28 v d p) :
    ∃ (k n : Nat → Int) (bp : Option Addr) (bl bc : Nat) (b : Nat → Int) (c : DataW H), In 256 32 k ∧ In 256 12 n ∧ v = .agg (boxm k n bp bl bc).toArray ∧ d = .agg [litR .u8 32 k, litR .u8 12 n, c] ∧ In 256 bl b ∧ Src W bp bl b ∧ bl ≤ bc ∧ (bp = none → bc = 0) ∧ (bl = 0 ∨ ∃ elems spare, c = .slice elems spare ∧ bl ≤ elems.length + spare.length) ∧
      ∀ W', Below W.heap.size W W' → DataW.Trod enc Tryd.prog W' 0 (fun b => decide (b < W.heap.size)) true 28 v d p := by
  simp only [Value.okWide, Tryd.underlying28] at hv
  obtain ⟨cs, rfl, _, _⟩ := hv
  obtain ⟨fuel, hf⟩ := h
  obtain ⟨y0, y1, y2, m, hx, hl, h0, h1, h2⟩ := Deep.trod_struct3 Tryd.underlying28 hf
  rw [cellsBox] at hl
  obtain ⟨k, hk, ek, rfl⟩ := open_row Tryd.underlying23 Tryd.underlying5 cellsKey cellsByte h0
  obtain ⟨n, hn, en, rfl⟩ := open_row Tryd.underlying25 Tryd.underlying5 cellsNon cellsByte h1
  obtain ⟨bp, bl, bc, b, ec, hb, hsb, hbc, hbn, hdat, hsh⟩ := open_field Tryd.underlying26 Tryd.underlying5 cellsByte h2
  simp only [Prod.mk.injEq, List.nil_append] at hx
  have hl' : cs.toList.length = 45 := hl
  have e0 : (Value.agg cs).cells.toList = cs.toList := rfl
  simp only [cellsKey, cellsNon, cellsSl] at ek en ec hsh
  rw [e0] at ek en ec hsh
  have ecs : cs.toList = boxm k n bp bl bc := by
    have a1 : cs.toList = cs.toList.take 32 ++ cs.toList.drop 32 := (List.take_append_drop 32 _).symm
    have a2 : cs.toList.drop 32 = (cs.toList.drop 32).take 12 ++ (cs.toList.drop 32).drop 12 := (List.take_append_drop 12 _).symm
    have b0 : cs.toList.take 32 = row .u8 32 k := by rw [← ek]; simp
    have b1 : (cs.toList.drop 32).take 12 = row .u8 12 n := en
    have b2 : (cs.toList.drop 32).drop 12 = [.slice bp bl bc] := by
      rw [List.drop_drop, ← ec]
      exact (List.take_of_length_le (by rw [List.length_drop, hl']; decide)).symm
    rw [a1, a2, b0, b1, b2]
    rfl
  refine ⟨k, n, bp, bl, bc, b, y2.1, fun j hj => wf_u8.1 (hk j hj), fun j hj => wf_u8.1 (hn j hj), ?_, hx.1, hb, hsb, hbc, hbn, hdat, fun W' hlow => ⟨3, ?_⟩⟩
  · congr 1
    exact Array.toList_inj.1 ecs
  · obtain ⟨rfl, rfl⟩ := hx
    show DataW.trod enc Tryd.prog W' 0 _ true (2 + 1) 28 cs.toList = _
    have e1 := shut_row (enc := enc) (P := Tryd.prog) (w := W') (base := 0) (sp := fun b => decide (b < W.heap.size)) (held := true) Tryd.underlying23 Tryd.underlying5 cellsKey cellsByte k hk
    have e2 := shut_row (enc := enc) (P := Tryd.prog) (w := W') (base := 0) (sp := fun b => decide (b < W.heap.size)) (held := true) Tryd.underlying25 Tryd.underlying5 cellsNon cellsByte n hn
    have e3 := Deep.trod_struct3_mk (enc := enc) (w := W') (base := 0) (spare := fun b => decide (b < W.heap.size)) (held := true) (n := 2) (cs := cs.toList) (y0 := (litR .u8 32 k, [])) (y1 := (litR .u8 12 n, [])) (y2 := y2) Tryd.underlying28 (by rw [cellsBox]; exact hl') (by rw [cellsKey, ek]; exact e1) (by rw [cellsNon, en]; exact e2) (by rw [cellsSl]; exact hsh W' hlow)
    simpa using e3
theorem gFirst7 : Tryd.prog.globalNamed "sheave/chacha.first" = some 0 := by kernel_rfl
theorem tFirst7 : (Tryd.prog.globals[0]?).map (·.type) = some 54 := by kernel_rfl
theorem gPlaces7 : Tryd.prog.globalNamed "sheave/chacha.places" = some 1 := by kernel_rfl
theorem tPlaces7 : (Tryd.prog.globals[1]?).map (·.type) = some 76 := by kernel_rfl
theorem gKept7 : Tryd.prog.globalNamed "sheave/clamp.kept" = some 2 := by kernel_rfl
theorem tKept7 : (Tryd.prog.globals[2]?).map (·.type) = some 36 := by kernel_rfl
theorem gModulus7 : Tryd.prog.globalNamed "sheave/clamp.modulus" = some 3 := by kernel_rfl
theorem tModulus7 : (Tryd.prog.globals[3]?).map (·.type) = some 81 := by kernel_rfl
/-- What the cards' rows list. -/
def laidA {H : Type} : List (String × DataW H) := [("sheave/chacha.first", Rows.laid_sheave_chacha_first), ("sheave/chacha.places", Rows.laid_sheave_chacha_places), ("sheave/clamp.kept", Rows.laid_sheave_clamp_kept), ("sheave/clamp.modulus", Rows.laid_sheave_clamp_modulus)]
theorem glob_of_laidA {W : World} (h : laidMetH Tryd.prog laidA W) : AGlob W := by
  rw [MakeChecks.laidMetH_plain _ _ _ (by kernel_rfl)] at h
  obtain ⟨ps, ⟨g0, t0, cs0, f0, p0, q0, hg0, ht0, hv0, hd0, ⟨g1, t1, cs1, f1, p1, q1, hg1, ht1, hv1, hd1, ⟨g2, t2, cs2, f2, p2, q2, hg2, ht2, hv2, hd2, ⟨g3, t3, cs3, f3, p3, q3, hg3, ht3, hv3, hd3, _, _⟩, _⟩, _⟩, _⟩, _, _⟩ := h
  obtain rfl := Option.some.inj (gFirst7.symm.trans hg0)
  obtain rfl := Option.some.inj (gPlaces7.symm.trans hg1)
  obtain rfl := Option.some.inj (gKept7.symm.trans hg2)
  obtain rfl := Option.some.inj (gModulus7.symm.trans hg3)
  obtain rfl := Option.some.inj (tFirst7.symm.trans ht0)
  obtain rfl := Option.some.inj (tPlaces7.symm.trans ht1)
  obtain rfl := Option.some.inj (tKept7.symm.trans ht2)
  obtain rfl := Option.some.inj (tModulus7.symm.trans ht3)
  obtain ⟨F0, _, eA0, eB0⟩ := open_row Tryd.underlying54 Tryd.underlying39 cellsQ cellsW32 hd0
  simp only [Prod.mk.injEq] at eB0
  have eF0 := litR_inj (show (litR .u32 4 hfst : DataW _) = litR .u32 4 F0 from eB0.1)
  have c0 : ∀ j, j < 4 → W.cell? ⟨0, j, none⟩ = some (.int .u32 (hfst j)) := fun j hj => by
    rw [World.var?_cell hg0 hv0 j, eF0 j hj]
    have := row_get .u32 4 F0 j hj
    rw [← eA0] at this
    simpa using this
  have s0 := World.block_lt_of_cell? W _ (c0 0 (by omega))
  have b1 := open_table (n := 8) (m := 4) Tryd.underlying76 Tryd.underlying75 Tryd.underlying3 cells4 cellsInt (by decide) plc (by rfl) hd1
  have c1 : ∀ j, j < 32 → W.cell? ⟨1, j, none⟩ = some (.int .i64 (plc j)) := fun j hj => by
    rw [World.var?_cell hg1 hv1 j]; simpa using b1 j hj
  have s1 := World.block_lt_of_cell? W _ (c1 0 (by omega))
  obtain ⟨F2, _, eA2, eB2⟩ := open_row Tryd.underlying36 Tryd.underlying5 cellsTag cellsByte hd2
  simp only [Prod.mk.injEq] at eB2
  have eF2 := litR_inj (show (litR .u8 16 keptB : DataW _) = litR .u8 16 F2 from eB2.1)
  have c2 : ∀ j, j < 16 → W.cell? ⟨2, j, none⟩ = some (.int .u8 (keptB j)) := fun j hj => by
    rw [World.var?_cell hg2 hv2 j, eF2 j hj]
    have := row_get .u8 16 F2 j hj
    rw [← eA2] at this
    simpa using this
  have s2 := World.block_lt_of_cell? W _ (c2 0 (by omega))
  obtain ⟨F3, _, eA3, eB3⟩ := open_row Tryd.underlying81 Tryd.underlying46 cellsNum cellsWord hd3
  simp only [Prod.mk.injEq] at eB3
  have eF3 := litR_inj (show (litR .u64 3 qW : DataW _) = litR .u64 3 F3 from eB3.1)
  have c3 : ∀ j, j < 3 → W.cell? ⟨3, j, none⟩ = some (.int .u64 (qW j)) := fun j hj => by
    rw [World.var?_cell hg3 hv3 j, eF3 j hj]
    have := row_get .u64 3 F3 j hj
    rw [← eA3] at this
    simpa using this
  have s3 := World.block_lt_of_cell? W _ (c3 0 (by omega))
  have hsz : 4 ≤ W.heap.size := by dsimp only at s0 s1 s2 s3; omega
  exact ⟨⟨c0, c1, hsz⟩, ⟨c3, c2, hsz⟩⟩
/-- The door's own heap meets the condition. -/
theorem door_metA (os : Os) (args : Array Value) : laidMet Tryd.prog laidA ((World.doorLaid Tryd.prog 40 os).forCall (fun _ _ => 0) ⟨#[], args, []⟩).memory := laidMet_of_run' 8 (by kernel_rfl) (by kernel_rfl)
def boxNought : Value := .agg #[.int .u8 0, .int .u8 0, .int .u8 0, .int .u8 0, .int .u8 0, .int .u8 0, .int .u8 0, .int .u8 0, .int .u8 0, .int .u8 0, .int .u8 0, .int .u8 0, .int .u8 0, .int .u8 0, .int .u8 0, .int .u8 0, .int .u8 0, .int .u8 0, .int .u8 0, .int .u8 0, .int .u8 0, .int .u8 0, .int .u8 0, .int .u8 0, .int .u8 0, .int .u8 0, .int .u8 0, .int .u8 0, .int .u8 0, .int .u8 0, .int .u8 0, .int .u8 0, .int .u8 0, .int .u8 0, .int .u8 0, .int .u8 0, .int .u8 0, .int .u8 0, .int .u8 0, .int .u8 0, .int .u8 0, .int .u8 0, .int .u8 0, .int .u8 0, .slice none 0 0]
def tagNought : Value := .agg #[.int .u8 0, .int .u8 0, .int .u8 0, .int .u8 0, .int .u8 0, .int .u8 0, .int .u8 0, .int .u8 0, .int .u8 0, .int .u8 0, .int .u8 0, .int .u8 0, .int .u8 0, .int .u8 0, .int .u8 0, .int .u8 0]
end Go.Proofs.YteclkiabkdaklaaDoor

namespace Go.Proofs.YteclkiabkdaklaaDoor

theorem reach_field {H : Type} {P : Program} {ts : List TypeId} {ds : List (DataW H)} (h : (DataW.weightsEach P ts ds).all (· ≤ reachBytes) = true) {j i : Nat} {t u e : TypeId} {fs : Array Field} {parts : List (DataW H)} {d : DataW H} {len : Nat} (ht : ts[j]? = some t) (hj : ds[j]? = some (.agg parts)) (hu : P.underlying t = some (.struct fs)) (hf : (fs.toList.map (·.type))[i]? = some u) (hp : parts[i]? = some d) (hs : P.underlying u = some (.slice e)) (hb : P.bytesOf e = 1)
    (hd : len = 0 ∨ ∃ elems spare, d = .slice elems spare ∧ len ≤ elems.length + spare.length) : len ≤ 140737488351232 := by
  rcases hd with rfl | ⟨elems, spare, rfl, hle⟩
  · omega
  · have h1 : (elems.length + spare.length) * P.bytesOf e ∈ DataW.weights P t (.agg parts) := by
      simp only [DataW.weights, hu]
      exact DataW.weights_mem_each hf hp _ (by simp [DataW.weights, hs])
    have h2 := List.all_eq_true.1 h _ (DataW.weights_mem_each ht hj _ h1)
    have h3 : (elems.length + spare.length) * P.bytesOf e ≤ reachBytes := by simpa using h2
    rw [hb] at h3
    simp only [reachBytes] at h3
    omega
end Go.Proofs.YteclkiabkdaklaaDoor

namespace Go.Proofs.YteclkiabkdaklaaDoor
open Go.RowKit

theorem Has.head {w : World} {b : Nat} {k : IntKind} {n : Nat} {f : Nat → Int} (h : Has w b k n f) (m : Nat) (hm : m ≤ n) : w.rangeAt b 0 (row k m f) := fun j v hv => by
  obtain ⟨hj, rfl⟩ := row_get_some hv
  rw [Nat.zero_add]
  exact h.cell j (by omega)
/-- Part of a row is written anew. -/
theorem Kr.part {w w' : World} {m : Nat} {l : List (Nat × IntKind × Nat × (Nat → Int))} {R : List (Nat × Nat)} (h : Kr w m l R w') (l' : List (Nat × IntKind × Nat × (Nat → Int))) (b : Nat) (k : IntKind) (n : Nat) (f : Nat → Int) (o q : Nat) (ho : o + q ≤ n) (g : Nat → Int) (hp : (b, k, n, f) ∈ l) (hl : ∀ p ∈ l', p ∈ l) (hne : ∀ p ∈ l', p.1 ≠ b) (hlo : w.heap.size ≤ b) :
    Kr w m ((b, k, n, over f o q g) :: l') R (w'.setCells b o (row k q g)) :=
  ((h.loose l' b k n f hp hl hne hlo).poke b n List.mem_cons_self o _).settle R b k n _ List.mem_cons_self (fun _ hq => List.mem_cons_of_mem _ hq) (fun q hq => (h.apart _ hp q hq).symm) ((h.get _ _ _ _ hp).part o q ho g)
theorem Kr.headC {w w' : World} {m : Nat} {l : List (Nat × IntKind × Nat × (Nat → Int))} {R : List (Nat × Nat)} {b : Nat} {k : IntKind} {n : Nat} {f : Nat → Int} (h : Kr w m ((b, k, n, f) :: l) R w') (g : Nat → Int) (e : ∀ j, j < n → f j = g j) : Kr w m ((b, k, n, g) :: l) R w' :=
  ⟨fun p hp => by
    rcases List.mem_cons.1 hp with rfl | hp
    · exact ⟨(h.rows _ List.mem_cons_self).1.congr e, (h.rows _ List.mem_cons_self).2⟩
    · exact h.rows p (List.mem_cons_of_mem _ hp), h.room, fun p hp q hq => by
    rcases List.mem_cons.1 hp with rfl | hp
    · exact h.apart _ List.mem_cons_self q hq
    · exact h.apart p (List.mem_cons_of_mem _ hp) q hq, h.size, h.base, h.below⟩
theorem byt_dig (x : Nat) : ∀ j, j < 8 → byt (x : Int) j = dig x j
  | 0, _ => by show (x : Int) % 256 = ((x / 1 % 256 : Nat) : Int); omega
  | 1, _ => by show (x : Int) / 256 % 256 = ((x / 256 % 256 : Nat) : Int); omega
  | 2, _ => by show (x : Int) / 65536 % 256 = ((x / 65536 % 256 : Nat) : Int); omega
  | 3, _ => by show (x : Int) / 16777216 % 256 = ((x / 16777216 % 256 : Nat) : Int); omega
  | 4, _ => by show (x : Int) / 4294967296 % 256 = ((x / 4294967296 % 256 : Nat) : Int); omega
  | 5, _ => by show (x : Int) / 1099511627776 % 256 = ((x / 1099511627776 % 256 : Nat) : Int); omega
  | 6, _ => by show (x : Int) / 281474976710656 % 256 = ((x / 281474976710656 % 256 : Nat) : Int); omega
  | 7, _ => by show (x : Int) / 72057594037927936 % 256 = ((x / 72057594037927936 % 256 : Nat) : Int); omega
  | _ + 8, h => by omega
/-- One of three. -/
def pk3 {α : Type} (a b c : α) : Nat → α
  | 0 => a
  | 1 => b
  | _ => c
theorem tot3 (a b c : Nat) : tot (pk3 a b c) 3 = a + b + c := by show 0 + a + b + c = _; omega
theorem cat3 (bl : Nat) (b : Nat → Int) (sl : Nat) (s : Nat → Int) (j : Nat) : catz (pk3 (up16 bl) (up16 sl) 16) (pk3 (padz bl b) (padz sl s) (app (dig bl) 8 (dig sl))) 3 j = amx bl b sl s j := by
  show app (app (app (fun _ => 0) 0 (padz bl b)) (0 + up16 bl) (padz sl s)) (0 + up16 bl + up16 sl) (app (dig bl) 8 (dig sl)) j = _
  unfold amx
  generalize up16 bl = x
  generalize up16 sl = y
  simp only [app, Nat.zero_add, Nat.not_lt_zero, if_false, Nat.sub_zero]
  by_cases h1 : j < x + y
  · rw [if_pos h1, if_pos (show j < x + y + 8 by omega), if_pos h1]
  · rw [if_neg h1]
    by_cases h2 : j < x + y + 8
    · rw [if_pos (by omega), if_pos h2, if_neg h1]
    · rw [if_neg (by omega), if_neg h2, show j - (x + y) - 8 = j - (x + y + 8) by omega]
theorem catIn3 {w : World} (C : Nat) (p1 p2 p3 : Option Addr) (l1 l2 l3 c1 c2 c3 : Nat) (z1 z2 z3 : Nat → Int) (t : TypeId) (hC : C = w.heap.size) (h1 : Src w p1 l1 z1) (h2 : Src w p2 l2 z2) (h3 : Src w p3 l3 z3) (n1 : p1 = none → c1 = 0) (n2 : p2 = none → c2 = 0) (n3 : p3 = none → c3 = 0) :
    CatIn (w.alloc (.cells #[.slice p1 l1 c1, .slice p2 l2 c2, .slice p3 l3 c3] t)) ⟨C, 0, none⟩ 3 (pk3 p1 p2 p3) (pk3 l1 l2 l3) (pk3 c1 c2 c3) (pk3 z1 z2 z3) := by
  have hb := (Below.refl w.heap.size w).alloc (Nat.le_refl _) (.cells #[.slice p1 l1 c1, .slice p2 l2 c2, .slice p3 l3 c3] t)
  refine ⟨fun j hj => ?_, fun j hj => ?_, fun j hj => ?_⟩
  · rw [Addr.add_mid, World.cell?_alloc_at _ _ _ _ hC]
    match j, hj with
    | 0, _ | 1, _ | 2, _ => rfl
    | _ + 3, h => omega
  · match j, hj with
    | 0, _ => exact h1.below hb (Nat.le_refl _)
    | 1, _ => exact h2.below hb (Nat.le_refl _)
    | 2, _ => exact h3.below hb (Nat.le_refl _)
    | _ + 3, h => omega
  · match j, hj with
    | 0, _ => exact n1
    | 1, _ => exact n2
    | 2, _ => exact n3
    | _ + 3, h => omega

set_option maxRecDepth 10000 in
set_option maxHeartbeats 8000000 in
theorem once_any (k n : Nat → Int) (hk : In 256 32 k) (hn : In 256 12 n) (w : World) (hg : HGlob w) :
    Calls Tryd.prog 22 #[(.agg (row .u8 32 (k)).toArray), (.agg (row .u8 12 (n)).toArray)] w fun e w' => e = .returned (.agg (row .u8 32 (hblk k 0 n)).toArray) ∧ Below w.heap.size w w' := by
  have K := Kr.init w
  replace K := K.box .u8 32 k 23 (w.heap.size) rfl
  replace K := K.box .u8 12 n 25 (w.heap.size + 1) (by simp)
  replace K := K.make 32 #[.int .u8 0, .int .u8 0, .int .u8 0, .int .u8 0, .int .u8 0, .int .u8 0, .int .u8 0, .int .u8 0, .int .u8 0, .int .u8 0, .int .u8 0, .int .u8 0, .int .u8 0, .int .u8 0, .int .u8 0, .int .u8 0, .int .u8 0, .int .u8 0, .int .u8 0, .int .u8 0, .int .u8 0, .int .u8 0, .int .u8 0, .int .u8 0, .int .u8 0, .int .u8 0, .int .u8 0, .int .u8 0, .int .u8 0, .int .u8 0, .int .u8 0, .int .u8 0] 23 (w.heap.size + 1 + 1) (by simp) (key_zero _ _ _ (by simp)).there
  go_enter Tryd.func22, Tryd.ntmps22
  go_upto_region 1 with fail
  generalize (((w.alloc (.cells (row .u8 32 k).toArray 23)).alloc (.cells (row .u8 12 n).toArray 25)).alloc (.cells #[.int .u8 0, .int .u8 0, .int .u8 0, .int .u8 0, .int .u8 0, .int .u8 0, .int .u8 0, .int .u8 0, .int .u8 0, .int .u8 0, .int .u8 0, .int .u8 0, .int .u8 0, .int .u8 0, .int .u8 0, .int .u8 0, .int .u8 0, .int .u8 0, .int .u8 0, .int .u8 0, .int .u8 0, .int .u8 0, .int .u8 0, .int .u8 0, .int .u8 0, .int .u8 0, .int .u8 0, .int .u8 0, .int .u8 0, .int .u8 0, .int .u8 0, .int .u8 0] 23)) = w0 at K ⊢
  refine wp_region_list ?_
  refine rowKL .u8 32 (k) (w.heap.size) 0 23 _ _ rfl rfl rfl Tryd.underlying23 rfl (key_info _) ((K.get _ _ _ _ (List.mem_cons_of_mem _ List.mem_cons_self)).range) ?_
  simp only [Act.put, List.setIfInBounds_toArray, List.set_cons_zero, List.set_cons_succ]
  refine rowKL .u8 12 (n) (w.heap.size + 1) 0 25 _ _ rfl rfl rfl Tryd.underlying25 rfl (hn_info _) ((K.get _ _ _ _ List.mem_cons_self).range) ?_
  simp only [Act.put, List.setIfInBounds_toArray, List.set_cons_zero, List.set_cons_succ]
  refine callL rfl (fun _ => by kernel_rfl) (hblock_any k 0 n hk hn _ (hg.below K.below hg.size)) ?_
  rintro e w1 ⟨rfl, l⟩
  replace K := K.call l
  clear l
  refine ⟨_, rfl, ?_⟩
  simp only [Act.put, List.setIfInBounds_toArray, List.set_cons_zero, List.set_cons_succ]
  refine allocL #[.int .u8 0, .int .u8 0, .int .u8 0, .int .u8 0, .int .u8 0, .int .u8 0, .int .u8 0, .int .u8 0, .int .u8 0, .int .u8 0, .int .u8 0, .int .u8 0, .int .u8 0, .int .u8 0, .int .u8 0, .int .u8 0, .int .u8 0, .int .u8 0, .int .u8 0, .int .u8 0, .int .u8 0, .int .u8 0, .int .u8 0, .int .u8 0, .int .u8 0, .int .u8 0, .int .u8 0, .int .u8 0, .int .u8 0, .int .u8 0, .int .u8 0, .int .u8 0, .int .u8 0, .int .u8 0, .int .u8 0, .int .u8 0, .int .u8 0, .int .u8 0, .int .u8 0, .int .u8 0, .int .u8 0, .int .u8 0, .int .u8 0, .int .u8 0, .int .u8 0, .int .u8 0, .int .u8 0, .int .u8 0, .int .u8 0, .int .u8 0, .int .u8 0, .int .u8 0, .int .u8 0, .int .u8 0, .int .u8 0, .int .u8 0, .int .u8 0, .int .u8 0, .int .u8 0, .int .u8 0, .int .u8 0, .int .u8 0, .int .u8 0, .int .u8 0] 43 rfl (fun _ => by kernel_rfl) ?_
  simp only [Act.put, List.setIfInBounds_toArray, List.set_cons_zero, List.set_cons_succ]
  refine storesL .u8 64 (hblk k 0 n) w1.heap.size 43 _ _ rfl rfl rfl rfl (room_of (hb_zero _ _ _ rfl).there) (hb_info' _) ?_
  simp only [Act.put]
  have zX := K.size
  replace K := K.fresh .u8 64 (hblk k 0 n) #[.int .u8 0, .int .u8 0, .int .u8 0, .int .u8 0, .int .u8 0, .int .u8 0, .int .u8 0, .int .u8 0, .int .u8 0, .int .u8 0, .int .u8 0, .int .u8 0, .int .u8 0, .int .u8 0, .int .u8 0, .int .u8 0, .int .u8 0, .int .u8 0, .int .u8 0, .int .u8 0, .int .u8 0, .int .u8 0, .int .u8 0, .int .u8 0, .int .u8 0, .int .u8 0, .int .u8 0, .int .u8 0, .int .u8 0, .int .u8 0, .int .u8 0, .int .u8 0, .int .u8 0, .int .u8 0, .int .u8 0, .int .u8 0, .int .u8 0, .int .u8 0, .int .u8 0, .int .u8 0, .int .u8 0, .int .u8 0, .int .u8 0, .int .u8 0, .int .u8 0, .int .u8 0, .int .u8 0, .int .u8 0, .int .u8 0, .int .u8 0, .int .u8 0, .int .u8 0, .int .u8 0, .int .u8 0, .int .u8 0, .int .u8 0, .int .u8 0, .int .u8 0, .int .u8 0, .int .u8 0, .int .u8 0, .int .u8 0, .int .u8 0, .int .u8 0] 43 (hb_zero _ _ _ rfl).there
  generalize ((w1.alloc (.cells #[.int .u8 0, .int .u8 0, .int .u8 0, .int .u8 0, .int .u8 0, .int .u8 0, .int .u8 0, .int .u8 0, .int .u8 0, .int .u8 0, .int .u8 0, .int .u8 0, .int .u8 0, .int .u8 0, .int .u8 0, .int .u8 0, .int .u8 0, .int .u8 0, .int .u8 0, .int .u8 0, .int .u8 0, .int .u8 0, .int .u8 0, .int .u8 0, .int .u8 0, .int .u8 0, .int .u8 0, .int .u8 0, .int .u8 0, .int .u8 0, .int .u8 0, .int .u8 0, .int .u8 0, .int .u8 0, .int .u8 0, .int .u8 0, .int .u8 0, .int .u8 0, .int .u8 0, .int .u8 0, .int .u8 0, .int .u8 0, .int .u8 0, .int .u8 0, .int .u8 0, .int .u8 0, .int .u8 0, .int .u8 0, .int .u8 0, .int .u8 0, .int .u8 0, .int .u8 0, .int .u8 0, .int .u8 0, .int .u8 0, .int .u8 0, .int .u8 0, .int .u8 0, .int .u8 0, .int .u8 0, .int .u8 0, .int .u8 0, .int .u8 0, .int .u8 0] 43)).setCells w1.heap.size 0 (row .u8 64 (hblk k 0 n))) = w2 at K ⊢
  generalize w1.heap.size = X at *
  show Exit.then _ _ _ _ _
  go_upto_region 2 with fail
  refine wp_region_list ?_
  refine pureL (.slice (some ⟨X, 0, none⟩) 32 64) rfl (fun _ => by kernel_rfl) ?_
  simp only [Act.put, List.setIfInBounds_toArray, List.set_cons_zero, List.set_cons_succ]
  refine pureL (.pointer (some ⟨X, 0, none⟩)) rfl (fun _ => by kernel_rfl) ?_
  simp only [Act.put, List.setIfInBounds_toArray, List.set_cons_zero, List.set_cons_succ]
  refine rowKL .u8 32 (hblk k 0 n) X 0 23 _ _ rfl rfl rfl Tryd.underlying23 rfl (key_info _) ((K.get _ _ _ _ List.mem_cons_self).head 32 (by decide)) ?_
  simp only [Act.put, List.setIfInBounds_toArray, List.set_cons_zero, List.set_cons_succ]
  have hz' := (K.room _ List.mem_cons_self).1
  refine storesL .u8 32 (hblk k 0 n) (w.heap.size + 1 + 1) 23 _ _ rfl rfl rfl rfl (room_of hz') (key_info' _) ?_
  simp only [Act.put]
  have hB := (K.fill _ _ List.mem_cons_self (row .u8 32 (hblk k 0 n))).below
  clear K
  generalize hGe : hblk k 0 n = G at *
  show Exit.then _ _ _ _ _
  go_wp2
  exact bodyPost_ret (v := (.agg (row .u8 32 (G)).toArray)) (results_row Tryd.results22 rfl (Has.all hz' .u8 G).range Tryd.underlying23 rfl (key_info G)) rfl ⟨by first | rfl | rw [hGe] | (rw [← hGe]; done), hB⟩

set_option maxRecDepth 10000 in
set_option maxHeartbeats 4000000 in
theorem filled_any (sp : Option Addr) (len cap : Nat) (hlen : len ≤ 140737488351232) (hcap : len ≤ cap) (z : Nat → Int) (w : World) (hs : Src w sp len z) :
    Calls Tryd.prog 24 #[.slice sp len cap] w fun e w' => ∃ sp' cap', e = .returned (.slice sp' (up16 len) cap') ∧ (up16 len ≤ cap' ∧ (sp' = none → cap' = 0) ∧ Src w' sp' (up16 len) (padz len z)) ∧ Below w.heap.size w w' := by
  have hu : up16 len = len + (16 - len % 16) % 16 := by unfold up16; omega
  obtain ⟨q, hq1, hq2⟩ := cut_full (P := Tryd.prog) (t := 26) (by kernel_rfl) (fun _ => by kernel_rfl) sp len cap hcap
  obtain ⟨p, c, w1, hr, hc, hp, hB, hn⟩ := run_append_full (P := Tryd.prog) (w := w) (ty := 26) Tryd.underlying26 Tryd.underlying3 one8 q len z (hq2 w z hs) ((16 - len % 16) % 16) (by omega) (by omega)
  rw [hu]
  go_enter Tryd.func24, Tryd.ntmps24
  go_upto_region 1 with fail
  refine wp_region_list ?_
  refine pureL (.slice sp len cap) rfl (fun _ => by kernel_rfl) ?_
  simp only [Act.put, List.setIfInBounds_toArray, List.set_cons_zero, List.set_cons_succ]
  refine pureL (.slice sp len cap) rfl (fun _ => by kernel_rfl) ?_
  simp only [Act.put, List.setIfInBounds_toArray, List.set_cons_zero, List.set_cons_succ]
  refine pureL (.int .i64 (len : Int)) rfl (fun w => lenS _ 26 5 (sp) (len) (cap) rfl Tryd.underlying26 rfl w) ?_
  simp only [Act.put, List.setIfInBounds_toArray, List.set_cons_zero, List.set_cons_succ]
  refine pureL (.slice sp len cap) rfl (fun _ => by kernel_rfl) ?_
  simp only [Act.put, List.setIfInBounds_toArray, List.set_cons_zero, List.set_cons_succ]
  refine pureL (.int .i64 (len : Int)) rfl (fun w => lenS _ 26 5 (sp) (len) (cap) rfl Tryd.underlying26 rfl w) ?_
  simp only [Act.put, List.setIfInBounds_toArray, List.set_cons_zero, List.set_cons_succ]
  refine pureL (.slice q len len) rfl (fun w => cutHMop _ _ _ _ _ _ _ _ rfl rfl rfl rfl (hq1 w)) ?_
  simp only [Act.put, List.setIfInBounds_toArray, List.set_cons_zero, List.set_cons_succ]
  refine pureL (.slice sp len cap) rfl (fun _ => by kernel_rfl) ?_
  simp only [Act.put, List.setIfInBounds_toArray, List.set_cons_zero, List.set_cons_succ]
  refine pureL (.int .i64 (len : Int)) rfl (fun w => lenS _ 26 5 (sp) (len) (cap) rfl Tryd.underlying26 rfl w) ?_
  simp only [Act.put, List.setIfInBounds_toArray, List.set_cons_zero, List.set_cons_succ]
  refine pureL (.int .i64 ((len % 16 : Nat) : Int)) rfl (fun w => remI .i64 _ _ _ _ _ _ _ rfl rfl rfl (by decide) (by rw [Int.tmod_eq_emod_of_nonneg (by omega)]; omega) w) ?_
  simp only [Act.put, List.setIfInBounds_toArray, List.set_cons_zero, List.set_cons_succ]
  refine pureL (.int .i64 ((16 - len % 16 : Nat) : Int)) rfl (fun w => subI .i64 _ _ _ _ _ _ _ rfl rfl rfl (by rw [IntKind.wrap_i64]; omega) w) ?_
  simp only [Act.put, List.setIfInBounds_toArray, List.set_cons_zero, List.set_cons_succ]
  refine pureL (.int .i64 (((16 - len % 16) % 16 : Nat) : Int)) rfl (fun w => remI .i64 _ _ _ _ _ _ _ rfl rfl rfl (by decide) (by rw [Int.tmod_eq_emod_of_nonneg (by omega)]; omega) w) ?_
  simp only [Act.put, List.setIfInBounds_toArray, List.set_cons_zero, List.set_cons_succ]
  refine actL (.slice p (len + (16 - len % 16) % 16) c) rfl (appendNOp _ _ 26 3 _ _ _ rfl rfl rfl hr) ?_
  simp only [Act.put, List.setIfInBounds_toArray, List.set_cons_zero, List.set_cons_succ]
  refine pureL (.slice p (len + (16 - len % 16) % 16) c) rfl (fun _ => by kernel_rfl) ?_
  simp only [Act.put, List.setIfInBounds_toArray, List.set_cons_zero, List.set_cons_succ]
  show Exit.then _ _ _ _ _
  clear hr hq1 hq2 hu
  go_wp2
  go_ret
  exact ⟨p, c, rfl, ⟨hc, hn, hp⟩, hB⟩

set_option maxRecDepth 10000 in
set_option maxHeartbeats 8000000 in
theorem tagOf_any (k n : Nat → Int) (hk : In 256 32 k) (hn : In 256 12 n) (bp : Option Addr) (bl bc : Nat) (hbl : bl ≤ 140737488351232) (hbc : bl ≤ bc) (b : Nat → Int) (hb : In 256 bl b) (sp : Option Addr) (len cap : Nat) (hlen : len ≤ 140737488351232) (hcap : len ≤ cap) (z : Nat → Int) (hz : In 256 len z) (w : World) (hg : AGlob w) (hsb : Src w bp bl b) (hs : Src w sp len z) :
    Calls Tryd.prog 15 #[(.agg (row .u8 32 (k)).toArray), (.agg (row .u8 12 (n)).toArray), .slice bp bl bc, .slice sp len cap] w fun e w' => e = .returned (.agg (row .u8 16 (atag k n bl b len z)).toArray) ∧ Below w.heap.size w w' := by
  have K := Kr.init w
  replace K := K.box .u8 32 k 23 (w.heap.size) rfl
  replace K := K.box .u8 12 n 25 (w.heap.size + 1) (by simp)
  replace K := K.make 16 #[.int .u8 0, .int .u8 0, .int .u8 0, .int .u8 0, .int .u8 0, .int .u8 0, .int .u8 0, .int .u8 0, .int .u8 0, .int .u8 0, .int .u8 0, .int .u8 0, .int .u8 0, .int .u8 0, .int .u8 0, .int .u8 0] 36 (w.heap.size + 1 + 1) (by simp) (tag_zero _ _ _ (by simp)).there
  replace K := K.boxO .u8 16 (fun _ => 0) (.cells #[.int .u8 0, .int .u8 0, .int .u8 0, .int .u8 0, .int .u8 0, .int .u8 0, .int .u8 0, .int .u8 0, .int .u8 0, .int .u8 0, .int .u8 0, .int .u8 0, .int .u8 0, .int .u8 0, .int .u8 0, .int .u8 0] 35) (w.heap.size + 1 + 1 + 1) (by simp) (tag_zero _ _ _ (by simp))
  go_enter Tryd.func15, Tryd.ntmps15
  go_upto_region 2 with fail
  generalize ((((w.alloc (.cells (row .u8 32 k).toArray 23)).alloc (.cells (row .u8 12 n).toArray 25)).alloc (.cells #[.int .u8 0, .int .u8 0, .int .u8 0, .int .u8 0, .int .u8 0, .int .u8 0, .int .u8 0, .int .u8 0, .int .u8 0, .int .u8 0, .int .u8 0, .int .u8 0, .int .u8 0, .int .u8 0, .int .u8 0, .int .u8 0] 36)).alloc (.cells #[.int .u8 0, .int .u8 0, .int .u8 0, .int .u8 0, .int .u8 0, .int .u8 0, .int .u8 0, .int .u8 0, .int .u8 0, .int .u8 0, .int .u8 0, .int .u8 0, .int .u8 0, .int .u8 0, .int .u8 0, .int .u8 0] 35)) = w0 at K ⊢
  refine wp_region_list ?_
  refine pureL (.slice (some ⟨w.heap.size + 1 + 1 + 1, 0, none⟩) 16 16) rfl (fun _ => by kernel_rfl) ?_
  simp only [Act.put, List.setIfInBounds_toArray, List.set_cons_zero, List.set_cons_succ]
  refine pureL (.slice bp bl bc) rfl (fun _ => by kernel_rfl) ?_
  simp only [Act.put, List.setIfInBounds_toArray, List.set_cons_zero, List.set_cons_succ]
  refine pureL (.int .i64 (bl : Int)) rfl (fun w => lenS _ 26 5 (bp) (bl) (bc) rfl Tryd.underlying26 rfl w) ?_
  simp only [Act.put, List.setIfInBounds_toArray, List.set_cons_zero, List.set_cons_succ]
  refine pureL (.int .u64 (bl : Int)) rfl (fun w => convI .i64 .u64 _ _ _ _ _ rfl (by kernel_rfl) Tryd.underlying46 (by kernel_rfl) rfl (by rw [IntKind.wrap_u64]; omega) w) ?_
  simp only [Act.put, List.setIfInBounds_toArray, List.set_cons_zero, List.set_cons_succ]
  refine callL rfl (fun _ => by kernel_rfl) (put16_any (w.heap.size + 1 + 1 + 1) 0 16 16 _ (bl : Int) (by decide) _ (K.get _ _ _ _ List.mem_cons_self)) ?_
  rintro e w1 ⟨rfl, rfl⟩
  replace K := K.part [(w.heap.size + 1, .u8, 12, n), (w.heap.size, .u8, 32, k)] (w.heap.size + 1 + 1 + 1) .u8 16 _ 0 8 (by decide) (byt (bl : Int)) List.mem_cons_self (fun p hp => by rcases List.mem_cons.1 hp with rfl | hp; exact (List.mem_cons_of_mem _ List.mem_cons_self); obtain rfl := List.mem_singleton.1 hp; exact (List.mem_cons_of_mem _ (List.mem_cons_of_mem _ List.mem_cons_self))) (fun p hp => by rcases List.mem_cons.1 hp with rfl | hp; simp only; omega; obtain rfl := List.mem_singleton.1 hp; simp only; omega) (by omega)
  generalize w0.setCells (w.heap.size + 1 + 1 + 1) 0 (row .u8 8 (byt (bl : Int))) = w1 at K ⊢
  refine ⟨_, rfl, ?_⟩
  simp only [Act.put, List.setIfInBounds_toArray, List.set_cons_zero, List.set_cons_succ]
  show Exit.then _ _ _ _ _
  go_upto_region 3 with fail
  refine wp_region_list ?_
  refine pureL (.slice (some ⟨w.heap.size + 1 + 1 + 1, 8, none⟩) 8 8) rfl (fun _ => by kernel_rfl) ?_
  simp only [Act.put, List.setIfInBounds_toArray, List.set_cons_zero, List.set_cons_succ]
  refine pureL (.slice sp len cap) rfl (fun _ => by kernel_rfl) ?_
  simp only [Act.put, List.setIfInBounds_toArray, List.set_cons_zero, List.set_cons_succ]
  refine pureL (.int .i64 (len : Int)) rfl (fun w => lenS _ 26 5 (sp) (len) (cap) rfl Tryd.underlying26 rfl w) ?_
  simp only [Act.put, List.setIfInBounds_toArray, List.set_cons_zero, List.set_cons_succ]
  refine pureL (.int .u64 (len : Int)) rfl (fun w => convI .i64 .u64 _ _ _ _ _ rfl (by kernel_rfl) Tryd.underlying46 (by kernel_rfl) rfl (by rw [IntKind.wrap_u64]; omega) w) ?_
  simp only [Act.put, List.setIfInBounds_toArray, List.set_cons_zero, List.set_cons_succ]
  refine callL rfl (fun _ => by kernel_rfl) (put_any (w.heap.size + 1 + 1 + 1) 8 16 8 _ (len : Int) (by decide) _ (K.get _ _ _ _ List.mem_cons_self)) ?_
  rintro e w2 ⟨rfl, rfl⟩
  replace K := K.part [(w.heap.size + 1, .u8, 12, n), (w.heap.size, .u8, 32, k)] (w.heap.size + 1 + 1 + 1) .u8 16 _ 8 8 (by decide) (byt (len : Int)) List.mem_cons_self (fun p hp => by rcases List.mem_cons.1 hp with rfl | hp; exact (List.mem_cons_of_mem _ List.mem_cons_self); obtain rfl := List.mem_singleton.1 hp; exact (List.mem_cons_of_mem _ (List.mem_cons_of_mem _ List.mem_cons_self))) (fun p hp => by rcases List.mem_cons.1 hp with rfl | hp; simp only; omega; obtain rfl := List.mem_singleton.1 hp; simp only; omega) (by omega)
  generalize w1.setCells (w.heap.size + 1 + 1 + 1) 8 (row .u8 8 (byt (len : Int))) = w2 at K ⊢
  replace K := K.headC (app (dig bl) 8 (dig len)) (fun j hj => by
    unfold over app
    by_cases e : j < 8
    · rw [if_neg (by omega), if_pos (by omega), if_pos e, Nat.sub_zero]; exact byt_dig bl j e
    · rw [if_pos (by omega), if_neg e]; exact byt_dig len (j - 8) (by omega))
  refine ⟨_, rfl, ?_⟩
  simp only [Act.put, List.setIfInBounds_toArray, List.set_cons_zero, List.set_cons_succ]
  show Exit.then _ _ _ _ _
  go_upto_region 4 with fail
  refine wp_region_held_drew (S := fun w' => Kr w (w.heap.size + 1 + 1 + 1 + 1) [(w.heap.size + 1 + 1 + 1, .u8, 16, (app (dig bl) 8 (dig len))), (w.heap.size + 1, .u8, 12, n), (w.heap.size, .u8, 32, k)] [(w.heap.size + 1 + 1, 16)] w') (by kernel_rfl) K.drew ?_
  clear K
  intro K
  refine rowKH (i := 0) (some 20) rfl .u8 32 (k) (w.heap.size) 0 23 _ _ rfl rfl rfl rfl (by kernel_rfl) (by kernel_rfl) (by kernel_rfl) (fun _ _ _ h => h) Tryd.underlying23 rfl (key_info _) K (fun _ h => (h.get _ _ _ _ (List.mem_cons_of_mem _ (List.mem_cons_of_mem _ List.mem_cons_self))).range) ?_
  simp only [Act.put, List.setIfInBounds_toArray, List.set_cons_zero, List.set_cons_succ]
  refine rowKH (i := 1) (some 21) rfl .u8 12 (n) (w.heap.size + 1) 0 25 _ _ rfl rfl rfl rfl (by kernel_rfl) (by kernel_rfl) (by kernel_rfl) (fun _ _ _ h => h) Tryd.underlying25 rfl (hn_info _) K (fun _ h => (h.get _ _ _ _ (List.mem_cons_of_mem _ List.mem_cons_self)).range) ?_
  simp only [Act.put, List.setIfInBounds_toArray, List.set_cons_zero, List.set_cons_succ]
  refine pureH (i := 3) (some 23) rfl (.slice bp bl bc) rfl rfl (fun _ => by kernel_rfl) (by kernel_rfl) (by kernel_rfl) (by kernel_rfl) (fun _ _ _ h => h) K ?_
  simp only [Act.put, List.setIfInBounds_toArray, List.set_cons_zero, List.set_cons_succ]
  refine pureH (i := 5) (some 25) rfl (.slice sp len cap) rfl rfl (fun _ => by kernel_rfl) (by kernel_rfl) (by kernel_rfl) (by kernel_rfl) (fun _ _ _ h => h) K ?_
  simp only [Act.put, List.setIfInBounds_toArray, List.set_cons_zero, List.set_cons_succ]
  refine pureH (i := 7) (some 27) rfl (.slice (some ⟨w.heap.size + 1 + 1 + 1, 0, none⟩) 16 16) rfl rfl (fun _ => by kernel_rfl) (by kernel_rfl) (by kernel_rfl) (by kernel_rfl) (fun _ _ _ h => h) K ?_
  simp only [Act.put, List.setIfInBounds_toArray, List.set_cons_zero, List.set_cons_succ]
  refine callH (i := 2) (some 22) rfl (by kernel_rfl) rfl rfl (fun _ => by kernel_rfl) (once_any k n hk hn _ (hg.h.below K.below hg.size)) ?_
  rintro e w3 ⟨rfl, l⟩
  replace K := K.call l
  clear l
  refine ⟨_, rfl, K, ?_⟩
  simp only [Act.put, List.setIfInBounds_toArray, List.set_cons_zero, List.set_cons_succ]
  refine callH (i := 4) (some 24) rfl (by kernel_rfl) rfl rfl (fun _ => by kernel_rfl) (filled_any bp bl bc hbl hbc b _ (hsb.below K.below (Nat.le_refl _))) ?_
  rintro e w4 ⟨p1, c1, rfl, ⟨_, n1, S1⟩, l⟩
  replace K := K.call l
  clear l
  refine ⟨_, rfl, K, ?_⟩
  simp only [Act.put, List.setIfInBounds_toArray, List.set_cons_zero, List.set_cons_succ]
  refine callH (i := 6) (some 26) rfl (by kernel_rfl) rfl rfl (fun _ => by kernel_rfl) (filled_any sp len cap hlen hcap z _ (hs.below K.below (Nat.le_refl _))) ?_
  rintro e w5 ⟨p2, c2, rfl, ⟨_, n2, S2⟩, l⟩
  replace K := K.call l
  replace S1 := S1.below l (Nat.le_refl _)
  clear l
  refine ⟨_, rfl, K, ?_⟩
  simp only [Act.put, List.setIfInBounds_toArray, List.set_cons_zero, List.set_cons_succ]
  have HC := catIn3 w5.heap.size p1 p2 (some ⟨w.heap.size + 1 + 1 + 1, 0, none⟩) (up16 bl) (up16 len) 16 c1 c2 16 (padz bl b) (padz len z) (app (dig bl) 8 (dig len)) 26 rfl S1 S2 (K.get _ _ _ _ List.mem_cons_self).src0 n1 n2 (fun e => by cases e)
  replace K := K.call ((Below.refl w5.heap.size w5).alloc (Nat.le_refl _) (.cells #[.slice p1 (up16 bl) c1, .slice p2 (up16 len) c2, .slice (some ⟨w.heap.size + 1 + 1 + 1, 0, none⟩) 16 16] 26))
  refine actH (i := 8) (w' := w5.alloc (.cells #[.slice p1 (up16 bl) c1, .slice p2 (up16 len) c2, .slice (some ⟨w.heap.size + 1 + 1 + 1, 0, none⟩) 16 16] 26)) (some 28) rfl (.slice (some ⟨w5.heap.size, 0, none⟩) 3 3) (by kernel_rfl) rfl rfl (by kernel_rfl) K ?_
  simp only [Act.put, List.setIfInBounds_toArray, List.set_cons_zero, List.set_cons_succ]
  generalize (w5.alloc (.cells #[.slice p1 (up16 bl) c1, .slice p2 (up16 len) c2, .slice (some ⟨w.heap.size + 1 + 1 + 1, 0, none⟩) 16 16] 26)) = w6 at K HC ⊢
  generalize w5.heap.size = C at HC ⊢
  clear S1 S2
  have u1 : up16 bl ≤ 140737488351232 := by unfold up16; omega
  have u2 : up16 len ≤ 140737488351232 := by unfold up16; omega
  refine callH (i := 9) (some 29) rfl (by kernel_rfl) rfl rfl (fun _ => by kernel_rfl) (concat_any ⟨C, 0, none⟩ 3 3 _ _ _ _ (by decide) (by rw [tot3]; omega) _ HC) ?_
  rintro e w7 ⟨v, rfl, O, l⟩
  replace K := K.call l
  clear l HC
  rw [tot3] at O
  replace O := O.congr (fun j _ => cat3 bl b len z j)
  obtain ⟨p3, c3, rfl, hc3, S3⟩ := O.bytes
  refine ⟨_, rfl, K, ?_⟩
  simp only [Act.put, List.setIfInBounds_toArray, List.set_cons_zero, List.set_cons_succ]
  have hA : up16 bl + up16 len + 16 = amt bl len := by unfold amt; omega
  rw [hA] at hc3 S3 ⊢
  have hA2 : amt bl len ≤ 281474976710656 := by omega
  clear O hA u1 u2
  refine callH (i := 10) (some 30) rfl (by kernel_rfl) rfl rfl (fun _ => by kernel_rfl) (psum_any (hblk k 0 n) (hblk_in k 0 n 32) p3 (amt bl len) c3 hA2 hc3 _ (amx_in bl b len z hb hz) _ (hg.c.below K.below hg.size) S3) ?_
  rintro e w8 ⟨f, rfl, ⟨hf1, hf2⟩, l⟩
  replace K := K.call l
  clear l S3
  rw [row_congr .u8 16 (tag_is hf1 hf2)]
  clear hf1 hf2
  refine ⟨_, rfl, K, ?_⟩
  simp only [Act.put, List.setIfInBounds_toArray, List.set_cons_zero, List.set_cons_succ]
  have hz' := (K.room _ List.mem_cons_self).1
  refine storesH (i := 11) none rfl .u8 16 (atag k n bl b len z) (w.heap.size + 1 + 1) 36 _ _ (by kernel_rfl) rfl rfl rfl rfl rfl (room_of hz') (tag_info' _) (K.fill _ _ List.mem_cons_self _) ?_
  simp only [Act.put]
  refine wpAnyH_done (by kernel_rfl) ?_ _
  have hB := (K.fill _ _ List.mem_cons_self (row .u8 16 (atag k n bl b len z))).below
  clear K
  generalize hGe : atag k n bl b len z = G at *
  go_wp2
  exact bodyPost_ret (v := (.agg (row .u8 16 (G)).toArray)) (results_row Tryd.results15 rfl (Has.all hz' .u8 G).range Tryd.underlying36 rfl (tag_info G)) rfl ⟨by first | rfl | rw [hGe] | (rw [← hGe]; done), hB⟩
end Go.Proofs.YteclkiabkdaklaaDoor

namespace Go.Proofs.YteclkiabkdaklaaDoor
open Go.RowKit

/-- A whole array is loaded, wherever it lies. -/
theorem loadArr {P : Program} {o : Oper} {a : Act} {w : World} (ty : TypeId) (x : Operand) (ad : Addr) (n : Nat) (f : Nat → Int) (d : TypeDesc) (ho : o.op = .load ty x) (hx : a.eval x = .pointer (some ad)) (hu : P.underlying ty = some d) (hd : d.isRow = true) (hz : (P.info? ty).map (·.size) = some n) (hs : Src w (some ad) n f) :
    (execOp a.eval o).run P w = .ok (.value (.agg (row .u8 n f).toArray)) w := by
  have hl : (loadCells ad n).run P w = .ok (row .u8 n f).toArray w := by
    have := run_loadCells_list (P := P) w ad (row .u8 n f) (fun j v hv => by
      obtain ⟨hj, rfl⟩ := row_get_some hv
      obtain ⟨ad', he, hc⟩ := hs j hj
      injection he with he
      subst he
      exact hc)
    rw [row_length] at this
    exact this
  have e : (loadVar ty ad).run P w = .ok (.agg (row .u8 n f).toArray) w := by
    cases hq : P.info? ty with
    | none => simp [hq] at hz
    | some i =>
      have hs' : i.size = n := by simpa [hq] using hz
      have hagg : (isAgg ty).run P w = .ok true w := by
        unfold isAgg
        rw [Sem.run_bind, run_underlying hu w]
        cases d <;> simp_all
      simp [loadVar, Sem.run_bind, hagg, sizeOf, typeInfo, hq, hs', hl]
  unfold execOp
  simp only [ho, hx, Instr.loadAt, Instr.sureAddr, Sem.run_bind, Sem.run_pure, Result.andThen_ok, e]
/-- Bytes are copied into the midst of a row. -/
theorem run_copy_mid {P : Program} {o : Oper} {a : Act} {w : World} (d s : Operand) (dT sT elem : TypeId) (ho : o.op = .call { callee := .builtin .copy, args := #[d, s], argTypes := #[dT, sT] }) (hu : P.underlying dT = some (.slice elem)) (hsz : (P.info? elem).map (·.size) = some 1)
    (b o' dCap m n sCap : Nat) (f z : Nat → Int) (ad : Addr) (hd : a.eval d = .slice (some ⟨b, o', none⟩) m dCap) (hs : a.eval s = .slice (some ad) m sCap) (hb : Has w b .u8 n f) (hm : o' + m ≤ n) (hc : Src w (some ad) m z) :
    (execOp a.eval o).run P w = .ok (.value (.int .i64 (m : Int))) (w.setCells b o' (row .u8 m z)) := by
  have hrun := run_copy_cells (P := P) w dT sT o.type elem b o' m dCap ad m sCap (row .u8 m z) hu hsz (by rw [row_length]; exact (Nat.min_self m).symm) (fun j v hv => by
    obtain ⟨hj, rfl⟩ := row_get_some hv
    obtain ⟨ad', he, hc'⟩ := hc j hj
    injection he with he
    subst he
    exact hc') (fun j hj => by rw [row_length] at hj; rw [hb.cell (o' + j) (by omega)]; rfl) (fun j hj => by rw [row_length] at hj; exact hb.free (o' + j) (by omega)) (row_one .u8 m z)
  rw [row_length] at hrun
  simp [execOp, ho, resolve, invoke, builtin, hd, hs, hrun, Result.andThen, goInt]
theorem icut (g n c : Nat) (hn : n + 16 ≤ c) (w : World) : (Instr.sliceAt 26 (.slice (some ⟨g, 0, none⟩) (n + 16) c) (some (.int .i64 (n : Int))) none none).run Tryd.prog w = .ok (.slice (some ⟨g, n, none⟩) 16 (c - n)) w := by
  rw [run_sliceAt_slice w 26 _ _ _ _ (by kernel_rfl), run_slice_l w 26 _ (n + 16) c (by kernel_rfl) .i64 (n : Int) (by omega) (by omega), show (sizeOf (Tryd.prog.elem 26)).run Tryd.prog w = .ok 1 w by kernel_rfl]
  have h1 : ¬ c = n := by omega
  simp [Result.andThen, sliced, Addr.add_mid, h1]

set_option maxRecDepth 10000 in
set_option maxHeartbeats 8000000 in
theorem aseal_any : ASealOK := by
  intro k n hk hn bp bl bc hbl hbc hbn b hb sp len cap hlen hcap hsn z hz w hg hsb hs
  have K := Kr.init w
  replace K := K.box .u8 32 k 23 (w.heap.size) rfl
  replace K := K.box .u8 12 n 25 (w.heap.size + 1) (by simp)
  go_enter Tryd.func9, Tryd.ntmps9
  go_upto_region 1 with fail
  generalize ((w.alloc (.cells (row .u8 32 k).toArray 23)).alloc (.cells (row .u8 12 n).toArray 25)) = w0 at K ⊢
  refine wp_region_list ?_
  refine rowKL .u8 32 (k) (w.heap.size) 0 23 _ _ rfl rfl rfl Tryd.underlying23 rfl (key_info _) ((K.get _ _ _ _ (List.mem_cons_of_mem _ List.mem_cons_self)).range) ?_
  simp only [Act.put, List.setIfInBounds_toArray, List.set_cons_zero, List.set_cons_succ]
  refine rowKL .u8 12 (n) (w.heap.size + 1) 0 25 _ _ rfl rfl rfl Tryd.underlying25 rfl (hn_info _) ((K.get _ _ _ _ List.mem_cons_self).range) ?_
  simp only [Act.put, List.setIfInBounds_toArray, List.set_cons_zero, List.set_cons_succ]
  refine pureL (.slice sp len cap) rfl (fun _ => by kernel_rfl) ?_
  simp only [Act.put, List.setIfInBounds_toArray, List.set_cons_zero, List.set_cons_succ]
  refine callL rfl (fun _ => by kernel_rfl) (hxor_any k 1 n hk hn (by decide) sp len cap (by omega) z _ (hg.h.below K.below hg.size) (hs.below K.below (Nat.le_refl _))) ?_
  rintro e w1 ⟨X, rfl, ⟨hX1, hX2, HX⟩, l⟩
  have zX := K.size
  replace K := (K.call l).own (by omega) hX2 HX
  clear l HX
  refine ⟨_, rfl, ?_⟩
  simp only [Act.put, List.setIfInBounds_toArray, List.set_cons_zero, List.set_cons_succ]
  refine pureL (.slice (some ⟨X, 0, none⟩) len len) rfl (fun _ => by kernel_rfl) ?_
  simp only [Act.put, List.setIfInBounds_toArray, List.set_cons_zero, List.set_cons_succ]
  generalize w1.heap.size = m1 at K hX2
  show Exit.then _ _ _ _ _
  go_upto_region 2 with fail
  refine wp_region_list ?_
  refine rowKL .u8 32 (k) (w.heap.size) 0 23 _ _ rfl rfl rfl Tryd.underlying23 rfl (key_info _) ((K.get _ _ _ _ (List.mem_cons_of_mem _ (List.mem_cons_of_mem _ List.mem_cons_self))).range) ?_
  simp only [Act.put, List.setIfInBounds_toArray, List.set_cons_zero, List.set_cons_succ]
  refine rowKL .u8 12 (n) (w.heap.size + 1) 0 25 _ _ rfl rfl rfl Tryd.underlying25 rfl (hn_info _) ((K.get _ _ _ _ (List.mem_cons_of_mem _ List.mem_cons_self)).range) ?_
  simp only [Act.put, List.setIfInBounds_toArray, List.set_cons_zero, List.set_cons_succ]
  refine pureL (.slice bp bl bc) rfl (fun _ => by kernel_rfl) ?_
  simp only [Act.put, List.setIfInBounds_toArray, List.set_cons_zero, List.set_cons_succ]
  refine pureL (.slice (some ⟨X, 0, none⟩) len len) rfl (fun _ => by kernel_rfl) ?_
  simp only [Act.put, List.setIfInBounds_toArray, List.set_cons_zero, List.set_cons_succ]
  refine callL rfl (fun _ => by kernel_rfl) (tagOf_any k n hk hn bp bl bc hbl hbc b hb (some ⟨X, 0, none⟩) len len hlen (Nat.le_refl _) (hxor k 1 n z) (hxor_in k 1 n z len hz) _ (hg.below K.below hg.size) (hsb.below K.below (Nat.le_refl _)) (K.get _ _ _ _ List.mem_cons_self).src0) ?_
  rintro e w2 ⟨rfl, l⟩
  replace K := K.call l
  clear l
  refine ⟨_, rfl, ?_⟩
  simp only [Act.put, List.setIfInBounds_toArray, List.set_cons_zero, List.set_cons_succ]
  refine allocL #[.int .u8 0, .int .u8 0, .int .u8 0, .int .u8 0, .int .u8 0, .int .u8 0, .int .u8 0, .int .u8 0, .int .u8 0, .int .u8 0, .int .u8 0, .int .u8 0, .int .u8 0, .int .u8 0, .int .u8 0, .int .u8 0] 36 rfl (fun _ => by kernel_rfl) ?_
  simp only [Act.put, List.setIfInBounds_toArray, List.set_cons_zero, List.set_cons_succ]
  refine storesL .u8 16 (atag k n bl b len (hxor k 1 n z)) w2.heap.size 36 _ _ rfl rfl rfl rfl (room_of (tag_zero _ _ _ rfl).there) (tag_info' _) ?_
  simp only [Act.put]
  have zT := K.size
  replace K := K.fresh .u8 16 (atag k n bl b len (hxor k 1 n z)) #[.int .u8 0, .int .u8 0, .int .u8 0, .int .u8 0, .int .u8 0, .int .u8 0, .int .u8 0, .int .u8 0, .int .u8 0, .int .u8 0, .int .u8 0, .int .u8 0, .int .u8 0, .int .u8 0, .int .u8 0, .int .u8 0] 36 (tag_zero _ _ _ rfl).there
  generalize ((w2.alloc (.cells #[.int .u8 0, .int .u8 0, .int .u8 0, .int .u8 0, .int .u8 0, .int .u8 0, .int .u8 0, .int .u8 0, .int .u8 0, .int .u8 0, .int .u8 0, .int .u8 0, .int .u8 0, .int .u8 0, .int .u8 0, .int .u8 0] 36)).setCells w2.heap.size 0 (row .u8 16 (atag k n bl b len (hxor k 1 n z)))) = w3 at K ⊢
  generalize w2.heap.size = T at *
  show Exit.then _ _ _ _ _
  go_upto_region 3 with fail
  refine wp_region_list ?_
  refine pureL (.slice (some ⟨X, 0, none⟩) len len) rfl (fun _ => by kernel_rfl) ?_
  simp only [Act.put, List.setIfInBounds_toArray, List.set_cons_zero, List.set_cons_succ]
  refine pureL (.int .i64 (len : Int)) rfl (fun w => lenS _ 26 5 (some ⟨X, 0, none⟩) (len) (len) rfl Tryd.underlying26 rfl w) ?_
  simp only [Act.put, List.setIfInBounds_toArray, List.set_cons_zero, List.set_cons_succ]
  refine pureL (.int .i64 ((len + 16 : Nat) : Int)) rfl (fun w => addI .i64 _ _ _ _ _ _ _ rfl rfl rfl (by rw [IntKind.wrap_i64]; omega) w) ?_
  simp only [Act.put, List.setIfInBounds_toArray, List.set_cons_zero, List.set_cons_succ]
  refine actL (w' := w3.alloc (.cells (row .u8 (len + 16) (fun _ => 0)).toArray 5)) (.slice (some ⟨w3.heap.size, 0, none⟩) (len + 16) (len + 16)) rfl (makeOp 26 _ _ _ _ _ rfl rfl rfl (made8 (len + 16) (by omega) w3)) ?_
  simp only [Act.put, List.setIfInBounds_toArray, List.set_cons_zero, List.set_cons_succ]
  have zY := K.size
  replace K := K.box .u8 (len + 16) (fun _ => 0) 5 w3.heap.size rfl
  generalize w3.alloc (.cells (row .u8 (len + 16) (fun _ => 0)).toArray 5) = w4 at K ⊢
  generalize w3.heap.size = Y at *
  refine pureL (.slice (some ⟨Y, 0, none⟩) (len + 16) (len + 16)) rfl (fun _ => by kernel_rfl) ?_
  simp only [Act.put, List.setIfInBounds_toArray, List.set_cons_zero, List.set_cons_succ]
  show Exit.then _ _ _ _ _
  go_upto_region 4 with fail
  refine wp_region_list ?_
  refine pureL (.slice (some ⟨Y, 0, none⟩) (len + 16) (len + 16)) rfl (fun _ => by kernel_rfl) ?_
  simp only [Act.put, List.setIfInBounds_toArray, List.set_cons_zero, List.set_cons_succ]
  refine pureL (.slice (some ⟨X, 0, none⟩) len len) rfl (fun _ => by kernel_rfl) ?_
  simp only [Act.put, List.setIfInBounds_toArray, List.set_cons_zero, List.set_cons_succ]
  refine actL (.int .i64 (len : Int)) rfl (run_copy_src _ _ 26 26 5 rfl Tryd.underlying26 (by kernel_rfl) Y (len + 16) (len + 16) len len (len + 16) (some ⟨X, 0, none⟩) (hxor k 1 n z) rfl rfl (by omega) (by omega) (K.get _ _ _ _ List.mem_cons_self).there (K.get _ _ _ _ (List.mem_cons_of_mem _ (List.mem_cons_of_mem _ List.mem_cons_self))).src0) ?_
  simp only [Act.put, List.setIfInBounds_toArray, List.set_cons_zero, List.set_cons_succ]
  replace K := K.part [(T, .u8, 16, atag k n bl b len (hxor k 1 n z)), (X, .u8, len, hxor k 1 n z)] Y .u8 (len + 16) _ 0 len (by omega) (hxor k 1 n z) List.mem_cons_self (fun p hp => by rcases List.mem_cons.1 hp with rfl | hp; exact (List.mem_cons_of_mem _ List.mem_cons_self); obtain rfl := List.mem_singleton.1 hp; exact (List.mem_cons_of_mem _ (List.mem_cons_of_mem _ List.mem_cons_self))) (fun p hp => by rcases List.mem_cons.1 hp with rfl | hp; simp only; omega; obtain rfl := List.mem_singleton.1 hp; simp only; omega) (by omega)
  generalize w4.setCells Y 0 (row .u8 len (hxor k 1 n z)) = w5 at K ⊢
  show Exit.then _ _ _ _ _
  go_upto_region 5 with fail
  have HY := K.get _ _ _ _ List.mem_cons_self
  replace K := K.loose [(T, .u8, 16, atag k n bl b len (hxor k 1 n z)), (X, .u8, len, hxor k 1 n z)] Y .u8 (len + 16) _ List.mem_cons_self (fun p hp => List.mem_cons_of_mem _ hp) (fun p hp => by rcases List.mem_cons.1 hp with rfl | hp; simp only; omega; obtain rfl := List.mem_singleton.1 hp; simp only; omega) (by omega)
  refine wp_region_held_drew (S := fun w' => Kr w (Y + 1) [(T, .u8, 16, atag k n bl b len (hxor k 1 n z)), (X, .u8, len, hxor k 1 n z)] [(Y, len + 16)] w') (by kernel_rfl) K.drew ?_
  clear K
  intro K
  replace HY := HY.drew
  generalize w5.drew = w6 at K HY ⊢
  refine pureH (i := 0) (some 28) rfl (.slice (some ⟨Y, 0, none⟩) (len + 16) (len + 16)) rfl rfl (fun _ => by kernel_rfl) (by kernel_rfl) (by kernel_rfl) (by kernel_rfl) (fun _ _ _ h => h) K ?_
  simp only [Act.put, List.setIfInBounds_toArray, List.set_cons_zero, List.set_cons_succ]
  refine pureH (i := 1) (some 29) rfl (.slice (some ⟨X, 0, none⟩) len len) rfl rfl (fun _ => by kernel_rfl) (by kernel_rfl) (by kernel_rfl) (by kernel_rfl) (fun _ _ _ h => h) K ?_
  simp only [Act.put, List.setIfInBounds_toArray, List.set_cons_zero, List.set_cons_succ]
  refine pureH (i := 2) (some 30) rfl (.int .i64 (len : Int)) rfl rfl (fun w => lenS _ 26 5 (some ⟨X, 0, none⟩) (len) (len) rfl Tryd.underlying26 rfl w) (by kernel_rfl) (by kernel_rfl) (by kernel_rfl) (fun _ _ _ h => h) K ?_
  simp only [Act.put, List.setIfInBounds_toArray, List.set_cons_zero, List.set_cons_succ]
  refine pureH (i := 3) (some 31) rfl (.slice (some ⟨Y, len, none⟩) 16 (len + 16 - len)) rfl rfl (fun w => cutOp _ _ _ _ _ _ rfl rfl rfl (icut Y len (len + 16) (Nat.le_refl _) w)) (by kernel_rfl) (by kernel_rfl) (by kernel_rfl) (fun _ _ _ h => h) K ?_
  simp only [Act.put, List.setIfInBounds_toArray, List.set_cons_zero, List.set_cons_succ]
  refine pureH (i := 4) (some 32) rfl (.slice (some ⟨T, 0, none⟩) 16 16) rfl rfl (fun _ => by kernel_rfl) (by kernel_rfl) (by kernel_rfl) (by kernel_rfl) (fun _ _ _ h => h) K ?_
  simp only [Act.put, List.setIfInBounds_toArray, List.set_cons_zero, List.set_cons_succ]
  refine actH (i := 5) (some 33) rfl (.int .i64 ((16 : Nat) : Int)) (by kernel_rfl) rfl rfl (run_copy_mid _ _ 26 26 5 rfl Tryd.underlying26 (by kernel_rfl) Y len (len + 16 - len) 16 (len + 16) 16 _ (atag k n bl b len (hxor k 1 n z)) ⟨T, 0, none⟩ rfl rfl HY (by omega) (K.get _ _ _ _ List.mem_cons_self).src0) (K.poke Y (len + 16) List.mem_cons_self len _) ?_
  simp only [Act.put, List.setIfInBounds_toArray, List.set_cons_zero, List.set_cons_succ]
  refine wpAnyH_done (by kernel_rfl) ?_ _
  have hY := (HY.part len 16 (by omega) (atag k n bl b len (hxor k 1 n z))).congr (g := aout k n bl b len z) (fun j hj => by
    unfold aout app over
    by_cases e : j < len
    · rw [if_neg (by omega), if_pos (by omega), if_pos e, Nat.sub_zero]
    · rw [if_pos (by omega), if_neg e])
  have hB := (K.poke Y (len + 16) List.mem_cons_self len (row .u8 16 (atag k n bl b len (hxor k 1 n z)))).below
  have hs6 := K.size
  clear K HY
  generalize hw7 : w6.setCells Y len (row .u8 16 (atag k n bl b len (hxor k 1 n z))) = w7 at hY hB ⊢
  have hs7 : Y < w7.heap.size := by rw [← hw7, size_setAll]; omega
  clear hw7 hs6
  have hYl : w.heap.size ≤ Y := by omega
  go_wp2
  go_ret
  exact ⟨Y, len + 16, rfl, ⟨Nat.le_refl _, hYl, hs7, hY⟩, hB⟩

theorem aopen_short (k n : Nat → Int) (bp : Option Addr) (bl bc : Nat) (sp : Option Addr) (len cap : Nat) (hl : len < 16) (w : World) :
    Calls Tryd.prog 11 #[(.agg (row .u8 32 (k)).toArray), (.agg (row .u8 12 (n)).toArray), .slice bp bl bc, .slice sp len cap] w fun e w' => e = .returned (.tuple #[.slice none 0 0, .int .i64 3]) ∧ Below w.heap.size w w' := by
  have g1 : (len : Int) < 16 := by omega
  have K := Kr.init w
  replace K := K.box .u8 32 k 23 (w.heap.size) rfl
  replace K := K.box .u8 12 n 25 (w.heap.size + 1) (by simp)
  go_enter Tryd.func11, Tryd.ntmps11
  go_upto_region 1 with fail
  generalize ((w.alloc (.cells (row .u8 32 k).toArray 23)).alloc (.cells (row .u8 12 n).toArray 25)) = w0 at K ⊢
  have hB := K.below
  clear K
  go_wp2
  go_ret2
  exact ⟨rfl, hB⟩

set_option maxRecDepth 10000 in
set_option maxHeartbeats 8000000 in
theorem aopen_long (k n : Nat → Int) (hk : In 256 32 k) (hn : In 256 12 n) (bp : Option Addr) (bl bc : Nat) (hbl : bl ≤ 140737488351232) (hbc : bl ≤ bc) (b : Nat → Int) (hb : In 256 bl b) (sp : Option Addr) (len cap : Nat) (hlen : len ≤ 140737488351248) (hcap : len ≤ cap) (hl : 16 ≤ len) (z : Nat → Int) (hz : In 256 len z) (w : World) (hg : AGlob w) (hsb : Src w bp bl b) (hs : Src w sp len z) :
    Calls Tryd.prog 11 #[(.agg (row .u8 32 (k)).toArray), (.agg (row .u8 12 (n)).toArray), .slice bp bl bc, .slice sp len cap] w fun e w' => ∃ sp' cap', e = .returned (.tuple #[.slice sp' (aoL k n bl b len z) cap', .int .i64 (aoE k n bl b len z)]) ∧ Src w' sp' (aoL k n bl b len z) (hxor k 1 n z) ∧ Below w.heap.size w w' := by
  have g1 : ¬ (len : Int) < 16 := by omega
  have hz1 : In 256 (len - 16) z := fun j hj => hz j (by omega)
  have hz2 : In 256 16 (fun j => z (len - 16 + j)) := fun j hj => hz _ (by omega)
  obtain ⟨q, hq1, hq2⟩ := cut_hi (P := Tryd.prog) (t := 26) (by kernel_rfl) (fun _ => by kernel_rfl) sp len cap (len - 16) (by omega) hcap
  obtain ⟨q', hr1, hr2⟩ := cut_lo (P := Tryd.prog) (t := 26) (by kernel_rfl) (fun _ => by kernel_rfl) sp len cap (len - 16) (by omega) hcap
  rw [show len - (len - 16) = 16 by omega] at hr1 hr2
  obtain ⟨ad, rfl, _⟩ := hr2 w z hs 0 (by decide)
  have hcq : len - 16 ≤ cap := by omega
  have K := Kr.init w
  replace K := K.box .u8 32 k 23 (w.heap.size) rfl
  replace K := K.box .u8 12 n 25 (w.heap.size + 1) (by simp)
  go_enter Tryd.func11, Tryd.ntmps11
  go_upto_region 1 with fail
  generalize ((w.alloc (.cells (row .u8 32 k).toArray 23)).alloc (.cells (row .u8 12 n).toArray 25)) = w0 at K ⊢
  go_upto_region 3 with fail
  clear g1
  refine wp_region_list ?_
  refine pureL (.slice sp len cap) rfl (fun _ => by kernel_rfl) ?_
  simp only [Act.put, List.setIfInBounds_toArray, List.set_cons_zero, List.set_cons_succ]
  refine pureL (.int .i64 (len : Int)) rfl (fun w => lenS _ 26 5 (sp) (len) (cap) rfl Tryd.underlying26 rfl w) ?_
  simp only [Act.put, List.setIfInBounds_toArray, List.set_cons_zero, List.set_cons_succ]
  refine pureL (.int .i64 ((len - 16 : Nat) : Int)) rfl (fun w => subI .i64 _ _ _ _ _ _ _ rfl rfl rfl (by rw [IntKind.wrap_i64]; omega) w) ?_
  simp only [Act.put, List.setIfInBounds_toArray, List.set_cons_zero, List.set_cons_succ]
  refine pureL (.int .i64 ((len - 16 : Nat) : Int)) rfl (fun _ => by kernel_rfl) ?_
  simp only [Act.put, List.setIfInBounds_toArray, List.set_cons_zero, List.set_cons_succ]
  show Exit.then _ _ _ _ _
  go_upto_region 4 with fail
  have zX := K.size
  refine wp_region_held_drew (S := fun w' => Kr w (w.heap.size + 1 + 1) [(w.heap.size + 1, .u8, 12, n), (w.heap.size, .u8, 32, k)] [] w') (by kernel_rfl) K.drew ?_
  clear K
  intro K
  refine pureH (i := 0) (some 19) rfl (.slice sp len cap) rfl rfl (fun _ => by kernel_rfl) (by kernel_rfl) (by kernel_rfl) (by kernel_rfl) (fun _ _ _ h => h) K ?_
  simp only [Act.put, List.setIfInBounds_toArray, List.set_cons_zero, List.set_cons_succ]
  refine pureH (i := 1) (some 20) rfl (.int .i64 ((len - 16 : Nat) : Int)) rfl rfl (fun _ => by kernel_rfl) (by kernel_rfl) (by kernel_rfl) (by kernel_rfl) (fun _ _ _ h => h) K ?_
  simp only [Act.put, List.setIfInBounds_toArray, List.set_cons_zero, List.set_cons_succ]
  refine pureH (i := 2) (some 21) rfl (.slice q (len - 16) cap) rfl rfl (fun w => cutHi _ _ _ _ _ _ rfl rfl rfl (hq1 w)) (by kernel_rfl) (by kernel_rfl) (by kernel_rfl) (fun _ _ _ h => h) K ?_
  simp only [Act.put, List.setIfInBounds_toArray, List.set_cons_zero, List.set_cons_succ]
  refine pureH (i := 3) (some 22) rfl (.slice sp len cap) rfl rfl (fun _ => by kernel_rfl) (by kernel_rfl) (by kernel_rfl) (by kernel_rfl) (fun _ _ _ h => h) K ?_
  simp only [Act.put, List.setIfInBounds_toArray, List.set_cons_zero, List.set_cons_succ]
  refine pureH (i := 4) (some 23) rfl (.int .i64 ((len - 16 : Nat) : Int)) rfl rfl (fun _ => by kernel_rfl) (by kernel_rfl) (by kernel_rfl) (by kernel_rfl) (fun _ _ _ h => h) K ?_
  simp only [Act.put, List.setIfInBounds_toArray, List.set_cons_zero, List.set_cons_succ]
  refine pureH (i := 5) (some 24) rfl (.slice (some ad) 16 (cap - (len - 16))) rfl rfl (fun w => cutOp _ _ _ _ _ _ rfl rfl rfl (hr1 w)) (by kernel_rfl) (by kernel_rfl) (by kernel_rfl) (fun _ _ _ h => h) K ?_
  simp only [Act.put, List.setIfInBounds_toArray, List.set_cons_zero, List.set_cons_succ]
  refine pureH (i := 6) (some 25) rfl (.pointer (some ad)) rfl rfl (fun _ => by kernel_rfl) (by kernel_rfl) (by kernel_rfl) (by kernel_rfl) (fun _ _ _ h => h) K ?_
  simp only [Act.put, List.setIfInBounds_toArray, List.set_cons_zero, List.set_cons_succ]
  refine readH (i := 7) (some 26) rfl (.agg (row .u8 16 ((fun j => z (len - 16 + j)))).toArray) rfl rfl (fun w' h => loadArr 36 _ ad 16 (fun j => z (len - 16 + j)) _ rfl rfl Tryd.underlying36 rfl (by kernel_rfl) (hr2 w' z (hs.below h.below (Nat.le_refl _)))) (by kernel_rfl) (by kernel_rfl) (by kernel_rfl) (fun _ _ _ h => h) K ?_
  simp only [Act.put, List.setIfInBounds_toArray, List.set_cons_zero, List.set_cons_succ]
  generalize w0.drew = w1 at K ⊢
  refine actH (i := 8) (w' := w1.alloc (.cells #[.int .u8 0, .int .u8 0, .int .u8 0, .int .u8 0, .int .u8 0, .int .u8 0, .int .u8 0, .int .u8 0, .int .u8 0, .int .u8 0, .int .u8 0, .int .u8 0, .int .u8 0, .int .u8 0, .int .u8 0, .int .u8 0] 36)) (some 12) rfl (.pointer (some ⟨w1.heap.size, 0, none⟩)) (by kernel_rfl) rfl rfl (by kernel_rfl) (K.call ((Below.refl w1.heap.size w1).alloc (Nat.le_refl _) _)) ?_
  simp only [Act.put, List.setIfInBounds_toArray, List.set_cons_zero, List.set_cons_succ]
  refine pureH (i := 9) (some 11) rfl (.slice q (len - 16) cap) rfl rfl (fun _ => by kernel_rfl) (by kernel_rfl) (by kernel_rfl) (by kernel_rfl) (fun _ _ _ h => h) (K.call ((Below.refl w1.heap.size w1).alloc (Nat.le_refl _) _)) ?_
  simp only [Act.put, List.setIfInBounds_toArray, List.set_cons_zero, List.set_cons_succ]
  have KF := K.fresh .u8 16 (fun j => z (len - 16 + j)) #[.int .u8 0, .int .u8 0, .int .u8 0, .int .u8 0, .int .u8 0, .int .u8 0, .int .u8 0, .int .u8 0, .int .u8 0, .int .u8 0, .int .u8 0, .int .u8 0, .int .u8 0, .int .u8 0, .int .u8 0, .int .u8 0] 36 (tag_zero _ _ _ rfl).there
  have zT := K.size
  refine storesH (i := 10) none rfl .u8 16 (fun j => z (len - 16 + j)) w1.heap.size 36 _ _ (by kernel_rfl) rfl rfl rfl rfl rfl (room_of (tag_zero _ _ _ rfl).there) (tag_info' _) (KF.sub _ (fun p hp => List.mem_cons_of_mem _ hp) |>.back _ _ (fun _ hp => hp) (fun p hp => by rcases List.mem_cons.1 hp with rfl | hp; simp only; omega; obtain rfl := List.mem_singleton.1 hp; simp only; omega) (fun _ hq => by cases hq) (by omega) (by omega)) ?_
  simp only [Act.put]
  refine wpAnyH_done (by kernel_rfl) ?_ _
  clear K
  generalize ((w1.alloc (.cells #[.int .u8 0, .int .u8 0, .int .u8 0, .int .u8 0, .int .u8 0, .int .u8 0, .int .u8 0, .int .u8 0, .int .u8 0, .int .u8 0, .int .u8 0, .int .u8 0, .int .u8 0, .int .u8 0, .int .u8 0, .int .u8 0] 36)).setCells w1.heap.size 0 (row .u8 16 (fun j => z (len - 16 + j)))) = w2 at KF ⊢
  generalize w1.heap.size = T at *
  go_upto_region 5 with fail
  refine wp_region_held_drew (S := fun w' => Kr w (T + 1) [(T, .u8, 16, (fun j => z (len - 16 + j))), (w.heap.size + 1, .u8, 12, n), (w.heap.size, .u8, 32, k)] [] w') (by kernel_rfl) KF.drew ?_
  clear KF
  intro K
  refine rowKH (i := 0) (some 27) rfl .u8 16 ((fun j => z (len - 16 + j))) (T) 0 36 _ _ rfl rfl rfl rfl (by kernel_rfl) (by kernel_rfl) (by kernel_rfl) (fun _ _ _ h => h) Tryd.underlying36 rfl (tag_info _) K (fun _ h => (h.get _ _ _ _ List.mem_cons_self).range) ?_
  simp only [Act.put, List.setIfInBounds_toArray, List.set_cons_zero, List.set_cons_succ]
  refine rowKH (i := 1) (some 28) rfl .u8 32 (k) (w.heap.size) 0 23 _ _ rfl rfl rfl rfl (by kernel_rfl) (by kernel_rfl) (by kernel_rfl) (fun _ _ _ h => h) Tryd.underlying23 rfl (key_info _) K (fun _ h => (h.get _ _ _ _ (List.mem_cons_of_mem _ (List.mem_cons_of_mem _ List.mem_cons_self))).range) ?_
  simp only [Act.put, List.setIfInBounds_toArray, List.set_cons_zero, List.set_cons_succ]
  refine rowKH (i := 2) (some 29) rfl .u8 12 (n) (w.heap.size + 1) 0 25 _ _ rfl rfl rfl rfl (by kernel_rfl) (by kernel_rfl) (by kernel_rfl) (fun _ _ _ h => h) Tryd.underlying25 rfl (hn_info _) K (fun _ h => (h.get _ _ _ _ (List.mem_cons_of_mem _ List.mem_cons_self)).range) ?_
  simp only [Act.put, List.setIfInBounds_toArray, List.set_cons_zero, List.set_cons_succ]
  refine pureH (i := 3) (some 30) rfl (.slice bp bl bc) rfl rfl (fun _ => by kernel_rfl) (by kernel_rfl) (by kernel_rfl) (by kernel_rfl) (fun _ _ _ h => h) K ?_
  simp only [Act.put, List.setIfInBounds_toArray, List.set_cons_zero, List.set_cons_succ]
  refine pureH (i := 4) (some 31) rfl (.slice q (len - 16) cap) rfl rfl (fun _ => by kernel_rfl) (by kernel_rfl) (by kernel_rfl) (by kernel_rfl) (fun _ _ _ h => h) K ?_
  simp only [Act.put, List.setIfInBounds_toArray, List.set_cons_zero, List.set_cons_succ]
  refine callH (i := 5) (some 32) rfl (by kernel_rfl) rfl rfl (fun _ => by kernel_rfl) (tagOf_any k n hk hn bp bl bc hbl hbc b hb q (len - 16) cap (by omega) hcq z hz1 _ (hg.below K.below hg.size) (hsb.below K.below (Nat.le_refl _)) (hq2 _ z (hs.below K.below (Nat.le_refl _)))) ?_
  rintro e w4 ⟨rfl, l⟩
  replace K := K.call l
  clear l
  refine ⟨_, rfl, K, ?_⟩
  simp only [Act.put, List.setIfInBounds_toArray, List.set_cons_zero, List.set_cons_succ]
  refine callH (i := 6) (some 33) rfl (by kernel_rfl) rfl rfl (fun _ => by kernel_rfl) (psame_any (fun j => z (len - 16 + j)) (atag k n bl b (len - 16) z) hz2 (atag_in _ _ _ _ _ _ _) _ (hg.c.below K.below hg.size)) ?_
  rintro e w5 ⟨rfl, l⟩
  replace K := K.call l
  clear l
  refine ⟨_, rfl, K, ?_⟩
  simp only [Act.put, List.setIfInBounds_toArray, List.set_cons_zero, List.set_cons_succ]
  by_cases hok : aok k n bl b len z
  · have hd : decide (val 256 (fun j => z (len - 16 + j)) 16 = val 256 (atag k n bl b (len - 16) z) 16) = true := decide_eq_true (by rw [atag_val]; exact hok.2.symm)
    rw [hd]
    have e1 : aoL k n bl b len z = len - 16 := by unfold aoL; rw [if_pos hok]
    have e2 : aoE k n bl b len z = 0 := by unfold aoE; rw [if_neg (by omega), if_pos hok]
    have HE := show Hid _ from And.intro e1 e2
    clear e1 e2
    refine pureH (i := 7) (some 34) rfl (.bool false) rfl rfl (fun _ => by kernel_rfl) (by kernel_rfl) (by kernel_rfl) (by kernel_rfl) (fun _ _ _ h => h) K ?_
    simp only [Act.put, List.setIfInBounds_toArray, List.set_cons_zero, List.set_cons_succ]
    refine wpAnyH_done (by kernel_rfl) ?_ _
    clear hd hok
    go_upto_region 7 with fail
    refine wp_region_list ?_
    refine rowKL .u8 32 (k) (w.heap.size) 0 23 _ _ rfl rfl rfl Tryd.underlying23 rfl (key_info _) ((K.get _ _ _ _ (List.mem_cons_of_mem _ (List.mem_cons_of_mem _ List.mem_cons_self))).range) ?_
    simp only [Act.put, List.setIfInBounds_toArray, List.set_cons_zero, List.set_cons_succ]
    refine rowKL .u8 12 (n) (w.heap.size + 1) 0 25 _ _ rfl rfl rfl Tryd.underlying25 rfl (hn_info _) ((K.get _ _ _ _ (List.mem_cons_of_mem _ List.mem_cons_self)).range) ?_
    simp only [Act.put, List.setIfInBounds_toArray, List.set_cons_zero, List.set_cons_succ]
    refine pureL (.slice q (len - 16) cap) rfl (fun _ => by kernel_rfl) ?_
    simp only [Act.put, List.setIfInBounds_toArray, List.set_cons_zero, List.set_cons_succ]
    refine callL rfl (fun _ => by kernel_rfl) (hxor_any k 1 n hk hn (by decide) q (len - 16) cap (by omega) z _ (hg.h.below K.below hg.size) (hq2 _ z (hs.below K.below (Nat.le_refl _)))) ?_
    rintro e w6 ⟨X, rfl, ⟨_, _, HX⟩, l⟩
    replace K := K.call l
    clear l
    refine ⟨_, rfl, ?_⟩
    simp only [Act.put, List.setIfInBounds_toArray, List.set_cons_zero, List.set_cons_succ]
    refine pureL (.slice (some ⟨X, 0, none⟩) (len - 16) (len - 16)) rfl (fun _ => by kernel_rfl) ?_
    simp only [Act.put, List.setIfInBounds_toArray, List.set_cons_zero, List.set_cons_succ]
    refine pureL (.int .i64 0) rfl (fun _ => by kernel_rfl) ?_
    simp only [Act.put, List.setIfInBounds_toArray, List.set_cons_zero, List.set_cons_succ]
    have hB := K.below
    clear K
    show Exit.then _ _ _ _ _
    go_wp2
    go_ret2
    exact ⟨some ⟨X, 0, none⟩, ⟨len - 16, by rw [HE.out.1, HE.out.2] <;> rfl⟩, by rw [HE.out.1]; exact HX.src0, hB⟩
  · have hd : decide (val 256 (fun j => z (len - 16 + j)) 16 = val 256 (atag k n bl b (len - 16) z) 16) = false := decide_eq_false (by rw [atag_val]; exact fun h => hok ⟨hl, h.symm⟩)
    rw [hd]
    have e1 : aoL k n bl b len z = 0 := by unfold aoL; rw [if_neg hok]
    have e2 : aoE k n bl b len z = 70 := by unfold aoE; rw [if_neg (by omega), if_neg hok]
    have HE := show Hid _ from And.intro e1 e2
    clear e1 e2
    refine pureH (i := 7) (some 34) rfl (.bool true) rfl rfl (fun _ => by kernel_rfl) (by kernel_rfl) (by kernel_rfl) (by kernel_rfl) (fun _ _ _ h => h) K ?_
    simp only [Act.put, List.setIfInBounds_toArray, List.set_cons_zero, List.set_cons_succ]
    refine wpAnyH_done (by kernel_rfl) ?_ _
    have hB := K.below
    clear hd hok K
    go_wp2
    go_ret2
    exact ⟨none, ⟨0, by rw [HE.out.1, HE.out.2] <;> rfl⟩, by rw [HE.out.1]; exact fun j hj => absurd hj (Nat.not_lt_zero j), hB⟩

theorem aopen_any : AOpenOK := by
  intro k n hk hn bp bl bc hbl hbc _ b hb sp len cap hlen hcap _ z hz w hg hsb hs
  by_cases hl : len < 16
  · have e1 : aoL k n bl b len z = 0 := by unfold aoL; rw [if_neg (fun h => by have := h.1; omega)]
    have e2 : aoE k n bl b len z = 3 := by unfold aoE; rw [if_pos hl]
    rw [e1, e2]
    refine (aopen_short k n bp bl bc sp len cap hl w).mono fun e w' h => ?_
    exact ⟨none, 0, h.1, fun j hj => absurd hj (Nat.not_lt_zero j), h.2⟩
  · exact aopen_long k n hk hn bp bl bc hbl hbc b hb sp len cap hlen hcap (by omega) z hz w hg hsb hs
end Go.Proofs.YteclkiabkdaklaaDoor
