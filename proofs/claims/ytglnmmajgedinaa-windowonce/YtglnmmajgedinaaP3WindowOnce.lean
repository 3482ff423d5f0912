/- Texts of Fp Fr Fs Opn Open14, joined. -/
import Derived.Test.YtglnmmajgedinaaP2WindowOnce
import Derived.Test.YtglnmmajgedinaaP1WindowOnce
import Derived.WalkMore
import Derived.ProofKit
import Derived.LaidMore
import Derived.OpenShut
import Derived.SizedLaws
import Derived.Deep.Strs
import Derived.Stop.Joined
import Derived.Test.YtglnmmajgedinaaRows
import Derived.JoinedCond
import Derived.Carry
set_option maxRecDepth 20000
set_option maxHeartbeats 64000000
namespace Go.Proofs.Ytglnmmajgedinaa
open Go.RowKit
def fset (V : Nat → Nat) (j v i : Nat) : Nat := if i = j then v else V i
theorem fset_same (V : Nat → Nat) (j v : Nat) : fset V j v j = v := if_pos rfl
theorem row_fset (n : Nat) (V : Nat → Nat) (j v : Nat) : (row .u64 n (fun i => (V i : Int))).set (0 + j) (.int .u64 ((v : Nat) : Int)) = row .u64 n (fun i => (fset V j v i : Int)) := by
  rw [Nat.zero_add, row_put, row_nat]
  rfl
theorem row_at (n : Nat) (V : Nat → Nat) (j v : Nat) (hj : j < n) (hv : V j = v) : (row .u64 n (fun i => (V i : Int)))[0 + j]? = some (.int .u64 ((v : Nat) : Int)) := by
  rw [Nat.zero_add, row_get .u64 n _ j hj, hv]
def mvd (W : Nat → Nat) (d j i : Nat) : Nat := if i < j then wst W d i else 0
theorem mvd_next (W : Nat → Nat) (d j : Nat) (V : Nat → Nat) (hV : ∀ i, i < 16 → V i = if i = j then wst W d j else mvd W d j i) : ∀ i, i < 16 → (V i : Int) = ((mvd W d (j + 1) i : Nat) : Int) := fun i hi => by
  rw [hV i hi]
  unfold mvd
  by_cases e : i = j
  · subst e
    rw [if_pos rfl, if_pos (by omega)]
  · rw [if_neg e]
    by_cases h : i < j
    · rw [if_pos h, if_pos (by omega)]
    · rw [if_neg h, if_neg (by omega)]
theorem mvd_fset (W : Nat → Nat) (d j v : Nat) : ∀ i, i < 16 → fset (fset (mvd W d j) j v) j (wst W d j) i = if i = j then wst W d j else mvd W d j i := fun i _ => by
  unfold fset
  split <;> rfl
theorem mvd_end (W : Nat → Nat) (d : Nat) : ∀ i, i < 16 → mvd W d 16 i = wst W d i := fun i hi => by unfold mvd; rw [if_pos hi]
theorem wst_none (W : Nat → Nat) (d j : Nat) (h : j < d / 64) : wst W d j = 0 := by unfold wst wup wdn; rw [if_neg (by omega), if_neg (by omega)]; rfl
theorem wst_up (W : Nat → Nat) (d j : Nat) (h : j = d / 64) : wst W d j = W (j - d / 64) * 2 ^ (d % 64) % 2 ^ 64 := by
  unfold wst wup wdn
  rw [if_pos (by omega), if_neg (by omega), Nat.or_zero]
theorem wst_both (W : Nat → Nat) (d j : Nat) (h : d / 64 < j) : wst W d j = W (j - d / 64) * 2 ^ (d % 64) % 2 ^ 64 ||| W (j - d / 64 - 1) / 2 ^ (64 - d % 64) := by
  unfold wst wup wdn
  rw [if_pos (by omega), if_pos h]
theorem vrise_any (w0 w : World) (R : Nat) (l : List (Nat × List Value)) (T : Int) (W : Nat → Nat) (hT1 : -1 ≤ T) (hT2 : T ≤ 281474976710655) (f : Nat → Bool) (hW : Bts W f) (n : Int) (d : Nat) (hd : n - T = (d : Int)) (hd1 : 1 ≤ d) (hn : n ≤ 281474976710655) (M : Mm w0 ((R, wcv T W) :: l) w) :
    Calls Try.prog 21 #[.pointer (some ⟨R, 0, none⟩), .int .i64 n] w fun e w' => e = .returned (.tuple #[]) ∧ Mm w0 ((R, wcv n (wst W d)) :: l) w' ∧ Off [R] w w' := by
  go_enter Try.func21, Try.ntmps21
  have OF := Off.refl [R] w
  go_upto_region 0 with fail
  refine wp_region_list ?_
  refine readL (.int .i64 n) rfl (by kernel_rfl) ?_
  simp only [aP, lI, l0, lS]
  refine readL (.pointer (some ⟨R, 0, none⟩)) rfl (by kernel_rfl) ?_
  simp only [aP, lI, l0, lS]
  refine callL rfl (fun _ => by kernel_rfl) (vtop14_any w0 _ R _ T W hT1 hT2 M) ?_
  rintro e w1 ⟨rfl, l1⟩
  replace M := M.call l1
  replace OF := OF.below l1
  clear l1
  refine ⟨_, rfl, ?_⟩
  simp only [aP, lI, l0, lS]
  refine readL (.int .i64 ((d : Nat) : Int)) rfl (subI .i64 _ _ _ _ _ _ _ rfl rfl rfl (by rw [hd, IntKind.wrap_i64]; omega) _) ?_
  simp only [aP, lI, l0, lS]
  refine readL (.int .i64 ((d / 64 : Nat) : Int)) rfl (quoI .i64 _ _ _ _ _ _ _ rfl rfl rfl (by decide) (quo64 d (by omega)) _) ?_
  simp only [aP, lI, l0, lS]
  refine readL (.int .i64 n) rfl (by kernel_rfl) ?_
  simp only [aP, lI, l0, lS]
  refine readL (.pointer (some ⟨R, 0, none⟩)) rfl (by kernel_rfl) ?_
  simp only [aP, lI, l0, lS]
  refine callL rfl (fun _ => by kernel_rfl) (vtop14_any w0 _ R _ T W hT1 hT2 M) ?_
  rintro e w2 ⟨rfl, l1⟩
  replace M := M.call l1
  replace OF := OF.below l1
  clear l1
  refine ⟨_, rfl, ?_⟩
  simp only [aP, lI, l0, lS]
  refine readL (.int .i64 ((d : Nat) : Int)) rfl (subI .i64 _ _ _ _ _ _ _ rfl rfl rfl (by rw [hd, IntKind.wrap_i64]; omega) _) ?_
  simp only [aP, lI, l0, lS]
  refine readL (.int .i64 ((d % 64 : Nat) : Int)) rfl (remI .i64 _ _ _ _ _ _ _ rfl rfl rfl (by decide) (rem64 d) _) ?_
  simp only [aP, lI, l0, lS]
  refine readL (.int .i64 ((d / 64 : Nat) : Int)) rfl (by kernel_rfl) ?_
  simp only [aP, lI, l0, lS]
  refine readL (.int .i64 ((d % 64 : Nat) : Int)) rfl (by kernel_rfl) ?_
  simp only [aP, lI, l0, lS]
  first | show Exit.then _ _ _ _ _ | show Exit.inBlock _ _ _ _ _
  go_upto_region 1 with fail
  refine wp_region_list ?_
  have hlb := (Below.refl w2.heap.size w2).alloc (Nat.le_refl _) (.cells zu64_16 43)
  refine actL (w' := w2.alloc (.cells zu64_16 43)) (.pointer (some ⟨w2.heap.size, 0, none⟩)) rfl (by kernel_rfl) ?_
  simp only [aP, lI, l0, lS]
  have hBz0 := OF.size
  replace OF := OF.below hlb
  replace M := M.box zu64_16 43 w2.heap.size rfl
  clear hlb
  generalize w2.alloc (.cells zu64_16 43) = w3 at M OF ⊢
  generalize eB : w2.heap.size = B at M hBz0 ⊢
  have hBz : w.heap.size ≤ B := hBz0
  clear eB hBz0
  replace M : Mm w0 ((B, row .u64 16 (fun i => ((mvd W d 0 i : Nat) : Int))) :: (R, wcv T W) :: l) w3 := M
  first | show Exit.then _ _ _ _ _ | show Exit.inBlock _ _ _ _ _
  go_upto_region 2 with fail
  refine wp_region_list ?_
  refine readL (.int .i64 0) rfl (by kernel_rfl) ?_
  simp only [aP, lI, l0, lS]
  first | show Exit.then _ _ _ _ _ | show Exit.inBlock _ _ _ _ _
  have HI := show Hid _ from (And.intro M OF)
  clear M OF
  go_wp2
  go_loopw [18] (fun i w' => ∃ j : Nat, j ≤ 16 ∧ i = .int .i64 (j : Int) ∧ Mm w0 ((B, row .u64 16 (fun i => ((mvd W d j i : Nat) : Int))) :: (R, wcv T W) :: l) w' ∧ Off [R] w w') (fun i _ => 16 - (intOf i).toNat)
  case atStart => exact ⟨0, Nat.zero_le _, rfl, HI.out⟩
  case round =>
    clear HI
    obtain ⟨j, hj, rfl, M, OF⟩ := hrel
    by_cases hlt : j < 16
    · go_upto_region 3 with fail
      refine wp_region_list ?_
      refine readL (.bool true) rfl (lssI .i64 _ _ _ _ _ _ rfl rfl rfl true (decide_eq_true (by omega)) _) ?_
      simp only [aP, lI, l0, lS]
      first | show Exit.then _ _ _ _ _ | show Exit.inBlock _ _ _ _ _
      go_upto_region 4 with fail
      refine wp_region_list ?_
      refine readL (.int .i64 (j : Int)) rfl (by kernel_rfl) ?_
      simp only [aP, lI, l0, lS]
      refine readL (.int .i64 (j : Int)) rfl (by kernel_rfl) ?_
      simp only [aP, lI, l0, lS]
      first | show Exit.then _ _ _ _ _ | show Exit.inBlock _ _ _ _ _
      by_cases h1 : j < d / 64
      · go_upto_region 5 with fail
        refine wp_region_list ?_
        refine readL (.int .i64 (j : Int)) rfl (by kernel_rfl) ?_
        simp only [aP, lI, l0, lS]
        refine readL (.int .i64 ((d / 64 : Nat) : Int)) rfl (by kernel_rfl) ?_
        simp only [aP, lI, l0, lS]
        refine readL (.bool false) rfl (geqI .i64 _ _ _ _ _ _ rfl rfl rfl false (decide_eq_false (by omega)) _) ?_
        simp only [aP, lI, l0, lS]
        first | show Exit.then _ _ _ _ _ | show Exit.inBlock _ _ _ _ _
        go_upto_region 7 with fail
        refine wp_region_list ?_
        refine readL (.int .i64 (j : Int)) rfl (by kernel_rfl) ?_
        simp only [aP, lI, l0, lS]
        refine readL (.int .i64 ((d / 64 : Nat) : Int)) rfl (by kernel_rfl) ?_
        simp only [aP, lI, l0, lS]
        refine readL (.bool false) rfl (gtrI .i64 _ _ _ _ _ _ rfl rfl rfl false (decide_eq_false (by omega)) _) ?_
        simp only [aP, lI, l0, lS]
        first | show Exit.then _ _ _ _ _ | show Exit.inBlock _ _ _ _ _
        have hrow := row_congr .u64 16 (mvd_next W d j (mvd W d j) (fun i _ => by
          by_cases e : i = j
          · rw [if_pos e, wst_none W d j h1, e]; exact if_neg (by omega)
          · rw [if_neg e]))
        rw [hrow] at M
        have HS := show Hid _ from (And.intro M OF)
        clear M OF hW hrow
        go_wp2
        go_roundw
        case rel => exact ⟨j + 1, by omega, by go_num, HS.out⟩
        case measure => simp [intOf]; omega
      · go_upto_region 5 with fail
        refine wp_region_list ?_
        refine readL (.int .i64 (j : Int)) rfl (by kernel_rfl) ?_
        simp only [aP, lI, l0, lS]
        refine readL (.int .i64 ((d / 64 : Nat) : Int)) rfl (by kernel_rfl) ?_
        simp only [aP, lI, l0, lS]
        refine readL (.bool true) rfl (geqI .i64 _ _ _ _ _ _ rfl rfl rfl true (decide_eq_true (by omega)) _) ?_
        simp only [aP, lI, l0, lS]
        first | show Exit.then _ _ _ _ _ | show Exit.inBlock _ _ _ _ _
        go_upto_region 6 with fail
        refine wp_region_list ?_
        refine readL (.int .i64 (j : Int)) rfl (by kernel_rfl) ?_
        simp only [aP, lI, l0, lS]
        refine readL (.pointer (some ⟨R, 0, none⟩)) rfl (by kernel_rfl) ?_
        simp only [aP, lI, l0, lS]
        refine readL (.int .i64 (j : Int)) rfl (by kernel_rfl) ?_
        simp only [aP, lI, l0, lS]
        refine readL (.int .i64 ((d / 64 : Nat) : Int)) rfl (by kernel_rfl) ?_
        simp only [aP, lI, l0, lS]
        refine readL (.int .i64 ((j - d / 64 : Nat) : Int)) rfl (subI .i64 _ _ _ _ _ _ _ rfl rfl rfl (by rw [IntKind.wrap_i64]; omega) _) ?_
        simp only [aP, lI, l0, lS]
        refine readL (.pointer (some ⟨R, 0, none⟩)) rfl (by kernel_rfl) ?_
        simp only [aP, lI, l0, lS]
        refine readL (.pointer (some ⟨R, 1, none⟩)) rfl (by kernel_rfl) ?_
        simp only [aP, lI, l0, lS]
        refine readL (.pointer (some ⟨R, 1 + (j - d / 64), none⟩)) rfl (idxArr 43 42 16 .i64 R 1 (j - d / 64) _ _ Try.underlying43 (fun _ => by kernel_rfl) (by omega) rfl rfl rfl _) ?_
        simp only [aP, lI, l0, lS]
        refine readL (.int .u64 ((W (j - d / 64) : Nat) : Int)) rfl (load1 42 _ ⟨R, 1 + (j - d / 64), none⟩ _ rfl rfl (fun _ => by kernel_rfl) (M.get (mT _ mS) _ _ (wcv_get T W (j - d / 64) (by omega)))) ?_
        simp only [aP, lI, l0, lS]
        refine readL (.int .i64 ((d % 64 : Nat) : Int)) rfl (by kernel_rfl) ?_
        simp only [aP, lI, l0, lS]
        refine readL (.int .u64 ((W (j - d / 64) * 2 ^ (d % 64) % 2 ^ 64 : Nat) : Int)) rfl (shlI .u64 .i64 _ _ _ _ _ _ _ rfl rfl rfl (by omega) (shl64 _ _ (by omega)) _) ?_
        simp only [aP, lI, l0, lS]
        refine readL (.pointer (some ⟨B, 0 + j, none⟩)) rfl (idxArr 43 42 16 .i64 B 0 j _ _ Try.underlying43 (fun _ => by kernel_rfl) (by omega) rfl rfl rfl _) ?_
        simp only [aP, lI, l0, lS]
        refine skipOpL rfl (storeAny (.int .u64 ((W (j - d / 64) * 2 ^ (d % 64) % 2 ^ 64 : Nat) : Int)) B (0 + j) 42 _ _ rfl rfl rfl rfl rfl (M.isSome mS _ (by rw [row_length]; omega)) (M.free mS _ (by rw [row_length]; omega)) (by kernel_rfl)) ?_
        simp only [Act.put]
        replace M := M.set (0 + j) (by rw [row_length]; omega) (.int .u64 ((W (j - d / 64) * 2 ^ (d % 64) % 2 ^ 64 : Nat) : Int))
        rw [row_fset] at M
        replace OF := OF.and1 ((Off.refl [B] _).set (b := B) mS (0 + j) (.int .u64 ((W (j - d / 64) * 2 ^ (d % 64) % 2 ^ 64 : Nat) : Int))) (.inr (by omega))
        generalize wr.setCell ⟨B, 0 + j, none⟩ (.int .u64 ((W (j - d / 64) * 2 ^ (d % 64) % 2 ^ 64 : Nat) : Int)) = w4 at M OF ⊢
        first | show Exit.then _ _ _ _ _ | show Exit.inBlock _ _ _ _ _
        by_cases h2 : d / 64 < j
        · go_upto_region 7 with fail
          refine wp_region_list ?_
          refine readL (.int .i64 (j : Int)) rfl (by kernel_rfl) ?_
          simp only [aP, lI, l0, lS]
          refine readL (.int .i64 ((d / 64 : Nat) : Int)) rfl (by kernel_rfl) ?_
          simp only [aP, lI, l0, lS]
          refine readL (.bool true) rfl (gtrI .i64 _ _ _ _ _ _ rfl rfl rfl true (decide_eq_true (by omega)) _) ?_
          simp only [aP, lI, l0, lS]
          first | show Exit.then _ _ _ _ _ | show Exit.inBlock _ _ _ _ _
          go_upto_region 8 with fail
          refine wp_region_C (S := fun w' => Mm w0 ((B, row .u64 16 (fun i => ((fset (mvd W d j) j (W (j - d / 64) * 2 ^ (d % 64) % 2 ^ 64) i : Nat) : Int))) :: (R, wcv T W) :: l) w') 17 (by kernel_rfl) M.drew ?_
          clear M
          intro M
          have hdr := (Below.refl w4.heap.size w4).drew
          replace OF := OF.below hdr
          clear hdr
          generalize w4.drew = w5 at M OF ⊢
          refine readC (i := 0) (some 39) rfl (.int .i64 (j : Int)) rfl rfl (by kernel_rfl) rfl (fun _ M => (by kernel_rfl)) (by kernel_rfl) (by kernel_rfl) (by kernel_rfl) (by kernel_rfl) (fun _ _ _ h => h) M ?_
          simp only [aP, lI, l0, lS]
          refine readC (i := 1) (some 40) rfl (.pointer (some ⟨B, 0 + j, none⟩)) rfl rfl (by kernel_rfl) rfl (fun _ M => idxArr 43 42 16 .i64 B 0 j _ _ Try.underlying43 (fun _ => by kernel_rfl) (by omega) rfl rfl rfl _) (by kernel_rfl) (by kernel_rfl) (by kernel_rfl) (by kernel_rfl) (fun _ _ _ h => h) M ?_
          simp only [aP, lI, l0, lS]
          refine readC (i := 2) (some 41) rfl (.int .u64 ((W (j - d / 64) * 2 ^ (d % 64) % 2 ^ 64 : Nat) : Int)) rfl rfl (by kernel_rfl) rfl (fun _ M => load1 42 _ ⟨B, 0 + j, none⟩ _ rfl rfl (fun _ => by kernel_rfl) (M.get mS _ _ (row_at 16 _ j (W (j - d / 64) * 2 ^ (d % 64) % 2 ^ 64) hlt (fset_same _ _ _)))) (by kernel_rfl) (by kernel_rfl) (by kernel_rfl) (by kernel_rfl) (fun _ _ _ h => h) M ?_
          simp only [aP, lI, l0, lS]
          refine readC (i := 3) (some 42) rfl (.pointer (some ⟨R, 0, none⟩)) rfl rfl (by kernel_rfl) rfl (fun _ M => (by kernel_rfl)) (by kernel_rfl) (by kernel_rfl) (by kernel_rfl) (by kernel_rfl) (fun _ _ _ h => h) M ?_
          simp only [aP, lI, l0, lS]
          refine readC (i := 4) (some 43) rfl (.int .i64 (j : Int)) rfl rfl (by kernel_rfl) rfl (fun _ M => (by kernel_rfl)) (by kernel_rfl) (by kernel_rfl) (by kernel_rfl) (by kernel_rfl) (fun _ _ _ h => h) M ?_
          simp only [aP, lI, l0, lS]
          refine readC (i := 5) (some 44) rfl (.int .i64 ((d / 64 : Nat) : Int)) rfl rfl (by kernel_rfl) rfl (fun _ M => (by kernel_rfl)) (by kernel_rfl) (by kernel_rfl) (by kernel_rfl) (by kernel_rfl) (fun _ _ _ h => h) M ?_
          simp only [aP, lI, l0, lS]
          refine readC (i := 6) (some 45) rfl (.int .i64 ((j - d / 64 : Nat) : Int)) rfl rfl (by kernel_rfl) rfl (fun _ M => subI .i64 _ _ _ _ _ _ _ rfl rfl rfl (by rw [IntKind.wrap_i64]; omega) _) (by kernel_rfl) (by kernel_rfl) (by kernel_rfl) (by kernel_rfl) (fun _ _ _ h => h) M ?_
          simp only [aP, lI, l0, lS]
          refine readC (i := 7) (some 46) rfl (.int .i64 ((j - d / 64 - 1 : Nat) : Int)) rfl rfl (by kernel_rfl) rfl (fun _ M => subI .i64 _ _ _ _ _ _ _ rfl rfl rfl (by rw [IntKind.wrap_i64]; omega) _) (by kernel_rfl) (by kernel_rfl) (by kernel_rfl) (by kernel_rfl) (fun _ _ _ h => h) M ?_
          simp only [aP, lI, l0, lS]
          refine readC (i := 8) (some 47) rfl (.pointer (some ⟨R, 0, none⟩)) rfl rfl (by kernel_rfl) rfl (fun _ M => (by kernel_rfl)) (by kernel_rfl) (by kernel_rfl) (by kernel_rfl) (by kernel_rfl) (fun _ _ _ h => h) M ?_
          simp only [aP, lI, l0, lS]
          refine readC (i := 9) (some 48) rfl (.pointer (some ⟨R, 1, none⟩)) rfl rfl (by kernel_rfl) rfl (fun _ M => (by kernel_rfl)) (by kernel_rfl) (by kernel_rfl) (by kernel_rfl) (by kernel_rfl) (fun _ _ _ h => h) M ?_
          simp only [aP, lI, l0, lS]
          refine readC (i := 10) (some 49) rfl (.pointer (some ⟨R, 1 + (j - d / 64 - 1), none⟩)) rfl rfl (by kernel_rfl) rfl (fun _ M => idxArr 43 42 16 .i64 R 1 (j - d / 64 - 1) _ _ Try.underlying43 (fun _ => by kernel_rfl) (by omega) rfl rfl rfl _) (by kernel_rfl) (by kernel_rfl) (by kernel_rfl) (by kernel_rfl) (fun _ _ _ h => h) M ?_
          simp only [aP, lI, l0, lS]
          refine readC (i := 11) (some 50) rfl (.int .u64 ((W (j - d / 64 - 1) : Nat) : Int)) rfl rfl (by kernel_rfl) rfl (fun _ M => load1 42 _ ⟨R, 1 + (j - d / 64 - 1), none⟩ _ rfl rfl (fun _ => by kernel_rfl) (M.get (mT _ mS) _ _ (wcv_get T W (j - d / 64 - 1) (by omega)))) (by kernel_rfl) (by kernel_rfl) (by kernel_rfl) (by kernel_rfl) (fun _ _ _ h => h) M ?_
          simp only [aP, lI, l0, lS]
          refine readC (i := 12) (some 51) rfl (.int .i64 ((d % 64 : Nat) : Int)) rfl rfl (by kernel_rfl) rfl (fun _ M => (by kernel_rfl)) (by kernel_rfl) (by kernel_rfl) (by kernel_rfl) (by kernel_rfl) (fun _ _ _ h => h) M ?_
          simp only [aP, lI, l0, lS]
          refine readC (i := 13) (some 52) rfl (.int .i64 ((64 - d % 64 : Nat) : Int)) rfl rfl (by kernel_rfl) rfl (fun _ M => subI .i64 _ _ _ _ _ _ _ rfl rfl rfl (by rw [IntKind.wrap_i64]; omega) _) (by kernel_rfl) (by kernel_rfl) (by kernel_rfl) (by kernel_rfl) (fun _ _ _ h => h) M ?_
          simp only [aP, lI, l0, lS]
          refine readC (i := 14) (some 53) rfl (.int .u64 ((W (j - d / 64 - 1) / 2 ^ (64 - d % 64) : Nat) : Int)) rfl rfl (by kernel_rfl) rfl (fun _ M => shrI .u64 .i64 _ _ _ _ _ _ _ rfl rfl rfl (by omega) (shr64 _ _ (by omega)) _) (by kernel_rfl) (by kernel_rfl) (by kernel_rfl) (by kernel_rfl) (fun _ _ _ h => h) M ?_
          simp only [aP, lI, l0, lS]
          refine readC (i := 15) (some 54) rfl (.int .u64 ((wst W d j : Nat) : Int)) rfl rfl (by kernel_rfl) rfl (fun _ M => vorI .u64 _ _ _ _ _ _ _ rfl rfl rfl (by rw [wst_both W d j h2]; exact or64 _ _ (Nat.mod_lt _ (by decide)) (hW.div_lt _ _ (by omega))) _) (by kernel_rfl) (by kernel_rfl) (by kernel_rfl) (by kernel_rfl) (fun _ _ _ h => h) M ?_
          simp only [aP, lI, l0, lS]
          refine readC (i := 16) (some 55) rfl (.pointer (some ⟨B, 0 + j, none⟩)) rfl rfl (by kernel_rfl) rfl (fun _ M => idxArr 43 42 16 .i64 B 0 j _ _ Try.underlying43 (fun _ => by kernel_rfl) (by omega) rfl rfl rfl _) (by kernel_rfl) (by kernel_rfl) (by kernel_rfl) (by kernel_rfl) (fun _ _ _ h => h) M ?_
          simp only [aP, lI, l0, lS]
          refine skipC (S2 := fun _ => True) none rfl (by kernel_rfl) rfl rfl (storeAny (.int .u64 ((wst W d j : Nat) : Int)) B (0 + j) 42 _ _ rfl rfl rfl rfl rfl (M.isSome mS _ (by rw [row_length]; omega)) (M.free mS _ (by rw [row_length]; omega)) (by kernel_rfl)) (by kernel_rfl) ?_
          simp only [Act.put]
          replace M := M.set (0 + j) (by rw [row_length]; omega) (.int .u64 ((wst W d j : Nat) : Int))
          rw [row_fset] at M
          replace OF := OF.and1 ((Off.refl [B] _).set (b := B) mS (0 + j) (.int .u64 ((wst W d j : Nat) : Int))) (.inr (by omega))
          generalize w5.setCell ⟨B, 0 + j, none⟩ (.int .u64 ((wst W d j : Nat) : Int)) = w6 at M OF ⊢
          refine wpAnyH_done (by kernel_rfl) ?_ _
          first | show Exit.then _ _ _ _ _ | show Exit.inBlock _ _ _ _ _
          have hrow := row_congr .u64 16 (mvd_next W d j (fset (fset (mvd W d j) j (W (j - d / 64) * 2 ^ (d % 64) % 2 ^ 64)) j (wst W d j)) (mvd_fset W d j _))
          rw [hrow] at M
          have HS := show Hid _ from (And.intro M OF)
          clear M OF hW hrow
          go_wp2
          go_roundw
          case rel => exact ⟨j + 1, by omega, by go_num, HS.out⟩
          case measure => simp [intOf]; omega
        · go_upto_region 7 with fail
          refine wp_region_list ?_
          refine readL (.int .i64 (j : Int)) rfl (by kernel_rfl) ?_
          simp only [aP, lI, l0, lS]
          refine readL (.int .i64 ((d / 64 : Nat) : Int)) rfl (by kernel_rfl) ?_
          simp only [aP, lI, l0, lS]
          refine readL (.bool false) rfl (gtrI .i64 _ _ _ _ _ _ rfl rfl rfl false (decide_eq_false (by omega)) _) ?_
          simp only [aP, lI, l0, lS]
          first | show Exit.then _ _ _ _ _ | show Exit.inBlock _ _ _ _ _
          have hrow := row_congr .u64 16 (mvd_next W d j (fset (mvd W d j) j (W (j - d / 64) * 2 ^ (d % 64) % 2 ^ 64)) (fun i _ => by unfold fset; rw [wst_up W d j (by omega)]))
          rw [hrow] at M
          have HS := show Hid _ from (And.intro M OF)
          clear M OF hW hrow
          go_wp2
          go_roundw
          case rel => exact ⟨j + 1, by omega, by go_num, HS.out⟩
          case measure => simp [intOf]; omega
    · obtain rfl : j = 16 := by omega
      go_upto_region 3 with fail
      refine wp_region_list ?_
      refine readL (.bool false) rfl (lssI .i64 _ _ _ _ _ _ rfl rfl rfl false (decide_eq_false (by omega)) _) ?_
      simp only [aP, lI, l0, lS]
      first | show Exit.then _ _ _ _ _ | show Exit.inBlock _ _ _ _ _
      replace M := M.swap
      go_upto_region 10 with fail
      refine wp_region_held_drew (S := fun w' => ∃ cs_, Mm w0 ((R, cs_) :: (B, row .u64 16 (fun i => ((mvd W d 16 i : Nat) : Int))) :: l) w') (by kernel_rfl) ⟨_, M.drew⟩ ?_
      intro _
      replace M := M.drew
      have hdr := (Below.refl wr.heap.size wr).drew
      replace OF := OF.below hdr
      clear hdr
      generalize wr.drew = w7 at M OF ⊢
      refine readHg (i := 0) (some 57) rfl (.pointer (some ⟨R, 0, none⟩)) rfl rfl (fun _ ⟨_, M⟩ => (by kernel_rfl)) ⟨_, M⟩ ?_
      simp only [aP, lI, l0, lS]
      refine readHg (i := 1) (some 58) rfl (.pointer (some ⟨R, 0, none⟩)) rfl rfl (fun _ ⟨_, M⟩ => (by kernel_rfl)) ⟨_, M⟩ ?_
      simp only [aP, lI, l0, lS]
      refine readHg (i := 2) (some 59) rfl (.int .i64 n) rfl rfl (fun _ ⟨_, M⟩ => (by kernel_rfl)) ⟨_, M⟩ ?_
      simp only [aP, lI, l0, lS]
      refine readHg (i := 3) (some 60) rfl (.int .i64 (n + 1)) rfl rfl (fun _ ⟨_, M⟩ => addI .i64 _ _ _ _ _ _ _ rfl rfl rfl (by rw [IntKind.wrap_i64]; omega) _) ⟨_, M⟩ ?_
      simp only [aP, lI, l0, lS]
      refine readHg (i := 4) (some 61) rfl (.agg (row .u64 16 (fun i => (mvd W d 16 i : Int))).toArray) rfl rfl (fun _ ⟨_, M⟩ => loadN 43 _ ⟨B, 0, none⟩ (row .u64 16 (fun i => (mvd W d 16 i : Int))) rfl rfl (fun _ => by kernel_rfl) (fun _ => by rw [row_length]; kernel_rfl) (M.rangeAt (mT _ mS))) ⟨_, M⟩ ?_
      simp only [aP, lI, l0, lS]
      refine readHg (i := 5) (some 62) rfl (.pointer (some ⟨R, 0, none⟩)) rfl rfl (fun _ ⟨_, M⟩ => (by kernel_rfl)) ⟨_, M⟩ ?_
      simp only [aP, lI, l0, lS]
      refine readHg (i := 6) (some 63) rfl (.pointer (some ⟨R, 0, none⟩)) rfl rfl (fun _ ⟨_, M⟩ => (by kernel_rfl)) ⟨_, M⟩ ?_
      simp only [aP, lI, l0, lS]
      refine doesH (i := 7) none rfl (by kernel_rfl) rfl rfl (storeAny (.int .i64 (n + 1)) R 0 3 _ _ rfl rfl rfl rfl rfl (M.isSome mS 0 (by rw [wcv_len]; decide)) (M.free mS 0 (by rw [wcv_len]; decide)) (by kernel_rfl)) ⟨_, M.set 0 (by rw [wcv_len]; decide) (.int .i64 (n + 1))⟩ ?_
      simp only [Act.put]
      replace M := M.set 0 (by rw [wcv_len]; decide) (.int .i64 (n + 1))
      replace OF := OF.and1 ((Off.refl [R] _).set (b := R) mS 0 (.int .i64 (n + 1))) (.inl mS)
      generalize w7.setCell ⟨R, 0, none⟩ (.int .i64 (n + 1)) = w8 at M OF ⊢
      replace M : Mm w0 ((R, wcv n W) :: (B, row .u64 16 (fun i => ((mvd W d 16 i : Nat) : Int))) :: l) w8 := M
      refine readHg (i := 8) (some 64) rfl (.pointer (some ⟨R, 0, none⟩)) rfl rfl (fun _ ⟨_, M⟩ => (by kernel_rfl)) ⟨_, M⟩ ?_
      simp only [aP, lI, l0, lS]
      refine readHg (i := 9) (some 65) rfl (.pointer (some ⟨R, 1, none⟩)) rfl rfl (fun _ ⟨_, M⟩ => (by kernel_rfl)) ⟨_, M⟩ ?_
      simp only [aP, lI, l0, lS]
      refine doesH (i := 10) none rfl (by kernel_rfl) rfl rfl (storeP (row .u64 16 (fun i => (mvd W d 16 i : Int))) R 1 43 _ _ rfl rfl rfl (M.thereP mS 1 16 (by rw [wcv_len]; decide)) (by rw [List.size_toArray, row_length]; kernel_rfl) (row_one .u64 16 _)) ⟨_, M.setPart (row .u64 16 (fun i => (mvd W d 16 i : Int))) 1 (by rw [row_length, wcv_len]; decide)⟩ ?_
      simp only [Act.put]
      replace M := M.setPart (row .u64 16 (fun i => (mvd W d 16 i : Int))) 1 (by rw [row_length, wcv_len]; decide)
      rw [wcv_setA] at M
      replace OF := OF.and1 ((Off.refl [R] _).setAll (b := R) mS 1 (row .u64 16 (fun i => (mvd W d 16 i : Int)))) (.inl mS)
      generalize w8.setCells R 1 (row .u64 16 (fun i => (mvd W d 16 i : Int))) = w9 at M OF ⊢
      refine wpAnyH_done (by kernel_rfl) ?_ _
      rw [wcv_congr (mvd_end W d)] at M
      replace M := M.drop2
      exact ⟨rfl, .tuple #[], by kernel_rfl, rfl, M, OF⟩
theorem wtop_put {L : List Int} {n : Int} (h : n ≤ wtop L) : wtop (L ++ [n]) = wtop L := by rw [wtop_app]; omega
theorem wtop_up {L : List Int} {n : Int} (h : wtop L < n) : wtop (L ++ [n]) = n := by rw [wtop_app]; omega
theorem wds_put {L : List Int} {W : Nat → Nat} {n : Int} {k : Nat} (hW : Wds W L) (hk : wtop L - n = (k : Int)) : Wds (fset W (k / 64) (W (k / 64) ||| 2 ^ (k % 64))) (L ++ [n]) :=
  (Bts.put hW k (V := fset W (k / 64) (W (k / 64) ||| 2 ^ (k % 64))) (fun i _ => by
    unfold fset
    by_cases e : i = k / 64
    · rw [if_pos e, if_pos e, e]
    · rw [if_neg e, if_neg e])).congr (fun j _ => wsee_put hk j)
theorem wds_up {L : List Int} {W : Nat → Nat} {n : Int} {d : Nat} (hW : Wds W L) (hd : n - wtop L = (d : Int)) (h1 : 1 ≤ d) : Wds (fset (wst W d) 0 (wst W d 0 ||| 2 ^ 0)) (L ++ [n]) :=
  ((hW.up d).put 0 (V := fset (wst W d) 0 (wst W d 0 ||| 2 ^ 0)) (fun i _ => by
    unfold fset
    by_cases e : i = 0
    · subst e; rfl
    · rw [if_neg e]; exact (if_neg e).symm)).congr (fun j _ => wsee_up hd h1 j)
theorem wcv_fset (T : Int) (W : Nat → Nat) (i v : Nat) : (wcv T W).set (1 + i) (.int .u64 ((v : Nat) : Int)) = wcv T (fset W i v) := wcv_set T W i v
theorem one_shl (e : Nat) (he : e < 64) : IntKind.u64.wrap (1 * 2 ^ min ((e : Nat) : Int).toNat IntKind.u64.bits) = ((2 ^ e : Nat) : Int) := by
  have h := shl64 1 e (by omega)
  rw [Nat.one_mul, Nat.mod_eq_of_lt (Nat.pow_lt_pow_right (by decide) he)] at h
  exact h
theorem vmark14_any (w0 w : World) (R : Nat) (l : List (Nat × List Value)) (L : List Int) (W : Nat → Nat) (hL : WinL L) (hW : Wds W L) (n : Int) (hn : i64 n) (M : Mm w0 ((R, wcv (wtop L) W) :: l) w) :
    Calls Try.prog 11 #[.pointer (some ⟨R, 0, none⟩), .int .i64 n] w fun e w' => e = .returned (.int .i64 (wchk L n)) ∧ ∃ V, Wds V (wmk L n) ∧ Mm w0 ((R, wcv (wtop (wmk L n)) V) :: l) w' ∧ Off [R] w w' := by
  go_enter Try.func11, Try.ntmps11
  have OF := Off.refl [R] w
  have hT1 := wtop_ge L
  have hT2 := wtop_max hL
  go_upto_region 0 with fail
  refine wp_region_list ?_
  refine readL (.int .i64 0) rfl (by kernel_rfl) ?_
  simp only [aP, lI, l0, lS]
  first | show Exit.then _ _ _ _ _ | show Exit.inBlock _ _ _ _ _
  go_upto_region 1 with fail
  refine wp_region_list ?_
  refine readL (.pointer (some ⟨R, 0, none⟩)) rfl (by kernel_rfl) ?_
  simp only [aP, lI, l0, lS]
  refine readL (.int .i64 n) rfl (by kernel_rfl) ?_
  simp only [aP, lI, l0, lS]
  refine callL rfl (fun _ => by kernel_rfl) (vcheck14_any w0 _ R _ L W hL hW n hn M) ?_
  rintro e w1 ⟨rfl, l1⟩
  replace M := M.call l1
  replace OF := OF.below l1
  clear l1
  refine ⟨_, rfl, ?_⟩
  simp only [aP, lI, l0, lS]
  refine readL (.int .i64 (wchk L n)) rfl (by kernel_rfl) ?_
  simp only [aP, lI, l0, lS]
  first | show Exit.then _ _ _ _ _ | show Exit.inBlock _ _ _ _ _
  by_cases hc : wchk L n = 0
  · obtain ⟨hn0, hn2, hn3, hn4⟩ := wchk_ok hc
    replace hc := show Hid _ from hc
    go_upto_region 2 with fail
    refine wp_region_list ?_
    refine readL (.int .i64 (wchk L n)) rfl (by kernel_rfl) ?_
    simp only [aP, lI, l0, lS]
    refine readL (.bool false) rfl (neqI .i64 _ _ _ _ _ _ rfl rfl rfl false (by rw [hc.out]; rfl) _) ?_
    simp only [aP, lI, l0, lS]
    first | show Exit.then _ _ _ _ _ | show Exit.inBlock _ _ _ _ _
    by_cases h1 : wtop L < n
    · have hd : n - wtop L = ((n - wtop L).toNat : Int) := by omega
      go_upto_region 4 with fail
      refine wp_region_list ?_
      refine readL (.int .i64 n) rfl (by kernel_rfl) ?_
      simp only [aP, lI, l0, lS]
      refine readL (.pointer (some ⟨R, 0, none⟩)) rfl (by kernel_rfl) ?_
      simp only [aP, lI, l0, lS]
      refine callL rfl (fun _ => by kernel_rfl) (vtop14_any w0 _ R _ (wtop L) W hT1 hT2 M) ?_
      rintro e w2 ⟨rfl, l1⟩
      replace M := M.call l1
      replace OF := OF.below l1
      clear l1
      refine ⟨_, rfl, ?_⟩
      simp only [aP, lI, l0, lS]
      refine readL (.bool true) rfl (gtrI .i64 _ _ _ _ _ _ rfl rfl rfl true (decide_eq_true (by omega)) _) ?_
      simp only [aP, lI, l0, lS]
      first | show Exit.then _ _ _ _ _ | show Exit.inBlock _ _ _ _ _
      go_upto_region 5 with fail
      refine wp_region_list ?_
      refine readL (.pointer (some ⟨R, 0, none⟩)) rfl (by kernel_rfl) ?_
      simp only [aP, lI, l0, lS]
      refine readL (.int .i64 n) rfl (by kernel_rfl) ?_
      simp only [aP, lI, l0, lS]
      refine callL rfl (fun _ => by kernel_rfl) (vrise_any w0 _ R _ (wtop L) W hT1 hT2 _ hW n (n - wtop L).toNat hd (by omega) hn2 M) ?_
      rintro e w3 ⟨rfl, M', o1⟩
      clear M
      have M := M'
      clear M'
      replace OF := OF.and1 o1 (.inl mS)
      clear o1
      refine ⟨_, rfl, ?_⟩
      simp only [aP, lI, l0, lS]
      first | show Exit.then _ _ _ _ _ | show Exit.inBlock _ _ _ _ _
      go_upto_region 6 with fail
      refine wp_region_list ?_
      refine readL (.pointer (some ⟨R, 0, none⟩)) rfl (by kernel_rfl) ?_
      simp only [aP, lI, l0, lS]
      refine readL (.int .i64 n) rfl (by kernel_rfl) ?_
      simp only [aP, lI, l0, lS]
      refine callL rfl (fun _ => by kernel_rfl) (vplace_any w0 _ R _ n (wst W (n - wtop L).toNat) (by omega) hn2 n 0 (by omega) (by omega) M) ?_
      rintro e w4 ⟨rfl, l1⟩
      replace M := M.call l1
      replace OF := OF.below l1
      clear l1
      refine ⟨_, rfl, ?_⟩
      simp only [aP, lI, l0, lS]
      refine readL (.tuple #[.int .i64 ((0 / 64 : Nat) : Int), .int .i64 ((0 % 64 : Nat) : Int)]) rfl (by kernel_rfl) ?_
      simp only [aP, lI, l0, lS]
      refine readL (.int .i64 ((0 / 64 : Nat) : Int)) rfl (by kernel_rfl) ?_
      simp only [aP, lI, l0, lS]
      refine readL (.int .i64 ((0 % 64 : Nat) : Int)) rfl (by kernel_rfl) ?_
      simp only [aP, lI, l0, lS]
      refine readL (.int .i64 ((0 / 64 : Nat) : Int)) rfl (by kernel_rfl) ?_
      simp only [aP, lI, l0, lS]
      refine readL (.int .i64 ((0 % 64 : Nat) : Int)) rfl (by kernel_rfl) ?_
      simp only [aP, lI, l0, lS]
      first | show Exit.then _ _ _ _ _ | show Exit.inBlock _ _ _ _ _
      go_upto_region 7 with fail
      refine wp_region_C (S := fun w' => Mm w0 ((R, wcv n (wst W (n - wtop L).toNat)) :: l) w') 12 (by kernel_rfl) M.drew ?_
      clear M
      intro M
      have hdr := (Below.refl w4.heap.size w4).drew
      replace OF := OF.below hdr
      clear hdr
      generalize w4.drew = w5 at M OF ⊢
      refine readC (i := 0) (some 27) rfl (.pointer (some ⟨R, 0, none⟩)) rfl rfl (by kernel_rfl) rfl (fun _ M => (by kernel_rfl)) (by kernel_rfl) (by kernel_rfl) (by kernel_rfl) (by kernel_rfl) (fun _ _ _ h => h) M ?_
      simp only [aP, lI, l0, lS]
      refine readC (i := 1) (some 28) rfl (.int .i64 ((0 / 64 : Nat) : Int)) rfl rfl (by kernel_rfl) rfl (fun _ M => (by kernel_rfl)) (by kernel_rfl) (by kernel_rfl) (by kernel_rfl) (by kernel_rfl) (fun _ _ _ h => h) M ?_
      simp only [aP, lI, l0, lS]
      refine readC (i := 2) (some 29) rfl (.pointer (some ⟨R, 0, none⟩)) rfl rfl (by kernel_rfl) rfl (fun _ M => (by kernel_rfl)) (by kernel_rfl) (by kernel_rfl) (by kernel_rfl) (by kernel_rfl) (fun _ _ _ h => h) M ?_
      simp only [aP, lI, l0, lS]
      refine readC (i := 3) (some 30) rfl (.pointer (some ⟨R, 1, none⟩)) rfl rfl (by kernel_rfl) rfl (fun _ M => (by kernel_rfl)) (by kernel_rfl) (by kernel_rfl) (by kernel_rfl) (by kernel_rfl) (fun _ _ _ h => h) M ?_
      simp only [aP, lI, l0, lS]
      refine readC (i := 4) (some 31) rfl (.pointer (some ⟨R, 1 + (0 / 64), none⟩)) rfl rfl (by kernel_rfl) rfl (fun _ M => idxArr 43 42 16 .i64 R 1 (0 / 64) _ _ Try.underlying43 (fun _ => by kernel_rfl) (by omega) rfl rfl rfl _) (by kernel_rfl) (by kernel_rfl) (by kernel_rfl) (by kernel_rfl) (fun _ _ _ h => h) M ?_
      simp only [aP, lI, l0, lS]
      refine readC (i := 5) (some 32) rfl (.int .u64 (((wst W (n - wtop L).toNat) (0 / 64) : Nat) : Int)) rfl rfl (by kernel_rfl) rfl (fun _ M => load1 42 _ ⟨R, 1 + (0 / 64), none⟩ _ rfl rfl (fun _ => by kernel_rfl) (M.get mS _ _ (wcv_get n (wst W (n - wtop L).toNat) (0 / 64) (by omega)))) (by kernel_rfl) (by kernel_rfl) (by kernel_rfl) (by kernel_rfl) (fun _ _ _ h => h) M ?_
      simp only [aP, lI, l0, lS]
      refine readC (i := 6) (some 33) rfl (.int .i64 ((0 % 64 : Nat) : Int)) rfl rfl (by kernel_rfl) rfl (fun _ M => (by kernel_rfl)) (by kernel_rfl) (by kernel_rfl) (by kernel_rfl) (by kernel_rfl) (fun _ _ _ h => h) M ?_
      simp only [aP, lI, l0, lS]
      refine readC (i := 7) (some 34) rfl (.int .u64 ((2 ^ (0 % 64) : Nat) : Int)) rfl rfl (by kernel_rfl) rfl (fun _ M => shlI .u64 .i64 _ _ _ _ _ _ _ rfl rfl rfl (by omega) (one_shl _ (by omega)) _) (by kernel_rfl) (by kernel_rfl) (by kernel_rfl) (by kernel_rfl) (fun _ _ _ h => h) M ?_
      simp only [aP, lI, l0, lS]
      refine readC (i := 8) (some 35) rfl (.int .u64 (((wst W (n - wtop L).toNat) (0 / 64) ||| 2 ^ (0 % 64) : Nat) : Int)) rfl rfl (by kernel_rfl) rfl (fun _ M => vorI .u64 _ _ _ _ _ _ _ rfl rfl rfl (or64 _ _ ((hW.up _).lt _ (by omega)) (Nat.pow_lt_pow_right (by decide) (by omega))) _) (by kernel_rfl) (by kernel_rfl) (by kernel_rfl) (by kernel_rfl) (fun _ _ _ h => h) M ?_
      simp only [aP, lI, l0, lS]
      refine pureCg (i := 9) (some 36) rfl (.pointer (some ⟨R, 0, none⟩)) rfl (by decide) rfl (fun _ => (by kernel_rfl)) M ?_
      simp only [aP, lI, l0, lS]
      refine pureCg (i := 10) (some 37) rfl (.pointer (some ⟨R, 1, none⟩)) rfl (by decide) rfl (fun _ => (by kernel_rfl)) M ?_
      simp only [aP, lI, l0, lS]
      refine readC (i := 11) (some 38) rfl (.pointer (some ⟨R, 1 + (0 / 64), none⟩)) rfl rfl (by kernel_rfl) rfl (fun _ M => idxArr 43 42 16 .i64 R 1 (0 / 64) _ _ Try.underlying43 (fun _ => by kernel_rfl) (by omega) rfl rfl rfl _) (by kernel_rfl) (by kernel_rfl) (by kernel_rfl) (by kernel_rfl) (fun _ _ _ h => h) M ?_
      simp only [aP, lI, l0, lS]
      refine skipC (S2 := fun _ => True) none rfl (by kernel_rfl) rfl rfl (storeAny (.int .u64 (((wst W (n - wtop L).toNat) (0 / 64) ||| 2 ^ (0 % 64) : Nat) : Int)) R (1 + (0 / 64)) 42 _ _ rfl rfl rfl rfl rfl (M.isSome mS _ (by rw [wcv_len]; omega)) (M.free mS _ (by rw [wcv_len]; omega)) (by kernel_rfl)) (by kernel_rfl) ?_
      simp only [Act.put]
      replace M := M.set (1 + (0 / 64)) (by rw [wcv_len]; omega) (.int .u64 (((wst W (n - wtop L).toNat) (0 / 64) ||| 2 ^ (0 % 64) : Nat) : Int))
      rw [wcv_fset] at M
      replace OF := OF.and1 ((Off.refl [R] _).set (b := R) mS (1 + (0 / 64)) (.int .u64 (((wst W (n - wtop L).toNat) (0 / 64) ||| 2 ^ (0 % 64) : Nat) : Int))) (.inl mS)
      generalize w5.setCell ⟨R, 1 + (0 / 64), none⟩ (.int .u64 (((wst W (n - wtop L).toNat) (0 / 64) ||| 2 ^ (0 % 64) : Nat) : Int)) = w6 at M OF ⊢
      refine wpAnyH_done (by kernel_rfl) ?_ _
      first | show Exit.then _ _ _ _ _ | show Exit.inBlock _ _ _ _ _
      go_upto_region 8 with fail
      refine wp_region_list ?_
      refine readL (.int .i64 0) rfl (by kernel_rfl) ?_
      simp only [aP, lI, l0, lS]
      first | show Exit.then _ _ _ _ _ | show Exit.inBlock _ _ _ _ _
      have hk_ := show Hid _ from (wmk_ok hc.out)
      have hk2_ := show Hid _ from (wtop_up (L := L) (n := n) h1)
      have hV := show Hid _ from (wds_up hW hd (by omega))
      have HS := show Hid _ from (And.intro M OF)
      clear M OF hW hL
      go_wp2
      go_ret
      exact ⟨by rw [hc.out]; rfl, _, by rw [hk_.out]; exact hV.out, by rw [hk_.out, hk2_.out]; exact HS.out⟩
    · obtain ⟨k, hk⟩ : ∃ k : Nat, wtop L - n = (k : Int) := ⟨(wtop L - n).toNat, by omega⟩
      go_upto_region 4 with fail
      refine wp_region_list ?_
      refine readL (.int .i64 n) rfl (by kernel_rfl) ?_
      simp only [aP, lI, l0, lS]
      refine readL (.pointer (some ⟨R, 0, none⟩)) rfl (by kernel_rfl) ?_
      simp only [aP, lI, l0, lS]
      refine callL rfl (fun _ => by kernel_rfl) (vtop14_any w0 _ R _ (wtop L) W hT1 hT2 M) ?_
      rintro e w7 ⟨rfl, l1⟩
      replace M := M.call l1
      replace OF := OF.below l1
      clear l1
      refine ⟨_, rfl, ?_⟩
      simp only [aP, lI, l0, lS]
      refine readL (.bool false) rfl (gtrI .i64 _ _ _ _ _ _ rfl rfl rfl false (decide_eq_false (by omega)) _) ?_
      simp only [aP, lI, l0, lS]
      first | show Exit.then _ _ _ _ _ | show Exit.inBlock _ _ _ _ _
      go_upto_region 6 with fail
      refine wp_region_list ?_
      refine readL (.pointer (some ⟨R, 0, none⟩)) rfl (by kernel_rfl) ?_
      simp only [aP, lI, l0, lS]
      refine readL (.int .i64 n) rfl (by kernel_rfl) ?_
      simp only [aP, lI, l0, lS]
      refine callL rfl (fun _ => by kernel_rfl) (vplace_any w0 _ R _ (wtop L) W hT1 hT2 n k hk (by omega) M) ?_
      rintro e w8 ⟨rfl, l1⟩
      replace M := M.call l1
      replace OF := OF.below l1
      clear l1
      refine ⟨_, rfl, ?_⟩
      simp only [aP, lI, l0, lS]
      refine readL (.tuple #[.int .i64 ((k / 64 : Nat) : Int), .int .i64 ((k % 64 : Nat) : Int)]) rfl (by kernel_rfl) ?_
      simp only [aP, lI, l0, lS]
      refine readL (.int .i64 ((k / 64 : Nat) : Int)) rfl (by kernel_rfl) ?_
      simp only [aP, lI, l0, lS]
      refine readL (.int .i64 ((k % 64 : Nat) : Int)) rfl (by kernel_rfl) ?_
      simp only [aP, lI, l0, lS]
      refine readL (.int .i64 ((k / 64 : Nat) : Int)) rfl (by kernel_rfl) ?_
      simp only [aP, lI, l0, lS]
      refine readL (.int .i64 ((k % 64 : Nat) : Int)) rfl (by kernel_rfl) ?_
      simp only [aP, lI, l0, lS]
      first | show Exit.then _ _ _ _ _ | show Exit.inBlock _ _ _ _ _
      go_upto_region 7 with fail
      refine wp_region_C (S := fun w' => Mm w0 ((R, wcv (wtop L) W) :: l) w') 12 (by kernel_rfl) M.drew ?_
      clear M
      intro M
      have hdr := (Below.refl w8.heap.size w8).drew
      replace OF := OF.below hdr
      clear hdr
      generalize w8.drew = w9 at M OF ⊢
      refine readC (i := 0) (some 27) rfl (.pointer (some ⟨R, 0, none⟩)) rfl rfl (by kernel_rfl) rfl (fun _ M => (by kernel_rfl)) (by kernel_rfl) (by kernel_rfl) (by kernel_rfl) (by kernel_rfl) (fun _ _ _ h => h) M ?_
      simp only [aP, lI, l0, lS]
      refine readC (i := 1) (some 28) rfl (.int .i64 ((k / 64 : Nat) : Int)) rfl rfl (by kernel_rfl) rfl (fun _ M => (by kernel_rfl)) (by kernel_rfl) (by kernel_rfl) (by kernel_rfl) (by kernel_rfl) (fun _ _ _ h => h) M ?_
      simp only [aP, lI, l0, lS]
      refine readC (i := 2) (some 29) rfl (.pointer (some ⟨R, 0, none⟩)) rfl rfl (by kernel_rfl) rfl (fun _ M => (by kernel_rfl)) (by kernel_rfl) (by kernel_rfl) (by kernel_rfl) (by kernel_rfl) (fun _ _ _ h => h) M ?_
      simp only [aP, lI, l0, lS]
      refine readC (i := 3) (some 30) rfl (.pointer (some ⟨R, 1, none⟩)) rfl rfl (by kernel_rfl) rfl (fun _ M => (by kernel_rfl)) (by kernel_rfl) (by kernel_rfl) (by kernel_rfl) (by kernel_rfl) (fun _ _ _ h => h) M ?_
      simp only [aP, lI, l0, lS]
      refine readC (i := 4) (some 31) rfl (.pointer (some ⟨R, 1 + (k / 64), none⟩)) rfl rfl (by kernel_rfl) rfl (fun _ M => idxArr 43 42 16 .i64 R 1 (k / 64) _ _ Try.underlying43 (fun _ => by kernel_rfl) (by omega) rfl rfl rfl _) (by kernel_rfl) (by kernel_rfl) (by kernel_rfl) (by kernel_rfl) (fun _ _ _ h => h) M ?_
      simp only [aP, lI, l0, lS]
      refine readC (i := 5) (some 32) rfl (.int .u64 ((W (k / 64) : Nat) : Int)) rfl rfl (by kernel_rfl) rfl (fun _ M => load1 42 _ ⟨R, 1 + (k / 64), none⟩ _ rfl rfl (fun _ => by kernel_rfl) (M.get mS _ _ (wcv_get (wtop L) W (k / 64) (by omega)))) (by kernel_rfl) (by kernel_rfl) (by kernel_rfl) (by kernel_rfl) (fun _ _ _ h => h) M ?_
      simp only [aP, lI, l0, lS]
      refine readC (i := 6) (some 33) rfl (.int .i64 ((k % 64 : Nat) : Int)) rfl rfl (by kernel_rfl) rfl (fun _ M => (by kernel_rfl)) (by kernel_rfl) (by kernel_rfl) (by kernel_rfl) (by kernel_rfl) (fun _ _ _ h => h) M ?_
      simp only [aP, lI, l0, lS]
      refine readC (i := 7) (some 34) rfl (.int .u64 ((2 ^ (k % 64) : Nat) : Int)) rfl rfl (by kernel_rfl) rfl (fun _ M => shlI .u64 .i64 _ _ _ _ _ _ _ rfl rfl rfl (by omega) (one_shl _ (by omega)) _) (by kernel_rfl) (by kernel_rfl) (by kernel_rfl) (by kernel_rfl) (fun _ _ _ h => h) M ?_
      simp only [aP, lI, l0, lS]
      refine readC (i := 8) (some 35) rfl (.int .u64 ((W (k / 64) ||| 2 ^ (k % 64) : Nat) : Int)) rfl rfl (by kernel_rfl) rfl (fun _ M => vorI .u64 _ _ _ _ _ _ _ rfl rfl rfl (or64 _ _ (hW.lt _ (by omega)) (Nat.pow_lt_pow_right (by decide) (by omega))) _) (by kernel_rfl) (by kernel_rfl) (by kernel_rfl) (by kernel_rfl) (fun _ _ _ h => h) M ?_
      simp only [aP, lI, l0, lS]
      refine pureCg (i := 9) (some 36) rfl (.pointer (some ⟨R, 0, none⟩)) rfl (by decide) rfl (fun _ => (by kernel_rfl)) M ?_
      simp only [aP, lI, l0, lS]
      refine pureCg (i := 10) (some 37) rfl (.pointer (some ⟨R, 1, none⟩)) rfl (by decide) rfl (fun _ => (by kernel_rfl)) M ?_
      simp only [aP, lI, l0, lS]
      refine readC (i := 11) (some 38) rfl (.pointer (some ⟨R, 1 + (k / 64), none⟩)) rfl rfl (by kernel_rfl) rfl (fun _ M => idxArr 43 42 16 .i64 R 1 (k / 64) _ _ Try.underlying43 (fun _ => by kernel_rfl) (by omega) rfl rfl rfl _) (by kernel_rfl) (by kernel_rfl) (by kernel_rfl) (by kernel_rfl) (fun _ _ _ h => h) M ?_
      simp only [aP, lI, l0, lS]
      refine skipC (S2 := fun _ => True) none rfl (by kernel_rfl) rfl rfl (storeAny (.int .u64 ((W (k / 64) ||| 2 ^ (k % 64) : Nat) : Int)) R (1 + (k / 64)) 42 _ _ rfl rfl rfl rfl rfl (M.isSome mS _ (by rw [wcv_len]; omega)) (M.free mS _ (by rw [wcv_len]; omega)) (by kernel_rfl)) (by kernel_rfl) ?_
      simp only [Act.put]
      replace M := M.set (1 + (k / 64)) (by rw [wcv_len]; omega) (.int .u64 ((W (k / 64) ||| 2 ^ (k % 64) : Nat) : Int))
      rw [wcv_fset] at M
      replace OF := OF.and1 ((Off.refl [R] _).set (b := R) mS (1 + (k / 64)) (.int .u64 ((W (k / 64) ||| 2 ^ (k % 64) : Nat) : Int))) (.inl mS)
      generalize w9.setCell ⟨R, 1 + (k / 64), none⟩ (.int .u64 ((W (k / 64) ||| 2 ^ (k % 64) : Nat) : Int)) = w10 at M OF ⊢
      refine wpAnyH_done (by kernel_rfl) ?_ _
      first | show Exit.then _ _ _ _ _ | show Exit.inBlock _ _ _ _ _
      go_upto_region 8 with fail
      refine wp_region_list ?_
      refine readL (.int .i64 0) rfl (by kernel_rfl) ?_
      simp only [aP, lI, l0, lS]
      first | show Exit.then _ _ _ _ _ | show Exit.inBlock _ _ _ _ _
      have hk_ := show Hid _ from (wmk_ok hc.out)
      have hk2_ := show Hid _ from (wtop_put (L := L) (n := n) (by omega))
      have hV := show Hid _ from (wds_put hW hk)
      have HS := show Hid _ from (And.intro M OF)
      clear M OF hW hL
      go_wp2
      go_ret
      exact ⟨by rw [hc.out]; rfl, _, by rw [hk_.out]; exact hV.out, by rw [hk_.out, hk2_.out]; exact HS.out⟩
  · replace hc := show Hid _ from hc
    go_upto_region 2 with fail
    refine wp_region_list ?_
    refine readL (.int .i64 (wchk L n)) rfl (by kernel_rfl) ?_
    simp only [aP, lI, l0, lS]
    refine readL (.bool true) rfl (neqI .i64 _ _ _ _ _ _ rfl rfl rfl true (by rw [bne_iff_ne]; exact hc.out) _) ?_
    simp only [aP, lI, l0, lS]
    first | show Exit.then _ _ _ _ _ | show Exit.inBlock _ _ _ _ _
    go_upto_region 3 with fail
    refine wp_region_list ?_
    refine readL (.int .i64 (wchk L n)) rfl (by kernel_rfl) ?_
    simp only [aP, lI, l0, lS]
    refine readL (.int .i64 (wchk L n)) rfl (by kernel_rfl) ?_
    simp only [aP, lI, l0, lS]
    first | show Exit.then _ _ _ _ _ | show Exit.inBlock _ _ _ _ _
    have hk_ := show Hid _ from (wmk_err hc.out)
    have HS := show Hid _ from (And.intro hW (And.intro M OF))
    clear M OF hW hL
    go_wp2
    go_ret
    exact ⟨rfl, W, by rw [hk_.out]; exact HS.out⟩
theorem wrc_app : ∀ x y : List (Int × Int), wrc (x ++ y) = wrc x ++ wrc y
  | [], _ => rfl
  | p :: x, y => by show _ :: _ :: wrc (x ++ y) = _; rw [wrc_app x y]; rfl
theorem wrc_at : ∀ (m : List (Int × Int)) (a : Nat) (x : Int × Int), m[a]? = some x → ((wrc m).drop (a * 2)).take 2 = [.int .i64 x.1, .int .i64 x.2]
  | [], _, _, h => by cases h
  | q :: m, 0, x, h => by
    obtain rfl : q = x := by simpa using h
    rfl
  | q :: m, a + 1, x, h => by
    have := wrc_at m a x (by simpa using h)
    rw [show (a + 1) * 2 = a * 2 + 1 + 1 by omega]
    exact this
theorem wrc_setL : ∀ (m : List (Int × Int)) (a : Nat) (x : Int × Int), setL (wrc m) (a * 2) [.int .i64 x.1, .int .i64 x.2] = wrc (m.set a x)
  | [], _, _ => rfl
  | q :: m, 0, x => rfl
  | q :: m, a + 1, x => by
    have := wrc_setL m a x
    rw [show (a + 1) * 2 = 2 + a * 2 by omega]
    have h := setL_pre [.int .i64 q.1, .int .i64 q.2] [.int .i64 x.1, .int .i64 x.2] (wrc m) (a * 2)
    rw [this] at h
    exact h
def rvl (fl : List (Int × Int)) (a : Nat) : List (Int × Int) := (List.range fl.length).map fun p => if p < a ∨ fl.length ≤ p + a then fl.getD (fl.length - 1 - p) (0, 0) else fl.getD p (0, 0)
theorem rvl_len (fl : List (Int × Int)) (a : Nat) : (rvl fl a).length = fl.length := by unfold rvl; simp
theorem rvl_get (fl : List (Int × Int)) (a p : Nat) (hp : p < fl.length) : (rvl fl a)[p]? = some (if p < a ∨ fl.length ≤ p + a then fl.getD (fl.length - 1 - p) (0, 0) else fl.getD p (0, 0)) := by unfold rvl; simp [hp]
theorem rvl_zero (fl : List (Int × Int)) : rvl fl 0 = fl := List.ext_getElem? fun p => by
  by_cases hp : p < fl.length
  · rw [rvl_get fl 0 p hp, if_neg (by omega), List.getD_eq_getElem?_getD, List.getElem?_eq_getElem hp]
    rfl
  · rw [List.getElem?_eq_none (by rw [rvl_len]; omega), List.getElem?_eq_none (by omega)]
theorem rvl_end (fl : List (Int × Int)) (a : Nat) (h : fl.length ≤ 2 * a + 1) : rvl fl a = fl.reverse := List.ext_getElem? fun p => by
  by_cases hp : p < fl.length
  · rw [rvl_get fl a p hp, List.getElem?_reverse hp, List.getElem?_eq_getElem (by omega)]
    congr 1
    split
    · rw [List.getD_eq_getElem?_getD, List.getElem?_eq_getElem (by omega)]
      rfl
    · have e : p = fl.length - 1 - p := by omega
      rw [List.getD_eq_getElem?_getD, List.getElem?_eq_getElem hp]
      show fl[p] = _
      congr 1
  · rw [List.getElem?_eq_none (by rw [rvl_len]; omega), List.getElem?_eq_none (by rw [List.length_reverse]; omega)]
theorem rvl_step (fl : List (Int × Int)) (a : Nat) (h : a < fl.length - 1 - a) (x y : Int × Int) (hx : (rvl fl a)[a]? = some x) (hy : (rvl fl a)[fl.length - 1 - a]? = some y) : ((rvl fl a).set a y).set (fl.length - 1 - a) x = rvl fl (a + 1) := List.ext_getElem? fun p => by
  rw [rvl_get fl a a (by omega), if_neg (by omega)] at hx
  rw [rvl_get fl a _ (by omega), if_neg (by omega)] at hy
  injection hx with hx
  injection hy with hy
  by_cases hp : p < fl.length
  · rw [rvl_get fl (a + 1) p hp, List.getElem?_set, List.getElem?_set]
    by_cases e1 : fl.length - 1 - a = p
    · rw [if_pos e1, if_pos (by rw [List.length_set, rvl_len]; omega), if_pos (by omega), ← hx]
      congr 2
      omega
    · rw [if_neg e1]
      by_cases e2 : a = p
      · rw [if_pos e2, if_pos (by rw [rvl_len]; omega), if_pos (by omega), ← hy, e2]
      · rw [if_neg e2, rvl_get fl a p hp]
        congr 1
        by_cases c : p < a ∨ fl.length ≤ p + a
        · rw [if_pos c, if_pos (by omega)]
        · rw [if_neg c, if_neg (by omega)]
  · rw [List.getElem?_eq_none (by rw [List.length_set, List.length_set, rvl_len]; omega), List.getElem?_eq_none (by rw [rvl_len]; omega)]
theorem idxRg (g len cap i : Nat) (hi : i < len) {o : Oper} {a : Act} (x y : Operand) (ho : o.op = .indexAddr 33 x y) (hx : a.eval x = .slice (some ⟨g, 0, none⟩) len cap) (hy : a.eval y = .int .i64 (i : Int)) (w : World) : (execOp a.eval o).run Try.prog w = .ok (.value (.pointer (some ⟨g, i * 2, none⟩))) w := by
  have h := idxR2 ⟨g, 0, none⟩ len cap i hi x y ho hx hy w
  rw [Addr.add_mid, Nat.zero_add] at h
  exact h
theorem vreverse_any (w1 w : World) (g cap : Nat) (fl : List (Int × Int)) (hfl : fl.length ≤ 1099511627776) (M : Mm w1 [(g, wrc fl)] w) :
    Calls Try.prog 26 #[.slice (some ⟨g, 0, none⟩) fl.length cap] w fun e w' => e = .returned (.tuple #[]) ∧ Mm w1 [(g, wrc fl.reverse)] w' := by
  go_enter Try.func26, Try.ntmps26
  go_upto_region 0 with fail
  refine wp_region_list ?_
  refine readL (.slice (some ⟨g, 0, none⟩) fl.length cap) rfl (by kernel_rfl) ?_
  simp only [aP, lI, l0, lS]
  refine readL (.int .i64 ((fl.length : Nat) : Int)) rfl (lenS _ 33 36 (some ⟨g, 0, none⟩) fl.length cap rfl Try.underlying33 rfl _) ?_
  simp only [aP, lI, l0, lS]
  refine readL (.int .i64 (((fl.length : Nat) : Int) - 1)) rfl (subI .i64 _ _ _ _ _ _ _ rfl rfl rfl (by rw [IntKind.wrap_i64]; omega) _) ?_
  simp only [aP, lI, l0, lS]
  refine readL (.int .i64 0) rfl (by kernel_rfl) ?_
  simp only [aP, lI, l0, lS]
  refine readL (.int .i64 (((fl.length : Nat) : Int) - 1)) rfl (by kernel_rfl) ?_
  simp only [aP, lI, l0, lS]
  first | show Exit.then _ _ _ _ _ | show Exit.inBlock _ _ _ _ _
  have HI := show Hid _ from (show Mm w1 [(g, wrc (rvl fl 0))] w by rw [rvl_zero]; exact M)
  clear M
  go_wp2
  go_loopw [2, 3] (fun i j w' => ∃ a : Nat, 2 * a ≤ fl.length + 1 ∧ i = .int .i64 (a : Int) ∧ j = .int .i64 (((fl.length : Nat) : Int) - 1 - (a : Int)) ∧ Mm w1 [(g, wrc (rvl fl a))] w') (fun i _ _ => fl.length - (intOf i).toNat)
  case atStart => exact ⟨0, by omega, rfl, by go_num, HI.out⟩
  case round =>
    clear HI
    obtain ⟨a, ha, rfl, rfl, M⟩ := hrel
    by_cases hlt : a < fl.length - 1 - a
    · have hbe : ((fl.length : Nat) : Int) - 1 - (a : Int) = ((fl.length - 1 - a : Nat) : Int) := by omega
      rw [hbe]
      obtain ⟨x, hx⟩ : ∃ x, (rvl fl a)[a]? = some x := ⟨_, rvl_get fl a a (by omega)⟩
      obtain ⟨y, hy⟩ : ∃ y, (rvl fl a)[fl.length - 1 - a]? = some y := ⟨_, rvl_get fl a _ (by omega)⟩
      go_upto_region 1 with fail
      refine wp_region_list ?_
      refine readL (.int .i64 (a : Int)) rfl (by kernel_rfl) ?_
      simp only [aP, lI, l0, lS]
      refine readL (.int .i64 ((fl.length - 1 - a : Nat) : Int)) rfl (by kernel_rfl) ?_
      simp only [aP, lI, l0, lS]
      refine readL (.bool true) rfl (lssI .i64 _ _ _ _ _ _ rfl rfl rfl true (decide_eq_true (by omega)) _) ?_
      simp only [aP, lI, l0, lS]
      first | show Exit.then _ _ _ _ _ | show Exit.inBlock _ _ _ _ _
      go_upto_region 3 with fail
      refine wp_region_C (S := fun w' => Mm w1 ([(g, wrc (rvl fl a))]) w') 13 (by kernel_rfl) M.drew ?_
      clear M
      intro M
      have hdr := (Below.refl wr.heap.size wr).drew
      clear hdr
      generalize wr.drew = w1 at M  ⊢
      refine readC (i := 0) (some 14) rfl (.slice (some ⟨g, 0, none⟩) fl.length cap) rfl rfl (by kernel_rfl) rfl (fun _ M => (by kernel_rfl)) (by kernel_rfl) (by kernel_rfl) (by kernel_rfl) (by kernel_rfl) (fun _ _ _ h => h) M ?_
      simp only [aP, lI, l0, lS]
      refine readC (i := 1) (some 15) rfl (.int .i64 (a : Int)) rfl rfl (by kernel_rfl) rfl (fun _ M => (by kernel_rfl)) (by kernel_rfl) (by kernel_rfl) (by kernel_rfl) (by kernel_rfl) (fun _ _ _ h => h) M ?_
      simp only [aP, lI, l0, lS]
      refine pureCg (i := 2) (some 16) rfl (.slice (some ⟨g, 0, none⟩) fl.length cap) rfl (by decide) rfl (fun _ => (by kernel_rfl)) M ?_
      simp only [aP, lI, l0, lS]
      refine pureCg (i := 3) (some 17) rfl (.int .i64 ((fl.length - 1 - a : Nat) : Int)) rfl (by decide) rfl (fun _ => (by kernel_rfl)) M ?_
      simp only [aP, lI, l0, lS]
      refine readC (i := 4) (some 18) rfl (.slice (some ⟨g, 0, none⟩) fl.length cap) rfl rfl (by kernel_rfl) rfl (fun _ M => (by kernel_rfl)) (by kernel_rfl) (by kernel_rfl) (by kernel_rfl) (by kernel_rfl) (fun _ _ _ h => h) M ?_
      simp only [aP, lI, l0, lS]
      refine readC (i := 5) (some 19) rfl (.int .i64 ((fl.length - 1 - a : Nat) : Int)) rfl rfl (by kernel_rfl) rfl (fun _ M => (by kernel_rfl)) (by kernel_rfl) (by kernel_rfl) (by kernel_rfl) (by kernel_rfl) (fun _ _ _ h => h) M ?_
      simp only [aP, lI, l0, lS]
      refine readC (i := 6) (some 20) rfl (.pointer (some ⟨g, (fl.length - 1 - a) * 2, none⟩)) rfl rfl (by kernel_rfl) rfl (fun _ M => idxRg g _ _ (fl.length - 1 - a) (by omega) _ _ rfl rfl rfl _) (by kernel_rfl) (by kernel_rfl) (by kernel_rfl) (by kernel_rfl) (fun _ _ _ h => h) M ?_
      simp only [aP, lI, l0, lS]
      refine readC (i := 7) (some 21) rfl (.agg #[.int .i64 y.1, .int .i64 y.2]) rfl rfl (by kernel_rfl) rfl (fun _ M => loadN 36 _ ⟨g, (fl.length - 1 - a) * 2, none⟩ [.int .i64 y.1, .int .i64 y.2] rfl rfl (fun _ => by kernel_rfl) (fun _ => by kernel_rfl) (M.part mS _ _ (wrc_at _ _ y hy))) (by kernel_rfl) (by kernel_rfl) (by kernel_rfl) (by kernel_rfl) (fun _ _ _ h => h) M ?_
      simp only [aP, lI, l0, lS]
      refine pureCg (i := 8) (some 22) rfl (.slice (some ⟨g, 0, none⟩) fl.length cap) rfl (by decide) rfl (fun _ => (by kernel_rfl)) M ?_
      simp only [aP, lI, l0, lS]
      refine pureCg (i := 9) (some 23) rfl (.int .i64 (a : Int)) rfl (by decide) rfl (fun _ => (by kernel_rfl)) M ?_
      simp only [aP, lI, l0, lS]
      refine pureCg (i := 10) (some 24) rfl (.pointer (some ⟨g, a * 2, none⟩)) rfl (by decide) rfl (fun _ => idxRg g _ _ a (by omega) _ _ rfl rfl rfl _) M ?_
      simp only [aP, lI, l0, lS]
      refine readC (i := 11) (some 25) rfl (.agg #[.int .i64 x.1, .int .i64 x.2]) rfl rfl (by kernel_rfl) rfl (fun _ M => loadN 36 _ ⟨g, a * 2, none⟩ [.int .i64 x.1, .int .i64 x.2] rfl rfl (fun _ => by kernel_rfl) (fun _ => by kernel_rfl) (M.part mS _ _ (wrc_at _ _ x hx))) (by kernel_rfl) (by kernel_rfl) (by kernel_rfl) (by kernel_rfl) (fun _ _ _ h => h) M ?_
      simp only [aP, lI, l0, lS]
      refine readC (i := 12) (some 26) rfl (.pointer (some ⟨g, a * 2, none⟩)) rfl rfl (by kernel_rfl) rfl (fun _ M => idxRg g _ _ a (by omega) _ _ rfl rfl rfl _) (by kernel_rfl) (by kernel_rfl) (by kernel_rfl) (by kernel_rfl) (fun _ _ _ h => h) M ?_
      simp only [aP, lI, l0, lS]
      refine skipC (S2 := fun _ => True) none rfl (by kernel_rfl) rfl rfl (storeP [.int .i64 y.1, .int .i64 y.2] g (a * 2) 36 _ _ rfl rfl rfl (M.thereP mS _ 2 (by rw [wrc_len, rvl_len]; omega)) (by kernel_rfl) (List.all_eq_true.1 (rfl : ([.int .i64 y.1, .int .i64 y.2] : List Value).all (fun u => u.oneCell') = true))) (by kernel_rfl) ?_
      simp only [Act.put]
      replace M := M.setPart [.int .i64 y.1, .int .i64 y.2] (a * 2) (by rw [wrc_len, rvl_len]; simp only [List.length_cons, List.length_nil]; omega)
      rw [wrc_setL] at M
      generalize w1.setCells g (a * 2) [.int .i64 y.1, .int .i64 y.2] = w2 at M ⊢
      refine readHg (i := 14) (some 27) rfl (.pointer (some ⟨g, (fl.length - 1 - a) * 2, none⟩)) rfl rfl (fun _ _ => idxRg g _ _ (fl.length - 1 - a) (by omega) _ _ rfl rfl rfl _) trivial ?_
      simp only [aP, lI, l0, lS]
      refine doesH (i := 15) none rfl (by kernel_rfl) rfl rfl (storeP [.int .i64 x.1, .int .i64 x.2] g ((fl.length - 1 - a) * 2) 36 _ _ rfl rfl rfl (M.thereP mS _ 2 (by rw [wrc_len, List.length_set, rvl_len]; omega)) (by kernel_rfl) (List.all_eq_true.1 (rfl : ([.int .i64 x.1, .int .i64 x.2] : List Value).all (fun u => u.oneCell') = true))) trivial ?_
      simp only [Act.put]
      replace M := M.setPart [.int .i64 x.1, .int .i64 x.2] ((fl.length - 1 - a) * 2) (by rw [wrc_len, List.length_set, rvl_len]; simp only [List.length_cons, List.length_nil]; omega)
      rw [wrc_setL] at M
      generalize w2.setCells g ((fl.length - 1 - a) * 2) [.int .i64 x.1, .int .i64 x.2] = w3 at M ⊢
      refine wpAnyH_done (by kernel_rfl) ?_ _
      first | show Exit.then _ _ _ _ _ | show Exit.inBlock _ _ _ _ _
      have hst := show Hid _ from (rvl_step fl a hlt x y hx hy)
      have HS := show Hid _ from M
      clear M hx hy hbe
      go_wp2
      go_roundw
      case rel => exact ⟨a + 1, by omega, by go_num, by go_num, by rw [← hst.out]; exact HS.out⟩
      case measure => simp [intOf]; omega
    · go_upto_region 1 with fail
      refine wp_region_list ?_
      refine readL (.int .i64 (a : Int)) rfl (by kernel_rfl) ?_
      simp only [aP, lI, l0, lS]
      refine readL (.int .i64 (((fl.length : Nat) : Int) - 1 - (a : Int))) rfl (by kernel_rfl) ?_
      simp only [aP, lI, l0, lS]
      refine readL (.bool false) rfl (lssI .i64 _ _ _ _ _ _ rfl rfl rfl false (decide_eq_false (by omega)) _) ?_
      simp only [aP, lI, l0, lS]
      first | show Exit.then _ _ _ _ _ | show Exit.inBlock _ _ _ _ _
      rw [rvl_end fl a (by omega)] at M
      have HS := show Hid _ from M
      clear M
      go_wp2
      exact ⟨rfl, .tuple #[], by kernel_rfl, rfl, HS.out⟩
theorem vreverse_nil (w : World) :
    Calls Try.prog 26 #[.slice none 0 0] w fun e w' => e = .returned (.tuple #[]) ∧ Below w.heap.size w w' := by
  go_enter Try.func26, Try.ntmps26
  have M := Mm.init w
  go_upto_region 0 with fail
  refine wp_region_list ?_
  refine readL (.slice none 0 0) rfl (by kernel_rfl) ?_
  simp only [aP, lI, l0, lS]
  refine readL (.int .i64 ((0 : Nat) : Int)) rfl (lenS _ 33 36 none 0 0 rfl Try.underlying33 rfl _) ?_
  simp only [aP, lI, l0, lS]
  refine readL (.int .i64 (-1)) rfl (subI .i64 _ _ _ _ _ _ _ rfl rfl rfl (by decide) _) ?_
  simp only [aP, lI, l0, lS]
  refine readL (.int .i64 0) rfl (by kernel_rfl) ?_
  simp only [aP, lI, l0, lS]
  refine readL (.int .i64 (-1)) rfl (by kernel_rfl) ?_
  simp only [aP, lI, l0, lS]
  first | show Exit.then _ _ _ _ _ | show Exit.inBlock _ _ _ _ _
  clear M
  go_wp2
  go_loopw [2, 3] (fun i j w' => i = .int .i64 0 ∧ j = .int .i64 (-1) ∧ w = w') (fun _ _ _ => 0)
  case atStart => exact ⟨rfl, rfl, rfl⟩
  case round =>
    obtain ⟨rfl, rfl, rfl⟩ := hrel
    go_wp2
    exact ⟨rfl, .tuple #[], by kernel_rfl, rfl, Below.refl _ _⟩
theorem row_form {w : World} {base : Nat} {e : TypeId} {size n : Nat} {xs : List Value} {v : Value} (h : w.ownsRow base e size v n xs) : ∃ sp cap, v = .slice sp n cap ∧ n ≤ cap ∧ (sp = none → cap = 0) := by
  rcases h.2 with ⟨rfl, rfl⟩ | ⟨g, cap, cur, rfl, _, _, hc, _⟩
  · exact ⟨none, 0, rfl, Nat.le_refl _, fun _ => rfl⟩
  · exact ⟨_, cap, rfl, hc, fun e => by cases e⟩
theorem vrev_any (w1 w : World) (fl : List (Int × Int)) (v : Value) (hfl : fl.length ≤ 1099511627776) (hb : Below w1.heap.size w1 w) (V : w.ownsRow w1.heap.size 36 2 v fl.length (wrc fl)) :
    Calls Try.prog 26 #[v] w fun e w' => e = .returned (.tuple #[]) ∧ NewW w' w1.heap.size fl.reverse v ∧ Below w1.heap.size w1 w' := by
  rcases V.2 with ⟨rfl, h0⟩ | ⟨g, cap, cur, rfl, hg, _, hc, _⟩
  · obtain rfl : fl = [] := List.eq_nil_of_length_eq_zero h0
    refine (vreverse_nil w).mono ?_
    rintro e w' ⟨rfl, l⟩
    exact ⟨rfl, ⟨none, 0, rfl, Nat.le_refl _, fun _ => rfl, fun j u hu => (by cases hu), fun a e => (by cases e)⟩, hb.trans (l.mono hb.size)⟩
  · have M : Mm w1 [(g, wrc fl)] w := Mm.ofRow (Mm.of hb) V rfl (Nat.le_refl _) (fun p hp => by cases hp)
    refine (vreverse_any w1 w g cap fl hfl M).mono ?_
    rintro e w' ⟨rfl, N⟩
    exact ⟨rfl, ⟨some ⟨g, 0, none⟩, cap, by rw [List.length_reverse], by rw [List.length_reverse]; exact hc, fun e => (by cases e), fun j u hu => ⟨_, rfl, N.rangeAt mS j u hu⟩, fun a e => by cases e; exact ⟨N.lo mS, N.lt mS⟩⟩, N.below⟩
theorem wbl_skip {L : List Int} {most : Int} {k : Nat} {l : List (Int × Int)} {last : Int} (h : wnx L last = wnx L (last - 1)) : wbl L most k l last = wbl L most k l (last - 1) := by
  cases k with
  | zero => rfl
  | succ k => unfold wbl; rw [h]
theorem wrc_last (t : List (Int × Int)) (a b : Int) : (wrc (((a, b) :: t).reverse))[t.length * 2]? = some (.int .i64 a) := by
  rw [List.reverse_cons, wrc_app, List.getElem?_append_right (by rw [wrc_len, List.length_reverse]; exact Nat.le_refl _), wrc_len, List.length_reverse, Nat.sub_self]
  rfl
theorem wrc_wide (t : List (Int × Int)) (a b m : Int) : (wrc (((a, b) :: t).reverse)).set (t.length * 2) (.int .i64 m) = wrc (((m, b) :: t).reverse) := by
  rw [List.reverse_cons, List.reverse_cons, wrc_app, wrc_app, List.set_append_right _ _ (by rw [wrc_len, List.length_reverse]; exact Nat.le_refl _), wrc_len, List.length_reverse, Nat.sub_self]
  rfl
theorem vbelow14_any (w0 w : World) (R : Nat) (l : List (Nat × List Value)) (L : List Int) (W : Nat → Nat) (hL : WinL L) (hW : Wds W L) (most : Int) (M : Mm w0 ((R, wcv (wtop L) W) :: l) w) :
    Calls Try.prog 19 #[.pointer (some ⟨R, 0, none⟩), .int .i64 most] w fun e w' => (∃ u, e = .returned u ∧ NewW w' w.heap.size (wbel L most) u) ∧ Below w.heap.size w w' := by
  have hB := Below.refl w.heap.size w
  go_enter Try.func19, Try.ntmps19
  have hT1 := wtop_ge L
  have hT2 := wtop_max hL
  have hM0 := M.below.size
  have hML : ∀ p ∈ ((R, wcv (wtop L) W) :: l), p.1 < w.heap.size := fun p hp => (M.rows p hp).2.2
  go_upto_region 0 with fail
  refine wp_region_list ?_
  refine readL (.slice none 0 0) rfl (by kernel_rfl) ?_
  simp only [aP, lI, l0, lS]
  first | show Exit.then _ _ _ _ _ | show Exit.inBlock _ _ _ _ _
  go_wp2
  go_step3
  go_upto_region 1 with fail
  refine wp_region_list ?_
  refine readL (.slice none 0 0) rfl (by kernel_rfl) ?_
  simp only [aP, lI, l0, lS]
  first | show Exit.then _ _ _ _ _ | show Exit.inBlock _ _ _ _ _
  go_wp2
  go_step3
  go_upto_region 2 with fail
  refine wp_region_list ?_
  refine readL (.int .i64 0) rfl (by kernel_rfl) ?_
  simp only [aP, lI, l0, lS]
  first | show Exit.then _ _ _ _ _ | show Exit.inBlock _ _ _ _ _
  have HI := show Hid _ from (And.intro M hB)
  clear M hB
  go_wp2
  go_loopw [5, 9] (fun fv i w' => ∃ (j k : Nat) (rl : List (Int × Int)) (v : Value), j ≤ 1023 ∧ i = .int .i64 (j : Int) ∧ rl.length ≤ j ∧ wlt L (wtop L - (j : Int)) < k ∧ wbl L most k rl (wtop L - (j : Int)) = wbel L most ∧ v = fv ∧ w'.ownsRow w.heap.size 36 2 v rl.length (wrc rl.reverse) ∧ Mm w0 ((R, wcv (wtop L) W) :: l) w' ∧ Below w.heap.size w w') (fun _ i _ => 1023 - (intOf i).toNat)
  case atStart => exact ⟨0, L.length + 1, [], .slice none 0 0, Nat.zero_le _, rfl, Nat.le_refl _, by have := wlt_le L (wtop L - ((0 : Nat) : Int)); omega, by rw [show wtop L - ((0 : Nat) : Int) = wtop L by omega]; rfl, rfl, World.ownsRow_nil _ _ _ _, HI.out⟩
  case round =>
    clear HI
    obtain ⟨j, k, rl, v, hj, rfl, hrl, hk, hbel, rfl, V, M, hB⟩ := hrel
    replace hbel := show Hid _ from hbel
    obtain ⟨sp, cap, rfl, hcap, hnil⟩ := row_form V
    by_cases hlt : j < 1023
    · obtain ⟨m, hm⟩ : ∃ m : Int, m = wtop L - (j : Int) - 1 := ⟨_, rfl⟩
      have hlt1 : wtop L - ((j + 1 : Nat) : Int) = m := by omega
      obtain ⟨k, rfl⟩ : ∃ k', k = k' + 1 := ⟨k - 1, by omega⟩
      by_cases hi : m ∈ L
      · go_upto_region 3 with fail
        refine wp_region_list ?_
        refine readL (.bool true) rfl (lssI .i64 _ _ _ _ _ _ rfl rfl rfl true (decide_eq_true (by omega)) _) ?_
        simp only [aP, lI, l0, lS]
        first | show Exit.then _ _ _ _ _ | show Exit.inBlock _ _ _ _ _
        go_upto_region 4 with fail
        refine wp_region_list ?_
        refine readL (.int .i64 (j : Int)) rfl (by kernel_rfl) ?_
        simp only [aP, lI, l0, lS]
        refine readL (.int .i64 (j : Int)) rfl (by kernel_rfl) ?_
        simp only [aP, lI, l0, lS]
        first | show Exit.then _ _ _ _ _ | show Exit.inBlock _ _ _ _ _
        go_upto_region 5 with fail
        refine wp_region_list ?_
        refine readL (.pointer (some ⟨R, 0, none⟩)) rfl (by kernel_rfl) ?_
        simp only [aP, lI, l0, lS]
        refine callL rfl (fun _ => by kernel_rfl) (vtop14_any w0 _ R _ (wtop L) W hT1 hT2 M) ?_
        rintro e w4 ⟨rfl, l1⟩
        replace M := M.call l1
        replace hB := hB.trans (l1.mono hB.size)
        replace V := ownsRow_low (X := []) V (Off.of_below l1) (fun _ h => by cases h)
        clear l1
        refine ⟨_, rfl, ?_⟩
        simp only [aP, lI, l0, lS]
        refine readL (.int .i64 ((wtop L) - 1)) rfl (subI .i64 _ _ _ _ _ _ _ rfl rfl rfl (by rw [IntKind.wrap_i64]; omega) _) ?_
        simp only [aP, lI, l0, lS]
        refine readL (.int .i64 (j : Int)) rfl (by kernel_rfl) ?_
        simp only [aP, lI, l0, lS]
        refine readL (.int .i64 m) rfl (subI .i64 _ _ _ _ _ _ _ rfl rfl rfl (by rw [IntKind.wrap_i64]; omega) _) ?_
        simp only [aP, lI, l0, lS]
        refine readL (.int .i64 m) rfl (by kernel_rfl) ?_
        simp only [aP, lI, l0, lS]
        first | show Exit.then _ _ _ _ _ | show Exit.inBlock _ _ _ _ _
        go_upto_region 6 with fail
        refine wp_region_list ?_
        refine readL (.slice sp rl.length cap) rfl (by kernel_rfl) ?_
        simp only [aP, lI, l0, lS]
        refine readL (.int .i64 ((rl.length : Nat) : Int)) rfl (lenS _ 33 36 sp rl.length cap rfl Try.underlying33 rfl _) ?_
        simp only [aP, lI, l0, lS]
        refine readL (.int .i64 (((rl.length : Nat) : Int) - 1)) rfl (subI .i64 _ _ _ _ _ _ _ rfl rfl rfl (by rw [IntKind.wrap_i64]; omega) _) ?_
        simp only [aP, lI, l0, lS]
        refine readL (.int .i64 (((rl.length : Nat) : Int) - 1)) rfl (by kernel_rfl) ?_
        simp only [aP, lI, l0, lS]
        first | show Exit.then _ _ _ _ _ | show Exit.inBlock _ _ _ _ _
        go_upto_region 8 with fail
        refine wp_region_list ?_
        refine readL (.pointer (some ⟨R, 0, none⟩)) rfl (by kernel_rfl) ?_
        simp only [aP, lI, l0, lS]
        refine readL (.int .i64 m) rfl (by kernel_rfl) ?_
        simp only [aP, lI, l0, lS]
        refine callL rfl (fun _ => by kernel_rfl) (vmarked_any w0 _ R _ (wtop L) W hT1 hT2 hW.lt m (j + 1) (by omega) (by omega) true ((hW.at (show wtop L - m = ((j + 1 : Nat) : Int) by omega) (by omega)).trans (decide_eq_true hi)) M) ?_
        rintro e w5 ⟨rfl, l1⟩
        replace M := M.call l1
        replace hB := hB.trans (l1.mono hB.size)
        replace V := ownsRow_low (X := []) V (Off.of_below l1) (fun _ h => by cases h)
        clear l1
        refine ⟨_, rfl, ?_⟩
        simp only [aP, lI, l0, lS]
        refine readL (.bool false) rfl (by kernel_rfl) ?_
        simp only [aP, lI, l0, lS]
        refine readL (.bool false) rfl (by kernel_rfl) ?_
        simp only [aP, lI, l0, lS]
        first | show Exit.then _ _ _ _ _ | show Exit.inBlock _ _ _ _ _
        have hm0 := hL.ge _ hi
        have hnx : wnx L (wtop L - (j : Int)) = m := by rw [wnx_hit hL (by rw [← hm]; exact hi) (by omega), ← hm]
        have hn : ¬ wnx L (wtop L - (j : Int)) < 0 := by rw [hnx]; omega
        have hwl := wlt_lt (show m < wtop L - (j : Int) by omega) hi
        have hT3 := wtop_le hi
        by_cases h0 : rl.length = 0
        · obtain rfl : rl = [] := List.eq_nil_of_length_eq_zero h0
          go_upto_region 9 with fail
          refine wp_region_list ?_
          refine readL (.int .i64 (((([] : List (Int × Int)).length : Nat) : Int) - 1)) rfl (by kernel_rfl) ?_
          simp only [aP, lI, l0, lS]
          refine readL (.bool false) rfl (geqI .i64 _ _ _ _ _ _ rfl rfl rfl false (decide_eq_false (by rw [List.length_nil]; omega)) _) ?_
          simp only [aP, lI, l0, lS]
          refine readL (.bool false) rfl (by kernel_rfl) ?_
          simp only [aP, lI, l0, lS]
          with_reducible refine skipL ?_ ?_
          · rfl
          simp only [aP, lI, l0, lS]
          with_reducible refine skipL ?_ ?_
          · rfl
          simp only [aP, lI, l0, lS]
          with_reducible refine skipL ?_ ?_
          · rfl
          simp only [aP, lI, l0, lS]
          with_reducible refine skipL ?_ ?_
          · rfl
          simp only [aP, lI, l0, lS]
          with_reducible refine skipL ?_ ?_
          · rfl
          simp only [aP, lI, l0, lS]
          with_reducible refine skipL ?_ ?_
          · rfl
          simp only [aP, lI, l0, lS]
          with_reducible refine skipL ?_ ?_
          · rfl
          simp only [aP, lI, l0, lS]
          with_reducible refine skipL ?_ ?_
          · rfl
          simp only [aP, lI, l0, lS]
          refine readL (.bool false) rfl (by kernel_rfl) ?_
          simp only [aP, lI, l0, lS]
          refine readL (.bool false) rfl (by kernel_rfl) ?_
          simp only [aP, lI, l0, lS]
          first | show Exit.then _ _ _ _ _ | show Exit.inBlock _ _ _ _ _
          by_cases hmo : most ≤ 0
          · go_upto_region 11 with fail
            refine wp_region_list ?_
            refine readL (.slice sp (([] : List (Int × Int)).length) cap) rfl (by kernel_rfl) ?_
            simp only [aP, lI, l0, lS]
            refine readL (.int .i64 ((([] : List (Int × Int)).length : Nat) : Int)) rfl (lenS _ 33 36 sp (([] : List (Int × Int)).length) cap rfl Try.underlying33 rfl _) ?_
            simp only [aP, lI, l0, lS]
            refine readL (.int .i64 most) rfl (by kernel_rfl) ?_
            simp only [aP, lI, l0, lS]
            refine readL (.bool true) rfl (geqI .i64 _ _ _ _ _ _ rfl rfl rfl true (decide_eq_true (by rw [List.length_nil]; omega)) _) ?_
            simp only [aP, lI, l0, lS]
            refine readL (.bool true) rfl (by kernel_rfl) ?_
            simp only [aP, lI, l0, lS]
            first | show Exit.then _ _ _ _ _ | show Exit.inBlock _ _ _ _ _
            go_upto_region 13 with fail
            refine wp_region_list ?_
            refine readL (.slice sp (([] : List (Int × Int)).length) cap) rfl (by kernel_rfl) ?_
            simp only [aP, lI, l0, lS]
            refine callL rfl (fun _ => by kernel_rfl) (vrev_any w _ ([] : List (Int × Int)).reverse _ (by rw [List.length_reverse]; omega) hB (by rw [List.length_reverse]; exact V)) ?_
            rintro e w6 ⟨rfl, N, hB'⟩
            clear M hB V
            refine ⟨_, rfl, ?_⟩
            simp only [aP, lI, l0, lS]
            first | show Exit.then _ _ _ _ _ | show Exit.inBlock _ _ _ _ _
            go_upto_region 14 with fail
            refine wp_region_list ?_
            refine readL (.slice sp (([] : List (Int × Int)).length) cap) rfl (by kernel_rfl) ?_
            simp only [aP, lI, l0, lS]
            refine readL (.slice sp (([] : List (Int × Int)).length) cap) rfl (by kernel_rfl) ?_
            simp only [aP, lI, l0, lS]
            first | show Exit.then _ _ _ _ _ | show Exit.inBlock _ _ _ _ _
            have hE := show Hid _ from (hbel.out.symm.trans (wbl_full hn (wput_nilfull hmo)))
            rw [List.reverse_reverse] at N
            have HS := show Hid _ from (And.intro N hB')
            clear N hB' hW hL
            go_wp2
            try rw [Exit.noGoto_ret]
            go_ret
            exact ⟨⟨_, rfl, by rw [hE.out]; exact HS.out.1⟩, HS.out.2⟩
          · go_upto_region 11 with fail
            refine wp_region_list ?_
            refine readL (.slice sp (([] : List (Int × Int)).length) cap) rfl (by kernel_rfl) ?_
            simp only [aP, lI, l0, lS]
            refine readL (.int .i64 ((([] : List (Int × Int)).length : Nat) : Int)) rfl (lenS _ 33 36 sp (([] : List (Int × Int)).length) cap rfl Try.underlying33 rfl _) ?_
            simp only [aP, lI, l0, lS]
            refine readL (.int .i64 most) rfl (by kernel_rfl) ?_
            simp only [aP, lI, l0, lS]
            refine readL (.bool false) rfl (geqI .i64 _ _ _ _ _ _ rfl rfl rfl false (decide_eq_false (by rw [List.length_nil]; omega)) _) ?_
            simp only [aP, lI, l0, lS]
            refine readL (.bool false) rfl (by kernel_rfl) ?_
            simp only [aP, lI, l0, lS]
            first | show Exit.then _ _ _ _ _ | show Exit.inBlock _ _ _ _ _
            go_upto_region 7 with fail
            refine wp_region_list ?_
            refine readL (.slice sp (([] : List (Int × Int)).length) cap) rfl (by kernel_rfl) ?_
            simp only [aP, lI, l0, lS]
            refine readL (.int .i64 m) rfl (by kernel_rfl) ?_
            simp only [aP, lI, l0, lS]
            refine readL (.int .i64 m) rfl (by kernel_rfl) ?_
            simp only [aP, lI, l0, lS]
            refine readL (.int .i64 (m + 1)) rfl (addI .i64 _ _ _ _ _ _ _ rfl rfl rfl (by rw [IntKind.wrap_i64]; omega) _) ?_
            simp only [aP, lI, l0, lS]
            refine readL (.agg #[.int .i64 m, .int .i64 (m + 1)]) rfl (by kernel_rfl) ?_
            simp only [aP, lI, l0, lS]
            have S_1 := World.ownsRow.cells (row_lit w5 w5.heap.size m (m + 1) (Nat.le_refl _)) (g := w5.heap.size) rfl
            have hlb := (Below.refl w5.heap.size w5).alloc (Nat.le_refl _) (.cells #[.int .i64 m, .int .i64 (m + 1)] 36)
            refine actL (w' := w5.alloc (.cells #[.int .i64 m, .int .i64 (m + 1)] 36)) (.slice (some ⟨w5.heap.size, 0, none⟩) 1 1) rfl (by kernel_rfl) ?_
            simp only [aP, lI, l0, lS]
            replace M := M.call hlb
            replace hB := hB.trans (hlb.mono hB.size)
            replace V := ownsRow_low (X := []) V (Off.of_below hlb) (fun _ h => by cases h)
            clear hlb
            generalize w5.alloc (.cells #[.int .i64 m, .int .i64 (m + 1)] 36) = w7 at M hB V S_1 ⊢
            generalize w5.heap.size = bz at S_1 ⊢
            obtain ⟨v2, w8, hr, V2, hgr, hg2⟩ := run_append_OwnV (P := Try.prog) (ty := 33) Try.underlying33 manyW rfl (by decide) V ⟨bz, 0, none⟩ 1 1 [.int .i64 m, .int .i64 (m + 1)] rfl S_1 (wrc_one [(m, m + 1)]) (by unfold maxLen; omega) (by omega) hB.size
            have hlo : ∀ b_, (.slice sp (([] : List (Int × Int)).length) cap : Value).ownBlock = some b_ → w.heap.size ≤ b_ := fun b_ hb_ => (World.ownsRow.lt V b_ hb_).1
            replace M := M.grown hgr w.heap.size hML hM0 hB.size hlo
            replace hB := Below.grown hB hgr hB.size hlo
            refine actL v2 rfl (appendOp _ _ 33 _ _ _ rfl rfl rfl hr) ?_
            simp only [aP, lI, l0, lS]
            replace V2 : w8.ownsRow w.heap.size 36 2 v2 ((m, m + 1) :: []).length (wrc (((m, m + 1) :: []).reverse)) := by rw [List.reverse_cons, wrc_app]; exact V2
            clear hr hgr hg2 V S_1 hlo
            refine readL (v2) rfl (by kernel_rfl) ?_
            simp only [aP, lI, l0, lS]
            first | show Exit.then _ _ _ _ _ | show Exit.inBlock _ _ _ _ _
            have hk2 := show Hid _ from ((by have h_ := (wbl_more (k := k) hn (by rw [hnx]; exact wput_nil (nx := m) hmo)).symm.trans hbel.out; rw [hnx] at h_; exact h_ : wbl L most k [(m, m + 1)] m = wbel L most))
            have HS := show Hid _ from (And.intro V2 (And.intro M hB))
            clear M hB V2 hW hL
            go_wp2
            go_roundw
            case rel => exact ⟨j + 1, k, [(m, m + 1)], _, by omega, by go_num, by simp only [List.length_cons, List.length_nil]; omega, by rw [hlt1]; omega, by rw [hlt1]; exact hk2.out, rfl, HS.out⟩
            case measure => simp [intOf]; omega
        · obtain ⟨⟨a, b⟩, t, rfl⟩ := List.exists_cons_of_ne_nil (fun e => h0 (by rw [e]; rfl) : rl ≠ [])
          obtain ⟨g, cap2, e_, _⟩ := row_slice V (by rw [List.length_cons]; omega)
          injection e_ with e1_ e2_ e3_
          subst e1_
          subst e3_
          clear e2_
          have hlast : (((((a, b) :: t).length : Nat) : Int) - 1) = ((t.length : Nat) : Int) := by rw [List.length_cons]; omega
          rw [hlast]
          have htl : t.length + 1 ≤ j := hrl
          by_cases ha : a = m + 1
          · go_upto_region 9 with fail
            refine wp_region_list ?_
            refine readL (.int .i64 ((t.length : Nat) : Int)) rfl (by kernel_rfl) ?_
            simp only [aP, lI, l0, lS]
            refine readL (.bool true) rfl (geqI .i64 _ _ _ _ _ _ rfl rfl rfl true (decide_eq_true (by omega)) _) ?_
            simp only [aP, lI, l0, lS]
            refine readL (.bool true) rfl (by kernel_rfl) ?_
            simp only [aP, lI, l0, lS]
            refine readL (.slice (some ⟨g, 0, none⟩) (((a, b) :: t).length) cap) rfl (by kernel_rfl) ?_
            simp only [aP, lI, l0, lS]
            refine readL (.int .i64 ((t.length : Nat) : Int)) rfl (by kernel_rfl) ?_
            simp only [aP, lI, l0, lS]
            refine readL (.pointer (some ⟨g, t.length * 2, none⟩)) rfl (idxRg g _ _ t.length (by rw [List.length_cons]; omega) _ _ rfl rfl rfl _) ?_
            simp only [aP, lI, l0, lS]
            refine readL (.pointer (some ⟨g, t.length * 2, none⟩)) rfl (by kernel_rfl) ?_
            simp only [aP, lI, l0, lS]
            refine readL (.int .i64 a) rfl (load1 3 _ ⟨g, t.length * 2, none⟩ _ rfl rfl (fun _ => by kernel_rfl) (by have h_ := World.ownsRow.cells V (g := g) rfl _ _ (wrc_last t a b); rw [Addr.add_mid, Nat.zero_add] at h_; exact h_)) ?_
            simp only [aP, lI, l0, lS]
            refine readL (.int .i64 m) rfl (by kernel_rfl) ?_
            simp only [aP, lI, l0, lS]
            refine readL (.int .i64 (m + 1)) rfl (addI .i64 _ _ _ _ _ _ _ rfl rfl rfl (by rw [IntKind.wrap_i64]; omega) _) ?_
            simp only [aP, lI, l0, lS]
            refine readL (.bool true) rfl (eqlI .i64 _ _ _ _ _ _ rfl rfl rfl true (by rw [beq_iff_eq]; exact ha) _) ?_
            simp only [aP, lI, l0, lS]
            refine readL (.bool true) rfl (by kernel_rfl) ?_
            simp only [aP, lI, l0, lS]
            refine readL (.bool true) rfl (by kernel_rfl) ?_
            simp only [aP, lI, l0, lS]
            first | show Exit.then _ _ _ _ _ | show Exit.inBlock _ _ _ _ _
            go_upto_region 10 with fail
            refine wp_region_list ?_
            refine readL (.slice (some ⟨g, 0, none⟩) (((a, b) :: t).length) cap) rfl (by kernel_rfl) ?_
            simp only [aP, lI, l0, lS]
            refine readL (.int .i64 ((t.length : Nat) : Int)) rfl (by kernel_rfl) ?_
            simp only [aP, lI, l0, lS]
            refine readL (.int .i64 m) rfl (by kernel_rfl) ?_
            simp only [aP, lI, l0, lS]
            refine readL (.pointer (some ⟨g, t.length * 2, none⟩)) rfl (idxRg g _ _ t.length (by rw [List.length_cons]; omega) _ _ rfl rfl rfl _) ?_
            simp only [aP, lI, l0, lS]
            refine readL (.pointer (some ⟨g, t.length * 2, none⟩)) rfl (by kernel_rfl) ?_
            simp only [aP, lI, l0, lS]
            have hgw := (World.ownsRow.lt V g rfl).1
            refine skipOpL rfl (storeAny (.int .i64 m) g (t.length * 2) 3 _ _ rfl rfl rfl rfl rfl (by have h_ := World.ownsRow.cells V (g := g) rfl _ _ (wrc_last t a b); rw [Addr.add_mid, Nat.zero_add] at h_; rw [h_]; rfl) (World.ownsRow.frozenAt V _) (by kernel_rfl)) ?_
            simp only [Act.put]
            obtain ⟨V2, hgr⟩ := World.ownsRow.stored V (t.length * 2) (.int .i64 m)
            rw [wrc_wide] at V2
            replace M := M.grown hgr w.heap.size hML hM0 hB.size (fun b_ hb_ => by cases hb_; exact hgw)
            replace hB := Below.grown hB hgr hB.size (fun b_ hb_ => by cases hb_; exact hgw)
            clear V hgr
            generalize w5.setCell ⟨g, t.length * 2, none⟩ (.int .i64 m) = w9 at M hB V2 ⊢
            first | show Exit.then _ _ _ _ _ | show Exit.inBlock _ _ _ _ _
            have hk2 := show Hid _ from ((by have h_ := (wbl_more (k := k) hn (by rw [hnx]; exact wput_wide (most := most) (b := b) (t := t) ha)).symm.trans hbel.out; rw [hnx] at h_; exact h_ : wbl L most k ((m, b) :: t) m = wbel L most))
            have HS := show Hid _ from (And.intro V2 (And.intro M hB))
            clear M hB V2 hW hL
            go_wp2
            go_roundw
            case rel => exact ⟨j + 1, k, ((m, b) :: t), _, by omega, by go_num, by rw [List.length_cons]; omega, by rw [hlt1]; omega, by rw [hlt1]; exact hk2.out, rfl, HS.out⟩
            case measure => simp [intOf]; omega
          · go_upto_region 9 with fail
            refine wp_region_list ?_
            refine readL (.int .i64 ((t.length : Nat) : Int)) rfl (by kernel_rfl) ?_
            simp only [aP, lI, l0, lS]
            refine readL (.bool true) rfl (geqI .i64 _ _ _ _ _ _ rfl rfl rfl true (decide_eq_true (by omega)) _) ?_
            simp only [aP, lI, l0, lS]
            refine readL (.bool true) rfl (by kernel_rfl) ?_
            simp only [aP, lI, l0, lS]
            refine readL (.slice (some ⟨g, 0, none⟩) (((a, b) :: t).length) cap) rfl (by kernel_rfl) ?_
            simp only [aP, lI, l0, lS]
            refine readL (.int .i64 ((t.length : Nat) : Int)) rfl (by kernel_rfl) ?_
            simp only [aP, lI, l0, lS]
            refine readL (.pointer (some ⟨g, t.length * 2, none⟩)) rfl (idxRg g _ _ t.length (by rw [List.length_cons]; omega) _ _ rfl rfl rfl _) ?_
            simp only [aP, lI, l0, lS]
            refine readL (.pointer (some ⟨g, t.length * 2, none⟩)) rfl (by kernel_rfl) ?_
            simp only [aP, lI, l0, lS]
            refine readL (.int .i64 a) rfl (load1 3 _ ⟨g, t.length * 2, none⟩ _ rfl rfl (fun _ => by kernel_rfl) (by have h_ := World.ownsRow.cells V (g := g) rfl _ _ (wrc_last t a b); rw [Addr.add_mid, Nat.zero_add] at h_; exact h_)) ?_
            simp only [aP, lI, l0, lS]
            refine readL (.int .i64 m) rfl (by kernel_rfl) ?_
            simp only [aP, lI, l0, lS]
            refine readL (.int .i64 (m + 1)) rfl (addI .i64 _ _ _ _ _ _ _ rfl rfl rfl (by rw [IntKind.wrap_i64]; omega) _) ?_
            simp only [aP, lI, l0, lS]
            refine readL (.bool false) rfl (eqlI .i64 _ _ _ _ _ _ rfl rfl rfl false (by rw [beq_eq_false_iff_ne]; exact ha) _) ?_
            simp only [aP, lI, l0, lS]
            refine readL (.bool false) rfl (by kernel_rfl) ?_
            simp only [aP, lI, l0, lS]
            refine readL (.bool false) rfl (by kernel_rfl) ?_
            simp only [aP, lI, l0, lS]
            first | show Exit.then _ _ _ _ _ | show Exit.inBlock _ _ _ _ _
            by_cases hmo : most ≤ (((a, b) :: t).length : Int)
            · go_upto_region 11 with fail
              refine wp_region_list ?_
              refine readL (.slice (some ⟨g, 0, none⟩) (((a, b) :: t).length) cap) rfl (by kernel_rfl) ?_
              simp only [aP, lI, l0, lS]
              refine readL (.int .i64 ((((a, b) :: t).length : Nat) : Int)) rfl (lenS _ 33 36 (some ⟨g, 0, none⟩) (((a, b) :: t).length) cap rfl Try.underlying33 rfl _) ?_
              simp only [aP, lI, l0, lS]
              refine readL (.int .i64 most) rfl (by kernel_rfl) ?_
              simp only [aP, lI, l0, lS]
              refine readL (.bool true) rfl (geqI .i64 _ _ _ _ _ _ rfl rfl rfl true (decide_eq_true (hmo)) _) ?_
              simp only [aP, lI, l0, lS]
              refine readL (.bool true) rfl (by kernel_rfl) ?_
              simp only [aP, lI, l0, lS]
              first | show Exit.then _ _ _ _ _ | show Exit.inBlock _ _ _ _ _
              go_upto_region 13 with fail
              refine wp_region_list ?_
              refine readL (.slice (some ⟨g, 0, none⟩) (((a, b) :: t).length) cap) rfl (by kernel_rfl) ?_
              simp only [aP, lI, l0, lS]
              refine callL rfl (fun _ => by kernel_rfl) (vrev_any w _ ((a, b) :: t).reverse _ (by rw [List.length_reverse]; omega) hB (by rw [List.length_reverse]; exact V)) ?_
              rintro e w10 ⟨rfl, N, hB'⟩
              clear M hB V
              refine ⟨_, rfl, ?_⟩
              simp only [aP, lI, l0, lS]
              first | show Exit.then _ _ _ _ _ | show Exit.inBlock _ _ _ _ _
              go_upto_region 14 with fail
              refine wp_region_list ?_
              refine readL (.slice (some ⟨g, 0, none⟩) (((a, b) :: t).length) cap) rfl (by kernel_rfl) ?_
              simp only [aP, lI, l0, lS]
              refine readL (.slice (some ⟨g, 0, none⟩) (((a, b) :: t).length) cap) rfl (by kernel_rfl) ?_
              simp only [aP, lI, l0, lS]
              first | show Exit.then _ _ _ _ _ | show Exit.inBlock _ _ _ _ _
              have hE := show Hid _ from (hbel.out.symm.trans (wbl_full hn (by rw [hnx]; exact wput_full ha hmo)))
              rw [List.reverse_reverse] at N
              have HS := show Hid _ from (And.intro N hB')
              clear N hB' hW hL
              go_wp2
              try rw [Exit.noGoto_ret]
              go_ret
              exact ⟨⟨_, rfl, by rw [hE.out]; exact HS.out.1⟩, HS.out.2⟩
            · go_upto_region 11 with fail
              refine wp_region_list ?_
              refine readL (.slice (some ⟨g, 0, none⟩) (((a, b) :: t).length) cap) rfl (by kernel_rfl) ?_
              simp only [aP, lI, l0, lS]
              refine readL (.int .i64 ((((a, b) :: t).length : Nat) : Int)) rfl (lenS _ 33 36 (some ⟨g, 0, none⟩) (((a, b) :: t).length) cap rfl Try.underlying33 rfl _) ?_
              simp only [aP, lI, l0, lS]
              refine readL (.int .i64 most) rfl (by kernel_rfl) ?_
              simp only [aP, lI, l0, lS]
              refine readL (.bool false) rfl (geqI .i64 _ _ _ _ _ _ rfl rfl rfl false (decide_eq_false (hmo)) _) ?_
              simp only [aP, lI, l0, lS]
              refine readL (.bool false) rfl (by kernel_rfl) ?_
              simp only [aP, lI, l0, lS]
              first | show Exit.then _ _ _ _ _ | show Exit.inBlock _ _ _ _ _
              go_upto_region 7 with fail
              refine wp_region_list ?_
              refine readL (.slice (some ⟨g, 0, none⟩) (((a, b) :: t).length) cap) rfl (by kernel_rfl) ?_
              simp only [aP, lI, l0, lS]
              refine readL (.int .i64 m) rfl (by kernel_rfl) ?_
              simp only [aP, lI, l0, lS]
              refine readL (.int .i64 m) rfl (by kernel_rfl) ?_
              simp only [aP, lI, l0, lS]
              refine readL (.int .i64 (m + 1)) rfl (addI .i64 _ _ _ _ _ _ _ rfl rfl rfl (by rw [IntKind.wrap_i64]; omega) _) ?_
              simp only [aP, lI, l0, lS]
              refine readL (.agg #[.int .i64 m, .int .i64 (m + 1)]) rfl (by kernel_rfl) ?_
              simp only [aP, lI, l0, lS]
              have S_1 := World.ownsRow.cells (row_lit w5 w5.heap.size m (m + 1) (Nat.le_refl _)) (g := w5.heap.size) rfl
              have hlb := (Below.refl w5.heap.size w5).alloc (Nat.le_refl _) (.cells #[.int .i64 m, .int .i64 (m + 1)] 36)
              refine actL (w' := w5.alloc (.cells #[.int .i64 m, .int .i64 (m + 1)] 36)) (.slice (some ⟨w5.heap.size, 0, none⟩) 1 1) rfl (by kernel_rfl) ?_
              simp only [aP, lI, l0, lS]
              replace M := M.call hlb
              replace hB := hB.trans (hlb.mono hB.size)
              replace V := ownsRow_low (X := []) V (Off.of_below hlb) (fun _ h => by cases h)
              clear hlb
              generalize w5.alloc (.cells #[.int .i64 m, .int .i64 (m + 1)] 36) = w11 at M hB V S_1 ⊢
              generalize w5.heap.size = bz at S_1 ⊢
              obtain ⟨v2, w12, hr, V2, hgr, hg2⟩ := run_append_OwnV (P := Try.prog) (ty := 33) Try.underlying33 manyW rfl (by decide) V ⟨bz, 0, none⟩ 1 1 [.int .i64 m, .int .i64 (m + 1)] rfl S_1 (wrc_one [(m, m + 1)]) (by unfold maxLen; omega) (by omega) hB.size
              have hlo : ∀ b_, (.slice (some ⟨g, 0, none⟩) (((a, b) :: t).length) cap : Value).ownBlock = some b_ → w.heap.size ≤ b_ := fun b_ hb_ => (World.ownsRow.lt V b_ hb_).1
              replace M := M.grown hgr w.heap.size hML hM0 hB.size hlo
              replace hB := Below.grown hB hgr hB.size hlo
              refine actL v2 rfl (appendOp _ _ 33 _ _ _ rfl rfl rfl hr) ?_
              simp only [aP, lI, l0, lS]
              replace V2 : w12.ownsRow w.heap.size 36 2 v2 ((m, m + 1) :: ((a, b) :: t)).length (wrc (((m, m + 1) :: ((a, b) :: t)).reverse)) := by rw [List.reverse_cons, wrc_app]; exact V2
              clear hr hgr hg2 V S_1 hlo
              refine readL (v2) rfl (by kernel_rfl) ?_
              simp only [aP, lI, l0, lS]
              first | show Exit.then _ _ _ _ _ | show Exit.inBlock _ _ _ _ _
              have hk2 := show Hid _ from ((by have h_ := (wbl_more (k := k) hn (by rw [hnx]; exact wput_new ha hmo)).symm.trans hbel.out; rw [hnx] at h_; exact h_ : wbl L most k ((m, m + 1) :: (a, b) :: t) m = wbel L most))
              have HS := show Hid _ from (And.intro V2 (And.intro M hB))
              clear M hB V2 hW hL
              go_wp2
              go_roundw
              case rel => exact ⟨j + 1, k, ((m, m + 1) :: (a, b) :: t), _, by omega, by go_num, by simp only [List.length_cons] at hrl ⊢; omega, by rw [hlt1]; omega, by rw [hlt1]; exact hk2.out, rfl, HS.out⟩
              case measure => simp [intOf]; omega
      · go_upto_region 3 with fail
        refine wp_region_list ?_
        refine readL (.bool true) rfl (lssI .i64 _ _ _ _ _ _ rfl rfl rfl true (decide_eq_true (by omega)) _) ?_
        simp only [aP, lI, l0, lS]
        first | show Exit.then _ _ _ _ _ | show Exit.inBlock _ _ _ _ _
        go_upto_region 4 with fail
        refine wp_region_list ?_
        refine readL (.int .i64 (j : Int)) rfl (by kernel_rfl) ?_
        simp only [aP, lI, l0, lS]
        refine readL (.int .i64 (j : Int)) rfl (by kernel_rfl) ?_
        simp only [aP, lI, l0, lS]
        first | show Exit.then _ _ _ _ _ | show Exit.inBlock _ _ _ _ _
        go_upto_region 5 with fail
        refine wp_region_list ?_
        refine readL (.pointer (some ⟨R, 0, none⟩)) rfl (by kernel_rfl) ?_
        simp only [aP, lI, l0, lS]
        refine callL rfl (fun _ => by kernel_rfl) (vtop14_any w0 _ R _ (wtop L) W hT1 hT2 M) ?_
        rintro e w2 ⟨rfl, l1⟩
        replace M := M.call l1
        replace hB := hB.trans (l1.mono hB.size)
        replace V := ownsRow_low (X := []) V (Off.of_below l1) (fun _ h => by cases h)
        clear l1
        refine ⟨_, rfl, ?_⟩
        simp only [aP, lI, l0, lS]
        refine readL (.int .i64 ((wtop L) - 1)) rfl (subI .i64 _ _ _ _ _ _ _ rfl rfl rfl (by rw [IntKind.wrap_i64]; omega) _) ?_
        simp only [aP, lI, l0, lS]
        refine readL (.int .i64 (j : Int)) rfl (by kernel_rfl) ?_
        simp only [aP, lI, l0, lS]
        refine readL (.int .i64 m) rfl (subI .i64 _ _ _ _ _ _ _ rfl rfl rfl (by rw [IntKind.wrap_i64]; omega) _) ?_
        simp only [aP, lI, l0, lS]
        refine readL (.int .i64 m) rfl (by kernel_rfl) ?_
        simp only [aP, lI, l0, lS]
        first | show Exit.then _ _ _ _ _ | show Exit.inBlock _ _ _ _ _
        go_upto_region 6 with fail
        refine wp_region_list ?_
        refine readL (.slice sp rl.length cap) rfl (by kernel_rfl) ?_
        simp only [aP, lI, l0, lS]
        refine readL (.int .i64 ((rl.length : Nat) : Int)) rfl (lenS _ 33 36 sp rl.length cap rfl Try.underlying33 rfl _) ?_
        simp only [aP, lI, l0, lS]
        refine readL (.int .i64 (((rl.length : Nat) : Int) - 1)) rfl (subI .i64 _ _ _ _ _ _ _ rfl rfl rfl (by rw [IntKind.wrap_i64]; omega) _) ?_
        simp only [aP, lI, l0, lS]
        refine readL (.int .i64 (((rl.length : Nat) : Int) - 1)) rfl (by kernel_rfl) ?_
        simp only [aP, lI, l0, lS]
        first | show Exit.then _ _ _ _ _ | show Exit.inBlock _ _ _ _ _
        go_upto_region 8 with fail
        refine wp_region_list ?_
        refine readL (.pointer (some ⟨R, 0, none⟩)) rfl (by kernel_rfl) ?_
        simp only [aP, lI, l0, lS]
        refine readL (.int .i64 m) rfl (by kernel_rfl) ?_
        simp only [aP, lI, l0, lS]
        refine callL rfl (fun _ => by kernel_rfl) (vmarked_any w0 _ R _ (wtop L) W hT1 hT2 hW.lt m (j + 1) (by omega) (by omega) false ((hW.at (show wtop L - m = ((j + 1 : Nat) : Int) by omega) (by omega)).trans (decide_eq_false hi)) M) ?_
        rintro e w3 ⟨rfl, l1⟩
        replace M := M.call l1
        replace hB := hB.trans (l1.mono hB.size)
        replace V := ownsRow_low (X := []) V (Off.of_below l1) (fun _ h => by cases h)
        clear l1
        refine ⟨_, rfl, ?_⟩
        simp only [aP, lI, l0, lS]
        refine readL (.bool true) rfl (by kernel_rfl) ?_
        simp only [aP, lI, l0, lS]
        refine readL (.bool true) rfl (by kernel_rfl) ?_
        simp only [aP, lI, l0, lS]
        first | show Exit.then _ _ _ _ _ | show Exit.inBlock _ _ _ _ _
        have hsk := wnx_skip (L := L) (last := wtop L - (j : Int)) (fun h => hi (by rw [hm]; exact h.1))
        rw [← hm] at hsk
        have hwl := wlt_mono (show m ≤ wtop L - (j : Int) by omega) L
        have hmm : m = wtop L - (j : Int) - 1 := hm
        have hk2 := show Hid _ from ((by rw [hm]; exact (wbl_skip (by rw [← hm]; exact hsk)).symm.trans hbel.out : wbl L most (k + 1) rl m = wbel L most))
        have HS := show Hid _ from (And.intro V (And.intro M hB))
        clear M hB V hW hL
        go_wp2
        go_roundw
        case rel => exact ⟨j + 1, k + 1, rl, _, by omega, by go_num, by omega, by rw [hlt1]; omega, by rw [hlt1]; exact hk2.out, rfl, HS.out⟩
        case measure => simp [intOf]; omega
    · obtain rfl : j = 1023 := by omega
      go_upto_region 3 with fail
      refine wp_region_list ?_
      refine readL (.bool false) rfl (lssI .i64 _ _ _ _ _ _ rfl rfl rfl false (decide_eq_false (by omega)) _) ?_
      simp only [aP, lI, l0, lS]
      first | show Exit.then _ _ _ _ _ | show Exit.inBlock _ _ _ _ _
      go_upto_region 13 with fail
      refine wp_region_list ?_
      refine readL (.slice sp rl.length cap) rfl (by kernel_rfl) ?_
      simp only [aP, lI, l0, lS]
      refine callL rfl (fun _ => by kernel_rfl) (vrev_any w _ rl.reverse _ (by rw [List.length_reverse]; omega) hB (by rw [List.length_reverse]; exact V)) ?_
      rintro e w1 ⟨rfl, N, hB'⟩
      clear M hB V
      refine ⟨_, rfl, ?_⟩
      simp only [aP, lI, l0, lS]
      first | show Exit.then _ _ _ _ _ | show Exit.inBlock _ _ _ _ _
      go_upto_region 14 with fail
      refine wp_region_list ?_
      refine readL (.slice sp rl.length cap) rfl (by kernel_rfl) ?_
      simp only [aP, lI, l0, lS]
      refine readL (.slice sp rl.length cap) rfl (by kernel_rfl) ?_
      simp only [aP, lI, l0, lS]
      first | show Exit.then _ _ _ _ _ | show Exit.inBlock _ _ _ _ _
      have hE := show Hid _ from (hbel.out.symm.trans (wbl_stop (wnx_end (.inl (by omega)) hL)))
      rw [List.reverse_reverse] at N
      have HS := show Hid _ from (And.intro N hB')
      clear N hB' hW hL
      go_wp2
      try rw [Exit.noGoto_ret]
      go_ret
      exact ⟨⟨_, rfl, by rw [hE.out]; exact HS.out.1⟩, HS.out.2⟩
theorem vwin_any : WinOK VI where
  ptr := fun v L bs h => by obtain ⟨R, W, rfl, _⟩ := h; exact ⟨R, rfl⟩
  new := fun w0 w l M => vnew14_any w0 w l M
  chk := fun w0 w v L bs l n hL hn h M => by
    obtain ⟨R, W, rfl, hW, rfl⟩ := h
    exact vcheck14_any w0 w R l L W hL hW n hn M
  mrk := fun w0 w v L bs l n hL _ hn h M => by
    obtain ⟨R, W, rfl, hW, rfl⟩ := h
    refine (vmark14_any w0 w R l L W hL hW n hn M).mono ?_
    rintro e w' ⟨rfl, V, hV, M', o1⟩
    exact ⟨rfl, [(R, wcv (wtop (wmk L n)) V)], ⟨R, V, rfl, hV, rfl⟩, fun p hp => by obtain rfl := List.mem_singleton.1 hp; exact .inl mS, M', o1⟩
  top := fun w0 w v L bs l hL h M => by
    obtain ⟨R, W, rfl, hW, rfl⟩ := h
    exact vtop14_any w0 w R l (wtop L) W (wtop_ge L) (wtop_max hL) M
  cnt := fun w0 w v L bs l hL h M => by
    obtain ⟨R, W, rfl, hW, rfl⟩ := h
    exact vcount_any w0 w R l L W hL hW M
  bel := fun w0 w v L bs l most hL _ h M => by
    obtain ⟨R, W, rfl, hW, rfl⟩ := h
    exact vbelow14_any w0 w R l L W hL hW most M
section
open Go.ChangeShapes Go.WideShapes Go.ChangeAt Go.WideMaps Go.WideElems Go.RowKit
section
variable {H : Type} {enc : TypeId × Value → H} {P : Program} {w : World} {base : Nat} {sp : Nat → Bool} {held : Bool}
end
theorem wf_i64 {n : Int} : (Lit.int .i64 n).wf = true ↔ -9223372036854775808 ≤ n ∧ n ≤ 9223372036854775807 := by
  simp [Lit.wf, IntKind.min, IntKind.max, IntKind.signed, IntKind.bits]
end
section
open Go.ChangeShapes Go.WideShapes Go.ChangeAt Go.WideMaps Go.WideElems Go.RowKit
theorem own : ownKnob Try.prog.godebug = none := by kernel_rfl
theorem cellsInt : Try.prog.cellsOf 3 = 1 := by kernel_rfl
theorem laidOut : laidOutB Try.prog = true := by kernel_rfl
structure Fit (H : Type) (Q : TypeId → DataW H → Prop) (m : Nat) : Prop where
  ints : ∀ a b, Q 22 (.slice a b) → a.length ≤ m
theorem i64_of {n : Int} (h : (Lit.int .i64 n).wf = true) : i64 n := by have := wf_i64.1 h; unfold i64; omega
def Wok {H : Type} (t : TypeId) (d : DataW H) : Prop := ∀ n ∈ d.weights Try.prog t, n ≤ reachBytes
theorem fitWok (H : Type) : Fit H Wok 140737488351232 where
  ints a b h := by
    have h1 := h ((a.length + b.length) * Try.prog.bytesOf 3) (by simp only [DataW.weights, Try.underlying22]; exact mS)
    rw [show Try.prog.bytesOf 3 = 8 by kernel_rfl] at h1
    simp only [reachBytes] at h1
    omega
section
variable {H : Type} {enc : TypeId × Value → H} {W : World} {Q : TypeId → DataW H → Prop} {m : Nat}
theorem again {t : TypeId} (hr : Try.prog.readableRec t = true) (hrow : t < Try.prog.types.size) {v : Value} {d : DataW H} {p : List MemPlace} (h : DataW.Trod enc Try.prog W 0 (fun _ => true) true t v d p) (W' : World) (hb : Below W.heap.size W W') : DataW.Trod enc Try.prog W' 0 (fun b => decide (b < W.heap.size)) true t v d p :=
  hb.trod laidOut hr hrow h (by obtain ⟨fuel, hf⟩ := h; exact fun x hx => DataW.trod_lt _ _ _ _ hf x hx)
theorem open_nums (F : Fit H Q m) {fuel : Nat} {cs : List Value} {x : DataW H × List MemPlace} (h : DataW.trod enc Try.prog W 0 (fun _ => true) true fuel 22 cs = some x) (hq : Q 22 x.1) :
    ∃ (sp : Option Addr) (cap : Nat) (l : List Int), cs = [.slice sp l.length cap] ∧ (SrcI W sp l.length (bl l) ∧ ∀ x ∈ l, i64 x) ∧ l.length ≤ cap ∧ (sp = none → cap = 0) ∧ l.length ≤ m := by
  rcases open_ints Try.underlying22 Try.underlying3 cellsInt h with ⟨rfl, rfl⟩ | ⟨ad, len, cap, zs, rfl, _, hle, hmax, hall, rfl, hcell, hwf⟩
  · exact ⟨none, 0, [], rfl, ⟨fun j hj => absurd hj (Nat.not_lt_zero j), fun x hx => (by cases hx)⟩, Nat.le_refl _, fun _ => rfl, Nat.zero_le _⟩
  · simp only [if_true] at hall
    have hm := F.ints _ _ hq
    simp only [lits, List.length_map, List.length_take] at hm
    have hl : (zs.take len).length = len := by rw [List.length_take]; omega
    refine ⟨some ad, cap, zs.take len, by rw [hl], ⟨fun j hj => ⟨ad, rfl, ?_⟩, fun y hy => i64_of (hwf y (List.mem_of_mem_take hy))⟩, by rw [hl]; exact hle, fun e => (by cases e), by rw [hl]; omega⟩
    rw [hl] at hj
    rw [bl_take _ _ _ hj]
    exact hcell j (by omega)
theorem arg_ints (F : Fit H Q m) {r : Reach} {b0 : Nat} {v : Value} {d : DataW H} {p : List MemPlace} (hv : Value.okWide Try.prog W r b0 22 v) (h : DataW.Trod enc Try.prog W 0 (fun _ => true) true 22 v d p) (hq : Q 22 d) :
    ∃ (sp : Option Addr) (cap : Nat) (l : List Int), v = .slice sp l.length cap ∧ (SrcI W sp l.length (bl l) ∧ ∀ x ∈ l, i64 x) ∧ l.length ≤ cap ∧ (sp = none → cap = 0) ∧ l.length ≤ m := by
  obtain ⟨sp, len, cap, rfl⟩ := okWide_slice Try.underlying22 hv
  obtain ⟨fuel, hf⟩ := h
  obtain ⟨sp', cap', l, h1, h2⟩ := open_nums F hf hq
  simp [Value.cells] at h1
  obtain ⟨rfl, rfl, rfl⟩ := h1
  exact ⟨_, _, l, rfl, h2⟩
end
end
end Go.Proofs.Ytglnmmajgedinaa
