/- Texts of Qp, joined. -/
import Derived.Test.YteaamgjlkohfcaaP1FramesBack
import Derived.Test.YteaamgjlkohfcaaP2FramesBack
namespace Go.Proofs.Yteaamgjlkohfcaa
open Go.RowKit

def inb (n a b : Int) : Bool := decide (n ≥ a) && decide (n ≤ b)
theorem inb_iff {n a b : Int} : inb n a b = true ↔ a ≤ n ∧ n ≤ b := by unfold inb; simp
theorem inb_and {x y : Bool} {n a b : Int} (h : (x && y) = true) (hx : x = inb n a b) : a ≤ n ∧ n ≤ b := by
  subst hx
  exact inb_iff.1 (Bool.and_eq_true_iff.1 h).1
def blk (a l : Int) (rn bn : Nat) (z : Nat → Int) : Bool := (((a == 0 && l == 0) && (((rn : Nat) : Int) == 0)) && (((bn : Nat) : Int) == 0)) && decide (val 256 z 8 = val 256 (fun _ => 0) 8)
def rup : List (Int × Int) → Int → Int → Bool
  | [], _, _ => true
  | p :: l, fr, up => !((decide (p.1 < fr) || decide (p.2 ≤ p.1)) || decide (p.2 > up)) && rup l (p.2 + 1) up
theorem rup_true : ∀ (l : List (Int × Int)) (fr up : Int), rup l (fr + 1) up = rok l fr true up
  | [], _, _ => rfl
  | p :: l, fr, up => by
    unfold rup rok
    rw [rup_true l p.2 up]
    congr 2
    rw [Bool.eq_iff_iff]
    simp
    omega
theorem rup_false (l : List (Int × Int)) (fr up : Int) : rup l fr up = rok l fr false up := by
  cases l with
  | nil => rfl
  | cons p l =>
    unfold rup rok
    rw [rup_true l p.2 up]
    congr 2
    rw [Bool.eq_iff_iff]
    simp
def rsg (l : List (Int × Int)) (fr up : Int) : Bool := decide (l.length ≤ 8) && rup l fr up
theorem rsg_true (l : List (Int × Int)) (fr up : Int) : rsg l (fr + 1) up = rise l fr true up := by unfold rsg rise; rw [rup_true, Bool.and_comm]
theorem rsg_false (l : List (Int × Int)) (fr up : Int) : rsg l fr up = rise l fr false up := by unfold rsg rise; rw [rup_false, Bool.and_comm]

set_option maxRecDepth 10000 in
set_option maxHeartbeats 32000000 in
theorem within_any (n least most : Int) (w : World) :
    Calls Try.prog 27 #[.int .i64 n, .int .i64 least, .int .i64 most] w fun e w' => e = .returned (.bool (inb n least most)) ∧ Below w.heap.size w w' := by
  have M := Mm.init w
  go_enter Try.func27, Try.ntmps27
  go_upto_region 0 with fail
  refine wp_region_list ?_
  refine readL (.bool false) rfl (by kernel_rfl) ?_
  simp only [aP, lI, l0, lS]
  first | show Exit.then _ _ _ _ _ | show Exit.inBlock _ _ _ _ _
  go_upto_region 1 with fail
  refine wp_region_list ?_
  refine readL (.int .i64 n) rfl (by kernel_rfl) ?_
  simp only [aP, lI, l0, lS]
  refine readL (.int .i64 least) rfl (by kernel_rfl) ?_
  simp only [aP, lI, l0, lS]
  obtain ⟨b1, hb1⟩ : ∃ y_, y_ = (decide (n ≥ least)) := ⟨_, rfl⟩
  refine readL (.bool b1) rfl (geqI .i64 _ _ _ _ _ _ rfl rfl rfl b1 hb1.symm _) ?_
  simp only [aP, lI, l0, lS]
  refine readL (.bool b1) rfl (by kernel_rfl) ?_
  simp only [aP, lI, l0, lS]
  refine mayL (b1) (.int .i64 n) ((bif b1 then (.int .i64 n) else undef)) (by cases b1 <;> rfl) (by cases b1 <;> rfl) (fun hc => by cases b1 <;> first | (cases hc; done) | kernel_rfl) ?_
  simp only [aP, lI, l0, lS]
  refine mayL (b1) (.int .i64 most) ((bif b1 then (.int .i64 most) else undef)) (by cases b1 <;> rfl) (by cases b1 <;> rfl) (fun hc => by cases b1 <;> first | (cases hc; done) | kernel_rfl) ?_
  simp only [aP, lI, l0, lS]
  obtain ⟨b2, hb2⟩ : ∃ y_, y_ = (decide (n ≤ most)) := ⟨_, rfl⟩
  refine mayL (b1) (.bool b2) ((bif b1 then (.bool b2) else undef)) (by cases b1 <;> rfl) (by cases b1 <;> rfl) (fun hc => by cases b1 <;> first | (cases hc; done) | exact (leqI .i64 _ _ _ _ _ _ rfl rfl rfl b2 hb2.symm _)) ?_
  simp only [aP, lI, l0, lS]
  obtain ⟨b3, hb3⟩ : ∃ y_, y_ = (b1 && b2) := ⟨_, rfl⟩
  refine readL (.bool b3) rfl (by subst hb3; cases b1 <;> rfl) ?_
  simp only [aP, lI, l0, lS]
  refine readL (.bool b3) rfl (by kernel_rfl) ?_
  simp only [aP, lI, l0, lS]
  first | show Exit.then _ _ _ _ _ | show Exit.inBlock _ _ _ _ _
  have hK := show Hid _ from (show b3 = inb n least most by simp only [hb1, hb2, hb3]; rfl)
  try clear hb1
  try clear hb2
  try clear hb3
  go_wp2
  go_ret
  exact ⟨by rw [← hK.out] <;> rfl, M.below⟩

set_option maxRecDepth 10000 in
set_option maxHeartbeats 32000000 in
theorem blank_any (a l : Int) (rp : Option Addr) (rn rc : Nat) (bp : Option Addr) (bn bc : Nat) (z : Nat → Int) (hz : In 256 8 z) (w : World) :
    Calls Try.prog 28 #[.agg #[.int .i64 0, .int .i64 a, .int .i64 l, .slice rp rn rc, .slice bp bn bc, .int .u8 (z 0), .int .u8 (z 1), .int .u8 (z 2), .int .u8 (z 3), .int .u8 (z 4), .int .u8 (z 5), .int .u8 (z 6), .int .u8 (z 7)]] w fun e w' => e = .returned (.bool (blk a l rn bn z)) ∧ Below w.heap.size w w' := by
  have M := Mm.init w
  go_enter Try.func28, Try.ntmps28
  go_upto_region 0 with fail
  refine wp_region_list ?_
  refine actL (w' := w.alloc (.cells #[.int .i64 0, .int .i64 a, .int .i64 l, .slice rp rn rc, .slice bp bn bc, .int .u8 (z 0), .int .u8 (z 1), .int .u8 (z 2), .int .u8 (z 3), .int .u8 (z 4), .int .u8 (z 5), .int .u8 (z 6), .int .u8 (z 7)] 26)) (.pointer (some ⟨w.heap.size, 0, none⟩)) rfl (by kernel_rfl) ?_
  simp only [aP, lI, l0, lS]
  have hB_B1 : w.heap.size ≤ w.heap.size := M.below.size
  replace M := M.box #[.int .i64 0, .int .i64 a, .int .i64 l, .slice rp rn rc, .slice bp bn bc, .int .u8 (z 0), .int .u8 (z 1), .int .u8 (z 2), .int .u8 (z 3), .int .u8 (z 4), .int .u8 (z 5), .int .u8 (z 6), .int .u8 (z 7)] 26 w.heap.size rfl
  generalize w.alloc (.cells #[.int .i64 0, .int .i64 a, .int .i64 l, .slice rp rn rc, .slice bp bn bc, .int .u8 (z 0), .int .u8 (z 1), .int .u8 (z 2), .int .u8 (z 3), .int .u8 (z 4), .int .u8 (z 5), .int .u8 (z 6), .int .u8 (z 7)] 26) = w1 at M  ⊢
  generalize eB : w.heap.size = B1 at M hB_B1 ⊢
  have hE_B1 : w.heap.size ≤ B1 := Nat.le_of_eq eB
  have hF_B1 : B1 ≤ w.heap.size := Nat.le_of_eq eB.symm
  clear eB
  replace M : Mm w ([(B1, [.int .i64 0, .int .i64 a, .int .i64 l, .slice rp rn rc, .slice bp bn bc, .int .u8 (z 0), .int .u8 (z 1), .int .u8 (z 2), .int .u8 (z 3), .int .u8 (z 4), .int .u8 (z 5), .int .u8 (z 6), .int .u8 (z 7)])]) w1 := M
  refine readL (.bool false) rfl (by kernel_rfl) ?_
  simp only [aP, lI, l0, lS]
  first | show Exit.then _ _ _ _ _ | show Exit.inBlock _ _ _ _ _
  obtain ⟨b1, hb1⟩ : ∃ y_, y_ = (decide (val 256 z 8 = val 256 (fun _ => 0) 8)) := ⟨_, rfl⟩
  go_upto_region 1 with fail
  refine wp_region_list ?_
  refine readL (.pointer (some ⟨B1, 1, none⟩)) rfl (by kernel_rfl) ?_
  simp only [aP, lI, l0, lS]
  refine readL (.int .i64 a) rfl (load1 3 _ ⟨B1, 1, none⟩ _ rfl rfl (fun _ => by kernel_rfl) (M.get List.mem_cons_self 1 _ rfl)) ?_
  simp only [aP, lI, l0, lS]
  obtain ⟨b2, hb2⟩ : ∃ y_, y_ = ((a : Int) == (0 : Int)) := ⟨_, rfl⟩
  refine readL (.bool b2) rfl (eqlI .i64 _ _ _ _ _ _ rfl rfl rfl b2 hb2.symm _) ?_
  simp only [aP, lI, l0, lS]
  refine readL (.bool b2) rfl (by kernel_rfl) ?_
  simp only [aP, lI, l0, lS]
  refine mayL (b2) (.pointer (some ⟨B1, 2, none⟩)) ((bif b2 then (.pointer (some ⟨B1, 2, none⟩)) else undef)) (by cases b2 <;> rfl) (by cases b2 <;> rfl) (fun hc => by cases b2 <;> first | (cases hc; done) | kernel_rfl) ?_
  simp only [aP, lI, l0, lS]
  refine mayL (b2) (.int .i64 l) ((bif b2 then (.int .i64 l) else undef)) (by cases b2 <;> rfl) (by cases b2 <;> rfl) (fun hc => by cases b2 <;> first | (cases hc; done) | exact (load1 3 _ ⟨B1, 2, none⟩ _ rfl rfl (fun _ => by kernel_rfl) (M.get List.mem_cons_self 2 _ rfl))) ?_
  simp only [aP, lI, l0, lS]
  obtain ⟨b3, hb3⟩ : ∃ y_, y_ = ((l : Int) == (0 : Int)) := ⟨_, rfl⟩
  refine mayL (b2) (.bool b3) ((bif b2 then (.bool b3) else undef)) (by cases b2 <;> rfl) (by cases b2 <;> rfl) (fun hc => by cases b2 <;> first | (cases hc; done) | exact (eqlI .i64 _ _ _ _ _ _ rfl rfl rfl b3 hb3.symm _)) ?_
  simp only [aP, lI, l0, lS]
  obtain ⟨b4, hb4⟩ : ∃ y_, y_ = (b2 && b3) := ⟨_, rfl⟩
  refine readL (.bool b4) rfl (by subst hb4; cases b2 <;> rfl) ?_
  simp only [aP, lI, l0, lS]
  refine readL (.bool b4) rfl (by kernel_rfl) ?_
  simp only [aP, lI, l0, lS]
  refine mayL (b4) (.pointer (some ⟨B1, 3, none⟩)) ((bif b4 then (.pointer (some ⟨B1, 3, none⟩)) else undef)) (by cases b4 <;> rfl) (by cases b4 <;> rfl) (fun hc => by cases b4 <;> first | (cases hc; done) | kernel_rfl) ?_
  simp only [aP, lI, l0, lS]
  refine mayL (b4) (.slice rp rn rc) ((bif b4 then (.slice rp rn rc) else undef)) (by cases b4 <;> rfl) (by cases b4 <;> rfl) (fun hc => by cases b4 <;> first | (cases hc; done) | exact (load1 22 _ ⟨B1, 3, none⟩ _ rfl rfl (fun _ => by kernel_rfl) (M.get List.mem_cons_self 3 _ rfl))) ?_
  simp only [aP, lI, l0, lS]
  refine mayL (b4) (.int .i64 ((rn : Nat) : Int)) ((bif b4 then (.int .i64 ((rn : Nat) : Int)) else undef)) (by cases b4 <;> rfl) (by cases b4 <;> rfl) (fun hc => by cases b4 <;> first | (cases hc; done) | exact (lenS _ 22 43 rp rn rc rfl Try.underlying22 rfl _)) ?_
  simp only [aP, lI, l0, lS]
  obtain ⟨b5, hb5⟩ : ∃ y_, y_ = ((((rn : Nat) : Int) : Int) == (0 : Int)) := ⟨_, rfl⟩
  refine mayL (b4) (.bool b5) ((bif b4 then (.bool b5) else undef)) (by cases b4 <;> rfl) (by cases b4 <;> rfl) (fun hc => by cases b4 <;> first | (cases hc; done) | exact (eqlI .i64 _ _ _ _ _ _ rfl rfl rfl b5 hb5.symm _)) ?_
  simp only [aP, lI, l0, lS]
  obtain ⟨b6, hb6⟩ : ∃ y_, y_ = (b4 && b5) := ⟨_, rfl⟩
  refine readL (.bool b6) rfl (by subst hb6; cases b4 <;> rfl) ?_
  simp only [aP, lI, l0, lS]
  refine readL (.bool b6) rfl (by kernel_rfl) ?_
  simp only [aP, lI, l0, lS]
  refine mayL (b6) (.pointer (some ⟨B1, 4, none⟩)) ((bif b6 then (.pointer (some ⟨B1, 4, none⟩)) else undef)) (by cases b6 <;> rfl) (by cases b6 <;> rfl) (fun hc => by cases b6 <;> first | (cases hc; done) | kernel_rfl) ?_
  simp only [aP, lI, l0, lS]
  refine mayL (b6) (.slice bp bn bc) ((bif b6 then (.slice bp bn bc) else undef)) (by cases b6 <;> rfl) (by cases b6 <;> rfl) (fun hc => by cases b6 <;> first | (cases hc; done) | exact (load1 23 _ ⟨B1, 4, none⟩ _ rfl rfl (fun _ => by kernel_rfl) (M.get List.mem_cons_self 4 _ rfl))) ?_
  simp only [aP, lI, l0, lS]
  refine mayL (b6) (.int .i64 ((bn : Nat) : Int)) ((bif b6 then (.int .i64 ((bn : Nat) : Int)) else undef)) (by cases b6 <;> rfl) (by cases b6 <;> rfl) (fun hc => by cases b6 <;> first | (cases hc; done) | exact (lenS _ 23 5 bp bn bc rfl Try.underlying23 rfl _)) ?_
  simp only [aP, lI, l0, lS]
  obtain ⟨b7, hb7⟩ : ∃ y_, y_ = ((((bn : Nat) : Int) : Int) == (0 : Int)) := ⟨_, rfl⟩
  refine mayL (b6) (.bool b7) ((bif b6 then (.bool b7) else undef)) (by cases b6 <;> rfl) (by cases b6 <;> rfl) (fun hc => by cases b6 <;> first | (cases hc; done) | exact (eqlI .i64 _ _ _ _ _ _ rfl rfl rfl b7 hb7.symm _)) ?_
  simp only [aP, lI, l0, lS]
  obtain ⟨b8, hb8⟩ : ∃ y_, y_ = (b6 && b7) := ⟨_, rfl⟩
  refine readL (.bool b8) rfl (by subst hb8; cases b6 <;> rfl) ?_
  simp only [aP, lI, l0, lS]
  refine readL (.bool b8) rfl (by kernel_rfl) ?_
  simp only [aP, lI, l0, lS]
  refine mayL (b8) (.pointer (some ⟨B1, 5, none⟩)) ((bif b8 then (.pointer (some ⟨B1, 5, none⟩)) else undef)) (by cases b8 <;> rfl) (by cases b8 <;> rfl) (fun hc => by cases b8 <;> first | (cases hc; done) | kernel_rfl) ?_
  simp only [aP, lI, l0, lS]
  refine mayL (b8) (.agg #[.int .u8 (z 0), .int .u8 (z 1), .int .u8 (z 2), .int .u8 (z 3), .int .u8 (z 4), .int .u8 (z 5), .int .u8 (z 6), .int .u8 (z 7)]) ((bif b8 then (.agg #[.int .u8 (z 0), .int .u8 (z 1), .int .u8 (z 2), .int .u8 (z 3), .int .u8 (z 4), .int .u8 (z 5), .int .u8 (z 6), .int .u8 (z 7)]) else undef)) (by cases b8 <;> rfl) (by cases b8 <;> rfl) (fun hc => by cases b8 <;> first | (cases hc; done) | exact (loadN 24 _ ⟨B1, 5, none⟩ [.int .u8 (z 0), .int .u8 (z 1), .int .u8 (z 2), .int .u8 (z 3), .int .u8 (z 4), .int .u8 (z 5), .int .u8 (z 6), .int .u8 (z 7)] rfl rfl (fun _ => by kernel_rfl) (fun _ => by kernel_rfl) (M.part List.mem_cons_self 5 _ rfl))) ?_
  simp only [aP, lI, l0, lS]
  refine mayL (b8) (.agg #[.int .u8 0, .int .u8 0, .int .u8 0, .int .u8 0, .int .u8 0, .int .u8 0, .int .u8 0, .int .u8 0]) ((bif b8 then (.agg #[.int .u8 0, .int .u8 0, .int .u8 0, .int .u8 0, .int .u8 0, .int .u8 0, .int .u8 0, .int .u8 0]) else undef)) (by cases b8 <;> rfl) (by cases b8 <;> rfl) (fun hc => by cases b8 <;> first | (cases hc; done) | kernel_rfl) ?_
  simp only [aP, lI, l0, lS]
  refine mayL (b8) (.bool b1) ((bif b8 then (.bool b1) else undef)) (by cases b8 <;> rfl) (by cases b8 <;> rfl) (fun hc => by cases b8 <;> first | (cases hc; done) | exact (eqlV 8 z (fun _ => 0) 24 5 _ _ _ rfl rfl rfl Try.underlying24 Try.underlying5 (fun _ => by kernel_rfl) (by kernel_rfl) hz (fun _ _ => ⟨Int.le_refl _, show (0 : Int) < 256 by decide⟩) b1 hb1.symm _)) ?_
  simp only [aP, lI, l0, lS]
  obtain ⟨b9, hb9⟩ : ∃ y_, y_ = (b8 && b1) := ⟨_, rfl⟩
  refine readL (.bool b9) rfl (by subst hb9; cases b8 <;> rfl) ?_
  simp only [aP, lI, l0, lS]
  refine readL (.bool b9) rfl (by kernel_rfl) ?_
  simp only [aP, lI, l0, lS]
  first | show Exit.then _ _ _ _ _ | show Exit.inBlock _ _ _ _ _
  have hK := show Hid _ from (show b9 = blk a l rn bn z by simp only [hb1, hb2, hb3, hb4, hb5, hb6, hb7, hb8, hb9]; rfl)
  try clear hb1
  try clear hb2
  try clear hb3
  try clear hb4
  try clear hb5
  try clear hb6
  try clear hb7
  try clear hb8
  try clear hb9
  go_wp2
  go_ret
  exact ⟨by rw [← hK.out] <;> rfl, M.below⟩

set_option maxRecDepth 10000 in
set_option maxHeartbeats 32000000 in
theorem rising_any (sp : Option Addr) (cap : Nat) (l : List (Int × Int)) (hlen : l.length ≤ 4611686018427387904) (fr up : Int) (hfr : 0 ≤ fr) (hup : up ≤ 4611686018427387903) (w : World) (hR : Rg w sp l) :
    Calls Try.prog 29 #[.slice sp l.length cap, .int .i64 fr, .int .i64 up] w fun e w' => e = .returned (.bool (rsg l fr up)) ∧ Below w.heap.size w w' := by
  have M := Mm.init w
  go_enter Try.func29, Try.ntmps29
  go_upto_region 0 with fail
  refine wp_region_list ?_
  refine readL (.bool false) rfl (by kernel_rfl) ?_
  simp only [aP, lI, l0, lS]
  first | show Exit.then _ _ _ _ _ | show Exit.inBlock _ _ _ _ _
  by_cases h8 : 8 < l.length
  · go_upto_region 1 with fail
    refine wp_region_list ?_
    refine readL (.slice sp l.length cap) rfl (by kernel_rfl) ?_
    simp only [aP, lI, l0, lS]
    refine readL (.int .i64 ((l.length : Nat) : Int)) rfl (lenS _ 22 43 sp l.length cap rfl Try.underlying22 rfl _) ?_
    simp only [aP, lI, l0, lS]
    refine readL (.bool true) rfl (gtrI .i64 _ _ _ _ _ _ rfl rfl rfl true (decide_eq_true (by omega)) _) ?_
    simp only [aP, lI, l0, lS]
    first | show Exit.then _ _ _ _ _ | show Exit.inBlock _ _ _ _ _
    go_upto_region 2 with fail
    refine wp_region_list ?_
    refine readL (.bool false) rfl (by kernel_rfl) ?_
    simp only [aP, lI, l0, lS]
    first | show Exit.then _ _ _ _ _ | show Exit.inBlock _ _ _ _ _
    have hK := show Hid _ from (show false = rsg l fr up by unfold rsg; rw [decide_eq_false (by omega)]; rfl)
    go_wp2
    go_ret
    exact ⟨by rw [← hK.out] <;> rfl, M.below⟩
  · go_upto_region 1 with fail
    refine wp_region_list ?_
    refine readL (.slice sp l.length cap) rfl (by kernel_rfl) ?_
    simp only [aP, lI, l0, lS]
    refine readL (.int .i64 ((l.length : Nat) : Int)) rfl (lenS _ 22 43 sp l.length cap rfl Try.underlying22 rfl _) ?_
    simp only [aP, lI, l0, lS]
    refine readL (.bool false) rfl (gtrI .i64 _ _ _ _ _ _ rfl rfl rfl false (decide_eq_false (by omega)) _) ?_
    simp only [aP, lI, l0, lS]
    first | show Exit.then _ _ _ _ _ | show Exit.inBlock _ _ _ _ _
    go_upto_region 3 with fail
    refine wp_region_list ?_
    refine readL (.slice sp l.length cap) rfl (by kernel_rfl) ?_
    simp only [aP, lI, l0, lS]
    refine readL (.int .i64 ((l.length : Nat) : Int)) rfl (lenS _ 22 43 sp l.length cap rfl Try.underlying22 rfl _) ?_
    simp only [aP, lI, l0, lS]
    refine readL (.int .i64 0) rfl (by kernel_rfl) ?_
    simp only [aP, lI, l0, lS]
    first | show Exit.then _ _ _ _ _ | show Exit.inBlock _ _ _ _ _
    have HI := show Hid _ from M
    clear M
    go_wp2
    go_loopw [1, 14] (fun fw i w' => ∃ (j : Nat) (f2 : Int), j ≤ l.length ∧ fw = .int .i64 f2 ∧ i = .int .i64 (j : Int) ∧ Mm w [] w' ∧ rup l fr up = rup (l.drop j) f2 up ∧ 0 ≤ f2) (fun _ i _ => l.length - (intOf i).toNat)
    case atStart => exact ⟨0, fr, Nat.zero_le _, rfl, rfl, HI.out, rfl, hfr⟩
    case round =>
      clear HI
      obtain ⟨j, f2, hj, rfl, rfl, M, hK, hf2⟩ := hrel
      by_cases hlt : j < l.length
      · obtain ⟨ad, rfl, _⟩ := hR j hlt
        have g1 : (j : Int) < ((l.length : Nat) : Int) := by omega
        go_upto_region 4 with fail
        refine wp_region_list ?_
        refine readL (.bool true) rfl (lssI .i64 _ _ _ _ _ _ rfl rfl rfl true (decide_eq_true g1) _) ?_
        simp only [aP, lI, l0, lS]
        first | show Exit.then _ _ _ _ _ | show Exit.inBlock _ _ _ _ _
        go_upto_region 5 with fail
        refine wp_region_list ?_
        refine readL (.pointer (some (ad.add (j * 2)))) rfl (idxN 22 43 2 l.length cap ad j _ _ Try.underlying22 (fun _ => by kernel_rfl) hlt rfl rfl rfl _) ?_
        simp only [aP, lI, l0, lS]
        refine readL (.agg #[.int .i64 ((rgz l j).1), .int .i64 ((rgz l j).2)]) rfl (loadN 43 _ (ad.add (j * 2)) [.int .i64 ((rgz l j).1), .int .i64 ((rgz l j).2)] rfl rfl (fun _ => by kernel_rfl) (fun _ => by kernel_rfl) (rg2 ((hR.below M.below (Nat.le_refl _)).at j hlt))) ?_
        simp only [aP, lI, l0, lS]
        refine actL (w' := wr.alloc (.cells #[.int .i64 0, .int .i64 0] 43)) (.pointer (some ⟨wr.heap.size, 0, none⟩)) rfl (by kernel_rfl) ?_
        simp only [aP, lI, l0, lS]
        have hB_B1 : w.heap.size ≤ wr.heap.size := M.below.size
        replace M := M.box #[.int .i64 0, .int .i64 0] 43 wr.heap.size rfl
        generalize wr.alloc (.cells #[.int .i64 0, .int .i64 0] 43) = w1 at M  ⊢
        generalize eB : wr.heap.size = B1 at M hB_B1 ⊢
        have hE_B1 : wr.heap.size ≤ B1 := Nat.le_of_eq eB
        have hF_B1 : B1 ≤ wr.heap.size := Nat.le_of_eq eB.symm
        clear eB
        replace M : Mm w ([(B1, [.int .i64 0, .int .i64 0])]) w1 := M
        refine skipOpL rfl (storeP [.int .i64 ((rgz l j).1), .int .i64 ((rgz l j).2)] B1 0 43 _ _ rfl rfl rfl (M.thereP List.mem_cons_self 0 2 (Nat.le_of_ble_eq_true rfl)) (by kernel_rfl) (List.all_eq_true.1 (rfl : ([.int .i64 ((rgz l j).1), .int .i64 ((rgz l j).2)] : List Value).all (fun u => u.oneCell') = true))) ?_
        simp only [Act.put]
        replace M := M.setPart [.int .i64 ((rgz l j).1), .int .i64 ((rgz l j).2)] 0 (Nat.le_of_ble_eq_true rfl)
        generalize w1.setCells B1 0 [.int .i64 ((rgz l j).1), .int .i64 ((rgz l j).2)] = w2 at M  ⊢
        replace M : Mm w ([(B1, [.int .i64 ((rgz l j).1), .int .i64 ((rgz l j).2)])]) w2 := M
        first | show Exit.then _ _ _ _ _ | show Exit.inBlock _ _ _ _ _
        go_upto_region 6 with fail
        refine wp_region_list ?_
        refine readL (.pointer (some ⟨B1, 0, none⟩)) rfl (by kernel_rfl) ?_
        simp only [aP, lI, l0, lS]
        refine readL (.int .i64 ((rgz l j).1)) rfl (load1 3 _ ⟨B1, 0, none⟩ _ rfl rfl (fun _ => by kernel_rfl) (M.get List.mem_cons_self 0 _ rfl)) ?_
        simp only [aP, lI, l0, lS]
        refine readL (.int .i64 f2) rfl (by kernel_rfl) ?_
        simp only [aP, lI, l0, lS]
        obtain ⟨b1, hb1⟩ : ∃ y_, y_ = (decide (((rgz l j).1) < f2)) := ⟨_, rfl⟩
        refine readL (.bool b1) rfl (lssI .i64 _ _ _ _ _ _ rfl rfl rfl b1 hb1.symm _) ?_
        simp only [aP, lI, l0, lS]
        refine readL (.bool b1) rfl (by kernel_rfl) ?_
        simp only [aP, lI, l0, lS]
        refine mayL (!b1) (.pointer (some ⟨B1, 1, none⟩)) ((bif b1 then undef else (.pointer (some ⟨B1, 1, none⟩)))) (by cases b1 <;> rfl) (by cases b1 <;> rfl) (fun hc => by cases b1 <;> first | (cases hc; done) | kernel_rfl) ?_
        simp only [aP, lI, l0, lS]
        refine mayL (!b1) (.int .i64 ((rgz l j).2)) ((bif b1 then undef else (.int .i64 ((rgz l j).2)))) (by cases b1 <;> rfl) (by cases b1 <;> rfl) (fun hc => by cases b1 <;> first | (cases hc; done) | exact (load1 3 _ ⟨B1, 1, none⟩ _ rfl rfl (fun _ => by kernel_rfl) (M.get List.mem_cons_self 1 _ rfl))) ?_
        simp only [aP, lI, l0, lS]
        refine mayL (!b1) (.pointer (some ⟨B1, 0, none⟩)) ((bif b1 then undef else (.pointer (some ⟨B1, 0, none⟩)))) (by cases b1 <;> rfl) (by cases b1 <;> rfl) (fun hc => by cases b1 <;> first | (cases hc; done) | kernel_rfl) ?_
        simp only [aP, lI, l0, lS]
        refine mayL (!b1) (.int .i64 ((rgz l j).1)) ((bif b1 then undef else (.int .i64 ((rgz l j).1)))) (by cases b1 <;> rfl) (by cases b1 <;> rfl) (fun hc => by cases b1 <;> first | (cases hc; done) | exact (load1 3 _ ⟨B1, 0, none⟩ _ rfl rfl (fun _ => by kernel_rfl) (M.get List.mem_cons_self 0 _ rfl))) ?_
        simp only [aP, lI, l0, lS]
        obtain ⟨b2, hb2⟩ : ∃ y_, y_ = (decide (((rgz l j).2) ≤ ((rgz l j).1))) := ⟨_, rfl⟩
        refine mayL (!b1) (.bool b2) ((bif b1 then undef else (.bool b2))) (by cases b1 <;> rfl) (by cases b1 <;> rfl) (fun hc => by cases b1 <;> first | (cases hc; done) | exact (leqI .i64 _ _ _ _ _ _ rfl rfl rfl b2 hb2.symm _)) ?_
        simp only [aP, lI, l0, lS]
        obtain ⟨b3, hb3⟩ : ∃ y_, y_ = (b1 || b2) := ⟨_, rfl⟩
        refine readL (.bool b3) rfl (by subst hb3; cases b1 <;> rfl) ?_
        simp only [aP, lI, l0, lS]
        refine readL (.bool b3) rfl (by kernel_rfl) ?_
        simp only [aP, lI, l0, lS]
        refine mayL (!b3) (.pointer (some ⟨B1, 1, none⟩)) ((bif b3 then undef else (.pointer (some ⟨B1, 1, none⟩)))) (by cases b3 <;> rfl) (by cases b3 <;> rfl) (fun hc => by cases b3 <;> first | (cases hc; done) | kernel_rfl) ?_
        simp only [aP, lI, l0, lS]
        refine mayL (!b3) (.int .i64 ((rgz l j).2)) ((bif b3 then undef else (.int .i64 ((rgz l j).2)))) (by cases b3 <;> rfl) (by cases b3 <;> rfl) (fun hc => by cases b3 <;> first | (cases hc; done) | exact (load1 3 _ ⟨B1, 1, none⟩ _ rfl rfl (fun _ => by kernel_rfl) (M.get List.mem_cons_self 1 _ rfl))) ?_
        simp only [aP, lI, l0, lS]
        refine mayL (!b3) (.int .i64 up) ((bif b3 then undef else (.int .i64 up))) (by cases b3 <;> rfl) (by cases b3 <;> rfl) (fun hc => by cases b3 <;> first | (cases hc; done) | kernel_rfl) ?_
        simp only [aP, lI, l0, lS]
        obtain ⟨b4, hb4⟩ : ∃ y_, y_ = (decide (((rgz l j).2) > up)) := ⟨_, rfl⟩
        refine mayL (!b3) (.bool b4) ((bif b3 then undef else (.bool b4))) (by cases b3 <;> rfl) (by cases b3 <;> rfl) (fun hc => by cases b3 <;> first | (cases hc; done) | exact (gtrI .i64 _ _ _ _ _ _ rfl rfl rfl b4 hb4.symm _)) ?_
        simp only [aP, lI, l0, lS]
        obtain ⟨b5, hb5⟩ : ∃ y_, y_ = (b3 || b4) := ⟨_, rfl⟩
        refine readL (.bool b5) rfl (by subst hb5; cases b3 <;> rfl) ?_
        simp only [aP, lI, l0, lS]
        first | show Exit.then _ _ _ _ _ | show Exit.inBlock _ _ _ _ _
        have hrup : rup (l.drop j) f2 up = (!b5 && rup (l.drop (j + 1)) ((rgz l j).2 + 1) up) := by
          rw [drop_rgz l j hlt]
          show (!((decide ((rgz l j).1 < f2) || decide ((rgz l j).2 ≤ (rgz l j).1)) || decide ((rgz l j).2 > up)) && _) = _
          simp only [hb1, hb2, hb3, hb4, hb5]
        rw [hrup] at hK
        clear hrup
        cases b5 with
        | true =>
          try clear hb1
          try clear hb2
          try clear hb3
          try clear hb4
          try clear hb5
          go_upto_region 7 with fail
          refine wp_region_list ?_
          refine readL (.bool false) rfl (by kernel_rfl) ?_
          simp only [aP, lI, l0, lS]
          first | show Exit.then _ _ _ _ _ | show Exit.inBlock _ _ _ _ _
          have hK := show Hid _ from (show false = rsg l fr up by unfold rsg; rw [hK]; simp)
          go_wp2
          go_ret
          exact ⟨by rw [← hK.out] <;> rfl, M.below⟩
        | false =>
          have hup2 : (rgz l j).2 ≤ up := by
            have h1 := hb5
            simp only [hb1, hb2, hb3, hb4] at h1
            have h2 := (Bool.or_eq_false_iff.1 h1.symm).2
            have := of_decide_eq_false h2
            omega
          have hlo : 0 ≤ (rgz l j).2 + 1 := by
            have h1 := hb5
            simp only [hb1, hb2, hb3, hb4] at h1
            have h2 := Bool.or_eq_false_iff.1 (Bool.or_eq_false_iff.1 h1.symm).1
            have h3 := of_decide_eq_false h2.1
            have h4 := of_decide_eq_false h2.2
            omega
          try clear hb1
          try clear hb2
          try clear hb3
          try clear hb4
          try clear hb5
          rw [Bool.not_false, Bool.true_and] at hK
          go_upto_region 8 with fail
          refine wp_region_list ?_
          refine readL (.pointer (some ⟨B1, 1, none⟩)) rfl (by kernel_rfl) ?_
          simp only [aP, lI, l0, lS]
          refine readL (.int .i64 ((rgz l j).2)) rfl (load1 3 _ ⟨B1, 1, none⟩ _ rfl rfl (fun _ => by kernel_rfl) (M.get List.mem_cons_self 1 _ rfl)) ?_
          simp only [aP, lI, l0, lS]
          refine readL (.int .i64 (((rgz l j).2) + 1)) rfl (addI .i64 _ _ _ _ _ _ _ rfl rfl rfl (by rw [IntKind.wrap_i64]; omega) _) ?_
          simp only [aP, lI, l0, lS]
          refine readL (.int .i64 (((rgz l j).2) + 1)) rfl (by kernel_rfl) ?_
          simp only [aP, lI, l0, lS]
          first | show Exit.then _ _ _ _ _ | show Exit.inBlock _ _ _ _ _
          replace M := M.tail
          have HS := show Hid _ from (And.intro M (And.intro hK hlo))
          clear M hK hup2 hlo
          go_wp2
          go_roundw
          case rel => first | exact ⟨j + 1, _, by omega, rfl, by go_num, HS.out⟩ | ((repeat apply Exists.intro); refine ⟨⟨j + 1, _, by omega, rfl, ?_, HS.out⟩, rfl⟩ <;> first | rfl | go_num)
          case measure => simp [intOf]; omega
      · obtain rfl : j = l.length := by omega
        have g1 : ¬ ((l.length : Nat) : Int) < ((l.length : Nat) : Int) := by omega
        rw [List.drop_length] at hK
        go_upto_region 4 with fail
        refine wp_region_list ?_
        refine readL (.bool false) rfl (lssI .i64 _ _ _ _ _ _ rfl rfl rfl false (decide_eq_false g1) _) ?_
        simp only [aP, lI, l0, lS]
        first | show Exit.then _ _ _ _ _ | show Exit.inBlock _ _ _ _ _
        go_upto_region 10 with fail
        refine wp_region_list ?_
        refine readL (.bool true) rfl (by kernel_rfl) ?_
        simp only [aP, lI, l0, lS]
        first | show Exit.then _ _ _ _ _ | show Exit.inBlock _ _ _ _ _
        have hK := show Hid _ from (show true = rsg l fr up by unfold rsg; rw [hK, decide_eq_true (by omega)]; rfl)
        go_wp2
        go_ret
        exact ⟨by rw [← hK.out] <;> rfl, M.below⟩

theorem blk_iff {a l : Int} {rn bn : Nat} {z : Nat → Int} : blk a l rn bn z = true ↔ a = 0 ∧ l = 0 ∧ rn = 0 ∧ bn = 0 ∧ val 256 z 8 = val 256 (fun _ => 0) 8 := by
  unfold blk
  simp
  omega
theorem tok_z8 {t : List Int} (h : t.length = 8) (hb : Byts t) : val 256 (bl t) 8 = val 256 (fun _ => 0) 8 ↔ t = z8 := by
  have := tok_val t h hb
  by_cases e : t = z8
  · subst e; exact ⟨fun _ => rfl, fun _ => rfl⟩
  · rw [decide_eq_true e] at this
    constructor
    · intro h'; rw [decide_eq_true h'] at this; cases this
    · intro h'; exact absurd h' e

set_option maxRecDepth 10000 in
set_option maxHeartbeats 32000000 in
theorem maybe_any (f : Frm) (rp : Option Addr) (rc : Nat) (bp : Option Addr) (bc : Nat) (w : World) (hf : FV w f rp rc bp bc) :
    Calls Try.prog 19 #[.agg (fcs f rp rc bp bc).toArray] w fun e w' => e = .returned (.bool (fok f)) ∧ Below w.heap.size w w' := by
  have M := Mm.init w
  have htok : In 256 8 (bl f.tok) := by have := hf.wf.tok.bl; rw [hf.wf.eight] at this; exact this
  unfold fcs
  go_enter Try.func19, Try.ntmps19
  go_upto_region 0 with fail
  refine wp_region_list ?_
  refine actL (w' := w.alloc (.cells #[.int .i64 f.kind, .int .i64 f.pos, .int .i64 f.lim, .slice rp f.rg.length rc, .slice bp f.byt.length bc, .int .u8 (bl f.tok 0), .int .u8 (bl f.tok 1), .int .u8 (bl f.tok 2), .int .u8 (bl f.tok 3), .int .u8 (bl f.tok 4), .int .u8 (bl f.tok 5), .int .u8 (bl f.tok 6), .int .u8 (bl f.tok 7)] 26)) (.pointer (some ⟨w.heap.size, 0, none⟩)) rfl (by kernel_rfl) ?_
  simp only [aP, lI, l0, lS]
  have hB_B1 : w.heap.size ≤ w.heap.size := M.below.size
  replace M := M.box #[.int .i64 f.kind, .int .i64 f.pos, .int .i64 f.lim, .slice rp f.rg.length rc, .slice bp f.byt.length bc, .int .u8 (bl f.tok 0), .int .u8 (bl f.tok 1), .int .u8 (bl f.tok 2), .int .u8 (bl f.tok 3), .int .u8 (bl f.tok 4), .int .u8 (bl f.tok 5), .int .u8 (bl f.tok 6), .int .u8 (bl f.tok 7)] 26 w.heap.size rfl
  generalize w.alloc (.cells #[.int .i64 f.kind, .int .i64 f.pos, .int .i64 f.lim, .slice rp f.rg.length rc, .slice bp f.byt.length bc, .int .u8 (bl f.tok 0), .int .u8 (bl f.tok 1), .int .u8 (bl f.tok 2), .int .u8 (bl f.tok 3), .int .u8 (bl f.tok 4), .int .u8 (bl f.tok 5), .int .u8 (bl f.tok 6), .int .u8 (bl f.tok 7)] 26) = w1 at M  ⊢
  generalize eB : w.heap.size = B1 at M hB_B1 ⊢
  have hE_B1 : w.heap.size ≤ B1 := Nat.le_of_eq eB
  have hF_B1 : B1 ≤ w.heap.size := Nat.le_of_eq eB.symm
  clear eB
  replace M : Mm w ([(B1, [.int .i64 f.kind, .int .i64 f.pos, .int .i64 f.lim, .slice rp f.rg.length rc, .slice bp f.byt.length bc, .int .u8 (bl f.tok 0), .int .u8 (bl f.tok 1), .int .u8 (bl f.tok 2), .int .u8 (bl f.tok 3), .int .u8 (bl f.tok 4), .int .u8 (bl f.tok 5), .int .u8 (bl f.tok 6), .int .u8 (bl f.tok 7)])]) w1 := M
  refine readL (.bool false) rfl (by kernel_rfl) ?_
  simp only [aP, lI, l0, lS]
  first | show Exit.then _ _ _ _ _ | show Exit.inBlock _ _ _ _ _
  go_upto_region 1 with fail
  refine wp_region_list ?_
  refine readL (.pointer (some ⟨B1, 0, none⟩)) rfl (by kernel_rfl) ?_
  simp only [aP, lI, l0, lS]
  refine readL (.int .i64 f.kind) rfl (load1 3 _ ⟨B1, 0, none⟩ _ rfl rfl (fun _ => by kernel_rfl) (M.get List.mem_cons_self 0 _ rfl)) ?_
  simp only [aP, lI, l0, lS]
  first | show Exit.then _ _ _ _ _ | show Exit.inBlock _ _ _ _ _
  go_upto_region 2 with fail
  refine wp_region_list ?_
  obtain ⟨b1, hb1⟩ : ∃ y_, y_ = ((f.kind : Int) == (1 : Int)) := ⟨_, rfl⟩
  refine readL (.bool b1) rfl (eqlI .i64 _ _ _ _ _ _ rfl rfl rfl b1 hb1.symm _) ?_
  simp only [aP, lI, l0, lS]
  refine readL (.bool b1) rfl (by kernel_rfl) ?_
  simp only [aP, lI, l0, lS]
  first | show Exit.then _ _ _ _ _ | show Exit.inBlock _ _ _ _ _
  cases b1 with
  | true =>
    have k1 : f.kind = 1 := by simpa using hb1.symm
    go_upto_region 3 with fail
    refine wp_region_list ?_
    refine readL (.pointer (some ⟨B1, 1, none⟩)) rfl (by kernel_rfl) ?_
    simp only [aP, lI, l0, lS]
    refine readL (.int .i64 f.pos) rfl (load1 3 _ ⟨B1, 1, none⟩ _ rfl rfl (fun _ => by kernel_rfl) (M.get List.mem_cons_self 1 _ rfl)) ?_
    simp only [aP, lI, l0, lS]
    obtain ⟨b2, hb2⟩ : ∃ y_, y_ = (inb f.pos 0 4611686018427387903) := ⟨_, rfl⟩
    have hC : Calls Try.prog 27 #[.int .i64 f.pos, .int .i64 0, .int .i64 4611686018427387903] w1 (fun e w' => e = .returned (.bool b2) ∧ Below w1.heap.size w1 w') := (by rw [hb2]; exact within_any _ _ _ _)
    refine callL rfl (fun _ => by kernel_rfl) (hC) ?_
    rintro e w2 ⟨rfl, l⟩
    replace M := M.call l
    refine ⟨_, rfl, ?_⟩
    clear l hC
    simp only [aP, lI, l0, lS]
    refine readL (.bool b2) rfl (by kernel_rfl) ?_
    simp only [aP, lI, l0, lS]
    refine mayL (b2) (.pointer (some ⟨B1, 4, none⟩)) ((bif b2 then (.pointer (some ⟨B1, 4, none⟩)) else undef)) (by cases b2 <;> rfl) (by cases b2 <;> rfl) (fun hc => by cases b2 <;> first | (cases hc; done) | kernel_rfl) ?_
    simp only [aP, lI, l0, lS]
    refine mayL (b2) (.slice bp f.byt.length bc) ((bif b2 then (.slice bp f.byt.length bc) else undef)) (by cases b2 <;> rfl) (by cases b2 <;> rfl) (fun hc => by cases b2 <;> first | (cases hc; done) | exact (load1 23 _ ⟨B1, 4, none⟩ _ rfl rfl (fun _ => by kernel_rfl) (M.get List.mem_cons_self 4 _ rfl))) ?_
    simp only [aP, lI, l0, lS]
    refine mayL (b2) (.int .i64 ((f.byt.length : Nat) : Int)) ((bif b2 then (.int .i64 ((f.byt.length : Nat) : Int)) else undef)) (by cases b2 <;> rfl) (by cases b2 <;> rfl) (fun hc => by cases b2 <;> first | (cases hc; done) | exact (lenS _ 23 5 bp f.byt.length bc rfl Try.underlying23 rfl _)) ?_
    simp only [aP, lI, l0, lS]
    obtain ⟨b3, hb3⟩ : ∃ y_, y_ = (inb ((f.byt.length : Nat) : Int) 1 128) := ⟨_, rfl⟩
    have hC : Calls Try.prog 27 #[.int .i64 ((f.byt.length : Nat) : Int), .int .i64 1, .int .i64 128] w2 (fun e w' => e = .returned (.bool b3) ∧ Below w2.heap.size w2 w') := (by rw [hb3]; exact within_any _ _ _ _)
    refine mayCallL (b2) (.bool b3) ((bif b2 then (.bool b3) else undef)) 27 #[.int .i64 ((f.byt.length : Nat) : Int), .int .i64 1, .int .i64 128] (by cases b2 <;> rfl) (by cases b2 <;> rfl) (fun hc => by cases b2 <;> first | (cases hc; done) | (intro _; kernel_rfl)) (fun _ => hC) ?_
    intro w3 l
    replace M := M.call l
    clear l hC
    simp only [aP, lI, l0, lS]
    obtain ⟨b4, hb4⟩ : ∃ y_, y_ = (b2 && b3) := ⟨_, rfl⟩
    refine readL (.bool b4) rfl (by subst hb4; cases b2 <;> rfl) ?_
    simp only [aP, lI, l0, lS]
    refine readL (.bool b4) rfl (by kernel_rfl) ?_
    simp only [aP, lI, l0, lS]
    refine mayL (b4) (.pointer (some ⟨B1, 2, none⟩)) ((bif b4 then (.pointer (some ⟨B1, 2, none⟩)) else undef)) (by cases b4 <;> rfl) (by cases b4 <;> rfl) (fun hc => by cases b4 <;> first | (cases hc; done) | kernel_rfl) ?_
    simp only [aP, lI, l0, lS]
    refine mayL (b4) (.int .i64 f.lim) ((bif b4 then (.int .i64 f.lim) else undef)) (by cases b4 <;> rfl) (by cases b4 <;> rfl) (fun hc => by cases b4 <;> first | (cases hc; done) | exact (load1 3 _ ⟨B1, 2, none⟩ _ rfl rfl (fun _ => by kernel_rfl) (M.get List.mem_cons_self 2 _ rfl))) ?_
    simp only [aP, lI, l0, lS]
    refine mayL (b4) (.pointer (some ⟨B1, 3, none⟩)) ((bif b4 then (.pointer (some ⟨B1, 3, none⟩)) else undef)) (by cases b4 <;> rfl) (by cases b4 <;> rfl) (fun hc => by cases b4 <;> first | (cases hc; done) | kernel_rfl) ?_
    simp only [aP, lI, l0, lS]
    refine mayL (b4) (.slice rp f.rg.length rc) ((bif b4 then (.slice rp f.rg.length rc) else undef)) (by cases b4 <;> rfl) (by cases b4 <;> rfl) (fun hc => by cases b4 <;> first | (cases hc; done) | exact (load1 22 _ ⟨B1, 3, none⟩ _ rfl rfl (fun _ => by kernel_rfl) (M.get List.mem_cons_self 3 _ rfl))) ?_
    simp only [aP, lI, l0, lS]
    refine mayL (b4) (.pointer (some ⟨B1, 5, none⟩)) ((bif b4 then (.pointer (some ⟨B1, 5, none⟩)) else undef)) (by cases b4 <;> rfl) (by cases b4 <;> rfl) (fun hc => by cases b4 <;> first | (cases hc; done) | kernel_rfl) ?_
    simp only [aP, lI, l0, lS]
    refine mayL (b4) (.agg #[.int .u8 (bl f.tok 0), .int .u8 (bl f.tok 1), .int .u8 (bl f.tok 2), .int .u8 (bl f.tok 3), .int .u8 (bl f.tok 4), .int .u8 (bl f.tok 5), .int .u8 (bl f.tok 6), .int .u8 (bl f.tok 7)]) ((bif b4 then (.agg #[.int .u8 (bl f.tok 0), .int .u8 (bl f.tok 1), .int .u8 (bl f.tok 2), .int .u8 (bl f.tok 3), .int .u8 (bl f.tok 4), .int .u8 (bl f.tok 5), .int .u8 (bl f.tok 6), .int .u8 (bl f.tok 7)]) else undef)) (by cases b4 <;> rfl) (by cases b4 <;> rfl) (fun hc => by cases b4 <;> first | (cases hc; done) | exact (loadN 24 _ ⟨B1, 5, none⟩ [.int .u8 (bl f.tok 0), .int .u8 (bl f.tok 1), .int .u8 (bl f.tok 2), .int .u8 (bl f.tok 3), .int .u8 (bl f.tok 4), .int .u8 (bl f.tok 5), .int .u8 (bl f.tok 6), .int .u8 (bl f.tok 7)] rfl rfl (fun _ => by kernel_rfl) (fun _ => by kernel_rfl) (M.part List.mem_cons_self 5 _ rfl))) ?_
    simp only [aP, lI, l0, lS]
    refine mayL (b4) (.agg #[.int .i64 0, .int .i64 0, .int .i64 f.lim, .slice rp f.rg.length rc, .slice none 0 0, .int .u8 (bl f.tok 0), .int .u8 (bl f.tok 1), .int .u8 (bl f.tok 2), .int .u8 (bl f.tok 3), .int .u8 (bl f.tok 4), .int .u8 (bl f.tok 5), .int .u8 (bl f.tok 6), .int .u8 (bl f.tok 7)]) ((bif b4 then (.agg #[.int .i64 0, .int .i64 0, .int .i64 f.lim, .slice rp f.rg.length rc, .slice none 0 0, .int .u8 (bl f.tok 0), .int .u8 (bl f.tok 1), .int .u8 (bl f.tok 2), .int .u8 (bl f.tok 3), .int .u8 (bl f.tok 4), .int .u8 (bl f.tok 5), .int .u8 (bl f.tok 6), .int .u8 (bl f.tok 7)]) else undef)) (by cases b4 <;> rfl) (by cases b4 <;> rfl) (fun hc => by cases b4 <;> first | (cases hc; done) | kernel_rfl) ?_
    simp only [aP, lI, l0, lS]
    obtain ⟨b5, hb5⟩ : ∃ y_, y_ = (blk 0 f.lim f.rg.length 0 (bl f.tok)) := ⟨_, rfl⟩
    have hC : Calls Try.prog 28 #[.agg #[.int .i64 0, .int .i64 0, .int .i64 f.lim, .slice rp f.rg.length rc, .slice none 0 0, .int .u8 (bl f.tok 0), .int .u8 (bl f.tok 1), .int .u8 (bl f.tok 2), .int .u8 (bl f.tok 3), .int .u8 (bl f.tok 4), .int .u8 (bl f.tok 5), .int .u8 (bl f.tok 6), .int .u8 (bl f.tok 7)]] w3 (fun e w' => e = .returned (.bool b5) ∧ Below w3.heap.size w3 w') := (by rw [hb5]; exact blank_any _ _ _ _ _ _ _ _ (bl f.tok) htok _)
    refine mayCallL (b4) (.bool b5) ((bif b4 then (.bool b5) else undef)) 28 #[.agg #[.int .i64 0, .int .i64 0, .int .i64 f.lim, .slice rp f.rg.length rc, .slice none 0 0, .int .u8 (bl f.tok 0), .int .u8 (bl f.tok 1), .int .u8 (bl f.tok 2), .int .u8 (bl f.tok 3), .int .u8 (bl f.tok 4), .int .u8 (bl f.tok 5), .int .u8 (bl f.tok 6), .int .u8 (bl f.tok 7)]] (by cases b4 <;> rfl) (by cases b4 <;> rfl) (fun hc => by cases b4 <;> first | (cases hc; done) | (intro _; kernel_rfl)) (fun _ => hC) ?_
    intro w4 l
    replace M := M.call l
    clear l hC
    simp only [aP, lI, l0, lS]
    obtain ⟨b6, hb6⟩ : ∃ y_, y_ = (b4 && b5) := ⟨_, rfl⟩
    refine readL (.bool b6) rfl (by subst hb6; cases b4 <;> rfl) ?_
    simp only [aP, lI, l0, lS]
    refine readL (.bool b6) rfl (by kernel_rfl) ?_
    simp only [aP, lI, l0, lS]
    first | show Exit.then _ _ _ _ _ | show Exit.inBlock _ _ _ _ _
    have hK := show Hid _ from (show b6 = fok f by
      have e8 := tok_z8 hf.wf.eight hf.wf.tok
      have mxe : MX = 4611686018427387903 := rfl
      have n1 := @nmb_iff f.pos
      have n2 := @nmb_iff f.lim
      rw [hb6, hb5, hb4, hb3, hb2]
      rw [Bool.eq_iff_iff]
      unfold fok fkd foth
      simp only [k1, Bool.and_eq_true, Bool.not_eq_true', Bool.or_eq_false_iff, Bool.and_eq_false_iff, inb_iff, blk_iff, nmb_iff, decide_eq_true_eq, decide_eq_false_iff_not, if_true, ne_eq, e8, mxe]
      grind)
    try clear hb1
    try clear hb2
    try clear hb3
    try clear hb4
    try clear hb5
    try clear hb6
    try clear k1
    try clear k2
    try clear k3
    try clear k4
    try clear k5
    try clear k6
    try clear k7
    go_wp2
    go_ret
    exact ⟨by rw [← hK.out] <;> rfl, M.below⟩
  | false =>
    have k1 : ¬ f.kind = 1 := by simpa using hb1.symm
    go_upto_region 4 with fail
    refine wp_region_list ?_
    obtain ⟨b7, hb7⟩ : ∃ y_, y_ = ((f.kind : Int) == (2 : Int)) := ⟨_, rfl⟩
    refine readL (.bool b7) rfl (eqlI .i64 _ _ _ _ _ _ rfl rfl rfl b7 hb7.symm _) ?_
    simp only [aP, lI, l0, lS]
    refine readL (.bool b7) rfl (by kernel_rfl) ?_
    simp only [aP, lI, l0, lS]
    first | show Exit.then _ _ _ _ _ | show Exit.inBlock _ _ _ _ _
    cases b7 with
    | true =>
      have k2 : f.kind = 2 := by simpa using hb7.symm
      go_upto_region 5 with fail
      refine wp_region_list ?_
      refine readL (.pointer (some ⟨B1, 1, none⟩)) rfl (by kernel_rfl) ?_
      simp only [aP, lI, l0, lS]
      refine readL (.int .i64 f.pos) rfl (load1 3 _ ⟨B1, 1, none⟩ _ rfl rfl (fun _ => by kernel_rfl) (M.get List.mem_cons_self 1 _ rfl)) ?_
      simp only [aP, lI, l0, lS]
      obtain ⟨b8, hb8⟩ : ∃ y_, y_ = (inb f.pos 0 4611686018427387903) := ⟨_, rfl⟩
      have hC : Calls Try.prog 27 #[.int .i64 f.pos, .int .i64 0, .int .i64 4611686018427387903] w1 (fun e w' => e = .returned (.bool b8) ∧ Below w1.heap.size w1 w') := (by rw [hb8]; exact within_any _ _ _ _)
      refine callL rfl (fun _ => by kernel_rfl) (hC) ?_
      rintro e w5 ⟨rfl, l⟩
      replace M := M.call l
      refine ⟨_, rfl, ?_⟩
      clear l hC
      simp only [aP, lI, l0, lS]
      refine readL (.bool b8) rfl (by kernel_rfl) ?_
      simp only [aP, lI, l0, lS]
      refine mayL (b8) (.pointer (some ⟨B1, 2, none⟩)) ((bif b8 then (.pointer (some ⟨B1, 2, none⟩)) else undef)) (by cases b8 <;> rfl) (by cases b8 <;> rfl) (fun hc => by cases b8 <;> first | (cases hc; done) | kernel_rfl) ?_
      simp only [aP, lI, l0, lS]
      refine mayL (b8) (.int .i64 f.lim) ((bif b8 then (.int .i64 f.lim) else undef)) (by cases b8 <;> rfl) (by cases b8 <;> rfl) (fun hc => by cases b8 <;> first | (cases hc; done) | exact (load1 3 _ ⟨B1, 2, none⟩ _ rfl rfl (fun _ => by kernel_rfl) (M.get List.mem_cons_self 2 _ rfl))) ?_
      simp only [aP, lI, l0, lS]
      obtain ⟨b9, hb9⟩ : ∃ y_, y_ = (inb f.lim 0 4611686018427387903) := ⟨_, rfl⟩
      have hC : Calls Try.prog 27 #[.int .i64 f.lim, .int .i64 0, .int .i64 4611686018427387903] w5 (fun e w' => e = .returned (.bool b9) ∧ Below w5.heap.size w5 w') := (by rw [hb9]; exact within_any _ _ _ _)
      refine mayCallL (b8) (.bool b9) ((bif b8 then (.bool b9) else undef)) 27 #[.int .i64 f.lim, .int .i64 0, .int .i64 4611686018427387903] (by cases b8 <;> rfl) (by cases b8 <;> rfl) (fun hc => by cases b8 <;> first | (cases hc; done) | (intro _; kernel_rfl)) (fun _ => hC) ?_
      intro w6 l
      replace M := M.call l
      clear l hC
      simp only [aP, lI, l0, lS]
      obtain ⟨b10, hb10⟩ : ∃ y_, y_ = (b8 && b9) := ⟨_, rfl⟩
      refine readL (.bool b10) rfl (by subst hb10; cases b8 <;> rfl) ?_
      simp only [aP, lI, l0, lS]
      refine readL (.bool b10) rfl (by kernel_rfl) ?_
      simp only [aP, lI, l0, lS]
      refine mayL (b10) (.pointer (some ⟨B1, 3, none⟩)) ((bif b10 then (.pointer (some ⟨B1, 3, none⟩)) else undef)) (by cases b10 <;> rfl) (by cases b10 <;> rfl) (fun hc => by cases b10 <;> first | (cases hc; done) | kernel_rfl) ?_
      simp only [aP, lI, l0, lS]
      refine mayL (b10) (.slice rp f.rg.length rc) ((bif b10 then (.slice rp f.rg.length rc) else undef)) (by cases b10 <;> rfl) (by cases b10 <;> rfl) (fun hc => by cases b10 <;> first | (cases hc; done) | exact (load1 22 _ ⟨B1, 3, none⟩ _ rfl rfl (fun _ => by kernel_rfl) (M.get List.mem_cons_self 3 _ rfl))) ?_
      simp only [aP, lI, l0, lS]
      refine mayL (b10) (.pointer (some ⟨B1, 1, none⟩)) ((bif b10 then (.pointer (some ⟨B1, 1, none⟩)) else undef)) (by cases b10 <;> rfl) (by cases b10 <;> rfl) (fun hc => by cases b10 <;> first | (cases hc; done) | kernel_rfl) ?_
      simp only [aP, lI, l0, lS]
      refine mayL (b10) (.int .i64 f.pos) ((bif b10 then (.int .i64 f.pos) else undef)) (by cases b10 <;> rfl) (by cases b10 <;> rfl) (fun hc => by cases b10 <;> first | (cases hc; done) | exact (load1 3 _ ⟨B1, 1, none⟩ _ rfl rfl (fun _ => by kernel_rfl) (M.get List.mem_cons_self 1 _ rfl))) ?_
      simp only [aP, lI, l0, lS]
      refine mayL (b10) (.int .i64 (f.pos + 1)) ((bif b10 then (.int .i64 (f.pos + 1)) else undef)) (by cases b10 <;> rfl) (by cases b10 <;> rfl) (fun hc => by cases b10 <;> first | (cases hc; done) | exact (addI .i64 _ _ _ _ _ _ _ rfl rfl rfl (by have hg := inb_and hb10.symm hb8; rw [IntKind.wrap_i64]; omega) _)) ?_
      simp only [aP, lI, l0, lS]
      obtain ⟨b11, hb11⟩ : ∃ y_, y_ = (rsg f.rg (f.pos + 1) 4611686018427387903) := ⟨_, rfl⟩
      have hC : (b10) = true → Calls Try.prog 29 #[.slice rp f.rg.length rc, .int .i64 (f.pos + 1), .int .i64 4611686018427387903] w6 (fun e w' => e = .returned (.bool b11) ∧ Below w6.heap.size w6 w') := fun hc => (by rw [hb11]; exact rising_any rp rc f.rg (by have := hf.rmax; omega) _ _ (by have hg := inb_and (hb10.symm.trans hc) hb8; omega) (by decide) _ (hf.rg.below M.below (Nat.le_refl _)))
      refine mayCallL (b10) (.bool b11) ((bif b10 then (.bool b11) else undef)) 29 #[.slice rp f.rg.length rc, .int .i64 (f.pos + 1), .int .i64 4611686018427387903] (by cases b10 <;> rfl) (by cases b10 <;> rfl) (fun hc => by cases b10 <;> first | (cases hc; done) | (intro _; kernel_rfl)) hC ?_
      intro w7 l
      replace M := M.call l
      clear l hC
      simp only [aP, lI, l0, lS]
      obtain ⟨b12, hb12⟩ : ∃ y_, y_ = (b10 && b11) := ⟨_, rfl⟩
      refine readL (.bool b12) rfl (by subst hb12; cases b10 <;> rfl) ?_
      simp only [aP, lI, l0, lS]
      refine readL (.bool b12) rfl (by kernel_rfl) ?_
      simp only [aP, lI, l0, lS]
      refine mayL (b12) (.pointer (some ⟨B1, 4, none⟩)) ((bif b12 then (.pointer (some ⟨B1, 4, none⟩)) else undef)) (by cases b12 <;> rfl) (by cases b12 <;> rfl) (fun hc => by cases b12 <;> first | (cases hc; done) | kernel_rfl) ?_
      simp only [aP, lI, l0, lS]
      refine mayL (b12) (.slice bp f.byt.length bc) ((bif b12 then (.slice bp f.byt.length bc) else undef)) (by cases b12 <;> rfl) (by cases b12 <;> rfl) (fun hc => by cases b12 <;> first | (cases hc; done) | exact (load1 23 _ ⟨B1, 4, none⟩ _ rfl rfl (fun _ => by kernel_rfl) (M.get List.mem_cons_self 4 _ rfl))) ?_
      simp only [aP, lI, l0, lS]
      refine mayL (b12) (.pointer (some ⟨B1, 5, none⟩)) ((bif b12 then (.pointer (some ⟨B1, 5, none⟩)) else undef)) (by cases b12 <;> rfl) (by cases b12 <;> rfl) (fun hc => by cases b12 <;> first | (cases hc; done) | kernel_rfl) ?_
      simp only [aP, lI, l0, lS]
      refine mayL (b12) (.agg #[.int .u8 (bl f.tok 0), .int .u8 (bl f.tok 1), .int .u8 (bl f.tok 2), .int .u8 (bl f.tok 3), .int .u8 (bl f.tok 4), .int .u8 (bl f.tok 5), .int .u8 (bl f.tok 6), .int .u8 (bl f.tok 7)]) ((bif b12 then (.agg #[.int .u8 (bl f.tok 0), .int .u8 (bl f.tok 1), .int .u8 (bl f.tok 2), .int .u8 (bl f.tok 3), .int .u8 (bl f.tok 4), .int .u8 (bl f.tok 5), .int .u8 (bl f.tok 6), .int .u8 (bl f.tok 7)]) else undef)) (by cases b12 <;> rfl) (by cases b12 <;> rfl) (fun hc => by cases b12 <;> first | (cases hc; done) | exact (loadN 24 _ ⟨B1, 5, none⟩ [.int .u8 (bl f.tok 0), .int .u8 (bl f.tok 1), .int .u8 (bl f.tok 2), .int .u8 (bl f.tok 3), .int .u8 (bl f.tok 4), .int .u8 (bl f.tok 5), .int .u8 (bl f.tok 6), .int .u8 (bl f.tok 7)] rfl rfl (fun _ => by kernel_rfl) (fun _ => by kernel_rfl) (M.part List.mem_cons_self 5 _ rfl))) ?_
      simp only [aP, lI, l0, lS]
      refine mayL (b12) (.agg #[.int .i64 0, .int .i64 0, .int .i64 0, .slice none 0 0, .slice bp f.byt.length bc, .int .u8 (bl f.tok 0), .int .u8 (bl f.tok 1), .int .u8 (bl f.tok 2), .int .u8 (bl f.tok 3), .int .u8 (bl f.tok 4), .int .u8 (bl f.tok 5), .int .u8 (bl f.tok 6), .int .u8 (bl f.tok 7)]) ((bif b12 then (.agg #[.int .i64 0, .int .i64 0, .int .i64 0, .slice none 0 0, .slice bp f.byt.length bc, .int .u8 (bl f.tok 0), .int .u8 (bl f.tok 1), .int .u8 (bl f.tok 2), .int .u8 (bl f.tok 3), .int .u8 (bl f.tok 4), .int .u8 (bl f.tok 5), .int .u8 (bl f.tok 6), .int .u8 (bl f.tok 7)]) else undef)) (by cases b12 <;> rfl) (by cases b12 <;> rfl) (fun hc => by cases b12 <;> first | (cases hc; done) | kernel_rfl) ?_
      simp only [aP, lI, l0, lS]
      obtain ⟨b13, hb13⟩ : ∃ y_, y_ = (blk 0 0 0 f.byt.length (bl f.tok)) := ⟨_, rfl⟩
      have hC : Calls Try.prog 28 #[.agg #[.int .i64 0, .int .i64 0, .int .i64 0, .slice none 0 0, .slice bp f.byt.length bc, .int .u8 (bl f.tok 0), .int .u8 (bl f.tok 1), .int .u8 (bl f.tok 2), .int .u8 (bl f.tok 3), .int .u8 (bl f.tok 4), .int .u8 (bl f.tok 5), .int .u8 (bl f.tok 6), .int .u8 (bl f.tok 7)]] w7 (fun e w' => e = .returned (.bool b13) ∧ Below w7.heap.size w7 w') := (by rw [hb13]; exact blank_any _ _ _ _ _ _ _ _ (bl f.tok) htok _)
      refine mayCallL (b12) (.bool b13) ((bif b12 then (.bool b13) else undef)) 28 #[.agg #[.int .i64 0, .int .i64 0, .int .i64 0, .slice none 0 0, .slice bp f.byt.length bc, .int .u8 (bl f.tok 0), .int .u8 (bl f.tok 1), .int .u8 (bl f.tok 2), .int .u8 (bl f.tok 3), .int .u8 (bl f.tok 4), .int .u8 (bl f.tok 5), .int .u8 (bl f.tok 6), .int .u8 (bl f.tok 7)]] (by cases b12 <;> rfl) (by cases b12 <;> rfl) (fun hc => by cases b12 <;> first | (cases hc; done) | (intro _; kernel_rfl)) (fun _ => hC) ?_
      intro w8 l
      replace M := M.call l
      clear l hC
      simp only [aP, lI, l0, lS]
      obtain ⟨b14, hb14⟩ : ∃ y_, y_ = (b12 && b13) := ⟨_, rfl⟩
      refine readL (.bool b14) rfl (by subst hb14; cases b12 <;> rfl) ?_
      simp only [aP, lI, l0, lS]
      refine readL (.bool b14) rfl (by kernel_rfl) ?_
      simp only [aP, lI, l0, lS]
      first | show Exit.then _ _ _ _ _ | show Exit.inBlock _ _ _ _ _
      have hK := show Hid _ from (show b14 = fok f by
        have e8 := tok_z8 hf.wf.eight hf.wf.tok
        have mxe : MX = 4611686018427387903 := rfl
        have n1 := @nmb_iff f.pos
        have n2 := @nmb_iff f.lim
        rw [hb14, hb13, hb12, hb11, hb10, hb9, hb8]
        rw [Bool.eq_iff_iff]
        unfold fok fkd foth
        simp only [k2, Bool.and_eq_true, Bool.not_eq_true', Bool.or_eq_false_iff, Bool.and_eq_false_iff, inb_iff, blk_iff, rsg_true, nmb_iff, decide_eq_false_iff_not, if_true, ne_eq, e8, mxe]
        grind)
      try clear hb1
      try clear hb7
      try clear hb8
      try clear hb9
      try clear hb10
      try clear hb11
      try clear hb12
      try clear hb13
      try clear hb14
      try clear k1
      try clear k2
      try clear k3
      try clear k4
      try clear k5
      try clear k6
      try clear k7
      go_wp2
      go_ret
      exact ⟨by rw [← hK.out] <;> rfl, M.below⟩
    | false =>
      have k2 : ¬ f.kind = 2 := by simpa using hb7.symm
      go_upto_region 6 with fail
      refine wp_region_list ?_
      obtain ⟨b15, hb15⟩ : ∃ y_, y_ = ((f.kind : Int) == (3 : Int)) := ⟨_, rfl⟩
      refine readL (.bool b15) rfl (eqlI .i64 _ _ _ _ _ _ rfl rfl rfl b15 hb15.symm _) ?_
      simp only [aP, lI, l0, lS]
      refine readL (.bool b15) rfl (by kernel_rfl) ?_
      simp only [aP, lI, l0, lS]
      first | show Exit.then _ _ _ _ _ | show Exit.inBlock _ _ _ _ _
      cases b15 with
      | true =>
        have k3 : f.kind = 3 := by simpa using hb15.symm
        go_upto_region 8 with fail
        refine wp_region_list ?_
        refine readL (.pointer (some ⟨B1, 1, none⟩)) rfl (by kernel_rfl) ?_
        simp only [aP, lI, l0, lS]
        refine readL (.int .i64 f.pos) rfl (load1 3 _ ⟨B1, 1, none⟩ _ rfl rfl (fun _ => by kernel_rfl) (M.get List.mem_cons_self 1 _ rfl)) ?_
        simp only [aP, lI, l0, lS]
        refine readL (.pointer (some ⟨B1, 2, none⟩)) rfl (by kernel_rfl) ?_
        simp only [aP, lI, l0, lS]
        refine readL (.int .i64 f.lim) rfl (load1 3 _ ⟨B1, 2, none⟩ _ rfl rfl (fun _ => by kernel_rfl) (M.get List.mem_cons_self 2 _ rfl)) ?_
        simp only [aP, lI, l0, lS]
        refine readL (.pointer (some ⟨B1, 3, none⟩)) rfl (by kernel_rfl) ?_
        simp only [aP, lI, l0, lS]
        refine readL (.slice rp f.rg.length rc) rfl (load1 22 _ ⟨B1, 3, none⟩ _ rfl rfl (fun _ => by kernel_rfl) (M.get List.mem_cons_self 3 _ rfl)) ?_
        simp only [aP, lI, l0, lS]
        refine readL (.pointer (some ⟨B1, 4, none⟩)) rfl (by kernel_rfl) ?_
        simp only [aP, lI, l0, lS]
        refine readL (.slice bp f.byt.length bc) rfl (load1 23 _ ⟨B1, 4, none⟩ _ rfl rfl (fun _ => by kernel_rfl) (M.get List.mem_cons_self 4 _ rfl)) ?_
        simp only [aP, lI, l0, lS]
        refine readL (.agg #[.int .i64 0, .int .i64 f.pos, .int .i64 f.lim, .slice rp f.rg.length rc, .slice bp f.byt.length bc, .int .u8 0, .int .u8 0, .int .u8 0, .int .u8 0, .int .u8 0, .int .u8 0, .int .u8 0, .int .u8 0]) rfl (by kernel_rfl) ?_
        simp only [aP, lI, l0, lS]
        obtain ⟨b16, hb16⟩ : ∃ y_, y_ = (blk f.pos f.lim f.rg.length f.byt.length (fun _ => 0)) := ⟨_, rfl⟩
        have hC : Calls Try.prog 28 #[.agg #[.int .i64 0, .int .i64 f.pos, .int .i64 f.lim, .slice rp f.rg.length rc, .slice bp f.byt.length bc, .int .u8 0, .int .u8 0, .int .u8 0, .int .u8 0, .int .u8 0, .int .u8 0, .int .u8 0, .int .u8 0]] w1 (fun e w' => e = .returned (.bool b16) ∧ Below w1.heap.size w1 w') := (by rw [hb16]; exact blank_any _ _ _ _ _ _ _ _ (fun _ => 0) (fun _ _ => ⟨Int.le_refl _, show (0 : Int) < 256 by decide⟩) _)
        refine callL rfl (fun _ => by kernel_rfl) (hC) ?_
        rintro e w9 ⟨rfl, l⟩
        replace M := M.call l
        refine ⟨_, rfl, ?_⟩
        clear l hC
        simp only [aP, lI, l0, lS]
        refine readL (.bool b16) rfl (by kernel_rfl) ?_
        simp only [aP, lI, l0, lS]
        first | show Exit.then _ _ _ _ _ | show Exit.inBlock _ _ _ _ _
        have hK := show Hid _ from (show b16 = fok f by
          have e8 := tok_z8 hf.wf.eight hf.wf.tok
          have mxe : MX = 4611686018427387903 := rfl
          have n1 := @nmb_iff f.pos
          have n2 := @nmb_iff f.lim
          rw [hb16]
          rw [Bool.eq_iff_iff]
          unfold fok fkd foth
          simp only [k3, Bool.and_eq_true, Bool.not_eq_true', Bool.or_eq_false_iff, Bool.and_eq_false_iff, blk_iff, nmb_iff, decide_eq_false_iff_not, ne_eq, mxe]
          grind)
        try clear hb1
        try clear hb7
        try clear hb15
        try clear hb16
        try clear k1
        try clear k2
        try clear k3
        try clear k4
        try clear k5
        try clear k6
        try clear k7
        go_wp2
        go_ret
        exact ⟨by rw [← hK.out] <;> rfl, M.below⟩
      | false =>
        have k3 : ¬ f.kind = 3 := by simpa using hb15.symm
        go_upto_region 7 with fail
        refine wp_region_list ?_
        obtain ⟨b17, hb17⟩ : ∃ y_, y_ = ((f.kind : Int) == (4 : Int)) := ⟨_, rfl⟩
        refine readL (.bool b17) rfl (eqlI .i64 _ _ _ _ _ _ rfl rfl rfl b17 hb17.symm _) ?_
        simp only [aP, lI, l0, lS]
        refine readL (.bool b17) rfl (by kernel_rfl) ?_
        simp only [aP, lI, l0, lS]
        first | show Exit.then _ _ _ _ _ | show Exit.inBlock _ _ _ _ _
        cases b17 with
        | true =>
          have k4 : f.kind = 4 := by simpa using hb17.symm
          go_upto_region 8 with fail
          refine wp_region_list ?_
          refine readL (.pointer (some ⟨B1, 1, none⟩)) rfl (by kernel_rfl) ?_
          simp only [aP, lI, l0, lS]
          refine readL (.int .i64 f.pos) rfl (load1 3 _ ⟨B1, 1, none⟩ _ rfl rfl (fun _ => by kernel_rfl) (M.get List.mem_cons_self 1 _ rfl)) ?_
          simp only [aP, lI, l0, lS]
          refine readL (.pointer (some ⟨B1, 2, none⟩)) rfl (by kernel_rfl) ?_
          simp only [aP, lI, l0, lS]
          refine readL (.int .i64 f.lim) rfl (load1 3 _ ⟨B1, 2, none⟩ _ rfl rfl (fun _ => by kernel_rfl) (M.get List.mem_cons_self 2 _ rfl)) ?_
          simp only [aP, lI, l0, lS]
          refine readL (.pointer (some ⟨B1, 3, none⟩)) rfl (by kernel_rfl) ?_
          simp only [aP, lI, l0, lS]
          refine readL (.slice rp f.rg.length rc) rfl (load1 22 _ ⟨B1, 3, none⟩ _ rfl rfl (fun _ => by kernel_rfl) (M.get List.mem_cons_self 3 _ rfl)) ?_
          simp only [aP, lI, l0, lS]
          refine readL (.pointer (some ⟨B1, 4, none⟩)) rfl (by kernel_rfl) ?_
          simp only [aP, lI, l0, lS]
          refine readL (.slice bp f.byt.length bc) rfl (load1 23 _ ⟨B1, 4, none⟩ _ rfl rfl (fun _ => by kernel_rfl) (M.get List.mem_cons_self 4 _ rfl)) ?_
          simp only [aP, lI, l0, lS]
          refine readL (.agg #[.int .i64 0, .int .i64 f.pos, .int .i64 f.lim, .slice rp f.rg.length rc, .slice bp f.byt.length bc, .int .u8 0, .int .u8 0, .int .u8 0, .int .u8 0, .int .u8 0, .int .u8 0, .int .u8 0, .int .u8 0]) rfl (by kernel_rfl) ?_
          simp only [aP, lI, l0, lS]
          obtain ⟨b18, hb18⟩ : ∃ y_, y_ = (blk f.pos f.lim f.rg.length f.byt.length (fun _ => 0)) := ⟨_, rfl⟩
          have hC : Calls Try.prog 28 #[.agg #[.int .i64 0, .int .i64 f.pos, .int .i64 f.lim, .slice rp f.rg.length rc, .slice bp f.byt.length bc, .int .u8 0, .int .u8 0, .int .u8 0, .int .u8 0, .int .u8 0, .int .u8 0, .int .u8 0, .int .u8 0]] w1 (fun e w' => e = .returned (.bool b18) ∧ Below w1.heap.size w1 w') := (by rw [hb18]; exact blank_any _ _ _ _ _ _ _ _ (fun _ => 0) (fun _ _ => ⟨Int.le_refl _, show (0 : Int) < 256 by decide⟩) _)
          refine callL rfl (fun _ => by kernel_rfl) (hC) ?_
          rintro e w10 ⟨rfl, l⟩
          replace M := M.call l
          refine ⟨_, rfl, ?_⟩
          clear l hC
          simp only [aP, lI, l0, lS]
          refine readL (.bool b18) rfl (by kernel_rfl) ?_
          simp only [aP, lI, l0, lS]
          first | show Exit.then _ _ _ _ _ | show Exit.inBlock _ _ _ _ _
          have hK := show Hid _ from (show b18 = fok f by
            have e8 := tok_z8 hf.wf.eight hf.wf.tok
            have mxe : MX = 4611686018427387903 := rfl
            have n1 := @nmb_iff f.pos
            have n2 := @nmb_iff f.lim
            rw [hb18]
            rw [Bool.eq_iff_iff]
            unfold fok fkd foth
            simp only [k4, Bool.and_eq_true, Bool.not_eq_true', Bool.or_eq_false_iff, Bool.and_eq_false_iff, blk_iff, nmb_iff, decide_eq_false_iff_not, ne_eq, mxe]
            grind)
          try clear hb1
          try clear hb7
          try clear hb15
          try clear hb17
          try clear hb18
          try clear k1
          try clear k2
          try clear k3
          try clear k4
          try clear k5
          try clear k6
          try clear k7
          go_wp2
          go_ret
          exact ⟨by rw [← hK.out] <;> rfl, M.below⟩
        | false =>
          have k4 : ¬ f.kind = 4 := by simpa using hb17.symm
          go_upto_region 9 with fail
          refine wp_region_list ?_
          obtain ⟨b19, hb19⟩ : ∃ y_, y_ = ((f.kind : Int) == (5 : Int)) := ⟨_, rfl⟩
          refine readL (.bool b19) rfl (eqlI .i64 _ _ _ _ _ _ rfl rfl rfl b19 hb19.symm _) ?_
          simp only [aP, lI, l0, lS]
          refine readL (.bool b19) rfl (by kernel_rfl) ?_
          simp only [aP, lI, l0, lS]
          first | show Exit.then _ _ _ _ _ | show Exit.inBlock _ _ _ _ _
          cases b19 with
          | true =>
            have k5 : f.kind = 5 := by simpa using hb19.symm
            go_upto_region 10 with fail
            refine wp_region_list ?_
            refine readL (.pointer (some ⟨B1, 1, none⟩)) rfl (by kernel_rfl) ?_
            simp only [aP, lI, l0, lS]
            refine readL (.int .i64 f.pos) rfl (load1 3 _ ⟨B1, 1, none⟩ _ rfl rfl (fun _ => by kernel_rfl) (M.get List.mem_cons_self 1 _ rfl)) ?_
            simp only [aP, lI, l0, lS]
            obtain ⟨b20, hb20⟩ : ∃ y_, y_ = (inb f.pos 0 65535) := ⟨_, rfl⟩
            have hC : Calls Try.prog 27 #[.int .i64 f.pos, .int .i64 0, .int .i64 65535] w1 (fun e w' => e = .returned (.bool b20) ∧ Below w1.heap.size w1 w') := (by rw [hb20]; exact within_any _ _ _ _)
            refine callL rfl (fun _ => by kernel_rfl) (hC) ?_
            rintro e w11 ⟨rfl, l⟩
            replace M := M.call l
            refine ⟨_, rfl, ?_⟩
            clear l hC
            simp only [aP, lI, l0, lS]
            refine readL (.bool b20) rfl (by kernel_rfl) ?_
            simp only [aP, lI, l0, lS]
            refine mayL (b20) (.pointer (some ⟨B1, 2, none⟩)) ((bif b20 then (.pointer (some ⟨B1, 2, none⟩)) else undef)) (by cases b20 <;> rfl) (by cases b20 <;> rfl) (fun hc => by cases b20 <;> first | (cases hc; done) | kernel_rfl) ?_
            simp only [aP, lI, l0, lS]
            refine mayL (b20) (.int .i64 f.lim) ((bif b20 then (.int .i64 f.lim) else undef)) (by cases b20 <;> rfl) (by cases b20 <;> rfl) (fun hc => by cases b20 <;> first | (cases hc; done) | exact (load1 3 _ ⟨B1, 2, none⟩ _ rfl rfl (fun _ => by kernel_rfl) (M.get List.mem_cons_self 2 _ rfl))) ?_
            simp only [aP, lI, l0, lS]
            refine mayL (b20) (.pointer (some ⟨B1, 3, none⟩)) ((bif b20 then (.pointer (some ⟨B1, 3, none⟩)) else undef)) (by cases b20 <;> rfl) (by cases b20 <;> rfl) (fun hc => by cases b20 <;> first | (cases hc; done) | kernel_rfl) ?_
            simp only [aP, lI, l0, lS]
            refine mayL (b20) (.slice rp f.rg.length rc) ((bif b20 then (.slice rp f.rg.length rc) else undef)) (by cases b20 <;> rfl) (by cases b20 <;> rfl) (fun hc => by cases b20 <;> first | (cases hc; done) | exact (load1 22 _ ⟨B1, 3, none⟩ _ rfl rfl (fun _ => by kernel_rfl) (M.get List.mem_cons_self 3 _ rfl))) ?_
            simp only [aP, lI, l0, lS]
            refine mayL (b20) (.pointer (some ⟨B1, 4, none⟩)) ((bif b20 then (.pointer (some ⟨B1, 4, none⟩)) else undef)) (by cases b20 <;> rfl) (by cases b20 <;> rfl) (fun hc => by cases b20 <;> first | (cases hc; done) | kernel_rfl) ?_
            simp only [aP, lI, l0, lS]
            refine mayL (b20) (.slice bp f.byt.length bc) ((bif b20 then (.slice bp f.byt.length bc) else undef)) (by cases b20 <;> rfl) (by cases b20 <;> rfl) (fun hc => by cases b20 <;> first | (cases hc; done) | exact (load1 23 _ ⟨B1, 4, none⟩ _ rfl rfl (fun _ => by kernel_rfl) (M.get List.mem_cons_self 4 _ rfl))) ?_
            simp only [aP, lI, l0, lS]
            refine mayL (b20) (.pointer (some ⟨B1, 5, none⟩)) ((bif b20 then (.pointer (some ⟨B1, 5, none⟩)) else undef)) (by cases b20 <;> rfl) (by cases b20 <;> rfl) (fun hc => by cases b20 <;> first | (cases hc; done) | kernel_rfl) ?_
            simp only [aP, lI, l0, lS]
            refine mayL (b20) (.agg #[.int .u8 (bl f.tok 0), .int .u8 (bl f.tok 1), .int .u8 (bl f.tok 2), .int .u8 (bl f.tok 3), .int .u8 (bl f.tok 4), .int .u8 (bl f.tok 5), .int .u8 (bl f.tok 6), .int .u8 (bl f.tok 7)]) ((bif b20 then (.agg #[.int .u8 (bl f.tok 0), .int .u8 (bl f.tok 1), .int .u8 (bl f.tok 2), .int .u8 (bl f.tok 3), .int .u8 (bl f.tok 4), .int .u8 (bl f.tok 5), .int .u8 (bl f.tok 6), .int .u8 (bl f.tok 7)]) else undef)) (by cases b20 <;> rfl) (by cases b20 <;> rfl) (fun hc => by cases b20 <;> first | (cases hc; done) | exact (loadN 24 _ ⟨B1, 5, none⟩ [.int .u8 (bl f.tok 0), .int .u8 (bl f.tok 1), .int .u8 (bl f.tok 2), .int .u8 (bl f.tok 3), .int .u8 (bl f.tok 4), .int .u8 (bl f.tok 5), .int .u8 (bl f.tok 6), .int .u8 (bl f.tok 7)] rfl rfl (fun _ => by kernel_rfl) (fun _ => by kernel_rfl) (M.part List.mem_cons_self 5 _ rfl))) ?_
            simp only [aP, lI, l0, lS]
            refine mayL (b20) (.agg #[.int .i64 0, .int .i64 0, .int .i64 f.lim, .slice rp f.rg.length rc, .slice bp f.byt.length bc, .int .u8 (bl f.tok 0), .int .u8 (bl f.tok 1), .int .u8 (bl f.tok 2), .int .u8 (bl f.tok 3), .int .u8 (bl f.tok 4), .int .u8 (bl f.tok 5), .int .u8 (bl f.tok 6), .int .u8 (bl f.tok 7)]) ((bif b20 then (.agg #[.int .i64 0, .int .i64 0, .int .i64 f.lim, .slice rp f.rg.length rc, .slice bp f.byt.length bc, .int .u8 (bl f.tok 0), .int .u8 (bl f.tok 1), .int .u8 (bl f.tok 2), .int .u8 (bl f.tok 3), .int .u8 (bl f.tok 4), .int .u8 (bl f.tok 5), .int .u8 (bl f.tok 6), .int .u8 (bl f.tok 7)]) else undef)) (by cases b20 <;> rfl) (by cases b20 <;> rfl) (fun hc => by cases b20 <;> first | (cases hc; done) | kernel_rfl) ?_
            simp only [aP, lI, l0, lS]
            obtain ⟨b21, hb21⟩ : ∃ y_, y_ = (blk 0 f.lim f.rg.length f.byt.length (bl f.tok)) := ⟨_, rfl⟩
            have hC : Calls Try.prog 28 #[.agg #[.int .i64 0, .int .i64 0, .int .i64 f.lim, .slice rp f.rg.length rc, .slice bp f.byt.length bc, .int .u8 (bl f.tok 0), .int .u8 (bl f.tok 1), .int .u8 (bl f.tok 2), .int .u8 (bl f.tok 3), .int .u8 (bl f.tok 4), .int .u8 (bl f.tok 5), .int .u8 (bl f.tok 6), .int .u8 (bl f.tok 7)]] w11 (fun e w' => e = .returned (.bool b21) ∧ Below w11.heap.size w11 w') := (by rw [hb21]; exact blank_any _ _ _ _ _ _ _ _ (bl f.tok) htok _)
            refine mayCallL (b20) (.bool b21) ((bif b20 then (.bool b21) else undef)) 28 #[.agg #[.int .i64 0, .int .i64 0, .int .i64 f.lim, .slice rp f.rg.length rc, .slice bp f.byt.length bc, .int .u8 (bl f.tok 0), .int .u8 (bl f.tok 1), .int .u8 (bl f.tok 2), .int .u8 (bl f.tok 3), .int .u8 (bl f.tok 4), .int .u8 (bl f.tok 5), .int .u8 (bl f.tok 6), .int .u8 (bl f.tok 7)]] (by cases b20 <;> rfl) (by cases b20 <;> rfl) (fun hc => by cases b20 <;> first | (cases hc; done) | (intro _; kernel_rfl)) (fun _ => hC) ?_
            intro w12 l
            replace M := M.call l
            clear l hC
            simp only [aP, lI, l0, lS]
            obtain ⟨b22, hb22⟩ : ∃ y_, y_ = (b20 && b21) := ⟨_, rfl⟩
            refine readL (.bool b22) rfl (by subst hb22; cases b20 <;> rfl) ?_
            simp only [aP, lI, l0, lS]
            refine readL (.bool b22) rfl (by kernel_rfl) ?_
            simp only [aP, lI, l0, lS]
            first | show Exit.then _ _ _ _ _ | show Exit.inBlock _ _ _ _ _
            have hK := show Hid _ from (show b22 = fok f by
              have e8 := tok_z8 hf.wf.eight hf.wf.tok
              have mxe : MX = 4611686018427387903 := rfl
              have n1 := @nmb_iff f.pos
              have n2 := @nmb_iff f.lim
              rw [hb22, hb21, hb20]
              rw [Bool.eq_iff_iff]
              unfold fok fkd foth
              simp only [k5, Bool.and_eq_true, Bool.not_eq_true', Bool.or_eq_false_iff, Bool.and_eq_false_iff, inb_iff, blk_iff, nmb_iff, decide_eq_false_iff_not, if_true, ne_eq, e8, mxe]
              grind)
            try clear hb1
            try clear hb7
            try clear hb15
            try clear hb17
            try clear hb19
            try clear hb20
            try clear hb21
            try clear hb22
            try clear k1
            try clear k2
            try clear k3
            try clear k4
            try clear k5
            try clear k6
            try clear k7
            go_wp2
            go_ret
            exact ⟨by rw [← hK.out] <;> rfl, M.below⟩
          | false =>
            have k5 : ¬ f.kind = 5 := by simpa using hb19.symm
            go_upto_region 11 with fail
            refine wp_region_list ?_
            obtain ⟨b23, hb23⟩ : ∃ y_, y_ = ((f.kind : Int) == (6 : Int)) := ⟨_, rfl⟩
            refine readL (.bool b23) rfl (eqlI .i64 _ _ _ _ _ _ rfl rfl rfl b23 hb23.symm _) ?_
            simp only [aP, lI, l0, lS]
            refine readL (.bool b23) rfl (by kernel_rfl) ?_
            simp only [aP, lI, l0, lS]
            first | show Exit.then _ _ _ _ _ | show Exit.inBlock _ _ _ _ _
            cases b23 with
            | true =>
              have k6 : f.kind = 6 := by simpa using hb23.symm
              go_upto_region 12 with fail
              refine wp_region_list ?_
              refine readL (.pointer (some ⟨B1, 1, none⟩)) rfl (by kernel_rfl) ?_
              simp only [aP, lI, l0, lS]
              refine readL (.int .i64 f.pos) rfl (load1 3 _ ⟨B1, 1, none⟩ _ rfl rfl (fun _ => by kernel_rfl) (M.get List.mem_cons_self 1 _ rfl)) ?_
              simp only [aP, lI, l0, lS]
              obtain ⟨b24, hb24⟩ : ∃ y_, y_ = (inb f.pos 0 4611686018427387903) := ⟨_, rfl⟩
              have hC : Calls Try.prog 27 #[.int .i64 f.pos, .int .i64 0, .int .i64 4611686018427387903] w1 (fun e w' => e = .returned (.bool b24) ∧ Below w1.heap.size w1 w') := (by rw [hb24]; exact within_any _ _ _ _)
              refine callL rfl (fun _ => by kernel_rfl) (hC) ?_
              rintro e w13 ⟨rfl, l⟩
              replace M := M.call l
              refine ⟨_, rfl, ?_⟩
              clear l hC
              simp only [aP, lI, l0, lS]
              refine readL (.bool b24) rfl (by kernel_rfl) ?_
              simp only [aP, lI, l0, lS]
              refine mayL (b24) (.pointer (some ⟨B1, 2, none⟩)) ((bif b24 then (.pointer (some ⟨B1, 2, none⟩)) else undef)) (by cases b24 <;> rfl) (by cases b24 <;> rfl) (fun hc => by cases b24 <;> first | (cases hc; done) | kernel_rfl) ?_
              simp only [aP, lI, l0, lS]
              refine mayL (b24) (.int .i64 f.lim) ((bif b24 then (.int .i64 f.lim) else undef)) (by cases b24 <;> rfl) (by cases b24 <;> rfl) (fun hc => by cases b24 <;> first | (cases hc; done) | exact (load1 3 _ ⟨B1, 2, none⟩ _ rfl rfl (fun _ => by kernel_rfl) (M.get List.mem_cons_self 2 _ rfl))) ?_
              simp only [aP, lI, l0, lS]
              refine mayL (b24) (.pointer (some ⟨B1, 3, none⟩)) ((bif b24 then (.pointer (some ⟨B1, 3, none⟩)) else undef)) (by cases b24 <;> rfl) (by cases b24 <;> rfl) (fun hc => by cases b24 <;> first | (cases hc; done) | kernel_rfl) ?_
              simp only [aP, lI, l0, lS]
              refine mayL (b24) (.slice rp f.rg.length rc) ((bif b24 then (.slice rp f.rg.length rc) else undef)) (by cases b24 <;> rfl) (by cases b24 <;> rfl) (fun hc => by cases b24 <;> first | (cases hc; done) | exact (load1 22 _ ⟨B1, 3, none⟩ _ rfl rfl (fun _ => by kernel_rfl) (M.get List.mem_cons_self 3 _ rfl))) ?_
              simp only [aP, lI, l0, lS]
              refine mayL (b24) (.pointer (some ⟨B1, 4, none⟩)) ((bif b24 then (.pointer (some ⟨B1, 4, none⟩)) else undef)) (by cases b24 <;> rfl) (by cases b24 <;> rfl) (fun hc => by cases b24 <;> first | (cases hc; done) | kernel_rfl) ?_
              simp only [aP, lI, l0, lS]
              refine mayL (b24) (.slice bp f.byt.length bc) ((bif b24 then (.slice bp f.byt.length bc) else undef)) (by cases b24 <;> rfl) (by cases b24 <;> rfl) (fun hc => by cases b24 <;> first | (cases hc; done) | exact (load1 23 _ ⟨B1, 4, none⟩ _ rfl rfl (fun _ => by kernel_rfl) (M.get List.mem_cons_self 4 _ rfl))) ?_
              simp only [aP, lI, l0, lS]
              refine mayL (b24) (.pointer (some ⟨B1, 5, none⟩)) ((bif b24 then (.pointer (some ⟨B1, 5, none⟩)) else undef)) (by cases b24 <;> rfl) (by cases b24 <;> rfl) (fun hc => by cases b24 <;> first | (cases hc; done) | kernel_rfl) ?_
              simp only [aP, lI, l0, lS]
              refine mayL (b24) (.agg #[.int .u8 (bl f.tok 0), .int .u8 (bl f.tok 1), .int .u8 (bl f.tok 2), .int .u8 (bl f.tok 3), .int .u8 (bl f.tok 4), .int .u8 (bl f.tok 5), .int .u8 (bl f.tok 6), .int .u8 (bl f.tok 7)]) ((bif b24 then (.agg #[.int .u8 (bl f.tok 0), .int .u8 (bl f.tok 1), .int .u8 (bl f.tok 2), .int .u8 (bl f.tok 3), .int .u8 (bl f.tok 4), .int .u8 (bl f.tok 5), .int .u8 (bl f.tok 6), .int .u8 (bl f.tok 7)]) else undef)) (by cases b24 <;> rfl) (by cases b24 <;> rfl) (fun hc => by cases b24 <;> first | (cases hc; done) | exact (loadN 24 _ ⟨B1, 5, none⟩ [.int .u8 (bl f.tok 0), .int .u8 (bl f.tok 1), .int .u8 (bl f.tok 2), .int .u8 (bl f.tok 3), .int .u8 (bl f.tok 4), .int .u8 (bl f.tok 5), .int .u8 (bl f.tok 6), .int .u8 (bl f.tok 7)] rfl rfl (fun _ => by kernel_rfl) (fun _ => by kernel_rfl) (M.part List.mem_cons_self 5 _ rfl))) ?_
              simp only [aP, lI, l0, lS]
              refine mayL (b24) (.agg #[.int .i64 0, .int .i64 0, .int .i64 f.lim, .slice rp f.rg.length rc, .slice bp f.byt.length bc, .int .u8 (bl f.tok 0), .int .u8 (bl f.tok 1), .int .u8 (bl f.tok 2), .int .u8 (bl f.tok 3), .int .u8 (bl f.tok 4), .int .u8 (bl f.tok 5), .int .u8 (bl f.tok 6), .int .u8 (bl f.tok 7)]) ((bif b24 then (.agg #[.int .i64 0, .int .i64 0, .int .i64 f.lim, .slice rp f.rg.length rc, .slice bp f.byt.length bc, .int .u8 (bl f.tok 0), .int .u8 (bl f.tok 1), .int .u8 (bl f.tok 2), .int .u8 (bl f.tok 3), .int .u8 (bl f.tok 4), .int .u8 (bl f.tok 5), .int .u8 (bl f.tok 6), .int .u8 (bl f.tok 7)]) else undef)) (by cases b24 <;> rfl) (by cases b24 <;> rfl) (fun hc => by cases b24 <;> first | (cases hc; done) | kernel_rfl) ?_
              simp only [aP, lI, l0, lS]
              obtain ⟨b25, hb25⟩ : ∃ y_, y_ = (blk 0 f.lim f.rg.length f.byt.length (bl f.tok)) := ⟨_, rfl⟩
              have hC : Calls Try.prog 28 #[.agg #[.int .i64 0, .int .i64 0, .int .i64 f.lim, .slice rp f.rg.length rc, .slice bp f.byt.length bc, .int .u8 (bl f.tok 0), .int .u8 (bl f.tok 1), .int .u8 (bl f.tok 2), .int .u8 (bl f.tok 3), .int .u8 (bl f.tok 4), .int .u8 (bl f.tok 5), .int .u8 (bl f.tok 6), .int .u8 (bl f.tok 7)]] w13 (fun e w' => e = .returned (.bool b25) ∧ Below w13.heap.size w13 w') := (by rw [hb25]; exact blank_any _ _ _ _ _ _ _ _ (bl f.tok) htok _)
              refine mayCallL (b24) (.bool b25) ((bif b24 then (.bool b25) else undef)) 28 #[.agg #[.int .i64 0, .int .i64 0, .int .i64 f.lim, .slice rp f.rg.length rc, .slice bp f.byt.length bc, .int .u8 (bl f.tok 0), .int .u8 (bl f.tok 1), .int .u8 (bl f.tok 2), .int .u8 (bl f.tok 3), .int .u8 (bl f.tok 4), .int .u8 (bl f.tok 5), .int .u8 (bl f.tok 6), .int .u8 (bl f.tok 7)]] (by cases b24 <;> rfl) (by cases b24 <;> rfl) (fun hc => by cases b24 <;> first | (cases hc; done) | (intro _; kernel_rfl)) (fun _ => hC) ?_
              intro w14 l
              replace M := M.call l
              clear l hC
              simp only [aP, lI, l0, lS]
              obtain ⟨b26, hb26⟩ : ∃ y_, y_ = (b24 && b25) := ⟨_, rfl⟩
              refine readL (.bool b26) rfl (by subst hb26; cases b24 <;> rfl) ?_
              simp only [aP, lI, l0, lS]
              refine readL (.bool b26) rfl (by kernel_rfl) ?_
              simp only [aP, lI, l0, lS]
              first | show Exit.then _ _ _ _ _ | show Exit.inBlock _ _ _ _ _
              have hK := show Hid _ from (show b26 = fok f by
                have e8 := tok_z8 hf.wf.eight hf.wf.tok
                have mxe : MX = 4611686018427387903 := rfl
                have n1 := @nmb_iff f.pos
                have n2 := @nmb_iff f.lim
                rw [hb26, hb25, hb24]
                rw [Bool.eq_iff_iff]
                unfold fok fkd foth
                simp only [k6, Bool.and_eq_true, Bool.not_eq_true', Bool.or_eq_false_iff, Bool.and_eq_false_iff, inb_iff, blk_iff, nmb_iff, decide_eq_false_iff_not, if_true, ne_eq, e8, mxe]
                grind)
              try clear hb1
              try clear hb7
              try clear hb15
              try clear hb17
              try clear hb19
              try clear hb23
              try clear hb24
              try clear hb25
              try clear hb26
              try clear k1
              try clear k2
              try clear k3
              try clear k4
              try clear k5
              try clear k6
              try clear k7
              go_wp2
              go_ret
              exact ⟨by rw [← hK.out] <;> rfl, M.below⟩
            | false =>
              have k6 : ¬ f.kind = 6 := by simpa using hb23.symm
              go_upto_region 13 with fail
              refine wp_region_list ?_
              obtain ⟨b27, hb27⟩ : ∃ y_, y_ = ((f.kind : Int) == (7 : Int)) := ⟨_, rfl⟩
              refine readL (.bool b27) rfl (eqlI .i64 _ _ _ _ _ _ rfl rfl rfl b27 hb27.symm _) ?_
              simp only [aP, lI, l0, lS]
              refine readL (.bool b27) rfl (by kernel_rfl) ?_
              simp only [aP, lI, l0, lS]
              first | show Exit.then _ _ _ _ _ | show Exit.inBlock _ _ _ _ _
              cases b27 with
              | true =>
                have k7 : f.kind = 7 := by simpa using hb27.symm
                go_upto_region 14 with fail
                refine wp_region_list ?_
                refine readL (.pointer (some ⟨B1, 1, none⟩)) rfl (by kernel_rfl) ?_
                simp only [aP, lI, l0, lS]
                refine readL (.int .i64 f.pos) rfl (load1 3 _ ⟨B1, 1, none⟩ _ rfl rfl (fun _ => by kernel_rfl) (M.get List.mem_cons_self 1 _ rfl)) ?_
                simp only [aP, lI, l0, lS]
                obtain ⟨b28, hb28⟩ : ∃ y_, y_ = (inb f.pos 0 4611686018427387903) := ⟨_, rfl⟩
                have hC : Calls Try.prog 27 #[.int .i64 f.pos, .int .i64 0, .int .i64 4611686018427387903] w1 (fun e w' => e = .returned (.bool b28) ∧ Below w1.heap.size w1 w') := (by rw [hb28]; exact within_any _ _ _ _)
                refine callL rfl (fun _ => by kernel_rfl) (hC) ?_
                rintro e w15 ⟨rfl, l⟩
                replace M := M.call l
                refine ⟨_, rfl, ?_⟩
                clear l hC
                simp only [aP, lI, l0, lS]
                refine readL (.bool b28) rfl (by kernel_rfl) ?_
                simp only [aP, lI, l0, lS]
                refine mayL (b28) (.pointer (some ⟨B1, 2, none⟩)) ((bif b28 then (.pointer (some ⟨B1, 2, none⟩)) else undef)) (by cases b28 <;> rfl) (by cases b28 <;> rfl) (fun hc => by cases b28 <;> first | (cases hc; done) | kernel_rfl) ?_
                simp only [aP, lI, l0, lS]
                refine mayL (b28) (.int .i64 f.lim) ((bif b28 then (.int .i64 f.lim) else undef)) (by cases b28 <;> rfl) (by cases b28 <;> rfl) (fun hc => by cases b28 <;> first | (cases hc; done) | exact (load1 3 _ ⟨B1, 2, none⟩ _ rfl rfl (fun _ => by kernel_rfl) (M.get List.mem_cons_self 2 _ rfl))) ?_
                simp only [aP, lI, l0, lS]
                obtain ⟨b29, hb29⟩ : ∃ y_, y_ = (inb f.lim 0 65535) := ⟨_, rfl⟩
                have hC : Calls Try.prog 27 #[.int .i64 f.lim, .int .i64 0, .int .i64 65535] w15 (fun e w' => e = .returned (.bool b29) ∧ Below w15.heap.size w15 w') := (by rw [hb29]; exact within_any _ _ _ _)
                refine mayCallL (b28) (.bool b29) ((bif b28 then (.bool b29) else undef)) 27 #[.int .i64 f.lim, .int .i64 0, .int .i64 65535] (by cases b28 <;> rfl) (by cases b28 <;> rfl) (fun hc => by cases b28 <;> first | (cases hc; done) | (intro _; kernel_rfl)) (fun _ => hC) ?_
                intro w16 l
                replace M := M.call l
                clear l hC
                simp only [aP, lI, l0, lS]
                obtain ⟨b30, hb30⟩ : ∃ y_, y_ = (b28 && b29) := ⟨_, rfl⟩
                refine readL (.bool b30) rfl (by subst hb30; cases b28 <;> rfl) ?_
                simp only [aP, lI, l0, lS]
                refine readL (.bool b30) rfl (by kernel_rfl) ?_
                simp only [aP, lI, l0, lS]
                refine mayL (b30) (.pointer (some ⟨B1, 3, none⟩)) ((bif b30 then (.pointer (some ⟨B1, 3, none⟩)) else undef)) (by cases b30 <;> rfl) (by cases b30 <;> rfl) (fun hc => by cases b30 <;> first | (cases hc; done) | kernel_rfl) ?_
                simp only [aP, lI, l0, lS]
                refine mayL (b30) (.slice rp f.rg.length rc) ((bif b30 then (.slice rp f.rg.length rc) else undef)) (by cases b30 <;> rfl) (by cases b30 <;> rfl) (fun hc => by cases b30 <;> first | (cases hc; done) | exact (load1 22 _ ⟨B1, 3, none⟩ _ rfl rfl (fun _ => by kernel_rfl) (M.get List.mem_cons_self 3 _ rfl))) ?_
                simp only [aP, lI, l0, lS]
                refine mayL (b30) (.pointer (some ⟨B1, 1, none⟩)) ((bif b30 then (.pointer (some ⟨B1, 1, none⟩)) else undef)) (by cases b30 <;> rfl) (by cases b30 <;> rfl) (fun hc => by cases b30 <;> first | (cases hc; done) | kernel_rfl) ?_
                simp only [aP, lI, l0, lS]
                refine mayL (b30) (.int .i64 f.pos) ((bif b30 then (.int .i64 f.pos) else undef)) (by cases b30 <;> rfl) (by cases b30 <;> rfl) (fun hc => by cases b30 <;> first | (cases hc; done) | exact (load1 3 _ ⟨B1, 1, none⟩ _ rfl rfl (fun _ => by kernel_rfl) (M.get List.mem_cons_self 1 _ rfl))) ?_
                simp only [aP, lI, l0, lS]
                obtain ⟨b31, hb31⟩ : ∃ y_, y_ = (rsg f.rg 0 f.pos) := ⟨_, rfl⟩
                have hC : (b30) = true → Calls Try.prog 29 #[.slice rp f.rg.length rc, .int .i64 0, .int .i64 f.pos] w16 (fun e w' => e = .returned (.bool b31) ∧ Below w16.heap.size w16 w') := fun hc => (by rw [hb31]; exact rising_any rp rc f.rg (by have := hf.rmax; omega) _ _ (Int.le_refl _) (inb_and (hb30.symm.trans hc) hb28).2 _ (hf.rg.below M.below (Nat.le_refl _)))
                refine mayCallL (b30) (.bool b31) ((bif b30 then (.bool b31) else undef)) 29 #[.slice rp f.rg.length rc, .int .i64 0, .int .i64 f.pos] (by cases b30 <;> rfl) (by cases b30 <;> rfl) (fun hc => by cases b30 <;> first | (cases hc; done) | (intro _; kernel_rfl)) hC ?_
                intro w17 l
                replace M := M.call l
                clear l hC
                simp only [aP, lI, l0, lS]
                obtain ⟨b32, hb32⟩ : ∃ y_, y_ = (b30 && b31) := ⟨_, rfl⟩
                refine readL (.bool b32) rfl (by subst hb32; cases b30 <;> rfl) ?_
                simp only [aP, lI, l0, lS]
                refine readL (.bool b32) rfl (by kernel_rfl) ?_
                simp only [aP, lI, l0, lS]
                refine mayL (b32) (.pointer (some ⟨B1, 4, none⟩)) ((bif b32 then (.pointer (some ⟨B1, 4, none⟩)) else undef)) (by cases b32 <;> rfl) (by cases b32 <;> rfl) (fun hc => by cases b32 <;> first | (cases hc; done) | kernel_rfl) ?_
                simp only [aP, lI, l0, lS]
                refine mayL (b32) (.slice bp f.byt.length bc) ((bif b32 then (.slice bp f.byt.length bc) else undef)) (by cases b32 <;> rfl) (by cases b32 <;> rfl) (fun hc => by cases b32 <;> first | (cases hc; done) | exact (load1 23 _ ⟨B1, 4, none⟩ _ rfl rfl (fun _ => by kernel_rfl) (M.get List.mem_cons_self 4 _ rfl))) ?_
                simp only [aP, lI, l0, lS]
                refine mayL (b32) (.pointer (some ⟨B1, 5, none⟩)) ((bif b32 then (.pointer (some ⟨B1, 5, none⟩)) else undef)) (by cases b32 <;> rfl) (by cases b32 <;> rfl) (fun hc => by cases b32 <;> first | (cases hc; done) | kernel_rfl) ?_
                simp only [aP, lI, l0, lS]
                refine mayL (b32) (.agg #[.int .u8 (bl f.tok 0), .int .u8 (bl f.tok 1), .int .u8 (bl f.tok 2), .int .u8 (bl f.tok 3), .int .u8 (bl f.tok 4), .int .u8 (bl f.tok 5), .int .u8 (bl f.tok 6), .int .u8 (bl f.tok 7)]) ((bif b32 then (.agg #[.int .u8 (bl f.tok 0), .int .u8 (bl f.tok 1), .int .u8 (bl f.tok 2), .int .u8 (bl f.tok 3), .int .u8 (bl f.tok 4), .int .u8 (bl f.tok 5), .int .u8 (bl f.tok 6), .int .u8 (bl f.tok 7)]) else undef)) (by cases b32 <;> rfl) (by cases b32 <;> rfl) (fun hc => by cases b32 <;> first | (cases hc; done) | exact (loadN 24 _ ⟨B1, 5, none⟩ [.int .u8 (bl f.tok 0), .int .u8 (bl f.tok 1), .int .u8 (bl f.tok 2), .int .u8 (bl f.tok 3), .int .u8 (bl f.tok 4), .int .u8 (bl f.tok 5), .int .u8 (bl f.tok 6), .int .u8 (bl f.tok 7)] rfl rfl (fun _ => by kernel_rfl) (fun _ => by kernel_rfl) (M.part List.mem_cons_self 5 _ rfl))) ?_
                simp only [aP, lI, l0, lS]
                refine mayL (b32) (.agg #[.int .i64 0, .int .i64 0, .int .i64 0, .slice none 0 0, .slice bp f.byt.length bc, .int .u8 (bl f.tok 0), .int .u8 (bl f.tok 1), .int .u8 (bl f.tok 2), .int .u8 (bl f.tok 3), .int .u8 (bl f.tok 4), .int .u8 (bl f.tok 5), .int .u8 (bl f.tok 6), .int .u8 (bl f.tok 7)]) ((bif b32 then (.agg #[.int .i64 0, .int .i64 0, .int .i64 0, .slice none 0 0, .slice bp f.byt.length bc, .int .u8 (bl f.tok 0), .int .u8 (bl f.tok 1), .int .u8 (bl f.tok 2), .int .u8 (bl f.tok 3), .int .u8 (bl f.tok 4), .int .u8 (bl f.tok 5), .int .u8 (bl f.tok 6), .int .u8 (bl f.tok 7)]) else undef)) (by cases b32 <;> rfl) (by cases b32 <;> rfl) (fun hc => by cases b32 <;> first | (cases hc; done) | kernel_rfl) ?_
                simp only [aP, lI, l0, lS]
                obtain ⟨b33, hb33⟩ : ∃ y_, y_ = (blk 0 0 0 f.byt.length (bl f.tok)) := ⟨_, rfl⟩
                have hC : Calls Try.prog 28 #[.agg #[.int .i64 0, .int .i64 0, .int .i64 0, .slice none 0 0, .slice bp f.byt.length bc, .int .u8 (bl f.tok 0), .int .u8 (bl f.tok 1), .int .u8 (bl f.tok 2), .int .u8 (bl f.tok 3), .int .u8 (bl f.tok 4), .int .u8 (bl f.tok 5), .int .u8 (bl f.tok 6), .int .u8 (bl f.tok 7)]] w17 (fun e w' => e = .returned (.bool b33) ∧ Below w17.heap.size w17 w') := (by rw [hb33]; exact blank_any _ _ _ _ _ _ _ _ (bl f.tok) htok _)
                refine mayCallL (b32) (.bool b33) ((bif b32 then (.bool b33) else undef)) 28 #[.agg #[.int .i64 0, .int .i64 0, .int .i64 0, .slice none 0 0, .slice bp f.byt.length bc, .int .u8 (bl f.tok 0), .int .u8 (bl f.tok 1), .int .u8 (bl f.tok 2), .int .u8 (bl f.tok 3), .int .u8 (bl f.tok 4), .int .u8 (bl f.tok 5), .int .u8 (bl f.tok 6), .int .u8 (bl f.tok 7)]] (by cases b32 <;> rfl) (by cases b32 <;> rfl) (fun hc => by cases b32 <;> first | (cases hc; done) | (intro _; kernel_rfl)) (fun _ => hC) ?_
                intro w18 l
                replace M := M.call l
                clear l hC
                simp only [aP, lI, l0, lS]
                obtain ⟨b34, hb34⟩ : ∃ y_, y_ = (b32 && b33) := ⟨_, rfl⟩
                refine readL (.bool b34) rfl (by subst hb34; cases b32 <;> rfl) ?_
                simp only [aP, lI, l0, lS]
                refine readL (.bool b34) rfl (by kernel_rfl) ?_
                simp only [aP, lI, l0, lS]
                first | show Exit.then _ _ _ _ _ | show Exit.inBlock _ _ _ _ _
                have hK := show Hid _ from (show b34 = fok f by
                  have e8 := tok_z8 hf.wf.eight hf.wf.tok
                  have mxe : MX = 4611686018427387903 := rfl
                  have n1 := @nmb_iff f.pos
                  have n2 := @nmb_iff f.lim
                  rw [hb34, hb33, hb32, hb31, hb30, hb29, hb28]
                  rw [Bool.eq_iff_iff]
                  unfold fok fkd foth
                  simp only [k7, Bool.and_eq_true, Bool.not_eq_true', Bool.or_eq_false_iff, Bool.and_eq_false_iff, inb_iff, blk_iff, rsg_false, nmb_iff, decide_eq_false_iff_not, if_true, ne_eq, e8, mxe]
                  grind)
                try clear hb1
                try clear hb7
                try clear hb15
                try clear hb17
                try clear hb19
                try clear hb23
                try clear hb27
                try clear hb28
                try clear hb29
                try clear hb30
                try clear hb31
                try clear hb32
                try clear hb33
                try clear hb34
                try clear k1
                try clear k2
                try clear k3
                try clear k4
                try clear k5
                try clear k6
                try clear k7
                go_wp2
                go_ret
                exact ⟨by rw [← hK.out] <;> rfl, M.below⟩
              | false =>
                have k7 : ¬ f.kind = 7 := by simpa using hb27.symm
                go_upto_region 15 with fail
                refine wp_region_list ?_
                refine readL (.bool false) rfl (by kernel_rfl) ?_
                simp only [aP, lI, l0, lS]
                first | show Exit.then _ _ _ _ _ | show Exit.inBlock _ _ _ _ _
                have hK := show Hid _ from (show false = fok f by
                  have e8 := tok_z8 hf.wf.eight hf.wf.tok
                  have mxe : MX = 4611686018427387903 := rfl
                  have n1 := @nmb_iff f.pos
                  have n2 := @nmb_iff f.lim
                  rw [Bool.eq_iff_iff]
                  unfold fok fkd foth
                  simp only [k1, k2, k3, k4, k5, k6, k7, Bool.and_eq_true, Bool.not_eq_true', Bool.or_eq_false_iff, Bool.and_eq_false_iff, nmb_iff, decide_eq_false_iff_not, if_false, ne_eq, mxe]
                  grind)
                try clear hb1
                try clear hb7
                try clear hb15
                try clear hb17
                try clear hb19
                try clear hb23
                try clear hb27
                try clear k1
                try clear k2
                try clear k3
                try clear k4
                try clear k5
                try clear k6
                try clear k7
                go_wp2
                go_ret
                exact ⟨by rw [← hK.out] <;> rfl, M.below⟩

set_option maxRecDepth 10000 in
set_option maxHeartbeats 32000000 in
theorem vcheck_any : CheckOK := by
  intro f rp rc bp bc w hf
  have M := Mm.init w
  have fold : (.agg #[.int .i64 f.kind, .int .i64 f.pos, .int .i64 f.lim, .slice rp f.rg.length rc, .slice bp f.byt.length bc, .int .u8 (bl f.tok 0), .int .u8 (bl f.tok 1), .int .u8 (bl f.tok 2), .int .u8 (bl f.tok 3), .int .u8 (bl f.tok 4), .int .u8 (bl f.tok 5), .int .u8 (bl f.tok 6), .int .u8 (bl f.tok 7)] : Value) = .agg (fcs f rp rc bp bc).toArray := rfl
  rw [← fold]
  go_enter Try.func10, Try.ntmps10
  go_upto_region 0 with fail
  refine wp_region_list ?_
  refine actL (w' := w.alloc (.cells #[.int .i64 f.kind, .int .i64 f.pos, .int .i64 f.lim, .slice rp f.rg.length rc, .slice bp f.byt.length bc, .int .u8 (bl f.tok 0), .int .u8 (bl f.tok 1), .int .u8 (bl f.tok 2), .int .u8 (bl f.tok 3), .int .u8 (bl f.tok 4), .int .u8 (bl f.tok 5), .int .u8 (bl f.tok 6), .int .u8 (bl f.tok 7)] 26)) (.pointer (some ⟨w.heap.size, 0, none⟩)) rfl (by kernel_rfl) ?_
  simp only [aP, lI, l0, lS]
  have hB_B1 : w.heap.size ≤ w.heap.size := M.below.size
  replace M := M.box #[.int .i64 f.kind, .int .i64 f.pos, .int .i64 f.lim, .slice rp f.rg.length rc, .slice bp f.byt.length bc, .int .u8 (bl f.tok 0), .int .u8 (bl f.tok 1), .int .u8 (bl f.tok 2), .int .u8 (bl f.tok 3), .int .u8 (bl f.tok 4), .int .u8 (bl f.tok 5), .int .u8 (bl f.tok 6), .int .u8 (bl f.tok 7)] 26 w.heap.size rfl
  generalize w.alloc (.cells #[.int .i64 f.kind, .int .i64 f.pos, .int .i64 f.lim, .slice rp f.rg.length rc, .slice bp f.byt.length bc, .int .u8 (bl f.tok 0), .int .u8 (bl f.tok 1), .int .u8 (bl f.tok 2), .int .u8 (bl f.tok 3), .int .u8 (bl f.tok 4), .int .u8 (bl f.tok 5), .int .u8 (bl f.tok 6), .int .u8 (bl f.tok 7)] 26) = w1 at M  ⊢
  generalize eB : w.heap.size = B1 at M hB_B1 ⊢
  have hE_B1 : w.heap.size ≤ B1 := Nat.le_of_eq eB
  have hF_B1 : B1 ≤ w.heap.size := Nat.le_of_eq eB.symm
  clear eB
  replace M : Mm w ([(B1, [.int .i64 f.kind, .int .i64 f.pos, .int .i64 f.lim, .slice rp f.rg.length rc, .slice bp f.byt.length bc, .int .u8 (bl f.tok 0), .int .u8 (bl f.tok 1), .int .u8 (bl f.tok 2), .int .u8 (bl f.tok 3), .int .u8 (bl f.tok 4), .int .u8 (bl f.tok 5), .int .u8 (bl f.tok 6), .int .u8 (bl f.tok 7)])]) w1 := M
  refine readL (.int .i64 0) rfl (by kernel_rfl) ?_
  simp only [aP, lI, l0, lS]
  first | show Exit.then _ _ _ _ _ | show Exit.inBlock _ _ _ _ _
  cases hok : fok f with
  | true =>
    go_upto_region 1 with fail
    refine wp_region_list ?_
    refine readL (.agg #[.int .i64 f.kind, .int .i64 f.pos, .int .i64 f.lim, .slice rp f.rg.length rc, .slice bp f.byt.length bc, .int .u8 (bl f.tok 0), .int .u8 (bl f.tok 1), .int .u8 (bl f.tok 2), .int .u8 (bl f.tok 3), .int .u8 (bl f.tok 4), .int .u8 (bl f.tok 5), .int .u8 (bl f.tok 6), .int .u8 (bl f.tok 7)]) rfl (loadN 26 _ ⟨B1, 0, none⟩ [.int .i64 f.kind, .int .i64 f.pos, .int .i64 f.lim, .slice rp f.rg.length rc, .slice bp f.byt.length bc, .int .u8 (bl f.tok 0), .int .u8 (bl f.tok 1), .int .u8 (bl f.tok 2), .int .u8 (bl f.tok 3), .int .u8 (bl f.tok 4), .int .u8 (bl f.tok 5), .int .u8 (bl f.tok 6), .int .u8 (bl f.tok 7)] rfl rfl (fun _ => by kernel_rfl) (fun _ => by kernel_rfl) (M.rangeAt List.mem_cons_self)) ?_
    simp only [aP, lI, l0, lS]
    have hC : Calls Try.prog 19 #[.agg #[.int .i64 f.kind, .int .i64 f.pos, .int .i64 f.lim, .slice rp f.rg.length rc, .slice bp f.byt.length bc, .int .u8 (bl f.tok 0), .int .u8 (bl f.tok 1), .int .u8 (bl f.tok 2), .int .u8 (bl f.tok 3), .int .u8 (bl f.tok 4), .int .u8 (bl f.tok 5), .int .u8 (bl f.tok 6), .int .u8 (bl f.tok 7)]] w1 (fun e w' => e = .returned (.bool true) ∧ Below w1.heap.size w1 w') := (by rw [← hok]; exact maybe_any f rp rc bp bc _ (hf.below M.below (Nat.le_refl _)))
    refine callL rfl (fun _ => by kernel_rfl) (hC) ?_
    rintro e w2 ⟨rfl, l⟩
    replace M := M.call l
    refine ⟨_, rfl, ?_⟩
    clear l hC
    simp only [aP, lI, l0, lS]
    refine readL (.bool false) rfl (by kernel_rfl) ?_
    simp only [aP, lI, l0, lS]
    first | show Exit.then _ _ _ _ _ | show Exit.inBlock _ _ _ _ _
    go_upto_region 3 with fail
    refine wp_region_list ?_
    refine readL (.int .i64 0) rfl (by kernel_rfl) ?_
    simp only [aP, lI, l0, lS]
    first | show Exit.then _ _ _ _ _ | show Exit.inBlock _ _ _ _ _
    have hK := show Hid _ from (fchk_ok hok)
    clear hok
    go_wp2
    go_ret
    exact ⟨by rw [hK.out] <;> rfl, M.below⟩
  | false =>
    go_upto_region 1 with fail
    refine wp_region_list ?_
    refine readL (.agg #[.int .i64 f.kind, .int .i64 f.pos, .int .i64 f.lim, .slice rp f.rg.length rc, .slice bp f.byt.length bc, .int .u8 (bl f.tok 0), .int .u8 (bl f.tok 1), .int .u8 (bl f.tok 2), .int .u8 (bl f.tok 3), .int .u8 (bl f.tok 4), .int .u8 (bl f.tok 5), .int .u8 (bl f.tok 6), .int .u8 (bl f.tok 7)]) rfl (loadN 26 _ ⟨B1, 0, none⟩ [.int .i64 f.kind, .int .i64 f.pos, .int .i64 f.lim, .slice rp f.rg.length rc, .slice bp f.byt.length bc, .int .u8 (bl f.tok 0), .int .u8 (bl f.tok 1), .int .u8 (bl f.tok 2), .int .u8 (bl f.tok 3), .int .u8 (bl f.tok 4), .int .u8 (bl f.tok 5), .int .u8 (bl f.tok 6), .int .u8 (bl f.tok 7)] rfl rfl (fun _ => by kernel_rfl) (fun _ => by kernel_rfl) (M.rangeAt List.mem_cons_self)) ?_
    simp only [aP, lI, l0, lS]
    have hC : Calls Try.prog 19 #[.agg #[.int .i64 f.kind, .int .i64 f.pos, .int .i64 f.lim, .slice rp f.rg.length rc, .slice bp f.byt.length bc, .int .u8 (bl f.tok 0), .int .u8 (bl f.tok 1), .int .u8 (bl f.tok 2), .int .u8 (bl f.tok 3), .int .u8 (bl f.tok 4), .int .u8 (bl f.tok 5), .int .u8 (bl f.tok 6), .int .u8 (bl f.tok 7)]] w1 (fun e w' => e = .returned (.bool false) ∧ Below w1.heap.size w1 w') := (by rw [← hok]; exact maybe_any f rp rc bp bc _ (hf.below M.below (Nat.le_refl _)))
    refine callL rfl (fun _ => by kernel_rfl) (hC) ?_
    rintro e w3 ⟨rfl, l⟩
    replace M := M.call l
    refine ⟨_, rfl, ?_⟩
    clear l hC
    simp only [aP, lI, l0, lS]
    refine readL (.bool true) rfl (by kernel_rfl) ?_
    simp only [aP, lI, l0, lS]
    first | show Exit.then _ _ _ _ _ | show Exit.inBlock _ _ _ _ _
    go_upto_region 2 with fail
    refine wp_region_list ?_
    refine readL (.int .i64 100) rfl (by kernel_rfl) ?_
    simp only [aP, lI, l0, lS]
    first | show Exit.then _ _ _ _ _ | show Exit.inBlock _ _ _ _ _
    have hK := show Hid _ from (fchk_bad hok)
    clear hok
    go_wp2
    go_ret
    exact ⟨by rw [hK.out] <;> rfl, M.below⟩
end Go.Proofs.Yteaamgjlkohfcaa
