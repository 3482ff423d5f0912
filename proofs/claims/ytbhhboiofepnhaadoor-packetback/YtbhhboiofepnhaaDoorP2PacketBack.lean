/- Texts of Xp Ve Zr Gw Gx Vx Vy Vz Xq Xr Vo, joined. -/
import Derived.Test.YtbhhboiofepnhaaDoorP1PacketBack
import Derived.Lib.AppendZerosOnto
import Derived.Deep.DeepAppendWide
import Derived.Deep.Cut
import Derived.BigQuiet
import Derived.OwnWalk
import Derived.Laws.BitsAllLaws
import Derived.Lib.SliceRun
namespace Go.Proofs.YtbhhboiofepnhaaDoor
open Go.RowKit

def pinb (n a b : Int) : Bool := decide (n ≥ a) && decide (n ≤ b)
theorem pinb_iff {n a b : Int} : pinb n a b = true ↔ a ≤ n ∧ n ≤ b := by unfold pinb; simp

set_option maxRecDepth 10000 in
set_option maxHeartbeats 32000000 in
theorem pwithin_any (n least most : Int) (w : World) :
    Calls Tryd.prog 27 #[.int .i64 n, .int .i64 least, .int .i64 most] w fun e w' => e = .returned (.bool (pinb n least most)) ∧ Below w.heap.size w w' := by
  have M := Mm.init w
  go_enter Tryd.func27, Tryd.ntmps27
  go_upto_region 0 with fail
  refine wp_region_list ?_
  refine readL (.bool false) rfl (by kernel_rfl) ?_
  simp only [aP, lI, l0, lS]
  first | show Exit.then _ _ _ _ _ | show Exit.inBlock _ _ _ _ _
  go_upto_region 1 with fail
  refine wp_region_list ?_
  refine readL (.int .i64 n) rfl (by kernel_rfl) ?_
  simp only [aP, lI, l0, lS]
  refine readL (.int .i64 least) rfl (by kernel_rfl) ?_
  simp only [aP, lI, l0, lS]
  obtain ⟨b1, hb1⟩ : ∃ y_, y_ = (decide (n ≥ least)) := ⟨_, rfl⟩
  refine readL (.bool b1) rfl (geqI .i64 _ _ _ _ _ _ rfl rfl rfl b1 hb1.symm _) ?_
  simp only [aP, lI, l0, lS]
  refine readL (.bool b1) rfl (by kernel_rfl) ?_
  simp only [aP, lI, l0, lS]
  refine mayL (b1) (.int .i64 n) ((bif b1 then (.int .i64 n) else undef)) (by cases b1 <;> rfl) (by cases b1 <;> rfl) (fun hc => by cases b1 <;> first | (cases hc; done) | kernel_rfl) ?_
  simp only [aP, lI, l0, lS]
  refine mayL (b1) (.int .i64 most) ((bif b1 then (.int .i64 most) else undef)) (by cases b1 <;> rfl) (by cases b1 <;> rfl) (fun hc => by cases b1 <;> first | (cases hc; done) | kernel_rfl) ?_
  simp only [aP, lI, l0, lS]
  obtain ⟨b2, hb2⟩ : ∃ y_, y_ = (decide (n ≤ most)) := ⟨_, rfl⟩
  refine mayL (b1) (.bool b2) ((bif b1 then (.bool b2) else undef)) (by cases b1 <;> rfl) (by cases b1 <;> rfl) (fun hc => by cases b1 <;> first | (cases hc; done) | exact (leqI .i64 _ _ _ _ _ _ rfl rfl rfl b2 hb2.symm _)) ?_
  simp only [aP, lI, l0, lS]
  obtain ⟨b3, hb3⟩ : ∃ y_, y_ = (b1 && b2) := ⟨_, rfl⟩
  refine readL (.bool b3) rfl (by subst hb3; cases b1 <;> rfl) ?_
  simp only [aP, lI, l0, lS]
  refine readL (.bool b3) rfl (by kernel_rfl) ?_
  simp only [aP, lI, l0, lS]
  first | show Exit.then _ _ _ _ _ | show Exit.inBlock _ _ _ _ _
  have hK := show Hid _ from (show b3 = pinb n least most by simp only [hb1, hb2, hb3]; rfl)
  try clear hb1
  try clear hb2
  try clear hb3
  go_wp2
  go_ret
  exact ⟨by rw [← hK.out] <;> rfl, M.below⟩

set_option maxRecDepth 10000 in
set_option maxHeartbeats 32000000 in
theorem pmay_any (p : Pkt) (bp : Option Addr) (bc : Nat) (w : World) : Calls Tryd.prog 19 #[.agg (pcs p bp bc).toArray] w fun e w' => e = .returned (.bool (pok p)) ∧ Below w.heap.size w w' := by
  have M := Mm.init w
  unfold pcs
  go_enter Tryd.func19, Tryd.ntmps19
  go_upto_region 0 with fail
  refine wp_region_list ?_
  refine actL (w' := w.alloc (.cells #[.int .i64 p.kind, .int .i64 p.role, .int .i64 p.path, .int .i64 p.epo, .int .i64 p.ctr, .slice bp p.body.length bc] 24)) (.pointer (some ⟨w.heap.size, 0, none⟩)) rfl (by kernel_rfl) ?_
  simp only [aP, lI, l0, lS]
  have hB_B1 : w.heap.size ≤ w.heap.size := M.below.size
  replace M := M.box #[.int .i64 p.kind, .int .i64 p.role, .int .i64 p.path, .int .i64 p.epo, .int .i64 p.ctr, .slice bp p.body.length bc] 24 w.heap.size rfl
  generalize w.alloc (.cells #[.int .i64 p.kind, .int .i64 p.role, .int .i64 p.path, .int .i64 p.epo, .int .i64 p.ctr, .slice bp p.body.length bc] 24) = w1 at M  ⊢
  generalize eB : w.heap.size = B1 at M hB_B1  ⊢
  have hE_B1 : w.heap.size ≤ B1 := Nat.le_of_eq eB
  have hF_B1 : B1 ≤ w.heap.size := Nat.le_of_eq eB.symm
  clear eB
  replace M : Mm w ([(B1, [.int .i64 p.kind, .int .i64 p.role, .int .i64 p.path, .int .i64 p.epo, .int .i64 p.ctr, .slice bp p.body.length bc])]) w1 := M
  refine readL (.bool false) rfl (by kernel_rfl) ?_
  simp only [aP, lI, l0, lS]
  first | show Exit.then _ _ _ _ _ | show Exit.inBlock _ _ _ _ _
  go_upto_region 1 with fail
  refine wp_region_list ?_
  refine readL (.pointer (some ⟨B1, 0, none⟩)) rfl (by kernel_rfl) ?_
  simp only [aP, lI, l0, lS]
  refine readL (.int .i64 p.kind) rfl (load1 3 _ ⟨B1, 0, none⟩ _ rfl rfl (fun _ => by kernel_rfl) (M.get List.mem_cons_self 0 _ rfl)) ?_
  simp only [aP, lI, l0, lS]
  first | show Exit.then _ _ _ _ _ | show Exit.inBlock _ _ _ _ _
  go_upto_region 2 with fail
  refine wp_region_list ?_
  obtain ⟨b1, hb1⟩ : ∃ y_, y_ = ((p.kind : Int) == (1 : Int)) := ⟨_, rfl⟩
  refine readL (.bool b1) rfl (eqlI .i64 _ _ _ _ _ _ rfl rfl rfl b1 hb1.symm _) ?_
  simp only [aP, lI, l0, lS]
  refine readL (.bool b1) rfl (by kernel_rfl) ?_
  simp only [aP, lI, l0, lS]
  first | show Exit.then _ _ _ _ _ | show Exit.inBlock _ _ _ _ _
  cases b1 with
  | true =>
    have k1 : p.kind = 1 := by simpa using hb1.symm
    go_upto_region 4 with fail
    refine wp_region_list ?_
    refine readL (.pointer (some ⟨B1, 1, none⟩)) rfl (by kernel_rfl) ?_
    simp only [aP, lI, l0, lS]
    refine readL (.int .i64 p.role) rfl (load1 3 _ ⟨B1, 1, none⟩ _ rfl rfl (fun _ => by kernel_rfl) (M.get List.mem_cons_self 1 _ rfl)) ?_
    simp only [aP, lI, l0, lS]
    obtain ⟨b2, hb2⟩ : ∃ y_, y_ = ((p.role : Int) == (0 : Int)) := ⟨_, rfl⟩
    refine readL (.bool b2) rfl (eqlI .i64 _ _ _ _ _ _ rfl rfl rfl b2 hb2.symm _) ?_
    simp only [aP, lI, l0, lS]
    refine readL (.bool b2) rfl (by kernel_rfl) ?_
    simp only [aP, lI, l0, lS]
    refine mayL (b2) (.pointer (some ⟨B1, 2, none⟩)) ((bif b2 then (.pointer (some ⟨B1, 2, none⟩)) else undef)) (by cases b2 <;> rfl) (by cases b2 <;> rfl) (fun hc => by cases b2 <;> first | (cases hc; done) | kernel_rfl) ?_
    simp only [aP, lI, l0, lS]
    refine mayL (b2) (.int .i64 p.path) ((bif b2 then (.int .i64 p.path) else undef)) (by cases b2 <;> rfl) (by cases b2 <;> rfl) (fun hc => by cases b2 <;> first | (cases hc; done) | exact (load1 3 _ ⟨B1, 2, none⟩ _ rfl rfl (fun _ => by kernel_rfl) (M.get List.mem_cons_self 2 _ rfl))) ?_
    simp only [aP, lI, l0, lS]
    obtain ⟨b3, hb3⟩ : ∃ y_, y_ = ((p.path : Int) == (0 : Int)) := ⟨_, rfl⟩
    refine mayL (b2) (.bool b3) ((bif b2 then (.bool b3) else undef)) (by cases b2 <;> rfl) (by cases b2 <;> rfl) (fun hc => by cases b2 <;> first | (cases hc; done) | exact (eqlI .i64 _ _ _ _ _ _ rfl rfl rfl b3 hb3.symm _)) ?_
    simp only [aP, lI, l0, lS]
    obtain ⟨b4, hb4⟩ : ∃ y_, y_ = (b2 && b3) := ⟨_, rfl⟩
    refine readL (.bool b4) rfl (by subst hb4; cases b2 <;> rfl) ?_
    simp only [aP, lI, l0, lS]
    refine readL (.bool b4) rfl (by kernel_rfl) ?_
    simp only [aP, lI, l0, lS]
    refine mayL (b4) (.pointer (some ⟨B1, 3, none⟩)) ((bif b4 then (.pointer (some ⟨B1, 3, none⟩)) else undef)) (by cases b4 <;> rfl) (by cases b4 <;> rfl) (fun hc => by cases b4 <;> first | (cases hc; done) | kernel_rfl) ?_
    simp only [aP, lI, l0, lS]
    refine mayL (b4) (.int .i64 p.epo) ((bif b4 then (.int .i64 p.epo) else undef)) (by cases b4 <;> rfl) (by cases b4 <;> rfl) (fun hc => by cases b4 <;> first | (cases hc; done) | exact (load1 3 _ ⟨B1, 3, none⟩ _ rfl rfl (fun _ => by kernel_rfl) (M.get List.mem_cons_self 3 _ rfl))) ?_
    simp only [aP, lI, l0, lS]
    obtain ⟨b5, hb5⟩ : ∃ y_, y_ = ((p.epo : Int) == (0 : Int)) := ⟨_, rfl⟩
    refine mayL (b4) (.bool b5) ((bif b4 then (.bool b5) else undef)) (by cases b4 <;> rfl) (by cases b4 <;> rfl) (fun hc => by cases b4 <;> first | (cases hc; done) | exact (eqlI .i64 _ _ _ _ _ _ rfl rfl rfl b5 hb5.symm _)) ?_
    simp only [aP, lI, l0, lS]
    obtain ⟨b6, hb6⟩ : ∃ y_, y_ = (b4 && b5) := ⟨_, rfl⟩
    refine readL (.bool b6) rfl (by subst hb6; cases b4 <;> rfl) ?_
    simp only [aP, lI, l0, lS]
    refine readL (.bool b6) rfl (by kernel_rfl) ?_
    simp only [aP, lI, l0, lS]
    refine mayL (b6) (.pointer (some ⟨B1, 4, none⟩)) ((bif b6 then (.pointer (some ⟨B1, 4, none⟩)) else undef)) (by cases b6 <;> rfl) (by cases b6 <;> rfl) (fun hc => by cases b6 <;> first | (cases hc; done) | kernel_rfl) ?_
    simp only [aP, lI, l0, lS]
    refine mayL (b6) (.int .i64 p.ctr) ((bif b6 then (.int .i64 p.ctr) else undef)) (by cases b6 <;> rfl) (by cases b6 <;> rfl) (fun hc => by cases b6 <;> first | (cases hc; done) | exact (load1 3 _ ⟨B1, 4, none⟩ _ rfl rfl (fun _ => by kernel_rfl) (M.get List.mem_cons_self 4 _ rfl))) ?_
    simp only [aP, lI, l0, lS]
    obtain ⟨b7, hb7⟩ : ∃ y_, y_ = ((p.ctr : Int) == (0 : Int)) := ⟨_, rfl⟩
    refine mayL (b6) (.bool b7) ((bif b6 then (.bool b7) else undef)) (by cases b6 <;> rfl) (by cases b6 <;> rfl) (fun hc => by cases b6 <;> first | (cases hc; done) | exact (eqlI .i64 _ _ _ _ _ _ rfl rfl rfl b7 hb7.symm _)) ?_
    simp only [aP, lI, l0, lS]
    obtain ⟨b8, hb8⟩ : ∃ y_, y_ = (b6 && b7) := ⟨_, rfl⟩
    refine readL (.bool b8) rfl (by subst hb8; cases b6 <;> rfl) ?_
    simp only [aP, lI, l0, lS]
    refine readL (.bool b8) rfl (by kernel_rfl) ?_
    simp only [aP, lI, l0, lS]
    refine mayL (b8) (.pointer (some ⟨B1, 5, none⟩)) ((bif b8 then (.pointer (some ⟨B1, 5, none⟩)) else undef)) (by cases b8 <;> rfl) (by cases b8 <;> rfl) (fun hc => by cases b8 <;> first | (cases hc; done) | kernel_rfl) ?_
    simp only [aP, lI, l0, lS]
    refine mayL (b8) (.slice bp p.body.length bc) ((bif b8 then (.slice bp p.body.length bc) else undef)) (by cases b8 <;> rfl) (by cases b8 <;> rfl) (fun hc => by cases b8 <;> first | (cases hc; done) | exact (load1 22 _ ⟨B1, 5, none⟩ _ rfl rfl (fun _ => by kernel_rfl) (M.get List.mem_cons_self 5 _ rfl))) ?_
    simp only [aP, lI, l0, lS]
    refine mayL (b8) (.int .i64 ((p.body.length : Nat) : Int)) ((bif b8 then (.int .i64 ((p.body.length : Nat) : Int)) else undef)) (by cases b8 <;> rfl) (by cases b8 <;> rfl) (fun hc => by cases b8 <;> first | (cases hc; done) | exact (lenS _ 22 5 bp p.body.length bc rfl Tryd.underlying22 rfl _)) ?_
    simp only [aP, lI, l0, lS]
    obtain ⟨b9, hb9⟩ : ∃ y_, y_ = (pinb ((p.body.length : Nat) : Int) 1 300) := ⟨_, rfl⟩
    have hC : Calls Tryd.prog 27 #[.int .i64 ((p.body.length : Nat) : Int), .int .i64 1, .int .i64 300] w1 (fun e w' => e = .returned (.bool b9) ∧ Below w1.heap.size w1 w') := (by rw [hb9]; exact pwithin_any _ _ _ _)
    refine mayCallL (b8) (.bool b9) ((bif b8 then (.bool b9) else undef)) 27 #[.int .i64 ((p.body.length : Nat) : Int), .int .i64 1, .int .i64 300] (by cases b8 <;> rfl) (by cases b8 <;> rfl) (fun hc => by cases b8 <;> first | (cases hc; done) | (intro _; kernel_rfl)) (fun _ => hC) ?_
    intro w2 l
    replace M := M.call l
    clear l hC
    simp only [aP, lI, l0, lS]
    obtain ⟨b10, hb10⟩ : ∃ y_, y_ = (b8 && b9) := ⟨_, rfl⟩
    refine readL (.bool b10) rfl (by subst hb10; cases b8 <;> rfl) ?_
    simp only [aP, lI, l0, lS]
    refine readL (.bool b10) rfl (by kernel_rfl) ?_
    simp only [aP, lI, l0, lS]
    first | show Exit.then _ _ _ _ _ | show Exit.inBlock _ _ _ _ _
    have hA : b10 = pok p := by
      rw [pok_hlo (by omega)]
      apply Bool.eq_iff_iff.2
      simp only [hb2, hb3, hb4, hb5, hb6, hb7, hb8, hb9, hb10, Bool.and_eq_true, decide_eq_true_eq, beq_iff_eq, pinb_iff]
      unfold Hlo
      omega
    replace hA := show Hid _ from hA
    try clear hb1
    try clear hb2
    try clear hb3
    try clear hb4
    try clear hb5
    try clear hb6
    try clear hb7
    try clear hb8
    try clear hb9
    try clear hb10
    try clear k1
    try clear k2
    try clear k3
    go_wp2
    go_ret
    exact ⟨by rw [← hA.out] <;> rfl, M.below⟩
  | false =>
    have k1 : ¬ p.kind = 1 := by simpa using hb1.symm
    go_upto_region 3 with fail
    refine wp_region_list ?_
    obtain ⟨b11, hb11⟩ : ∃ y_, y_ = ((p.kind : Int) == (2 : Int)) := ⟨_, rfl⟩
    refine readL (.bool b11) rfl (eqlI .i64 _ _ _ _ _ _ rfl rfl rfl b11 hb11.symm _) ?_
    simp only [aP, lI, l0, lS]
    refine readL (.bool b11) rfl (by kernel_rfl) ?_
    simp only [aP, lI, l0, lS]
    first | show Exit.then _ _ _ _ _ | show Exit.inBlock _ _ _ _ _
    cases b11 with
    | true =>
      have k2 : p.kind = 2 := by simpa using hb11.symm
      go_upto_region 4 with fail
      refine wp_region_list ?_
      refine readL (.pointer (some ⟨B1, 1, none⟩)) rfl (by kernel_rfl) ?_
      simp only [aP, lI, l0, lS]
      refine readL (.int .i64 p.role) rfl (load1 3 _ ⟨B1, 1, none⟩ _ rfl rfl (fun _ => by kernel_rfl) (M.get List.mem_cons_self 1 _ rfl)) ?_
      simp only [aP, lI, l0, lS]
      obtain ⟨b12, hb12⟩ : ∃ y_, y_ = ((p.role : Int) == (0 : Int)) := ⟨_, rfl⟩
      refine readL (.bool b12) rfl (eqlI .i64 _ _ _ _ _ _ rfl rfl rfl b12 hb12.symm _) ?_
      simp only [aP, lI, l0, lS]
      refine readL (.bool b12) rfl (by kernel_rfl) ?_
      simp only [aP, lI, l0, lS]
      refine mayL (b12) (.pointer (some ⟨B1, 2, none⟩)) ((bif b12 then (.pointer (some ⟨B1, 2, none⟩)) else undef)) (by cases b12 <;> rfl) (by cases b12 <;> rfl) (fun hc => by cases b12 <;> first | (cases hc; done) | kernel_rfl) ?_
      simp only [aP, lI, l0, lS]
      refine mayL (b12) (.int .i64 p.path) ((bif b12 then (.int .i64 p.path) else undef)) (by cases b12 <;> rfl) (by cases b12 <;> rfl) (fun hc => by cases b12 <;> first | (cases hc; done) | exact (load1 3 _ ⟨B1, 2, none⟩ _ rfl rfl (fun _ => by kernel_rfl) (M.get List.mem_cons_self 2 _ rfl))) ?_
      simp only [aP, lI, l0, lS]
      obtain ⟨b13, hb13⟩ : ∃ y_, y_ = ((p.path : Int) == (0 : Int)) := ⟨_, rfl⟩
      refine mayL (b12) (.bool b13) ((bif b12 then (.bool b13) else undef)) (by cases b12 <;> rfl) (by cases b12 <;> rfl) (fun hc => by cases b12 <;> first | (cases hc; done) | exact (eqlI .i64 _ _ _ _ _ _ rfl rfl rfl b13 hb13.symm _)) ?_
      simp only [aP, lI, l0, lS]
      obtain ⟨b14, hb14⟩ : ∃ y_, y_ = (b12 && b13) := ⟨_, rfl⟩
      refine readL (.bool b14) rfl (by subst hb14; cases b12 <;> rfl) ?_
      simp only [aP, lI, l0, lS]
      refine readL (.bool b14) rfl (by kernel_rfl) ?_
      simp only [aP, lI, l0, lS]
      refine mayL (b14) (.pointer (some ⟨B1, 3, none⟩)) ((bif b14 then (.pointer (some ⟨B1, 3, none⟩)) else undef)) (by cases b14 <;> rfl) (by cases b14 <;> rfl) (fun hc => by cases b14 <;> first | (cases hc; done) | kernel_rfl) ?_
      simp only [aP, lI, l0, lS]
      refine mayL (b14) (.int .i64 p.epo) ((bif b14 then (.int .i64 p.epo) else undef)) (by cases b14 <;> rfl) (by cases b14 <;> rfl) (fun hc => by cases b14 <;> first | (cases hc; done) | exact (load1 3 _ ⟨B1, 3, none⟩ _ rfl rfl (fun _ => by kernel_rfl) (M.get List.mem_cons_self 3 _ rfl))) ?_
      simp only [aP, lI, l0, lS]
      obtain ⟨b15, hb15⟩ : ∃ y_, y_ = ((p.epo : Int) == (0 : Int)) := ⟨_, rfl⟩
      refine mayL (b14) (.bool b15) ((bif b14 then (.bool b15) else undef)) (by cases b14 <;> rfl) (by cases b14 <;> rfl) (fun hc => by cases b14 <;> first | (cases hc; done) | exact (eqlI .i64 _ _ _ _ _ _ rfl rfl rfl b15 hb15.symm _)) ?_
      simp only [aP, lI, l0, lS]
      obtain ⟨b16, hb16⟩ : ∃ y_, y_ = (b14 && b15) := ⟨_, rfl⟩
      refine readL (.bool b16) rfl (by subst hb16; cases b14 <;> rfl) ?_
      simp only [aP, lI, l0, lS]
      refine readL (.bool b16) rfl (by kernel_rfl) ?_
      simp only [aP, lI, l0, lS]
      refine mayL (b16) (.pointer (some ⟨B1, 4, none⟩)) ((bif b16 then (.pointer (some ⟨B1, 4, none⟩)) else undef)) (by cases b16 <;> rfl) (by cases b16 <;> rfl) (fun hc => by cases b16 <;> first | (cases hc; done) | kernel_rfl) ?_
      simp only [aP, lI, l0, lS]
      refine mayL (b16) (.int .i64 p.ctr) ((bif b16 then (.int .i64 p.ctr) else undef)) (by cases b16 <;> rfl) (by cases b16 <;> rfl) (fun hc => by cases b16 <;> first | (cases hc; done) | exact (load1 3 _ ⟨B1, 4, none⟩ _ rfl rfl (fun _ => by kernel_rfl) (M.get List.mem_cons_self 4 _ rfl))) ?_
      simp only [aP, lI, l0, lS]
      obtain ⟨b17, hb17⟩ : ∃ y_, y_ = ((p.ctr : Int) == (0 : Int)) := ⟨_, rfl⟩
      refine mayL (b16) (.bool b17) ((bif b16 then (.bool b17) else undef)) (by cases b16 <;> rfl) (by cases b16 <;> rfl) (fun hc => by cases b16 <;> first | (cases hc; done) | exact (eqlI .i64 _ _ _ _ _ _ rfl rfl rfl b17 hb17.symm _)) ?_
      simp only [aP, lI, l0, lS]
      obtain ⟨b18, hb18⟩ : ∃ y_, y_ = (b16 && b17) := ⟨_, rfl⟩
      refine readL (.bool b18) rfl (by subst hb18; cases b16 <;> rfl) ?_
      simp only [aP, lI, l0, lS]
      refine readL (.bool b18) rfl (by kernel_rfl) ?_
      simp only [aP, lI, l0, lS]
      refine mayL (b18) (.pointer (some ⟨B1, 5, none⟩)) ((bif b18 then (.pointer (some ⟨B1, 5, none⟩)) else undef)) (by cases b18 <;> rfl) (by cases b18 <;> rfl) (fun hc => by cases b18 <;> first | (cases hc; done) | kernel_rfl) ?_
      simp only [aP, lI, l0, lS]
      refine mayL (b18) (.slice bp p.body.length bc) ((bif b18 then (.slice bp p.body.length bc) else undef)) (by cases b18 <;> rfl) (by cases b18 <;> rfl) (fun hc => by cases b18 <;> first | (cases hc; done) | exact (load1 22 _ ⟨B1, 5, none⟩ _ rfl rfl (fun _ => by kernel_rfl) (M.get List.mem_cons_self 5 _ rfl))) ?_
      simp only [aP, lI, l0, lS]
      refine mayL (b18) (.int .i64 ((p.body.length : Nat) : Int)) ((bif b18 then (.int .i64 ((p.body.length : Nat) : Int)) else undef)) (by cases b18 <;> rfl) (by cases b18 <;> rfl) (fun hc => by cases b18 <;> first | (cases hc; done) | exact (lenS _ 22 5 bp p.body.length bc rfl Tryd.underlying22 rfl _)) ?_
      simp only [aP, lI, l0, lS]
      obtain ⟨b19, hb19⟩ : ∃ y_, y_ = (pinb ((p.body.length : Nat) : Int) 1 300) := ⟨_, rfl⟩
      have hC : Calls Tryd.prog 27 #[.int .i64 ((p.body.length : Nat) : Int), .int .i64 1, .int .i64 300] w1 (fun e w' => e = .returned (.bool b19) ∧ Below w1.heap.size w1 w') := (by rw [hb19]; exact pwithin_any _ _ _ _)
      refine mayCallL (b18) (.bool b19) ((bif b18 then (.bool b19) else undef)) 27 #[.int .i64 ((p.body.length : Nat) : Int), .int .i64 1, .int .i64 300] (by cases b18 <;> rfl) (by cases b18 <;> rfl) (fun hc => by cases b18 <;> first | (cases hc; done) | (intro _; kernel_rfl)) (fun _ => hC) ?_
      intro w3 l
      replace M := M.call l
      clear l hC
      simp only [aP, lI, l0, lS]
      obtain ⟨b20, hb20⟩ : ∃ y_, y_ = (b18 && b19) := ⟨_, rfl⟩
      refine readL (.bool b20) rfl (by subst hb20; cases b18 <;> rfl) ?_
      simp only [aP, lI, l0, lS]
      refine readL (.bool b20) rfl (by kernel_rfl) ?_
      simp only [aP, lI, l0, lS]
      first | show Exit.then _ _ _ _ _ | show Exit.inBlock _ _ _ _ _
      have hA : b20 = pok p := by
        rw [pok_hlo (by omega)]
        apply Bool.eq_iff_iff.2
        simp only [hb12, hb13, hb14, hb15, hb16, hb17, hb18, hb19, hb20, Bool.and_eq_true, decide_eq_true_eq, beq_iff_eq, pinb_iff]
        unfold Hlo
        omega
      replace hA := show Hid _ from hA
      try clear hb1
      try clear hb11
      try clear hb12
      try clear hb13
      try clear hb14
      try clear hb15
      try clear hb16
      try clear hb17
      try clear hb18
      try clear hb19
      try clear hb20
      try clear k1
      try clear k2
      try clear k3
      go_wp2
      go_ret
      exact ⟨by rw [← hA.out] <;> rfl, M.below⟩
    | false =>
      have k2 : ¬ p.kind = 2 := by simpa using hb11.symm
      go_upto_region 5 with fail
      refine wp_region_list ?_
      obtain ⟨b21, hb21⟩ : ∃ y_, y_ = ((p.kind : Int) == (3 : Int)) := ⟨_, rfl⟩
      refine readL (.bool b21) rfl (eqlI .i64 _ _ _ _ _ _ rfl rfl rfl b21 hb21.symm _) ?_
      simp only [aP, lI, l0, lS]
      refine readL (.bool b21) rfl (by kernel_rfl) ?_
      simp only [aP, lI, l0, lS]
      first | show Exit.then _ _ _ _ _ | show Exit.inBlock _ _ _ _ _
      cases b21 with
      | true =>
        have k3 : p.kind = 3 := by simpa using hb21.symm
        go_upto_region 6 with fail
        refine wp_region_list ?_
        refine readL (.pointer (some ⟨B1, 1, none⟩)) rfl (by kernel_rfl) ?_
        simp only [aP, lI, l0, lS]
        refine readL (.int .i64 p.role) rfl (load1 3 _ ⟨B1, 1, none⟩ _ rfl rfl (fun _ => by kernel_rfl) (M.get List.mem_cons_self 1 _ rfl)) ?_
        simp only [aP, lI, l0, lS]
        obtain ⟨b22, hb22⟩ : ∃ y_, y_ = (pinb p.role 0 1) := ⟨_, rfl⟩
        have hC : Calls Tryd.prog 27 #[.int .i64 p.role, .int .i64 0, .int .i64 1] w1 (fun e w' => e = .returned (.bool b22) ∧ Below w1.heap.size w1 w') := (by rw [hb22]; exact pwithin_any _ _ _ _)
        refine callL rfl (fun _ => by kernel_rfl) (hC) ?_
        rintro e w4 ⟨rfl, l⟩
        replace M := M.call l
        refine ⟨_, rfl, ?_⟩
        clear l hC
        simp only [aP, lI, l0, lS]
        refine readL (.bool b22) rfl (by kernel_rfl) ?_
        simp only [aP, lI, l0, lS]
        refine mayL (b22) (.pointer (some ⟨B1, 2, none⟩)) ((bif b22 then (.pointer (some ⟨B1, 2, none⟩)) else undef)) (by cases b22 <;> rfl) (by cases b22 <;> rfl) (fun hc => by cases b22 <;> first | (cases hc; done) | kernel_rfl) ?_
        simp only [aP, lI, l0, lS]
        refine mayL (b22) (.int .i64 p.path) ((bif b22 then (.int .i64 p.path) else undef)) (by cases b22 <;> rfl) (by cases b22 <;> rfl) (fun hc => by cases b22 <;> first | (cases hc; done) | exact (load1 3 _ ⟨B1, 2, none⟩ _ rfl rfl (fun _ => by kernel_rfl) (M.get List.mem_cons_self 2 _ rfl))) ?_
        simp only [aP, lI, l0, lS]
        obtain ⟨b23, hb23⟩ : ∃ y_, y_ = (pinb p.path 0 255) := ⟨_, rfl⟩
        have hC : Calls Tryd.prog 27 #[.int .i64 p.path, .int .i64 0, .int .i64 255] w4 (fun e w' => e = .returned (.bool b23) ∧ Below w4.heap.size w4 w') := (by rw [hb23]; exact pwithin_any _ _ _ _)
        refine mayCallL (b22) (.bool b23) ((bif b22 then (.bool b23) else undef)) 27 #[.int .i64 p.path, .int .i64 0, .int .i64 255] (by cases b22 <;> rfl) (by cases b22 <;> rfl) (fun hc => by cases b22 <;> first | (cases hc; done) | (intro _; kernel_rfl)) (fun _ => hC) ?_
        intro w5 l
        replace M := M.call l
        clear l hC
        simp only [aP, lI, l0, lS]
        obtain ⟨b24, hb24⟩ : ∃ y_, y_ = (b22 && b23) := ⟨_, rfl⟩
        refine readL (.bool b24) rfl (by subst hb24; cases b22 <;> rfl) ?_
        simp only [aP, lI, l0, lS]
        refine readL (.bool b24) rfl (by kernel_rfl) ?_
        simp only [aP, lI, l0, lS]
        refine mayL (b24) (.pointer (some ⟨B1, 3, none⟩)) ((bif b24 then (.pointer (some ⟨B1, 3, none⟩)) else undef)) (by cases b24 <;> rfl) (by cases b24 <;> rfl) (fun hc => by cases b24 <;> first | (cases hc; done) | kernel_rfl) ?_
        simp only [aP, lI, l0, lS]
        refine mayL (b24) (.int .i64 p.epo) ((bif b24 then (.int .i64 p.epo) else undef)) (by cases b24 <;> rfl) (by cases b24 <;> rfl) (fun hc => by cases b24 <;> first | (cases hc; done) | exact (load1 3 _ ⟨B1, 3, none⟩ _ rfl rfl (fun _ => by kernel_rfl) (M.get List.mem_cons_self 3 _ rfl))) ?_
        simp only [aP, lI, l0, lS]
        obtain ⟨b25, hb25⟩ : ∃ y_, y_ = (pinb p.epo 0 65535) := ⟨_, rfl⟩
        have hC : Calls Tryd.prog 27 #[.int .i64 p.epo, .int .i64 0, .int .i64 65535] w5 (fun e w' => e = .returned (.bool b25) ∧ Below w5.heap.size w5 w') := (by rw [hb25]; exact pwithin_any _ _ _ _)
        refine mayCallL (b24) (.bool b25) ((bif b24 then (.bool b25) else undef)) 27 #[.int .i64 p.epo, .int .i64 0, .int .i64 65535] (by cases b24 <;> rfl) (by cases b24 <;> rfl) (fun hc => by cases b24 <;> first | (cases hc; done) | (intro _; kernel_rfl)) (fun _ => hC) ?_
        intro w6 l
        replace M := M.call l
        clear l hC
        simp only [aP, lI, l0, lS]
        obtain ⟨b26, hb26⟩ : ∃ y_, y_ = (b24 && b25) := ⟨_, rfl⟩
        refine readL (.bool b26) rfl (by subst hb26; cases b24 <;> rfl) ?_
        simp only [aP, lI, l0, lS]
        refine readL (.bool b26) rfl (by kernel_rfl) ?_
        simp only [aP, lI, l0, lS]
        refine mayL (b26) (.pointer (some ⟨B1, 4, none⟩)) ((bif b26 then (.pointer (some ⟨B1, 4, none⟩)) else undef)) (by cases b26 <;> rfl) (by cases b26 <;> rfl) (fun hc => by cases b26 <;> first | (cases hc; done) | kernel_rfl) ?_
        simp only [aP, lI, l0, lS]
        refine mayL (b26) (.int .i64 p.ctr) ((bif b26 then (.int .i64 p.ctr) else undef)) (by cases b26 <;> rfl) (by cases b26 <;> rfl) (fun hc => by cases b26 <;> first | (cases hc; done) | exact (load1 3 _ ⟨B1, 4, none⟩ _ rfl rfl (fun _ => by kernel_rfl) (M.get List.mem_cons_self 4 _ rfl))) ?_
        simp only [aP, lI, l0, lS]
        obtain ⟨b27, hb27⟩ : ∃ y_, y_ = (pinb p.ctr 0 281474976710655) := ⟨_, rfl⟩
        have hC : Calls Tryd.prog 27 #[.int .i64 p.ctr, .int .i64 0, .int .i64 281474976710655] w6 (fun e w' => e = .returned (.bool b27) ∧ Below w6.heap.size w6 w') := (by rw [hb27]; exact pwithin_any _ _ _ _)
        refine mayCallL (b26) (.bool b27) ((bif b26 then (.bool b27) else undef)) 27 #[.int .i64 p.ctr, .int .i64 0, .int .i64 281474976710655] (by cases b26 <;> rfl) (by cases b26 <;> rfl) (fun hc => by cases b26 <;> first | (cases hc; done) | (intro _; kernel_rfl)) (fun _ => hC) ?_
        intro w7 l
        replace M := M.call l
        clear l hC
        simp only [aP, lI, l0, lS]
        obtain ⟨b28, hb28⟩ : ∃ y_, y_ = (b26 && b27) := ⟨_, rfl⟩
        refine readL (.bool b28) rfl (by subst hb28; cases b26 <;> rfl) ?_
        simp only [aP, lI, l0, lS]
        refine readL (.bool b28) rfl (by kernel_rfl) ?_
        simp only [aP, lI, l0, lS]
        refine mayL (b28) (.pointer (some ⟨B1, 5, none⟩)) ((bif b28 then (.pointer (some ⟨B1, 5, none⟩)) else undef)) (by cases b28 <;> rfl) (by cases b28 <;> rfl) (fun hc => by cases b28 <;> first | (cases hc; done) | kernel_rfl) ?_
        simp only [aP, lI, l0, lS]
        refine mayL (b28) (.slice bp p.body.length bc) ((bif b28 then (.slice bp p.body.length bc) else undef)) (by cases b28 <;> rfl) (by cases b28 <;> rfl) (fun hc => by cases b28 <;> first | (cases hc; done) | exact (load1 22 _ ⟨B1, 5, none⟩ _ rfl rfl (fun _ => by kernel_rfl) (M.get List.mem_cons_self 5 _ rfl))) ?_
        simp only [aP, lI, l0, lS]
        refine mayL (b28) (.int .i64 ((p.body.length : Nat) : Int)) ((bif b28 then (.int .i64 ((p.body.length : Nat) : Int)) else undef)) (by cases b28 <;> rfl) (by cases b28 <;> rfl) (fun hc => by cases b28 <;> first | (cases hc; done) | exact (lenS _ 22 5 bp p.body.length bc rfl Tryd.underlying22 rfl _)) ?_
        simp only [aP, lI, l0, lS]
        obtain ⟨b29, hb29⟩ : ∃ y_, y_ = (pinb ((p.body.length : Nat) : Int) 16 272) := ⟨_, rfl⟩
        have hC : Calls Tryd.prog 27 #[.int .i64 ((p.body.length : Nat) : Int), .int .i64 16, .int .i64 272] w7 (fun e w' => e = .returned (.bool b29) ∧ Below w7.heap.size w7 w') := (by rw [hb29]; exact pwithin_any _ _ _ _)
        refine mayCallL (b28) (.bool b29) ((bif b28 then (.bool b29) else undef)) 27 #[.int .i64 ((p.body.length : Nat) : Int), .int .i64 16, .int .i64 272] (by cases b28 <;> rfl) (by cases b28 <;> rfl) (fun hc => by cases b28 <;> first | (cases hc; done) | (intro _; kernel_rfl)) (fun _ => hC) ?_
        intro w8 l
        replace M := M.call l
        clear l hC
        simp only [aP, lI, l0, lS]
        obtain ⟨b30, hb30⟩ : ∃ y_, y_ = (b28 && b29) := ⟨_, rfl⟩
        refine readL (.bool b30) rfl (by subst hb30; cases b28 <;> rfl) ?_
        simp only [aP, lI, l0, lS]
        refine readL (.bool b30) rfl (by kernel_rfl) ?_
        simp only [aP, lI, l0, lS]
        first | show Exit.then _ _ _ _ _ | show Exit.inBlock _ _ _ _ _
        have hA : b30 = pok p := by
          rw [pok_rec k3]
          apply Bool.eq_iff_iff.2
          simp only [hb22, hb23, hb24, hb25, hb26, hb27, hb28, hb29, hb30, Bool.and_eq_true, decide_eq_true_eq, pinb_iff]
          unfold Rec
          omega
        replace hA := show Hid _ from hA
        try clear hb1
        try clear hb11
        try clear hb21
        try clear hb22
        try clear hb23
        try clear hb24
        try clear hb25
        try clear hb26
        try clear hb27
        try clear hb28
        try clear hb29
        try clear hb30
        try clear k1
        try clear k2
        try clear k3
        go_wp2
        go_ret
        exact ⟨by rw [← hA.out] <;> rfl, M.below⟩
      | false =>
        have k3 : ¬ p.kind = 3 := by simpa using hb21.symm
        go_upto_region 7 with fail
        refine wp_region_list ?_
        refine readL (.bool false) rfl (by kernel_rfl) ?_
        simp only [aP, lI, l0, lS]
        first | show Exit.then _ _ _ _ _ | show Exit.inBlock _ _ _ _ _
        have hA : false = pok p := by
          rw [pok_none (by omega) k3]
        replace hA := show Hid _ from hA
        try clear hb1
        try clear hb11
        try clear hb21
        try clear k1
        try clear k2
        try clear k3
        go_wp2
        go_ret
        exact ⟨by rw [← hA.out] <;> rfl, M.below⟩

def prc (p : Pkt) : Bool := decide (p.kind = 3 ∧ pok p = true)
set_option maxRecDepth 10000 in
set_option maxHeartbeats 32000000 in
theorem prec_any (p : Pkt) (bp : Option Addr) (bc : Nat) (w : World) : Calls Tryd.prog 21 #[.agg (pcs p bp bc).toArray] w fun e w' => e = .returned (.bool (prc p)) ∧ Below w.heap.size w w' := by
  have M := Mm.init w
  unfold pcs
  go_enter Tryd.func21, Tryd.ntmps21
  go_upto_region 0 with fail
  refine wp_region_list ?_
  refine actL (w' := w.alloc (.cells #[.int .i64 p.kind, .int .i64 p.role, .int .i64 p.path, .int .i64 p.epo, .int .i64 p.ctr, .slice bp p.body.length bc] 24)) (.pointer (some ⟨w.heap.size, 0, none⟩)) rfl (by kernel_rfl) ?_
  simp only [aP, lI, l0, lS]
  have hB_B1 : w.heap.size ≤ w.heap.size := M.below.size
  replace M := M.box #[.int .i64 p.kind, .int .i64 p.role, .int .i64 p.path, .int .i64 p.epo, .int .i64 p.ctr, .slice bp p.body.length bc] 24 w.heap.size rfl
  generalize w.alloc (.cells #[.int .i64 p.kind, .int .i64 p.role, .int .i64 p.path, .int .i64 p.epo, .int .i64 p.ctr, .slice bp p.body.length bc] 24) = w1 at M  ⊢
  generalize eB : w.heap.size = B1 at M hB_B1  ⊢
  have hE_B1 : w.heap.size ≤ B1 := Nat.le_of_eq eB
  have hF_B1 : B1 ≤ w.heap.size := Nat.le_of_eq eB.symm
  clear eB
  replace M : Mm w ([(B1, [.int .i64 p.kind, .int .i64 p.role, .int .i64 p.path, .int .i64 p.epo, .int .i64 p.ctr, .slice bp p.body.length bc])]) w1 := M
  refine readL (.bool false) rfl (by kernel_rfl) ?_
  simp only [aP, lI, l0, lS]
  first | show Exit.then _ _ _ _ _ | show Exit.inBlock _ _ _ _ _
  go_upto_region 1 with fail
  refine wp_region_list ?_
  refine readL (.pointer (some ⟨B1, 0, none⟩)) rfl (by kernel_rfl) ?_
  simp only [aP, lI, l0, lS]
  refine readL (.int .i64 p.kind) rfl (load1 3 _ ⟨B1, 0, none⟩ _ rfl rfl (fun _ => by kernel_rfl) (M.get List.mem_cons_self 0 _ rfl)) ?_
  simp only [aP, lI, l0, lS]
  obtain ⟨b1, hb1⟩ : ∃ y_, y_ = ((p.kind : Int) == (3 : Int)) := ⟨_, rfl⟩
  refine readL (.bool b1) rfl (eqlI .i64 _ _ _ _ _ _ rfl rfl rfl b1 hb1.symm _) ?_
  simp only [aP, lI, l0, lS]
  refine readL (.bool b1) rfl (by kernel_rfl) ?_
  simp only [aP, lI, l0, lS]
  refine mayL (b1) (.agg #[.int .i64 p.kind, .int .i64 p.role, .int .i64 p.path, .int .i64 p.epo, .int .i64 p.ctr, .slice bp p.body.length bc]) ((bif b1 then (.agg #[.int .i64 p.kind, .int .i64 p.role, .int .i64 p.path, .int .i64 p.epo, .int .i64 p.ctr, .slice bp p.body.length bc]) else undef)) (by cases b1 <;> rfl) (by cases b1 <;> rfl) (fun hc => by cases b1 <;> first | (cases hc; done) | exact (loadN 24 _ ⟨B1, 0, none⟩ [.int .i64 p.kind, .int .i64 p.role, .int .i64 p.path, .int .i64 p.epo, .int .i64 p.ctr, .slice bp p.body.length bc] rfl rfl (fun _ => by kernel_rfl) (fun _ => by kernel_rfl) (M.rangeAt List.mem_cons_self))) ?_
  simp only [aP, lI, l0, lS]
  obtain ⟨b2, hb2⟩ : ∃ y_, y_ = (pok p) := ⟨_, rfl⟩
  have hC : Calls Tryd.prog 19 #[.agg #[.int .i64 p.kind, .int .i64 p.role, .int .i64 p.path, .int .i64 p.epo, .int .i64 p.ctr, .slice bp p.body.length bc]] w1 (fun e w' => e = .returned (.bool b2) ∧ Below w1.heap.size w1 w') := (by rw [hb2]; exact pmay_any p bp bc _)
  refine mayCallL (b1) (.bool b2) ((bif b1 then (.bool b2) else undef)) 19 #[.agg #[.int .i64 p.kind, .int .i64 p.role, .int .i64 p.path, .int .i64 p.epo, .int .i64 p.ctr, .slice bp p.body.length bc]] (by cases b1 <;> rfl) (by cases b1 <;> rfl) (fun hc => by cases b1 <;> first | (cases hc; done) | (intro _; kernel_rfl)) (fun _ => hC) ?_
  intro w2 l
  replace M := M.call l
  clear l hC
  simp only [aP, lI, l0, lS]
  obtain ⟨b3, hb3⟩ : ∃ y_, y_ = (b1 && b2) := ⟨_, rfl⟩
  refine readL (.bool b3) rfl (by subst hb3; cases b1 <;> rfl) ?_
  simp only [aP, lI, l0, lS]
  refine readL (.bool b3) rfl (by kernel_rfl) ?_
  simp only [aP, lI, l0, lS]
  first | show Exit.then _ _ _ _ _ | show Exit.inBlock _ _ _ _ _
  have hA : b3 = prc p := by
    unfold prc
    rw [hb3, hb2, hb1]
    by_cases h3 : p.kind = 3
    · cases pok p <;> simp [h3]
    · simp [h3]
  replace hA := show Hid _ from hA
  try clear hb1
  try clear hb2
  try clear hb3
  go_wp2
  go_ret
  exact ⟨by rw [← hA.out] <;> rfl, M.below⟩
end Go.Proofs.YtbhhboiofepnhaaDoor

namespace Go.Proofs.YtbhhboiofepnhaaDoor
open Go.RowKit

def PutF (len : Nat) (z : Nat → Int) (n s : Int) (B : Nat) (e : Ending) (w' : World) : Prop := ∃ v, e = .returned (.tuple #[v, .int .i64 (fE n s)]) ∧ Own w' B 5 .u8 (fL len n s) (fput len z n s) v
def PutFixedOK : Prop := ∀ (sp : Option Addr) (len cap : Nat), len ≤ 140737488351232 → len ≤ cap → (sp = none → cap = 0) → ∀ z : Nat → Int, In 256 len z → ∀ n : Int, (-9223372036854775808 ≤ n ∧ n < 9223372036854775808) → ∀ s : Int, (-9223372036854775808 ≤ s ∧ s < 9223372036854775808) → ∀ w : World, Src w sp len z → Calls Tryd.prog 29 #[.slice sp len cap, .int .i64 n, .int .i64 s] w fun e w' => PutF len z n s w.heap.size e w' ∧ Below w.heap.size w w'
end Go.Proofs.YtbhhboiofepnhaaDoor

namespace Go.Proofs.YtbhhboiofepnhaaDoor
open Go.RowKit

def vcap : Value → Nat
  | .slice _ _ c => c
  | _ => 0

section
variable {P : Program}
theorem run_append_Room {w : World} {base : Nat} {t ty e : TypeId} {k : IntKind} {bytes n : Nat} {f : Nat → Int} {v : Value} (ht : P.underlying t = some (.slice e)) (he : One P e k bytes) (h : Own w base e k n f v)
    (sp : Option Addr) (m c : Nat) (hv : Nat → Int) (hs : ∀ j, j < m → ∃ ad, sp = some ad ∧ w.cell? (ad.add j) = some (.int k (hv j))) (hz : sp = none → c = 0) (hroom : n + m ≤ vcap v) :
    ∃ v' w', (Builtin.append_ #[t, t] ty #[v, .slice sp m c]).run P w = .ok v' w' ∧ Own w' base e k (n + m) (app f n hv) v' ∧ w.grownBy w' v.ownBlock ∧ vcap v' = vcap v ∧ v'.ownBlock = v.ownBlock := by
  obtain ⟨i, hi, hq⟩ := Option.map_eq_some_iff.1 he.info
  simp only [Prod.mk.injEq] at hq
  obtain ⟨_, _, h3⟩ := hq
  cases sp with
  | none =>
    have hm : m = 0 := by
      rcases Nat.eq_zero_or_pos m with h0 | h0
      · exact h0
      · obtain ⟨ad, e, _⟩ := hs 0 h0; cases e
    subst hm
    obtain rfl := hz rfl
    exact ⟨v, w, run_append_owned_none (P := P) (w := w) base t ty e i 1 ht hi v n _ h, h.congr fun j hj => by unfold app; rw [if_pos hj], ⟨rfl, rfl, rfl, Nat.le_refl _, fun _ _ _ => rfl⟩, rfl, rfl⟩
  | some ad =>
    have hnews : ∀ j u, (row k m hv)[j]? = some u → w.cell? (ad.add j) = some u := fun j u hu => by
      obtain ⟨hj, rfl⟩ := row_get_some hu
      obtain ⟨ad', e', hc⟩ := hs j hj
      injection e' with e'
      subst e'
      exact hc
    have hml : (row k m hv).length = m * i.size := by rw [row_length, h3, Nat.mul_one]
    have hlen : (row k n f ++ row k m hv).length = (n + m) * 1 := by rw [List.length_append, row_length, row_length, Nat.mul_one]
    rcases h.2 with ⟨rfl, rfl⟩ | ⟨g, cap, cur, rfl, hbg, hgg, hnc, hcm, hcs, htake⟩
    · have hm : m = 0 := by simp only [vcap] at hroom; omega
      subst hm
      refine ⟨.slice none 0 0, w, ?_, h.congr fun j hj => absurd hj (Nat.not_lt_zero j), ⟨rfl, rfl, rfl, Nat.le_refl _, fun _ _ _ => rfl⟩, rfl, rfl⟩
      simp [Builtin.append_, run_underlying ht, sizeOf, typeInfo, hi, Builtin.lenOf, Builtin.firstCells, loadCells, loadCellsFrom]
    · have hroom' : n + m ≤ cap := hroom
      have hr2 := run_append_room (P := P) w t ty e i ht hi g n cap cur hgg ad m c (row k m hv) hml hnews (row_one k m hv) hroom' (by rw [hml, hcs, h3]; omega)
      refine ⟨_, _, hr2, ?_, ⟨rfl, rfl, rfl, by simp, fun q _ hq => setRow_other w g q _ (fun e => hq (by simp [Value.ownBlock, e]))⟩, rfl, rfl⟩
      unfold Own
      rw [← row_app]
      rw [Nat.mul_one] at htake hcs
      refine ⟨hlen, .inr ⟨g, cap, _, rfl, hbg, setRow_heap w g cur _ e _ hgg, hroom', hcm, ?_, ?_⟩⟩
      · simp only [List.size_toArray, List.length_append, List.length_take, List.length_drop, Array.length_toList, row_length, h3, Nat.mul_one]
        omega
      · simp only [h3, Nat.mul_one, htake]
        have e2 : n + m = (row k n f ++ row k m hv).length := by rw [hlen, Nat.mul_one]
        rw [e2]
        exact List.take_left
end
section
variable {P : Program} {o : Oper} {a : Act}
theorem appendNOp {w w' : World} (s x : Operand) (t u : TypeId) (v n r : Value) (ho : o.op = .call { callee := .builtin .append, args := #[s, x], argTypes := #[t, u] }) (hs : a.eval s = v) (hx : a.eval x = n) (hr : (Builtin.append_ #[t, u] o.type #[v, n]).run P w = .ok r w') :
    (execOp a.eval o).run P w = .ok (.value r) w' := by
  unfold execOp
  simp only [ho, resolve, invoke, builtin, Sem.run_bind, Sem.run_pure, Result.andThen_ok, List.map_toArray, List.map_cons, List.map_nil, hs, hx, hr]
end
end Go.Proofs.YtbhhboiofepnhaaDoor

namespace Go.Proofs.YtbhhboiofepnhaaDoor
open Go.RowKit

/-- How many bytes the first slices have together, and which. -/
def tot (ln : Nat → Nat) : Nat → Nat
  | 0 => 0
  | j + 1 => tot ln j + ln j
def catz (ln : Nat → Nat) (zz : Nat → Nat → Int) : Nat → Nat → Int
  | 0 => fun _ => 0
  | j + 1 => app (catz ln zz j) (tot ln j) (zz j)
theorem tot_mono (ln : Nat → Nat) {i : Nat} : ∀ {j : Nat}, i ≤ j → tot ln i ≤ tot ln j
  | 0, h => by obtain rfl : i = 0 := by omega
               exact Nat.le_refl _
  | j + 1, h => by
    rcases Nat.lt_or_ge j i with h' | h'
    · obtain rfl : i = j + 1 := by omega
      exact Nat.le_refl _
    · have := tot_mono ln h'
      show _ ≤ tot ln j + ln j
      omega
theorem loadSl {P : Program} {o : Oper} {a : Act} {w : World} (ty e : TypeId) (x : Operand) (p : Addr) (v : Value) (ho : o.op = .load ty x) (hx : a.eval x = .pointer (some p)) (hu : P.underlying ty = some (.slice e)) (hc : w.cell? p = some v) : (execOp a.eval o).run P w = .ok (.value v) w := by
  have hagg : (isAgg ty).run P w = .ok false w := by
    unfold isAgg
    rw [Sem.run_bind, run_underlying hu w]
    rfl
  have e : (loadVar ty p).run P w = .ok v w := by simp [loadVar, Sem.run_bind, hagg, hc]
  unfold execOp
  simp only [ho, hx, Instr.loadAt, Instr.sureAddr, Sem.run_bind, Sem.run_pure, Result.andThen_ok, e]
theorem cut_none (g n cap : Nat) (w : World) : (Instr.sliceAt 22 (.slice (some ⟨g, 0, none⟩) n cap) none (some (.int .i64 0)) none).run Tryd.prog w = .ok (.slice (some ⟨g, 0, none⟩) 0 cap) w := by
  rw [run_sliceAt_slice w 22 _ _ _ _ (by kernel_rfl), run_slice_h w 22 _ n cap (by kernel_rfl) .i64 0 (by omega) (by omega), show (sizeOf (Tryd.prog.elem 22)).run Tryd.prog w = .ok 1 w by kernel_rfl]
  simp [Result.andThen, sliced, Addr.add_mid]

set_option maxRecDepth 10000 in
set_option maxHeartbeats 4000000 in
theorem grow_any (n : Nat) (hn : n ≤ 281474976710656) (w : World) :
    Calls Tryd.prog 28 #[.slice none 0 0, .int .i64 (n : Int)] w fun e w' => ∃ v, e = .returned v ∧ Own w' w.heap.size 5 .u8 0 (fun _ => 0) v ∧ n ≤ vcap v ∧ Below w.heap.size w w' := by
  have h0 : ¬ (n : Int) < 0 := by omega
  go_enter Tryd.func28, Tryd.ntmps28
  go_upto_region 3 with fail
  clear h0
  refine wp_region_list ?_
  refine pureL (.int .i64 (n : Int)) rfl (fun _ => by kernel_rfl) ?_
  simp only [aP, lI, l0, lS]
  refine pureL (.slice none 0 0) rfl (fun _ => by kernel_rfl) ?_
  simp only [aP, lI, l0, lS]
  refine pureL (.int .i64 0) rfl (fun _ => by kernel_rfl) ?_
  simp only [aP, lI, l0, lS]
  refine pureL (.slice none 0 0) rfl (fun _ => by kernel_rfl) ?_
  simp only [aP, lI, l0, lS]
  refine pureL (.int .i64 0) rfl (fun _ => by kernel_rfl) ?_
  simp only [aP, lI, l0, lS]
  refine pureL (.int .i64 0) rfl (fun _ => by kernel_rfl) ?_
  simp only [aP, lI, l0, lS]
  refine pureL (.int .i64 (n : Int)) rfl (fun w => subI .i64 _ _ _ _ _ _ _ rfl rfl rfl (by rw [IntKind.wrap_i64]; omega) w) ?_
  simp only [aP, lI, l0, lS]
  refine pureL (.int .i64 (n : Int)) rfl (fun _ => by kernel_rfl) ?_
  simp only [aP, lI, l0, lS]
  show Exit.then _ _ _ _ _
  rcases Nat.eq_zero_or_pos n with hz | hz
  · subst hz
    go_wp2
    go_ret
    exact ⟨.slice none 0 0, rfl, World.ownsRow_nil w _ _ 1, Nat.le_refl _, Below.refl _ _⟩
  · have g1 : (0 : Int) < (n : Int) := by omega
    go_upto_region 5 with fail
    refine wp_region_list ?_
    refine pureL (.slice none 0 0) rfl (fun _ => by kernel_rfl) ?_
    simp only [aP, lI, l0, lS]
    refine pureL (.slice none 0 0) rfl (fun _ => by kernel_rfl) ?_
    simp only [aP, lI, l0, lS]
    refine pureL (.int .i64 0) rfl (fun _ => by kernel_rfl) ?_
    simp only [aP, lI, l0, lS]
    refine pureL (.slice none 0 0) rfl (fun _ => by kernel_rfl) ?_
    simp only [aP, lI, l0, lS]
    refine pureL (.int .i64 (n : Int)) rfl (fun _ => by kernel_rfl) ?_
    simp only [aP, lI, l0, lS]
    have h1 : (Tryd.prog.info? 5).map (fun i => (i.zero, i.bytes, i.size)) = some (some (.int .u8 0), 1, 1) := by kernel_rfl
    obtain ⟨i, hi, he⟩ := Option.map_eq_some_iff.1 h1
    simp only [Prod.mk.injEq] at he
    obtain ⟨e1, e2, e3⟩ := he
    have hr : ∀ ty, _ := fun ty => Lib.run_append_nil_zeros (P := Tryd.prog) w 22 3 ty 5 i (.int .u8 0) .i64 .i64 Tryd.underlying22 Tryd.underlying3 hi e1 n (by omega) (by rw [e3]; decide) (by omega) (by rw [e2]; omega)
    refine actL _ rfl (appendNOp _ _ 22 3 _ _ _ rfl rfl rfl (hr _)) ?_
    clear hr
    have hge := grownCap_ge w n 0 5
    have hle := grownCap_le_maxLen w n 0 5 (by unfold maxLen; omega)
    have hz1 : (Value.int .u8 0).cells.size = 1 := rfl
    have hsz : (Builtin.zeroCells (Value.int .u8 0).cells n ++ Builtin.zeroCells (Value.int .u8 0).cells (grownCap w n 0 5 - n)).size = grownCap w n 0 5 * 1 := by
      rw [Array.size_append, size_zeroCells, size_zeroCells, hz1]
      omega
    have O : Own (w.drew.alloc (.cells (Builtin.zeroCells (Value.int .u8 0).cells n ++ Builtin.zeroCells (Value.int .u8 0).cells (grownCap w n 0 5 - n)) 5)) w.heap.size 5 .u8 0 (fun _ => 0) (.slice (some ⟨w.heap.size, 0, none⟩) 0 (grownCap w n 0 5)) :=
      ⟨rfl, .inr ⟨w.heap.size, _, _, rfl, Nat.le_refl _, heap_alloc_new w.drew _, Nat.zero_le _, hle, hsz, by rw [Nat.zero_mul, List.take_zero]; rfl⟩⟩
    have hB : Below w.heap.size w (w.drew.alloc (.cells (Builtin.zeroCells (Value.int .u8 0).cells n ++ Builtin.zeroCells (Value.int .u8 0).cells (grownCap w n 0 5 - n)) 5)) := (Below.refl _ _).drew.alloc (Nat.le_refl _) _
    generalize (w.drew.alloc (.cells (Builtin.zeroCells (Value.int .u8 0).cells n ++ Builtin.zeroCells (Value.int .u8 0).cells (grownCap w n 0 5 - n)) 5)) = w1 at O hB ⊢
    clear hle hsz hz1 h1 hi e1 e2 e3
    generalize grownCap w n 0 5 = cp at O hge ⊢
    generalize hg : w.heap.size = g at O hB ⊢
    simp only [aP, lI, l0, lS]
    refine pureL (.slice none 0 0) rfl (fun _ => by kernel_rfl) ?_
    simp only [aP, lI, l0, lS]
    refine pureL (.int .i64 0) rfl (fun _ => by kernel_rfl) ?_
    simp only [aP, lI, l0, lS]
    refine pureL (.slice (some ⟨g, 0, none⟩) 0 cp) rfl (fun w' => cutHi _ _ _ _ _ _ rfl rfl rfl (cut_none g n cp w')) ?_
    simp only [aP, lI, l0, lS]
    refine pureL (.slice (some ⟨g, 0, none⟩) 0 cp) rfl (fun _ => by kernel_rfl) ?_
    simp only [aP, lI, l0]
    subst hg
    show Exit.then _ _ _ _ _
    go_wp2
    go_ret
    exact ⟨_, rfl, O, hge, hB⟩

/-- The slices that stand one behind the other. -/
structure CatIn (w : World) (p : Addr) (c : Nat) (sp : Nat → Option Addr) (ln cp : Nat → Nat) (zz : Nat → Nat → Int) : Prop where
  cell : ∀ j, j < c → w.cell? (p.add j) = some (.slice (sp j) (ln j) (cp j))
  src : ∀ j, j < c → Src w (sp j) (ln j) (zz j)
  nil : ∀ j, j < c → sp j = none → cp j = 0
theorem CatIn.below {w w' : World} {p : Addr} {c : Nat} {sp : Nat → Option Addr} {ln cp : Nat → Nat} {zz : Nat → Nat → Int} (h : CatIn w p c sp ln cp zz) (l : Below w.heap.size w w') : CatIn w' p c sp ln cp zz :=
  ⟨fun j hj => by rw [l.cell (World.block_lt_of_cell? w _ (h.cell j hj))]; exact h.cell j hj, fun j hj => (h.src j hj).below l (Nat.le_refl _), h.nil⟩
/-- What is joined so far. -/
structure CatI (w : World) (ln : Nat → Nat) (zz : Nat → Nat → Int) (c j : Nat) (s : Value) (w' : World) : Prop where
  own : Own w' w.heap.size 5 .u8 (tot ln j) (catz ln zz j) s
  room : tot ln c ≤ vcap s
  below : Below w.heap.size w w'

set_option maxRecDepth 10000 in
set_option maxHeartbeats 4000000 in
theorem concat_any (p : Addr) (c c' : Nat) (sp : Nat → Option Addr) (ln cp : Nat → Nat) (zz : Nat → Nat → Int) (hc : c < 1000000) (ht : tot ln c ≤ 281474976710656) (w : World) (hin : CatIn w p c sp ln cp zz) :
    Calls Tryd.prog 20 #[.slice (some p) c c'] w fun e w' => ∃ v, e = .returned v ∧ Own w' w.heap.size 5 .u8 (tot ln c) (catz ln zz c) v ∧ Below w.heap.size w w' := by
  go_enter Tryd.func20, Tryd.ntmps20
  go_wp2
  go_loopw [3, 11] (fun s i w' => ∃ j : Nat, j ≤ c ∧ s = .int .i64 ((tot ln j : Nat) : Int) ∧ i = .int .i64 (j : Int) ∧ w = w') (fun _ i _ => c - (intOf i).toNat)
  case atStart => exact ⟨0, Nat.zero_le _, rfl, rfl, rfl⟩
  case round =>
    obtain ⟨j, hj, rfl, rfl, rfl⟩ := hrel
    by_cases hlt : j < c
    · have g1 : (j : Int) < (c : Int) := by omega
      have hm : tot ln j + ln j ≤ tot ln c := tot_mono ln (show j + 1 ≤ c by omega)
      go_upto_region 4 with fail
      refine wp_region_list ?_
      refine pureL (.pointer (some (p.add j))) rfl (fun w => idxSl 48 22 c c' .i64 p j _ _ Tryd.underlying48 (fun _ => by kernel_rfl) hlt rfl rfl rfl w) ?_
      simp only [aP, lI, l0, lS]
      refine readL (.slice (sp j) (ln j) (cp j)) rfl (loadSl 22 5 _ (p.add j) _ rfl rfl Tryd.underlying22 (hin.cell j hlt)) ?_
      simp only [aP, lI, l0, lS]
      refine pureL (.slice (sp j) (ln j) (cp j)) rfl (fun _ => by kernel_rfl) ?_
      simp only [aP, lI, l0, lS]
      show Exit.then _ _ _ _ _
      go_upto_region 5 with fail
      refine wp_region_list ?_
      refine pureL (.int .i64 ((tot ln j : Nat) : Int)) rfl (fun _ => by kernel_rfl) ?_
      simp only [aP, lI, l0, lS]
      refine pureL (.slice (sp j) (ln j) (cp j)) rfl (fun _ => by kernel_rfl) ?_
      simp only [aP, lI, l0, lS]
      refine pureL (.int .i64 ((ln j : Nat) : Int)) rfl (fun w => lenS _ 22 5 (sp j) (ln j) (cp j) rfl Tryd.underlying22 rfl w) ?_
      simp only [aP, lI, l0, lS]
      refine pureL (.int .i64 ((tot ln (j + 1) : Nat) : Int)) rfl (fun w => addI .i64 _ _ _ _ _ _ _ rfl rfl rfl (by rw [IntKind.wrap_i64]; show _ = ((tot ln j + ln j : Nat) : Int); omega) w) ?_
      simp only [aP, lI, l0, lS]
      refine pureL (.int .i64 ((tot ln (j + 1) : Nat) : Int)) rfl (fun _ => by kernel_rfl) ?_
      simp only [aP, lI, l0, lS]
      show Exit.then _ _ _ _ _
      have g2 : ¬ ((tot ln (j + 1) : Nat) : Int) < 0 := by omega
      clear hm
      go_wp2
      go_roundw
      case rel => exact ⟨j + 1, by omega, rfl, by go_num, trivial⟩
      case measure => simp [intOf]; omega
    · obtain rfl : j = c := by omega
      have g1 : ¬ (j : Int) < (j : Int) := by omega
      clear hlt hj
      go_upto_region 9 with fail
      refine wp_region_list ?_
      refine pureL (.int .i64 ((tot ln j : Nat) : Int)) rfl (fun _ => by kernel_rfl) ?_
      simp only [aP, lI, l0, lS]
      refine callL rfl (fun _ => by kernel_rfl) (grow_any (tot ln j) ht _) ?_
      rintro e w1 ⟨v, rfl, O, hro, hB⟩
      refine ⟨_, rfl, ?_⟩
      simp only [aP, lI, l0, lS]
      refine pureL v rfl (fun _ => by kernel_rfl) ?_
      simp only [aP, lI, l0, lS]
      have HI : CatI w ln zz j 0 v w1 := ⟨O, hro, hB⟩
      clear O hro hB
      show Exit.then _ _ _ _ _
      go_wp2
      go_loopw [6, 27] (fun s i w' => ∃ q : Nat, q ≤ j ∧ i = .int .i64 (q : Int) ∧ CatI w ln zz j q s w') (fun _ i _ => j - (intOf i).toNat)
      case atStart => exact ⟨0, Nat.zero_le _, rfl, HI⟩
      case round =>
        clear HI
        obtain ⟨q, hq, rfl, HI⟩ := hrel
        by_cases hlt : q < j
        · have g2 : (q : Int) < (j : Int) := by omega
          have hm : tot ln q + ln q ≤ tot ln j := tot_mono ln (show q + 1 ≤ j by omega)
          go_upto_region 12 with fail
          refine wp_region_list ?_
          refine pureL (.pointer (some (p.add q))) rfl (fun w => idxSl 48 22 j c' .i64 p q _ _ Tryd.underlying48 (fun _ => by kernel_rfl) hlt rfl rfl rfl w) ?_
          simp only [aP, lI, l0, lS]
          refine readL (.slice (sp q) (ln q) (cp q)) rfl (loadSl 22 5 _ (p.add q) _ rfl rfl Tryd.underlying22 ((hin.below HI.below).cell q hlt)) ?_
          simp only [aP, lI, l0, lS]
          refine pureL (.slice (sp q) (ln q) (cp q)) rfl (fun _ => by kernel_rfl) ?_
          simp only [aP, lI, l0, lS]
          show Exit.then _ _ _ _ _
          go_upto_region 13 with fail
          refine wp_region_list ?_
          refine pureL u6 rfl (fun _ => by kernel_rfl) ?_
          simp only [aP, lI, l0, lS]
          refine pureL (.slice (sp q) (ln q) (cp q)) rfl (fun _ => by kernel_rfl) ?_
          simp only [aP, lI, l0, lS]
          obtain ⟨v', w2, hr, O, hg, hv, _⟩ := run_append_Room (P := Tryd.prog) (ty := 22) Tryd.underlying22 one8 HI.own (sp q) (ln q) (cp q) (zz q) ((hin.below HI.below).src q hlt) (hin.nil q hlt) (Nat.le_trans hm HI.room)
          refine actL _ rfl (appendOp _ _ 22 _ _ _ rfl rfl rfl hr) ?_
          simp only [aP, lI, l0, lS]
          refine pureL v' rfl (fun _ => by kernel_rfl) ?_
          simp only [aP, lI, l0, lS]
          have HS := show Hid _ from (show CatI w ln zz j (q + 1) v' w2 from ⟨O, by rw [hv]; exact HI.room, Below.grown HI.below hg HI.below.size (fun b hb => (World.ownsRow.lt HI.own b hb).1)⟩)
          clear O hg hv hr HI hm
          show Exit.inBlock _ _ _ _ _
          go_wp2
          go_roundw
          case rel => first | exact ⟨q + 1, by omega, by go_num, HS.out⟩ | ((repeat apply Exists.intro); refine ⟨⟨q + 1, by omega, ?_, HS.out⟩, rfl⟩ <;> first | rfl | go_num)
          case measure => simp [intOf]; omega
        · obtain rfl : q = j := by omega
          have g2 : ¬ (q : Int) < (q : Int) := by omega
          have HS := show Hid _ from HI
          clear HI hlt hq
          go_wp2
          go_ret
          exact ⟨_, rfl, HS.out.own, HS.out.below⟩
end Go.Proofs.YtbhhboiofepnhaaDoor

namespace Go.Proofs.YtbhhboiofepnhaaDoor
open Go.RowKit

theorem Has.head {w : World} {b : Nat} {k : IntKind} {n : Nat} {f : Nat → Int} (h : Has w b k n f) (m : Nat) (hm : m ≤ n) : w.rangeAt b 0 (row k m f) := fun j v hv => by
  obtain ⟨hj, rfl⟩ := row_get_some hv
  rw [Nat.zero_add]
  exact h.cell j (by omega)
/-- Part of a row is written anew. -/
theorem Kr.part {w w' : World} {m : Nat} {l : List (Nat × IntKind × Nat × (Nat → Int))} {R : List (Nat × Nat)} (h : Kr w m l R w') (l' : List (Nat × IntKind × Nat × (Nat → Int))) (b : Nat) (k : IntKind) (n : Nat) (f : Nat → Int) (o q : Nat) (ho : o + q ≤ n) (g : Nat → Int) (hp : (b, k, n, f) ∈ l) (hl : ∀ p ∈ l', p ∈ l) (hne : ∀ p ∈ l', p.1 ≠ b) (hlo : w.heap.size ≤ b) :
    Kr w m ((b, k, n, over f o q g) :: l') R (w'.setCells b o (row k q g)) :=
  ((h.loose l' b k n f hp hl hne hlo).poke b n List.mem_cons_self o _).settle R b k n _ List.mem_cons_self (fun _ hq => List.mem_cons_of_mem _ hq) (fun q hq => (h.apart _ hp q hq).symm) ((h.get _ _ _ _ hp).part o q ho g)
theorem Kr.headC {w w' : World} {m : Nat} {l : List (Nat × IntKind × Nat × (Nat → Int))} {R : List (Nat × Nat)} {b : Nat} {k : IntKind} {n : Nat} {f : Nat → Int} (h : Kr w m ((b, k, n, f) :: l) R w') (g : Nat → Int) (e : ∀ j, j < n → f j = g j) : Kr w m ((b, k, n, g) :: l) R w' :=
  ⟨fun p hp => by
    rcases List.mem_cons.1 hp with rfl | hp
    · exact ⟨(h.rows _ List.mem_cons_self).1.congr e, (h.rows _ List.mem_cons_self).2⟩
    · exact h.rows p (List.mem_cons_of_mem _ hp), h.room, fun p hp q hq => by
    rcases List.mem_cons.1 hp with rfl | hp
    · exact h.apart _ List.mem_cons_self q hq
    · exact h.apart p (List.mem_cons_of_mem _ hp) q hq, h.size, h.base, h.below⟩
end Go.Proofs.YtbhhboiofepnhaaDoor

namespace Go.Proofs.YtbhhboiofepnhaaDoor
open Go.RowKit

theorem or_low (x d : Nat) (hd : d < 256) (hx : x * 256 < 9223372036854775808) : bits .or .i64 ((x * 256 : Nat) : Int) (d : Int) = ((x * 256 + d : Nat) : Int) := by
  have h1 : (BitVec.ofInt 64 ((x * 256 : Nat) : Int)).toNat = x * 256 := by rw [BitVec.toNat_ofInt]; omega
  have h2 : (BitVec.ofInt 64 ((d : Nat) : Int)).toNat = d := by rw [BitVec.toNat_ofInt]; omega
  have h3 : x * 256 ||| d = x * 256 + d := by
    have := Nat.two_pow_add_eq_or_of_lt (i := 8) (b := d) (by omega) x
    rw [show (2 : Nat) ^ 8 = 256 from rfl, Nat.mul_comm] at this
    exact this.symm
  show IntKind.i64.wrap ((BitVec.ofInt 64 ((x * 256 : Nat) : Int) ||| BitVec.ofInt 64 ((d : Nat) : Int)).toNat : Nat) = _
  rw [BitVec.toNat_or, h1, h2, h3, IntKind.wrap_i64]
  omega
theorem eqlNil {P : Program} {o : Oper} {a : Act} (t e t' : TypeId) (x y : Operand) (sp : Option Addr) (n c : Nat) (b : Bool) (ho : o.op = .binOp .eql t x y t') (hx : a.eval x = .slice sp n c) (hy : a.eval y = .slice none 0 0) (hu : P.underlying t = some (.slice e)) (hb : sp.isNone = b) (w : World) :
    (execOp a.eval o).run P w = .ok (.value (.bool b)) w := by
  subst hb
  unfold execOp
  have e1 : (eqGuard .eql t x y (.slice sp n c) (.slice none 0 0)).run P w = .ok () w := rfl
  simp only [ho, hx, hy, Sem.run_bind, e1, Lib.run_eql_slice_nil w t e sp n c 0 0 hu, Sem.run_pure, Result.andThen_ok]
theorem fby_tail (n s j : Nat) (hs : s ≤ 8) (hj : j < s) : fby n 8 (8 - s + j) = fby n s j := by
  unfold fby
  rw [show 8 - 1 - (8 - s + j) = s - 1 - j by omega]
theorem vidx8 (b i : Nat) (hi : i < 8) (w : World) {o : Oper} {a : Act} (x y : Operand) (ho : o.op = .indexAddr 59 x y) (hx : a.eval x = .pointer (some ⟨b, 0, none⟩)) (hy : a.eval y = .int .i64 (i : Int)) :
    (execOp a.eval o).run Tryd.prog w = .ok (.value (.pointer (some ⟨b, i, none⟩))) w := by
  have h := idxArr (P := Tryd.prog) 59 5 8 .i64 b 0 i x y Tryd.underlying59 (fun _ => by kernel_rfl) hi ho hx hy w
  rw [Nat.zero_add] at h
  exact h
theorem cut8 (b s : Nat) (hs : 1 ≤ s ∧ s ≤ 8) (w : World) : (Instr.sliceAt 59 (.pointer (some ⟨b, 0, none⟩)) (some (.int .i64 ((8 - s : Nat) : Int))) none none).run Tryd.prog w = .ok (.slice (some ⟨b, 8 - s, none⟩) s s) w := by
  have hl : Tryd.prog.arrayLen 59 = 8 := by kernel_rfl
  have hz : ∀ w, (sizeOf (Tryd.prog.elem 59)).run Tryd.prog w = .ok 1 w := fun w => by kernel_rfl
  rw [run_sliceAt_array_l w 59 ⟨b, 0, none⟩ (by kernel_rfl) .i64 _ (by omega) (by rw [hl]; omega), hz, hl]
  simp only [Result.andThen, slicedAt]
  rw [Int.toNat_natCast, if_neg (by omega), Addr.add_mid, Nat.zero_add, Nat.mul_one, show 8 - (8 - s) = s by omega]

set_option maxRecDepth 10000 in
set_option maxHeartbeats 8000000 in
theorem lowest_any (n s : Nat) (hs : 1 ≤ s ∧ s ≤ 8) (w : World) :
    Calls Tryd.prog 32 #[.int .i64 (n : Int), .int .i64 (s : Int)] w fun e w' => e = .returned (.slice (some ⟨w.heap.size, 8 - s, none⟩) s s) ∧ Kr w (w.heap.size + 1) [(w.heap.size, .u8, 8, fby n 8)] [] w' := by
  go_enter Tryd.func32, Tryd.ntmps32
  go_upto_region 1 with fail
  refine wp_region_list ?_
  refine allocL (row .u8 8 (fun _ => 0)).toArray 59 rfl (fun _ => by kernel_rfl) ?_
  simp only [aP, lI, l0, lS]
  have K := (Kr.init w).box .u8 8 (fun _ => 0) 59 w.heap.size rfl
  generalize w.alloc (.cells (row .u8 8 (fun _ => 0)).toArray 59) = w1 at K ⊢
  show Exit.then _ _ _ _ _
  go_wp2
  go_loopw [7] (fun i w' => ∃ (m : Nat) (f : Nat → Int), m ≤ 8 ∧ i = .int .i64 (m : Int) ∧ Kr w (w.heap.size + 1) [(w.heap.size, .u8, 8, f)] [] w' ∧ ∀ j, 8 - m ≤ j → j < 8 → f j = fby n 8 j) (fun i _ => 8 - (intOf i).toNat)
  case atStart => exact ⟨0, _, by omega, rfl, K, fun j h1 h2 => by omega⟩
  case round =>
    clear K
    obtain ⟨m, f, hm, rfl, K, hd⟩ := hrel
    have g1 : (0 : Int) ≤ (m : Int) := by omega
    by_cases hlt : m < 8
    · have g2 : (m : Int) < 8 := by omega
      have h7 : 7 - m < 8 := by omega
      go_upto_region 5 with fail
      refine wp_region_list ?_
      refine pureL (.int .i64 (m : Int)) rfl (fun _ => by kernel_rfl) ?_
      simp only [aP, lI, l0, lS]
      refine pureL (.int .i64 ((7 - m : Nat) : Int)) rfl (fun w => subI .i64 _ _ _ _ _ _ _ rfl rfl rfl (by rw [IntKind.wrap_i64]; omega) w) ?_
      simp only [aP, lI, l0, lS]
      refine pureL (.int .i64 (n : Int)) rfl (fun _ => by kernel_rfl) ?_
      simp only [aP, lI, l0, lS]
      refine pureL (.int .i64 (m : Int)) rfl (fun _ => by kernel_rfl) ?_
      simp only [aP, lI, l0, lS]
      refine pureL (.int .i64 ((8 * m : Nat) : Int)) rfl (fun w => mulI .i64 _ _ _ _ _ _ _ rfl rfl rfl (by rw [IntKind.wrap_i64]; omega) w) ?_
      simp only [aP, lI, l0, lS]
      refine pureL (.int .i64 ((n / 256 ^ m : Nat) : Int)) rfl (fun w => shrI .i64 .i64 _ _ _ _ _ _ _ rfl rfl rfl (by omega) (shr_byte n m (by omega)) w) ?_
      simp only [aP, lI, l0, lS]
      refine pureL (.int .u8 (fby n 8 (7 - m))) rfl (fun w => convI .i64 .u8 _ _ _ _ _ rfl (by kernel_rfl) Tryd.underlying5 (by kernel_rfl) rfl (by rw [IntKind.wrap_u8']; unfold fby; rw [show 8 - 1 - (7 - m) = m by omega]; omega) w) ?_
      simp only [aP, lI, l0, lS]
      refine pureL (.pointer (some ⟨w.heap.size, 7 - m, none⟩)) rfl (fun w' => vidx8 (w.heap.size) (7 - m) h7 w' _ _ rfl rfl rfl) ?_
      simp only [aP, lI, l0, lS]
      refine storeL .u8 (fby n 8 (7 - m)) (w.heap.size) (7 - m) 5 _ _ rfl rfl rfl rfl (by rw [(K.get _ _ _ _ List.mem_cons_self).cell (7 - m) h7]; rfl) ((K.get _ _ _ _ List.mem_cons_self).free (7 - m) h7) (by kernel_rfl) ?_
      simp only [Act.put]
      replace K := K.setCell [] (w.heap.size) .u8 8 f (7 - m) h7 (fby n 8 (7 - m)) List.mem_cons_self (fun _ hp => by cases hp) (fun _ hp => by cases hp) (Nat.le_refl _)
      have HS := show Hid _ from (And.intro K (show ∀ j, 8 - (m + 1) ≤ j → j < 8 → upd f (7 - m) (fby n 8 (7 - m)) j = fby n 8 j from fun j h1 h2 => by
        by_cases e : j = 7 - m
        · subst e; rw [upd_same]
        · rw [upd_other _ _ _ _ e]; exact hd j (by omega) h2))
      clear K hd
      generalize wr.setCell ⟨w.heap.size, 7 - m, none⟩ (.int .u8 (fby n 8 (7 - m))) = w4 at HS ⊢
      generalize upd f (7 - m) (fby n 8 (7 - m)) = f' at HS
      show Exit.inBlock _ _ _ _ _
      go_wp2
      go_roundw
      case rel => first | exact ⟨m + 1, f', by omega, by go_num, HS.out⟩ | ((repeat apply Exists.intro); refine ⟨⟨m + 1, f', by omega, by go_num, HS.out⟩, rfl⟩)
      case measure => simp [intOf]; omega
    · obtain rfl : m = 8 := by omega
      replace K := K.headC (fby n 8) (fun j hj => hd j (by omega) hj)
      clear hd hlt hm g1
      go_upto_region 7 with fail
      refine wp_region_list ?_
      refine pureL (.int .i64 (s : Int)) rfl (fun _ => by kernel_rfl) ?_
      simp only [aP, lI, l0, lS]
      refine pureL (.int .i64 ((8 - s : Nat) : Int)) rfl (fun w => subI .i64 _ _ _ _ _ _ _ rfl rfl rfl (by rw [IntKind.wrap_i64]; omega) w) ?_
      simp only [aP, lI, l0, lS]
      refine pureL (.slice (some ⟨w.heap.size, 8 - s, none⟩) s s) rfl (fun w' => cutOp _ _ _ _ _ _ rfl rfl rfl (cut8 (w.heap.size) s hs w')) ?_
      simp only [aP, lI, l0, lS]
      refine pureL (.slice (some ⟨w.heap.size, 8 - s, none⟩) s s) rfl (fun _ => by kernel_rfl) ?_
      simp only [aP, lI, l0, lS]
      show Exit.then _ _ _ _ _
      go_wp2
      go_ret
      exact ⟨rfl, K⟩

/-- The number of the bytes h and, behind it, the first of z. -/
def jV (h : Int) (z : Nat → Int) : Nat → Int
  | 0 => h
  | i + 1 => jV h z i * 256 + z i
theorem jV_in (h : Int) (hh : 0 ≤ h ∧ h < 64) (z : Nat → Int) (m : Nat) (hz : In 256 m z) : ∀ i, i ≤ m → 0 ≤ jV h z i ∧ jV h z i < 64 * 256 ^ i
  | 0, _ => by show 0 ≤ h ∧ h < 64 * 256 ^ 0; omega
  | i + 1, hi => by
    have h1 := jV_in h hh z m hz i (by omega)
    have h2 := hz i (by omega)
    show 0 ≤ jV h z i * 256 + z i ∧ jV h z i * 256 + z i < 64 * 256 ^ (i + 1)
    rw [Int.pow_succ]
    omega
theorem jV_zero (z : Nat → Int) : ∀ i, jV 0 z i = fV z i
  | 0 => rfl
  | i + 1 => by
    show jV 0 z i * 256 + z i = fV z (i + 1)
    rw [jV_zero z i]
    rfl
set_option maxRecDepth 10000 in
set_option maxHeartbeats 8000000 in
theorem vjoin_any (h : Int) (hh : 0 ≤ h ∧ h < 64) (sp : Option Addr) (len cap : Nat) (hl : len ≤ 7) (z : Nat → Int) (hz : In 256 len z) (w : World) (hs : Src w sp len z) :
    Calls Tryd.prog 34 #[.int .i64 h, .slice sp len cap] w fun e w' => e = .returned (.int .i64 (jV h z len)) ∧ Below w.heap.size w w' := by
  have hB := Below.refl w.heap.size w
  go_enter Tryd.func34, Tryd.ntmps34
  go_upto_region 1 with fail
  refine wp_region_list ?_
  refine pureL (.slice sp len cap) rfl (fun _ => by kernel_rfl) ?_
  simp only [aP, lI, l0, lS]
  refine pureL (.int .i64 (len : Int)) rfl (fun w => lenS _ 22 5 (sp) (len) (cap) rfl Tryd.underlying22 rfl w) ?_
  simp only [aP, lI, l0, lS]
  refine pureL (.int .i64 0) rfl (fun _ => by kernel_rfl) ?_
  simp only [aP, lI, l0, lS]
  show Exit.then _ _ _ _ _
  go_wp2
  go_loopw [0, 9] (fun hw i w' => ∃ m : Nat, m ≤ len ∧ hw = .int .i64 (jV h z m) ∧ i = .int .i64 (m : Int) ∧ w = w') (fun _ i _ => len - (intOf i).toNat)
  case atStart => exact ⟨0, Nat.zero_le _, rfl, rfl, rfl⟩
  case round =>
    obtain ⟨m, hm, rfl, rfl, rfl⟩ := hrel
    by_cases hlt : m < len
    · have g1 : (m : Int) < (len : Int) := by omega
      obtain ⟨ad, rfl, hc⟩ := hs m hlt
      have hzm := hz m hlt
      have hj := jV_in h hh z len hz m hm
      have hj2 : jV h z m < 18014398509481984 := by
        have h6 : (256 : Nat) ^ m ≤ 256 ^ 6 := Nat.pow_le_pow_right (by decide) (by omega)
        have e6 : (256 : Nat) ^ 6 = 281474976710656 := by decide
        have e7 : ((256 ^ m : Nat) : Int) = (256 : Int) ^ m := by norm_cast
        omega
      obtain ⟨x, hx⟩ := Int.eq_ofNat_of_zero_le hj.1
      obtain ⟨d, hd⟩ := Int.eq_ofNat_of_zero_le hzm.1
      have hor : bits .or .i64 (jV h z m * 256) (z m) = jV h z (m + 1) := by
        show _ = jV h z m * 256 + z m
        rw [hx, hd, show ((x : Nat) : Int) * 256 = ((x * 256 : Nat) : Int) by omega, or_low x d (by omega) (by omega)]
        omega
      go_upto_region 3 with fail
      refine wp_region_list ?_
      refine pureL (.pointer (some (ad.add m))) rfl (fun w => idxSl 22 5 len cap .i64 ad m _ _ Tryd.underlying22 (fun _ => by kernel_rfl) hlt rfl rfl rfl w) ?_
      simp only [aP, lI, l0, lS]
      refine readL (.int .u8 (z m)) rfl (loadAny 5 .u8 _ (ad.add m) _ rfl rfl Tryd.underlying5 hc) ?_
      simp only [aP, lI, l0, lS]
      refine pureL (.int .u8 (z m)) rfl (fun _ => by kernel_rfl) ?_
      simp only [aP, lI, l0, lS]
      show Exit.then _ _ _ _ _
      go_upto_region 4 with fail
      refine wp_region_list ?_
      refine pureL (.int .i64 (jV h z m)) rfl (fun _ => by kernel_rfl) ?_
      simp only [aP, lI, l0, lS]
      refine pureL (.int .i64 (jV h z m * 256)) rfl (fun w => shlI .i64 .u64 _ _ _ _ _ _ _ rfl rfl rfl (by omega) (by rw [IntKind.wrap_i64, show min (8 : Int).toNat IntKind.i64.bits = 8 from rfl]; omega) w) ?_
      simp only [aP, lI, l0, lS]
      refine pureL (.int .u8 (z m)) rfl (fun _ => by kernel_rfl) ?_
      simp only [aP, lI, l0, lS]
      refine pureL (.int .i64 (z m)) rfl (fun w => convI .u8 .i64 _ _ _ _ _ rfl (by kernel_rfl) Tryd.underlying3 (by kernel_rfl) rfl (by rw [IntKind.wrap_i64]; omega) w) ?_
      simp only [aP, lI, l0, lS]
      refine pureL (.int .i64 (jV h z (m + 1))) rfl (fun w => vorI .i64 _ _ _ _ _ _ _ rfl rfl rfl hor w) ?_
      simp only [aP, lI, l0, lS]
      refine pureL (.int .i64 (jV h z (m + 1))) rfl (fun _ => by kernel_rfl) ?_
      simp only [aP, lI, l0]
      clear hor hx hd hj hj2
      show Exit.inBlock _ _ _ _ _
      go_wp2
      go_roundw
      case rel => first | exact ⟨m + 1, by omega, rfl, by go_num, trivial⟩ | ((repeat apply Exists.intro); refine ⟨⟨m + 1, by omega, rfl, by go_num, trivial⟩, rfl⟩)
      case measure => simp [intOf]; omega
    · obtain rfl : m = len := by omega
      have g1 : ¬ (m : Int) < (m : Int) := by omega
      clear hlt hm
      go_wp2
      go_ret
      exact ⟨rfl, hB⟩

set_option maxRecDepth 10000 in
set_option maxHeartbeats 8000000 in
theorem clone_any (sp : Option Addr) (len cap : Nat) (hlen : len ≤ 140737488351240) (hc : len ≤ cap) (hnil : sp = none → cap = 0) (z : Nat → Int) (w : World) (hs : Src w sp len z) :
    Calls Tryd.prog 25 #[.slice sp len cap] w fun e w' => ∃ v, e = .returned v ∧ Own w' w.heap.size 5 .u8 len z v ∧ Below w.heap.size w w' := by
  have hB := Below.refl w.heap.size w
  cases sp with
  | none =>
    obtain rfl : len = 0 := by have := hnil rfl; omega
    obtain rfl := hnil rfl
    go_enter Tryd.func25, Tryd.ntmps25
    go_upto_region 1 with fail
    refine wp_region_list ?_
    refine pureL (.slice none 0 0) rfl (fun _ => by kernel_rfl) ?_
    simp only [aP, lI, l0, lS]
    refine pureL (.bool true) rfl (fun w => eqlNil 22 5 _ _ _ none 0 0 true rfl rfl rfl Tryd.underlying22 rfl w) ?_
    simp only [aP, lI, l0, lS]
    show Exit.then _ _ _ _ _
    go_wp2
    go_ret
    exact ⟨_, rfl, World.ownsRow_nil w _ _ 1, hB⟩
  | some ad =>
    go_enter Tryd.func25, Tryd.ntmps25
    go_upto_region 1 with fail
    refine wp_region_list ?_
    refine pureL (.slice (some ad) len cap) rfl (fun _ => by kernel_rfl) ?_
    simp only [aP, lI, l0, lS]
    refine pureL (.bool false) rfl (fun w => eqlNil 22 5 _ _ _ (some ad) len cap false rfl rfl rfl Tryd.underlying22 rfl w) ?_
    simp only [aP, lI, l0, lS]
    show Exit.then _ _ _ _ _
    go_upto_region 3 with fail
    refine wp_region_list ?_
    refine actL (w' := w.alloc (.cells #[] 5)) (.slice (some ⟨w.heap.size, 0, none⟩) 0 0) rfl (by kernel_rfl) ?_
    simp only [aP, lI, l0, lS]
    refine pureL (.slice (some ad) len cap) rfl (fun _ => by kernel_rfl) ?_
    simp only [aP, lI, l0, lS]
    have hb1 := (Below.refl w.heap.size w).alloc (Nat.le_refl _) (.cells #[] 5)
    obtain ⟨v, w2, hr, ho, hgr, _⟩ := run_append_Own (P := Tryd.prog) (ty := 22) Tryd.underlying22 one8 (Own.lit w w.heap.size 5 .u8 0 (fun _ => 0) (Nat.le_refl _) (by unfold maxLen; omega)) (some ad) (len) (cap) (z) ((hs).below hb1 (Nat.le_refl _)) (fun e => by cases e) (by unfold maxLen; omega) (by omega) hb1.size
    have hb2 := hb1.grown hgr hb1.size (fun b hb => by injection hb with hb; simp only at hb; omega)
    refine actL v rfl (appendOp _ _ 22 _ _ _ rfl rfl rfl hr) ?_
    simp only [aP, lI, l0, lS]
    have hO : Own w2 w.heap.size 5 .u8 (len) (z) v := by
      rw [Nat.zero_add] at ho
      exact ho.congr fun j _ => by unfold app; rw [if_neg (Nat.not_lt_zero j), Nat.sub_zero]
    clear hr ho hgr hb1
    refine pureL v rfl (fun _ => by kernel_rfl) ?_
    simp only [aP, lI, l0, lS]
    show Exit.then _ _ _ _ _
    go_wp2
    go_ret
    exact ⟨_, rfl, hO, hb2⟩
end Go.Proofs.YtbhhboiofepnhaaDoor

namespace Go.Proofs.YtbhhboiofepnhaaDoor
open Go.RowKit

/-- What is left of a text, in a place of its own. -/
structure Tp (w0 : World) (B len : Nat) (z : Nat → Int) (w : World) : Prop where
  lo : w0.heap.size ≤ B
  hi : B < w.heap.size
  cell : ∃ sp cap, w.cell? ⟨B, 0, none⟩ = some (.slice sp len cap) ∧ len ≤ cap ∧ (sp = none → cap = 0) ∧ Src w0 sp len z
  free : w.frozen? ⟨B, 0, none⟩ = false
  below : Below w0.heap.size w0 w
theorem Tp.call {w0 w w' : World} {B len : Nat} {z : Nat → Int} (h : Tp w0 B len z w) (l : Below w.heap.size w w') : Tp w0 B len z w' := by
  obtain ⟨lo, hi, ⟨sp, cap, h1, h2⟩, hf, hb⟩ := h
  exact ⟨lo, Nat.lt_of_lt_of_le hi l.size, ⟨sp, cap, by rw [l.cell (p := ⟨B, 0, none⟩) hi]; exact h1, h2⟩, by rw [l.frozen (p := ⟨B, 0, none⟩) hi]; exact hf, hb.trans (l.mono hb.size)⟩
theorem Tp.set {w0 w : World} {B len : Nat} {z : Nat → Int} (h : Tp w0 B len z w) (sp : Option Addr) (len' cap : Nat) (z' : Nat → Int) (hc : len' ≤ cap) (hn : sp = none → cap = 0) (hs : Src w0 sp len' z') : Tp w0 B len' z' (w.setCell ⟨B, 0, none⟩ (.slice sp len' cap)) := by
  obtain ⟨lo, hi, ⟨sp', cap', h1, h2⟩, hf, hb⟩ := h
  exact ⟨lo, by have e := size_setAll B 0 [.slice sp len' cap] w; simp only [World.setCells] at e; omega, ⟨sp, cap, World.cell?_setCell_same' _ _ _ (by rw [h1]; rfl), hc, hn, hs⟩, by rw [World.frozen?_setCell]; exact hf, below_setAll hb B lo 0 [.slice sp len' cap]⟩
theorem Tp.nil {w0 w : World} {B : Nat} {z z' : Nat → Int} (h : Tp w0 B 0 z w) : Tp w0 B 0 z' w := by
  obtain ⟨lo, hi, ⟨sp, cap, h1, h2, h3, _⟩, hf, hb⟩ := h
  exact ⟨lo, hi, ⟨sp, cap, h1, h2, h3, fun j hj => absurd hj (Nat.not_lt_zero j)⟩, hf, hb⟩
/-- A slice is stored. -/
theorem storeSl {P : Program} {ops : Array Oper} {Q : Exit → Act → World → Prop} {o' : Oper} {rest : List Oper} {a : Act} {w : World} (sp : Option Addr) (n c : Nat) (b : Nat) (ty : TypeId) (x y : Operand) (hw : Region.wanted o' (yielded ops a.tmps) = true) (ho : o'.op = .store ty x y) (hx : a.eval x = .pointer (some ⟨b, 0, none⟩)) (hy : a.eval y = .slice sp n c)
    (hc : (w.cell? ⟨b, 0, none⟩).isSome = true) (hf : w.frozen? ⟨b, 0, none⟩ = false) (hz : (P.info? ty).map (·.size) = some 1)
    (h : wpList P ops Q rest (a.put o'.dst undef) (w.setCell ⟨b, 0, none⟩ (.slice sp n c))) : wpList P ops Q (o' :: rest) a w := by
  have h0 : ∀ j : Nat, j < [Value.slice sp n c].length → j = 0 := fun j hj => by simpa using hj
  have hst := run_storeCells_cells (P := P) b 0 [.slice sp n c] 0 w (fun j hj => by rw [h0 j hj]; simpa using hc) (fun j hj => by rw [h0 j hj]; simpa using hf) (fun v hv => by simp at hv; subst hv; rfl)
  have he : (execOp a.eval o').run P w = .ok .skip (w.setCell ⟨b, 0, none⟩ (.slice sp n c)) := by
    cases hq : P.info? ty with
    | none => simp [hq] at hz
    | some i =>
      have hs : i.size = 1 := by simp [hq] at hz; omega
      simp only [Nat.add_zero] at hst
      have e : (storeVar ty ⟨b, 0, none⟩ (.slice sp n c)).run P w = .ok () (w.setCell ⟨b, 0, none⟩ (.slice sp n c)) := by
        simp [storeVar, sizeOf, typeInfo, hq, Value.cells, hs, hst, World.setCells]
      unfold execOp
      simp only [ho, hx, hy, Instr.storeAt, Instr.sureAddr, Sem.run_bind, Sem.run_pure, Result.andThen_ok, e]
  unfold wpList
  rw [if_pos hw]
  refine .inl ?_
  unfold Oper.wp
  rw [he]
  exact h

set_option maxRecDepth 10000 in
set_option maxHeartbeats 8000000 in
theorem along_any (sp : Option Addr) (len cap : Nat) (hc : len ≤ cap) (hnil : sp = none → cap = 0) (z : Nat → Int) (w : World) (hs : Src w sp len z) :
    Calls Tryd.prog 33 #[.slice sp len cap] w fun e w' => ∃ B, e = .returned (.tuple #[(.func (.func 35) #[] #[.pointer (some ⟨B, 0, none⟩)]), (.func (.func 36) #[] #[.pointer (some ⟨B, 0, none⟩)])]) ∧ Tp w B len z w' := by
  go_enter Tryd.func33, Tryd.ntmps33
  go_upto_region 0 with fail
  refine wp_region_list ?_
  refine actL (w' := w.alloc (.cells #[.slice sp len cap] 22)) (.pointer (some ⟨w.heap.size, 0, none⟩)) rfl (by kernel_rfl) ?_
  simp only [aP, lI, l0, lS]
  refine pureL .nilFunc rfl (fun _ => by kernel_rfl) ?_
  simp only [aP, lI, l0, lS]
  refine pureL .nilFunc rfl (fun _ => by kernel_rfl) ?_
  simp only [aP, lI, l0, lS]
  have T : Tp w w.heap.size len z (w.alloc (.cells #[.slice sp len cap] 22)) := ⟨Nat.le_refl _, by simp, ⟨sp, cap, by rw [World.cell?_alloc_at _ _ _ _ rfl]; rfl, hc, hnil, hs⟩, by first | exact World.frozen?_alloc_new _ _ _ _ | (simp [World.frozen?, World.alloc]), (Below.refl _ _).alloc (Nat.le_refl _) _⟩
  generalize w.alloc (.cells #[.slice sp len cap] 22) = w1 at T ⊢
  generalize w.heap.size = B at *
  show Exit.then _ _ _ _ _
  go_upto_region 1 with fail
  refine wp_region_list ?_
  refine pureL (.func (.func 35) #[] #[.pointer (some ⟨B, 0, none⟩)]) rfl (fun _ => by kernel_rfl) ?_
  simp only [aP, lI, l0, lS]
  refine pureL (.func (.func 35) #[] #[.pointer (some ⟨B, 0, none⟩)]) rfl (fun _ => by kernel_rfl) ?_
  simp only [aP, lI, l0, lS]
  show Exit.then _ _ _ _ _
  go_upto_region 2 with fail
  refine wp_region_list ?_
  refine pureL (.func (.func 36) #[] #[.pointer (some ⟨B, 0, none⟩)]) rfl (fun _ => by kernel_rfl) ?_
  simp only [aP, lI, l0, lS]
  refine pureL (.func (.func 36) #[] #[.pointer (some ⟨B, 0, none⟩)]) rfl (fun _ => by kernel_rfl) ?_
  simp only [aP, lI, l0, lS]
  show Exit.then _ _ _ _ _
  go_upto_region 3 with fail
  refine wp_region_list ?_
  refine pureL (.func (.func 35) #[] #[.pointer (some ⟨B, 0, none⟩)]) rfl (fun _ => by kernel_rfl) ?_
  simp only [aP, lI, l0, lS]
  refine pureL (.func (.func 36) #[] #[.pointer (some ⟨B, 0, none⟩)]) rfl (fun _ => by kernel_rfl) ?_
  simp only [aP, lI, l0, lS]
  refine pureL (.func (.func 35) #[] #[.pointer (some ⟨B, 0, none⟩)]) rfl (fun _ => by kernel_rfl) ?_
  simp only [aP, lI, l0, lS]
  refine pureL (.func (.func 36) #[] #[.pointer (some ⟨B, 0, none⟩)]) rfl (fun _ => by kernel_rfl) ?_
  simp only [aP, lI, l0, lS]
  show Exit.then _ _ _ _ _
  go_wp2
  go_ret2
  exact ⟨B, rfl, T⟩

set_option maxRecDepth 10000 in
set_option maxHeartbeats 8000000 in
theorem next_any (w0 : World) (B len : Nat) (z : Nat → Int) (m : Nat) (w : World) (T : Tp w0 B len z w) :
    Calls Tryd.prog 35 #[.int .i64 (m : Int), .pointer (some ⟨B, 0, none⟩)] w fun e w' =>
      (len < m ∧ e = .returned (.tuple #[.slice none 0 0, .bool false]) ∧ Tp w0 B len z w') ∨
      (m ≤ len ∧ ∃ sp cap, e = .returned (.tuple #[.slice sp m cap, .bool true]) ∧ m ≤ cap ∧ (sp = none → cap = 0) ∧ Src w0 sp m z ∧ Tp w0 B (len - m) (fun j => z (m + j)) w') := by
  obtain ⟨sp, cap, hcell, hc, hnil, hs⟩ := T.cell
  by_cases h1 : len < m
  · go_enter Tryd.func35, Tryd.ntmps35
    go_upto_region 1 with fail
    refine wp_region_list ?_
    refine pureL (.int .i64 (m : Int)) rfl (fun _ => by kernel_rfl) ?_
    simp only [aP, lI, l0, lS]
    refine readL (.slice sp len cap) rfl (loadSl 22 5 _ ⟨B, 0, none⟩ _ rfl rfl Tryd.underlying22 hcell) ?_
    simp only [aP, lI, l0, lS]
    refine pureL (.int .i64 (len : Int)) rfl (fun w => lenS _ 22 5 (sp) (len) (cap) rfl Tryd.underlying22 rfl w) ?_
    simp only [aP, lI, l0, lS]
    refine pureL (.bool true) rfl (fun w => gtrI .i64 _ _ _ _ _ _ rfl rfl rfl true (decide_eq_true (by omega)) w) ?_
    simp only [aP, lI, l0, lS]
    show Exit.then _ _ _ _ _
    go_wp2
    go_ret2
    exact .inl ⟨h1, rfl, T⟩
  · obtain ⟨cp, hcut1, hcs1, hcn1⟩ := cut_hiN (P := Tryd.prog) (t := 22) (by kernel_rfl) (fun _ => by kernel_rfl) sp len cap m (by omega) hc hnil
    obtain ⟨cq, hcut2, hcs2, hcn2⟩ := cut_loN (P := Tryd.prog) (t := 22) (by kernel_rfl) (fun _ => by kernel_rfl) sp len cap m (by omega) hc hnil
    go_enter Tryd.func35, Tryd.ntmps35
    go_upto_region 1 with fail
    refine wp_region_list ?_
    refine pureL (.int .i64 (m : Int)) rfl (fun _ => by kernel_rfl) ?_
    simp only [aP, lI, l0, lS]
    refine readL (.slice sp len cap) rfl (loadSl 22 5 _ ⟨B, 0, none⟩ _ rfl rfl Tryd.underlying22 hcell) ?_
    simp only [aP, lI, l0, lS]
    refine pureL (.int .i64 (len : Int)) rfl (fun w => lenS _ 22 5 (sp) (len) (cap) rfl Tryd.underlying22 rfl w) ?_
    simp only [aP, lI, l0, lS]
    refine pureL (.bool false) rfl (fun w => gtrI .i64 _ _ _ _ _ _ rfl rfl rfl false (decide_eq_false (by omega)) w) ?_
    simp only [aP, lI, l0, lS]
    show Exit.then _ _ _ _ _
    go_upto_region 3 with fail
    refine wp_region_list ?_
    refine readL (.slice sp len cap) rfl (loadSl 22 5 _ ⟨B, 0, none⟩ _ rfl rfl Tryd.underlying22 hcell) ?_
    simp only [aP, lI, l0, lS]
    refine pureL (.int .i64 (m : Int)) rfl (fun _ => by kernel_rfl) ?_
    simp only [aP, lI, l0, lS]
    refine pureL (.slice cp m cap) rfl (fun w => cutHi _ _ _ _ _ _ rfl rfl rfl (hcut1 w)) ?_
    simp only [aP, lI, l0, lS]
    refine pureL (.slice cp m cap) rfl (fun _ => by kernel_rfl) ?_
    simp only [aP, lI, l0, lS]
    show Exit.then _ _ _ _ _
    go_upto_region 4 with fail
    refine wp_region_list ?_
    refine readL (.slice sp len cap) rfl (loadSl 22 5 _ ⟨B, 0, none⟩ _ rfl rfl Tryd.underlying22 hcell) ?_
    simp only [aP, lI, l0, lS]
    refine pureL (.int .i64 (m : Int)) rfl (fun _ => by kernel_rfl) ?_
    simp only [aP, lI, l0, lS]
    refine pureL (.slice cq (len - m) (cap - m)) rfl (fun w => cutOp _ _ _ _ _ _ rfl rfl rfl (hcut2 w)) ?_
    simp only [aP, lI, l0, lS]
    refine storeSl cq (len - m) (cap - m) B 22 _ _ rfl rfl rfl rfl (by rw [hcell]; rfl) T.free (by kernel_rfl) ?_
    simp only [Act.put]
    replace T := T.set cq (len - m) (cap - m) (fun j => z (m + j)) (by omega) hcn2 (hcs2 _ _ hs)
    replace hs := hcs1 _ _ hs
    generalize w.setCell ⟨B, 0, none⟩ (.slice cq (len - m) (cap - m)) = w1 at T ⊢
    clear hcut1 hcut2 hcs1 hcs2 hcn2 hcell
    show Exit.then _ _ _ _ _
    go_upto_region 5 with fail
    refine wp_region_list ?_
    refine pureL (.slice cp m cap) rfl (fun _ => by kernel_rfl) ?_
    simp only [aP, lI, l0, lS]
    refine pureL (.slice cp m cap) rfl (fun _ => by kernel_rfl) ?_
    simp only [aP, lI, l0, lS]
    refine pureL (.bool true) rfl (fun _ => by kernel_rfl) ?_
    simp only [aP, lI, l0, lS]
    show Exit.then _ _ _ _ _
    go_wp2
    go_ret2
    exact .inr ⟨by omega, cp, cap, rfl, by omega, hcn1, hs, T⟩

set_option maxRecDepth 10000 in
set_option maxHeartbeats 8000000 in
theorem left_any (w0 : World) (B len : Nat) (hlen : len ≤ 140737488351240) (z : Nat → Int) (w : World) (T : Tp w0 B len z w) :
    Calls Tryd.prog 36 #[.pointer (some ⟨B, 0, none⟩)] w fun e w' => ∃ v, e = .returned v ∧ Own w' w.heap.size 5 .u8 len z v ∧ Below w.heap.size w w' := by
  obtain ⟨sp, cap, hcell, hc, hnil, hs⟩ := T.cell
  go_enter Tryd.func36, Tryd.ntmps36
  go_upto_region 1 with fail
  refine wp_region_list ?_
  refine readL (.slice sp len cap) rfl (loadSl 22 5 _ ⟨B, 0, none⟩ _ rfl rfl Tryd.underlying22 hcell) ?_
  simp only [aP, lI, l0, lS]
  refine callL rfl (fun _ => by kernel_rfl) (clone_any sp len cap hlen hc hnil z _ (hs.below T.below (Nat.le_refl _))) ?_
  rintro e w1 ⟨v, rfl, hO, hB⟩
  refine ⟨_, rfl, ?_⟩
  simp only [aP, lI, l0, lS]
  refine pureL v rfl (fun _ => by kernel_rfl) ?_
  simp only [aP, lI, l0, lS]
  show Exit.then _ _ _ _ _
  go_wp2
  go_ret
  exact ⟨v, rfl, hO, hB⟩

set_option maxRecDepth 10000 in
set_option maxHeartbeats 8000000 in
theorem isSize_any (s : Int) (w : World) : Calls Tryd.prog 31 #[.int .i64 s] w fun e w' => e = .returned (.bool (decide (1 ≤ s ∧ s ≤ 7))) ∧ Below w.heap.size w w' := by
  have hB := Below.refl w.heap.size w
  by_cases h1 : 1 ≤ s
  · by_cases h2 : s ≤ 7
    · rw [decide_eq_true (And.intro h1 h2)]
      go_enter Tryd.func31, Tryd.ntmps31
      go_wp2
      go_ret
      exact ⟨rfl, hB⟩
    · rw [decide_eq_false (fun h => h2 h.2)]
      go_enter Tryd.func31, Tryd.ntmps31
      go_wp2
      go_ret
      exact ⟨rfl, hB⟩
  · rw [decide_eq_false (fun h => h1 h.1)]
    go_enter Tryd.func31, Tryd.ntmps31
    go_wp2
    go_ret
    exact ⟨rfl, hB⟩
end Go.Proofs.YtbhhboiofepnhaaDoor

namespace Go.Proofs.YtbhhboiofepnhaaDoor
open Go.RowKit

/-- One of two. -/
def pk2 {α : Type} (a b : α) : Nat → α
  | 0 => a
  | _ => b
theorem tot2 (a b : Nat) : tot (pk2 a b) 2 = a + b := by show 0 + a + b = _; omega
theorem catIn2 {w : World} (C : Nat) (p1 p2 : Option Addr) (l1 l2 c1 c2 : Nat) (z1 z2 : Nat → Int) (t : TypeId) (hC : C = w.heap.size) (h1 : Src w p1 l1 z1) (h2 : Src w p2 l2 z2) (n1 : p1 = none → c1 = 0) (n2 : p2 = none → c2 = 0) :
    CatIn (w.alloc (.cells #[.slice p1 l1 c1, .slice p2 l2 c2] t)) ⟨C, 0, none⟩ 2 (pk2 p1 p2) (pk2 l1 l2) (pk2 c1 c2) (pk2 z1 z2) := by
  have hb := (Below.refl w.heap.size w).alloc (Nat.le_refl _) (.cells #[.slice p1 l1 c1, .slice p2 l2 c2] t)
  refine ⟨fun j hj => ?_, fun j hj => ?_, fun j hj => ?_⟩
  · rw [Addr.add_mid, World.cell?_alloc_at _ _ _ _ hC]
    match j, hj with
    | 0, _ | 1, _ => rfl
    | _ + 2, h => omega
  · match j, hj with
    | 0, _ => exact h1.below hb (Nat.le_refl _)
    | 1, _ => exact h2.below hb (Nat.le_refl _)
    | _ + 2, h => omega
  · match j, hj with
    | 0, _ => exact n1
    | 1, _ => exact n2
    | _ + 2, h => omega
theorem catz2 (a b : Nat) (z1 z2 : Nat → Int) (j : Nat) : catz (pk2 a b) (pk2 z1 z2) 2 j = app z1 a z2 j := by
  show app (app (fun _ => 0) 0 z1) (0 + a) z2 j = app z1 a z2 j
  unfold app
  rw [Nat.zero_add]
  by_cases h : j < a
  · rw [if_pos h, if_pos h, if_neg (Nat.not_lt_zero j), Nat.sub_zero]
  · rw [if_neg h, if_neg h]
theorem shl_bytes (s : Nat) (h : s ≤ 7) : IntKind.i64.wrap (1 * 2 ^ min ((8 * s : Nat) : Int).toNat IntKind.i64.bits) = ((256 ^ s : Nat) : Int) := by
  have : s = 0 ∨ s = 1 ∨ s = 2 ∨ s = 3 ∨ s = 4 ∨ s = 5 ∨ s = 6 ∨ s = 7 := by omega
  rcases this with rfl | rfl | rfl | rfl | rfl | rfl | rfl | rfl <;> rfl
set_option maxRecDepth 10000 in
set_option maxHeartbeats 8000000 in
theorem vputfixed_any : PutFixedOK := by
  intro sp len cap hlen hcap hnil z hz n hn s hs2 w hs
  go_enter Tryd.func29, Tryd.ntmps29
  by_cases hsz' : 1 ≤ s ∧ s ≤ 7
  · have hsz : decide (1 ≤ s ∧ s ≤ 7) = true := decide_eq_true hsz'
    by_cases h1 : n < 0
    · have hb : fbad n s := by unfold fbad; omega
      have e1 : fE n s = 1 := by unfold fE; rw [if_pos hb]
      have e2 : fL len n s = 0 := by unfold fL; rw [if_pos hb]
      go_upto_region 1 with fail
      refine wp_region_list ?_
      refine pureL (.int .i64 s) rfl (fun _ => by kernel_rfl) ?_
      simp only [aP, lI, l0, lS]
      refine callL rfl (fun _ => by kernel_rfl) (isSize_any s _) ?_
      rintro e w1 ⟨rfl, hB⟩
      rw [hsz]
      refine ⟨_, rfl, ?_⟩
      simp only [aP, lI, l0, lS]
      refine pureL (.bool false) rfl (fun _ => by kernel_rfl) ?_
      simp only [aP, lI, l0, lS]
      refine pureL (.bool false) rfl (fun _ => by kernel_rfl) ?_
      simp only [aP, lI, l0, lS]
      refine pureL (.int .i64 n) rfl (fun _ => by kernel_rfl) ?_
      simp only [aP, lI, l0, lS]
      refine pureL (.bool true) rfl (fun w => lssI .i64 _ _ _ _ _ _ rfl rfl rfl true (decide_eq_true h1) w) ?_
      simp only [aP, lI, l0, lS]
      refine pureL (.bool true) rfl (fun _ => by kernel_rfl) ?_
      simp only [aP, lI, l0, lS]
      refine pureL (.bool true) rfl (fun _ => by kernel_rfl) ?_
      simp only [aP, lI, l0, lS]
      refine skipL (by kernel_rfl) ?_
      simp only [aP, lI, l0, lS]
      refine skipL (by kernel_rfl) ?_
      simp only [aP, lI, l0, lS]
      refine skipL (by kernel_rfl) ?_
      simp only [aP, lI, l0, lS]
      refine skipL (by kernel_rfl) ?_
      simp only [aP, lI, l0, lS]
      refine skipL (by kernel_rfl) ?_
      simp only [aP, lI, l0, lS]
      refine pureL (.bool true) rfl (fun _ => by kernel_rfl) ?_
      simp only [aP, lI, l0, lS]
      show Exit.then _ _ _ _ _
      go_wp2
      go_ret2
      exact ⟨⟨_, by rw [e1]; rfl, by rw [e2]; exact World.ownsRow_nil _ _ _ 1⟩, hB⟩
    · obtain ⟨n, rfl⟩ := Int.eq_ofNat_of_zero_le (show 0 ≤ n by omega)
      obtain ⟨s, rfl⟩ := Int.eq_ofNat_of_zero_le (show 0 ≤ s by omega)
      have hpw : (256 : Int) ^ ((s : Nat) : Int).toNat = ((256 ^ s : Nat) : Int) := by rw [Int.toNat_natCast]; exact (Int.natCast_pow 256 s).symm
      by_cases h2 : 256 ^ s ≤ n
      · have hb : fbad (n : Int) (s : Int) := by unfold fbad; rw [hpw]; omega
        have e1 : fE (n : Int) (s : Int) = 1 := by unfold fE; rw [if_pos hb]
        have e2 : fL len (n : Int) (s : Int) = 0 := by unfold fL; rw [if_pos hb]
        go_upto_region 1 with fail
        refine wp_region_list ?_
        refine pureL (.int .i64 (s : Int)) rfl (fun _ => by kernel_rfl) ?_
        simp only [aP, lI, l0, lS]
        refine callL rfl (fun _ => by kernel_rfl) (isSize_any s _) ?_
        rintro e w1 ⟨rfl, hB⟩
        rw [hsz]
        refine ⟨_, rfl, ?_⟩
        simp only [aP, lI, l0, lS]
        refine pureL (.bool false) rfl (fun _ => by kernel_rfl) ?_
        simp only [aP, lI, l0, lS]
        refine pureL (.bool false) rfl (fun _ => by kernel_rfl) ?_
        simp only [aP, lI, l0, lS]
        refine pureL (.int .i64 (n : Int)) rfl (fun _ => by kernel_rfl) ?_
        simp only [aP, lI, l0, lS]
        refine pureL (.bool false) rfl (fun w => lssI .i64 _ _ _ _ _ _ rfl rfl rfl false (decide_eq_false (by omega)) w) ?_
        simp only [aP, lI, l0, lS]
        refine pureL (.bool false) rfl (fun _ => by kernel_rfl) ?_
        simp only [aP, lI, l0, lS]
        refine pureL (.bool false) rfl (fun _ => by kernel_rfl) ?_
        simp only [aP, lI, l0, lS]
        refine pureL (.int .i64 (n : Int)) rfl (fun _ => by kernel_rfl) ?_
        simp only [aP, lI, l0, lS]
        refine pureL (.int .i64 (s : Int)) rfl (fun _ => by kernel_rfl) ?_
        simp only [aP, lI, l0, lS]
        refine pureL (.int .i64 ((8 * s : Nat) : Int)) rfl (fun w => mulI .i64 _ _ _ _ _ _ _ rfl rfl rfl (by rw [IntKind.wrap_i64]; omega) w) ?_
        simp only [aP, lI, l0, lS]
        refine pureL (.int .i64 ((256 ^ s : Nat) : Int)) rfl (fun w => shlI .i64 .i64 _ _ _ _ _ _ _ rfl rfl rfl (by omega) (shl_bytes s (by omega)) w) ?_
        simp only [aP, lI, l0, lS]
        refine pureL (.bool true) rfl (fun w => geqI .i64 _ _ _ _ _ _ rfl rfl rfl true (decide_eq_true (by omega)) w) ?_
        simp only [aP, lI, l0, lS]
        refine pureL (.bool true) rfl (fun _ => by kernel_rfl) ?_
        simp only [aP, lI, l0, lS]
        show Exit.then _ _ _ _ _
        go_wp2
        go_ret2
        exact ⟨⟨_, by rw [e1]; rfl, by rw [e2]; exact World.ownsRow_nil _ _ _ 1⟩, hB⟩
      · have hb : ¬ fbad (n : Int) (s : Int) := by unfold fbad; rw [hpw]; omega
        have e1 : fE (n : Int) (s : Int) = 0 := by unfold fE; rw [if_neg hb]
        have e2 : fL len (n : Int) (s : Int) = len + s := by unfold fL; rw [if_neg hb, Int.toNat_natCast]
        have e3 : fput len z (n : Int) (s : Int) = app z len (fby n s) := rfl
        go_upto_region 1 with fail
        refine wp_region_list ?_
        refine pureL (.int .i64 (s : Int)) rfl (fun _ => by kernel_rfl) ?_
        simp only [aP, lI, l0, lS]
        refine callL rfl (fun _ => by kernel_rfl) (isSize_any s _) ?_
        rintro e w1 ⟨rfl, hB⟩
        rw [hsz]
        refine ⟨_, rfl, ?_⟩
        simp only [aP, lI, l0, lS]
        refine pureL (.bool false) rfl (fun _ => by kernel_rfl) ?_
        simp only [aP, lI, l0, lS]
        refine pureL (.bool false) rfl (fun _ => by kernel_rfl) ?_
        simp only [aP, lI, l0, lS]
        refine pureL (.int .i64 (n : Int)) rfl (fun _ => by kernel_rfl) ?_
        simp only [aP, lI, l0, lS]
        refine pureL (.bool false) rfl (fun w => lssI .i64 _ _ _ _ _ _ rfl rfl rfl false (decide_eq_false (by omega)) w) ?_
        simp only [aP, lI, l0, lS]
        refine pureL (.bool false) rfl (fun _ => by kernel_rfl) ?_
        simp only [aP, lI, l0, lS]
        refine pureL (.bool false) rfl (fun _ => by kernel_rfl) ?_
        simp only [aP, lI, l0, lS]
        refine pureL (.int .i64 (n : Int)) rfl (fun _ => by kernel_rfl) ?_
        simp only [aP, lI, l0, lS]
        refine pureL (.int .i64 (s : Int)) rfl (fun _ => by kernel_rfl) ?_
        simp only [aP, lI, l0, lS]
        refine pureL (.int .i64 ((8 * s : Nat) : Int)) rfl (fun w => mulI .i64 _ _ _ _ _ _ _ rfl rfl rfl (by rw [IntKind.wrap_i64]; omega) w) ?_
        simp only [aP, lI, l0, lS]
        refine pureL (.int .i64 ((256 ^ s : Nat) : Int)) rfl (fun w => shlI .i64 .i64 _ _ _ _ _ _ _ rfl rfl rfl (by omega) (shl_bytes s (by omega)) w) ?_
        simp only [aP, lI, l0, lS]
        refine pureL (.bool false) rfl (fun w => geqI .i64 _ _ _ _ _ _ rfl rfl rfl false (decide_eq_false (by omega)) w) ?_
        simp only [aP, lI, l0, lS]
        refine pureL (.bool false) rfl (fun _ => by kernel_rfl) ?_
        simp only [aP, lI, l0, lS]
        show Exit.then _ _ _ _ _
        go_upto_region 3 with fail
        refine wp_region_list ?_
        refine pureL (.slice sp len cap) rfl (fun _ => by kernel_rfl) ?_
        simp only [aP, lI, l0, lS]
        refine pureL (.int .i64 (n : Int)) rfl (fun _ => by kernel_rfl) ?_
        simp only [aP, lI, l0, lS]
        refine pureL (.int .i64 (s : Int)) rfl (fun _ => by kernel_rfl) ?_
        simp only [aP, lI, l0, lS]
        refine callL rfl (fun _ => by kernel_rfl) (lowest_any n s (by omega) _) ?_
        rintro e w2 ⟨rfl, R⟩
        have hS : Src w2 (some ⟨w1.heap.size, 8 - s, none⟩) s (fby n s) := ((R.get _ _ _ _ List.mem_cons_self).src (8 - s) s (by omega)).congr fun j hj => fby_tail n s j (by omega) hj
        replace hB := hB.trans (R.below.mono hB.size)
        clear R
        generalize w1.heap.size = B at *
        refine ⟨_, rfl, ?_⟩
        simp only [aP, lI, l0, lS]
        refine actL (w' := w2.alloc (.cells #[.slice sp len cap, .slice (some ⟨B, 8 - s, none⟩) (s) (s)] 22)) (.slice (some ⟨w2.heap.size, 0, none⟩) 2 2) rfl (by kernel_rfl) ?_
        simp only [aP, lI, l0, lS]
        have HC := catIn2 w2.heap.size sp (some ⟨B, 8 - s, none⟩) len (s) cap (s) z (fby n s) 22 rfl (hs.below hB (Nat.le_refl _)) hS hnil (fun e => by cases e)
        replace hB := hB.alloc hB.size (.cells #[.slice sp len cap, .slice (some ⟨B, 8 - s, none⟩) (s) (s)] 22)
        refine callL rfl (fun _ => by kernel_rfl) (concat_any ⟨w2.heap.size, 0, none⟩ 2 2 _ _ _ _ (by decide) (by rw [tot2]; omega) _ HC) ?_
        rintro e w3 ⟨v, rfl, hO, hb⟩
        rw [tot2] at hO
        have hO2 : Own w3 w.heap.size 5 .u8 (len + s) (app z len (fby n s)) v := (hO.congr fun j _ => catz2 _ _ _ _ j).lower hB.size
        replace hB := hB.trans (hb.mono hB.size)
        clear hO hb HC hS
        refine ⟨_, rfl, ?_⟩
        simp only [aP, lI, l0, lS]
        refine pureL v rfl (fun _ => by kernel_rfl) ?_
        simp only [aP, lI, l0, lS]
        refine pureL (.int .i64 0) rfl (fun _ => by kernel_rfl) ?_
        simp only [aP, lI, l0, lS]
        show Exit.then _ _ _ _ _
        go_wp2
        go_ret2
        exact ⟨⟨v, by rw [e1]; rfl, by rw [e2, e3]; exact hO2⟩, hB⟩
  · have hsz : decide (1 ≤ s ∧ s ≤ 7) = false := decide_eq_false hsz'
    have hb : fbad n s := by unfold fbad; omega
    have e1 : fE n s = 1 := by unfold fE; rw [if_pos hb]
    have e2 : fL len n s = 0 := by unfold fL; rw [if_pos hb]
    go_upto_region 1 with fail
    refine wp_region_list ?_
    refine pureL (.int .i64 s) rfl (fun _ => by kernel_rfl) ?_
    simp only [aP, lI, l0, lS]
    refine callL rfl (fun _ => by kernel_rfl) (isSize_any s _) ?_
    rintro e w1 ⟨rfl, hB⟩
    rw [hsz]
    refine ⟨_, rfl, ?_⟩
    simp only [aP, lI, l0, lS]
    refine pureL (.bool true) rfl (fun _ => by kernel_rfl) ?_
    simp only [aP, lI, l0, lS]
    refine pureL (.bool true) rfl (fun _ => by kernel_rfl) ?_
    simp only [aP, lI, l0, lS]
    refine skipL (by kernel_rfl) ?_
    simp only [aP, lI, l0, lS]
    refine skipL (by kernel_rfl) ?_
    simp only [aP, lI, l0, lS]
    refine pureL (.bool true) rfl (fun _ => by kernel_rfl) ?_
    simp only [aP, lI, l0, lS]
    refine pureL (.bool true) rfl (fun _ => by kernel_rfl) ?_
    simp only [aP, lI, l0, lS]
    refine skipL (by kernel_rfl) ?_
    simp only [aP, lI, l0, lS]
    refine skipL (by kernel_rfl) ?_
    simp only [aP, lI, l0, lS]
    refine skipL (by kernel_rfl) ?_
    simp only [aP, lI, l0, lS]
    refine skipL (by kernel_rfl) ?_
    simp only [aP, lI, l0, lS]
    refine skipL (by kernel_rfl) ?_
    simp only [aP, lI, l0, lS]
    refine pureL (.bool true) rfl (fun _ => by kernel_rfl) ?_
    simp only [aP, lI, l0, lS]
    show Exit.then _ _ _ _ _
    go_wp2
    go_ret2
    exact ⟨⟨_, by rw [e1]; rfl, by rw [e2]; exact World.ownsRow_nil _ _ _ 1⟩, hB⟩

end Go.Proofs.YtbhhboiofepnhaaDoor

namespace Go.Proofs.YtbhhboiofepnhaaDoor
open Go.RowKit

/-- A number's bytes laid behind others. -/
theorem vputfixed_good (sp : Option Addr) (cap : Nat) (l : List Int) (hlen : l.length ≤ 140737488351232) (hcap : l.length ≤ cap) (hnil : sp = none → cap = 0) (hb : Byts l) (n : Int) (s : Nat) (hs1 : 1 ≤ s) (hs7 : s ≤ 7) (h0 : 0 ≤ n) (hn : n.toNat < 256 ^ s) (w : World) (hs : Src w sp l.length (bl l)) :
    Calls Tryd.prog 29 #[.slice sp l.length cap, .int .i64 n, .int .i64 (s : Int)] w fun e w' => ∃ v, e = .returned (.tuple #[v, .int .i64 0]) ∧ OwnL w' w.heap.size (l ++ flst n.toNat s) v ∧ Below w.heap.size w w' := by
  have h7 : (256 : Nat) ^ s ≤ 256 ^ 7 := Nat.pow_le_pow_right (by decide) hs7
  have hc : ((256 ^ s : Nat) : Int) = (256 : Int) ^ s := by simp
  have hq : ¬ fbad n (s : Int) := by unfold fbad; rw [Int.toNat_natCast, ← hc]; omega
  refine (vputfixed_any sp l.length cap hlen hcap hnil (bl l) hb.bl n (by omega) s (by omega) w hs).mono fun e w' h => ?_
  obtain ⟨⟨v, rfl, O⟩, l1⟩ := h
  refine ⟨v, by unfold fE; rw [if_neg hq], ?_, l1⟩
  unfold fL fput at O
  rw [if_neg hq, Int.toNat_natCast] at O
  exact OwnL.fix O
def pnum (p : Pkt) : Nat → Int
  | 0 => p.kind
  | 1 => p.role
  | 2 => p.path
  | 3 => p.epo
  | _ => p.ctr
def pszn : Nat → Nat
  | 3 => 2
  | 4 => 6
  | _ => 1
/-- A head's bytes, number by number. -/
def hpre (p : Pkt) : Nat → List Int
  | 0 => []
  | j + 1 => hpre p j ++ flst (pnum p j).toNat (pszn j)
theorem flst_one {n : Int} (h : 0 ≤ n ∧ n < 256) : flst n.toNat 1 = [n] := by
  show [fby n.toNat 1 0] = [n]
  unfold fby
  congr 1
  simp
  omega
theorem hpre_end {p : Pkt} (hk : p.kind = 3) (hR : Rec p) : hpre p 5 = hdr p := by
  obtain ⟨r1, r2, _⟩ := hR
  show ((((([] ++ flst p.kind.toNat 1) ++ flst p.role.toNat 1) ++ flst p.path.toNat 1) ++ flst p.epo.toNat 2) ++ flst p.ctr.toNat 6) = _
  rw [hk, flst_one (n := 3) (by decide), flst_one (n := p.role) (by omega), flst_one (n := p.path) (by omega)]
  rfl
theorem hpre_byts (p : Pkt) : ∀ j, Byts (hpre p j)
  | 0 => fun x hx => by cases hx
  | j + 1 => (hpre_byts p j).app (flst_byts _ _)
theorem hpre_len (p : Pkt) : ∀ j, (hpre p j).length ≤ 6 * j
  | 0 => Nat.le_refl _
  | j + 1 => by
    have h1 := hpre_len p j
    have h2 : pszn j ≤ 6 := by unfold pszn; split <;> omega
    show (hpre p j ++ _).length ≤ _
    rw [List.length_append, flst_length]
    omega
theorem Mm.newL {w0 w : World} {l : List (Nat × List Value)} (h : Mm w0 l w) {b : Nat} {cs : List Value} (hp : (b, cs) ∈ l) (bs : List Int) (hc : cs = bs.map (Value.int .u8)) : NewL w w0.heap.size bs (.slice (some ⟨b, 0, none⟩) bs.length bs.length) :=
  ⟨_, _, rfl, Nat.le_refl _, fun e => (by cases e), h.src hp bs hc, fun a e => by cases e; exact ⟨h.lo hp, h.lt hp⟩⟩

set_option maxRecDepth 10000 in
set_option maxHeartbeats 32000000 in
theorem phead_any (p : Pkt) (bp : Option Addr) (bc : Nat) (w : World) (hg : PG w) (hk : p.kind = 3) (hR : Rec p) : Calls Tryd.prog 22 #[.agg (pcs p bp bc).toArray] w fun e w' => e = .returned (.agg (row .u8 11 (bl (hdr p))).toArray) ∧ Below w.heap.size w w' := by
  have M := Mm.init w
  have hrec := hR
  obtain ⟨r1, r2, r3, r4, _⟩ := hrec
  unfold pcs
  go_enter Tryd.func22, Tryd.ntmps22
  go_upto_region 0 with fail
  refine wp_region_list ?_
  refine actL (w' := w.alloc (.cells #[.int .i64 p.kind, .int .i64 p.role, .int .i64 p.path, .int .i64 p.epo, .int .i64 p.ctr, .slice bp p.body.length bc] 24)) (.pointer (some ⟨w.heap.size, 0, none⟩)) rfl (by kernel_rfl) ?_
  simp only [aP, lI, l0, lS]
  have hB_B1 : w.heap.size ≤ w.heap.size := M.below.size
  replace M := M.box #[.int .i64 p.kind, .int .i64 p.role, .int .i64 p.path, .int .i64 p.epo, .int .i64 p.ctr, .slice bp p.body.length bc] 24 w.heap.size rfl
  generalize w.alloc (.cells #[.int .i64 p.kind, .int .i64 p.role, .int .i64 p.path, .int .i64 p.epo, .int .i64 p.ctr, .slice bp p.body.length bc] 24) = w1 at M  ⊢
  generalize eB : w.heap.size = B1 at M hB_B1  ⊢
  have hE_B1 : w.heap.size ≤ B1 := Nat.le_of_eq eB
  have hF_B1 : B1 ≤ w.heap.size := Nat.le_of_eq eB.symm
  clear eB
  replace M : Mm w ([(B1, [.int .i64 p.kind, .int .i64 p.role, .int .i64 p.path, .int .i64 p.epo, .int .i64 p.ctr, .slice bp p.body.length bc])]) w1 := M
  refine actL (w' := w1.alloc (.cells #[.int .u8 0, .int .u8 0, .int .u8 0, .int .u8 0, .int .u8 0, .int .u8 0, .int .u8 0, .int .u8 0, .int .u8 0, .int .u8 0, .int .u8 0] 40)) (.pointer (some ⟨w1.heap.size, 0, none⟩)) rfl (by kernel_rfl) ?_
  simp only [aP, lI, l0, lS]
  have hB_B2 : w.heap.size ≤ w1.heap.size := M.below.size
  replace M := M.box #[.int .u8 0, .int .u8 0, .int .u8 0, .int .u8 0, .int .u8 0, .int .u8 0, .int .u8 0, .int .u8 0, .int .u8 0, .int .u8 0, .int .u8 0] 40 w1.heap.size rfl
  generalize w1.alloc (.cells #[.int .u8 0, .int .u8 0, .int .u8 0, .int .u8 0, .int .u8 0, .int .u8 0, .int .u8 0, .int .u8 0, .int .u8 0, .int .u8 0, .int .u8 0] 40) = w2 at M  ⊢
  generalize eB : w1.heap.size = B2 at M hB_B2  ⊢
  have hE_B2 : w1.heap.size ≤ B2 := Nat.le_of_eq eB
  have hF_B2 : B2 ≤ w1.heap.size := Nat.le_of_eq eB.symm
  clear eB
  replace M : Mm w ([(B2, [.int .u8 0, .int .u8 0, .int .u8 0, .int .u8 0, .int .u8 0, .int .u8 0, .int .u8 0, .int .u8 0, .int .u8 0, .int .u8 0, .int .u8 0]), (B1, [.int .i64 p.kind, .int .i64 p.role, .int .i64 p.path, .int .i64 p.epo, .int .i64 p.ctr, .slice bp p.body.length bc])]) w2 := M
  first | show Exit.then _ _ _ _ _ | show Exit.inBlock _ _ _ _ _
  go_upto_region 1 with fail
  refine wp_region_list ?_
  refine readL (.slice none 0 0) rfl (by kernel_rfl) ?_
  simp only [aP, lI, l0, lS]
  first | show Exit.then _ _ _ _ _ | show Exit.inBlock _ _ _ _ _
  go_upto_region 2 with fail
  refine wp_region_list ?_
  refine readL (.pointer (some ⟨B1, 0, none⟩)) rfl (by kernel_rfl) ?_
  simp only [aP, lI, l0, lS]
  refine readL (.int .i64 p.kind) rfl (load1 3 _ ⟨B1, 0, none⟩ _ rfl rfl (fun _ => by kernel_rfl) (M.get (List.mem_cons_of_mem _ List.mem_cons_self) 0 _ rfl)) ?_
  simp only [aP, lI, l0, lS]
  refine readL (.pointer (some ⟨B1, 1, none⟩)) rfl (by kernel_rfl) ?_
  simp only [aP, lI, l0, lS]
  refine readL (.int .i64 p.role) rfl (load1 3 _ ⟨B1, 1, none⟩ _ rfl rfl (fun _ => by kernel_rfl) (M.get (List.mem_cons_of_mem _ List.mem_cons_self) 1 _ rfl)) ?_
  simp only [aP, lI, l0, lS]
  refine readL (.pointer (some ⟨B1, 2, none⟩)) rfl (by kernel_rfl) ?_
  simp only [aP, lI, l0, lS]
  refine readL (.int .i64 p.path) rfl (load1 3 _ ⟨B1, 2, none⟩ _ rfl rfl (fun _ => by kernel_rfl) (M.get (List.mem_cons_of_mem _ List.mem_cons_self) 2 _ rfl)) ?_
  simp only [aP, lI, l0, lS]
  refine readL (.pointer (some ⟨B1, 3, none⟩)) rfl (by kernel_rfl) ?_
  simp only [aP, lI, l0, lS]
  refine readL (.int .i64 p.epo) rfl (load1 3 _ ⟨B1, 3, none⟩ _ rfl rfl (fun _ => by kernel_rfl) (M.get (List.mem_cons_of_mem _ List.mem_cons_self) 3 _ rfl)) ?_
  simp only [aP, lI, l0, lS]
  refine readL (.pointer (some ⟨B1, 4, none⟩)) rfl (by kernel_rfl) ?_
  simp only [aP, lI, l0, lS]
  refine readL (.int .i64 p.ctr) rfl (load1 3 _ ⟨B1, 4, none⟩ _ rfl rfl (fun _ => by kernel_rfl) (M.get (List.mem_cons_of_mem _ List.mem_cons_self) 4 _ rfl)) ?_
  simp only [aP, lI, l0, lS]
  refine readL (.agg #[.int .i64 p.kind, .int .i64 p.role, .int .i64 p.path, .int .i64 p.epo, .int .i64 p.ctr]) rfl (by kernel_rfl) ?_
  simp only [aP, lI, l0, lS]
  refine readL (.int .i64 0) rfl (by kernel_rfl) ?_
  simp only [aP, lI, l0, lS]
  first | show Exit.then _ _ _ _ _ | show Exit.inBlock _ _ _ _ _
  have HI := show Hid _ from (show Mm w [(B2, [.int .u8 0, .int .u8 0, .int .u8 0, .int .u8 0, .int .u8 0, .int .u8 0, .int .u8 0, .int .u8 0, .int .u8 0, .int .u8 0, .int .u8 0]), (B1, [.int .i64 p.kind, .int .i64 p.role, .int .i64 p.path, .int .i64 p.epo, .int .i64 p.ctr, .slice bp p.body.length bc])] w2 from M)
  clear M
  go_wp2
  go_loopw [3, 18] (fun v i w' => ∃ j : Nat, j ≤ 5 ∧ i = .int .i64 (j : Int) ∧ Mm w [(B2, [.int .u8 0, .int .u8 0, .int .u8 0, .int .u8 0, .int .u8 0, .int .u8 0, .int .u8 0, .int .u8 0, .int .u8 0, .int .u8 0, .int .u8 0]), (B1, [.int .i64 p.kind, .int .i64 p.role, .int .i64 p.path, .int .i64 p.epo, .int .i64 p.ctr, .slice bp p.body.length bc])] w' ∧ OwnL w' w.heap.size (hpre p j) v) (fun _ i _ => 5 - (intOf i).toNat)
  case atStart => exact ⟨0, Nat.zero_le _, rfl, HI.out, World.ownsRow_nil _ _ _ 1⟩
  case round =>
    clear HI
    obtain ⟨j, hj, rfl, M, O_1⟩ := hrel
    obtain ⟨p1, c1, rfl, _, _⟩ := O_1.bytes
    have hj6 : j = 0 ∨ j = 1 ∨ j = 2 ∨ j = 3 ∨ j = 4 ∨ j = 5 := by omega
    clear hj
    rcases hj6 with rfl | rfl | rfl | rfl | rfl | rfl
    · go_upto_region 3 with fail
      refine wp_region_list ?_
      refine readL (.bool true) rfl (lssI .i64 _ _ _ _ _ _ rfl rfl rfl true (by decide) _) ?_
      simp only [aP, lI, l0, lS]
      first | show Exit.then _ _ _ _ _ | show Exit.inBlock _ _ _ _ _
      go_upto_region 4 with fail
      refine wp_region_list ?_
      refine readL (.int .i64 ((0 : Nat) : Int)) rfl (by kernel_rfl) ?_
      simp only [aP, lI, l0, lS]
      refine readL (.int .i64 p.kind) rfl (by kernel_rfl) ?_
      simp only [aP, lI, l0, lS]
      refine readL (.int .i64 ((0 : Nat) : Int)) rfl (by kernel_rfl) ?_
      simp only [aP, lI, l0, lS]
      refine readL (.int .i64 p.kind) rfl (by kernel_rfl) ?_
      simp only [aP, lI, l0, lS]
      first | show Exit.then _ _ _ _ _ | show Exit.inBlock _ _ _ _ _
      go_upto_region 5 with fail
      refine wp_region_list ?_
      refine readL (.slice p1 ((hpre p 0).length) c1) rfl (by kernel_rfl) ?_
      simp only [aP, lI, l0, lS]
      refine readL (.int .i64 p.kind) rfl (by kernel_rfl) ?_
      simp only [aP, lI, l0, lS]
      refine readL (.int .i64 ((0 : Nat) : Int)) rfl (by kernel_rfl) ?_
      simp only [aP, lI, l0, lS]
      refine readL (.pointer (some (⟨0, 0, none⟩ : Addr))) rfl (by kernel_rfl) ?_
      simp only [aP, lI, l0, lS]
      refine readL (.int .i64 ((1 : Nat) : Int)) rfl (load1 3 _ (⟨0, 0, none⟩ : Addr) _ rfl rfl (fun _ => by kernel_rfl) (((hg.mm M).sz 0 (by decide)))) ?_
      simp only [aP, lI, l0, lS]
      refine callL rfl (fun _ => by kernel_rfl) (vputfixed_good p1 c1 (hpre p 0) (Nat.le_trans (hpre_len p 0) (by decide)) O_1.le O_1.nilCap (hpre_byts p 0) p.kind 1 (by decide) (by decide) (by omega) (by omega) _ O_1.src) ?_
      rintro e w3 ⟨v, rfl, O_2, l⟩
      replace O_2 : OwnL w3 w.heap.size (hpre p 1) v := O_2.lower M.below.size
      replace M := M.call l
      clear l O_1
      refine ⟨_, rfl, ?_⟩
      simp only [aP, lI, l0, lS]
      refine readL (.tuple #[v, .int .i64 0]) rfl (by kernel_rfl) ?_
      simp only [aP, lI, l0, lS]
      refine readL (v) rfl (by kernel_rfl) ?_
      simp only [aP, lI, l0, lS]
      refine readL (.int .i64 0) rfl (by kernel_rfl) ?_
      simp only [aP, lI, l0, lS]
      refine readL (v) rfl (by kernel_rfl) ?_
      simp only [aP, lI, l0, lS]
      first | show Exit.then _ _ _ _ _ | show Exit.inBlock _ _ _ _ _
      have HS := show Hid _ from (And.intro M O_2)
      clear M O_2
      go_wp2
      go_roundw
      case rel => first | exact ⟨1, by decide, by go_num, HS.out⟩ | ((repeat apply Exists.intro); refine ⟨⟨1, by decide, ?_, HS.out⟩, rfl⟩ <;> first | rfl | go_num)
      case measure => simp [intOf]
    · go_upto_region 3 with fail
      refine wp_region_list ?_
      refine readL (.bool true) rfl (lssI .i64 _ _ _ _ _ _ rfl rfl rfl true (by decide) _) ?_
      simp only [aP, lI, l0, lS]
      first | show Exit.then _ _ _ _ _ | show Exit.inBlock _ _ _ _ _
      go_upto_region 4 with fail
      refine wp_region_list ?_
      refine readL (.int .i64 ((1 : Nat) : Int)) rfl (by kernel_rfl) ?_
      simp only [aP, lI, l0, lS]
      refine readL (.int .i64 p.role) rfl (by kernel_rfl) ?_
      simp only [aP, lI, l0, lS]
      refine readL (.int .i64 ((1 : Nat) : Int)) rfl (by kernel_rfl) ?_
      simp only [aP, lI, l0, lS]
      refine readL (.int .i64 p.role) rfl (by kernel_rfl) ?_
      simp only [aP, lI, l0, lS]
      first | show Exit.then _ _ _ _ _ | show Exit.inBlock _ _ _ _ _
      go_upto_region 5 with fail
      refine wp_region_list ?_
      refine readL (.slice p1 ((hpre p 1).length) c1) rfl (by kernel_rfl) ?_
      simp only [aP, lI, l0, lS]
      refine readL (.int .i64 p.role) rfl (by kernel_rfl) ?_
      simp only [aP, lI, l0, lS]
      refine readL (.int .i64 ((1 : Nat) : Int)) rfl (by kernel_rfl) ?_
      simp only [aP, lI, l0, lS]
      refine readL (.pointer (some (⟨0, 1, none⟩ : Addr))) rfl (by kernel_rfl) ?_
      simp only [aP, lI, l0, lS]
      refine readL (.int .i64 ((1 : Nat) : Int)) rfl (load1 3 _ (⟨0, 1, none⟩ : Addr) _ rfl rfl (fun _ => by kernel_rfl) (((hg.mm M).sz 1 (by decide)))) ?_
      simp only [aP, lI, l0, lS]
      refine callL rfl (fun _ => by kernel_rfl) (vputfixed_good p1 c1 (hpre p 1) (Nat.le_trans (hpre_len p 1) (by decide)) O_1.le O_1.nilCap (hpre_byts p 1) p.role 1 (by decide) (by decide) (by omega) (by omega) _ O_1.src) ?_
      rintro e w4 ⟨v, rfl, O_2, l⟩
      replace O_2 : OwnL w4 w.heap.size (hpre p 2) v := O_2.lower M.below.size
      replace M := M.call l
      clear l O_1
      refine ⟨_, rfl, ?_⟩
      simp only [aP, lI, l0, lS]
      refine readL (.tuple #[v, .int .i64 0]) rfl (by kernel_rfl) ?_
      simp only [aP, lI, l0, lS]
      refine readL (v) rfl (by kernel_rfl) ?_
      simp only [aP, lI, l0, lS]
      refine readL (.int .i64 0) rfl (by kernel_rfl) ?_
      simp only [aP, lI, l0, lS]
      refine readL (v) rfl (by kernel_rfl) ?_
      simp only [aP, lI, l0, lS]
      first | show Exit.then _ _ _ _ _ | show Exit.inBlock _ _ _ _ _
      have HS := show Hid _ from (And.intro M O_2)
      clear M O_2
      go_wp2
      go_roundw
      case rel => first | exact ⟨2, by decide, by go_num, HS.out⟩ | ((repeat apply Exists.intro); refine ⟨⟨2, by decide, ?_, HS.out⟩, rfl⟩ <;> first | rfl | go_num)
      case measure => simp [intOf]
    · go_upto_region 3 with fail
      refine wp_region_list ?_
      refine readL (.bool true) rfl (lssI .i64 _ _ _ _ _ _ rfl rfl rfl true (by decide) _) ?_
      simp only [aP, lI, l0, lS]
      first | show Exit.then _ _ _ _ _ | show Exit.inBlock _ _ _ _ _
      go_upto_region 4 with fail
      refine wp_region_list ?_
      refine readL (.int .i64 ((2 : Nat) : Int)) rfl (by kernel_rfl) ?_
      simp only [aP, lI, l0, lS]
      refine readL (.int .i64 p.path) rfl (by kernel_rfl) ?_
      simp only [aP, lI, l0, lS]
      refine readL (.int .i64 ((2 : Nat) : Int)) rfl (by kernel_rfl) ?_
      simp only [aP, lI, l0, lS]
      refine readL (.int .i64 p.path) rfl (by kernel_rfl) ?_
      simp only [aP, lI, l0, lS]
      first | show Exit.then _ _ _ _ _ | show Exit.inBlock _ _ _ _ _
      go_upto_region 5 with fail
      refine wp_region_list ?_
      refine readL (.slice p1 ((hpre p 2).length) c1) rfl (by kernel_rfl) ?_
      simp only [aP, lI, l0, lS]
      refine readL (.int .i64 p.path) rfl (by kernel_rfl) ?_
      simp only [aP, lI, l0, lS]
      refine readL (.int .i64 ((2 : Nat) : Int)) rfl (by kernel_rfl) ?_
      simp only [aP, lI, l0, lS]
      refine readL (.pointer (some (⟨0, 2, none⟩ : Addr))) rfl (by kernel_rfl) ?_
      simp only [aP, lI, l0, lS]
      refine readL (.int .i64 ((1 : Nat) : Int)) rfl (load1 3 _ (⟨0, 2, none⟩ : Addr) _ rfl rfl (fun _ => by kernel_rfl) (((hg.mm M).sz 2 (by decide)))) ?_
      simp only [aP, lI, l0, lS]
      refine callL rfl (fun _ => by kernel_rfl) (vputfixed_good p1 c1 (hpre p 2) (Nat.le_trans (hpre_len p 2) (by decide)) O_1.le O_1.nilCap (hpre_byts p 2) p.path 1 (by decide) (by decide) (by omega) (by omega) _ O_1.src) ?_
      rintro e w5 ⟨v, rfl, O_2, l⟩
      replace O_2 : OwnL w5 w.heap.size (hpre p 3) v := O_2.lower M.below.size
      replace M := M.call l
      clear l O_1
      refine ⟨_, rfl, ?_⟩
      simp only [aP, lI, l0, lS]
      refine readL (.tuple #[v, .int .i64 0]) rfl (by kernel_rfl) ?_
      simp only [aP, lI, l0, lS]
      refine readL (v) rfl (by kernel_rfl) ?_
      simp only [aP, lI, l0, lS]
      refine readL (.int .i64 0) rfl (by kernel_rfl) ?_
      simp only [aP, lI, l0, lS]
      refine readL (v) rfl (by kernel_rfl) ?_
      simp only [aP, lI, l0, lS]
      first | show Exit.then _ _ _ _ _ | show Exit.inBlock _ _ _ _ _
      have HS := show Hid _ from (And.intro M O_2)
      clear M O_2
      go_wp2
      go_roundw
      case rel => first | exact ⟨3, by decide, by go_num, HS.out⟩ | ((repeat apply Exists.intro); refine ⟨⟨3, by decide, ?_, HS.out⟩, rfl⟩ <;> first | rfl | go_num)
      case measure => simp [intOf]
    · go_upto_region 3 with fail
      refine wp_region_list ?_
      refine readL (.bool true) rfl (lssI .i64 _ _ _ _ _ _ rfl rfl rfl true (by decide) _) ?_
      simp only [aP, lI, l0, lS]
      first | show Exit.then _ _ _ _ _ | show Exit.inBlock _ _ _ _ _
      go_upto_region 4 with fail
      refine wp_region_list ?_
      refine readL (.int .i64 ((3 : Nat) : Int)) rfl (by kernel_rfl) ?_
      simp only [aP, lI, l0, lS]
      refine readL (.int .i64 p.epo) rfl (by kernel_rfl) ?_
      simp only [aP, lI, l0, lS]
      refine readL (.int .i64 ((3 : Nat) : Int)) rfl (by kernel_rfl) ?_
      simp only [aP, lI, l0, lS]
      refine readL (.int .i64 p.epo) rfl (by kernel_rfl) ?_
      simp only [aP, lI, l0, lS]
      first | show Exit.then _ _ _ _ _ | show Exit.inBlock _ _ _ _ _
      go_upto_region 5 with fail
      refine wp_region_list ?_
      refine readL (.slice p1 ((hpre p 3).length) c1) rfl (by kernel_rfl) ?_
      simp only [aP, lI, l0, lS]
      refine readL (.int .i64 p.epo) rfl (by kernel_rfl) ?_
      simp only [aP, lI, l0, lS]
      refine readL (.int .i64 ((3 : Nat) : Int)) rfl (by kernel_rfl) ?_
      simp only [aP, lI, l0, lS]
      refine readL (.pointer (some (⟨0, 3, none⟩ : Addr))) rfl (by kernel_rfl) ?_
      simp only [aP, lI, l0, lS]
      refine readL (.int .i64 ((2 : Nat) : Int)) rfl (load1 3 _ (⟨0, 3, none⟩ : Addr) _ rfl rfl (fun _ => by kernel_rfl) (((hg.mm M).sz 3 (by decide)))) ?_
      simp only [aP, lI, l0, lS]
      refine callL rfl (fun _ => by kernel_rfl) (vputfixed_good p1 c1 (hpre p 3) (Nat.le_trans (hpre_len p 3) (by decide)) O_1.le O_1.nilCap (hpre_byts p 3) p.epo 2 (by decide) (by decide) (by omega) (by omega) _ O_1.src) ?_
      rintro e w6 ⟨v, rfl, O_2, l⟩
      replace O_2 : OwnL w6 w.heap.size (hpre p 4) v := O_2.lower M.below.size
      replace M := M.call l
      clear l O_1
      refine ⟨_, rfl, ?_⟩
      simp only [aP, lI, l0, lS]
      refine readL (.tuple #[v, .int .i64 0]) rfl (by kernel_rfl) ?_
      simp only [aP, lI, l0, lS]
      refine readL (v) rfl (by kernel_rfl) ?_
      simp only [aP, lI, l0, lS]
      refine readL (.int .i64 0) rfl (by kernel_rfl) ?_
      simp only [aP, lI, l0, lS]
      refine readL (v) rfl (by kernel_rfl) ?_
      simp only [aP, lI, l0, lS]
      first | show Exit.then _ _ _ _ _ | show Exit.inBlock _ _ _ _ _
      have HS := show Hid _ from (And.intro M O_2)
      clear M O_2
      go_wp2
      go_roundw
      case rel => first | exact ⟨4, by decide, by go_num, HS.out⟩ | ((repeat apply Exists.intro); refine ⟨⟨4, by decide, ?_, HS.out⟩, rfl⟩ <;> first | rfl | go_num)
      case measure => simp [intOf]
    · go_upto_region 3 with fail
      refine wp_region_list ?_
      refine readL (.bool true) rfl (lssI .i64 _ _ _ _ _ _ rfl rfl rfl true (by decide) _) ?_
      simp only [aP, lI, l0, lS]
      first | show Exit.then _ _ _ _ _ | show Exit.inBlock _ _ _ _ _
      go_upto_region 4 with fail
      refine wp_region_list ?_
      refine readL (.int .i64 ((4 : Nat) : Int)) rfl (by kernel_rfl) ?_
      simp only [aP, lI, l0, lS]
      refine readL (.int .i64 p.ctr) rfl (by kernel_rfl) ?_
      simp only [aP, lI, l0, lS]
      refine readL (.int .i64 ((4 : Nat) : Int)) rfl (by kernel_rfl) ?_
      simp only [aP, lI, l0, lS]
      refine readL (.int .i64 p.ctr) rfl (by kernel_rfl) ?_
      simp only [aP, lI, l0, lS]
      first | show Exit.then _ _ _ _ _ | show Exit.inBlock _ _ _ _ _
      go_upto_region 5 with fail
      refine wp_region_list ?_
      refine readL (.slice p1 ((hpre p 4).length) c1) rfl (by kernel_rfl) ?_
      simp only [aP, lI, l0, lS]
      refine readL (.int .i64 p.ctr) rfl (by kernel_rfl) ?_
      simp only [aP, lI, l0, lS]
      refine readL (.int .i64 ((4 : Nat) : Int)) rfl (by kernel_rfl) ?_
      simp only [aP, lI, l0, lS]
      refine readL (.pointer (some (⟨0, 4, none⟩ : Addr))) rfl (by kernel_rfl) ?_
      simp only [aP, lI, l0, lS]
      refine readL (.int .i64 ((6 : Nat) : Int)) rfl (load1 3 _ (⟨0, 4, none⟩ : Addr) _ rfl rfl (fun _ => by kernel_rfl) (((hg.mm M).sz 4 (by decide)))) ?_
      simp only [aP, lI, l0, lS]
      refine callL rfl (fun _ => by kernel_rfl) (vputfixed_good p1 c1 (hpre p 4) (Nat.le_trans (hpre_len p 4) (by decide)) O_1.le O_1.nilCap (hpre_byts p 4) p.ctr 6 (by decide) (by decide) (by omega) (by omega) _ O_1.src) ?_
      rintro e w7 ⟨v, rfl, O_2, l⟩
      replace O_2 : OwnL w7 w.heap.size (hpre p 5) v := O_2.lower M.below.size
      replace M := M.call l
      clear l O_1
      refine ⟨_, rfl, ?_⟩
      simp only [aP, lI, l0, lS]
      refine readL (.tuple #[v, .int .i64 0]) rfl (by kernel_rfl) ?_
      simp only [aP, lI, l0, lS]
      refine readL (v) rfl (by kernel_rfl) ?_
      simp only [aP, lI, l0, lS]
      refine readL (.int .i64 0) rfl (by kernel_rfl) ?_
      simp only [aP, lI, l0, lS]
      refine readL (v) rfl (by kernel_rfl) ?_
      simp only [aP, lI, l0, lS]
      first | show Exit.then _ _ _ _ _ | show Exit.inBlock _ _ _ _ _
      have HS := show Hid _ from (And.intro M O_2)
      clear M O_2
      go_wp2
      go_roundw
      case rel => first | exact ⟨5, by decide, by go_num, HS.out⟩ | ((repeat apply Exists.intro); refine ⟨⟨5, by decide, ?_, HS.out⟩, rfl⟩ <;> first | rfl | go_num)
      case measure => simp [intOf]
    · have O_2 : Own wr w.heap.size 5 .u8 11 (bl (hdr p)) (.slice p1 (hpre p 5).length c1) := by have h := O_1; rw [hpre_end hk hR] at h; rw [hpre_end hk hR]; unfold OwnL at h; rw [hdr_length] at h ⊢; exact h
      clear O_1
      rw [hpre_end hk hR, hdr_length] at O_2 ⊢
      go_upto_region 3 with fail
      refine wp_region_list ?_
      refine readL (.bool false) rfl (lssI .i64 _ _ _ _ _ _ rfl rfl rfl false (by decide) _) ?_
      simp only [aP, lI, l0, lS]
      first | show Exit.then _ _ _ _ _ | show Exit.inBlock _ _ _ _ _
      go_upto_region 7 with fail
      refine wp_region_list ?_
      refine actL (w' := wr.alloc (.cells #[.int .u8 0, .int .u8 0, .int .u8 0, .int .u8 0, .int .u8 0, .int .u8 0, .int .u8 0, .int .u8 0, .int .u8 0, .int .u8 0, .int .u8 0] 40)) (.pointer (some ⟨wr.heap.size, 0, none⟩)) rfl (by kernel_rfl) ?_
      simp only [aP, lI, l0, lS]
      have hlb := (Below.refl wr.heap.size wr).alloc (Nat.le_refl _) (.cells #[.int .u8 0, .int .u8 0, .int .u8 0, .int .u8 0, .int .u8 0, .int .u8 0, .int .u8 0, .int .u8 0, .int .u8 0, .int .u8 0, .int .u8 0] 40)
      replace O_2 := O_2.below hlb
      clear hlb
      have hB_B8 : w.heap.size ≤ wr.heap.size := M.below.size
      replace M := M.box #[.int .u8 0, .int .u8 0, .int .u8 0, .int .u8 0, .int .u8 0, .int .u8 0, .int .u8 0, .int .u8 0, .int .u8 0, .int .u8 0, .int .u8 0] 40 wr.heap.size rfl
      generalize wr.alloc (.cells #[.int .u8 0, .int .u8 0, .int .u8 0, .int .u8 0, .int .u8 0, .int .u8 0, .int .u8 0, .int .u8 0, .int .u8 0, .int .u8 0, .int .u8 0] 40) = w8 at M O_2 ⊢
      generalize eB : wr.heap.size = B8 at M hB_B8  ⊢
      have hE_B8 : wr.heap.size ≤ B8 := Nat.le_of_eq eB
      have hF_B8 : B8 ≤ wr.heap.size := Nat.le_of_eq eB.symm
      clear eB
      replace M : Mm w ([(B8, [.int .u8 0, .int .u8 0, .int .u8 0, .int .u8 0, .int .u8 0, .int .u8 0, .int .u8 0, .int .u8 0, .int .u8 0, .int .u8 0, .int .u8 0]), (B2, [.int .u8 0, .int .u8 0, .int .u8 0, .int .u8 0, .int .u8 0, .int .u8 0, .int .u8 0, .int .u8 0, .int .u8 0, .int .u8 0, .int .u8 0]), (B1, [.int .i64 p.kind, .int .i64 p.role, .int .i64 p.path, .int .i64 p.epo, .int .i64 p.ctr, .slice bp p.body.length bc])]) w8 := M
      first | show Exit.then _ _ _ _ _ | show Exit.inBlock _ _ _ _ _
      go_upto_region 8 with fail
      refine wp_region_list ?_
      refine readL (.slice (some ⟨B8, 0, none⟩) 11 11) rfl (by kernel_rfl) ?_
      simp only [aP, lI, l0, lS]
      refine readL (.slice p1 11 c1) rfl (by kernel_rfl) ?_
      simp only [aP, lI, l0, lS]
      refine actL (w' := w8.setCells B8 0 (row .u8 11 (bl (hdr p)))) (.int .i64 11) rfl (run_copy_src _ _ 22 22 5 rfl Tryd.underlying22 (by kernel_rfl) B8 11 11 11 c1 11 p1 (bl (hdr p)) rfl rfl (Nat.le_refl _) (Nat.le_refl _) (M.thereP List.mem_cons_self 0 11 (Nat.le_of_ble_eq_true rfl)) O_2.src) ?_
      simp only [aP, lI, l0, lS]
      replace M : Mm w ([(B8, [.int .u8 (bl (hdr p) 0), .int .u8 (bl (hdr p) 1), .int .u8 (bl (hdr p) 2), .int .u8 (bl (hdr p) 3), .int .u8 (bl (hdr p) 4), .int .u8 (bl (hdr p) 5), .int .u8 (bl (hdr p) 6), .int .u8 (bl (hdr p) 7), .int .u8 (bl (hdr p) 8), .int .u8 (bl (hdr p) 9), .int .u8 (bl (hdr p) 10)]), (B2, [.int .u8 0, .int .u8 0, .int .u8 0, .int .u8 0, .int .u8 0, .int .u8 0, .int .u8 0, .int .u8 0, .int .u8 0, .int .u8 0, .int .u8 0]), (B1, [.int .i64 p.kind, .int .i64 p.role, .int .i64 p.path, .int .i64 p.epo, .int .i64 p.ctr, .slice bp p.body.length bc])]) _ := M.setPart (row .u8 11 (bl (hdr p))) 0 (Nat.le_of_ble_eq_true rfl)
      clear O_2
      generalize w8.setCells B8 0 (row .u8 11 (bl (hdr p))) = w9 at M ⊢
      first | show Exit.then _ _ _ _ _ | show Exit.inBlock _ _ _ _ _
      go_upto_region 9 with fail
      refine wp_region_list ?_
      refine readL (.agg #[.int .u8 (bl (hdr p) 0), .int .u8 (bl (hdr p) 1), .int .u8 (bl (hdr p) 2), .int .u8 (bl (hdr p) 3), .int .u8 (bl (hdr p) 4), .int .u8 (bl (hdr p) 5), .int .u8 (bl (hdr p) 6), .int .u8 (bl (hdr p) 7), .int .u8 (bl (hdr p) 8), .int .u8 (bl (hdr p) 9), .int .u8 (bl (hdr p) 10)]) rfl (loadN 40 _ ⟨B8, 0, none⟩ [.int .u8 (bl (hdr p) 0), .int .u8 (bl (hdr p) 1), .int .u8 (bl (hdr p) 2), .int .u8 (bl (hdr p) 3), .int .u8 (bl (hdr p) 4), .int .u8 (bl (hdr p) 5), .int .u8 (bl (hdr p) 6), .int .u8 (bl (hdr p) 7), .int .u8 (bl (hdr p) 8), .int .u8 (bl (hdr p) 9), .int .u8 (bl (hdr p) 10)] rfl rfl (fun _ => by kernel_rfl) (fun _ => by kernel_rfl) (M.rangeAt List.mem_cons_self)) ?_
      simp only [aP, lI, l0, lS]
      replace M := M.swap
      refine skipOpL rfl (storeP [.int .u8 (bl (hdr p) 0), .int .u8 (bl (hdr p) 1), .int .u8 (bl (hdr p) 2), .int .u8 (bl (hdr p) 3), .int .u8 (bl (hdr p) 4), .int .u8 (bl (hdr p) 5), .int .u8 (bl (hdr p) 6), .int .u8 (bl (hdr p) 7), .int .u8 (bl (hdr p) 8), .int .u8 (bl (hdr p) 9), .int .u8 (bl (hdr p) 10)] B2 0 40 _ _ rfl rfl rfl (M.thereP List.mem_cons_self 0 11 (Nat.le_of_ble_eq_true rfl)) (by kernel_rfl) (List.all_eq_true.1 (rfl : ([.int .u8 (bl (hdr p) 0), .int .u8 (bl (hdr p) 1), .int .u8 (bl (hdr p) 2), .int .u8 (bl (hdr p) 3), .int .u8 (bl (hdr p) 4), .int .u8 (bl (hdr p) 5), .int .u8 (bl (hdr p) 6), .int .u8 (bl (hdr p) 7), .int .u8 (bl (hdr p) 8), .int .u8 (bl (hdr p) 9), .int .u8 (bl (hdr p) 10)] : List Value).all (fun u => u.oneCell') = true))) ?_
      simp only [Act.put]
      replace M := M.setPart [.int .u8 (bl (hdr p) 0), .int .u8 (bl (hdr p) 1), .int .u8 (bl (hdr p) 2), .int .u8 (bl (hdr p) 3), .int .u8 (bl (hdr p) 4), .int .u8 (bl (hdr p) 5), .int .u8 (bl (hdr p) 6), .int .u8 (bl (hdr p) 7), .int .u8 (bl (hdr p) 8), .int .u8 (bl (hdr p) 9), .int .u8 (bl (hdr p) 10)] 0 (Nat.le_of_ble_eq_true rfl)
      generalize w9.setCells B2 0 [.int .u8 (bl (hdr p) 0), .int .u8 (bl (hdr p) 1), .int .u8 (bl (hdr p) 2), .int .u8 (bl (hdr p) 3), .int .u8 (bl (hdr p) 4), .int .u8 (bl (hdr p) 5), .int .u8 (bl (hdr p) 6), .int .u8 (bl (hdr p) 7), .int .u8 (bl (hdr p) 8), .int .u8 (bl (hdr p) 9), .int .u8 (bl (hdr p) 10)] = w10 at M  ⊢
      replace M : Mm w ([(B2, [.int .u8 (bl (hdr p) 0), .int .u8 (bl (hdr p) 1), .int .u8 (bl (hdr p) 2), .int .u8 (bl (hdr p) 3), .int .u8 (bl (hdr p) 4), .int .u8 (bl (hdr p) 5), .int .u8 (bl (hdr p) 6), .int .u8 (bl (hdr p) 7), .int .u8 (bl (hdr p) 8), .int .u8 (bl (hdr p) 9), .int .u8 (bl (hdr p) 10)]), (B8, [.int .u8 (bl (hdr p) 0), .int .u8 (bl (hdr p) 1), .int .u8 (bl (hdr p) 2), .int .u8 (bl (hdr p) 3), .int .u8 (bl (hdr p) 4), .int .u8 (bl (hdr p) 5), .int .u8 (bl (hdr p) 6), .int .u8 (bl (hdr p) 7), .int .u8 (bl (hdr p) 8), .int .u8 (bl (hdr p) 9), .int .u8 (bl (hdr p) 10)]), (B1, [.int .i64 p.kind, .int .i64 p.role, .int .i64 p.path, .int .i64 p.epo, .int .i64 p.ctr, .slice bp p.body.length bc])]) w10 := M
      first | show Exit.then _ _ _ _ _ | show Exit.inBlock _ _ _ _ _
      have c1_ := M.part List.mem_cons_self 0 (row .u8 11 (bl (hdr p))) rfl
      have hM := M.below
      clear M
      go_wp2
      refine bodyPost_ret (v := .agg (row .u8 11 (bl (hdr p))).toArray) (retCell 2 40 ⟨B2, 0, none⟩ (row .u8 11 (bl (hdr p))) rfl rfl (fun _ => by kernel_rfl) (fun _ => by kernel_rfl) c1_) rfl ?_
      exact ⟨rfl, hM⟩

set_option maxRecDepth 10000 in
set_option maxHeartbeats 32000000 in
theorem vhead_any : HeadOK := by
  intro p bp bc w hg hp
  have M := Mm.init w
  have fold : (.agg #[.int .i64 p.kind, .int .i64 p.role, .int .i64 p.path, .int .i64 p.epo, .int .i64 p.ctr, .slice bp p.body.length bc] : Value) = .agg (pcs p bp bc).toArray := rfl
  rw [← fold]
  go_enter Tryd.func11, Tryd.ntmps11
  go_upto_region 0 with fail
  refine wp_region_list ?_
  refine actL (w' := w.alloc (.cells #[.int .i64 p.kind, .int .i64 p.role, .int .i64 p.path, .int .i64 p.epo, .int .i64 p.ctr, .slice bp p.body.length bc] 24)) (.pointer (some ⟨w.heap.size, 0, none⟩)) rfl (by kernel_rfl) ?_
  simp only [aP, lI, l0, lS]
  have hB_B1 : w.heap.size ≤ w.heap.size := M.below.size
  replace M := M.box #[.int .i64 p.kind, .int .i64 p.role, .int .i64 p.path, .int .i64 p.epo, .int .i64 p.ctr, .slice bp p.body.length bc] 24 w.heap.size rfl
  generalize w.alloc (.cells #[.int .i64 p.kind, .int .i64 p.role, .int .i64 p.path, .int .i64 p.epo, .int .i64 p.ctr, .slice bp p.body.length bc] 24) = w1 at M  ⊢
  generalize eB : w.heap.size = B1 at M hB_B1  ⊢
  have hE_B1 : w.heap.size ≤ B1 := Nat.le_of_eq eB
  have hF_B1 : B1 ≤ w.heap.size := Nat.le_of_eq eB.symm
  clear eB
  replace M : Mm w ([(B1, [.int .i64 p.kind, .int .i64 p.role, .int .i64 p.path, .int .i64 p.epo, .int .i64 p.ctr, .slice bp p.body.length bc])]) w1 := M
  refine readL (.slice none 0 0) rfl (by kernel_rfl) ?_
  simp only [aP, lI, l0, lS]
  first | show Exit.then _ _ _ _ _ | show Exit.inBlock _ _ _ _ _
  go_upto_region 1 with fail
  refine wp_region_list ?_
  refine readL (.agg #[.int .i64 p.kind, .int .i64 p.role, .int .i64 p.path, .int .i64 p.epo, .int .i64 p.ctr, .slice bp p.body.length bc]) rfl (loadN 24 _ ⟨B1, 0, none⟩ [.int .i64 p.kind, .int .i64 p.role, .int .i64 p.path, .int .i64 p.epo, .int .i64 p.ctr, .slice bp p.body.length bc] rfl rfl (fun _ => by kernel_rfl) (fun _ => by kernel_rfl) (M.rangeAt List.mem_cons_self)) ?_
  simp only [aP, lI, l0, lS]
  obtain ⟨b1, hb1⟩ : ∃ y_, y_ = (prc p) := ⟨_, rfl⟩
  have hC : Calls Tryd.prog 21 #[.agg #[.int .i64 p.kind, .int .i64 p.role, .int .i64 p.path, .int .i64 p.epo, .int .i64 p.ctr, .slice bp p.body.length bc]] w1 (fun e w' => e = .returned (.bool b1) ∧ Below w1.heap.size w1 w') := (by rw [hb1]; exact prec_any p bp bc _)
  refine callL rfl (fun _ => by kernel_rfl) (hC) ?_
  rintro e w2 ⟨rfl, l⟩
  replace M := M.call l
  refine ⟨_, rfl, ?_⟩
  clear l hC
  simp only [aP, lI, l0, lS]
  obtain ⟨b2, hb2⟩ : ∃ y_, y_ = (!b1) := ⟨_, rfl⟩
  refine readL (.bool b2) rfl (by subst hb2; cases b1 <;> rfl) ?_
  simp only [aP, lI, l0, lS]
  first | show Exit.then _ _ _ _ _ | show Exit.inBlock _ _ _ _ _
  have hb : b2 = !prc p := by rw [hb2, hb1]
  try clear hb1
  try clear hb2
  cases b2 with
  | true =>
    go_upto_region 2 with fail
    refine wp_region_list ?_
    refine readL (.slice none 0 0) rfl (by kernel_rfl) ?_
    simp only [aP, lI, l0, lS]
    first | show Exit.then _ _ _ _ _ | show Exit.inBlock _ _ _ _ _
    have hA : phd p = [] := phd_none (of_decide_eq_false (show prc p = false by simpa using hb))
    replace hA := show Hid _ from hA
    clear hb
    go_wp2
    go_ret
    exact ⟨⟨_, rfl, by rw [hA.out]; exact NewF.nil _ _ _⟩, M.below⟩
  | false =>
    have hk : p.kind = 3 ∧ pok p = true := of_decide_eq_true (show prc p = true by simpa using hb)
    have hR : Rec p := of_decide_eq_true ((pok_rec hk.1).symm.trans hk.2)
    clear hb
    go_upto_region 3 with fail
    refine wp_region_list ?_
    refine readL (.agg #[.int .i64 p.kind, .int .i64 p.role, .int .i64 p.path, .int .i64 p.epo, .int .i64 p.ctr, .slice bp p.body.length bc]) rfl (loadN 24 _ ⟨B1, 0, none⟩ [.int .i64 p.kind, .int .i64 p.role, .int .i64 p.path, .int .i64 p.epo, .int .i64 p.ctr, .slice bp p.body.length bc] rfl rfl (fun _ => by kernel_rfl) (fun _ => by kernel_rfl) (M.rangeAt List.mem_cons_self)) ?_
    simp only [aP, lI, l0, lS]
    have hC : Calls Tryd.prog 22 #[.agg #[.int .i64 p.kind, .int .i64 p.role, .int .i64 p.path, .int .i64 p.epo, .int .i64 p.ctr, .slice bp p.body.length bc]] w2 (fun e w' => e = .returned (.agg #[.int .u8 (bl (hdr p) 0), .int .u8 (bl (hdr p) 1), .int .u8 (bl (hdr p) 2), .int .u8 (bl (hdr p) 3), .int .u8 (bl (hdr p) 4), .int .u8 (bl (hdr p) 5), .int .u8 (bl (hdr p) 6), .int .u8 (bl (hdr p) 7), .int .u8 (bl (hdr p) 8), .int .u8 (bl (hdr p) 9), .int .u8 (bl (hdr p) 10)]) ∧ Below w2.heap.size w2 w') := (phead_any p bp bc _ (hg.mm M) hk.1 hR)
    refine callL rfl (fun _ => by kernel_rfl) (hC) ?_
    rintro e w3 ⟨rfl, l⟩
    replace M := M.call l
    refine ⟨_, rfl, ?_⟩
    clear l hC
    simp only [aP, lI, l0, lS]
    refine actL (w' := w3.alloc (.cells #[.int .u8 0, .int .u8 0, .int .u8 0, .int .u8 0, .int .u8 0, .int .u8 0, .int .u8 0, .int .u8 0, .int .u8 0, .int .u8 0, .int .u8 0] 40)) (.pointer (some ⟨w3.heap.size, 0, none⟩)) rfl (by kernel_rfl) ?_
    simp only [aP, lI, l0, lS]
    have hB_B4 : w.heap.size ≤ w3.heap.size := M.below.size
    replace M := M.box #[.int .u8 0, .int .u8 0, .int .u8 0, .int .u8 0, .int .u8 0, .int .u8 0, .int .u8 0, .int .u8 0, .int .u8 0, .int .u8 0, .int .u8 0] 40 w3.heap.size rfl
    generalize w3.alloc (.cells #[.int .u8 0, .int .u8 0, .int .u8 0, .int .u8 0, .int .u8 0, .int .u8 0, .int .u8 0, .int .u8 0, .int .u8 0, .int .u8 0, .int .u8 0] 40) = w4 at M  ⊢
    generalize eB : w3.heap.size = B4 at M hB_B4  ⊢
    have hE_B4 : w3.heap.size ≤ B4 := Nat.le_of_eq eB
    have hF_B4 : B4 ≤ w3.heap.size := Nat.le_of_eq eB.symm
    clear eB
    replace M : Mm w ([(B4, [.int .u8 0, .int .u8 0, .int .u8 0, .int .u8 0, .int .u8 0, .int .u8 0, .int .u8 0, .int .u8 0, .int .u8 0, .int .u8 0, .int .u8 0]), (B1, [.int .i64 p.kind, .int .i64 p.role, .int .i64 p.path, .int .i64 p.epo, .int .i64 p.ctr, .slice bp p.body.length bc])]) w4 := M
    refine skipOpL rfl (storeP [.int .u8 (bl (hdr p) 0), .int .u8 (bl (hdr p) 1), .int .u8 (bl (hdr p) 2), .int .u8 (bl (hdr p) 3), .int .u8 (bl (hdr p) 4), .int .u8 (bl (hdr p) 5), .int .u8 (bl (hdr p) 6), .int .u8 (bl (hdr p) 7), .int .u8 (bl (hdr p) 8), .int .u8 (bl (hdr p) 9), .int .u8 (bl (hdr p) 10)] B4 0 40 _ _ rfl rfl rfl (M.thereP List.mem_cons_self 0 11 (Nat.le_of_ble_eq_true rfl)) (by kernel_rfl) (List.all_eq_true.1 (rfl : ([.int .u8 (bl (hdr p) 0), .int .u8 (bl (hdr p) 1), .int .u8 (bl (hdr p) 2), .int .u8 (bl (hdr p) 3), .int .u8 (bl (hdr p) 4), .int .u8 (bl (hdr p) 5), .int .u8 (bl (hdr p) 6), .int .u8 (bl (hdr p) 7), .int .u8 (bl (hdr p) 8), .int .u8 (bl (hdr p) 9), .int .u8 (bl (hdr p) 10)] : List Value).all (fun u => u.oneCell') = true))) ?_
    simp only [Act.put]
    replace M := M.setPart [.int .u8 (bl (hdr p) 0), .int .u8 (bl (hdr p) 1), .int .u8 (bl (hdr p) 2), .int .u8 (bl (hdr p) 3), .int .u8 (bl (hdr p) 4), .int .u8 (bl (hdr p) 5), .int .u8 (bl (hdr p) 6), .int .u8 (bl (hdr p) 7), .int .u8 (bl (hdr p) 8), .int .u8 (bl (hdr p) 9), .int .u8 (bl (hdr p) 10)] 0 (Nat.le_of_ble_eq_true rfl)
    generalize w4.setCells B4 0 [.int .u8 (bl (hdr p) 0), .int .u8 (bl (hdr p) 1), .int .u8 (bl (hdr p) 2), .int .u8 (bl (hdr p) 3), .int .u8 (bl (hdr p) 4), .int .u8 (bl (hdr p) 5), .int .u8 (bl (hdr p) 6), .int .u8 (bl (hdr p) 7), .int .u8 (bl (hdr p) 8), .int .u8 (bl (hdr p) 9), .int .u8 (bl (hdr p) 10)] = w5 at M  ⊢
    replace M : Mm w ([(B4, [.int .u8 (bl (hdr p) 0), .int .u8 (bl (hdr p) 1), .int .u8 (bl (hdr p) 2), .int .u8 (bl (hdr p) 3), .int .u8 (bl (hdr p) 4), .int .u8 (bl (hdr p) 5), .int .u8 (bl (hdr p) 6), .int .u8 (bl (hdr p) 7), .int .u8 (bl (hdr p) 8), .int .u8 (bl (hdr p) 9), .int .u8 (bl (hdr p) 10)]), (B1, [.int .i64 p.kind, .int .i64 p.role, .int .i64 p.path, .int .i64 p.epo, .int .i64 p.ctr, .slice bp p.body.length bc])]) w5 := M
    first | show Exit.then _ _ _ _ _ | show Exit.inBlock _ _ _ _ _
    go_upto_region 4 with fail
    refine wp_region_list ?_
    refine readL (.slice (some ⟨B4, 0, none⟩) 11 11) rfl (by kernel_rfl) ?_
    simp only [aP, lI, l0, lS]
    refine readL (.slice (some ⟨B4, 0, none⟩) 11 11) rfl (by kernel_rfl) ?_
    simp only [aP, lI, l0, lS]
    first | show Exit.then _ _ _ _ _ | show Exit.inBlock _ _ _ _ _
    have hN := M.newL List.mem_cons_self (hdr p) rfl
    rw [hdr_length] at hN
    have hA : phd p = hdr p := phd_rec hk.1 hk.2
    have hS := show Hid _ from (And.intro hN hA)
    clear hk hR hN hA
    go_wp2
    go_ret
    exact ⟨⟨_, rfl, by rw [hS.out.2]; exact hS.out.1⟩, M.below⟩
end Go.Proofs.YtbhhboiofepnhaaDoor

namespace Go.Proofs.YtbhhboiofepnhaaDoor
open Go.RowKit

theorem run_copy_at {P : Program} {o : Oper} {a : Act} {w : World} (d s : Operand) (dT sT elem : TypeId) (ho : o.op = .call { callee := .builtin .copy, args := #[d, s], argTypes := #[dT, sT] }) (hu : P.underlying dT = some (.slice elem)) (hsz : (P.info? elem).map (·.size) = some 1)
    (b o' dLen dCap sLen sCap m : Nat) (z : Nat → Int) (ad : Addr) (hd : a.eval d = .slice (some ⟨b, o', none⟩) dLen dCap) (hs : a.eval s = .slice (some ad) sLen sCap) (hmin : m = Nat.min sLen dLen) (hb : w.there b o' m) (hc : Src w (some ad) m z) :
    (execOp a.eval o).run P w = .ok (.value (.int .i64 (m : Int))) (w.setCells b o' (row .u8 m z)) := by
  have hrun := run_copy_cells (P := P) w dT sT o.type elem b o' dLen dCap ad sLen sCap (row .u8 m z) hu hsz (by rw [row_length]; exact hmin) (fun j v hv => by
    obtain ⟨hj, rfl⟩ := row_get_some hv
    obtain ⟨ad', he, hc'⟩ := hc j hj
    injection he with he
    subst he
    exact hc') (fun j hj => by rw [row_length] at hj; exact (hb j hj).1) (fun j hj => by rw [row_length] at hj; exact (hb j hj).2) (row_one .u8 m z)
  rw [row_length] at hrun
  simp [execOp, ho, resolve, invoke, builtin, hd, hs, hrun, Result.andThen, goInt]

set_option maxRecDepth 10000 in
set_option maxHeartbeats 32000000 in
theorem vnonce_any : NonceOK := by
  intro p bp bc w hg hp
  have M := Mm.init w
  have fold : (.agg #[.int .i64 p.kind, .int .i64 p.role, .int .i64 p.path, .int .i64 p.epo, .int .i64 p.ctr, .slice bp p.body.length bc] : Value) = .agg (pcs p bp bc).toArray := rfl
  rw [← fold]
  go_enter Tryd.func13, Tryd.ntmps13
  go_upto_region 0 with fail
  refine wp_region_list ?_
  refine actL (w' := w.alloc (.cells #[.int .i64 p.kind, .int .i64 p.role, .int .i64 p.path, .int .i64 p.epo, .int .i64 p.ctr, .slice bp p.body.length bc] 24)) (.pointer (some ⟨w.heap.size, 0, none⟩)) rfl (by kernel_rfl) ?_
  simp only [aP, lI, l0, lS]
  have hB_B1 : w.heap.size ≤ w.heap.size := M.below.size
  replace M := M.box #[.int .i64 p.kind, .int .i64 p.role, .int .i64 p.path, .int .i64 p.epo, .int .i64 p.ctr, .slice bp p.body.length bc] 24 w.heap.size rfl
  generalize w.alloc (.cells #[.int .i64 p.kind, .int .i64 p.role, .int .i64 p.path, .int .i64 p.epo, .int .i64 p.ctr, .slice bp p.body.length bc] 24) = w1 at M  ⊢
  generalize eB : w.heap.size = B1 at M hB_B1  ⊢
  have hE_B1 : w.heap.size ≤ B1 := Nat.le_of_eq eB
  have hF_B1 : B1 ≤ w.heap.size := Nat.le_of_eq eB.symm
  clear eB
  replace M : Mm w ([(B1, [.int .i64 p.kind, .int .i64 p.role, .int .i64 p.path, .int .i64 p.epo, .int .i64 p.ctr, .slice bp p.body.length bc])]) w1 := M
  refine actL (w' := w1.alloc (.cells #[.int .u8 0, .int .u8 0, .int .u8 0, .int .u8 0, .int .u8 0, .int .u8 0, .int .u8 0, .int .u8 0, .int .u8 0, .int .u8 0, .int .u8 0, .int .u8 0] 31)) (.pointer (some ⟨w1.heap.size, 0, none⟩)) rfl (by kernel_rfl) ?_
  simp only [aP, lI, l0, lS]
  have hB_B2 : w.heap.size ≤ w1.heap.size := M.below.size
  replace M := M.box #[.int .u8 0, .int .u8 0, .int .u8 0, .int .u8 0, .int .u8 0, .int .u8 0, .int .u8 0, .int .u8 0, .int .u8 0, .int .u8 0, .int .u8 0, .int .u8 0] 31 w1.heap.size rfl
  generalize w1.alloc (.cells #[.int .u8 0, .int .u8 0, .int .u8 0, .int .u8 0, .int .u8 0, .int .u8 0, .int .u8 0, .int .u8 0, .int .u8 0, .int .u8 0, .int .u8 0, .int .u8 0] 31) = w2 at M  ⊢
  generalize eB : w1.heap.size = B2 at M hB_B2  ⊢
  have hE_B2 : w1.heap.size ≤ B2 := Nat.le_of_eq eB
  have hF_B2 : B2 ≤ w1.heap.size := Nat.le_of_eq eB.symm
  clear eB
  replace M : Mm w ([(B2, [.int .u8 0, .int .u8 0, .int .u8 0, .int .u8 0, .int .u8 0, .int .u8 0, .int .u8 0, .int .u8 0, .int .u8 0, .int .u8 0, .int .u8 0, .int .u8 0]), (B1, [.int .i64 p.kind, .int .i64 p.role, .int .i64 p.path, .int .i64 p.epo, .int .i64 p.ctr, .slice bp p.body.length bc])]) w2 := M
  first | show Exit.then _ _ _ _ _ | show Exit.inBlock _ _ _ _ _
  go_upto_region 1 with fail
  refine wp_region_list ?_
  refine actL (w' := w2.alloc (.cells #[.int .u8 0, .int .u8 0, .int .u8 0, .int .u8 0, .int .u8 0, .int .u8 0, .int .u8 0, .int .u8 0, .int .u8 0, .int .u8 0, .int .u8 0, .int .u8 0] 31)) (.pointer (some ⟨w2.heap.size, 0, none⟩)) rfl (by kernel_rfl) ?_
  simp only [aP, lI, l0, lS]
  have hB_B3 : w.heap.size ≤ w2.heap.size := M.below.size
  replace M := M.box #[.int .u8 0, .int .u8 0, .int .u8 0, .int .u8 0, .int .u8 0, .int .u8 0, .int .u8 0, .int .u8 0, .int .u8 0, .int .u8 0, .int .u8 0, .int .u8 0] 31 w2.heap.size rfl
  generalize w2.alloc (.cells #[.int .u8 0, .int .u8 0, .int .u8 0, .int .u8 0, .int .u8 0, .int .u8 0, .int .u8 0, .int .u8 0, .int .u8 0, .int .u8 0, .int .u8 0, .int .u8 0] 31) = w3 at M  ⊢
  generalize eB : w2.heap.size = B3 at M hB_B3  ⊢
  have hE_B3 : w2.heap.size ≤ B3 := Nat.le_of_eq eB
  have hF_B3 : B3 ≤ w2.heap.size := Nat.le_of_eq eB.symm
  clear eB
  replace M : Mm w ([(B3, [.int .u8 0, .int .u8 0, .int .u8 0, .int .u8 0, .int .u8 0, .int .u8 0, .int .u8 0, .int .u8 0, .int .u8 0, .int .u8 0, .int .u8 0, .int .u8 0]), (B2, [.int .u8 0, .int .u8 0, .int .u8 0, .int .u8 0, .int .u8 0, .int .u8 0, .int .u8 0, .int .u8 0, .int .u8 0, .int .u8 0, .int .u8 0, .int .u8 0]), (B1, [.int .i64 p.kind, .int .i64 p.role, .int .i64 p.path, .int .i64 p.epo, .int .i64 p.ctr, .slice bp p.body.length bc])]) w3 := M
  first | show Exit.then _ _ _ _ _ | show Exit.inBlock _ _ _ _ _
  go_upto_region 2 with fail
  refine wp_region_list ?_
  refine readL (.agg #[.int .i64 p.kind, .int .i64 p.role, .int .i64 p.path, .int .i64 p.epo, .int .i64 p.ctr, .slice bp p.body.length bc]) rfl (loadN 24 _ ⟨B1, 0, none⟩ [.int .i64 p.kind, .int .i64 p.role, .int .i64 p.path, .int .i64 p.epo, .int .i64 p.ctr, .slice bp p.body.length bc] rfl rfl (fun _ => by kernel_rfl) (fun _ => by kernel_rfl) (M.rangeAt (List.mem_cons_of_mem _ (List.mem_cons_of_mem _ List.mem_cons_self)))) ?_
  simp only [aP, lI, l0, lS]
  obtain ⟨b1, hb1⟩ : ∃ y_, y_ = (prc p) := ⟨_, rfl⟩
  have hC : Calls Tryd.prog 21 #[.agg #[.int .i64 p.kind, .int .i64 p.role, .int .i64 p.path, .int .i64 p.epo, .int .i64 p.ctr, .slice bp p.body.length bc]] w3 (fun e w' => e = .returned (.bool b1) ∧ Below w3.heap.size w3 w') := (by rw [hb1]; exact prec_any p bp bc _)
  refine callL rfl (fun _ => by kernel_rfl) (hC) ?_
  rintro e w4 ⟨rfl, l⟩
  replace M := M.call l
  refine ⟨_, rfl, ?_⟩
  clear l hC
  simp only [aP, lI, l0, lS]
  first | show Exit.then _ _ _ _ _ | show Exit.inBlock _ _ _ _ _
  have hb : b1 = prc p := by rw [hb1]
  try clear hb1
  cases b1 with
  | true =>
    have hk : p.kind = 3 ∧ pok p = true := of_decide_eq_true (show prc p = true by simpa using hb)
    have hR : Rec p := of_decide_eq_true ((pok_rec hk.1).symm.trans hk.2)
    clear hb
    go_upto_region 3 with fail
    refine wp_region_list ?_
    refine readL (.agg #[.int .i64 p.kind, .int .i64 p.role, .int .i64 p.path, .int .i64 p.epo, .int .i64 p.ctr, .slice bp p.body.length bc]) rfl (loadN 24 _ ⟨B1, 0, none⟩ [.int .i64 p.kind, .int .i64 p.role, .int .i64 p.path, .int .i64 p.epo, .int .i64 p.ctr, .slice bp p.body.length bc] rfl rfl (fun _ => by kernel_rfl) (fun _ => by kernel_rfl) (M.rangeAt (List.mem_cons_of_mem _ (List.mem_cons_of_mem _ List.mem_cons_self)))) ?_
    simp only [aP, lI, l0, lS]
    have hC : Calls Tryd.prog 22 #[.agg #[.int .i64 p.kind, .int .i64 p.role, .int .i64 p.path, .int .i64 p.epo, .int .i64 p.ctr, .slice bp p.body.length bc]] w4 (fun e w' => e = .returned (.agg #[.int .u8 (bl (hdr p) 0), .int .u8 (bl (hdr p) 1), .int .u8 (bl (hdr p) 2), .int .u8 (bl (hdr p) 3), .int .u8 (bl (hdr p) 4), .int .u8 (bl (hdr p) 5), .int .u8 (bl (hdr p) 6), .int .u8 (bl (hdr p) 7), .int .u8 (bl (hdr p) 8), .int .u8 (bl (hdr p) 9), .int .u8 (bl (hdr p) 10)]) ∧ Below w4.heap.size w4 w') := (phead_any p bp bc _ (hg.mm M) hk.1 hR)
    refine callL rfl (fun _ => by kernel_rfl) (hC) ?_
    rintro e w5 ⟨rfl, l⟩
    replace M := M.call l
    refine ⟨_, rfl, ?_⟩
    clear l hC
    simp only [aP, lI, l0, lS]
    refine actL (w' := w5.alloc (.cells #[.int .u8 0, .int .u8 0, .int .u8 0, .int .u8 0, .int .u8 0, .int .u8 0, .int .u8 0, .int .u8 0, .int .u8 0, .int .u8 0, .int .u8 0] 40)) (.pointer (some ⟨w5.heap.size, 0, none⟩)) rfl (by kernel_rfl) ?_
    simp only [aP, lI, l0, lS]
    have hB_B6 : w.heap.size ≤ w5.heap.size := M.below.size
    replace M := M.box #[.int .u8 0, .int .u8 0, .int .u8 0, .int .u8 0, .int .u8 0, .int .u8 0, .int .u8 0, .int .u8 0, .int .u8 0, .int .u8 0, .int .u8 0] 40 w5.heap.size rfl
    generalize w5.alloc (.cells #[.int .u8 0, .int .u8 0, .int .u8 0, .int .u8 0, .int .u8 0, .int .u8 0, .int .u8 0, .int .u8 0, .int .u8 0, .int .u8 0, .int .u8 0] 40) = w6 at M  ⊢
    generalize eB : w5.heap.size = B6 at M hB_B6  ⊢
    have hE_B6 : w5.heap.size ≤ B6 := Nat.le_of_eq eB
    have hF_B6 : B6 ≤ w5.heap.size := Nat.le_of_eq eB.symm
    clear eB
    replace M : Mm w ([(B6, [.int .u8 0, .int .u8 0, .int .u8 0, .int .u8 0, .int .u8 0, .int .u8 0, .int .u8 0, .int .u8 0, .int .u8 0, .int .u8 0, .int .u8 0]), (B3, [.int .u8 0, .int .u8 0, .int .u8 0, .int .u8 0, .int .u8 0, .int .u8 0, .int .u8 0, .int .u8 0, .int .u8 0, .int .u8 0, .int .u8 0, .int .u8 0]), (B2, [.int .u8 0, .int .u8 0, .int .u8 0, .int .u8 0, .int .u8 0, .int .u8 0, .int .u8 0, .int .u8 0, .int .u8 0, .int .u8 0, .int .u8 0, .int .u8 0]), (B1, [.int .i64 p.kind, .int .i64 p.role, .int .i64 p.path, .int .i64 p.epo, .int .i64 p.ctr, .slice bp p.body.length bc])]) w6 := M
    refine skipOpL rfl (storeP [.int .u8 (bl (hdr p) 0), .int .u8 (bl (hdr p) 1), .int .u8 (bl (hdr p) 2), .int .u8 (bl (hdr p) 3), .int .u8 (bl (hdr p) 4), .int .u8 (bl (hdr p) 5), .int .u8 (bl (hdr p) 6), .int .u8 (bl (hdr p) 7), .int .u8 (bl (hdr p) 8), .int .u8 (bl (hdr p) 9), .int .u8 (bl (hdr p) 10)] B6 0 40 _ _ rfl rfl rfl (M.thereP List.mem_cons_self 0 11 (Nat.le_of_ble_eq_true rfl)) (by kernel_rfl) (List.all_eq_true.1 (rfl : ([.int .u8 (bl (hdr p) 0), .int .u8 (bl (hdr p) 1), .int .u8 (bl (hdr p) 2), .int .u8 (bl (hdr p) 3), .int .u8 (bl (hdr p) 4), .int .u8 (bl (hdr p) 5), .int .u8 (bl (hdr p) 6), .int .u8 (bl (hdr p) 7), .int .u8 (bl (hdr p) 8), .int .u8 (bl (hdr p) 9), .int .u8 (bl (hdr p) 10)] : List Value).all (fun u => u.oneCell') = true))) ?_
    simp only [Act.put]
    replace M := M.setPart [.int .u8 (bl (hdr p) 0), .int .u8 (bl (hdr p) 1), .int .u8 (bl (hdr p) 2), .int .u8 (bl (hdr p) 3), .int .u8 (bl (hdr p) 4), .int .u8 (bl (hdr p) 5), .int .u8 (bl (hdr p) 6), .int .u8 (bl (hdr p) 7), .int .u8 (bl (hdr p) 8), .int .u8 (bl (hdr p) 9), .int .u8 (bl (hdr p) 10)] 0 (Nat.le_of_ble_eq_true rfl)
    generalize w6.setCells B6 0 [.int .u8 (bl (hdr p) 0), .int .u8 (bl (hdr p) 1), .int .u8 (bl (hdr p) 2), .int .u8 (bl (hdr p) 3), .int .u8 (bl (hdr p) 4), .int .u8 (bl (hdr p) 5), .int .u8 (bl (hdr p) 6), .int .u8 (bl (hdr p) 7), .int .u8 (bl (hdr p) 8), .int .u8 (bl (hdr p) 9), .int .u8 (bl (hdr p) 10)] = w7 at M  ⊢
    replace M : Mm w ([(B6, [.int .u8 (bl (hdr p) 0), .int .u8 (bl (hdr p) 1), .int .u8 (bl (hdr p) 2), .int .u8 (bl (hdr p) 3), .int .u8 (bl (hdr p) 4), .int .u8 (bl (hdr p) 5), .int .u8 (bl (hdr p) 6), .int .u8 (bl (hdr p) 7), .int .u8 (bl (hdr p) 8), .int .u8 (bl (hdr p) 9), .int .u8 (bl (hdr p) 10)]), (B3, [.int .u8 0, .int .u8 0, .int .u8 0, .int .u8 0, .int .u8 0, .int .u8 0, .int .u8 0, .int .u8 0, .int .u8 0, .int .u8 0, .int .u8 0, .int .u8 0]), (B2, [.int .u8 0, .int .u8 0, .int .u8 0, .int .u8 0, .int .u8 0, .int .u8 0, .int .u8 0, .int .u8 0, .int .u8 0, .int .u8 0, .int .u8 0, .int .u8 0]), (B1, [.int .i64 p.kind, .int .i64 p.role, .int .i64 p.path, .int .i64 p.epo, .int .i64 p.ctr, .slice bp p.body.length bc])]) w7 := M
    first | show Exit.then _ _ _ _ _ | show Exit.inBlock _ _ _ _ _
    go_upto_region 4 with fail
    refine wp_region_list ?_
    refine readL (.slice (some ⟨B6, 5, none⟩) 6 6) rfl (by kernel_rfl) ?_
    simp only [aP, lI, l0, lS]
    refine readL (.slice (some ⟨B6, 5, none⟩) 6 6) rfl (by kernel_rfl) ?_
    simp only [aP, lI, l0, lS]
    first | show Exit.then _ _ _ _ _ | show Exit.inBlock _ _ _ _ _
    replace M := M.swap
    go_upto_region 5 with fail
    refine wp_region_held_drew (S := fun w' => ∃ cs, Mm w ((B3, cs) :: (B6, [.int .u8 (bl (hdr p) 0), .int .u8 (bl (hdr p) 1), .int .u8 (bl (hdr p) 2), .int .u8 (bl (hdr p) 3), .int .u8 (bl (hdr p) 4), .int .u8 (bl (hdr p) 5), .int .u8 (bl (hdr p) 6), .int .u8 (bl (hdr p) 7), .int .u8 (bl (hdr p) 8), .int .u8 (bl (hdr p) 9), .int .u8 (bl (hdr p) 10)]) :: (B2, [.int .u8 0, .int .u8 0, .int .u8 0, .int .u8 0, .int .u8 0, .int .u8 0, .int .u8 0, .int .u8 0, .int .u8 0, .int .u8 0, .int .u8 0, .int .u8 0]) :: (B1, [.int .i64 p.kind, .int .i64 p.role, .int .i64 p.path, .int .i64 p.epo, .int .i64 p.ctr, .slice bp p.body.length bc]) :: []) w') (by kernel_rfl) ⟨_, M.drew⟩ ?_
    intro _
    replace M := M.drew
    generalize w7.drew = wd at M ⊢
    refine readH (i := 0) (some 11) rfl (.slice (some ⟨B3, 0, none⟩) 12 12) rfl rfl (fun _ _ => by kernel_rfl) (by kernel_rfl) (by kernel_rfl) (by kernel_rfl) (fun _ _ _ h => h) ⟨_, M⟩ ?_
    simp only [aP, lI, l0, lS]
    refine readH (i := 1) (some 12) rfl (.slice (some ⟨B6, 2, none⟩) 3 9) rfl rfl (fun _ _ => by kernel_rfl) (by kernel_rfl) (by kernel_rfl) (by kernel_rfl) (fun _ _ _ h => h) ⟨_, M⟩ ?_
    simp only [aP, lI, l0, lS]
    have M2 : Mm w [(B3, [.int .u8 (bl (hdr p) (2 + 0)), .int .u8 (bl (hdr p) (2 + 1)), .int .u8 (bl (hdr p) (2 + 2)), .int .u8 0, .int .u8 0, .int .u8 0, .int .u8 0, .int .u8 0, .int .u8 0, .int .u8 0, .int .u8 0, .int .u8 0]), (B6, [.int .u8 (bl (hdr p) 0), .int .u8 (bl (hdr p) 1), .int .u8 (bl (hdr p) 2), .int .u8 (bl (hdr p) 3), .int .u8 (bl (hdr p) 4), .int .u8 (bl (hdr p) 5), .int .u8 (bl (hdr p) 6), .int .u8 (bl (hdr p) 7), .int .u8 (bl (hdr p) 8), .int .u8 (bl (hdr p) 9), .int .u8 (bl (hdr p) 10)]), (B2, [.int .u8 0, .int .u8 0, .int .u8 0, .int .u8 0, .int .u8 0, .int .u8 0, .int .u8 0, .int .u8 0, .int .u8 0, .int .u8 0, .int .u8 0, .int .u8 0]), (B1, [.int .i64 p.kind, .int .i64 p.role, .int .i64 p.path, .int .i64 p.epo, .int .i64 p.ctr, .slice bp p.body.length bc])] (wd.setCells B3 0 (row .u8 3 (fun j => bl (hdr p) (2 + j)))) := Mm.setPart M (row .u8 3 (fun j => bl (hdr p) (2 + j))) 0 (Nat.le_of_ble_eq_true rfl)
    refine onlyH (i := 2) (some 13) rfl (.int .i64 3) (by kernel_rfl) rfl rfl (run_copy_at _ _ 22 22 5 rfl Tryd.underlying22 (by kernel_rfl) B3 0 12 12 3 9 3 (fun j => bl (hdr p) (2 + j)) ⟨B6, 2, none⟩ rfl rfl rfl (M.thereP List.mem_cons_self 0 3 (Nat.le_of_ble_eq_true rfl)) (M.srcRow (List.mem_cons_of_mem _ List.mem_cons_self) 2 3 _ rfl)) ⟨_, M2⟩ ?_
    simp only [aP, lI, l0, lS]
    clear M
    generalize wd.setCells B3 0 (row .u8 3 (fun j => bl (hdr p) (2 + j))) = we at M2 ⊢
    have M := M2
    clear M2
    refine wpAnyH_done (by kernel_rfl) ?_ _
    first | show Exit.then _ _ _ _ _ | show Exit.inBlock _ _ _ _ _
    go_upto_region 6 with fail
    refine wp_region_list ?_
    refine readL (.slice (some ⟨B6, 5, none⟩) 6 6) rfl (by kernel_rfl) ?_
    simp only [aP, lI, l0, lS]
    refine readL (.int .i64 ((6 : Nat) : Int)) rfl (lenS _ 22 5 (some ⟨B6, 5, none⟩) 6 6 rfl Tryd.underlying22 rfl _) ?_
    simp only [aP, lI, l0, lS]
    refine readL (.int .i64 6) rfl (subI .i64 _ _ _ _ _ _ _ rfl rfl rfl (by decide) _) ?_
    simp only [aP, lI, l0, lS]
    refine readL (.slice (some ⟨B3, 6, none⟩) 6 6) rfl (by kernel_rfl) ?_
    simp only [aP, lI, l0, lS]
    refine readL (.slice (some ⟨B6, 5, none⟩) 6 6) rfl (by kernel_rfl) ?_
    simp only [aP, lI, l0, lS]
    refine actL (w' := we.setCells B3 6 (row .u8 6 (fun j => bl (hdr p) (5 + j)))) (.int .i64 6) rfl (run_copy_at _ _ 22 22 5 rfl Tryd.underlying22 (by kernel_rfl) B3 6 6 6 6 6 6 (fun j => bl (hdr p) (5 + j)) ⟨B6, 5, none⟩ rfl rfl rfl (M.thereP List.mem_cons_self 6 6 (Nat.le_of_ble_eq_true rfl)) (M.srcRow (List.mem_cons_of_mem _ List.mem_cons_self) 5 6 _ rfl)) ?_
    simp only [aP, lI, l0, lS]
    replace M : Mm w ([(B3, [.int .u8 (bl (hdr p) (2 + 0)), .int .u8 (bl (hdr p) (2 + 1)), .int .u8 (bl (hdr p) (2 + 2)), .int .u8 0, .int .u8 0, .int .u8 0, .int .u8 (bl (hdr p) (5 + 0)), .int .u8 (bl (hdr p) (5 + 1)), .int .u8 (bl (hdr p) (5 + 2)), .int .u8 (bl (hdr p) (5 + 3)), .int .u8 (bl (hdr p) (5 + 4)), .int .u8 (bl (hdr p) (5 + 5))]), (B6, [.int .u8 (bl (hdr p) 0), .int .u8 (bl (hdr p) 1), .int .u8 (bl (hdr p) 2), .int .u8 (bl (hdr p) 3), .int .u8 (bl (hdr p) 4), .int .u8 (bl (hdr p) 5), .int .u8 (bl (hdr p) 6), .int .u8 (bl (hdr p) 7), .int .u8 (bl (hdr p) 8), .int .u8 (bl (hdr p) 9), .int .u8 (bl (hdr p) 10)]), (B2, [.int .u8 0, .int .u8 0, .int .u8 0, .int .u8 0, .int .u8 0, .int .u8 0, .int .u8 0, .int .u8 0, .int .u8 0, .int .u8 0, .int .u8 0, .int .u8 0]), (B1, [.int .i64 p.kind, .int .i64 p.role, .int .i64 p.path, .int .i64 p.epo, .int .i64 p.ctr, .slice bp p.body.length bc])]) _ := M.setPart (row .u8 6 (fun j => bl (hdr p) (5 + j))) 6 (Nat.le_of_ble_eq_true rfl)
    generalize we.setCells B3 6 (row .u8 6 (fun j => bl (hdr p) (5 + j))) = w8 at M ⊢
    first | show Exit.then _ _ _ _ _ | show Exit.inBlock _ _ _ _ _
    go_upto_region 7 with fail
    refine wp_region_list ?_
    refine readL (.agg #[.int .u8 (bl (hdr p) (2 + 0)), .int .u8 (bl (hdr p) (2 + 1)), .int .u8 (bl (hdr p) (2 + 2)), .int .u8 0, .int .u8 0, .int .u8 0, .int .u8 (bl (hdr p) (5 + 0)), .int .u8 (bl (hdr p) (5 + 1)), .int .u8 (bl (hdr p) (5 + 2)), .int .u8 (bl (hdr p) (5 + 3)), .int .u8 (bl (hdr p) (5 + 4)), .int .u8 (bl (hdr p) (5 + 5))]) rfl (loadN 31 _ ⟨B3, 0, none⟩ [.int .u8 (bl (hdr p) (2 + 0)), .int .u8 (bl (hdr p) (2 + 1)), .int .u8 (bl (hdr p) (2 + 2)), .int .u8 0, .int .u8 0, .int .u8 0, .int .u8 (bl (hdr p) (5 + 0)), .int .u8 (bl (hdr p) (5 + 1)), .int .u8 (bl (hdr p) (5 + 2)), .int .u8 (bl (hdr p) (5 + 3)), .int .u8 (bl (hdr p) (5 + 4)), .int .u8 (bl (hdr p) (5 + 5))] rfl rfl (fun _ => by kernel_rfl) (fun _ => by kernel_rfl) (M.rangeAt List.mem_cons_self)) ?_
    simp only [aP, lI, l0, lS]
    replace M := M.rot3
    refine skipOpL rfl (storeP [.int .u8 (bl (hdr p) (2 + 0)), .int .u8 (bl (hdr p) (2 + 1)), .int .u8 (bl (hdr p) (2 + 2)), .int .u8 0, .int .u8 0, .int .u8 0, .int .u8 (bl (hdr p) (5 + 0)), .int .u8 (bl (hdr p) (5 + 1)), .int .u8 (bl (hdr p) (5 + 2)), .int .u8 (bl (hdr p) (5 + 3)), .int .u8 (bl (hdr p) (5 + 4)), .int .u8 (bl (hdr p) (5 + 5))] B2 0 31 _ _ rfl rfl rfl (M.thereP List.mem_cons_self 0 12 (Nat.le_of_ble_eq_true rfl)) (by kernel_rfl) (List.all_eq_true.1 (rfl : ([.int .u8 (bl (hdr p) (2 + 0)), .int .u8 (bl (hdr p) (2 + 1)), .int .u8 (bl (hdr p) (2 + 2)), .int .u8 0, .int .u8 0, .int .u8 0, .int .u8 (bl (hdr p) (5 + 0)), .int .u8 (bl (hdr p) (5 + 1)), .int .u8 (bl (hdr p) (5 + 2)), .int .u8 (bl (hdr p) (5 + 3)), .int .u8 (bl (hdr p) (5 + 4)), .int .u8 (bl (hdr p) (5 + 5))] : List Value).all (fun u => u.oneCell') = true))) ?_
    simp only [Act.put]
    replace M := M.setPart [.int .u8 (bl (hdr p) (2 + 0)), .int .u8 (bl (hdr p) (2 + 1)), .int .u8 (bl (hdr p) (2 + 2)), .int .u8 0, .int .u8 0, .int .u8 0, .int .u8 (bl (hdr p) (5 + 0)), .int .u8 (bl (hdr p) (5 + 1)), .int .u8 (bl (hdr p) (5 + 2)), .int .u8 (bl (hdr p) (5 + 3)), .int .u8 (bl (hdr p) (5 + 4)), .int .u8 (bl (hdr p) (5 + 5))] 0 (Nat.le_of_ble_eq_true rfl)
    generalize w8.setCells B2 0 [.int .u8 (bl (hdr p) (2 + 0)), .int .u8 (bl (hdr p) (2 + 1)), .int .u8 (bl (hdr p) (2 + 2)), .int .u8 0, .int .u8 0, .int .u8 0, .int .u8 (bl (hdr p) (5 + 0)), .int .u8 (bl (hdr p) (5 + 1)), .int .u8 (bl (hdr p) (5 + 2)), .int .u8 (bl (hdr p) (5 + 3)), .int .u8 (bl (hdr p) (5 + 4)), .int .u8 (bl (hdr p) (5 + 5))] = w9 at M  ⊢
    replace M : Mm w ([(B2, [.int .u8 (bl (hdr p) (2 + 0)), .int .u8 (bl (hdr p) (2 + 1)), .int .u8 (bl (hdr p) (2 + 2)), .int .u8 0, .int .u8 0, .int .u8 0, .int .u8 (bl (hdr p) (5 + 0)), .int .u8 (bl (hdr p) (5 + 1)), .int .u8 (bl (hdr p) (5 + 2)), .int .u8 (bl (hdr p) (5 + 3)), .int .u8 (bl (hdr p) (5 + 4)), .int .u8 (bl (hdr p) (5 + 5))]), (B3, [.int .u8 (bl (hdr p) (2 + 0)), .int .u8 (bl (hdr p) (2 + 1)), .int .u8 (bl (hdr p) (2 + 2)), .int .u8 0, .int .u8 0, .int .u8 0, .int .u8 (bl (hdr p) (5 + 0)), .int .u8 (bl (hdr p) (5 + 1)), .int .u8 (bl (hdr p) (5 + 2)), .int .u8 (bl (hdr p) (5 + 3)), .int .u8 (bl (hdr p) (5 + 4)), .int .u8 (bl (hdr p) (5 + 5))]), (B6, [.int .u8 (bl (hdr p) 0), .int .u8 (bl (hdr p) 1), .int .u8 (bl (hdr p) 2), .int .u8 (bl (hdr p) 3), .int .u8 (bl (hdr p) 4), .int .u8 (bl (hdr p) 5), .int .u8 (bl (hdr p) 6), .int .u8 (bl (hdr p) 7), .int .u8 (bl (hdr p) 8), .int .u8 (bl (hdr p) 9), .int .u8 (bl (hdr p) 10)]), (B1, [.int .i64 p.kind, .int .i64 p.role, .int .i64 p.path, .int .i64 p.epo, .int .i64 p.ctr, .slice bp p.body.length bc])]) w9 := M
    first | show Exit.then _ _ _ _ _ | show Exit.inBlock _ _ _ _ _
    have hA : [.int .u8 (bl (hdr p) (2 + 0)), .int .u8 (bl (hdr p) (2 + 1)), .int .u8 (bl (hdr p) (2 + 2)), .int .u8 0, .int .u8 0, .int .u8 0, .int .u8 (bl (hdr p) (5 + 0)), .int .u8 (bl (hdr p) (5 + 1)), .int .u8 (bl (hdr p) (5 + 2)), .int .u8 (bl (hdr p) (5 + 3)), .int .u8 (bl (hdr p) (5 + 4)), .int .u8 (bl (hdr p) (5 + 5))] = row .u8 12 (bl (pno p)) := by rw [pno_rec hk]; rfl
    have c1_ := M.part List.mem_cons_self 0 [.int .u8 (bl (hdr p) (2 + 0)), .int .u8 (bl (hdr p) (2 + 1)), .int .u8 (bl (hdr p) (2 + 2)), .int .u8 0, .int .u8 0, .int .u8 0, .int .u8 (bl (hdr p) (5 + 0)), .int .u8 (bl (hdr p) (5 + 1)), .int .u8 (bl (hdr p) (5 + 2)), .int .u8 (bl (hdr p) (5 + 3)), .int .u8 (bl (hdr p) (5 + 4)), .int .u8 (bl (hdr p) (5 + 5))] rfl
    have hM := M.below
    clear M
    replace hA := show Hid _ from hA
    try clear hk
    try clear hR
    go_wp2
    refine bodyPost_ret (v := .agg (row .u8 12 (bl (pno p))).toArray) (by rw [← hA.out]; exact retCell 2 31 ⟨B2, 0, none⟩ [.int .u8 (bl (hdr p) (2 + 0)), .int .u8 (bl (hdr p) (2 + 1)), .int .u8 (bl (hdr p) (2 + 2)), .int .u8 0, .int .u8 0, .int .u8 0, .int .u8 (bl (hdr p) (5 + 0)), .int .u8 (bl (hdr p) (5 + 1)), .int .u8 (bl (hdr p) (5 + 2)), .int .u8 (bl (hdr p) (5 + 3)), .int .u8 (bl (hdr p) (5 + 4)), .int .u8 (bl (hdr p) (5 + 5))] rfl rfl (fun _ => by kernel_rfl) (fun _ => by kernel_rfl) c1_) rfl ?_
    exact ⟨rfl, hM⟩
  | false =>
    have hk : ¬ (p.kind = 3 ∧ pok p = true) := of_decide_eq_false (show prc p = false by simpa using hb)
    clear hb
    go_upto_region 7 with fail
    refine wp_region_list ?_
    refine readL (.agg #[.int .u8 0, .int .u8 0, .int .u8 0, .int .u8 0, .int .u8 0, .int .u8 0, .int .u8 0, .int .u8 0, .int .u8 0, .int .u8 0, .int .u8 0, .int .u8 0]) rfl (loadN 31 _ ⟨B3, 0, none⟩ [.int .u8 0, .int .u8 0, .int .u8 0, .int .u8 0, .int .u8 0, .int .u8 0, .int .u8 0, .int .u8 0, .int .u8 0, .int .u8 0, .int .u8 0, .int .u8 0] rfl rfl (fun _ => by kernel_rfl) (fun _ => by kernel_rfl) (M.rangeAt List.mem_cons_self)) ?_
    simp only [aP, lI, l0, lS]
    replace M := M.swap
    refine skipOpL rfl (storeP [.int .u8 0, .int .u8 0, .int .u8 0, .int .u8 0, .int .u8 0, .int .u8 0, .int .u8 0, .int .u8 0, .int .u8 0, .int .u8 0, .int .u8 0, .int .u8 0] B2 0 31 _ _ rfl rfl rfl (M.thereP List.mem_cons_self 0 12 (Nat.le_of_ble_eq_true rfl)) (by kernel_rfl) (List.all_eq_true.1 (rfl : ([.int .u8 0, .int .u8 0, .int .u8 0, .int .u8 0, .int .u8 0, .int .u8 0, .int .u8 0, .int .u8 0, .int .u8 0, .int .u8 0, .int .u8 0, .int .u8 0] : List Value).all (fun u => u.oneCell') = true))) ?_
    simp only [Act.put]
    replace M := M.setPart [.int .u8 0, .int .u8 0, .int .u8 0, .int .u8 0, .int .u8 0, .int .u8 0, .int .u8 0, .int .u8 0, .int .u8 0, .int .u8 0, .int .u8 0, .int .u8 0] 0 (Nat.le_of_ble_eq_true rfl)
    generalize w4.setCells B2 0 [.int .u8 0, .int .u8 0, .int .u8 0, .int .u8 0, .int .u8 0, .int .u8 0, .int .u8 0, .int .u8 0, .int .u8 0, .int .u8 0, .int .u8 0, .int .u8 0] = w10 at M  ⊢
    replace M : Mm w ([(B2, [.int .u8 0, .int .u8 0, .int .u8 0, .int .u8 0, .int .u8 0, .int .u8 0, .int .u8 0, .int .u8 0, .int .u8 0, .int .u8 0, .int .u8 0, .int .u8 0]), (B3, [.int .u8 0, .int .u8 0, .int .u8 0, .int .u8 0, .int .u8 0, .int .u8 0, .int .u8 0, .int .u8 0, .int .u8 0, .int .u8 0, .int .u8 0, .int .u8 0]), (B1, [.int .i64 p.kind, .int .i64 p.role, .int .i64 p.path, .int .i64 p.epo, .int .i64 p.ctr, .slice bp p.body.length bc])]) w10 := M
    first | show Exit.then _ _ _ _ _ | show Exit.inBlock _ _ _ _ _
    have hA : [.int .u8 0, .int .u8 0, .int .u8 0, .int .u8 0, .int .u8 0, .int .u8 0, .int .u8 0, .int .u8 0, .int .u8 0, .int .u8 0, .int .u8 0, .int .u8 0] = row .u8 12 (bl (pno p)) := by rw [pno_none hk]; rfl
    have c1_ := M.part List.mem_cons_self 0 [.int .u8 0, .int .u8 0, .int .u8 0, .int .u8 0, .int .u8 0, .int .u8 0, .int .u8 0, .int .u8 0, .int .u8 0, .int .u8 0, .int .u8 0, .int .u8 0] rfl
    have hM := M.below
    clear M
    replace hA := show Hid _ from hA
    try clear hk
    try clear hR
    go_wp2
    refine bodyPost_ret (v := .agg (row .u8 12 (bl (pno p))).toArray) (by rw [← hA.out]; exact retCell 2 31 ⟨B2, 0, none⟩ [.int .u8 0, .int .u8 0, .int .u8 0, .int .u8 0, .int .u8 0, .int .u8 0, .int .u8 0, .int .u8 0, .int .u8 0, .int .u8 0, .int .u8 0, .int .u8 0] rfl rfl (fun _ => by kernel_rfl) (fun _ => by kernel_rfl) c1_) rfl ?_
    exact ⟨rfl, hM⟩

set_option maxRecDepth 10000 in
set_option maxHeartbeats 32000000 in
theorem vprint_any : PrintOK := by
  intro p bp bc w hg hp
  have M := Mm.init w
  have fold : (.agg #[.int .i64 p.kind, .int .i64 p.role, .int .i64 p.path, .int .i64 p.epo, .int .i64 p.ctr, .slice bp p.body.length bc] : Value) = .agg (pcs p bp bc).toArray := rfl
  rw [← fold]
  go_enter Tryd.func9, Tryd.ntmps9
  go_upto_region 0 with fail
  refine wp_region_list ?_
  refine actL (w' := w.alloc (.cells #[.int .i64 p.kind, .int .i64 p.role, .int .i64 p.path, .int .i64 p.epo, .int .i64 p.ctr, .slice bp p.body.length bc] 24)) (.pointer (some ⟨w.heap.size, 0, none⟩)) rfl (by kernel_rfl) ?_
  simp only [aP, lI, l0, lS]
  have hB_B1 : w.heap.size ≤ w.heap.size := M.below.size
  replace M := M.box #[.int .i64 p.kind, .int .i64 p.role, .int .i64 p.path, .int .i64 p.epo, .int .i64 p.ctr, .slice bp p.body.length bc] 24 w.heap.size rfl
  generalize w.alloc (.cells #[.int .i64 p.kind, .int .i64 p.role, .int .i64 p.path, .int .i64 p.epo, .int .i64 p.ctr, .slice bp p.body.length bc] 24) = w1 at M  ⊢
  generalize eB : w.heap.size = B1 at M hB_B1  ⊢
  have hE_B1 : w.heap.size ≤ B1 := Nat.le_of_eq eB
  have hF_B1 : B1 ≤ w.heap.size := Nat.le_of_eq eB.symm
  clear eB
  replace M : Mm w ([(B1, [.int .i64 p.kind, .int .i64 p.role, .int .i64 p.path, .int .i64 p.epo, .int .i64 p.ctr, .slice bp p.body.length bc])]) w1 := M
  refine readL (.slice none 0 0) rfl (by kernel_rfl) ?_
  simp only [aP, lI, l0, lS]
  refine readL (.int .i64 0) rfl (by kernel_rfl) ?_
  simp only [aP, lI, l0, lS]
  first | show Exit.then _ _ _ _ _ | show Exit.inBlock _ _ _ _ _
  go_upto_region 1 with fail
  refine wp_region_list ?_
  refine readL (.agg #[.int .i64 p.kind, .int .i64 p.role, .int .i64 p.path, .int .i64 p.epo, .int .i64 p.ctr, .slice bp p.body.length bc]) rfl (loadN 24 _ ⟨B1, 0, none⟩ [.int .i64 p.kind, .int .i64 p.role, .int .i64 p.path, .int .i64 p.epo, .int .i64 p.ctr, .slice bp p.body.length bc] rfl rfl (fun _ => by kernel_rfl) (fun _ => by kernel_rfl) (M.rangeAt List.mem_cons_self)) ?_
  simp only [aP, lI, l0, lS]
  obtain ⟨b1, hb1⟩ : ∃ y_, y_ = (pok p) := ⟨_, rfl⟩
  have hC : Calls Tryd.prog 19 #[.agg #[.int .i64 p.kind, .int .i64 p.role, .int .i64 p.path, .int .i64 p.epo, .int .i64 p.ctr, .slice bp p.body.length bc]] w1 (fun e w' => e = .returned (.bool b1) ∧ Below w1.heap.size w1 w') := (by rw [hb1]; exact pmay_any p bp bc _)
  refine callL rfl (fun _ => by kernel_rfl) (hC) ?_
  rintro e w2 ⟨rfl, l⟩
  replace M := M.call l
  refine ⟨_, rfl, ?_⟩
  clear l hC
  simp only [aP, lI, l0, lS]
  obtain ⟨b2, hb2⟩ : ∃ y_, y_ = (!b1) := ⟨_, rfl⟩
  refine readL (.bool b2) rfl (by subst hb2; cases b1 <;> rfl) ?_
  simp only [aP, lI, l0, lS]
  refine readL (.bool b2) rfl (by kernel_rfl) ?_
  simp only [aP, lI, l0, lS]
  first | show Exit.then _ _ _ _ _ | show Exit.inBlock _ _ _ _ _
  have hb : b2 = !pok p := by rw [hb2, hb1]
  try clear hb1
  try clear hb2
  cases b2 with
  | true =>
    go_upto_region 2 with fail
    refine wp_region_list ?_
    refine readL (.slice none 0 0) rfl (by kernel_rfl) ?_
    simp only [aP, lI, l0, lS]
    refine readL (.int .i64 110) rfl (by kernel_rfl) ?_
    simp only [aP, lI, l0, lS]
    first | show Exit.then _ _ _ _ _ | show Exit.inBlock _ _ _ _ _
    have hok : pok p = false := by simpa using hb
    have hA : pE p = 110 ∧ pL p = [] := by unfold pE pL; rw [hok]; exact ⟨rfl, rfl⟩
    replace hA := show Hid _ from hA
    clear hb hok
    go_wp2
    go_ret2
    exact ⟨⟨_, by rw [hA.out.1]; rfl, by rw [hA.out.2]; exact World.ownsRow_nil _ _ _ 1⟩, M.below⟩
  | false =>
    have hok : pok p = true := by simpa using hb
    have hlen : p.body.length ≤ 300 := by rcases (pok_iff p).1 hok with h | h; exact h.2.1.2; have := h.2.2.2.2.2; omega
    have hA : pE p = 0 ∧ pL p = pby p := by unfold pE pL; rw [if_pos hok, if_pos hok]; exact ⟨rfl, rfl⟩
    clear hb
    by_cases h3 : p.kind = 3
    · have hh : phd p = hdr p := phd_rec h3 hok
      have hhl := hdr_length p
      go_upto_region 3 with fail
      refine wp_region_list ?_
      refine readL (.pointer (some ⟨B1, 0, none⟩)) rfl (by kernel_rfl) ?_
      simp only [aP, lI, l0, lS]
      refine readL (.int .i64 p.kind) rfl (load1 3 _ ⟨B1, 0, none⟩ _ rfl rfl (fun _ => by kernel_rfl) (M.get List.mem_cons_self 0 _ rfl)) ?_
      simp only [aP, lI, l0, lS]
      refine readL (.bool true) rfl (eqlI .i64 _ _ _ _ _ _ rfl rfl rfl true (by rw [h3]; rfl) _) ?_
      simp only [aP, lI, l0, lS]
      refine readL (.bool true) rfl (by kernel_rfl) ?_
      simp only [aP, lI, l0, lS]
      first | show Exit.then _ _ _ _ _ | show Exit.inBlock _ _ _ _ _
      go_upto_region 4 with fail
      refine wp_region_held_drew (S := fun w' => Mm w [(B1, [.int .i64 p.kind, .int .i64 p.role, .int .i64 p.path, .int .i64 p.epo, .int .i64 p.ctr, .slice bp p.body.length bc])] w') (by kernel_rfl) M.drew ?_
      clear M
      intro M
      generalize w2.drew = w3 at M  ⊢
      refine readH (i := 0) (some 12) rfl (.agg #[.int .i64 p.kind, .int .i64 p.role, .int .i64 p.path, .int .i64 p.epo, .int .i64 p.ctr, .slice bp p.body.length bc]) rfl rfl (fun _ M => loadN 24 _ ⟨B1, 0, none⟩ [.int .i64 p.kind, .int .i64 p.role, .int .i64 p.path, .int .i64 p.epo, .int .i64 p.ctr, .slice bp p.body.length bc] rfl rfl (fun _ => by kernel_rfl) (fun _ => by kernel_rfl) (M.rangeAt List.mem_cons_self)) (by kernel_rfl) (by kernel_rfl) (by kernel_rfl) (fun _ _ _ h => h) M ?_
      simp only [aP, lI, l0, lS]
      refine readH (i := 2) (some 14) rfl (.pointer (some ⟨B1, 5, none⟩)) rfl rfl (fun _ M => (by kernel_rfl)) (by kernel_rfl) (by kernel_rfl) (by kernel_rfl) (fun _ _ _ h => h) M ?_
      simp only [aP, lI, l0, lS]
      refine readH (i := 3) (some 15) rfl (.slice bp p.body.length bc) rfl rfl (fun _ M => load1 22 _ ⟨B1, 5, none⟩ _ rfl rfl (fun _ => by kernel_rfl) (M.get List.mem_cons_self 5 _ rfl)) (by kernel_rfl) (by kernel_rfl) (by kernel_rfl) (fun _ _ _ h => h) M ?_
      simp only [aP, lI, l0, lS]
      refine callH (i := 1) (some 13) rfl (by kernel_rfl) rfl rfl (fun _ => by kernel_rfl) (vhead_any p bp bc _ (hg.mm M) (hp.below M.below (Nat.le_refl _))) ?_
      rintro e w4 ⟨⟨v, rfl, O_1⟩, l⟩
      replace M := M.call l
      clear l
      rw [hh] at O_1
      obtain ⟨p1, c1, rfl, _, _⟩ := O_1.bytes
      refine ⟨_, rfl, M, ?_⟩
      simp only [aP, lI, l0, lS]
      have HC := catIn2 w4.heap.size p1 bp ((hdr p).length) p.body.length c1 bc (bl (hdr p)) (bl p.body) 22 rfl O_1.src (hp.src.below M.below (Nat.le_refl _)) O_1.nilCap hp.nil
      have hlb := (Below.refl w4.heap.size w4).alloc (Nat.le_refl _) (.cells #[.slice p1 ((hdr p).length) c1, .slice bp p.body.length bc] 22)
      refine onlyH (i := 4) (some 16) rfl (.slice (some ⟨w4.heap.size, 0, none⟩) 2 2) (by kernel_rfl) rfl rfl (by kernel_rfl) (M.call hlb) ?_
      simp only [aP, lI, l0, lS]
      replace M := M.call hlb
      clear hlb O_1
      generalize hC : w4.heap.size = C at HC ⊢
      clear hC
      generalize (w4.alloc (.cells #[.slice p1 ((hdr p).length) c1, .slice bp p.body.length bc] 22)) = w5 at M HC ⊢
      refine callH (i := 5) (some 17) rfl (by kernel_rfl) rfl rfl (fun _ => by kernel_rfl) (concat_any ⟨C, 0, none⟩ 2 2 _ _ _ _ (by decide) (by rw [tot2]; omega) _ HC) ?_
      rintro e w6 ⟨v, rfl, hO, l⟩
      rw [tot2] at hO
      have O_9 : OwnL w6 w.heap.size (hdr p ++ p.body) v := OwnL.app ((hO.congr fun j _ => catz2 _ _ _ _ j).lower M.below.size)
      replace M := M.call l
      clear l hO HC
      refine ⟨_, rfl, M, ?_⟩
      simp only [aP, lI, l0, lS]
      refine readH (i := 6) (some 2) rfl (v) rfl rfl (fun _ M => (by kernel_rfl)) (by kernel_rfl) (by kernel_rfl) (by kernel_rfl) (fun _ _ _ h => h) M ?_
      simp only [aP, lI, l0, lS]
      refine readH (i := 7) (some 3) rfl (.int .i64 0) rfl rfl (fun _ M => (by kernel_rfl)) (by kernel_rfl) (by kernel_rfl) (by kernel_rfl) (fun _ _ _ h => h) M ?_
      simp only [aP, lI, l0, lS]
      refine wpAnyH_done (by kernel_rfl) ?_ _
      first | show Exit.then _ _ _ _ _ | show Exit.inBlock _ _ _ _ _
      have hB : (hdr p ++ p.body) = pby p := by unfold pby; rw [if_pos h3]
      replace hA := show Hid _ from hA
      replace hB := show Hid _ from hB
      clear hok hlen hh hhl h3
      go_wp2
      go_ret2
      exact ⟨⟨_, by rw [hA.out.1]; rfl, by rw [hA.out.2, ← hB.out]; exact O_9⟩, M.below⟩
    · have hk : 1 ≤ p.kind ∧ p.kind ≤ 2 := by rcases (pok_iff p).1 hok with h | h; have := h.1; omega; exact absurd h.1 h3
      go_upto_region 3 with fail
      refine wp_region_list ?_
      refine readL (.pointer (some ⟨B1, 0, none⟩)) rfl (by kernel_rfl) ?_
      simp only [aP, lI, l0, lS]
      refine readL (.int .i64 p.kind) rfl (load1 3 _ ⟨B1, 0, none⟩ _ rfl rfl (fun _ => by kernel_rfl) (M.get List.mem_cons_self 0 _ rfl)) ?_
      simp only [aP, lI, l0, lS]
      refine readL (.bool false) rfl (eqlI .i64 _ _ _ _ _ _ rfl rfl rfl false (by simpa using h3) _) ?_
      simp only [aP, lI, l0, lS]
      refine readL (.bool false) rfl (by kernel_rfl) ?_
      simp only [aP, lI, l0, lS]
      first | show Exit.then _ _ _ _ _ | show Exit.inBlock _ _ _ _ _
      go_upto_region 5 with fail
      refine wp_region_list ?_
      refine readL (.pointer (some ⟨B1, 0, none⟩)) rfl (by kernel_rfl) ?_
      simp only [aP, lI, l0, lS]
      refine readL (.int .i64 p.kind) rfl (load1 3 _ ⟨B1, 0, none⟩ _ rfl rfl (fun _ => by kernel_rfl) (M.get List.mem_cons_self 0 _ rfl)) ?_
      simp only [aP, lI, l0, lS]
      refine readL (.int .u8 p.kind) rfl (convI .i64 .u8 _ _ _ _ _ rfl (by kernel_rfl) Tryd.underlying5 (by kernel_rfl) rfl (by rw [IntKind.wrap_u8]; omega) _) ?_
      simp only [aP, lI, l0, lS]
      refine actL (w' := w2.alloc (.cells #[.int .u8 p.kind] 5)) (.slice (some ⟨w2.heap.size, 0, none⟩) 1 1) rfl (by kernel_rfl) ?_
      simp only [aP, lI, l0, lS]
      have O_1 : OwnL (w2.alloc (.cells #[.int .u8 p.kind] 5)) w.heap.size [p.kind] (.slice (some ⟨w2.heap.size, 0, none⟩) 1 1) := Own.lit w2 w.heap.size 5 .u8 1 (bl [p.kind]) M.below.size (by unfold maxLen; omega)
      replace M := M.call ((Below.refl w2.heap.size w2).alloc (Nat.le_refl _) (.cells #[.int .u8 p.kind] 5))
      generalize w2.alloc (.cells #[.int .u8 p.kind] 5) = w7 at M O_1 ⊢
      generalize (some ⟨w2.heap.size, 0, none⟩ : Option Addr) = p1 at O_1 ⊢
      refine readL (.pointer (some ⟨B1, 5, none⟩)) rfl (by kernel_rfl) ?_
      simp only [aP, lI, l0, lS]
      refine readL (.slice bp p.body.length bc) rfl (load1 22 _ ⟨B1, 5, none⟩ _ rfl rfl (fun _ => by kernel_rfl) (M.get List.mem_cons_self 5 _ rfl)) ?_
      simp only [aP, lI, l0, lS]
      have HC := catIn2 w7.heap.size p1 bp 1 p.body.length 1 bc (bl ([p.kind])) (bl p.body) 22 rfl O_1.src (hp.src.below M.below (Nat.le_refl _)) O_1.nilCap hp.nil
      have hlb := (Below.refl w7.heap.size w7).alloc (Nat.le_refl _) (.cells #[.slice p1 1 1, .slice bp p.body.length bc] 22)
      refine actL (w' := (w7.alloc (.cells #[.slice p1 1 1, .slice bp p.body.length bc] 22))) (.slice (some ⟨w7.heap.size, 0, none⟩) 2 2) rfl (by kernel_rfl) ?_
      simp only [aP, lI, l0, lS]
      replace M := M.call hlb
      clear hlb O_1
      generalize hC : w7.heap.size = C at HC ⊢
      clear hC
      generalize (w7.alloc (.cells #[.slice p1 1 1, .slice bp p.body.length bc] 22)) = w8 at M HC ⊢
      refine callL rfl (fun _ => by kernel_rfl) (concat_any ⟨C, 0, none⟩ 2 2 _ _ _ _ (by decide) (by rw [tot2]; omega) _ HC) ?_
      rintro e w9 ⟨v, rfl, hO, l⟩
      rw [tot2] at hO
      have O_9 : OwnL w9 w.heap.size ([p.kind] ++ p.body) v := OwnL.app ((hO.congr fun j _ => catz2 _ _ _ _ j).lower M.below.size)
      replace M := M.call l
      clear l hO HC
      refine ⟨_, rfl, ?_⟩
      simp only [aP, lI, l0, lS]
      refine readL (v) rfl (by kernel_rfl) ?_
      simp only [aP, lI, l0, lS]
      refine readL (.int .i64 0) rfl (by kernel_rfl) ?_
      simp only [aP, lI, l0, lS]
      first | show Exit.then _ _ _ _ _ | show Exit.inBlock _ _ _ _ _
      have hB : ([p.kind] ++ p.body) = pby p := by unfold pby; rw [if_neg h3]; rfl
      replace hA := show Hid _ from hA
      replace hB := show Hid _ from hB
      clear hok hlen hk h3
      go_wp2
      go_ret2
      exact ⟨⟨_, by rw [hA.out.1]; rfl, by rw [hA.out.2, ← hB.out]; exact O_9⟩, M.below⟩
end Go.Proofs.YtbhhboiofepnhaaDoor

namespace Go.Proofs.YtbhhboiofepnhaaDoor
open Go.RowKit

def TakeFO (len : Nat) (z : Nat → Int) (s : Int) (B : Nat) (e : Ending) (w' : World) : Prop := ∃ v, e = .returned (.tuple #[.int .i64 (gN len z s), v, .int .i64 (gE len s)]) ∧ Own w' B 5 .u8 (gL len s) (fun j => z (s.toNat + j)) v
def TakeFixedOw : Prop := ∀ (sp : Option Addr) (len cap : Nat), len ≤ 140737488351240 → len ≤ cap → (sp = none → cap = 0) → ∀ z : Nat → Int, In 256 len z → ∀ s : Int, (-9223372036854775808 ≤ s ∧ s < 9223372036854775808) → ∀ w : World, Src w sp len z → Calls Tryd.prog 30 #[.slice sp len cap, .int .i64 s] w fun e w' => TakeFO len z s w.heap.size e w' ∧ Below w.heap.size w w'
set_option maxRecDepth 10000 in
set_option maxHeartbeats 8000000 in
theorem vtakefixed_own : TakeFixedOw := by
  intro sp len cap hlen hcap hnil z hz s hs2 w hs
  go_enter Tryd.func30, Tryd.ntmps30
  by_cases hsz' : 1 ≤ s ∧ s ≤ 7
  · have hsz : decide (1 ≤ s ∧ s ≤ 7) = true := decide_eq_true hsz'
    have hgE : gE len s = if (len : Int) < s then 3 else 0 := by unfold gE; rw [if_neg (by omega)]
    go_upto_region 1 with fail
    refine wp_region_list ?_
    refine pureL (.int .i64 s) rfl (fun _ => by kernel_rfl) ?_
    simp only [aP, lI, l0, lS]
    refine callL rfl (fun _ => by kernel_rfl) (isSize_any s _) ?_
    rintro e w1 ⟨rfl, hB⟩
    rw [hsz]
    refine ⟨_, rfl, ?_⟩
    simp only [aP, lI, l0, lS]
    refine pureL (.bool false) rfl (fun _ => by kernel_rfl) ?_
    simp only [aP, lI, l0, lS]
    show Exit.then _ _ _ _ _
    clear hsz
    obtain ⟨s, rfl⟩ := Int.eq_ofNat_of_zero_le (show 0 ≤ s by omega)
    go_upto_region 3 with fail
    refine wp_region_list ?_
    refine pureL (.slice sp len cap) rfl (fun _ => by kernel_rfl) ?_
    simp only [aP, lI, l0, lS]
    refine callL rfl (fun _ => by kernel_rfl) (along_any sp len cap hcap hnil z _ (hs.below hB (Nat.le_refl _))) ?_
    rintro e w2 ⟨B, rfl, T⟩
    refine ⟨_, rfl, ?_⟩
    simp only [aP, lI, l0, lS]
    refine pureL (.tuple #[(.func (.func 35) #[] #[.pointer (some ⟨B, 0, none⟩)]), (.func (.func 36) #[] #[.pointer (some ⟨B, 0, none⟩)])]) rfl (fun _ => by kernel_rfl) ?_
    simp only [aP, lI, l0, lS]
    refine pureL (.func (.func 35) #[] #[.pointer (some ⟨B, 0, none⟩)]) rfl (fun _ => by kernel_rfl) ?_
    simp only [aP, lI, l0, lS]
    refine pureL (.func (.func 36) #[] #[.pointer (some ⟨B, 0, none⟩)]) rfl (fun _ => by kernel_rfl) ?_
    simp only [aP, lI, l0, lS]
    refine pureL (.func (.func 35) #[] #[.pointer (some ⟨B, 0, none⟩)]) rfl (fun _ => by kernel_rfl) ?_
    simp only [aP, lI, l0, lS]
    refine pureL (.func (.func 36) #[] #[.pointer (some ⟨B, 0, none⟩)]) rfl (fun _ => by kernel_rfl) ?_
    simp only [aP, lI, l0, lS]
    show Exit.then _ _ _ _ _
    go_upto_region 4 with fail
    refine wp_region_list ?_
    refine pureL (.func (.func 35) #[] #[.pointer (some ⟨B, 0, none⟩)]) rfl (fun _ => by kernel_rfl) ?_
    simp only [aP, lI, l0, lS]
    refine pureL (.int .i64 (s : Int)) rfl (fun _ => by kernel_rfl) ?_
    simp only [aP, lI, l0, lS]
    refine callL rfl (fun _ => by kernel_rfl) (next_any w1 B len z s _ T) ?_
    intro e w3 h
    clear T
    rcases h with ⟨h1, rfl, T⟩ | ⟨h1, dp, dc, rfl, hdc, hdn, hds, T⟩
    · have hE : gE len (s : Int) = 3 := by rw [hgE, if_pos (by omega)]
      have hN : gN len z (s : Int) = 0 := by unfold gN; rw [hE]; rfl
      have hL : gL len (s : Int) = 0 := by unfold gL; rw [hE]; rfl
      replace hB := hB.trans (T.below.mono hB.size)
      refine ⟨_, rfl, ?_⟩
      simp only [aP, lI, l0, lS]
      refine pureL (.tuple #[(.slice none 0 0), .bool false]) rfl (fun _ => by kernel_rfl) ?_
      simp only [aP, lI, l0, lS]
      refine pureL (.slice none 0 0) rfl (fun _ => by kernel_rfl) ?_
      simp only [aP, lI, l0, lS]
      refine pureL (.bool false) rfl (fun _ => by kernel_rfl) ?_
      simp only [aP, lI, l0, lS]
      refine pureL (.slice none 0 0) rfl (fun _ => by kernel_rfl) ?_
      simp only [aP, lI, l0, lS]
      refine pureL (.bool false) rfl (fun _ => by kernel_rfl) ?_
      simp only [aP, lI, l0, lS]
      show Exit.then _ _ _ _ _
      go_upto_region 5 with fail
      refine wp_region_list ?_
      refine pureL (.bool false) rfl (fun _ => by kernel_rfl) ?_
      simp only [aP, lI, l0, lS]
      refine pureL (.bool true) rfl (fun _ => by kernel_rfl) ?_
      simp only [aP, lI, l0, lS]
      show Exit.then _ _ _ _ _
      have hA := show Hid _ from (And.intro hN (And.intro hL hE))
      clear hN hL hE
      go_wp2
      refine bodyPost_ret (results_tmp3 Tryd.results30 _ _ _) rfl ?_
      exact ⟨⟨.slice none 0 0, by rw [hA.out.1, hA.out.2.2]; rfl, by rw [hA.out.2.1]; exact World.ownsRow_nil _ _ _ 1⟩, hB⟩
    · have hE : gE len (s : Int) = 0 := by rw [hgE, if_neg (by omega)]
      have hN : gN len z (s : Int) = fV z s := by unfold gN; rw [if_pos hE, Int.toNat_natCast]
      have hL : gL len (s : Int) = len - s := by unfold gL; rw [if_pos hE, Int.toNat_natCast]
      refine ⟨_, rfl, ?_⟩
      simp only [aP, lI, l0, lS]
      refine pureL (.tuple #[(.slice dp s dc), .bool true]) rfl (fun _ => by kernel_rfl) ?_
      simp only [aP, lI, l0, lS]
      refine pureL (.slice dp s dc) rfl (fun _ => by kernel_rfl) ?_
      simp only [aP, lI, l0, lS]
      refine pureL (.bool true) rfl (fun _ => by kernel_rfl) ?_
      simp only [aP, lI, l0, lS]
      refine pureL (.slice dp s dc) rfl (fun _ => by kernel_rfl) ?_
      simp only [aP, lI, l0, lS]
      refine pureL (.bool true) rfl (fun _ => by kernel_rfl) ?_
      simp only [aP, lI, l0, lS]
      show Exit.then _ _ _ _ _
      go_upto_region 5 with fail
      refine wp_region_list ?_
      refine pureL (.bool true) rfl (fun _ => by kernel_rfl) ?_
      simp only [aP, lI, l0, lS]
      refine pureL (.bool false) rfl (fun _ => by kernel_rfl) ?_
      simp only [aP, lI, l0, lS]
      show Exit.then _ _ _ _ _
      go_upto_region 7 with fail
      refine wp_region_list ?_
      refine pureL (.slice dp s dc) rfl (fun _ => by kernel_rfl) ?_
      simp only [aP, lI, l0, lS]
      refine callL rfl (fun _ => by kernel_rfl) (vjoin_any 0 (by decide) dp s dc (by omega) z (fun j hj => hz j (by omega)) _ (hds.below T.below (Nat.le_refl _))) ?_
      rintro e w4 ⟨rfl, l⟩
      rw [jV_zero z s]
      replace T := T.call l
      clear l
      refine ⟨_, rfl, ?_⟩
      simp only [aP, lI, l0, lS]
      refine pureL (.func (.func 36) #[] #[.pointer (some ⟨B, 0, none⟩)]) rfl (fun _ => by kernel_rfl) ?_
      simp only [aP, lI, l0, lS]
      replace hB := hB.trans (T.below.mono hB.size)
      refine callL rfl (fun _ => by kernel_rfl) (left_any w1 B _ (by omega) _ _ T) ?_
      rintro e w5 ⟨v, rfl, hO, l⟩
      obtain ⟨rp, rc, rfl, _, _⟩ := hO.bytes
      replace hO := hO.lower hB.size
      replace hB := hB.trans (l.mono hB.size)
      clear T l
      refine ⟨_, rfl, ?_⟩
      simp only [aP, lI, l0, lS]
      refine pureL (.int .i64 (fV z s)) rfl (fun _ => by kernel_rfl) ?_
      simp only [aP, lI, l0, lS]
      refine pureL (.slice rp (len - s) rc) rfl (fun _ => by kernel_rfl) ?_
      simp only [aP, lI, l0, lS]
      refine pureL (.int .i64 0) rfl (fun _ => by kernel_rfl) ?_
      simp only [aP, lI, l0, lS]
      show Exit.then _ _ _ _ _
      have hA := show Hid _ from (And.intro hN (And.intro hL hE))
      clear hN hL hE hgE
      go_wp2
      refine bodyPost_ret (results_tmp3 Tryd.results30 _ _ _) rfl ?_
      exact ⟨⟨_, by rw [hA.out.1, hA.out.2.2]; rfl, by rw [hA.out.2.1]; exact hO⟩, hB⟩
  · have hsz : decide (1 ≤ s ∧ s ≤ 7) = false := decide_eq_false hsz'
    have hE : gE len s = 1 := by unfold gE; rw [if_pos (by omega)]
    have hN : gN len z s = 0 := by unfold gN; rw [hE]; rfl
    have hL : gL len s = 0 := by unfold gL; rw [hE]; rfl
    go_upto_region 1 with fail
    refine wp_region_list ?_
    refine pureL (.int .i64 s) rfl (fun _ => by kernel_rfl) ?_
    simp only [aP, lI, l0, lS]
    refine callL rfl (fun _ => by kernel_rfl) (isSize_any s _) ?_
    rintro e w1 ⟨rfl, hB⟩
    rw [hsz]
    refine ⟨_, rfl, ?_⟩
    simp only [aP, lI, l0, lS]
    refine pureL (.bool true) rfl (fun _ => by kernel_rfl) ?_
    simp only [aP, lI, l0, lS]
    show Exit.then _ _ _ _ _
    have hA := show Hid _ from (And.intro hN (And.intro hL hE))
    clear hN hL hE
    go_wp2
    refine bodyPost_ret (results_tmp3 Tryd.results30 _ _ _) rfl ?_
    exact ⟨⟨.slice none 0 0, by rw [hA.out.1, hA.out.2.2]; rfl, by rw [hA.out.2.1]; exact World.ownsRow_nil _ _ _ 1⟩, hB⟩

end Go.Proofs.YtbhhboiofepnhaaDoor
