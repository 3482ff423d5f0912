/- Texts of Vz Vo Qf Qh Ob Qj Qm Qn Qo LawFramesBack Oc Pc Qr Qs, joined. -/
import Derived.Test.YteaamgjlkohfcaaP1FramesBack
import Derived.BigQuiet
import Derived.Deep.Cut
import Derived.OwnWalk
import Derived.Defers
import Derived.Recover
namespace Go.Proofs.Yteaamgjlkohfcaa
open Go.RowKit

/-- One of two. -/
def pk2 {α : Type} (a b : α) : Nat → α
  | 0 => a
  | _ => b
theorem tot2 (a b : Nat) : tot (pk2 a b) 2 = a + b := by show 0 + a + b = _; omega
theorem catIn2 {w : World} (C : Nat) (p1 p2 : Option Addr) (l1 l2 c1 c2 : Nat) (z1 z2 : Nat → Int) (t : TypeId) (hC : C = w.heap.size) (h1 : Src w p1 l1 z1) (h2 : Src w p2 l2 z2) (n1 : p1 = none → c1 = 0) (n2 : p2 = none → c2 = 0) :
    CatIn (w.alloc (.cells #[.slice p1 l1 c1, .slice p2 l2 c2] t)) ⟨C, 0, none⟩ 2 (pk2 p1 p2) (pk2 l1 l2) (pk2 c1 c2) (pk2 z1 z2) := by
  have hb := (Below.refl w.heap.size w).alloc (Nat.le_refl _) (.cells #[.slice p1 l1 c1, .slice p2 l2 c2] t)
  refine ⟨fun j hj => ?_, fun j hj => ?_, fun j hj => ?_⟩
  · rw [Addr.add_mid, World.cell?_alloc_at _ _ _ _ hC]
    match j, hj with
    | 0, _ | 1, _ => rfl
    | _ + 2, h => omega
  · match j, hj with
    | 0, _ => exact h1.below hb (Nat.le_refl _)
    | 1, _ => exact h2.below hb (Nat.le_refl _)
    | _ + 2, h => omega
  · match j, hj with
    | 0, _ => exact n1
    | 1, _ => exact n2
    | _ + 2, h => omega
theorem catz2 (a b : Nat) (z1 z2 : Nat → Int) (j : Nat) : catz (pk2 a b) (pk2 z1 z2) 2 j = app z1 a z2 j := by
  show app (app (fun _ => 0) 0 z1) (0 + a) z2 j = app z1 a z2 j
  unfold app
  rw [Nat.zero_add]
  by_cases h : j < a
  · rw [if_pos h, if_pos h, if_neg (Nat.not_lt_zero j), Nat.sub_zero]
  · rw [if_neg h, if_neg h]
theorem catz3 (a b c : Nat) (z1 z2 z3 : Nat → Int) (j : Nat) : catz (pk3 a b c) (pk3 z1 z2 z3) 3 j = app (app z1 a z2) (a + b) z3 j := by
  show app (app (app (fun _ => 0) 0 z1) (0 + a) z2) (0 + a + b) z3 j = app (app z1 a z2) (a + b) z3 j
  rw [Nat.zero_add]
  unfold app
  by_cases h : j < a + b
  · rw [if_pos h, if_pos h]
    by_cases h' : j < a
    · rw [if_pos h', if_pos h', if_neg (Nat.not_lt_zero j), Nat.sub_zero]
    · rw [if_neg h', if_neg h']
  · rw [if_neg h, if_neg h]

set_option maxRecDepth 10000 in
set_option maxHeartbeats 8000000 in
theorem vputvar_any : PutVarOK := by
  intro sp len cap hlen hcap hnil z hz n hn w hs
  have hB := Below.refl w.heap.size w
  by_cases hb : vbad n
  · have e1 : vE n = 1 := by unfold vE; rw [if_pos hb]
    have e2 : vL len n = 0 := by unfold vL; rw [if_pos hb]
    unfold vbad at hb
    have fin : PutV len z n w.heap.size (.returned (.tuple #[.slice none 0 0, .int .i64 1])) w := ⟨_, by rw [e1], by rw [e2]; exact World.ownsRow_nil w _ _ 1⟩
    by_cases h1 : n < 0
    · clear hb hn
      go_enter Try.func39, Try.ntmps39
      go_wp2
      go_ret2
      exact ⟨fin, hB⟩
    · have h2 : 4611686018427387903 < n := by omega
      have h2' : 4611686018427387904 ≤ n := by omega
      clear hb hn
      go_enter Try.func39, Try.ntmps39
      go_wp2
      go_ret2
      exact ⟨fin, hB⟩
  · have e1 : vE n = 0 := by unfold vE; rw [if_neg hb]
    have e2 : vL len n = len + vsz n.toNat := by unfold vL; rw [if_neg hb]
    have e3 : vput len z n = app z len (vby n.toNat) := rfl
    unfold vbad at hb
    obtain ⟨n, rfl⟩ := Int.eq_ofNat_of_zero_le (show 0 ≤ n by omega)
    rw [Int.toNat_natCast] at e2 e3
    have h1 : ¬ (n : Int) < 0 := by omega
    have h2 : ¬ 4611686018427387903 < (n : Int) := by omega
    have h2' : ¬ 4611686018427387904 ≤ (n : Int) := by omega
    have hv8 := vsz_le n
    go_enter Try.func39, Try.ntmps39
    go_upto_region 3 with fail
    clear h1 h2 h2'
    refine wp_region_list ?_
    refine pureL (.slice sp len cap) rfl (fun _ => by kernel_rfl) ?_
    simp only [aP, lI, l0, lS]
    refine pureL (.int .i64 (n : Int)) rfl (fun _ => by kernel_rfl) ?_
    simp only [aP, lI, l0, lS]
    refine callL rfl (fun _ => by kernel_rfl) (least_any n (by omega) _) ?_
    rintro e w1 ⟨B, rfl, hS, hB⟩
    refine ⟨_, rfl, ?_⟩
    simp only [aP, lI, l0, lS]
    refine actL (w' := w1.alloc (.cells #[.slice sp len cap, .slice (some ⟨B, 8 - vsz n, none⟩) (vsz n) (vsz n)] 23)) (.slice (some ⟨w1.heap.size, 0, none⟩) 2 2) rfl (by kernel_rfl) ?_
    simp only [aP, lI, l0, lS]
    have HC := catIn2 w1.heap.size sp (some ⟨B, 8 - vsz n, none⟩) len (vsz n) cap (vsz n) z (vby n) 23 rfl (hs.below hB (Nat.le_refl _)) hS hnil (fun e => by cases e)
    replace hB := hB.alloc hB.size (.cells #[.slice sp len cap, .slice (some ⟨B, 8 - vsz n, none⟩) (vsz n) (vsz n)] 23)
    refine callL rfl (fun _ => by kernel_rfl) (concat_any ⟨w1.heap.size, 0, none⟩ 2 2 _ _ _ _ (by decide) (by rw [tot2]; omega) _ HC) ?_
    rintro e w2 ⟨v, rfl, hO, hb⟩
    rw [tot2] at hO
    have hO2 : Own w2 w.heap.size 5 .u8 (len + vsz n) (app z len (vby n)) v := (hO.congr fun j _ => catz2 _ _ _ _ j).lower hB.size
    replace hB := hB.trans (hb.mono hB.size)
    clear hO hb HC hS
    refine ⟨_, rfl, ?_⟩
    simp only [aP, lI, l0, lS]
    refine pureL v rfl (fun _ => by kernel_rfl) ?_
    simp only [aP, lI, l0, lS]
    refine pureL (.int .i64 0) rfl (fun _ => by kernel_rfl) ?_
    simp only [aP, lI, l0, lS]
    show Exit.then _ _ _ _ _
    go_wp2
    go_ret2
    exact ⟨⟨v, by rw [e1]; rfl, by rw [e2, e3]; exact hO2⟩, hB⟩

set_option maxRecDepth 10000 in
set_option maxHeartbeats 8000000 in
theorem vputbytes_any : PutBytesOK := by
  intro sp len cap hlen hcap hnil z hz tp tl tc htl htc htn x hx hsum w hs ht
  have hv8 := vsz_le tl
  go_enter Try.func31, Try.ntmps31
  go_upto_region 1 with fail
  refine wp_region_list ?_
  refine pureL (.slice sp len cap) rfl (fun _ => by kernel_rfl) ?_
  simp only [aP, lI, l0, lS]
  refine pureL (.slice tp tl tc) rfl (fun _ => by kernel_rfl) ?_
  simp only [aP, lI, l0, lS]
  refine pureL (.int .i64 (tl : Int)) rfl (fun w => lenS _ 23 5 (tp) (tl) (tc) rfl Try.underlying23 rfl w) ?_
  simp only [aP, lI, l0, lS]
  refine callL rfl (fun _ => by kernel_rfl) (least_any tl (by omega) _) ?_
  rintro e w1 ⟨B, rfl, hS, hB⟩
  refine ⟨_, rfl, ?_⟩
  simp only [aP, lI, l0, lS]
  refine pureL (.slice tp tl tc) rfl (fun _ => by kernel_rfl) ?_
  simp only [aP, lI, l0, lS]
  refine actL (w' := w1.alloc (.cells #[.slice sp len cap, .slice (some ⟨B, 8 - vsz tl, none⟩) (vsz tl) (vsz tl), .slice tp tl tc] 23)) (.slice (some ⟨w1.heap.size, 0, none⟩) 3 3) rfl (by kernel_rfl) ?_
  simp only [aP, lI, l0, lS]
  have HC := catIn3 w1.heap.size sp (some ⟨B, 8 - vsz tl, none⟩) tp len (vsz tl) tl cap (vsz tl) tc z (vby tl) x 23 rfl (hs.below hB (Nat.le_refl _)) hS (ht.below hB (Nat.le_refl _)) hnil (fun e => by cases e) htn
  replace hB := hB.alloc hB.size (.cells #[.slice sp len cap, .slice (some ⟨B, 8 - vsz tl, none⟩) (vsz tl) (vsz tl), .slice tp tl tc] 23)
  refine callL rfl (fun _ => by kernel_rfl) (concat_any ⟨w1.heap.size, 0, none⟩ 3 3 _ _ _ _ (by decide) (by rw [tot3]; omega) _ HC) ?_
  rintro e w2 ⟨v, rfl, hO, hb⟩
  rw [tot3] at hO
  have hO2 : Own w2 w.heap.size 5 .u8 (len + vsz tl + tl) (app (app z len (vby tl)) (len + vsz tl) x) v := (hO.congr fun j _ => catz3 _ _ _ _ _ _ j).lower hB.size
  replace hB := hB.trans (hb.mono hB.size)
  clear hO hb HC hS
  refine ⟨_, rfl, ?_⟩
  simp only [aP, lI, l0, lS]
  refine pureL v rfl (fun _ => by kernel_rfl) ?_
  simp only [aP, lI, l0, lS]
  refine pureL (.int .i64 0) rfl (fun _ => by kernel_rfl) ?_
  simp only [aP, lI, l0, lS]
  show Exit.then _ _ _ _ _
  go_wp2
  go_ret2
  exact ⟨⟨v, rfl, hO2⟩, hB⟩

end Go.Proofs.Yteaamgjlkohfcaa

namespace Go.Proofs.Yteaamgjlkohfcaa
open Go.RowKit

def TakeVO (len : Nat) (z : Nat → Int) (B : Nat) (e : Ending) (w' : World) : Prop := ∃ v, e = .returned (.tuple #[.int .i64 (tN len z), v, .int .i64 (tE len z)]) ∧ Own w' B 5 .u8 (tL len z) (tR z) v
def TakeBO (len : Nat) (z : Nat → Int) (most : Int) (B : Nat) (e : Ending) (w' : World) : Prop := ∃ t v, e = .returned (.tuple #[t, v, .int .i64 (xE len z most)]) ∧ Own w' B 5 .u8 (xL len z most) (tR z) t ∧ Own w' B 5 .u8 (yL len z most) (yR len z) v
def TakeVarOw : Prop := ∀ (sp : Option Addr) (len cap : Nat), len ≤ 140737488351240 → len ≤ cap → (sp = none → cap = 0) → ∀ z : Nat → Int, In 256 len z → ∀ w : World, Src w sp len z → Calls Try.prog 54 #[.slice sp len cap] w fun e w' => TakeVO len z w.heap.size e w' ∧ Below w.heap.size w w'
def TakeBytesOw : Prop := ∀ (sp : Option Addr) (len cap : Nat), len ≤ 140737488351240 → len ≤ cap → (sp = none → cap = 0) → ∀ z : Nat → Int, In 256 len z → ∀ most : Int, (-9223372036854775808 ≤ most ∧ most < 9223372036854775808) → ∀ w : World, Src w sp len z → Calls Try.prog 55 #[.slice sp len cap, .int .i64 most] w fun e w' => TakeBO len z most w.heap.size e w' ∧ Below w.heap.size w w'
set_option maxRecDepth 10000 in
set_option maxHeartbeats 8000000 in
theorem vtakevar_own : TakeVarOw := by
  intro sp len cap hlen hcap hnil z hz w hs
  have hle : tL len z ≤ len := by unfold tL; split <;> omega
  go_enter Try.func54, Try.ntmps54
  go_upto_region 1 with fail
  refine wp_region_list ?_
  refine pureL (.slice sp len cap) rfl (fun _ => by kernel_rfl) ?_
  simp only [aP, lI, l0, lS]
  refine callL rfl (fun _ => by kernel_rfl) (along_any sp len cap hcap hnil z _ hs) ?_
  rintro e w1 ⟨B, rfl, T⟩
  refine ⟨_, rfl, ?_⟩
  simp only [aP, lI, l0, lS]
  refine pureL (.tuple #[(.func (.func 60) #[] #[.pointer (some ⟨B, 0, none⟩)]), (.func (.func 61) #[] #[.pointer (some ⟨B, 0, none⟩)])]) rfl (fun _ => by kernel_rfl) ?_
  simp only [aP, lI, l0, lS]
  refine pureL (.func (.func 60) #[] #[.pointer (some ⟨B, 0, none⟩)]) rfl (fun _ => by kernel_rfl) ?_
  simp only [aP, lI, l0, lS]
  refine pureL (.func (.func 61) #[] #[.pointer (some ⟨B, 0, none⟩)]) rfl (fun _ => by kernel_rfl) ?_
  simp only [aP, lI, l0, lS]
  refine pureL (.func (.func 60) #[] #[.pointer (some ⟨B, 0, none⟩)]) rfl (fun _ => by kernel_rfl) ?_
  simp only [aP, lI, l0, lS]
  refine pureL (.func (.func 61) #[] #[.pointer (some ⟨B, 0, none⟩)]) rfl (fun _ => by kernel_rfl) ?_
  simp only [aP, lI, l0, lS]
  show Exit.then _ _ _ _ _
  go_upto_region 2 with fail
  refine wp_region_list ?_
  refine pureL (.func (.func 60) #[] #[.pointer (some ⟨B, 0, none⟩)]) rfl (fun _ => by kernel_rfl) ?_
  simp only [aP, lI, l0, lS]
  refine callL rfl (fun _ => by kernel_rfl) (number_any w B len z hz _ T) ?_
  rintro e w2 ⟨rfl, hB, T2⟩
  clear T
  refine ⟨_, rfl, ?_⟩
  simp only [aP, lI, l0, lS]
  refine pureL (.tuple #[(.int .i64 (tN len z)), (.int .i64 (tE len z))]) rfl (fun _ => by kernel_rfl) ?_
  simp only [aP, lI, l0, lS]
  refine pureL (.int .i64 (tN len z)) rfl (fun _ => by kernel_rfl) ?_
  simp only [aP, lI, l0, lS]
  refine pureL (.int .i64 (tE len z)) rfl (fun _ => by kernel_rfl) ?_
  simp only [aP, lI, l0, lS]
  refine pureL (.int .i64 (tN len z)) rfl (fun _ => by kernel_rfl) ?_
  simp only [aP, lI, l0, lS]
  refine pureL (.int .i64 (tE len z)) rfl (fun _ => by kernel_rfl) ?_
  simp only [aP, lI, l0, lS]
  show Exit.then _ _ _ _ _
  by_cases h1 : tE len z = 0
  · go_upto_region 3 with fail
    refine wp_region_list ?_
    refine pureL (.int .i64 (tE len z)) rfl (fun _ => by kernel_rfl) ?_
    simp only [aP, lI, l0, lS]
    refine pureL (.bool false) rfl (fun w => neqI .i64 _ _ _ _ _ _ rfl rfl rfl false (by simp [h1]) w) ?_
    simp only [aP, lI, l0, lS]
    show Exit.then _ _ _ _ _
    replace T2 := T2 h1
    go_upto_region 5 with fail
    refine wp_region_list ?_
    refine pureL (.int .i64 (tN len z)) rfl (fun _ => by kernel_rfl) ?_
    simp only [aP, lI, l0, lS]
    refine pureL (.func (.func 61) #[] #[.pointer (some ⟨B, 0, none⟩)]) rfl (fun _ => by kernel_rfl) ?_
    simp only [aP, lI, l0, lS]
    refine callL rfl (fun _ => by kernel_rfl) (left_any w B _ (by omega) _ _ T2) ?_
    rintro e w3 ⟨v, rfl, hO, l⟩
    obtain ⟨rp, rc, rfl, _, _⟩ := hO.bytes
    replace hO := hO.lower hB.size
    replace hB := hB.trans (l.mono hB.size)
    clear T2 l
    refine ⟨_, rfl, ?_⟩
    simp only [aP, lI, l0, lS]
    refine pureL (.int .i64 (tN len z)) rfl (fun _ => by kernel_rfl) ?_
    simp only [aP, lI, l0, lS]
    refine pureL (.slice rp (tL len z) rc) rfl (fun _ => by kernel_rfl) ?_
    simp only [aP, lI, l0, lS]
    refine pureL (.int .i64 0) rfl (fun _ => by kernel_rfl) ?_
    simp only [aP, lI, l0, lS]
    show Exit.then _ _ _ _ _
    have h1' := show Hid _ from h1
    clear h1
    go_wp2
    refine bodyPost_ret (results_tmp3 Try.results54 _ _ _) rfl ?_
    exact ⟨⟨_, by rw [h1'.out]; rfl, hO⟩, hB⟩
  · have hN : tN len z = 0 := by unfold tN; rw [if_neg h1]
    have hL : tL len z = 0 := by unfold tL; rw [if_neg h1]
    clear T2
    go_upto_region 3 with fail
    refine wp_region_list ?_
    refine pureL (.int .i64 (tE len z)) rfl (fun _ => by kernel_rfl) ?_
    simp only [aP, lI, l0, lS]
    refine pureL (.bool true) rfl (fun w => neqI .i64 _ _ _ _ _ _ rfl rfl rfl true (by simp [h1]) w) ?_
    simp only [aP, lI, l0, lS]
    show Exit.then _ _ _ _ _
    have hA := show Hid _ from (And.intro hN hL)
    clear hN hL
    go_wp2
    refine bodyPost_ret (results_tmp3 Try.results54 _ _ _) rfl ?_
    exact ⟨⟨.slice none 0 0, by rw [hA.out.1]; rfl, by rw [hA.out.2]; exact World.ownsRow_nil _ _ _ 1⟩, hB⟩

set_option maxRecDepth 10000 in
set_option maxHeartbeats 8000000 in
theorem vtakebytes_own : TakeBytesOw := by
  intro sp len cap hlen hcap hnil z hz most hm w hs
  go_enter Try.func55, Try.ntmps55
  go_upto_region 1 with fail
  refine wp_region_list ?_
  refine pureL (.slice sp len cap) rfl (fun _ => by kernel_rfl) ?_
  simp only [aP, lI, l0, lS]
  refine callL rfl (fun _ => by kernel_rfl) (along_any sp len cap hcap hnil z _ hs) ?_
  rintro e w1 ⟨B, rfl, T⟩
  refine ⟨_, rfl, ?_⟩
  simp only [aP, lI, l0, lS]
  refine pureL (.tuple #[(.func (.func 60) #[] #[.pointer (some ⟨B, 0, none⟩)]), (.func (.func 61) #[] #[.pointer (some ⟨B, 0, none⟩)])]) rfl (fun _ => by kernel_rfl) ?_
  simp only [aP, lI, l0, lS]
  refine pureL (.func (.func 60) #[] #[.pointer (some ⟨B, 0, none⟩)]) rfl (fun _ => by kernel_rfl) ?_
  simp only [aP, lI, l0, lS]
  refine pureL (.func (.func 61) #[] #[.pointer (some ⟨B, 0, none⟩)]) rfl (fun _ => by kernel_rfl) ?_
  simp only [aP, lI, l0, lS]
  refine pureL (.func (.func 60) #[] #[.pointer (some ⟨B, 0, none⟩)]) rfl (fun _ => by kernel_rfl) ?_
  simp only [aP, lI, l0, lS]
  refine pureL (.func (.func 61) #[] #[.pointer (some ⟨B, 0, none⟩)]) rfl (fun _ => by kernel_rfl) ?_
  simp only [aP, lI, l0, lS]
  show Exit.then _ _ _ _ _
  go_upto_region 2 with fail
  refine wp_region_list ?_
  refine pureL (.func (.func 60) #[] #[.pointer (some ⟨B, 0, none⟩)]) rfl (fun _ => by kernel_rfl) ?_
  simp only [aP, lI, l0, lS]
  refine callL rfl (fun _ => by kernel_rfl) (number_any w B len z hz _ T) ?_
  rintro e w2 ⟨rfl, hB, T2⟩
  clear T
  refine ⟨_, rfl, ?_⟩
  simp only [aP, lI, l0, lS]
  refine pureL (.tuple #[(.int .i64 (tN len z)), (.int .i64 (tE len z))]) rfl (fun _ => by kernel_rfl) ?_
  simp only [aP, lI, l0, lS]
  refine pureL (.int .i64 (tN len z)) rfl (fun _ => by kernel_rfl) ?_
  simp only [aP, lI, l0, lS]
  refine pureL (.int .i64 (tE len z)) rfl (fun _ => by kernel_rfl) ?_
  simp only [aP, lI, l0, lS]
  refine pureL (.int .i64 (tN len z)) rfl (fun _ => by kernel_rfl) ?_
  simp only [aP, lI, l0, lS]
  refine pureL (.int .i64 (tE len z)) rfl (fun _ => by kernel_rfl) ?_
  simp only [aP, lI, l0, lS]
  show Exit.then _ _ _ _ _
  by_cases h1 : tE len z = 0
  · have hN0 : 0 ≤ tN len z := by
      obtain ⟨q1, q2, q3⟩ := tE_ok h1
      unfold tN
      rw [if_pos h1]
      have hk := tK_four (z 0) (hz 0 q1)
      exact (tV_nonneg z len hz _ (by omega)).1
    have hxe : xE len z most = if most < tN len z then 2 else if ((tL len z : Nat) : Int) < tN len z then 3 else 0 := by unfold xE; rw [if_neg (fun h => h h1)]
    have hle : tL len z ≤ len := by unfold tL; rw [if_pos h1]; omega
    replace T2 := T2 h1
    go_upto_region 3 with fail
    refine wp_region_list ?_
    refine pureL (.int .i64 (tE len z)) rfl (fun _ => by kernel_rfl) ?_
    simp only [aP, lI, l0, lS]
    refine pureL (.bool false) rfl (fun w => neqI .i64 _ _ _ _ _ _ rfl rfl rfl false (by simp [h1]) w) ?_
    simp only [aP, lI, l0, lS]
    show Exit.then _ _ _ _ _
    obtain ⟨nn, hnn⟩ := Int.eq_ofNat_of_zero_le hN0
    have hyr : yR len z = fun j => tR z (nn + j) := by unfold yR; rw [hnn, Int.toNat_natCast]
    have hxl : xE len z most = 0 → xL len z most = nn ∧ yL len z most = tL len z - nn := fun h => by
      unfold xL yL
      rw [if_pos h, if_pos h, hnn, Int.toNat_natCast]
      exact ⟨rfl, rfl⟩
    rw [hnn] at hxe ⊢
    clear hnn hN0
    generalize tL len z = tl at *
    by_cases h2 : most < (nn : Int)
    · have hX : xE len z most = 2 := by rw [hxe, if_pos h2]
      clear hxl hxe hyr
      have hL : xL len z most = 0 := by unfold xL; rw [if_neg (by rw [hX]; decide)]
      have hY : yL len z most = 0 := by unfold yL; rw [if_neg (by rw [hX]; decide)]
      have hA := show Hid _ from (And.intro hL (And.intro hY hX))
      clear hL hY hX
      go_upto_region 5 with fail
      refine wp_region_list ?_
      refine pureL (.int .i64 (nn : Int)) rfl (fun _ => by kernel_rfl) ?_
      simp only [aP, lI, l0, lS]
      refine pureL (.int .i64 most) rfl (fun _ => by kernel_rfl) ?_
      simp only [aP, lI, l0, lS]
      refine pureL (.bool true) rfl (fun w => gtrI .i64 _ _ _ _ _ _ rfl rfl rfl true (decide_eq_true (by omega)) w) ?_
      simp only [aP, lI, l0, lS]
      show Exit.then _ _ _ _ _
      go_wp2
      refine bodyPost_ret (results_tmp3 Try.results55 _ _ _) rfl ?_
      exact ⟨⟨.slice none 0 0, .slice none 0 0, by rw [hA.out.2.2]; rfl, by rw [hA.out.1, hA.out.2.1]; exact ⟨World.ownsRow_nil _ _ _ 1, World.ownsRow_nil _ _ _ 1⟩⟩, hB⟩
    · go_upto_region 5 with fail
      refine wp_region_list ?_
      refine pureL (.int .i64 (nn : Int)) rfl (fun _ => by kernel_rfl) ?_
      simp only [aP, lI, l0, lS]
      refine pureL (.int .i64 most) rfl (fun _ => by kernel_rfl) ?_
      simp only [aP, lI, l0, lS]
      refine pureL (.bool false) rfl (fun w => gtrI .i64 _ _ _ _ _ _ rfl rfl rfl false (decide_eq_false (by omega)) w) ?_
      simp only [aP, lI, l0, lS]
      show Exit.then _ _ _ _ _
      go_upto_region 7 with fail
      refine wp_region_list ?_
      refine pureL (.func (.func 60) #[] #[.pointer (some ⟨B, 0, none⟩)]) rfl (fun _ => by kernel_rfl) ?_
      simp only [aP, lI, l0, lS]
      refine pureL (.int .i64 (nn : Int)) rfl (fun _ => by kernel_rfl) ?_
      simp only [aP, lI, l0, lS]
      refine callL rfl (fun _ => by kernel_rfl) (next_any w B tl (tR z) nn _ T2) ?_
      intro e w3 h
      clear T2
      rcases h with ⟨h3, rfl, T⟩ | ⟨h3, dp, dc, rfl, hdc, hdn, hds, T⟩
      · have hX : xE len z most = 3 := by rw [hxe, if_neg h2, if_pos (by omega)]
        clear hxl hxe hyr
        have hL : xL len z most = 0 := by unfold xL; rw [if_neg (by rw [hX]; decide)]
        have hY : yL len z most = 0 := by unfold yL; rw [if_neg (by rw [hX]; decide)]
        have hA := show Hid _ from (And.intro hL (And.intro hY hX))
        clear hL hY hX
        replace hB := T.below
        refine ⟨_, rfl, ?_⟩
        simp only [aP, lI, l0, lS]
        refine pureL (.tuple #[(.slice none 0 0), .bool false]) rfl (fun _ => by kernel_rfl) ?_
        simp only [aP, lI, l0, lS]
        refine pureL (.slice none 0 0) rfl (fun _ => by kernel_rfl) ?_
        simp only [aP, lI, l0, lS]
        refine pureL (.bool false) rfl (fun _ => by kernel_rfl) ?_
        simp only [aP, lI, l0, lS]
        refine pureL (.slice none 0 0) rfl (fun _ => by kernel_rfl) ?_
        simp only [aP, lI, l0, lS]
        refine pureL (.bool false) rfl (fun _ => by kernel_rfl) ?_
        simp only [aP, lI, l0, lS]
        show Exit.then _ _ _ _ _
        go_upto_region 8 with fail
        refine wp_region_list ?_
        refine pureL (.bool false) rfl (fun _ => by kernel_rfl) ?_
        simp only [aP, lI, l0, lS]
        refine pureL (.bool true) rfl (fun _ => by kernel_rfl) ?_
        simp only [aP, lI, l0, lS]
        show Exit.then _ _ _ _ _
        go_wp2
        refine bodyPost_ret (results_tmp3 Try.results55 _ _ _) rfl ?_
        exact ⟨⟨.slice none 0 0, .slice none 0 0, by rw [hA.out.2.2]; rfl, by rw [hA.out.1, hA.out.2.1]; exact ⟨World.ownsRow_nil _ _ _ 1, World.ownsRow_nil _ _ _ 1⟩⟩, hB⟩
      · have hX : xE len z most = 0 := by rw [hxe, if_neg h2, if_neg (by omega)]
        have hA := show Hid _ from (And.intro (hxl hX).1 (And.intro (hxl hX).2 (And.intro hX hyr)))
        clear hxl hxe hX hyr
        refine ⟨_, rfl, ?_⟩
        simp only [aP, lI, l0, lS]
        refine pureL (.tuple #[(.slice dp nn dc), .bool true]) rfl (fun _ => by kernel_rfl) ?_
        simp only [aP, lI, l0, lS]
        refine pureL (.slice dp nn dc) rfl (fun _ => by kernel_rfl) ?_
        simp only [aP, lI, l0, lS]
        refine pureL (.bool true) rfl (fun _ => by kernel_rfl) ?_
        simp only [aP, lI, l0, lS]
        refine pureL (.slice dp nn dc) rfl (fun _ => by kernel_rfl) ?_
        simp only [aP, lI, l0, lS]
        refine pureL (.bool true) rfl (fun _ => by kernel_rfl) ?_
        simp only [aP, lI, l0, lS]
        show Exit.then _ _ _ _ _
        go_upto_region 8 with fail
        refine wp_region_list ?_
        refine pureL (.bool true) rfl (fun _ => by kernel_rfl) ?_
        simp only [aP, lI, l0, lS]
        refine pureL (.bool false) rfl (fun _ => by kernel_rfl) ?_
        simp only [aP, lI, l0, lS]
        show Exit.then _ _ _ _ _
        go_upto_region 10 with fail
        refine wp_region_list ?_
        refine pureL (.slice dp nn dc) rfl (fun _ => by kernel_rfl) ?_
        simp only [aP, lI, l0, lS]
        refine callL rfl (fun _ => by kernel_rfl) (clone_any dp nn dc (by omega) hdc hdn (tR z) _ (hds.below T.below (Nat.le_refl _))) ?_
        rintro e w4 ⟨u, rfl, hP, l⟩
        obtain ⟨tp, tc, rfl, _, _⟩ := hP.bytes
        replace hP := hP.lower T.below.size
        replace T := T.call l
        replace hB := T.below
        refine ⟨_, rfl, ?_⟩
        simp only [aP, lI, l0, lS]
        refine pureL (.func (.func 61) #[] #[.pointer (some ⟨B, 0, none⟩)]) rfl (fun _ => by kernel_rfl) ?_
        simp only [aP, lI, l0, lS]
        refine callL rfl (fun _ => by kernel_rfl) (left_any w B _ (by omega) _ _ T) ?_
        rintro e w5 ⟨v, rfl, hO, l⟩
        obtain ⟨rp, rc, rfl, _, _⟩ := hO.bytes
        replace hO := hO.lower hB.size
        replace hB := hB.trans (l.mono hB.size)
        replace hP := hP.below l
        refine ⟨_, rfl, ?_⟩
        simp only [aP, lI, l0, lS]
        refine pureL (.slice tp nn tc) rfl (fun _ => by kernel_rfl) ?_
        simp only [aP, lI, l0, lS]
        refine pureL (.slice rp (tl - nn) rc) rfl (fun _ => by kernel_rfl) ?_
        simp only [aP, lI, l0, lS]
        refine pureL (.int .i64 0) rfl (fun _ => by kernel_rfl) ?_
        simp only [aP, lI, l0, lS]
        clear T l
        show Exit.then _ _ _ _ _
        go_wp2
        refine bodyPost_ret (results_tmp3 Try.results55 _ _ _) rfl ?_
        exact ⟨⟨_, _, by rw [hA.out.2.2.1]; rfl, by rw [hA.out.1, hA.out.2.1, hA.out.2.2.2]; exact ⟨hP, hO⟩⟩, hB⟩
  · have hX : xE len z most = tE len z := by unfold xE; rw [if_pos h1]
    clear T2
    have hL : xL len z most = 0 := by unfold xL; rw [if_neg (by rw [hX]; exact h1)]
    have hY : yL len z most = 0 := by unfold yL; rw [if_neg (by rw [hX]; exact h1)]
    have hA := show Hid _ from (And.intro hL (And.intro hY hX))
    clear hL hY hX
    go_upto_region 3 with fail
    refine wp_region_list ?_
    refine pureL (.int .i64 (tE len z)) rfl (fun _ => by kernel_rfl) ?_
    simp only [aP, lI, l0, lS]
    refine pureL (.bool true) rfl (fun w => neqI .i64 _ _ _ _ _ _ rfl rfl rfl true (by simp [h1]) w) ?_
    simp only [aP, lI, l0, lS]
    show Exit.then _ _ _ _ _
    go_wp2
    refine bodyPost_ret (results_tmp3 Try.results55 _ _ _) rfl ?_
    exact ⟨⟨.slice none 0 0, .slice none 0 0, by rw [hA.out.2.2]; rfl, by rw [hA.out.1, hA.out.2.1]; exact ⟨World.ownsRow_nil _ _ _ 1, World.ownsRow_nil _ _ _ 1⟩⟩, hB⟩
end Go.Proofs.Yteaamgjlkohfcaa

namespace Go.Proofs.Yteaamgjlkohfcaa
open Go.RowKit

/-- What a number taken leaves: the error, the number, the rest. -/
def lE (b : List Int) : Int := tE b.length (bl b)
def lN (b : List Int) : Int := tN b.length (bl b)
def lR (b : List Int) : List Int := if lE b = 0 then b.drop (tK (bl b 0)) else []
theorem nm_ok {b : List Int} (h : lE b = 0) : nm b = .ok (lN b, lR b) := by unfold nm lR; rw [h]; unfold lE at h; rw [h]; rfl
theorem nm_err {b : List Int} (h : lE b ≠ 0) : nm b = .error (lE b) := by unfold nm; unfold lE at h ⊢; rw [if_neg h]
theorem lR_len (b : List Int) : (lR b).length = tL b.length (bl b) := by
  unfold lR tL
  by_cases h : lE b = 0
  · rw [if_pos h, if_pos (show tE b.length (bl b) = 0 from h), List.length_drop]
  · rw [if_neg h, if_neg (show ¬ tE b.length (bl b) = 0 from h)]
    rfl
theorem lR_bl (b : List Int) (j : Nat) (hj : j < tL b.length (bl b)) : tR (bl b) j = bl (lR b) j := by
  have h : lE b = 0 := by
    by_cases h : lE b = 0
    · exact h
    · unfold tL at hj; rw [if_neg (show ¬ tE b.length (bl b) = 0 from h)] at hj; omega
  unfold lR
  rw [if_pos h, bl_drop]
  rfl
theorem lR_le (b : List Int) : (lR b).length ≤ b.length := by rw [lR_len]; unfold tL; split <;> omega
theorem lR_byts {b : List Int} (h : Byts b) : Byts (lR b) := by
  unfold lR
  split
  · exact h.drop _
  · intro x hx; cases hx
theorem lN_pos {b : List Int} (hb : Byts b) (h : lE b = 0) : 0 ≤ lN b ∧ lN b < 4611686018427387904 := by
  have := nm_back hb (nm_ok h)
  exact ⟨this.1, this.2.1⟩
theorem fp_err {k : Int} {b : List Int} (hk : ¬ (k = 3 ∨ k = 4)) (h : lE b ≠ 0) : fp k b = .error (lE b) := by unfold fp; rw [if_neg hk, nm_err h]
theorem fp_plain {k : Int} {b : List Int} (hk : ¬ (k = 3 ∨ k = 4)) (h1 : ¬ k = 1) (h2 : ¬ (k = 2 ∨ k = 7)) (h : lE b = 0) : fp k b = .ok (⟨k, lN b, 0, [], [], z8⟩, lR b) := by unfold fp; rw [if_neg hk, nm_ok h]; simp only; rw [if_neg h1, if_neg h2]
theorem fp_data {b : List Int} (h : lE b = 0) : fp 1 b = match tx (lR b) with
    | .error e => .error e
    | .ok (t, r) => .ok (⟨1, lN b, 0, [], t, z8⟩, r) := by unfold fp; rw [if_neg (by decide), nm_ok h]; rfl
theorem fp_lim {k : Int} {b : List Int} (hk : ¬ (k = 3 ∨ k = 4)) (h1 : ¬ k = 1) (h2 : k = 2 ∨ k = 7) (h : lE b = 0) (h' : lE (lR b) ≠ 0) : fp k b = .error (lE (lR b)) := by unfold fp; rw [if_neg hk, nm_ok h]; simp only; rw [if_neg h1, if_pos h2, nm_err h']
theorem rd_gap {n : Nat} {last : Int} {b : List Int} (h : lE b ≠ 0) : rd (n + 1) last b = .error (lE b) := by unfold rd; rw [nm_err h]
theorem rd_len {n : Nat} {last : Int} {b : List Int} (h : lE b = 0) (h' : lE (lR b) ≠ 0) : rd (n + 1) last b = .error (lE (lR b)) := by unfold rd; rw [nm_ok h]; simp only; rw [nm_err h']
theorem rd_far {n : Nat} {last : Int} {b : List Int} (h : lE b = 0) (h' : lE (lR b) = 0) (hf : MX - last < lN b ∨ MX - last - lN b < lN (lR b)) : rd (n + 1) last b = .error 100 := by unfold rd; rw [nm_ok h]; simp only; rw [nm_ok h']; simp only; rw [if_pos hf]
def rcons (p : Int × Int) : Except Int (List (Int × Int) × List Int) → Except Int (List (Int × Int) × List Int)
  | .error e => .error e
  | .ok (q, r) => .ok (p :: q, r)
theorem rd_one {n : Nat} {last : Int} {b : List Int} (h : lE b = 0) (h' : lE (lR b) = 0) (hf : ¬ (MX - last < lN b ∨ MX - last - lN b < lN (lR b))) : rd (n + 1) last b = rcons (last + lN b, last + lN b + lN (lR b)) (rd n (last + lN b + lN (lR b)) (lR (lR b))) := by
  show (match nm b with | .error e => _ | .ok (g, b1) => _) = _
  rw [nm_ok h]; simp only; rw [nm_ok h']; simp only; rw [if_neg hf]; rcases rd n (last + lN b + lN (lR b)) (lR (lR b)) with e | ⟨rs, r⟩ <;> rfl
end Go.Proofs.Yteaamgjlkohfcaa

namespace Go.Proofs.Yteaamgjlkohfcaa
open Go.RowKit

/-- A frame whose bytes and ranges lie in none of the blocks X. -/
structure FA (X : List Nat) (w : World) (f : Frm) (rp : Option Addr) (rc : Nat) (bp : Option Addr) (bc : Nat) : Prop where
  fv : FV w f rp rc bp bc
  roff : ∀ ad, rp = some ad → 0 < f.rg.length → ad.block ∉ X
  boff : ∀ ad, bp = some ad → 0 < f.byt.length → ad.block ∉ X
theorem FA.off {X : List Nat} {w w' : World} {f : Frm} {rp bp : Option Addr} {rc bc : Nat} (h : FA X w f rp rc bp bc) (o : Off X w w') : FA X w' f rp rc bp bc :=
  ⟨{ h.fv with
      rg := fun j hj => by
        obtain ⟨ad, rfl, h1, h2⟩ := h.fv.rg j hj
        have hX := h.roff ad rfl (by omega)
        exact ⟨ad, rfl, o.cell h1 (by rw [add_block]; exact hX), o.cell h2 (by rw [add_block, add_block]; exact hX)⟩
      src := (SrcA.off ⟨h.fv.src, h.boff⟩ o).1 }, h.roff, h.boff⟩
theorem FA.more {X : List Nat} {w : World} {f : Frm} {rp bp : Option Addr} {rc bc : Nat} (h : FA X w f rp rc bp bc) (b : Nat) (hb : w.heap.size ≤ b) : FA (b :: X) w f rp rc bp bc :=
  ⟨h.fv, fun ad e hn hm => by
    subst e
    obtain ⟨ad', e', hc, _⟩ := h.fv.rg 0 hn
    injection e' with e'
    subst e'
    have := World.block_lt_of_cell? w _ hc
    rw [add_block] at this
    rcases List.mem_cons.1 hm with h' | hm
    · omega
    · exact h.roff ad rfl hn hm, (SrcA.more ⟨h.fv.src, h.boff⟩ b hb).2⟩
theorem FA.less {X Y : List Nat} {w : World} {f : Frm} {rp bp : Option Addr} {rc bc : Nat} (h : FA X w f rp rc bp bc) (hY : ∀ b ∈ Y, b ∈ X) : FA Y w f rp rc bp bc := ⟨h.fv, fun ad e hn hm => h.roff ad e hn (hY _ hm), fun ad e hn hm => h.boff ad e hn (hY _ hm)⟩
theorem z8_w : Byts z8 := by intro x hx; simp [z8] at hx; omega
theorem i64_lN {b : List Int} (hb : Byts b) (h : lE b = 0) : i64 (lN b) := by have := lN_pos hb h; unfold i64; omega
/-- A text, as TakeBytes takes it. -/
def qE (b : List Int) : Int := xE b.length (bl b) 128
def qT (b : List Int) : List Int := if qE b = 0 then (lR b).take (lN b).toNat else []
def qR (b : List Int) : List Int := if qE b = 0 then (lR b).drop (lN b).toNat else []
theorem qE_cases (b : List Int) : (lE b ≠ 0 ∧ qE b = lE b ∧ tx b = .error (lE b)) ∨ (lE b = 0 ∧ 128 < lN b ∧ qE b = 2 ∧ tx b = .error 2) ∨ (lE b = 0 ∧ ¬ 128 < lN b ∧ ((lR b).length : Int) < lN b ∧ qE b = 3 ∧ tx b = .error 3) ∨ (lE b = 0 ∧ ¬ 128 < lN b ∧ ¬ ((lR b).length : Int) < lN b ∧ qE b = 0 ∧ tx b = .ok ((lR b).take (lN b).toNat, (lR b).drop (lN b).toNat)) := by
  by_cases h : lE b = 0
  · have hq : qE b = if 128 < lN b then 2 else if ((tL b.length (bl b) : Nat) : Int) < lN b then 3 else 0 := by
      unfold qE xE
      rw [if_neg (fun h' => h' h)]
      rfl
    rw [← lR_len] at hq
    have ht : tx b = if 128 < lN b then .error 2 else if ((lR b).length : Int) < lN b then .error 3 else .ok ((lR b).take (lN b).toNat, (lR b).drop (lN b).toNat) := by unfold tx; rw [nm_ok h]
    by_cases c1 : 128 < lN b
    · rw [if_pos c1] at hq ht
      exact .inr (.inl ⟨h, c1, hq, ht⟩)
    · rw [if_neg c1] at hq ht
      by_cases c2 : ((lR b).length : Int) < lN b
      · rw [if_pos c2] at hq ht
        exact .inr (.inr (.inl ⟨h, c1, c2, hq, ht⟩))
      · rw [if_neg c2] at hq ht
        exact .inr (.inr (.inr ⟨h, c1, c2, hq, ht⟩))
  · refine .inl ⟨h, ?_, by unfold tx; rw [nm_err h]⟩
    unfold qE xE
    rw [if_pos (show tE b.length (bl b) ≠ 0 from h)]
    rfl
theorem tx_ok {b : List Int} (h : qE b = 0) : tx b = .ok (qT b, qR b) := by
  rcases qE_cases b with ⟨h1, h2, _⟩ | ⟨_, _, h2, _⟩ | ⟨_, _, _, h2, _⟩ | ⟨_, _, _, h2, h3⟩
  · omega
  · omega
  · omega
  · rw [h3]; unfold qT qR; rw [if_pos h, if_pos h]
theorem tx_err {b : List Int} (h : qE b ≠ 0) : tx b = .error (qE b) := by
  rcases qE_cases b with ⟨h1, h2, h3⟩ | ⟨_, _, h2, h3⟩ | ⟨_, _, _, h2, h3⟩ | ⟨_, _, _, h2, h3⟩
  · rw [h2, h3]
  · rw [h2, h3]
  · rw [h2, h3]
  · omega
theorem q_len (b : List Int) (hb : Byts b) : (qT b).length = xL b.length (bl b) 128 ∧ (qR b).length = yL b.length (bl b) 128 ∧ (∀ j, j < xL b.length (bl b) 128 → tR (bl b) j = bl (qT b) j) ∧ ∀ j, j < yL b.length (bl b) 128 → yR b.length (bl b) j = bl (qR b) j := by
  by_cases h : qE b = 0
  · have hx : xL b.length (bl b) 128 = (lN b).toNat := by unfold xL; rw [if_pos (show xE b.length (bl b) 128 = 0 from h)]; rfl
    have hy : yL b.length (bl b) 128 = (lR b).length - (lN b).toNat := by unfold yL; rw [if_pos (show xE b.length (bl b) 128 = 0 from h), lR_len]; rfl
    rcases qE_cases b with ⟨h1, h2, _⟩ | ⟨_, _, h2, _⟩ | ⟨_, _, _, h2, _⟩ | ⟨h0, _, h4, _, _⟩
    · omega
    · omega
    · omega
    · have hp := lN_pos hb h0
      have hln : (lN b).toNat ≤ (lR b).length := by omega
      have hl : ∀ j, j < (lR b).length → tR (bl b) j = bl (lR b) j := fun j hj => lR_bl b j (by rw [← lR_len]; exact hj)
      rw [hx, hy]
      unfold qT qR
      rw [if_pos h, if_pos h]
      refine ⟨by rw [List.length_take]; omega, by rw [List.length_drop], fun j hj => ?_, fun j hj => ?_⟩
      · rw [bl_take _ _ _ hj]; exact hl j (by omega)
      · rw [bl_drop]; exact hl ((lN b).toNat + j) (by omega)
  · have hx : xL b.length (bl b) 128 = 0 := by unfold xL; rw [if_neg (show ¬ xE b.length (bl b) 128 = 0 from h)]
    have hy : yL b.length (bl b) 128 = 0 := by unfold yL; rw [if_neg (show ¬ xE b.length (bl b) 128 = 0 from h)]
    rw [hx, hy]
    unfold qT qR
    rw [if_neg h, if_neg h]
    exact ⟨rfl, rfl, fun j hj => by omega, fun j hj => by omega⟩
theorem qT_le (b : List Int) : (qT b).length ≤ 128 := by
  unfold qT
  split
  · rename_i h
    rcases qE_cases b with ⟨h1, h2, _⟩ | ⟨_, _, h2, _⟩ | ⟨_, _, _, h2, _⟩ | ⟨_, h3, _, _, _⟩
    · omega
    · omega
    · omega
    · rw [List.length_take]; omega
  · exact Nat.zero_le _
theorem qR_le (b : List Int) : (qR b).length ≤ b.length := by
  have := lR_le b
  unfold qR
  split
  · rw [List.length_drop]; omega
  · exact Nat.zero_le _
theorem qT_byts {b : List Int} (h : Byts b) : Byts (qT b) := by
  unfold qT
  split
  · exact (lR_byts h).take _
  · intro x hx; cases hx
theorem qR_byts {b : List Int} (h : Byts b) : Byts (qR b) := by
  unfold qR
  split
  · exact (lR_byts h).drop _
  · intro x hx; cases hx
theorem fv_nil (w : World) (k a : Int) (tk : List Int) (hk : i64 k) (ha : i64 a) (ht : Byts tk) (h8 : tk.length = 8) : FV w ⟨k, a, 0, [], [], tk⟩ none 0 none 0 :=
  ⟨fun j hj => absurd hj (Nat.not_lt_zero j), Nat.le_refl _, fun _ => rfl, Nat.zero_le _, fun j hj => absurd hj (Nat.not_lt_zero j), Nat.le_refl _, fun _ => rfl, Nat.zero_le _, ⟨fun x hx => (by cases hx), ht, h8⟩, hk, ha, show i64 0 by unfold i64; decide⟩
theorem fa_nil (X : List Nat) (w : World) (k a : Int) (tk : List Int) (hk : i64 k) (ha : i64 a) (ht : Byts tk) (h8 : tk.length = 8) : FA X w ⟨k, a, 0, [], [], tk⟩ none 0 none 0 :=
  ⟨fv_nil w k a tk hk ha ht h8, fun _ e => (by cases e), fun _ e => (by cases e)⟩

end Go.Proofs.Yteaamgjlkohfcaa

namespace Go.Proofs.Yteaamgjlkohfcaa
open Go.RowKit

theorem Mm.there {w0 w : World} {l : List (Nat × List Value)} (h : Mm w0 l w) {b : Nat} {cs : List Value} (hp : (b, cs) ∈ l) (n : Nat) (hn : n = cs.length) : w.there b 0 n := fun j hj => by
  rw [Nat.zero_add]
  exact ⟨h.isSome hp j (by omega), h.free hp j (by omega)⟩
theorem Mm.setAll {w0 w : World} {l : List (Nat × List Value)} {b : Nat} {cs : List Value} (h : Mm w0 ((b, cs) :: l) w) (ds : List Value) (hd : ds.length = cs.length) : Mm w0 ((b, ds) :: l) (w.setCells b 0 ds) := by
  have hb := h.rows _ List.mem_cons_self
  have hne := (List.pairwise_cons.1 h.apart).1
  have hall : ∀ j, j < ds.length → (w.cell? ⟨b, 0 + j, none⟩).isSome = true := fun j hj => by rw [Nat.zero_add]; exact h.isSome List.mem_cons_self j (by omega)
  refine ⟨fun p hp => ?_, List.pairwise_cons.2 ⟨hne, (List.pairwise_cons.1 h.apart).2⟩, below_setAll h.below b hb.2.1 0 ds⟩
  rcases List.mem_cons.1 hp with rfl | hp
  · refine ⟨fun j hj => ⟨?_, by rw [World.frozen?_setCells]; exact (hb.1 j (by have hj' : j < ds.length := hj; show j < cs.length; omega)).2⟩, hb.2.1, by rw [size_setAll]; exact hb.2.2⟩
    simp only at hj ⊢
    have e := World.cell?_setCells_in b ds 0 w hall j hj
    rw [Nat.zero_add] at e
    rw [e, List.getElem?_eq_getElem hj]
  · have h2 := h.rows p (List.mem_cons_of_mem _ hp)
    refine ⟨fun j hj => ⟨?_, by rw [World.frozen?_setCells]; exact (h2.1 j hj).2⟩, h2.2.1, by rw [size_setAll]; exact h2.2.2⟩
    rw [World.cell?_setCells_out b ds 0 w ⟨p.1, j, none⟩ (fun e _ => absurd e.symm (hne p hp))]
    exact (h2.1 j hj).1
theorem Off.setAll {X : List Nat} {w w1 : World} (h : Off X w w1) {b : Nat} (hb : b ∈ X) : ∀ (o : Nat) (vs : List Value), Off X w (w1.setCells b o vs)
  | _, [] => h
  | o, v :: vs => (h.set hb o v).setAll hb (o + 1) vs
theorem Src.at {w : World} {ad : Addr} {n : Nat} {z : Nat → Int} (h : Src w (some ad) n z) (j : Nat) (hj : j < n) : w.cell? (ad.add j) = some (.int .u8 (z j)) := by
  obtain ⟨ad', e, hc⟩ := h j hj
  injection e with e
  subst e
  exact hc
theorem cut_loA {P : Program} {t : TypeId} (ht : P.underlying t = some (.slice (P.elem t))) (hsz : ∀ w, (sizeOf (P.elem t)).run P w = .ok 1 w) (sp : Option Addr) (len cap m : Nat) (hm : m ≤ len) (hc : len ≤ cap) (hn : sp = none → cap = 0) :
    ∃ sp', (∀ w, (Instr.sliceAt t (.slice sp len cap) (some (.int .i64 (m : Int))) none none).run P w = .ok (.slice sp' (len - m) (cap - m)) w) ∧ (∀ X w z, SrcA X w sp len z → SrcA X w sp' (len - m) (fun j => z (m + j))) ∧ (sp' = none → cap - m = 0) := by
  refine ⟨if cap = m then sp else sp.map (·.add (m * 1)), fun w => ?_, fun X w z h => ⟨fun j hj => ?_, fun ad e hp => ?_⟩, fun e => ?_⟩
  · rw [run_sliceAt_slice w t _ _ _ _ ht, run_slice_l w t sp len cap ht .i64 (m : Int) (by omega) (by omega), hsz]
    simp only [Result.andThen, sliced, Int.toNat_natCast]
  · obtain ⟨ad, rfl, hc'⟩ := h.1 (m + j) (by omega)
    rw [if_neg (by omega)]
    exact ⟨ad.add (m * 1), rfl, by rw [Nat.mul_one, Addr.add_add]; exact hc'⟩
  · rw [if_neg (by omega)] at e
    cases sp with
    | none => cases e
    | some a =>
      injection e with e
      subst e
      rw [add_block]
      exact h.2 a rfl (by omega)
  · by_cases hm : cap = m
    · omega
    · rw [if_neg hm] at e
      cases sp with
      | none => have := hn rfl; omega
      | some ad => cases e
end Go.Proofs.Yteaamgjlkohfcaa

namespace Go.Proofs.Yteaamgjlkohfcaa
open Go.RowKit

/-- Ranges as cells. -/
def rcl : List (Int × Int) → List Value
  | [] => []
  | p :: l => .int .i64 p.1 :: .int .i64 p.2 :: rcl l
theorem rcl_app (a b : List (Int × Int)) : rcl (a ++ b) = rcl a ++ rcl b := by
  induction a with
  | nil => rfl
  | cons p a ih => show _ :: _ :: rcl (a ++ b) = _ :: _ :: (rcl a ++ rcl b); rw [ih]
theorem rcl_at : ∀ (l : List (Int × Int)) (j : Nat), j < l.length → (rcl l)[j * 2]? = some (.int .i64 (rgz l j).1) ∧ (rcl l)[j * 2 + 1]? = some (.int .i64 (rgz l j).2)
  | [], j, h => absurd h (Nat.not_lt_zero j)
  | p :: l, 0, _ => ⟨rfl, rfl⟩
  | p :: l, j + 1, h => by
    have ih := rcl_at l j (by simpa using h)
    have e1 : (j + 1) * 2 = j * 2 + 1 + 1 := by omega
    rw [e1]
    show (rcl l)[j * 2]? = some (.int .i64 (rgz l j).1) ∧ (rcl l)[j * 2 + 1]? = some (.int .i64 (rgz l j).2)
    exact ih
theorem Rg.of_own {w : World} {base : Nat} {e : TypeId} {rs : List (Int × Int)} {sp : Option Addr} {n c : Nat} (h : w.ownsRow base e 2 (.slice sp n c) n (rcl rs)) : Rg w sp rs := fun j hj => by
  have h1 := rcl_at rs j hj
  rcases h.2 with ⟨hv, h0⟩ | ⟨g, cap, cur, hv, _⟩
  · have hl := h.1
    rw [h0] at hl
    have : rcl rs = [] := List.eq_nil_of_length_eq_zero (by omega)
    rw [this] at h1
    cases h1.1
  · injection hv with e1 e2 e3
    subst e1
    refine ⟨_, rfl, World.ownsRow.cells h (g := g) rfl _ _ h1.1, ?_⟩
    rw [Addr.add_add]
    exact World.ownsRow.cells h (g := g) rfl _ _ h1.2
theorem ranges_many : Many Try.prog 43 (.agg #[.int .i64 0, .int .i64 0]) 16 2 := ⟨by kernel_rfl⟩
theorem own_nil_le {w : World} {base size n : Nat} {e : TypeId} {sp : Option Addr} {c : Nat} {xs : List Value} (h : w.ownsRow base e size (.slice sp n c) n xs) : n ≤ c ∧ (sp = none → c = 0) ∧ ∀ ad, sp = some ad → base ≤ ad.block := by
  rcases h.2 with ⟨hv, h0⟩ | ⟨g, cap, cur, hv, hb, _, h5, _⟩
  · injection hv with e1 e2 e3
    subst e1 e3
    exact ⟨by omega, fun _ => rfl, fun _ e => by cases e⟩
  · injection hv with e1 e2 e3
    subst e1 e3
    exact ⟨h5, fun e => (by cases e), fun ad e => by injection e with e; subst e; exact hb⟩
theorem own_slice {w : World} {base size n : Nat} {e : TypeId} {v : Value} {xs : List Value} (h : w.ownsRow base e size v n xs) : ∃ sp c, v = .slice sp n c := by
  rcases h.2 with ⟨hv, h0⟩ | ⟨g, cap, cur, hv, _⟩
  · subst h0; exact ⟨_, _, hv⟩
  · exact ⟨_, _, hv⟩
def rdk (rs : List (Int × Int)) : Except Int (List (Int × Int) × List Int) → Except Int (List (Int × Int) × List Int)
  | .error e => .error e
  | .ok (q, r) => .ok (rs ++ q, r)
theorem rdk_nil (x : Except Int (List (Int × Int) × List Int)) : rdk [] x = x := by
  rcases x with e | ⟨q, r⟩ <;> rfl
theorem rdk_one (rs : List (Int × Int)) (p : Int × Int) (x : Except Int (List (Int × Int) × List Int)) : rdk rs (rcons p x) = rdk (rs ++ [p]) x := by
  rcases x with e | ⟨q, r⟩
  · rfl
  · show Except.ok (rs ++ p :: q, r) = Except.ok (rs ++ [p] ++ q, r)
    rw [List.append_assoc]
    rfl
end Go.Proofs.Yteaamgjlkohfcaa

namespace Go.Proofs.Yteaamgjlkohfcaa
open Go.RowKit

/-- A frame with where its ranges and its bytes lie. -/
structure Dt where
  f : Frm
  rp : Option Addr
  rc : Nat
  bp : Option Addr
  bc : Nat
def dcl : List Dt → List Value
  | [] => []
  | d :: l => fcs d.f d.rp d.rc d.bp d.bc ++ dcl l
theorem dcl_app (a b : List Dt) : dcl (a ++ b) = dcl a ++ dcl b := by
  induction a with
  | nil => rfl
  | cons d a ih => show fcs _ _ _ _ _ ++ dcl (a ++ b) = _; rw [ih, ← List.append_assoc]; rfl
theorem dcl_at : ∀ (l : List Dt) (j : Nat) (d : Dt) (k : Nat) (v : Value), l[j]? = some d → (fcs d.f d.rp d.rc d.bp d.bc)[k]? = some v → (dcl l)[j * 13 + k]? = some v
  | [], j, d, k, v, h, _ => by simp at h
  | e :: l, 0, d, k, v, h, hv => by
    injection h with h
    subst h
    have hk : k < 13 := by
      rcases Nat.lt_or_ge k 13 with h' | h'
      · exact h'
      · rw [List.getElem?_eq_none (by exact h')] at hv; cases hv
    rw [Nat.zero_mul, Nat.zero_add]
    show (fcs _ _ _ _ _ ++ dcl l)[k]? = some v
    rw [List.getElem?_append_left (by exact hk)]
    exact hv
  | e :: l, j + 1, d, k, v, h, hv => by
    have ih := dcl_at l j d k v h hv
    show (fcs _ _ _ _ _ ++ dcl l)[(j + 1) * 13 + k]? = some v
    rw [List.getElem?_append_right (by show 13 ≤ _; omega), show (j + 1) * 13 + k - (fcs e.f e.rp e.rc e.bp e.bc).length = j * 13 + k by show (j + 1) * 13 + k - 13 = _; omega]
    exact ih
theorem Frs.of_own {w : World} {base : Nat} {e : TypeId} {ds : List Dt} {sp : Option Addr} {n c : Nat} (h : w.ownsRow base e 13 (.slice sp n c) n (dcl ds)) (hd : ∀ d ∈ ds, FV w d.f d.rp d.rc d.bp d.bc) : Frs w sp (ds.map (·.f)) := fun j f hj => by
  rw [List.getElem?_map] at hj
  obtain ⟨d, hd1, rfl⟩ := Option.map_eq_some_iff.1 hj
  have h0 := dcl_at ds j d 0 _ hd1 rfl
  rcases h.2 with ⟨hv, h0'⟩ | ⟨g, cap, cur, hv, _⟩
  · have hl := h.1
    rw [h0'] at hl
    have : dcl ds = [] := List.eq_nil_of_length_eq_zero (by omega)
    rw [this] at h0
    cases h0
  · injection hv with e1 e2 e3
    subst e1
    refine ⟨_, d.rp, d.rc, d.bp, d.bc, rfl, fun k v hk => ?_, hd d (List.mem_of_getElem? hd1)⟩
    rw [Addr.add_add]
    exact World.ownsRow.cells h (g := g) rfl _ _ (dcl_at ds j d k v hd1 hk)
theorem frames_many : Many Try.prog 26 (.agg #[.int .i64 0, .int .i64 0, .int .i64 0, .slice none 0 0, .slice none 0 0, .int .u8 0, .int .u8 0, .int .u8 0, .int .u8 0, .int .u8 0, .int .u8 0, .int .u8 0, .int .u8 0]) 80 13 := ⟨by kernel_rfl⟩
def ob : Option Addr → List Nat
  | some a => [a.block]
  | none => []
theorem ob_own (sp : Option Addr) (n c : Nat) (b : Nat) : (Value.slice sp n c).ownBlock = some b ↔ b ∈ ob sp := by
  cases sp with
  | none => exact ⟨fun h => (by cases h), fun h => (by cases h)⟩
  | some a =>
    constructor
    · intro h; injection h with h; subst h; exact List.mem_cons_self
    · intro h; obtain rfl := List.mem_singleton.1 h; rfl
def dck (fs : List Frm) : Except Int (List Frm) → Except Int (List Frm)
  | .error e => .error e
  | .ok q => .ok (fs ++ q)
def dcons (f : Frm) : Except Int (List Frm) → Except Int (List Frm)
  | .error e => .error e
  | .ok q => .ok (f :: q)
theorem dck_nil (x : Except Int (List Frm)) : dck [] x = x := by cases x <;> rfl
theorem dck_one (fs : List Frm) (f : Frm) (x : Except Int (List Frm)) : dck fs (dcons f x) = dck (fs ++ [f]) x := by
  cases x with
  | error e => rfl
  | ok q => show Except.ok (fs ++ f :: q) = Except.ok (fs ++ [f] ++ q); rw [List.append_assoc]; rfl
theorem dc_kind {n : Nat} {k : Int} {b : List Int} (h : k < 1 ∨ 7 < k) : dc (n + 1) (k :: b) = .error 100 := by unfold dc; rw [if_pos h]
theorem dc_err {n : Nat} {k : Int} {b : List Int} {e : Int} (h : ¬ (k < 1 ∨ 7 < k)) (h2 : fp k b = .error e) : dc (n + 1) (k :: b) = .error e := by unfold dc; rw [if_neg h, h2]
theorem dc_bad {n : Nat} {k : Int} {b r : List Int} {f : Frm} (h : ¬ (k < 1 ∨ 7 < k)) (h2 : fp k b = .ok (f, r)) (h3 : fok f = false) : dc (n + 1) (k :: b) = .error 100 := by unfold dc; rw [if_neg h, h2]; simp only; rw [if_pos h3]
theorem dc_one {n : Nat} {k : Int} {b r : List Int} {f : Frm} (h : ¬ (k < 1 ∨ 7 < k)) (h2 : fp k b = .ok (f, r)) (h3 : fok f = true) : dc (n + 1) (k :: b) = dcons f (dc n r) := by
  generalize hx : dc n r = x
  unfold dc
  rw [if_neg h, h2]
  simp only
  rw [h3, if_neg (by decide), hx]
  cases x <;> rfl
theorem dc_end (n : Nat) : dc n [] = .ok [] := by cases n <;> rfl
end Go.Proofs.Yteaamgjlkohfcaa

namespace Go.Proofs.Yteaamgjlkohfcaa
open Go.RowKit

theorem bl_tail (x : Int) (t : List Int) (j : Nat) : bl (x :: t) (1 + j) = bl t j := by rw [Nat.add_comm]; rfl
theorem ob_lt {w : World} {base size n : Nat} {e : TypeId} {vp : Option Addr} {vc : Nat} {xs : List Value} (h : w.ownsRow base e size (.slice vp n vc) n xs) : ∀ x ∈ ob vp, base ≤ x ∧ x < w.heap.size := fun x hx => World.ownsRow.lt h x ((ob_own vp n vc x).2 hx)

end Go.Proofs.Yteaamgjlkohfcaa

namespace Go.Proofs.Yteaamgjlkohfcaa
open Go.RowKit

theorem Mm.boxC {w0 w : World} {l : List (Nat × List Value)} (h : Mm w0 l w) (c : Array Value) (t : TypeId) (f : Nat × Nat) (b : Nat) (hb : b = w.heap.size) (hf : c.size ≤ f.1) : Mm w0 ((b, c.toList) :: l) (w.alloc (.cells c t f)) := by
  subst hb
  have hc := h.call ((Below.refl w.heap.size w).alloc (Nat.le_refl _) (.cells c t f))
  refine ⟨fun p hp => ?_, List.pairwise_cons.2 ⟨fun q hq e => ?_, h.apart⟩, hc.below⟩
  · rcases List.mem_cons.1 hp with rfl | hp
    · have e : (w.alloc (.cells c t f)).heap[w.heap.size]? = some (.cells c t f) := by
        show (w.heap.push _)[w.heap.size]? = _
        simp
      refine ⟨fun j hj => ⟨?_, ?_⟩, h.below.size, by simp⟩
      · simp only [World.cell?, e]
        simp
      · have : j < c.size := by simpa using hj
        unfold World.frozen?
        rw [e]
        simp
        omega
    · exact hc.rows p hp
  · have := (h.rows q hq).2.2
    simp only at e
    omega
theorem Mm.src {w0 w : World} {l : List (Nat × List Value)} (h : Mm w0 l w) {b : Nat} {cs : List Value} (hp : (b, cs) ∈ l) (bs : List Int) (hc : cs = bs.map (Value.int .u8)) : Src w (some ⟨b, 0, none⟩) bs.length (bl bs) := fun j hj => ⟨_, rfl, by
  rw [Addr.add_mid, Nat.zero_add]
  refine h.get hp j _ ?_
  rw [hc, List.getElem?_map, List.getElem?_eq_getElem hj]
  show some (Value.int .u8 bs[j]) = _
  unfold bl
  rw [List.getD_eq_getElem?_getD, List.getElem?_eq_getElem hj]
  rfl⟩
theorem Mm.frs {w0 w : World} {l : List (Nat × List Value)} (h : Mm w0 l w) {b : Nat} {cs : List Value} (hp : (b, cs) ∈ l) (ds : List Dt) (hc : cs = dcl ds) (hd : ∀ d ∈ ds, FV w d.f d.rp d.rc d.bp d.bc) : Frs w (some ⟨b, 0, none⟩) (ds.map (·.f)) := fun j f hj => by
  rw [List.getElem?_map] at hj
  obtain ⟨d, hd1, rfl⟩ := Option.map_eq_some_iff.1 hj
  refine ⟨_, d.rp, d.rc, d.bp, d.bc, rfl, fun k v hk => ?_, hd d (List.mem_of_getElem? hd1)⟩
  rw [Addr.add_add, Addr.add_mid, Nat.zero_add]
  exact h.get hp _ v (by rw [hc]; exact dcl_at ds j d k v hd1 hk)
theorem Mm.rg {w0 w : World} {l : List (Nat × List Value)} (h : Mm w0 l w) {b : Nat} {cs : List Value} (hp : (b, cs) ∈ l) (rs : List (Int × Int)) (hc : cs = rcl rs) : Rg w (some ⟨b, 0, none⟩) rs := fun j hj => by
  have h1 := rcl_at rs j hj
  rw [← hc] at h1
  exact ⟨_, rfl, by rw [Addr.add_mid, Nat.zero_add]; exact h.get hp _ _ h1.1, by rw [Addr.add_add, Addr.add_mid, Nat.zero_add]; exact h.get hp _ _ h1.2⟩
theorem de_len {b : List Int} : (exL (de b)).length ≤ 16 := by
  cases e : de b with
  | error x => exact Nat.zero_le _
  | ok l =>
    unfold de at e
    split at e
    · cases e
    · have key : ∀ (n : Nat) (b : List Int) (l : List Frm), dc n b = .ok l → l.length ≤ n := by
        intro n
        induction n with
        | zero =>
          intro b l h
          cases b with
          | nil => injection h with h; subst h; exact Nat.le_refl _
          | cons x t => cases h
        | succ n ih =>
          intro b l h
          cases b with
          | nil => injection h with h; subst h; exact Nat.zero_le _
          | cons x t =>
            unfold dc at h
            split at h
            · cases h
            · split at h
              · cases h
              · split at h
                · cases h
                · split at h
                  · cases h
                  · rename_i hq
                    injection h with h
                    subst h
                    have := ih _ _ hq
                    rw [List.length_cons]
                    omega
      exact key 16 b l e

theorem exL_ok {α : Type} (l : List α) : exL (Except.ok l) = l := rfl
theorem exE_ok {α : Type} (l : α) : exE (Except.ok l) = 0 := rfl
theorem exL_er {α : Type} (e : Int) : exL (Except.error e : Except Int (List α)) = [] := rfl
theorem exE_er {α : Type} (e : Int) : exE (Except.error e : Except Int α) = e := rfl
theorem nm_ne {b : List Int} {e : Int} (h : nm b = .error e) : e ≠ 0 := by
  unfold nm at h
  split at h
  · cases h
  · rename_i hE; injection h with h; subst h; exact hE
theorem rd_ne : ∀ (n : Nat) (last : Int) (b : List Int) (e : Int), rd n last b = .error e → e ≠ 0
  | 0, _, _, _, h => by cases h
  | n + 1, last, b, e, h => by
    unfold rd at h
    split at h
    · rename_i h1; injection h with h; subst h; exact nm_ne h1
    · split at h
      · rename_i h1; injection h with h; subst h; exact nm_ne h1
      · split at h
        · injection h with h; subst h; decide
        · split at h
          · rename_i h1; injection h with h; subst h; exact rd_ne n _ _ _ h1
          · cases h
theorem tx_ne {b : List Int} {e : Int} (h : tx b = .error e) : e ≠ 0 := by
  unfold tx at h
  split at h
  · rename_i h1; injection h with h; subst h; exact nm_ne h1
  · split at h
    · injection h with h; subst h; decide
    · split at h
      · injection h with h; subst h; decide
      · cases h
theorem fp_ne {k : Int} {b : List Int} {e : Int} (h : fp k b = .error e) : e ≠ 0 := by
  unfold fp at h
  split at h
  · split at h
    · injection h with h; subst h; decide
    · cases h
  · split at h
    · rename_i h1; injection h with h; subst h; exact nm_ne h1
    · split at h
      · split at h
        · rename_i h1; injection h with h; subst h; exact tx_ne h1
        · cases h
      · split at h
        · split at h
          · rename_i h1; injection h with h; subst h; exact nm_ne h1
          · split at h
            · rename_i h1; injection h with h; subst h; exact nm_ne h1
            · split at h
              · injection h with h; subst h; decide
              · split at h
                · rename_i h1; injection h with h; subst h; exact rd_ne _ _ _ _ h1
                · cases h
        · cases h
theorem dc_ne : ∀ (n : Nat) (b : List Int) (e : Int), dc n b = .error e → e ≠ 0
  | n, [], _, h => by cases n <;> cases h
  | 0, _ :: _, _, h => by injection h with h; subst h; decide
  | n + 1, k :: b, e, h => by
    unfold dc at h
    split at h
    · injection h with h; subst h; decide
    · split at h
      · rename_i h1; injection h with h; subst h; exact fp_ne h1
      · split at h
        · injection h with h; subst h; decide
        · split at h
          · rename_i h1; injection h with h; subst h; exact dc_ne n _ _ h1
          · cases h
theorem de_ne {b : List Int} {e : Int} (h : de b = .error e) : e ≠ 0 := by
  unfold de at h
  split at h
  · injection h with h; subst h; decide
  · exact dc_ne _ _ _ h
theorem en_ne {l : List Frm} {e : Int} (h : en l = .error e) : e ≠ 0 := by
  unfold en at h
  split at h
  · injection h with h; subst h; decide
  · split at h
    · injection h with h; subst h; decide
    · split at h
      · injection h with h; subst h; decide
      · cases h
theorem en_ok {l : List Frm} {x : List Int} (h : en l = .ok x) : l.length ≤ 16 ∧ l.all fok = true ∧ x = enb l ∧ x.length ≤ 256 := by
  unfold en at h
  split at h
  · cases h
  · split at h
    · cases h
    · split at h
      · cases h
      · rename_i h1 h2 h3
        injection h with h
        subst h
        exact ⟨by omega, by simpa using h2, rfl, by omega⟩
theorem ren_byts : ∀ (l : List (Int × Int)) (fr : Int) (ab : Bool) (up : Int), 0 ≤ fr → up ≤ MX → rok l fr ab up = true → Byts (ren l fr)
  | [], _, _, _, _, _, _ => fun x hx => by cases hx
  | p :: l, fr, ab, up, h0, hu, h => by
    obtain ⟨h1, h2, h3, h4⟩ := rok_cons h
    unfold MX at hu
    exact (vlst_byts _ (by omega)).app ((vlst_byts _ (by omega)).app (ren_byts l p.2 true up (by omega) hu h4))
theorem one_byts (k : Int) (hk : 0 ≤ k ∧ k < 256) {b : List Int} (h : Byts b) : Byts (k :: b) := fun x hx => by
  rcases List.mem_cons.1 hx with rfl | hx
  · exact hk
  · exact h x hx
theorem fen_byts (f : Frm) (h : Ok f) (hw : FrW f) : Byts (fen f) := by
  have nilB : Byts [] := fun x hx => by cases hx
  cases h using Ok.elim with
  | data a t h h1 h2 => exact one_byts 1 (by omega) ((vlst_byts a.toNat (by omega)).app ((vlst_byts t.length (by omega)).app hw.byt))
  | ack a l rs h hl hr h8 => exact one_byts 2 (by omega) ((vlst_byts a.toNat (by omega)).app ((vlst_byts l.toNat (by omega)).app ((vlst_byts rs.length (by omega)).app (ren_byts rs a true MX (by omega) (Int.le_refl _) hr))))
  | tok k t hk =>
    refine one_byts k (by omega) ?_
    show Byts (fbo ⟨k, 0, 0, [], [], t⟩)
    unfold fbo
    rw [if_pos hk]
    exact hw.tok
  | upd a h => exact one_byts 5 (by omega) ((vlst_byts a.toNat (by omega)).app nilB)
  | close a h => exact one_byts 6 (by omega) ((vlst_byts a.toNat (by omega)).app nilB)
  | got a l rs h hl hr h8 => exact one_byts 7 (by omega) ((vlst_byts a.toNat (by omega)).app ((vlst_byts l.toNat (by omega)).app ((vlst_byts rs.length (by omega)).app (ren_byts rs 0 false a (by omega) (by unfold MX; omega) hr))))
theorem enb_byts : ∀ (l : List Frm), l.all fok = true → (∀ f ∈ l, FrW f) → Byts (enb l)
  | [], _, _ => fun x hx => by cases hx
  | f :: l, h, hw => by
    rw [List.all_cons, Bool.and_eq_true] at h
    exact (fen_byts f ((fok_iff f).1 h.1) (hw f List.mem_cons_self)).app (enb_byts l h.2 fun g hg => hw g (List.mem_cons_of_mem _ hg))
theorem en_byts {l : List Frm} {x : List Int} (hw : ∀ f ∈ l, FrW f) (h : en l = .ok x) : Byts x := by
  obtain ⟨_, h2, h3, _⟩ := en_ok h
  rw [h3]
  exact enb_byts l h2 hw
set_option maxRecDepth 10000 in
set_option maxHeartbeats 32000000 in
theorem shown10 (hE : EncodeOK) (hD : DecodeOK) (w : World) : Calls Try.prog 9 #[] w fun e w' => e = .returned (.bool true) ∧ Below w.heap.size w w' := by
  have M := Mm.init w
  go_enter Try.func9, Try.ntmps9
  go_upto_region 1 with fail
  refine wp_region_list ?_
  refine actL (w' := w.alloc (.cells #[.int .u8 97, .int .u8 98] 5)) (.slice (some ⟨w.heap.size, 0, none⟩) 2 2) rfl (by kernel_rfl) ?_
  simp only [aP, lI, l0, lS]
  refine actL (w' := w.alloc (.cells #[.int .u8 97, .int .u8 98] 5 ((#[.int .u8 97, .int .u8 98] : Array Value).size, (#[.int .u8 97, .int .u8 98] : Array Value).size + 1))) (.slice (some ⟨w.heap.size, 0, none⟩) 2 2) rfl (conv_const 23 5 #[.int .u8 97, .int .u8 98] 2 2 _ rfl rfl Try.underlying23 Try.underlying5) ?_
  simp only [aP, lI, l0, lS]
  replace M := M.boxC #[.int .u8 97, .int .u8 98] 5 (((#[.int .u8 97, .int .u8 98] : Array Value)).size, ((#[.int .u8 97, .int .u8 98] : Array Value)).size + 1) w.heap.size rfl (Nat.le_refl _)
  generalize w.alloc (.cells #[.int .u8 97, .int .u8 98] 5 ((#[.int .u8 97, .int .u8 98] : Array Value).size, (#[.int .u8 97, .int .u8 98] : Array Value).size + 1)) = w1 at M  ⊢
  generalize w.heap.size = B1 at *
  replace M : Mm w [(B1, [.int .u8 97, .int .u8 98])] w1 := M
  refine readL (.agg #[.int .i64 1, .int .i64 5, .int .i64 0, .slice none 0 0, .slice (some ⟨B1, 0, none⟩) 2 2, .int .u8 0, .int .u8 0, .int .u8 0, .int .u8 0, .int .u8 0, .int .u8 0, .int .u8 0, .int .u8 0]) rfl (by kernel_rfl) ?_
  simp only [aP, lI, l0, lS]
  refine readL (.agg #[.int .i64 6, .int .i64 7, .int .i64 0, .slice none 0 0, .slice none 0 0, .int .u8 0, .int .u8 0, .int .u8 0, .int .u8 0, .int .u8 0, .int .u8 0, .int .u8 0, .int .u8 0]) rfl (by kernel_rfl) ?_
  simp only [aP, lI, l0, lS]
  refine actL (w' := w1.alloc (.cells #[.int .i64 1, .int .i64 5, .int .i64 0, .slice none 0 0, .slice (some ⟨B1, 0, none⟩) 2 2, .int .u8 0, .int .u8 0, .int .u8 0, .int .u8 0, .int .u8 0, .int .u8 0, .int .u8 0, .int .u8 0, .int .i64 6, .int .i64 7, .int .i64 0, .slice none 0 0, .slice none 0 0, .int .u8 0, .int .u8 0, .int .u8 0, .int .u8 0, .int .u8 0, .int .u8 0, .int .u8 0, .int .u8 0] 26)) (.slice (some ⟨w1.heap.size, 0, none⟩) 2 2) rfl (by kernel_rfl) ?_
  simp only [aP, lI, l0, lS]
  replace M := M.box #[.int .i64 1, .int .i64 5, .int .i64 0, .slice none 0 0, .slice (some ⟨B1, 0, none⟩) 2 2, .int .u8 0, .int .u8 0, .int .u8 0, .int .u8 0, .int .u8 0, .int .u8 0, .int .u8 0, .int .u8 0, .int .i64 6, .int .i64 7, .int .i64 0, .slice none 0 0, .slice none 0 0, .int .u8 0, .int .u8 0, .int .u8 0, .int .u8 0, .int .u8 0, .int .u8 0, .int .u8 0, .int .u8 0] 26 w1.heap.size rfl
  generalize w1.alloc (.cells #[.int .i64 1, .int .i64 5, .int .i64 0, .slice none 0 0, .slice (some ⟨B1, 0, none⟩) 2 2, .int .u8 0, .int .u8 0, .int .u8 0, .int .u8 0, .int .u8 0, .int .u8 0, .int .u8 0, .int .u8 0, .int .i64 6, .int .i64 7, .int .i64 0, .slice none 0 0, .slice none 0 0, .int .u8 0, .int .u8 0, .int .u8 0, .int .u8 0, .int .u8 0, .int .u8 0, .int .u8 0, .int .u8 0] 26) = w2 at M  ⊢
  generalize w1.heap.size = B2 at *
  replace M : Mm w [(B2, [.int .i64 1, .int .i64 5, .int .i64 0, .slice none 0 0, .slice (some ⟨B1, 0, none⟩) 2 2, .int .u8 0, .int .u8 0, .int .u8 0, .int .u8 0, .int .u8 0, .int .u8 0, .int .u8 0, .int .u8 0, .int .i64 6, .int .i64 7, .int .i64 0, .slice none 0 0, .slice none 0 0, .int .u8 0, .int .u8 0, .int .u8 0, .int .u8 0, .int .u8 0, .int .u8 0, .int .u8 0, .int .u8 0]), (B1, [.int .u8 97, .int .u8 98])] w2 := M
  have hF : Frs w2 (some ⟨B2, 0, none⟩) [⟨1, 5, 0, [], [97, 98], z8⟩, ⟨6, 7, 0, [], [], z8⟩] := M.frs List.mem_cons_self [⟨⟨1, 5, 0, [], [97, 98], z8⟩, none, 0, some ⟨B1, 0, none⟩, 2⟩, ⟨⟨6, 7, 0, [], [], z8⟩, none, 0, none, 0⟩] rfl (fun d hd => by
    rcases List.mem_cons.1 hd with rfl | hd
    · exact ⟨fun j hj => absurd hj (Nat.not_lt_zero j), Nat.le_refl _, fun _ => rfl, Nat.zero_le _, M.src (List.mem_cons_of_mem _ List.mem_cons_self) [97, 98] rfl, Nat.le_refl _, fun e => (by cases e), show (2 : Nat) ≤ 140737488351232 by decide, ⟨show Byts [97, 98] by intro x hx; simp at hx; omega, z8_w, rfl⟩, show i64 1 by unfold i64; decide, show i64 5 by unfold i64; decide, show i64 0 by unfold i64; decide⟩
    · obtain rfl := List.mem_singleton.1 hd
      exact fv_nil _ _ _ _ (by unfold i64; decide) (by unfold i64; decide) z8_w rfl)
  refine callL rfl (fun _ => by kernel_rfl) (hE (some ⟨B2, 0, none⟩) 2 ([⟨1, 5, 0, [], [97, 98], z8⟩, ⟨6, 7, 0, [], [], z8⟩]) _ (by decide) (by decide) (fun e => by cases e) hF) ?_
  rintro e w3 ⟨⟨v3, rfl, O_3⟩, l⟩
  replace M := M.call l
  clear l
  rw [show en ([⟨1, 5, 0, [], [97, 98], z8⟩, ⟨6, 7, 0, [], [], z8⟩]) = Except.ok [1, 5, 2, 97, 98, 6, 7] from by kernel_rfl] at O_3
  rw [show exE (en ([⟨1, 5, 0, [], [97, 98], z8⟩, ⟨6, 7, 0, [], [], z8⟩])) = 0 from by kernel_rfl]
  obtain ⟨p3, c3, rfl, _, _⟩ := O_3.bytes
  refine ⟨_, rfl, ?_⟩
  simp only [aP, lI, l0, lS]
  refine readL (.tuple #[.slice p3 ((exL (Except.ok [1, 5, 2, 97, 98, 6, 7])).length) c3, .int .i64 0]) rfl (by kernel_rfl) ?_
  simp only [aP, lI, l0, lS]
  refine readL (.slice p3 ((exL (Except.ok [1, 5, 2, 97, 98, 6, 7])).length) c3) rfl (by kernel_rfl) ?_
  simp only [aP, lI, l0, lS]
  refine readL (.int .i64 0) rfl (by kernel_rfl) ?_
  simp only [aP, lI, l0, lS]
  refine readL (.slice p3 ((exL (Except.ok [1, 5, 2, 97, 98, 6, 7])).length) c3) rfl (by kernel_rfl) ?_
  simp only [aP, lI, l0, lS]
  refine readL (.int .i64 0) rfl (by kernel_rfl) ?_
  simp only [aP, lI, l0, lS]
  first | show Exit.then _ _ _ _ _ | show Exit.inBlock _ _ _ _ _
  go_upto_region 2 with fail
  refine wp_region_list ?_
  refine readL (.agg #[.int .i64 6, .int .i64 8]) rfl (by kernel_rfl) ?_
  simp only [aP, lI, l0, lS]
  refine readL (.agg #[.int .i64 10, .int .i64 11]) rfl (by kernel_rfl) ?_
  simp only [aP, lI, l0, lS]
  refine actL (w' := w3.alloc (.cells #[.int .i64 6, .int .i64 8, .int .i64 10, .int .i64 11] 43)) (.slice (some ⟨w3.heap.size, 0, none⟩) 2 2) rfl (by kernel_rfl) ?_
  simp only [aP, lI, l0, lS]
  have hlb := (Below.refl w3.heap.size w3).alloc (Nat.le_refl _) (.cells #[.int .i64 6, .int .i64 8, .int .i64 10, .int .i64 11] 43)
  replace O_3 := O_3.below hlb
  clear hlb
  replace M := M.box #[.int .i64 6, .int .i64 8, .int .i64 10, .int .i64 11] 43 w3.heap.size rfl
  generalize w3.alloc (.cells #[.int .i64 6, .int .i64 8, .int .i64 10, .int .i64 11] 43) = w4 at M O_3 ⊢
  generalize w3.heap.size = B4 at *
  replace M : Mm w [(B4, [.int .i64 6, .int .i64 8, .int .i64 10, .int .i64 11]), (B2, [.int .i64 1, .int .i64 5, .int .i64 0, .slice none 0 0, .slice (some ⟨B1, 0, none⟩) 2 2, .int .u8 0, .int .u8 0, .int .u8 0, .int .u8 0, .int .u8 0, .int .u8 0, .int .u8 0, .int .u8 0, .int .i64 6, .int .i64 7, .int .i64 0, .slice none 0 0, .slice none 0 0, .int .u8 0, .int .u8 0, .int .u8 0, .int .u8 0, .int .u8 0, .int .u8 0, .int .u8 0, .int .u8 0]), (B1, [.int .u8 97, .int .u8 98])] w4 := M
  refine readL (.agg #[.int .i64 2, .int .i64 5, .int .i64 9, .slice (some ⟨B4, 0, none⟩) 2 2, .slice none 0 0, .int .u8 0, .int .u8 0, .int .u8 0, .int .u8 0, .int .u8 0, .int .u8 0, .int .u8 0, .int .u8 0]) rfl (by kernel_rfl) ?_
  simp only [aP, lI, l0, lS]
  refine actL (w' := w4.alloc (.cells #[.int .i64 2, .int .i64 5, .int .i64 9, .slice (some ⟨B4, 0, none⟩) 2 2, .slice none 0 0, .int .u8 0, .int .u8 0, .int .u8 0, .int .u8 0, .int .u8 0, .int .u8 0, .int .u8 0, .int .u8 0] 26)) (.slice (some ⟨w4.heap.size, 0, none⟩) 1 1) rfl (by kernel_rfl) ?_
  simp only [aP, lI, l0, lS]
  have hlb := (Below.refl w4.heap.size w4).alloc (Nat.le_refl _) (.cells #[.int .i64 2, .int .i64 5, .int .i64 9, .slice (some ⟨B4, 0, none⟩) 2 2, .slice none 0 0, .int .u8 0, .int .u8 0, .int .u8 0, .int .u8 0, .int .u8 0, .int .u8 0, .int .u8 0, .int .u8 0] 26)
  replace O_3 := O_3.below hlb
  clear hlb
  replace M := M.box #[.int .i64 2, .int .i64 5, .int .i64 9, .slice (some ⟨B4, 0, none⟩) 2 2, .slice none 0 0, .int .u8 0, .int .u8 0, .int .u8 0, .int .u8 0, .int .u8 0, .int .u8 0, .int .u8 0, .int .u8 0] 26 w4.heap.size rfl
  generalize w4.alloc (.cells #[.int .i64 2, .int .i64 5, .int .i64 9, .slice (some ⟨B4, 0, none⟩) 2 2, .slice none 0 0, .int .u8 0, .int .u8 0, .int .u8 0, .int .u8 0, .int .u8 0, .int .u8 0, .int .u8 0, .int .u8 0] 26) = w5 at M O_3 ⊢
  generalize w4.heap.size = B5 at *
  replace M : Mm w [(B5, [.int .i64 2, .int .i64 5, .int .i64 9, .slice (some ⟨B4, 0, none⟩) 2 2, .slice none 0 0, .int .u8 0, .int .u8 0, .int .u8 0, .int .u8 0, .int .u8 0, .int .u8 0, .int .u8 0, .int .u8 0]), (B4, [.int .i64 6, .int .i64 8, .int .i64 10, .int .i64 11]), (B2, [.int .i64 1, .int .i64 5, .int .i64 0, .slice none 0 0, .slice (some ⟨B1, 0, none⟩) 2 2, .int .u8 0, .int .u8 0, .int .u8 0, .int .u8 0, .int .u8 0, .int .u8 0, .int .u8 0, .int .u8 0, .int .i64 6, .int .i64 7, .int .i64 0, .slice none 0 0, .slice none 0 0, .int .u8 0, .int .u8 0, .int .u8 0, .int .u8 0, .int .u8 0, .int .u8 0, .int .u8 0, .int .u8 0]), (B1, [.int .u8 97, .int .u8 98])] w5 := M
  have hF : Frs w5 (some ⟨B5, 0, none⟩) [⟨2, 5, 9, [(6, 8), (10, 11)], [], z8⟩] := M.frs List.mem_cons_self [⟨⟨2, 5, 9, [(6, 8), (10, 11)], [], z8⟩, some ⟨B4, 0, none⟩, 2, none, 0⟩] rfl (fun d hd => by
    obtain rfl := List.mem_singleton.1 hd
    exact ⟨M.rg (List.mem_cons_of_mem _ List.mem_cons_self) [(6, 8), (10, 11)] rfl, Nat.le_refl _, fun e => (by cases e), show (2 : Nat) ≤ 140737488351232 by decide, fun j hj => absurd hj (Nat.not_lt_zero j), Nat.le_refl _, fun _ => rfl, Nat.zero_le _, ⟨fun x hx => (by cases hx), z8_w, rfl⟩, show i64 2 by unfold i64; decide, show i64 5 by unfold i64; decide, show i64 9 by unfold i64; decide⟩)
  refine callL rfl (fun _ => by kernel_rfl) (hE (some ⟨B5, 0, none⟩) 1 ([⟨2, 5, 9, [(6, 8), (10, 11)], [], z8⟩]) _ (by decide) (by decide) (fun e => by cases e) hF) ?_
  rintro e w6 ⟨⟨v6, rfl, O_6⟩, l⟩
  replace M := M.call l
  replace O_3 := O_3.below l
  clear l
  rw [show en ([⟨2, 5, 9, [(6, 8), (10, 11)], [], z8⟩]) = Except.ok [2, 5, 9, 2, 1, 2, 2, 1] from by kernel_rfl] at O_6
  rw [show exE (en ([⟨2, 5, 9, [(6, 8), (10, 11)], [], z8⟩])) = 0 from by kernel_rfl]
  obtain ⟨p6, c6, rfl, _, _⟩ := O_6.bytes
  refine ⟨_, rfl, ?_⟩
  simp only [aP, lI, l0, lS]
  refine readL (.tuple #[.slice p6 ((exL (Except.ok [2, 5, 9, 2, 1, 2, 2, 1])).length) c6, .int .i64 0]) rfl (by kernel_rfl) ?_
  simp only [aP, lI, l0, lS]
  refine readL (.slice p6 ((exL (Except.ok [2, 5, 9, 2, 1, 2, 2, 1])).length) c6) rfl (by kernel_rfl) ?_
  simp only [aP, lI, l0, lS]
  refine readL (.int .i64 0) rfl (by kernel_rfl) ?_
  simp only [aP, lI, l0, lS]
  refine readL (.slice p6 ((exL (Except.ok [2, 5, 9, 2, 1, 2, 2, 1])).length) c6) rfl (by kernel_rfl) ?_
  simp only [aP, lI, l0, lS]
  refine readL (.int .i64 0) rfl (by kernel_rfl) ?_
  simp only [aP, lI, l0, lS]
  first | show Exit.then _ _ _ _ _ | show Exit.inBlock _ _ _ _ _
  go_upto_region 3 with fail
  refine wp_region_list ?_
  refine actL (w' := w6.alloc (.cells #[.int .u8 1, .int .u8 5, .int .u8 0] 5)) (.slice (some ⟨w6.heap.size, 0, none⟩) 3 3) rfl (by kernel_rfl) ?_
  simp only [aP, lI, l0, lS]
  have hlb := (Below.refl w6.heap.size w6).alloc (Nat.le_refl _) (.cells #[.int .u8 1, .int .u8 5, .int .u8 0] 5)
  replace O_3 := O_3.below hlb
  replace O_6 := O_6.below hlb
  clear hlb
  replace M := M.box #[.int .u8 1, .int .u8 5, .int .u8 0] 5 w6.heap.size rfl
  generalize w6.alloc (.cells #[.int .u8 1, .int .u8 5, .int .u8 0] 5) = w7 at M O_3 O_6 ⊢
  generalize w6.heap.size = B7 at *
  replace M : Mm w [(B7, [.int .u8 1, .int .u8 5, .int .u8 0]), (B5, [.int .i64 2, .int .i64 5, .int .i64 9, .slice (some ⟨B4, 0, none⟩) 2 2, .slice none 0 0, .int .u8 0, .int .u8 0, .int .u8 0, .int .u8 0, .int .u8 0, .int .u8 0, .int .u8 0, .int .u8 0]), (B4, [.int .i64 6, .int .i64 8, .int .i64 10, .int .i64 11]), (B2, [.int .i64 1, .int .i64 5, .int .i64 0, .slice none 0 0, .slice (some ⟨B1, 0, none⟩) 2 2, .int .u8 0, .int .u8 0, .int .u8 0, .int .u8 0, .int .u8 0, .int .u8 0, .int .u8 0, .int .u8 0, .int .i64 6, .int .i64 7, .int .i64 0, .slice none 0 0, .slice none 0 0, .int .u8 0, .int .u8 0, .int .u8 0, .int .u8 0, .int .u8 0, .int .u8 0, .int .u8 0, .int .u8 0]), (B1, [.int .u8 97, .int .u8 98])] w7 := M
  refine callL rfl (fun _ => by kernel_rfl) (hD (some ⟨B7, 0, none⟩) 3 ([1, 5, 0]) _ (by decide) (by decide) (fun e => by cases e) (by intro x hx; simp at hx; omega) (M.src List.mem_cons_self [1, 5, 0] rfl)) ?_
  rintro e w8 ⟨⟨p8, c8, rfl, hle8, hnil8, F_8⟩, l⟩
  replace M := M.call l
  replace O_3 := O_3.below l
  replace O_6 := O_6.below l
  clear l
  rw [show de ([1, 5, 0]) = .error 100 from by kernel_rfl] at F_8 hle8
  rw [show de ([1, 5, 0]) = .error 100 from by kernel_rfl]
  refine ⟨_, rfl, ?_⟩
  simp only [aP, lI, l0, lS]
  refine readL (.tuple #[.slice p8 ((exL (.error 100 : Except Int (List Frm))).length) c8, .int .i64 100]) rfl (by kernel_rfl) ?_
  simp only [aP, lI, l0, lS]
  refine readL (.slice p8 ((exL (.error 100 : Except Int (List Frm))).length) c8) rfl (by kernel_rfl) ?_
  simp only [aP, lI, l0, lS]
  refine readL (.int .i64 100) rfl (by kernel_rfl) ?_
  simp only [aP, lI, l0, lS]
  refine readL (.slice p8 ((exL (.error 100 : Except Int (List Frm))).length) c8) rfl (by kernel_rfl) ?_
  simp only [aP, lI, l0, lS]
  refine readL (.int .i64 100) rfl (by kernel_rfl) ?_
  simp only [aP, lI, l0, lS]
  first | show Exit.then _ _ _ _ _ | show Exit.inBlock _ _ _ _ _
  go_upto_region 4 with fail
  refine wp_region_list ?_
  refine actL (w' := w8.alloc (.cells #[.int .u8 8] 5)) (.slice (some ⟨w8.heap.size, 0, none⟩) 1 1) rfl (by kernel_rfl) ?_
  simp only [aP, lI, l0, lS]
  have hlb := (Below.refl w8.heap.size w8).alloc (Nat.le_refl _) (.cells #[.int .u8 8] 5)
  replace O_3 := O_3.below hlb
  replace O_6 := O_6.below hlb
  replace F_8 := F_8.below hlb (Nat.le_refl _)
  clear hlb
  replace M := M.box #[.int .u8 8] 5 w8.heap.size rfl
  generalize w8.alloc (.cells #[.int .u8 8] 5) = w9 at M O_3 O_6 F_8 ⊢
  generalize w8.heap.size = B9 at *
  replace M : Mm w [(B9, [.int .u8 8]), (B7, [.int .u8 1, .int .u8 5, .int .u8 0]), (B5, [.int .i64 2, .int .i64 5, .int .i64 9, .slice (some ⟨B4, 0, none⟩) 2 2, .slice none 0 0, .int .u8 0, .int .u8 0, .int .u8 0, .int .u8 0, .int .u8 0, .int .u8 0, .int .u8 0, .int .u8 0]), (B4, [.int .i64 6, .int .i64 8, .int .i64 10, .int .i64 11]), (B2, [.int .i64 1, .int .i64 5, .int .i64 0, .slice none 0 0, .slice (some ⟨B1, 0, none⟩) 2 2, .int .u8 0, .int .u8 0, .int .u8 0, .int .u8 0, .int .u8 0, .int .u8 0, .int .u8 0, .int .u8 0, .int .i64 6, .int .i64 7, .int .i64 0, .slice none 0 0, .slice none 0 0, .int .u8 0, .int .u8 0, .int .u8 0, .int .u8 0, .int .u8 0, .int .u8 0, .int .u8 0, .int .u8 0]), (B1, [.int .u8 97, .int .u8 98])] w9 := M
  refine callL rfl (fun _ => by kernel_rfl) (hD (some ⟨B9, 0, none⟩) 1 ([8]) _ (by decide) (by decide) (fun e => by cases e) (by intro x hx; simp at hx; omega) (M.src List.mem_cons_self [8] rfl)) ?_
  rintro e w10 ⟨⟨p10, c10, rfl, hle10, hnil10, F_10⟩, l⟩
  replace M := M.call l
  replace O_3 := O_3.below l
  replace O_6 := O_6.below l
  replace F_8 := F_8.below l (Nat.le_refl _)
  clear l
  rw [show de ([8]) = .error 100 from by kernel_rfl] at F_10 hle10
  rw [show de ([8]) = .error 100 from by kernel_rfl]
  refine ⟨_, rfl, ?_⟩
  simp only [aP, lI, l0, lS]
  refine readL (.tuple #[.slice p10 ((exL (.error 100 : Except Int (List Frm))).length) c10, .int .i64 100]) rfl (by kernel_rfl) ?_
  simp only [aP, lI, l0, lS]
  refine readL (.slice p10 ((exL (.error 100 : Except Int (List Frm))).length) c10) rfl (by kernel_rfl) ?_
  simp only [aP, lI, l0, lS]
  refine readL (.int .i64 100) rfl (by kernel_rfl) ?_
  simp only [aP, lI, l0, lS]
  refine readL (.slice p10 ((exL (.error 100 : Except Int (List Frm))).length) c10) rfl (by kernel_rfl) ?_
  simp only [aP, lI, l0, lS]
  refine readL (.int .i64 100) rfl (by kernel_rfl) ?_
  simp only [aP, lI, l0, lS]
  first | show Exit.then _ _ _ _ _ | show Exit.inBlock _ _ _ _ _
  go_upto_region 5 with fail
  refine wp_region_list ?_
  refine actL (w' := w10.alloc (.cells #[.int .u8 6, .int .u8 64, .int .u8 7] 5)) (.slice (some ⟨w10.heap.size, 0, none⟩) 3 3) rfl (by kernel_rfl) ?_
  simp only [aP, lI, l0, lS]
  have hlb := (Below.refl w10.heap.size w10).alloc (Nat.le_refl _) (.cells #[.int .u8 6, .int .u8 64, .int .u8 7] 5)
  replace O_3 := O_3.below hlb
  replace O_6 := O_6.below hlb
  replace F_8 := F_8.below hlb (Nat.le_refl _)
  replace F_10 := F_10.below hlb (Nat.le_refl _)
  clear hlb
  replace M := M.box #[.int .u8 6, .int .u8 64, .int .u8 7] 5 w10.heap.size rfl
  generalize w10.alloc (.cells #[.int .u8 6, .int .u8 64, .int .u8 7] 5) = w11 at M O_3 O_6 F_8 F_10 ⊢
  generalize w10.heap.size = B11 at *
  replace M : Mm w [(B11, [.int .u8 6, .int .u8 64, .int .u8 7]), (B9, [.int .u8 8]), (B7, [.int .u8 1, .int .u8 5, .int .u8 0]), (B5, [.int .i64 2, .int .i64 5, .int .i64 9, .slice (some ⟨B4, 0, none⟩) 2 2, .slice none 0 0, .int .u8 0, .int .u8 0, .int .u8 0, .int .u8 0, .int .u8 0, .int .u8 0, .int .u8 0, .int .u8 0]), (B4, [.int .i64 6, .int .i64 8, .int .i64 10, .int .i64 11]), (B2, [.int .i64 1, .int .i64 5, .int .i64 0, .slice none 0 0, .slice (some ⟨B1, 0, none⟩) 2 2, .int .u8 0, .int .u8 0, .int .u8 0, .int .u8 0, .int .u8 0, .int .u8 0, .int .u8 0, .int .u8 0, .int .i64 6, .int .i64 7, .int .i64 0, .slice none 0 0, .slice none 0 0, .int .u8 0, .int .u8 0, .int .u8 0, .int .u8 0, .int .u8 0, .int .u8 0, .int .u8 0, .int .u8 0]), (B1, [.int .u8 97, .int .u8 98])] w11 := M
  refine callL rfl (fun _ => by kernel_rfl) (hD (some ⟨B11, 0, none⟩) 3 ([6, 64, 7]) _ (by decide) (by decide) (fun e => by cases e) (by intro x hx; simp at hx; omega) (M.src List.mem_cons_self [6, 64, 7] rfl)) ?_
  rintro e w12 ⟨⟨p12, c12, rfl, hle12, hnil12, F_12⟩, l⟩
  replace M := M.call l
  replace O_3 := O_3.below l
  replace O_6 := O_6.below l
  replace F_8 := F_8.below l (Nat.le_refl _)
  replace F_10 := F_10.below l (Nat.le_refl _)
  clear l
  rw [show de ([6, 64, 7]) = .error 90 from by kernel_rfl] at F_12 hle12
  rw [show de ([6, 64, 7]) = .error 90 from by kernel_rfl]
  refine ⟨_, rfl, ?_⟩
  simp only [aP, lI, l0, lS]
  refine readL (.tuple #[.slice p12 ((exL (.error 90 : Except Int (List Frm))).length) c12, .int .i64 90]) rfl (by kernel_rfl) ?_
  simp only [aP, lI, l0, lS]
  refine readL (.slice p12 ((exL (.error 90 : Except Int (List Frm))).length) c12) rfl (by kernel_rfl) ?_
  simp only [aP, lI, l0, lS]
  refine readL (.int .i64 90) rfl (by kernel_rfl) ?_
  simp only [aP, lI, l0, lS]
  refine readL (.slice p12 ((exL (.error 90 : Except Int (List Frm))).length) c12) rfl (by kernel_rfl) ?_
  simp only [aP, lI, l0, lS]
  refine readL (.int .i64 90) rfl (by kernel_rfl) ?_
  simp only [aP, lI, l0, lS]
  first | show Exit.then _ _ _ _ _ | show Exit.inBlock _ _ _ _ _
  go_upto_region 6 with fail
  refine wp_region_list ?_
  refine actL (w' := w12.alloc (.cells #[.int .u8 1, .int .u8 5, .int .u8 2, .int .u8 97] 5)) (.slice (some ⟨w12.heap.size, 0, none⟩) 4 4) rfl (by kernel_rfl) ?_
  simp only [aP, lI, l0, lS]
  have hlb := (Below.refl w12.heap.size w12).alloc (Nat.le_refl _) (.cells #[.int .u8 1, .int .u8 5, .int .u8 2, .int .u8 97] 5)
  replace O_3 := O_3.below hlb
  replace O_6 := O_6.below hlb
  replace F_8 := F_8.below hlb (Nat.le_refl _)
  replace F_10 := F_10.below hlb (Nat.le_refl _)
  replace F_12 := F_12.below hlb (Nat.le_refl _)
  clear hlb
  replace M := M.box #[.int .u8 1, .int .u8 5, .int .u8 2, .int .u8 97] 5 w12.heap.size rfl
  generalize w12.alloc (.cells #[.int .u8 1, .int .u8 5, .int .u8 2, .int .u8 97] 5) = w13 at M O_3 O_6 F_8 F_10 F_12 ⊢
  generalize w12.heap.size = B13 at *
  replace M : Mm w [(B13, [.int .u8 1, .int .u8 5, .int .u8 2, .int .u8 97]), (B11, [.int .u8 6, .int .u8 64, .int .u8 7]), (B9, [.int .u8 8]), (B7, [.int .u8 1, .int .u8 5, .int .u8 0]), (B5, [.int .i64 2, .int .i64 5, .int .i64 9, .slice (some ⟨B4, 0, none⟩) 2 2, .slice none 0 0, .int .u8 0, .int .u8 0, .int .u8 0, .int .u8 0, .int .u8 0, .int .u8 0, .int .u8 0, .int .u8 0]), (B4, [.int .i64 6, .int .i64 8, .int .i64 10, .int .i64 11]), (B2, [.int .i64 1, .int .i64 5, .int .i64 0, .slice none 0 0, .slice (some ⟨B1, 0, none⟩) 2 2, .int .u8 0, .int .u8 0, .int .u8 0, .int .u8 0, .int .u8 0, .int .u8 0, .int .u8 0, .int .u8 0, .int .i64 6, .int .i64 7, .int .i64 0, .slice none 0 0, .slice none 0 0, .int .u8 0, .int .u8 0, .int .u8 0, .int .u8 0, .int .u8 0, .int .u8 0, .int .u8 0, .int .u8 0]), (B1, [.int .u8 97, .int .u8 98])] w13 := M
  refine callL rfl (fun _ => by kernel_rfl) (hD (some ⟨B13, 0, none⟩) 4 ([1, 5, 2, 97]) _ (by decide) (by decide) (fun e => by cases e) (by intro x hx; simp at hx; omega) (M.src List.mem_cons_self [1, 5, 2, 97] rfl)) ?_
  rintro e w14 ⟨⟨p14, c14, rfl, hle14, hnil14, F_14⟩, l⟩
  replace M := M.call l
  replace O_3 := O_3.below l
  replace O_6 := O_6.below l
  replace F_8 := F_8.below l (Nat.le_refl _)
  replace F_10 := F_10.below l (Nat.le_refl _)
  replace F_12 := F_12.below l (Nat.le_refl _)
  clear l
  rw [show de ([1, 5, 2, 97]) = .error 3 from by kernel_rfl] at F_14 hle14
  rw [show de ([1, 5, 2, 97]) = .error 3 from by kernel_rfl]
  refine ⟨_, rfl, ?_⟩
  simp only [aP, lI, l0, lS]
  refine readL (.tuple #[.slice p14 ((exL (.error 3 : Except Int (List Frm))).length) c14, .int .i64 3]) rfl (by kernel_rfl) ?_
  simp only [aP, lI, l0, lS]
  refine readL (.slice p14 ((exL (.error 3 : Except Int (List Frm))).length) c14) rfl (by kernel_rfl) ?_
  simp only [aP, lI, l0, lS]
  refine readL (.int .i64 3) rfl (by kernel_rfl) ?_
  simp only [aP, lI, l0, lS]
  refine readL (.slice p14 ((exL (.error 3 : Except Int (List Frm))).length) c14) rfl (by kernel_rfl) ?_
  simp only [aP, lI, l0, lS]
  refine readL (.int .i64 3) rfl (by kernel_rfl) ?_
  simp only [aP, lI, l0, lS]
  first | show Exit.then _ _ _ _ _ | show Exit.inBlock _ _ _ _ _
  go_upto_region 7 with fail
  refine wp_region_list ?_
  refine readL (.slice p3 ((exL (Except.ok [1, 5, 2, 97, 98, 6, 7])).length) c3) rfl (by kernel_rfl) ?_
  simp only [aP, lI, l0, lS]
  refine readL (.string (txt ((exL (Except.ok [1, 5, 2, 97, 98, 6, 7])).length) (bl (exL (Except.ok [1, 5, 2, 97, 98, 6, 7]))))) rfl (conv_txt 23 5 9 _ rfl Try.underlying23 Try.underlying5 Try.underlying9 p3 ((exL (Except.ok [1, 5, 2, 97, 98, 6, 7])).length) c3 (bl (exL (Except.ok [1, 5, 2, 97, 98, 6, 7]))) rfl _ O_3.src (fun e => by have h1 := O_3.nilCap e; have h2 := O_3.le; omega)) ?_
  simp only [aP, lI, l0, lS]
  refine readL (.bool true) rfl (eqlS _ _ _ _ _ _ rfl rfl rfl (by kernel_rfl) _) ?_
  simp only [aP, lI, l0, lS]
  refine readL (.bool true) rfl (by kernel_rfl) ?_
  simp only [aP, lI, l0, lS]
  refine readL (.int .i64 0) rfl (by kernel_rfl) ?_
  simp only [aP, lI, l0, lS]
  refine readL (.bool true) rfl (eqlI .i64 _ _ _ _ _ _ rfl rfl rfl true (by decide) _) ?_
  simp only [aP, lI, l0, lS]
  refine readL (.bool true) rfl (by kernel_rfl) ?_
  simp only [aP, lI, l0, lS]
  refine readL (.bool true) rfl (by kernel_rfl) ?_
  simp only [aP, lI, l0, lS]
  refine readL (.slice p6 ((exL (Except.ok [2, 5, 9, 2, 1, 2, 2, 1])).length) c6) rfl (by kernel_rfl) ?_
  simp only [aP, lI, l0, lS]
  refine readL (.string (txt ((exL (Except.ok [2, 5, 9, 2, 1, 2, 2, 1])).length) (bl (exL (Except.ok [2, 5, 9, 2, 1, 2, 2, 1]))))) rfl (conv_txt 23 5 9 _ rfl Try.underlying23 Try.underlying5 Try.underlying9 p6 ((exL (Except.ok [2, 5, 9, 2, 1, 2, 2, 1])).length) c6 (bl (exL (Except.ok [2, 5, 9, 2, 1, 2, 2, 1]))) rfl _ O_6.src (fun e => by have h1 := O_6.nilCap e; have h2 := O_6.le; omega)) ?_
  simp only [aP, lI, l0, lS]
  refine readL (.bool true) rfl (eqlS _ _ _ _ _ _ rfl rfl rfl (by kernel_rfl) _) ?_
  simp only [aP, lI, l0, lS]
  refine readL (.bool true) rfl (by kernel_rfl) ?_
  simp only [aP, lI, l0, lS]
  refine readL (.bool true) rfl (by kernel_rfl) ?_
  simp only [aP, lI, l0, lS]
  refine readL (.int .i64 0) rfl (by kernel_rfl) ?_
  simp only [aP, lI, l0, lS]
  refine readL (.bool true) rfl (eqlI .i64 _ _ _ _ _ _ rfl rfl rfl true (by decide) _) ?_
  simp only [aP, lI, l0, lS]
  refine readL (.bool true) rfl (by kernel_rfl) ?_
  simp only [aP, lI, l0, lS]
  refine readL (.bool true) rfl (by kernel_rfl) ?_
  simp only [aP, lI, l0, lS]
  refine readL (.int .i64 100) rfl (by kernel_rfl) ?_
  simp only [aP, lI, l0, lS]
  refine readL (.bool true) rfl (eqlI .i64 _ _ _ _ _ _ rfl rfl rfl true (by decide) _) ?_
  simp only [aP, lI, l0, lS]
  refine readL (.bool true) rfl (by kernel_rfl) ?_
  simp only [aP, lI, l0, lS]
  refine readL (.bool true) rfl (by kernel_rfl) ?_
  simp only [aP, lI, l0, lS]
  refine readL (.int .i64 100) rfl (by kernel_rfl) ?_
  simp only [aP, lI, l0, lS]
  refine readL (.bool true) rfl (eqlI .i64 _ _ _ _ _ _ rfl rfl rfl true (by decide) _) ?_
  simp only [aP, lI, l0, lS]
  refine readL (.bool true) rfl (by kernel_rfl) ?_
  simp only [aP, lI, l0, lS]
  refine readL (.bool true) rfl (by kernel_rfl) ?_
  simp only [aP, lI, l0, lS]
  refine readL (.int .i64 90) rfl (by kernel_rfl) ?_
  simp only [aP, lI, l0, lS]
  refine readL (.bool true) rfl (eqlI .i64 _ _ _ _ _ _ rfl rfl rfl true (by decide) _) ?_
  simp only [aP, lI, l0, lS]
  refine readL (.bool true) rfl (by kernel_rfl) ?_
  simp only [aP, lI, l0, lS]
  refine readL (.bool true) rfl (by kernel_rfl) ?_
  simp only [aP, lI, l0, lS]
  refine readL (.int .i64 3) rfl (by kernel_rfl) ?_
  simp only [aP, lI, l0, lS]
  refine readL (.bool true) rfl (eqlI .i64 _ _ _ _ _ _ rfl rfl rfl true (by decide) _) ?_
  simp only [aP, lI, l0, lS]
  refine readL (.bool true) rfl (by kernel_rfl) ?_
  simp only [aP, lI, l0, lS]
  refine readL (.bool true) rfl (by kernel_rfl) ?_
  simp only [aP, lI, l0]
  first | show Exit.then _ _ _ _ _ | show Exit.inBlock _ _ _ _ _
  go_wp2
  go_ret
  exact ⟨rfl, M.below⟩
end Go.Proofs.Yteaamgjlkohfcaa

namespace Go.Proofs.Yteaamgjlkohfcaa
open Go.RowKit

set_option maxRecDepth 10000 in
set_option maxHeartbeats 32000000 in
theorem law_FramesBack (_hCk : CheckOK) (hSz : SizeOK) (hE : EncodeOK) (hD : DecodeOK) (sp : Option Addr) (cap : Nat) (fs : List Frm) (hn : fs.length ≤ 140737488351232) (hle : fs.length ≤ cap) (hnil : sp = none → cap = 0) (sq : Option Addr) (cq : Nat) (b : List Int) (hlen : b.length ≤ 140737488351232) (hcap : b.length ≤ cq) (hnil2 : sq = none → cq = 0) (hb : Byts b) (w : World) (hfs : Frs w sp fs) (hs : Src w sq b.length (bl b)) : Calls Try.prog 6 #[.slice sp fs.length cap, .slice sq b.length cq] w fun e w' => e = .returned (.bool true) ∧ Below w.heap.size w w' := by
  have M := Mm.init w
  go_enter Try.func6, Try.ntmps6
  go_upto_region 1 with fail
  refine wp_region_list ?_
  have hC : Calls Try.prog 9 #[] w (fun e w' => e = .returned (.bool true) ∧ Below w.heap.size w w') := (shown10 hE hD _)
  refine callL rfl (fun _ => by kernel_rfl) (hC) ?_
  rintro e w1 ⟨rfl, l⟩
  replace M := M.call l
  refine ⟨_, rfl, ?_⟩
  clear l hC
  simp only [aP, lI, l0, lS]
  refine readL (.bool true) rfl (by kernel_rfl) ?_
  simp only [aP, lI, l0, lS]
  first | show Exit.then _ _ _ _ _ | show Exit.inBlock _ _ _ _ _
  cases hen : en fs with
  | error er =>
    go_upto_region 2 with fail
    refine wp_region_list ?_
    refine readL (.slice sp fs.length cap) rfl (by kernel_rfl) ?_
    simp only [aP, lI, l0, lS]
    refine callL rfl (fun _ => by kernel_rfl) (hE sp cap fs _ hn hle hnil (hfs.below M.below (Nat.le_refl _))) ?_
    rintro e w2 ⟨⟨v2, rfl, O_2⟩, l⟩
    replace M := M.call l
    clear l
    rw [hen] at O_2
    rw [hen]
    simp only [exL_er, exE_er] at O_2 ⊢
    obtain ⟨p2, c2, rfl, _, _⟩ := O_2.bytes
    refine ⟨_, rfl, ?_⟩
    simp only [aP, lI, l0, lS]
    refine readL (.tuple #[.slice p2 (([] : List Int).length) c2, .int .i64 er]) rfl (by kernel_rfl) ?_
    simp only [aP, lI, l0, lS]
    refine readL (.slice p2 (([] : List Int).length) c2) rfl (by kernel_rfl) ?_
    simp only [aP, lI, l0, lS]
    refine readL (.int .i64 er) rfl (by kernel_rfl) ?_
    simp only [aP, lI, l0, lS]
    refine readL (.slice p2 (([] : List Int).length) c2) rfl (by kernel_rfl) ?_
    simp only [aP, lI, l0, lS]
    refine readL (.int .i64 er) rfl (by kernel_rfl) ?_
    simp only [aP, lI, l0, lS]
    first | show Exit.then _ _ _ _ _ | show Exit.inBlock _ _ _ _ _
    have hne := en_ne hen
    go_upto_region 3 with fail
    refine wp_region_list ?_
    refine readL (.int .i64 er) rfl (by kernel_rfl) ?_
    simp only [aP, lI, l0, lS]
    refine readL (.bool false) rfl (eqlI .i64 _ _ _ _ _ _ rfl rfl rfl false (by simpa using hne) _) ?_
    simp only [aP, lI, l0, lS]
    first | show Exit.then _ _ _ _ _ | show Exit.inBlock _ _ _ _ _
    clear hne hen
    cases hdb : de b with
    | error er =>
      go_upto_region 15 with fail
      refine wp_region_list ?_
      refine readL (.slice sq b.length cq) rfl (by kernel_rfl) ?_
      simp only [aP, lI, l0, lS]
      refine callL rfl (fun _ => by kernel_rfl) (hD sq cq b _ hlen hcap hnil2 hb (hs.below M.below (Nat.le_refl _))) ?_
      rintro e w3 ⟨⟨p3, c3, rfl, hle3, hnil3, F_3⟩, l⟩
      replace M := M.call l
      clear l
      rw [hdb] at F_3 hle3
      rw [hdb]
      simp only [exL_er, exE_er] at F_3 hle3 ⊢
      refine ⟨_, rfl, ?_⟩
      simp only [aP, lI, l0, lS]
      refine readL (.tuple #[.slice p3 ((([] : List Frm)).length) c3, .int .i64 er]) rfl (by kernel_rfl) ?_
      simp only [aP, lI, l0, lS]
      refine readL (.slice p3 ((([] : List Frm)).length) c3) rfl (by kernel_rfl) ?_
      simp only [aP, lI, l0, lS]
      refine readL (.int .i64 er) rfl (by kernel_rfl) ?_
      simp only [aP, lI, l0, lS]
      refine readL (.slice p3 ((([] : List Frm)).length) c3) rfl (by kernel_rfl) ?_
      simp only [aP, lI, l0, lS]
      refine readL (.int .i64 er) rfl (by kernel_rfl) ?_
      simp only [aP, lI, l0, lS]
      first | show Exit.then _ _ _ _ _ | show Exit.inBlock _ _ _ _ _
      have hne := de_ne hdb
      go_upto_region 16 with fail
      refine wp_region_list ?_
      refine readL (.int .i64 er) rfl (by kernel_rfl) ?_
      simp only [aP, lI, l0, lS]
      refine readL (.bool true) rfl (neqI .i64 _ _ _ _ _ _ rfl rfl rfl true (by simpa using hne) _) ?_
      simp only [aP, lI, l0, lS]
      first | show Exit.then _ _ _ _ _ | show Exit.inBlock _ _ _ _ _
      clear hne
      go_upto_region 17 with fail
      refine wp_region_list ?_
      refine readL (.bool true) rfl (by kernel_rfl) ?_
      simp only [aP, lI, l0, lS]
      refine readL (.bool true) rfl (by kernel_rfl) ?_
      simp only [aP, lI, l0, lS]
      first | show Exit.then _ _ _ _ _ | show Exit.inBlock _ _ _ _ _
      go_wp2
      go_ret
      exact ⟨rfl, M.below⟩
    | ok ms =>
      go_upto_region 15 with fail
      refine wp_region_list ?_
      refine readL (.slice sq b.length cq) rfl (by kernel_rfl) ?_
      simp only [aP, lI, l0, lS]
      refine callL rfl (fun _ => by kernel_rfl) (hD sq cq b _ hlen hcap hnil2 hb (hs.below M.below (Nat.le_refl _))) ?_
      rintro e w4 ⟨⟨p4, c4, rfl, hle4, hnil4, F_4⟩, l⟩
      replace M := M.call l
      clear l
      rw [hdb] at F_4 hle4
      rw [hdb]
      simp only [exL_ok, exE_ok] at F_4 hle4 ⊢
      refine ⟨_, rfl, ?_⟩
      simp only [aP, lI, l0, lS]
      refine readL (.tuple #[.slice p4 ((ms).length) c4, .int .i64 0]) rfl (by kernel_rfl) ?_
      simp only [aP, lI, l0, lS]
      refine readL (.slice p4 ((ms).length) c4) rfl (by kernel_rfl) ?_
      simp only [aP, lI, l0, lS]
      refine readL (.int .i64 0) rfl (by kernel_rfl) ?_
      simp only [aP, lI, l0, lS]
      refine readL (.slice p4 ((ms).length) c4) rfl (by kernel_rfl) ?_
      simp only [aP, lI, l0, lS]
      refine readL (.int .i64 0) rfl (by kernel_rfl) ?_
      simp only [aP, lI, l0, lS]
      first | show Exit.then _ _ _ _ _ | show Exit.inBlock _ _ _ _ _
      have hmx4 : ms.length ≤ 140737488351232 := by have h16 := de_len (b := b); rw [hdb] at h16; exact Nat.le_trans h16 (by decide)
      go_upto_region 16 with fail
      refine wp_region_list ?_
      refine readL (.int .i64 0) rfl (by kernel_rfl) ?_
      simp only [aP, lI, l0, lS]
      refine readL (.bool false) rfl (neqI .i64 _ _ _ _ _ _ rfl rfl rfl false (by decide) _) ?_
      simp only [aP, lI, l0, lS]
      first | show Exit.then _ _ _ _ _ | show Exit.inBlock _ _ _ _ _
      go_upto_region 18 with fail
      refine wp_region_list ?_
      refine readL (.slice p4 ((ms).length) c4) rfl (by kernel_rfl) ?_
      simp only [aP, lI, l0, lS]
      refine callL rfl (fun _ => by kernel_rfl) (hE p4 c4 ms _ hmx4 hle4 hnil4 F_4) ?_
      rintro e w5 ⟨⟨v5, rfl, O_5⟩, l⟩
      replace M := M.call l
      replace F_4 := F_4.below l (Nat.le_refl _)
      clear l
      rw [en_de hb hdb] at O_5
      rw [en_de hb hdb]
      simp only [exL_ok, exE_ok] at O_5 ⊢
      obtain ⟨p5, c5, rfl, _, _⟩ := O_5.bytes
      refine ⟨_, rfl, ?_⟩
      simp only [aP, lI, l0, lS]
      refine readL (.tuple #[.slice p5 b.length c5, .int .i64 0]) rfl (by kernel_rfl) ?_
      simp only [aP, lI, l0, lS]
      refine readL (.slice p5 b.length c5) rfl (by kernel_rfl) ?_
      simp only [aP, lI, l0, lS]
      refine readL (.int .i64 0) rfl (by kernel_rfl) ?_
      simp only [aP, lI, l0, lS]
      refine readL (.slice p5 b.length c5) rfl (by kernel_rfl) ?_
      simp only [aP, lI, l0, lS]
      refine readL (.int .i64 0) rfl (by kernel_rfl) ?_
      simp only [aP, lI, l0, lS]
      first | show Exit.then _ _ _ _ _ | show Exit.inBlock _ _ _ _ _
      go_upto_region 19 with fail
      refine wp_region_list ?_
      refine readL (.bool true) rfl (by kernel_rfl) ?_
      simp only [aP, lI, l0, lS]
      refine readL (.bool true) rfl (by kernel_rfl) ?_
      simp only [aP, lI, l0, lS]
      refine readL (.int .i64 0) rfl (by kernel_rfl) ?_
      simp only [aP, lI, l0, lS]
      refine readL (.bool true) rfl (eqlI .i64 _ _ _ _ _ _ rfl rfl rfl true (by decide) _) ?_
      simp only [aP, lI, l0, lS]
      refine readL (.bool true) rfl (by kernel_rfl) ?_
      simp only [aP, lI, l0, lS]
      refine readL (.bool true) rfl (by kernel_rfl) ?_
      simp only [aP, lI, l0, lS]
      refine readL (.slice p5 b.length c5) rfl (by kernel_rfl) ?_
      simp only [aP, lI, l0, lS]
      refine readL (.string (txt b.length (bl b))) rfl (conv_txt 23 5 9 _ rfl Try.underlying23 Try.underlying5 Try.underlying9 p5 b.length c5 (bl b) rfl _ O_5.src (fun e => by have h1 := O_5.nilCap e; have h2 := O_5.le; omega)) ?_
      simp only [aP, lI, l0, lS]
      refine readL (.slice sq b.length cq) rfl (by kernel_rfl) ?_
      simp only [aP, lI, l0, lS]
      refine readL (.string (txt b.length (bl b))) rfl (conv_txt 23 5 9 _ rfl Try.underlying23 Try.underlying5 Try.underlying9 sq b.length cq (bl b) rfl _ (hs.below M.below (Nat.le_refl _)) (fun e => by have h1 := hnil2 e; omega)) ?_
      simp only [aP, lI, l0, lS]
      refine readL (.bool true) rfl (eqlS _ _ _ _ _ _ rfl rfl rfl rfl _) ?_
      simp only [aP, lI, l0, lS]
      refine readL (.bool true) rfl (by kernel_rfl) ?_
      simp only [aP, lI, l0, lS]
      refine readL (.bool true) rfl (by kernel_rfl) ?_
      simp only [aP, lI, l0, lS]
      first | show Exit.then _ _ _ _ _ | show Exit.inBlock _ _ _ _ _
      go_wp2
      go_ret
      exact ⟨rfl, M.below⟩
  | ok x =>
    go_upto_region 2 with fail
    refine wp_region_list ?_
    refine readL (.slice sp fs.length cap) rfl (by kernel_rfl) ?_
    simp only [aP, lI, l0, lS]
    refine callL rfl (fun _ => by kernel_rfl) (hE sp cap fs _ hn hle hnil (hfs.below M.below (Nat.le_refl _))) ?_
    rintro e w6 ⟨⟨v6, rfl, O_6⟩, l⟩
    replace M := M.call l
    clear l
    rw [hen] at O_6
    rw [hen]
    simp only [exL_ok, exE_ok] at O_6 ⊢
    obtain ⟨p6, c6, rfl, _, _⟩ := O_6.bytes
    refine ⟨_, rfl, ?_⟩
    simp only [aP, lI, l0, lS]
    refine readL (.tuple #[.slice p6 x.length c6, .int .i64 0]) rfl (by kernel_rfl) ?_
    simp only [aP, lI, l0, lS]
    refine readL (.slice p6 x.length c6) rfl (by kernel_rfl) ?_
    simp only [aP, lI, l0, lS]
    refine readL (.int .i64 0) rfl (by kernel_rfl) ?_
    simp only [aP, lI, l0, lS]
    refine readL (.slice p6 x.length c6) rfl (by kernel_rfl) ?_
    simp only [aP, lI, l0, lS]
    refine readL (.int .i64 0) rfl (by kernel_rfl) ?_
    simp only [aP, lI, l0, lS]
    first | show Exit.then _ _ _ _ _ | show Exit.inBlock _ _ _ _ _
    obtain ⟨hx1, hx2, hx3, hx4⟩ := en_ok hen
    go_upto_region 3 with fail
    refine wp_region_list ?_
    refine readL (.int .i64 0) rfl (by kernel_rfl) ?_
    simp only [aP, lI, l0, lS]
    refine readL (.bool true) rfl (eqlI .i64 _ _ _ _ _ _ rfl rfl rfl true (by decide) _) ?_
    simp only [aP, lI, l0, lS]
    first | show Exit.then _ _ _ _ _ | show Exit.inBlock _ _ _ _ _
    go_upto_region 4 with fail
    refine wp_region_list ?_
    refine readL (.slice p6 x.length c6) rfl (by kernel_rfl) ?_
    simp only [aP, lI, l0, lS]
    refine callL rfl (fun _ => by kernel_rfl) (hD p6 c6 x _ (Nat.le_trans hx4 (by decide)) O_6.le O_6.nilCap (en_byts hfs.wf hen) O_6.src) ?_
    rintro e w7 ⟨⟨p7, c7, rfl, hle7, hnil7, F_7⟩, l⟩
    replace M := M.call l
    replace O_6 := O_6.below l
    clear l
    rw [de_en hfs.wf hen] at F_7 hle7
    rw [de_en hfs.wf hen]
    simp only [exL_ok, exE_ok] at F_7 hle7 ⊢
    refine ⟨_, rfl, ?_⟩
    simp only [aP, lI, l0, lS]
    refine readL (.tuple #[.slice p7 ((fs).length) c7, .int .i64 0]) rfl (by kernel_rfl) ?_
    simp only [aP, lI, l0, lS]
    refine readL (.slice p7 ((fs).length) c7) rfl (by kernel_rfl) ?_
    simp only [aP, lI, l0, lS]
    refine readL (.int .i64 0) rfl (by kernel_rfl) ?_
    simp only [aP, lI, l0, lS]
    refine readL (.slice p7 ((fs).length) c7) rfl (by kernel_rfl) ?_
    simp only [aP, lI, l0, lS]
    refine readL (.int .i64 0) rfl (by kernel_rfl) ?_
    simp only [aP, lI, l0, lS]
    first | show Exit.then _ _ _ _ _ | show Exit.inBlock _ _ _ _ _
    go_upto_region 5 with fail
    refine wp_region_list ?_
    refine readL (.slice sp fs.length cap) rfl (by kernel_rfl) ?_
    simp only [aP, lI, l0, lS]
    refine readL (.slice p7 ((fs).length) c7) rfl (by kernel_rfl) ?_
    simp only [aP, lI, l0, lS]
    have hC : Calls Try.prog 18 #[.slice sp fs.length cap, .slice p7 ((fs).length) c7] w7 (fun e w' => e = .returned (.bool true) ∧ Below w7.heap.size w7 w') := rall_any sp cap p7 c7 fs _ hn (hfs.below M.below (Nat.le_refl _)) F_7
    refine callL rfl (fun _ => by kernel_rfl) (hC) ?_
    rintro e w8 ⟨rfl, l⟩
    replace M := M.call l
    refine ⟨_, rfl, ?_⟩
    replace O_6 := O_6.below l
    replace F_7 := F_7.below l (Nat.le_refl _)
    clear l hC
    simp only [aP, lI, l0, lS]
    refine readL (.bool true) rfl (by kernel_rfl) ?_
    simp only [aP, lI, l0, lS]
    first | show Exit.then _ _ _ _ _ | show Exit.inBlock _ _ _ _ _
    go_upto_region 6 with fail
    refine wp_region_list ?_
    refine readL (.int .i64 0) rfl (by kernel_rfl) ?_
    simp only [aP, lI, l0, lS]
    refine readL (.bool false) rfl (neqI .i64 _ _ _ _ _ _ rfl rfl rfl false (by decide) _) ?_
    simp only [aP, lI, l0, lS]
    refine readL (.bool false) rfl (by kernel_rfl) ?_
    simp only [aP, lI, l0, lS]
    refine readL (.bool true) rfl (by kernel_rfl) ?_
    simp only [aP, lI, l0, lS]
    refine readL (.bool false) rfl (by kernel_rfl) ?_
    simp only [aP, lI, l0, lS]
    refine readL (.bool false) rfl (by kernel_rfl) ?_
    simp only [aP, lI, l0, lS]
    first | show Exit.then _ _ _ _ _ | show Exit.inBlock _ _ _ _ _
    have HI := show Hid _ from M
    clear M O_6 F_7
    go_wp2
    go_loopw [11, 12] (fun nw i w' => ∃ j : Nat, j ≤ fs.length ∧ nw = .int .i64 (((enb (fs.take j)).length : Nat) : Int) ∧ i = .int .i64 (j : Int) ∧ Mm w [] w') (fun _ i _ => fs.length - (intOf i).toNat)
    case atStart => exact ⟨0, Nat.zero_le _, rfl, rfl, HI.out⟩
    case round =>
      clear HI
      obtain ⟨j, hj, rfl, rfl, M⟩ := hrel
      by_cases hlt : j < fs.length
      · have g1 : (j : Int) < ((fs.length : Nat) : Int) := by omega
        obtain ⟨f, hfj⟩ : ∃ f, fs[j]? = some f := ⟨_, List.getElem?_eq_getElem hlt⟩
        obtain ⟨ad, rp, rc, bp, bc, e0, hF, hf⟩ := hfs j f hfj
        subst e0
        replace hF : ∀ {w' : World}, Below w.heap.size w w' → ∀ k v, (fcs f rp rc bp bc)[k]? = some v → w'.cell? ((ad.add (j * 13)).add k) = some v := fun b k v hv => by rw [b.cell (World.block_lt_of_cell? w _ (hF k v hv))]; exact hF k v hv
        have hok : fok f = true := List.all_eq_true.1 hx2 f (List.mem_of_getElem? hfj)
        have hsz : fsz f = ((fen f).length : Int) := by unfold fsz; rw [if_pos hok]
        have hft := fen_len f ((fok_iff f).1 hok) hf.wf.eight
        have htk := enb_take fs j f hfj
        have hbn : (enb (fs.take j)).length ≤ 256 := by
          have h5 : (enb (fs.take j)).length ≤ (enb fs).length := by
            have h6 := enb_app (fs.take j) (fs.drop j)
            rw [List.take_append_drop] at h6
            rw [h6, List.length_append]
            omega
          rw [← hx3] at h5
          omega
        go_upto_region 10 with fail
        refine wp_region_list ?_
        refine readL (.int .i64 (j : Int)) rfl (by kernel_rfl) ?_
        simp only [aP, lI, l0, lS]
        refine readL (.slice (some ad) fs.length cap) rfl (by kernel_rfl) ?_
        simp only [aP, lI, l0, lS]
        refine readL (.int .i64 ((fs.length : Nat) : Int)) rfl (lenS _ 32 26 (some ad) fs.length cap rfl Try.underlying32 rfl _) ?_
        simp only [aP, lI, l0, lS]
        refine readL (.bool true) rfl (lssI .i64 _ _ _ _ _ _ rfl rfl rfl true (decide_eq_true g1) _) ?_
        simp only [aP, lI, l0, lS]
        first | show Exit.then _ _ _ _ _ | show Exit.inBlock _ _ _ _ _
        go_upto_region 12 with fail
        refine wp_region_list ?_
        refine readL (.int .i64 (((enb (fs.take j)).length : Nat) : Int)) rfl (by kernel_rfl) ?_
        simp only [aP, lI, l0, lS]
        refine readL (.slice (some ad) fs.length cap) rfl (by kernel_rfl) ?_
        simp only [aP, lI, l0, lS]
        refine readL (.int .i64 (j : Int)) rfl (by kernel_rfl) ?_
        simp only [aP, lI, l0, lS]
        refine readL (.pointer (some (ad.add (j * 13)))) rfl (idxN 32 26 13 fs.length cap ad j _ _ Try.underlying32 (fun _ => by kernel_rfl) hlt rfl rfl rfl _) ?_
        simp only [aP, lI, l0, lS]
        refine readL (.agg #[.int .i64 f.kind, .int .i64 f.pos, .int .i64 f.lim, .slice rp f.rg.length rc, .slice bp f.byt.length bc, .int .u8 (bl f.tok 0), .int .u8 (bl f.tok 1), .int .u8 (bl f.tok 2), .int .u8 (bl f.tok 3), .int .u8 (bl f.tok 4), .int .u8 (bl f.tok 5), .int .u8 (bl f.tok 6), .int .u8 (bl f.tok 7)]) rfl (loadN 26 _ (ad.add (j * 13)) [.int .i64 f.kind, .int .i64 f.pos, .int .i64 f.lim, .slice rp f.rg.length rc, .slice bp f.byt.length bc, .int .u8 (bl f.tok 0), .int .u8 (bl f.tok 1), .int .u8 (bl f.tok 2), .int .u8 (bl f.tok 3), .int .u8 (bl f.tok 4), .int .u8 (bl f.tok 5), .int .u8 (bl f.tok 6), .int .u8 (bl f.tok 7)] rfl rfl (fun _ => by kernel_rfl) (fun _ => by kernel_rfl) (hF M.below)) ?_
        simp only [aP, lI, l0, lS]
        have hC : Calls Try.prog 12 #[.agg #[.int .i64 f.kind, .int .i64 f.pos, .int .i64 f.lim, .slice rp f.rg.length rc, .slice bp f.byt.length bc, .int .u8 (bl f.tok 0), .int .u8 (bl f.tok 1), .int .u8 (bl f.tok 2), .int .u8 (bl f.tok 3), .int .u8 (bl f.tok 4), .int .u8 (bl f.tok 5), .int .u8 (bl f.tok 6), .int .u8 (bl f.tok 7)]] wr (fun e w' => e = .returned (.int .i64 (fsz f)) ∧ Below wr.heap.size wr w') := hSz f rp rc bp bc _ (hf.below M.below (Nat.le_refl _))
        refine callL rfl (fun _ => by kernel_rfl) (hC) ?_
        rintro e w9 ⟨rfl, l⟩
        replace M := M.call l
        refine ⟨_, rfl, ?_⟩
        clear l hC
        simp only [aP, lI, l0, lS]
        refine readL (.int .i64 (((enb (fs.take (j + 1))).length : Nat) : Int)) rfl (addI .i64 _ _ _ _ _ _ _ rfl rfl rfl (by rw [IntKind.wrap_i64, hsz, htk, List.length_append]; omega) _) ?_
        simp only [aP, lI, l0, lS]
        refine readL (.int .i64 (((enb (fs.take (j + 1))).length : Nat) : Int)) rfl (by kernel_rfl) ?_
        simp only [aP, lI, l0, lS]
        first | show Exit.then _ _ _ _ _ | show Exit.inBlock _ _ _ _ _
        have HS := show Hid _ from M
        clear M htk hsz
        go_wp2
        go_roundw
        case rel => first | exact ⟨j + 1, by omega, rfl, by go_num, HS.out⟩ | ((repeat apply Exists.intro); refine ⟨⟨j + 1, by omega, rfl, ?_, HS.out⟩, rfl⟩ <;> first | rfl | go_num)
        case measure => simp [intOf]; omega
      · have hjq : j = fs.length := by omega
        have g1 : ¬ (j : Int) < ((fs.length : Nat) : Int) := by omega
        go_upto_region 10 with fail
        refine wp_region_list ?_
        refine readL (.int .i64 (j : Int)) rfl (by kernel_rfl) ?_
        simp only [aP, lI, l0, lS]
        refine readL (.slice sp fs.length cap) rfl (by kernel_rfl) ?_
        simp only [aP, lI, l0, lS]
        refine readL (.int .i64 ((fs.length : Nat) : Int)) rfl (lenS _ 32 26 sp fs.length cap rfl Try.underlying32 rfl _) ?_
        simp only [aP, lI, l0, lS]
        refine readL (.bool false) rfl (lssI .i64 _ _ _ _ _ _ rfl rfl rfl false (decide_eq_false g1) _) ?_
        simp only [aP, lI, l0, lS]
        first | show Exit.then _ _ _ _ _ | show Exit.inBlock _ _ _ _ _
        go_upto_region 13 with fail
        refine wp_region_list ?_
        refine readL (.int .i64 (((enb (fs.take j)).length : Nat) : Int)) rfl (by kernel_rfl) ?_
        simp only [aP, lI, l0, lS]
        refine readL (.slice p6 x.length c6) rfl (by kernel_rfl) ?_
        simp only [aP, lI, l0, lS]
        refine readL (.int .i64 ((x.length : Nat) : Int)) rfl (lenS _ 23 5 p6 x.length c6 rfl Try.underlying23 rfl _) ?_
        simp only [aP, lI, l0, lS]
        refine readL (.bool false) rfl (neqI .i64 _ _ _ _ _ _ rfl rfl rfl false (by rw [hjq, List.take_length, ← hx3]; exact bne_self_eq_false _) _) ?_
        simp only [aP, lI, l0, lS]
        first | show Exit.then _ _ _ _ _ | show Exit.inBlock _ _ _ _ _
        clear hjq g1 hx1 hx2 hx3 hx4 hen
        cases hdb : de b with
        | error er =>
          go_upto_region 15 with fail
          refine wp_region_list ?_
          refine readL (.slice sq b.length cq) rfl (by kernel_rfl) ?_
          simp only [aP, lI, l0, lS]
          refine callL rfl (fun _ => by kernel_rfl) (hD sq cq b _ hlen hcap hnil2 hb (hs.below M.below (Nat.le_refl _))) ?_
          rintro e w10 ⟨⟨p10, c10, rfl, hle10, hnil10, F_10⟩, l⟩
          replace M := M.call l
          clear l
          rw [hdb] at F_10 hle10
          rw [hdb]
          simp only [exL_er, exE_er] at F_10 hle10 ⊢
          refine ⟨_, rfl, ?_⟩
          simp only [aP, lI, l0, lS]
          refine readL (.tuple #[.slice p10 ((([] : List Frm)).length) c10, .int .i64 er]) rfl (by kernel_rfl) ?_
          simp only [aP, lI, l0, lS]
          refine readL (.slice p10 ((([] : List Frm)).length) c10) rfl (by kernel_rfl) ?_
          simp only [aP, lI, l0, lS]
          refine readL (.int .i64 er) rfl (by kernel_rfl) ?_
          simp only [aP, lI, l0, lS]
          refine readL (.slice p10 ((([] : List Frm)).length) c10) rfl (by kernel_rfl) ?_
          simp only [aP, lI, l0, lS]
          refine readL (.int .i64 er) rfl (by kernel_rfl) ?_
          simp only [aP, lI, l0, lS]
          first | show Exit.then _ _ _ _ _ | show Exit.inBlock _ _ _ _ _
          have hne := de_ne hdb
          go_upto_region 16 with fail
          refine wp_region_list ?_
          refine readL (.int .i64 er) rfl (by kernel_rfl) ?_
          simp only [aP, lI, l0, lS]
          refine readL (.bool true) rfl (neqI .i64 _ _ _ _ _ _ rfl rfl rfl true (by simpa using hne) _) ?_
          simp only [aP, lI, l0, lS]
          first | show Exit.then _ _ _ _ _ | show Exit.inBlock _ _ _ _ _
          clear hne
          go_upto_region 17 with fail
          refine wp_region_list ?_
          refine readL (.bool true) rfl (by kernel_rfl) ?_
          simp only [aP, lI, l0, lS]
          refine readL (.bool true) rfl (by kernel_rfl) ?_
          simp only [aP, lI, l0, lS]
          first | show Exit.then _ _ _ _ _ | show Exit.inBlock _ _ _ _ _
          go_wp2
          go_ret
          exact ⟨rfl, M.below⟩
        | ok ms =>
          go_upto_region 15 with fail
          refine wp_region_list ?_
          refine readL (.slice sq b.length cq) rfl (by kernel_rfl) ?_
          simp only [aP, lI, l0, lS]
          refine callL rfl (fun _ => by kernel_rfl) (hD sq cq b _ hlen hcap hnil2 hb (hs.below M.below (Nat.le_refl _))) ?_
          rintro e w11 ⟨⟨p11, c11, rfl, hle11, hnil11, F_11⟩, l⟩
          replace M := M.call l
          clear l
          rw [hdb] at F_11 hle11
          rw [hdb]
          simp only [exL_ok, exE_ok] at F_11 hle11 ⊢
          refine ⟨_, rfl, ?_⟩
          simp only [aP, lI, l0, lS]
          refine readL (.tuple #[.slice p11 ((ms).length) c11, .int .i64 0]) rfl (by kernel_rfl) ?_
          simp only [aP, lI, l0, lS]
          refine readL (.slice p11 ((ms).length) c11) rfl (by kernel_rfl) ?_
          simp only [aP, lI, l0, lS]
          refine readL (.int .i64 0) rfl (by kernel_rfl) ?_
          simp only [aP, lI, l0, lS]
          refine readL (.slice p11 ((ms).length) c11) rfl (by kernel_rfl) ?_
          simp only [aP, lI, l0, lS]
          refine readL (.int .i64 0) rfl (by kernel_rfl) ?_
          simp only [aP, lI, l0, lS]
          first | show Exit.then _ _ _ _ _ | show Exit.inBlock _ _ _ _ _
          have hmx11 : ms.length ≤ 140737488351232 := by have h16 := de_len (b := b); rw [hdb] at h16; exact Nat.le_trans h16 (by decide)
          go_upto_region 16 with fail
          refine wp_region_list ?_
          refine readL (.int .i64 0) rfl (by kernel_rfl) ?_
          simp only [aP, lI, l0, lS]
          refine readL (.bool false) rfl (neqI .i64 _ _ _ _ _ _ rfl rfl rfl false (by decide) _) ?_
          simp only [aP, lI, l0, lS]
          first | show Exit.then _ _ _ _ _ | show Exit.inBlock _ _ _ _ _
          go_upto_region 18 with fail
          refine wp_region_list ?_
          refine readL (.slice p11 ((ms).length) c11) rfl (by kernel_rfl) ?_
          simp only [aP, lI, l0, lS]
          refine callL rfl (fun _ => by kernel_rfl) (hE p11 c11 ms _ hmx11 hle11 hnil11 F_11) ?_
          rintro e w12 ⟨⟨v12, rfl, O_12⟩, l⟩
          replace M := M.call l
          replace F_11 := F_11.below l (Nat.le_refl _)
          clear l
          rw [en_de hb hdb] at O_12
          rw [en_de hb hdb]
          simp only [exL_ok, exE_ok] at O_12 ⊢
          obtain ⟨p12, c12, rfl, _, _⟩ := O_12.bytes
          refine ⟨_, rfl, ?_⟩
          simp only [aP, lI, l0, lS]
          refine readL (.tuple #[.slice p12 b.length c12, .int .i64 0]) rfl (by kernel_rfl) ?_
          simp only [aP, lI, l0, lS]
          refine readL (.slice p12 b.length c12) rfl (by kernel_rfl) ?_
          simp only [aP, lI, l0, lS]
          refine readL (.int .i64 0) rfl (by kernel_rfl) ?_
          simp only [aP, lI, l0, lS]
          refine readL (.slice p12 b.length c12) rfl (by kernel_rfl) ?_
          simp only [aP, lI, l0, lS]
          refine readL (.int .i64 0) rfl (by kernel_rfl) ?_
          simp only [aP, lI, l0, lS]
          first | show Exit.then _ _ _ _ _ | show Exit.inBlock _ _ _ _ _
          go_upto_region 19 with fail
          refine wp_region_list ?_
          refine readL (.bool true) rfl (by kernel_rfl) ?_
          simp only [aP, lI, l0, lS]
          refine readL (.bool true) rfl (by kernel_rfl) ?_
          simp only [aP, lI, l0, lS]
          refine readL (.int .i64 0) rfl (by kernel_rfl) ?_
          simp only [aP, lI, l0, lS]
          refine readL (.bool true) rfl (eqlI .i64 _ _ _ _ _ _ rfl rfl rfl true (by decide) _) ?_
          simp only [aP, lI, l0, lS]
          refine readL (.bool true) rfl (by kernel_rfl) ?_
          simp only [aP, lI, l0, lS]
          refine readL (.bool true) rfl (by kernel_rfl) ?_
          simp only [aP, lI, l0, lS]
          refine readL (.slice p12 b.length c12) rfl (by kernel_rfl) ?_
          simp only [aP, lI, l0, lS]
          refine readL (.string (txt b.length (bl b))) rfl (conv_txt 23 5 9 _ rfl Try.underlying23 Try.underlying5 Try.underlying9 p12 b.length c12 (bl b) rfl _ O_12.src (fun e => by have h1 := O_12.nilCap e; have h2 := O_12.le; omega)) ?_
          simp only [aP, lI, l0, lS]
          refine readL (.slice sq b.length cq) rfl (by kernel_rfl) ?_
          simp only [aP, lI, l0, lS]
          refine readL (.string (txt b.length (bl b))) rfl (conv_txt 23 5 9 _ rfl Try.underlying23 Try.underlying5 Try.underlying9 sq b.length cq (bl b) rfl _ (hs.below M.below (Nat.le_refl _)) (fun e => by have h1 := hnil2 e; omega)) ?_
          simp only [aP, lI, l0, lS]
          refine readL (.bool true) rfl (eqlS _ _ _ _ _ _ rfl rfl rfl rfl _) ?_
          simp only [aP, lI, l0, lS]
          refine readL (.bool true) rfl (by kernel_rfl) ?_
          simp only [aP, lI, l0, lS]
          refine readL (.bool true) rfl (by kernel_rfl) ?_
          simp only [aP, lI, l0, lS]
          first | show Exit.then _ _ _ _ _ | show Exit.inBlock _ _ _ _ _
          go_wp2
          go_ret
          exact ⟨rfl, M.below⟩
end Go.Proofs.Yteaamgjlkohfcaa

namespace Go.Proofs.Yteaamgjlkohfcaa
open Go.RowKit

/-- Some cells of a block are stored. -/
theorem storeP {P : Program} {o : Oper} {a : Act} {w : World} (cs : List Value) (b off : Nat) (ty : TypeId) (x y : Operand) (ho : o.op = .store ty x y) (hx : a.eval x = .pointer (some ⟨b, off, none⟩)) (hy : a.eval y = .agg cs.toArray) (ht : w.there b off cs.toArray.size) (hz : (P.info? ty).map (·.size) = some cs.toArray.size) (h1 : ∀ u ∈ cs, u.oneCell' = true) :
    (execOp a.eval o).run P w = .ok .skip (w.setCells b off cs) := by
  unfold execOp
  simp only [ho, hx, hy]
  have e := run_storeAt_mid (P := P) w b off ty cs.toArray ht hz (all_oneCell_toArray h1)
  simp only [Sem.run_bind, e, Result.andThen_ok, Sem.run_pure]
def setL (cs : List Value) : Nat → List Value → List Value
  | _, [] => cs
  | o, v :: vs => setL (cs.set o v) (o + 1) vs
section
variable {w0 w : World} {l : List (Nat × List Value)} {b : Nat} {cs : List Value}
theorem Mm.thereP (h : Mm w0 l w) (hp : (b, cs) ∈ l) (o n : Nat) (hn : o + n ≤ cs.length) : w.there b o n := fun j hj => ⟨h.isSome hp (o + j) (by omega), h.free hp (o + j) (by omega)⟩
theorem Mm.setPartG : ∀ (ds : List Value) (o : Nat) (cs : List Value) (w : World), o + ds.length ≤ cs.length → Mm w0 ((b, cs) :: l) w → Mm w0 ((b, setL cs o ds) :: l) (w.setCells b o ds)
  | [], _, _, _, _, h => h
  | v :: vs, o, cs, w, hl, h => by
    rw [List.length_cons] at hl
    exact Mm.setPartG vs (o + 1) (cs.set o v) _ (by rw [List.length_set]; omega) (h.set o (by omega) v)
theorem Mm.setPart (h : Mm w0 ((b, cs) :: l) w) (ds : List Value) (o : Nat) (hl : o + ds.length ≤ cs.length) : Mm w0 ((b, setL cs o ds) :: l) (w.setCells b o ds) := Mm.setPartG ds o cs w hl h
theorem Mm.perm {l' : List (Nat × List Value)} (h : Mm w0 l w) (hp : l.Perm l') : Mm w0 l' w :=
  ⟨fun p hq => h.rows p (hp.mem_iff.2 hq), hp.pairwise h.apart (fun e => Ne.symm e), h.below⟩
theorem Mm.rot3 {p q r : Nat × List Value} (h : Mm w0 (p :: q :: r :: l) w) : Mm w0 (r :: p :: q :: l) w :=
  h.perm (((List.Perm.swap r q l).cons p).trans (List.Perm.swap r p (q :: l)))
end
end Go.Proofs.Yteaamgjlkohfcaa

namespace Go.Proofs.Yteaamgjlkohfcaa
open Go.RowKit
section
variable {P : Program} {md : Region.Mode} {ops : Array Oper} {Q : Exit → Act → World → Prop} {S : World → Prop}
theorem panicL {o : Oper} {rest : List Oper} {a : Act} {w : World} (v : Value) (hw : Region.wanted o (yielded ops a.tmps) = true) (he : (execOp a.eval o).run P w = .halt (.panic v) w)
    (h : Q (.panic [{ v, recovered := false }]) a w) : wpList P ops Q (o :: rest) a w := by
  unfold wpList
  rw [if_pos hw]
  refine .inl ?_
  unfold Oper.wp
  rw [he]
  exact h
theorem deferL {o : Oper} {rest : List Oper} {a : Act} {w : World} (d : Deferred) (hw : Region.wanted o (yielded ops a.tmps) = true) (he : (execOp a.eval o).run P w = .ok (.defer d) w)
    (h : wpList P ops Q rest ({ a with defers := d :: a.defers }.put o.dst undef) w) : wpList P ops Q (o :: rest) a w := by
  unfold wpList
  rw [if_pos hw]
  refine .inl ?_
  unfold Oper.wp
  rw [he]
  exact h
/-- A call that hands something back, or panics. -/
theorem callPL {o : Oper} {f : FuncId} {args : Array Value} {R : Ending → World → Prop} {rest : List Oper} {a : Act} {w : World} (hw : Region.wanted o (yielded ops a.tmps) = true)
    (he : ∀ w, (execOp a.eval o).run P w = .ok (.enter f args) w) (hc : Calls P f args w R)
    (hK : ∀ e w', R e w' → (∃ v, e = .returned v ∧ wpList P ops Q rest (a.put o.dst v) w') ∨ ∃ c, e = .panicked c ∧ Q (.panic c) a w') : wpList P ops Q (o :: rest) a w := by
  unfold wpList
  rw [if_pos hw]
  refine .inl ?_
  unfold Oper.wp
  rw [he w]
  exact hc.mono fun e w' hR => by
    rcases hK e w' hR with ⟨v, rfl, h⟩ | ⟨c, rfl, h⟩
    · exact h
    · exact h
theorem callPH {i : Nat} {oi : Oper} (dst : Option Tmp) (hdst : oi.dst = dst) {f : FuncId} {args : Array Value} {R : Ending → World → Prop} {fuel : Nat} {listed : Array Bool} {a : Act} {w : World} (hr : Region.ready md ops listed = [i]) (hi : ops[i]? = some oi)
    (hw : Region.wanted oi (yielded ops a.tmps) = true) (he : ∀ w, (execOp a.eval oi).run P w = .ok (.enter f args) w) (hc : Calls P f args w R)
    (hK : ∀ e w', R e w' → (∃ v, e = .returned v ∧ S w' ∧ wpAnyH P md ops Q S fuel (listed.setIfInBounds i true) (a.put dst v) w') ∨ ∃ c, e = .panicked c ∧ Q (.panic c) a w') : wpAnyH P md ops Q S (fuel + 1) listed a w :=
  ⟨fun h0 => (by rw [h0] at hr; cases hr), fun j hj => by
    rw [hr] at hj
    obtain rfl := List.mem_singleton.1 hj
    unfold wpOp
    simp only [hi, hw, if_true]
    refine .inl ?_
    unfold Oper.wp
    rw [he w]
    exact hc.mono fun e w' hR => by
      rcases hK e w' hR with ⟨v, rfl, h⟩ | ⟨c, rfl, h⟩
      · subst hdst
        exact h
      · exact h⟩
/-- The one operation that may come up yields something, and may change the world. -/
theorem actO {i : Nat} {oi : Oper} (dst : Option Tmp) (hdst : oi.dst = dst) {K : Act → World → Prop} {a : Act} {w w' : World} (v : Value) (hi : ops[i]? = some oi) (hw : Region.wanted oi (yielded ops a.tmps) = true)
    (he : (execOp a.eval oi).run P w = .ok (.value v) w') (h : K (a.put dst v) w') : wpOp P ops Q i K a w := by
  unfold wpOp
  simp only [hi, hw, if_true]
  refine .inl ?_
  unfold Oper.wp
  rw [he]
  subst hdst
  exact h
theorem callPO {i : Nat} {oi : Oper} (dst : Option Tmp) (hdst : oi.dst = dst) {K : Act → World → Prop} {f : FuncId} {args : Array Value} {R : Ending → World → Prop} {a : Act} {w : World} (hi : ops[i]? = some oi) (hw : Region.wanted oi (yielded ops a.tmps) = true)
    (he : ∀ w, (execOp a.eval oi).run P w = .ok (.enter f args) w) (hc : Calls P f args w R)
    (hK : ∀ e w', R e w' → (∃ v, e = .returned v ∧ K (a.put dst v) w') ∨ ∃ c, e = .panicked c ∧ Q (.panic c) a w') : wpOp P ops Q i K a w := by
  unfold wpOp
  simp only [hi, hw, if_true]
  refine .inl ?_
  unfold Oper.wp
  rw [he w]
  exact hc.mono fun e w' hR => by
    rcases hK e w' hR with ⟨v, rfl, h⟩ | ⟨c, rfl, h⟩
    · subst hdst
      exact h
    · exact h
theorem onlyH {i : Nat} {oi : Oper} (dst : Option Tmp) (hdst : oi.dst = dst) {fuel : Nat} {listed : Array Bool} {a : Act} {w w' : World} (v : Value) (hr : Region.ready md ops listed = [i]) (hi : ops[i]? = some oi) (hw : Region.wanted oi (yielded ops a.tmps) = true)
    (he : (execOp a.eval oi).run P w = .ok (.value v) w') (hS : S w') (h : wpAnyH P md ops Q S fuel (listed.setIfInBounds i true) (a.put dst v) w') : wpAnyH P md ops Q S (fuel + 1) listed a w :=
  ⟨fun h0 => (by rw [h0] at hr; cases hr), fun j hj => by
    rw [hr] at hj
    obtain rfl := List.mem_singleton.1 hj
    exact actO dst hdst v hi hw he ⟨hS, h⟩⟩
/-- How a body that has laid its deferred call ends: it comes back (none), or panics. -/
def Dpost (K : Option (List PanicEntry) → Act → World → Prop) : Exit → Act → World → Prop
  | .normal, a, w | .ret, a, w => K none a w
  | .panic c, a, w => K (some c) a w
  | _, _, _ => False
def modeOf : Option (List PanicEntry) → FrameMode
  | none => .returning
  | some c => .panicking c
theorem calls_door {f : FuncId} {fn : Func} {c : Code} {args : Array Value} {w : World} {R : Ending → World → Prop} (K : Option (List PanicEntry) → Act → World → Prop)
    (hf : P.funcs[f]? = some fn) (hb : fn.body = some c) (hK : ∀ o a w', K o a w' → Leaves P fn a.tmps R a.defers (modeOf o) w')
    (h : c.wp P (Dpost K) { tmps := args ++ Array.replicate (fn.ntmps - args.size) undef, defers := [] } w) : Calls P f args w R :=
  calls_of_wp_defers hf hb (Code.wp_mono (fun e a w q => by
    cases e with
    | normal => exact hK _ _ _ q
    | ret => exact hK _ _ _ q
    | panic c => exact hK _ _ _ q
    | exit id => exact q.elim
    | goto l => exact q.elim
    | outgrown => exact q.elim) h)
/-- One deferred call stands there: it comes back, whether it has caught a panic or not. -/
theorem leaves_one {fn : Func} {tmps : Array Value} {R : Ending → World → Prop} {fv : Fn} {cap dargs : Array Value} {o : Option (List PanicEntry)} {w : World} {f : FuncId} {args : Array Value}
    (hi : (invoke (.fn fv cap) dargs).run P w = .ok (.enter f args) w) {T : World → Prop}
    (h : CallsD P f args (modeOf o) w fun e u' w' => e = .returned (.tuple #[]) ∧ settle u' = .returning ∧ T w')
    (hT : ∀ w', T w' → ∃ v, (results fn tmps).run P w' = .ok v w' ∧ R (.returned v) w') : Leaves P fn tmps R [{ target := .fn fv cap, args := dargs }] (modeOf o) w := by
  refine leaves_cons (f := f) (args := args) (by cases o <;> simp [modeOf]) hi (h.mono ?_)
  rintro e u' w' ⟨rfl, hu, ht⟩
  show Leaves P fn tmps R [] (settle u') w'
  rw [hu]
  exact hT w' ht
end
end Go.Proofs.Yteaamgjlkohfcaa

namespace Go.Proofs.Yteaamgjlkohfcaa
open Go.RowKit

/-- A panic with an error's number. -/
abbrev Pe (c : Int) : PanicEntry := { v := .iface 28 (.int .i64 c), recovered := false }
theorem Mm.drop2 {w0 w : World} {l : List (Nat × List Value)} {p q : Nat × List Value} (h : Mm w0 (p :: q :: l) w) : Mm w0 (p :: l) w := h.sub _ (List.cons_sublist_cons.2 (List.sublist_cons_self q l))
theorem Off.lessN {X Y : List Nat} {w w1 : World} (h : Off Y w w1) (hY : ∀ b ∈ Y, b ∈ X ∨ w.heap.size ≤ b) : Off X w w1 :=
  ⟨h.size, fun b hb hX => h.blk b hb fun e => (hY b e).elim hX (fun h' => by omega)⟩
/-- What is left in a reader: bytes of one's own. -/
def Lft (w0 : World) (R : Nat) (l : List (Nat × List Value)) (w : World) (r : List Int) (w' : World) : Prop := ∃ p c, Mm w0 ((R, [.slice p r.length c]) :: l) w' ∧ Off [R] w w' ∧ OwnL w' w.heap.size r (.slice p r.length c)
def Pan (w0 : World) (R : Nat) (l : List (Nat × List Value)) (c : Int) (e : Ending) (w' : World) : Prop := e = .panicked [Pe c] ∧ ∃ s, Mm w0 ((R, [s]) :: l) w'
theorem retCell {P : Program} {fn : Func} {tmps : Array Value} {w : World} (t : Tmp) (ty : TypeId) (p : Addr) (cs : List Value) (hr : fn.results = #[.cell t ty]) (ha : tmps.getD t undef = .pointer (some p)) (hagg : ∀ w, (isAgg ty).run P w = .ok true w) (hz : ∀ w, (sizeOf ty).run P w = .ok cs.length w) (hc : ∀ j v, cs[j]? = some v → w.cell? (p.add j) = some v) :
    (results fn tmps).run P w = .ok (.agg cs.toArray) w := by
  have e : (loadVar ty p).run P w = .ok (.agg cs.toArray) w := by simp [loadVar, Sem.run_bind, hagg, hz, run_loadCells_list w p cs hc]
  rw [Array.getD_eq_getD_getElem?] at ha
  simp [results, hr, ha, asAddr, e]

set_option maxRecDepth 10000 in
set_option maxHeartbeats 32000000 in
theorem stop_ok (w : World) : Calls Try.prog 48 #[.int .i64 0] w fun e w' => e = .returned (.tuple #[]) ∧ w' = w := by
  go_enter Try.func48, Try.ntmps48
  go_upto_region 0 with fail
  refine wp_region_list ?_
  refine readL (.int .i64 0) rfl (by kernel_rfl) ?_
  simp only [aP, lI, l0, lS]
  refine readL (.bool false) rfl (neqI .i64 _ _ _ _ _ _ rfl rfl rfl false (by decide) _) ?_
  simp only [aP, lI, l0, lS]
  first | show Exit.then _ _ _ _ _ | show Exit.inBlock _ _ _ _ _
  go_wp2
  refine bodyPost_end (v := .tuple #[]) (by kernel_rfl) rfl ?_
  exact ⟨rfl, rfl⟩

set_option maxRecDepth 10000 in
set_option maxHeartbeats 32000000 in
theorem stop_bad (c : Int) (hc : c ≠ 0) (w : World) : Calls Try.prog 48 #[.int .i64 c] w fun e w' => e = .panicked [Pe c] ∧ w' = w := by
  go_enter Try.func48, Try.ntmps48
  go_upto_region 0 with fail
  refine wp_region_list ?_
  refine readL (.int .i64 c) rfl (by kernel_rfl) ?_
  simp only [aP, lI, l0, lS]
  refine readL (.bool true) rfl (neqI .i64 _ _ _ _ _ _ rfl rfl rfl true (by simpa using hc) _) ?_
  simp only [aP, lI, l0, lS]
  first | show Exit.then _ _ _ _ _ | show Exit.inBlock _ _ _ _ _
  go_upto_region 1 with fail
  refine wp_region_list ?_
  refine readL (.int .i64 c) rfl (by kernel_rfl) ?_
  simp only [aP, lI, l0, lS]
  refine readL (.iface 28 (.int .i64 c)) rfl (by kernel_rfl) ?_
  simp only [aP, lI, l0, lS]
  refine panicL (.iface 28 (.int .i64 c)) rfl (by kernel_rfl) ?_
  exact ⟨rfl, rfl, rfl⟩

def NumP (w0 : World) (R : Nat) (l : List (Nat × List Value)) (b : List Int) (w : World) (e : Ending) (w' : World) : Prop := (lE b = 0 ∧ e = .returned (.int .i64 (lN b)) ∧ Lft w0 R l w (lR b) w') ∨ (lE b ≠ 0 ∧ Pan w0 R l (lE b) e w')

set_option maxRecDepth 10000 in
set_option maxHeartbeats 32000000 in
theorem fnumber_any (w0 w : World) (R : Nat) (l : List (Nat × List Value)) (sp : Option Addr) (cap : Nat) (b : List Int) (hlen : b.length ≤ 256) (hcap : b.length ≤ cap) (hnil : sp = none → cap = 0) (hb : Byts b) (M : Mm w0 ((R, [.slice sp b.length cap]) :: l) w) (hs : Src w sp b.length (bl b)) :
    Calls Try.prog 44 #[.pointer (some ⟨R, 0, none⟩)] w fun e w' => NumP w0 R l b w e w' := by
  have hlow : ∀ x ∈ [R], x < w.heap.size := fun x hx => by obtain rfl := List.mem_singleton.1 hx; exact M.lt List.mem_cons_self
  go_enter Try.func44, Try.ntmps44
  go_upto_region 0 with fail
  refine wp_region_list ?_
  refine readL (.int .i64 0) rfl (by kernel_rfl) ?_
  simp only [aP, lI, l0, lS]
  first | show Exit.then _ _ _ _ _ | show Exit.inBlock _ _ _ _ _
  go_upto_region 1 with fail
  refine wp_region_list ?_
  refine readL (.pointer (some ⟨R, 0, none⟩)) rfl (by kernel_rfl) ?_
  simp only [aP, lI, l0, lS]
  refine readL (.pointer (some ⟨R, 0, none⟩)) rfl (by kernel_rfl) ?_
  simp only [aP, lI, l0, lS]
  refine readL (.pointer (some ⟨R, 0, none⟩)) rfl (by kernel_rfl) ?_
  simp only [aP, lI, l0, lS]
  refine readL (.slice sp b.length cap) rfl (load1 23 _ ⟨R, 0, none⟩ _ rfl rfl (fun _ => by kernel_rfl) (M.get List.mem_cons_self 0 _ rfl)) ?_
  simp only [aP, lI, l0, lS]
  refine callL rfl (fun _ => by kernel_rfl) (vtakevar_own sp b.length cap (by omega) hcap hnil (bl b) hb.bl _ hs) ?_
  rintro e w1 ⟨⟨v, rfl, O⟩, l1⟩
  replace M := M.call l1
  have OF : Off [R] w w1 := Off.of_below l1
  clear l1
  have O_1 : OwnL w1 w.heap.size (lR b) v := by unfold OwnL; rw [lR_len]; exact Own.congr O fun j hj => lR_bl b j hj
  obtain ⟨p1, c1, rfl, _, _⟩ := O_1.bytes
  clear O
  have e1 : tN b.length (bl b) = lN b := rfl
  have e2 : tE b.length (bl b) = lE b := rfl
  refine ⟨_, rfl, ?_⟩
  simp only [aP, lI, l0, lS]
  rw [e1, e2]
  clear e1 e2
  refine readL (.tuple #[.int .i64 (lN b), .slice p1 ((lR b).length) c1, .int .i64 (lE b)]) rfl (by kernel_rfl) ?_
  simp only [aP, lI, l0, lS]
  refine readL (.int .i64 (lN b)) rfl (by kernel_rfl) ?_
  simp only [aP, lI, l0, lS]
  refine readL (.slice p1 ((lR b).length) c1) rfl (by kernel_rfl) ?_
  simp only [aP, lI, l0, lS]
  refine readL (.int .i64 (lE b)) rfl (by kernel_rfl) ?_
  simp only [aP, lI, l0, lS]
  refine readL (.int .i64 (lN b)) rfl (by kernel_rfl) ?_
  simp only [aP, lI, l0, lS]
  refine readL (.slice p1 ((lR b).length) c1) rfl (by kernel_rfl) ?_
  simp only [aP, lI, l0, lS]
  refine readL (.int .i64 (lE b)) rfl (by kernel_rfl) ?_
  simp only [aP, lI, l0, lS]
  first | show Exit.then _ _ _ _ _ | show Exit.inBlock _ _ _ _ _
  by_cases h : lE b = 0
  · have HA := show Hid _ from h
    rw [h]
    clear h
    go_upto_region 2 with fail
    refine wp_region_list ?_
    refine readL (.int .i64 0) rfl (by kernel_rfl) ?_
    simp only [aP, lI, l0, lS]
    refine callL rfl (fun _ => by kernel_rfl) (stop_ok _) ?_
    rintro e w2 ⟨rfl, hw⟩
    subst hw
    refine ⟨_, rfl, ?_⟩
    simp only [aP, lI, l0, lS]
    first | show Exit.then _ _ _ _ _ | show Exit.inBlock _ _ _ _ _
    go_upto_region 3 with fail
    refine wp_region_list ?_
    refine readL (.pointer (some ⟨R, 0, none⟩)) rfl (by kernel_rfl) ?_
    simp only [aP, lI, l0, lS]
    refine readL (.slice p1 ((lR b).length) c1) rfl (by kernel_rfl) ?_
    simp only [aP, lI, l0, lS]
    refine readL (.pointer (some ⟨R, 0, none⟩)) rfl (by kernel_rfl) ?_
    simp only [aP, lI, l0, lS]
    refine readL (.pointer (some ⟨R, 0, none⟩)) rfl (by kernel_rfl) ?_
    simp only [aP, lI, l0, lS]
    refine skipOpL rfl (storeAny (.slice p1 ((lR b).length) c1) R 0 23 _ _ rfl rfl rfl rfl rfl (M.isSome List.mem_cons_self 0 (by simp)) (M.free List.mem_cons_self 0 (by simp)) (by kernel_rfl)) ?_
    simp only [Act.put]
    replace M := M.set 0 (by simp) (.slice p1 ((lR b).length) c1)
    replace OF := OF.trans ((Off.refl [R] _).set List.mem_cons_self 0 (.slice p1 ((lR b).length) c1))
    replace O_1 := ownsRow_low O_1 ((Off.refl [R] _).set List.mem_cons_self 0 (.slice p1 ((lR b).length) c1)) hlow
    generalize w2.setCell ⟨R, 0, none⟩ (.slice p1 ((lR b).length) c1) = w3 at M OF O_1 ⊢
    replace M : Mm w0 ((R, [.slice p1 ((lR b).length) c1]) :: l) w3 := M
    first | show Exit.then _ _ _ _ _ | show Exit.inBlock _ _ _ _ _
    go_upto_region 4 with fail
    refine wp_region_list ?_
    refine readL (.int .i64 (lN b)) rfl (by kernel_rfl) ?_
    simp only [aP, lI, l0, lS]
    refine readL (.int .i64 (lN b)) rfl (by kernel_rfl) ?_
    simp only [aP, lI, l0, lS]
    first | show Exit.then _ _ _ _ _ | show Exit.inBlock _ _ _ _ _
    go_wp2
    go_ret
    exact .inl ⟨HA.out, rfl, p1, c1, M, OF, O_1⟩
  · go_upto_region 2 with fail
    refine wp_region_list ?_
    refine readL (.int .i64 (lE b)) rfl (by kernel_rfl) ?_
    simp only [aP, lI, l0, lS]
    refine callPL rfl (fun _ => by kernel_rfl) (stop_bad _ h _) ?_
    rintro e w4 ⟨rfl, hw⟩
    subst hw
    right
    refine ⟨_, rfl, ?_⟩
    exact ⟨rfl, .inr ⟨h, rfl, _, M⟩⟩

def TxtP (w0 : World) (R : Nat) (l : List (Nat × List Value)) (b : List Int) (w : World) (e : Ending) (w' : World) : Prop := (qE b = 0 ∧ ∃ pt ct, e = .returned (.slice pt (qT b).length ct) ∧ OwnL w' w.heap.size (qT b) (.slice pt (qT b).length ct) ∧ Lft w0 R l w (qR b) w') ∨ (qE b ≠ 0 ∧ Pan w0 R l (qE b) e w')

set_option maxRecDepth 10000 in
set_option maxHeartbeats 32000000 in
theorem ftext_any (w0 w : World) (R : Nat) (l : List (Nat × List Value)) (sp : Option Addr) (cap : Nat) (b : List Int) (hlen : b.length ≤ 256) (hcap : b.length ≤ cap) (hnil : sp = none → cap = 0) (hb : Byts b) (M : Mm w0 ((R, [.slice sp b.length cap]) :: l) w) (hs : Src w sp b.length (bl b)) :
    Calls Try.prog 45 #[.pointer (some ⟨R, 0, none⟩)] w fun e w' => TxtP w0 R l b w e w' := by
  have hlow : ∀ x ∈ [R], x < w.heap.size := fun x hx => by obtain rfl := List.mem_singleton.1 hx; exact M.lt List.mem_cons_self
  go_enter Try.func45, Try.ntmps45
  go_upto_region 0 with fail
  refine wp_region_list ?_
  refine readL (.slice none 0 0) rfl (by kernel_rfl) ?_
  simp only [aP, lI, l0, lS]
  first | show Exit.then _ _ _ _ _ | show Exit.inBlock _ _ _ _ _
  go_upto_region 1 with fail
  refine wp_region_list ?_
  refine readL (.pointer (some ⟨R, 0, none⟩)) rfl (by kernel_rfl) ?_
  simp only [aP, lI, l0, lS]
  refine readL (.pointer (some ⟨R, 0, none⟩)) rfl (by kernel_rfl) ?_
  simp only [aP, lI, l0, lS]
  refine readL (.pointer (some ⟨R, 0, none⟩)) rfl (by kernel_rfl) ?_
  simp only [aP, lI, l0, lS]
  refine readL (.slice sp b.length cap) rfl (load1 23 _ ⟨R, 0, none⟩ _ rfl rfl (fun _ => by kernel_rfl) (M.get List.mem_cons_self 0 _ rfl)) ?_
  simp only [aP, lI, l0, lS]
  refine callL rfl (fun _ => by kernel_rfl) (vtakebytes_own sp b.length cap (by omega) hcap hnil (bl b) hb.bl 128 ⟨by decide, by decide⟩ _ hs) ?_
  rintro e w1 ⟨⟨tt, vv, rfl, O1, O2⟩, l1⟩
  replace M := M.call l1
  have OF : Off [R] w w1 := Off.of_below l1
  obtain ⟨q1, q2, q3, q4⟩ := q_len b hb
  have O_1 : OwnL w1 w.heap.size (qT b) tt := by unfold OwnL; rw [q1]; exact Own.congr O1 q3
  have O_2 : OwnL w1 w.heap.size (qR b) vv := by unfold OwnL; rw [q2]; exact Own.congr O2 q4
  obtain ⟨p1, c1, rfl, _, _⟩ := O_1.bytes
  obtain ⟨p2, c2, rfl, _, _⟩ := O_2.bytes
  have e3 : xE b.length (bl b) 128 = qE b := rfl
  clear l1 O1 O2 q1 q2 q3 q4
  refine ⟨_, rfl, ?_⟩
  simp only [aP, lI, l0, lS]
  rw [e3]
  clear e3
  refine readL (.tuple #[.slice p1 ((qT b).length) c1, .slice p2 ((qR b).length) c2, .int .i64 (qE b)]) rfl (by kernel_rfl) ?_
  simp only [aP, lI, l0, lS]
  refine readL (.slice p1 ((qT b).length) c1) rfl (by kernel_rfl) ?_
  simp only [aP, lI, l0, lS]
  refine readL (.slice p2 ((qR b).length) c2) rfl (by kernel_rfl) ?_
  simp only [aP, lI, l0, lS]
  refine readL (.int .i64 (qE b)) rfl (by kernel_rfl) ?_
  simp only [aP, lI, l0, lS]
  refine readL (.slice p1 ((qT b).length) c1) rfl (by kernel_rfl) ?_
  simp only [aP, lI, l0, lS]
  refine readL (.slice p2 ((qR b).length) c2) rfl (by kernel_rfl) ?_
  simp only [aP, lI, l0, lS]
  refine readL (.int .i64 (qE b)) rfl (by kernel_rfl) ?_
  simp only [aP, lI, l0, lS]
  first | show Exit.then _ _ _ _ _ | show Exit.inBlock _ _ _ _ _
  by_cases h : qE b = 0
  · have HA := show Hid _ from h
    rw [h]
    clear h
    go_upto_region 2 with fail
    refine wp_region_list ?_
    refine readL (.int .i64 0) rfl (by kernel_rfl) ?_
    simp only [aP, lI, l0, lS]
    refine callL rfl (fun _ => by kernel_rfl) (stop_ok _) ?_
    rintro e w2 ⟨rfl, hw⟩
    subst hw
    refine ⟨_, rfl, ?_⟩
    simp only [aP, lI, l0, lS]
    first | show Exit.then _ _ _ _ _ | show Exit.inBlock _ _ _ _ _
    go_upto_region 3 with fail
    refine wp_region_list ?_
    refine readL (.pointer (some ⟨R, 0, none⟩)) rfl (by kernel_rfl) ?_
    simp only [aP, lI, l0, lS]
    refine readL (.slice p2 ((qR b).length) c2) rfl (by kernel_rfl) ?_
    simp only [aP, lI, l0, lS]
    refine readL (.pointer (some ⟨R, 0, none⟩)) rfl (by kernel_rfl) ?_
    simp only [aP, lI, l0, lS]
    refine readL (.pointer (some ⟨R, 0, none⟩)) rfl (by kernel_rfl) ?_
    simp only [aP, lI, l0, lS]
    refine skipOpL rfl (storeAny (.slice p2 ((qR b).length) c2) R 0 23 _ _ rfl rfl rfl rfl rfl (M.isSome List.mem_cons_self 0 (by simp)) (M.free List.mem_cons_self 0 (by simp)) (by kernel_rfl)) ?_
    simp only [Act.put]
    replace M := M.set 0 (by simp) (.slice p2 ((qR b).length) c2)
    replace OF := OF.trans ((Off.refl [R] _).set List.mem_cons_self 0 (.slice p2 ((qR b).length) c2))
    replace O_1 := ownsRow_low O_1 ((Off.refl [R] _).set List.mem_cons_self 0 (.slice p2 ((qR b).length) c2)) hlow
    replace O_2 := ownsRow_low O_2 ((Off.refl [R] _).set List.mem_cons_self 0 (.slice p2 ((qR b).length) c2)) hlow
    generalize w2.setCell ⟨R, 0, none⟩ (.slice p2 ((qR b).length) c2) = w3 at M OF O_1 O_2 ⊢
    replace M : Mm w0 ((R, [.slice p2 ((qR b).length) c2]) :: l) w3 := M
    first | show Exit.then _ _ _ _ _ | show Exit.inBlock _ _ _ _ _
    go_upto_region 4 with fail
    refine wp_region_list ?_
    refine readL (.slice p1 ((qT b).length) c1) rfl (by kernel_rfl) ?_
    simp only [aP, lI, l0, lS]
    refine readL (.slice p1 ((qT b).length) c1) rfl (by kernel_rfl) ?_
    simp only [aP, lI, l0, lS]
    first | show Exit.then _ _ _ _ _ | show Exit.inBlock _ _ _ _ _
    go_wp2
    go_ret
    exact .inl ⟨HA.out, p1, c1, rfl, O_1, p2, c2, M, OF, O_2⟩
  · go_upto_region 2 with fail
    refine wp_region_list ?_
    refine readL (.int .i64 (qE b)) rfl (by kernel_rfl) ?_
    simp only [aP, lI, l0, lS]
    refine callPL rfl (fun _ => by kernel_rfl) (stop_bad _ h _) ?_
    rintro e w4 ⟨rfl, hw⟩
    subst hw
    right
    refine ⟨_, rfl, ?_⟩
    exact ⟨rfl, .inr ⟨h, rfl, _, M⟩⟩

set_option maxRecDepth 10000 in
set_option maxHeartbeats 32000000 in
theorem fkind_any (w0 w : World) (R : Nat) (l : List (Nat × List Value)) (ad : Addr) (c : Nat) (x : Int) (bt : List Int) (hc : bt.length + 1 ≤ c) (hx : 0 ≤ x ∧ x < 256) (M : Mm w0 ((R, [.slice (some ad) (bt.length + 1) c]) :: l) w) (hcell : w.cell? (ad.add 0) = some (.int .u8 x)) :
    Calls Try.prog 43 #[.pointer (some ⟨R, 0, none⟩)] w fun e w' => e = .returned (.int .i64 x) ∧ ∃ cq, Mm w0 ((R, [.slice cq bt.length (c - 1)]) :: l) w' ∧ Off [R] w w' ∧ (∀ X w z, SrcA X w (some ad) (bt.length + 1) z → SrcA X w cq bt.length (fun j => z (1 + j))) ∧ (cq = none → c - 1 = 0) := by
  have OF := Off.refl [R] w
  go_enter Try.func43, Try.ntmps43
  go_upto_region 0 with fail
  refine wp_region_list ?_
  refine readL (.int .i64 0) rfl (by kernel_rfl) ?_
  simp only [aP, lI, l0, lS]
  first | show Exit.then _ _ _ _ _ | show Exit.inBlock _ _ _ _ _
  go_upto_region 1 with fail
  refine wp_region_list ?_
  refine readL (.pointer (some ⟨R, 0, none⟩)) rfl (by kernel_rfl) ?_
  simp only [aP, lI, l0, lS]
  refine readL (.pointer (some ⟨R, 0, none⟩)) rfl (by kernel_rfl) ?_
  simp only [aP, lI, l0, lS]
  refine readL (.pointer (some ⟨R, 0, none⟩)) rfl (by kernel_rfl) ?_
  simp only [aP, lI, l0, lS]
  refine readL (.slice (some ad) (bt.length + 1) c) rfl (load1 23 _ ⟨R, 0, none⟩ _ rfl rfl (fun _ => by kernel_rfl) (M.get List.mem_cons_self 0 _ rfl)) ?_
  simp only [aP, lI, l0, lS]
  refine readL (.pointer (some (ad.add 0))) rfl (idxSl 23 5 (bt.length + 1) c .i64 ad 0 _ _ Try.underlying23 (fun _ => by kernel_rfl) (by omega) rfl rfl rfl _) ?_
  simp only [aP, lI, l0, lS]
  refine readL (.int .u8 x) rfl (load1 5 _ (ad.add 0) _ rfl rfl (fun _ => by kernel_rfl) (hcell)) ?_
  simp only [aP, lI, l0, lS]
  refine readL (.int .u8 x) rfl (by kernel_rfl) ?_
  simp only [aP, lI, l0, lS]
  first | show Exit.then _ _ _ _ _ | show Exit.inBlock _ _ _ _ _
  go_upto_region 2 with fail
  refine wp_region_list ?_
  refine readL (.pointer (some ⟨R, 0, none⟩)) rfl (by kernel_rfl) ?_
  simp only [aP, lI, l0, lS]
  refine readL (.pointer (some ⟨R, 0, none⟩)) rfl (by kernel_rfl) ?_
  simp only [aP, lI, l0, lS]
  refine readL (.pointer (some ⟨R, 0, none⟩)) rfl (by kernel_rfl) ?_
  simp only [aP, lI, l0, lS]
  refine readL (.pointer (some ⟨R, 0, none⟩)) rfl (by kernel_rfl) ?_
  simp only [aP, lI, l0, lS]
  refine readL (.slice (some ad) (bt.length + 1) c) rfl (load1 23 _ ⟨R, 0, none⟩ _ rfl rfl (fun _ => by kernel_rfl) (M.get List.mem_cons_self 0 _ rfl)) ?_
  simp only [aP, lI, l0, lS]
  obtain ⟨cq, hcut, hcs, hcn⟩ := cut_loA (P := Try.prog) (t := 23) (by kernel_rfl) (fun _ => by kernel_rfl) (some ad) (bt.length + 1) c 1 (by omega) hc (fun e => by cases e)
  refine readL (.slice cq bt.length (c - 1)) rfl (cutOp _ _ _ _ _ _ rfl rfl rfl (hcut _)) ?_
  simp only [aP, lI, l0, lS]
  refine readL (.pointer (some ⟨R, 0, none⟩)) rfl (by kernel_rfl) ?_
  simp only [aP, lI, l0, lS]
  refine readL (.pointer (some ⟨R, 0, none⟩)) rfl (by kernel_rfl) ?_
  simp only [aP, lI, l0, lS]
  refine skipOpL rfl (storeAny (.slice cq bt.length (c - 1)) R 0 23 _ _ rfl rfl rfl rfl rfl (M.isSome List.mem_cons_self 0 (by simp)) (M.free List.mem_cons_self 0 (by simp)) (by kernel_rfl)) ?_
  simp only [Act.put]
  replace M := M.set 0 (by simp) (.slice cq bt.length (c - 1))
  replace OF := OF.trans ((Off.refl [R] _).set List.mem_cons_self 0 (.slice cq bt.length (c - 1)))
  generalize w.setCell ⟨R, 0, none⟩ (.slice cq bt.length (c - 1)) = w1 at M OF ⊢
  replace M : Mm w0 ((R, [.slice cq bt.length (c - 1)]) :: l) w1 := M
  first | show Exit.then _ _ _ _ _ | show Exit.inBlock _ _ _ _ _
  go_upto_region 3 with fail
  refine wp_region_list ?_
  refine readL (.int .u8 x) rfl (by kernel_rfl) ?_
  simp only [aP, lI, l0, lS]
  refine readL (.int .i64 x) rfl (convI .u8 .i64 _ _ _ _ _ rfl (by kernel_rfl) Try.underlying3 (by kernel_rfl) rfl (by rw [IntKind.wrap_i64]; omega) _) ?_
  simp only [aP, lI, l0, lS]
  refine readL (.int .i64 x) rfl (by kernel_rfl) ?_
  simp only [aP, lI, l0, lS]
  first | show Exit.then _ _ _ _ _ | show Exit.inBlock _ _ _ _ _
  go_wp2
  go_ret
  exact ⟨rfl, cq, M, OF, hcs, hcn⟩

def NxtP (w0 : World) (R : Nat) (l : List (Nat × List Value)) (last : Int) (b : List Int) (w : World) (e : Ending) (w' : World) : Prop :=
  (lE b = 0 ∧ lE (lR b) = 0 ∧ ¬ (MX - last < lN b ∨ MX - last - lN b < lN (lR b)) ∧ e = .returned (.agg #[.int .i64 (last + lN b), .int .i64 (last + lN b + lN (lR b))]) ∧ Lft w0 R l w (lR (lR b)) w') ∨ (∃ c, (∀ n, rd (n + 1) last b = .error c) ∧ Pan w0 R l c e w')

set_option maxRecDepth 10000 in
set_option maxHeartbeats 32000000 in
theorem fnext_any (w0 w : World) (R : Nat) (l : List (Nat × List Value)) (sp : Option Addr) (cap : Nat) (b : List Int) (hlen : b.length ≤ 256) (hcap : b.length ≤ cap) (hnil : sp = none → cap = 0) (hb : Byts b) (last : Int) (hl0 : 0 ≤ last) (hl1 : last ≤ 4611686018427387903) (M : Mm w0 ((R, [.slice sp b.length cap]) :: l) w) (hs : Src w sp b.length (bl b)) :
    Calls Try.prog 56 #[.pointer (some ⟨R, 0, none⟩), .int .i64 last] w fun e w' => NxtP w0 R l last b w e w' := by
  go_enter Try.func56, Try.ntmps56
  go_upto_region 0 with fail
  refine wp_region_list ?_
  refine actL (w' := w.alloc (.cells #[.int .i64 0, .int .i64 0] 43)) (.pointer (some ⟨w.heap.size, 0, none⟩)) rfl (by kernel_rfl) ?_
  simp only [aP, lI, l0, lS]
  have hB_B1 : w0.heap.size ≤ w.heap.size := M.below.size
  have hB1b := (Below.refl w.heap.size w).alloc (Nat.le_refl _) (.cells #[.int .i64 0, .int .i64 0] 43)
  have hRw := M.lt List.mem_cons_self
  replace M := M.box #[.int .i64 0, .int .i64 0] 43 w.heap.size rfl
  generalize w.alloc (.cells #[.int .i64 0, .int .i64 0] 43) = w1 at M hB1b ⊢
  generalize eB : w.heap.size = B1 at M hB_B1 ⊢
  have hE_B1 : w.heap.size ≤ B1 := Nat.le_of_eq eB
  have hF_B1 : B1 ≤ w.heap.size := Nat.le_of_eq eB.symm
  clear eB
  replace M : Mm w0 ((B1, [.int .i64 0, .int .i64 0]) :: (R, [.slice sp b.length cap]) :: l) w1 := M
  first | show Exit.then _ _ _ _ _ | show Exit.inBlock _ _ _ _ _
  have OF : Off [R, B1] w w1 := Off.of_below hB1b
  have hRB := M.lt (List.mem_cons_of_mem _ List.mem_cons_self)
  have hBlt := M.lt List.mem_cons_self
  have hB := hB1b
  go_upto_region 1 with fail
  refine wp_region_list ?_
  refine readL (.pointer (some ⟨R, 0, none⟩)) rfl (by kernel_rfl) ?_
  simp only [aP, lI, l0, lS]
  replace M := M.swap
  refine callPL rfl (fun _ => by kernel_rfl) (fnumber_any w0 _ R _ _ _ b hlen hcap hnil hb M (hs.below hB (Nat.le_refl _))) ?_
  rintro e w2 (⟨h2, rfl, p2, c2, M', o2, O_2⟩ | ⟨h2, rfl, s2, M'⟩)
  rotate_left
  · right
    refine ⟨_, rfl, ?_⟩
    exact ⟨rfl, .inr ⟨_, fun n => rd_gap h2, rfl, s2, M'.drop2⟩⟩
  left
  clear M
  have M := M'
  clear M'
  have hc2 := O_2.le
  have hn2 := O_2.nilCap
  have hl2 := lR_le b
  have hb2 := lR_byts hb
  have ho2 := o2.size
  replace OF := OF.trans (o2.mono (Y := [R, B1]) (fun x hx => by obtain rfl := List.mem_singleton.1 hx; exact List.mem_cons_self))
  refine ⟨_, rfl, ?_⟩
  simp only [aP, lI, l0, lS]
  refine readL (.int .i64 (lN b)) rfl (by kernel_rfl) ?_
  simp only [aP, lI, l0, lS]
  first | show Exit.then _ _ _ _ _ | show Exit.inBlock _ _ _ _ _
  go_upto_region 2 with fail
  refine wp_region_list ?_
  refine readL (.pointer (some ⟨R, 0, none⟩)) rfl (by kernel_rfl) ?_
  simp only [aP, lI, l0, lS]
  refine callPL rfl (fun _ => by kernel_rfl) (fnumber_any w0 _ R _ _ _ (lR b) (Nat.le_trans (lR_le b) hlen) hc2 hn2 hb2 M O_2.src) ?_
  rintro e w3 (⟨h3, rfl, p3, c3, M', o3, O_3⟩ | ⟨h3, rfl, s3, M'⟩)
  rotate_left
  · right
    refine ⟨_, rfl, ?_⟩
    exact ⟨rfl, .inr ⟨_, fun n => rd_len h2 h3, rfl, s3, M'.drop2⟩⟩
  left
  clear M
  have M := M'
  clear M'
  have hc3 := O_3.le
  have hn3 := O_3.nilCap
  have hl3 := lR_le (lR b)
  have hb3 := lR_byts hb2
  have ho3 := o3.size
  replace OF := OF.trans (o3.mono (Y := [R, B1]) (fun x hx => by obtain rfl := List.mem_singleton.1 hx; exact List.mem_cons_self))
  refine ⟨_, rfl, ?_⟩
  simp only [aP, lI, l0, lS]
  refine readL (.int .i64 (lN (lR b))) rfl (by kernel_rfl) ?_
  simp only [aP, lI, l0, lS]
  first | show Exit.then _ _ _ _ _ | show Exit.inBlock _ _ _ _ _
  have hg1 := lN_pos hb h2
  have hg2 := lN_pos hb2 h3
  go_upto_region 3 with fail
  refine wp_region_list ?_
  refine readL (.int .i64 last) rfl (by kernel_rfl) ?_
  simp only [aP, lI, l0, lS]
  refine readL (.int .i64 (4611686018427387903 - last)) rfl (subI .i64 _ _ _ _ _ _ _ rfl rfl rfl (by rw [IntKind.wrap_i64]; omega) _) ?_
  simp only [aP, lI, l0, lS]
  refine readL (.int .i64 (lN b)) rfl (by kernel_rfl) ?_
  simp only [aP, lI, l0, lS]
  refine readL (.int .i64 ((4611686018427387903 - last) - (lN b))) rfl (subI .i64 _ _ _ _ _ _ _ rfl rfl rfl (by rw [IntKind.wrap_i64]; omega) _) ?_
  simp only [aP, lI, l0, lS]
  refine readL (.int .i64 ((4611686018427387903 - last) - (lN b))) rfl (by kernel_rfl) ?_
  simp only [aP, lI, l0, lS]
  first | show Exit.then _ _ _ _ _ | show Exit.inBlock _ _ _ _ _
  by_cases hfar : MX - last < lN b ∨ MX - last - lN b < lN (lR b)
  · go_upto_region 4 with fail
    refine wp_region_list ?_
    refine readL (.int .i64 (lN (lR b))) rfl (by kernel_rfl) ?_
    simp only [aP, lI, l0, lS]
    refine readL (.int .i64 ((4611686018427387903 - last) - (lN b))) rfl (by kernel_rfl) ?_
    simp only [aP, lI, l0, lS]
    refine readL (.bool true) rfl (gtrI .i64 _ _ _ _ _ _ rfl rfl rfl true (decide_eq_true (by unfold MX at hfar; omega)) _) ?_
    simp only [aP, lI, l0, lS]
    first | show Exit.then _ _ _ _ _ | show Exit.inBlock _ _ _ _ _
    go_upto_region 5 with fail
    refine wp_region_list ?_
    refine readL (.iface 28 (.int .i64 100)) rfl (by kernel_rfl) ?_
    simp only [aP, lI, l0, lS]
    refine panicL (.iface 28 (.int .i64 100)) rfl (by kernel_rfl) ?_
    exact ⟨rfl, .inr ⟨_, fun n => rd_far h2 h3 hfar, rfl, _, M.drop2⟩⟩
  · go_upto_region 4 with fail
    refine wp_region_list ?_
    refine readL (.int .i64 (lN (lR b))) rfl (by kernel_rfl) ?_
    simp only [aP, lI, l0, lS]
    refine readL (.int .i64 ((4611686018427387903 - last) - (lN b))) rfl (by kernel_rfl) ?_
    simp only [aP, lI, l0, lS]
    refine readL (.bool false) rfl (gtrI .i64 _ _ _ _ _ _ rfl rfl rfl false (decide_eq_false (by unfold MX at hfar; omega)) _) ?_
    simp only [aP, lI, l0, lS]
    first | show Exit.then _ _ _ _ _ | show Exit.inBlock _ _ _ _ _
    go_upto_region 6 with fail
    refine wp_region_list ?_
    refine readL (.int .i64 last) rfl (by kernel_rfl) ?_
    simp only [aP, lI, l0, lS]
    refine readL (.int .i64 (lN b)) rfl (by kernel_rfl) ?_
    simp only [aP, lI, l0, lS]
    refine readL (.int .i64 (last + lN b)) rfl (addI .i64 _ _ _ _ _ _ _ rfl rfl rfl (by unfold MX at hfar; rw [IntKind.wrap_i64]; omega) _) ?_
    simp only [aP, lI, l0, lS]
    refine readL (.int .i64 (last + lN b)) rfl (by kernel_rfl) ?_
    simp only [aP, lI, l0, lS]
    first | show Exit.then _ _ _ _ _ | show Exit.inBlock _ _ _ _ _
    have hlow2 : ∀ x ∈ [R, B1], x < w2.heap.size := fun x hx => by rcases List.mem_cons.1 hx with rfl | hx; omega; obtain rfl := List.mem_singleton.1 hx; omega
    go_upto_region 7 with fail
    refine wp_region_list ?_
    refine readL (.int .i64 (last + lN b)) rfl (by kernel_rfl) ?_
    simp only [aP, lI, l0, lS]
    refine readL (.int .i64 (last + lN b)) rfl (by kernel_rfl) ?_
    simp only [aP, lI, l0, lS]
    refine readL (.int .i64 (lN (lR b))) rfl (by kernel_rfl) ?_
    simp only [aP, lI, l0, lS]
    refine readL (.int .i64 (last + lN b + lN (lR b))) rfl (addI .i64 _ _ _ _ _ _ _ rfl rfl rfl (by unfold MX at hfar; rw [IntKind.wrap_i64]; omega) _) ?_
    simp only [aP, lI, l0, lS]
    refine readL (.agg #[.int .i64 (last + lN b), .int .i64 (last + lN b + lN (lR b))]) rfl (by kernel_rfl) ?_
    simp only [aP, lI, l0, lS]
    replace M := M.swap
    refine skipOpL rfl (storeP [.int .i64 (last + lN b), .int .i64 (last + lN b + lN (lR b))] B1 0 43 _ _ rfl rfl rfl (M.thereP List.mem_cons_self 0 2 (Nat.le_of_ble_eq_true rfl)) (by kernel_rfl) (List.all_eq_true.1 (rfl : ([.int .i64 (last + lN b), .int .i64 (last + lN b + lN (lR b))] : List Value).all (fun u => u.oneCell') = true))) ?_
    simp only [Act.put]
    replace M := M.setPart [.int .i64 (last + lN b), .int .i64 (last + lN b + lN (lR b))] 0 (Nat.le_of_ble_eq_true rfl)
    replace OF := OF.trans ((Off.refl [R, B1] _).setAll (List.mem_cons_of_mem _ List.mem_cons_self) 0 [.int .i64 (last + lN b), .int .i64 (last + lN b + lN (lR b))])
    replace O_3 := ownsRow_low O_3 ((Off.refl [R, B1] _).setAll (List.mem_cons_of_mem _ List.mem_cons_self) 0 [.int .i64 (last + lN b), .int .i64 (last + lN b + lN (lR b))]) hlow2
    generalize w3.setCells B1 0 [.int .i64 (last + lN b), .int .i64 (last + lN b + lN (lR b))] = w4 at M OF O_3 ⊢
    replace M : Mm w0 ((B1, [.int .i64 (last + lN b), .int .i64 (last + lN b + lN (lR b))]) :: (R, [.slice p3 ((lR (lR b)).length) c3]) :: l) w4 := M
    first | show Exit.then _ _ _ _ _ | show Exit.inBlock _ _ _ _ _
    replace M := M.swap
    have HS := show Hid _ from (And.intro h2 (And.intro h3 (And.intro hfar (And.intro M (And.intro OF O_3)))))
    clear M OF O_3 hfar h2 h3
    go_wp2
    have c1 := HS.out.2.2.2.1.part (List.mem_cons_of_mem _ List.mem_cons_self) 0 [.int .i64 (last + lN b), .int .i64 (last + lN b + lN (lR b))] rfl
    refine bodyPost_ret (v := .agg #[.int .i64 (last + lN b), .int .i64 (last + lN b + lN (lR b))]) (retCell 4 43 ⟨B1, 0, none⟩ [.int .i64 (last + lN b), .int .i64 (last + lN b + lN (lR b))] rfl rfl (fun _ => by kernel_rfl) (fun _ => by kernel_rfl) c1) rfl ?_
    exact .inl ⟨HS.out.1, HS.out.2.1, HS.out.2.2.1, rfl, _, _, HS.out.2.2.2.1.drop2, HS.out.2.2.2.2.1.lessN (fun x hx => by rcases List.mem_cons.1 hx with rfl | hx; exact .inl List.mem_cons_self; obtain rfl := List.mem_singleton.1 hx; exact .inr hE_B1), Own.lower (show OwnL _ _ (lR (lR b)) _ from HS.out.2.2.2.2.2) (by omega)⟩
end Go.Proofs.Yteaamgjlkohfcaa

namespace Go.Proofs.Yteaamgjlkohfcaa
open Go.RowKit

theorem Off.and1 {X : List Nat} {w w1 w2 : World} {b : Nat} (h : Off X w w1) (g : Off [b] w1 w2) (hb : b ∈ X ∨ w.heap.size ≤ b) : Off X w w2 :=
  ⟨Nat.le_trans h.size g.size, fun c hc hX => (g.blk c (Nat.lt_of_lt_of_le hc h.size) (fun e => by
    obtain rfl := List.mem_singleton.1 e
    rcases hb with h' | h'
    · exact hX h'
    · omega)).trans (h.blk c hc hX)⟩
theorem run_copy_part {P : Program} {o : Oper} {a : Act} {w : World} (d s : Operand) (dT sT elem : TypeId) (ho : o.op = .call { callee := .builtin .copy, args := #[d, s], argTypes := #[dT, sT] }) (hu : P.underlying dT = some (.slice elem)) (hsz : (P.info? elem).map (·.size) = some 1)
    (b dLen dCap sLen sCap m : Nat) (z : Nat → Int) (ad : Addr) (hd : a.eval d = .slice (some ⟨b, 0, none⟩) dLen dCap) (hs : a.eval s = .slice (some ad) sLen sCap) (hmin : m = Nat.min sLen dLen) (hb : w.there b 0 m) (hc : Src w (some ad) m z) :
    (execOp a.eval o).run P w = .ok (.value (.int .i64 (m : Int))) (w.setCells b 0 (row .u8 m z)) := by
  have hrun := run_copy_cells (P := P) w dT sT o.type elem b 0 dLen dCap ad sLen sCap (row .u8 m z) hu hsz (by rw [row_length]; exact hmin) (fun j v hv => by
    obtain ⟨hj, rfl⟩ := row_get_some hv
    obtain ⟨ad', he, hc'⟩ := hc j hj
    injection he with he
    subst he
    exact hc') (fun j hj => by rw [row_length] at hj; exact (hb j hj).1) (fun j hj => by rw [row_length] at hj; exact (hb j hj).2) (row_one .u8 m z)
  rw [row_length] at hrun
  simp [execOp, ho, resolve, invoke, builtin, hd, hs, hrun, Result.andThen, goInt]
def tk8 (b : List Int) : List Value := [.int .u8 (bl b 0), .int .u8 (bl b 1), .int .u8 (bl b 2), .int .u8 (bl b 3), .int .u8 (bl b 4), .int .u8 (bl b 5), .int .u8 (bl b 6), .int .u8 (bl b 7)]
def TokP (w0 : World) (R : Nat) (l : List (Nat × List Value)) (sp : Option Addr) (cap : Nat) (b : List Int) (w : World) (e : Ending) (w' : World) : Prop :=
  (8 ≤ b.length ∧ e = .returned (.agg (tk8 b).toArray) ∧ ∃ cq, Mm w0 ((R, [.slice cq (b.length - 8) (cap - 8)]) :: l) w' ∧ Off [R] w w' ∧ (∀ X w z, SrcA X w sp b.length z → SrcA X w cq (b.length - 8) (fun j => z (8 + j))) ∧ (cq = none → cap - 8 = 0)) ∨ (b.length < 8 ∧ Pan w0 R l 3 e w')

set_option maxRecDepth 10000 in
set_option maxHeartbeats 32000000 in
theorem ftoken_any (w0 w : World) (R : Nat) (l : List (Nat × List Value)) (sp : Option Addr) (cap : Nat) (b : List Int) (hlen : b.length ≤ 256) (hcap : b.length ≤ cap) (hnil : sp = none → cap = 0) (M : Mm w0 ((R, [.slice sp b.length cap]) :: l) w) (hs : Src w sp b.length (bl b)) :
    Calls Try.prog 47 #[.pointer (some ⟨R, 0, none⟩)] w fun e w' => TokP w0 R l sp cap b w e w' := by
  have OF := Off.refl [R] w
  have hRw := M.lt List.mem_cons_self
  go_enter Try.func47, Try.ntmps47
  go_upto_region 0 with fail
  refine wp_region_list ?_
  refine actL (w' := w.alloc (.cells #[.int .u8 0, .int .u8 0, .int .u8 0, .int .u8 0, .int .u8 0, .int .u8 0, .int .u8 0, .int .u8 0] 24)) (.pointer (some ⟨w.heap.size, 0, none⟩)) rfl (by kernel_rfl) ?_
  simp only [aP, lI, l0, lS]
  have hlb := (Below.refl w.heap.size w).alloc (Nat.le_refl _) (.cells #[.int .u8 0, .int .u8 0, .int .u8 0, .int .u8 0, .int .u8 0, .int .u8 0, .int .u8 0, .int .u8 0] 24)
  replace OF := OF.below hlb
  have hb1 := hlb
  have hz1 := hlb.size
  clear hlb
  have hB_B1 : w0.heap.size ≤ w.heap.size := M.below.size
  replace M := M.box #[.int .u8 0, .int .u8 0, .int .u8 0, .int .u8 0, .int .u8 0, .int .u8 0, .int .u8 0, .int .u8 0] 24 w.heap.size rfl
  generalize w.alloc (.cells #[.int .u8 0, .int .u8 0, .int .u8 0, .int .u8 0, .int .u8 0, .int .u8 0, .int .u8 0, .int .u8 0] 24) = w1 at M OF hb1 hz1 ⊢
  generalize eB : w.heap.size = B1 at M hB_B1  ⊢
  have hE_B1 : w.heap.size ≤ B1 := Nat.le_of_eq eB
  have hF_B1 : B1 ≤ w.heap.size := Nat.le_of_eq eB.symm
  clear eB
  replace M : Mm w0 ((B1, [.int .u8 0, .int .u8 0, .int .u8 0, .int .u8 0, .int .u8 0, .int .u8 0, .int .u8 0, .int .u8 0]) :: (R, [.slice sp b.length cap]) :: l) w1 := M
  first | show Exit.then _ _ _ _ _ | show Exit.inBlock _ _ _ _ _
  go_upto_region 1 with fail
  refine wp_region_list ?_
  refine actL (w' := w1.alloc (.cells #[.int .u8 0, .int .u8 0, .int .u8 0, .int .u8 0, .int .u8 0, .int .u8 0, .int .u8 0, .int .u8 0] 24)) (.pointer (some ⟨w1.heap.size, 0, none⟩)) rfl (by kernel_rfl) ?_
  simp only [aP, lI, l0, lS]
  have hlb := (Below.refl w1.heap.size w1).alloc (Nat.le_refl _) (.cells #[.int .u8 0, .int .u8 0, .int .u8 0, .int .u8 0, .int .u8 0, .int .u8 0, .int .u8 0, .int .u8 0] 24)
  replace OF := OF.below hlb
  have hb2 := hlb
  clear hlb
  have hB_B2 : w0.heap.size ≤ w1.heap.size := M.below.size
  replace M := M.box #[.int .u8 0, .int .u8 0, .int .u8 0, .int .u8 0, .int .u8 0, .int .u8 0, .int .u8 0, .int .u8 0] 24 w1.heap.size rfl
  generalize w1.alloc (.cells #[.int .u8 0, .int .u8 0, .int .u8 0, .int .u8 0, .int .u8 0, .int .u8 0, .int .u8 0, .int .u8 0] 24) = w2 at M OF hb2 ⊢
  generalize eB : w1.heap.size = B2 at M hB_B2  ⊢
  have hE_B2 : w1.heap.size ≤ B2 := Nat.le_of_eq eB
  have hF_B2 : B2 ≤ w1.heap.size := Nat.le_of_eq eB.symm
  clear eB
  replace M : Mm w0 ((B2, [.int .u8 0, .int .u8 0, .int .u8 0, .int .u8 0, .int .u8 0, .int .u8 0, .int .u8 0, .int .u8 0]) :: (B1, [.int .u8 0, .int .u8 0, .int .u8 0, .int .u8 0, .int .u8 0, .int .u8 0, .int .u8 0, .int .u8 0]) :: (R, [.slice sp b.length cap]) :: l) w2 := M
  first | show Exit.then _ _ _ _ _ | show Exit.inBlock _ _ _ _ _
  have hS0 : Src w2 sp b.length (bl b) := ((hs.below hb1 (Nat.le_refl _)).below hb2 (Nat.le_refl _))
  go_upto_region 2 with fail
  refine wp_region_held_drew (S := fun w' => ∃ cs, Mm w0 ((B2, cs) :: (B1, [.int .u8 0, .int .u8 0, .int .u8 0, .int .u8 0, .int .u8 0, .int .u8 0, .int .u8 0, .int .u8 0]) :: (R, [.slice sp b.length cap]) :: l) w') (by kernel_rfl) ⟨_, M.drew⟩ ?_
  intro _
  replace M := M.drew
  replace OF := OF.below (Below.refl _ _).drew
  replace hS0 : Src w2.drew sp b.length (bl b) := hS0.below (Below.refl w2.heap.size w2).drew (Nat.le_refl _)
  have hdz : w2.heap.size ≤ w2.drew.heap.size := (Below.refl w2.heap.size w2).drew.size
  generalize w2.drew = w3 at M OF hS0 hdz ⊢
  refine readH (i := 0) (some 5) rfl (.slice (some ⟨B2, 0, none⟩) 8 8) rfl rfl (fun _ _ => cutAll 24 _ _ _ rfl rfl (by kernel_rfl)) (by kernel_rfl) (by kernel_rfl) (by kernel_rfl) (fun _ _ _ h => h) ⟨_, M⟩ ?_
  simp only [aP, lI, l0, lS]
  refine readH (i := 1) (some 6) rfl (.pointer (some ⟨R, 0, none⟩)) rfl rfl (fun _ _ => by kernel_rfl) (by kernel_rfl) (by kernel_rfl) (by kernel_rfl) (fun _ _ _ h => h) ⟨_, M⟩ ?_
  simp only [aP, lI, l0, lS]
  refine readH (i := 2) (some 7) rfl (.pointer (some ⟨R, 0, none⟩)) rfl rfl (fun _ _ => by kernel_rfl) (by kernel_rfl) (by kernel_rfl) (by kernel_rfl) (fun _ _ _ h => h) ⟨_, M⟩ ?_
  simp only [aP, lI, l0, lS]
  refine readH (i := 3) (some 8) rfl (.pointer (some ⟨R, 0, none⟩)) rfl rfl (fun _ _ => by kernel_rfl) (by kernel_rfl) (by kernel_rfl) (by kernel_rfl) (fun _ _ _ h => h) ⟨_, M⟩ ?_
  simp only [aP, lI, l0, lS]
  refine readH (i := 4) (some 9) rfl (.slice sp b.length cap) rfl rfl (fun _ hS => by obtain ⟨cs, M⟩ := hS; exact load1 23 _ ⟨R, 0, none⟩ _ rfl rfl (fun _ => by kernel_rfl) (M.get (List.mem_cons_of_mem _ (List.mem_cons_of_mem _ List.mem_cons_self)) 0 _ rfl)) (by kernel_rfl) (by kernel_rfl) (by kernel_rfl) (fun _ _ _ h => h) ⟨_, M⟩ ?_
  simp only [aP, lI, l0, lS]
  by_cases h8 : b.length < 8
  · 
    have M2 := Mm.setPart M (row .u8 b.length (bl b)) 0 (by rw [row_length]; show 0 + b.length ≤ 8; omega)
    refine onlyH (i := 5) (some 10) rfl (.int .i64 (b.length : Int)) (by kernel_rfl) rfl rfl (run_copy_src _ _ 23 23 5 rfl Try.underlying23 (by kernel_rfl) B2 8 8 b.length cap 8 sp (bl b) rfl rfl (by omega) (by omega) (M.thereP List.mem_cons_self 0 8 (Nat.le_of_ble_eq_true rfl)) hS0) ⟨_, M2⟩ ?_
    simp only [aP, lI, l0, lS]
    clear M OF hS0
    generalize w3.setCells B2 0 (row .u8 b.length (bl b)) = w4 at M2 ⊢
    have M := M2
    clear M2
    refine readH (i := 6) (some 4) rfl (.int .i64 (b.length : Int)) rfl rfl (fun _ _ => by kernel_rfl) (by kernel_rfl) (by kernel_rfl) (by kernel_rfl) (fun _ _ _ h => h) ⟨_, M⟩ ?_
    simp only [aP, lI, l0, lS]
    refine wpAnyH_done (by kernel_rfl) ?_ _
    first | show Exit.then _ _ _ _ _ | show Exit.inBlock _ _ _ _ _
    go_upto_region 3 with fail
    refine wp_region_list ?_
    refine readL (.int .i64 (b.length : Int)) rfl (by kernel_rfl) ?_
    simp only [aP, lI, l0, lS]
    refine readL (.bool true) rfl (lssI .i64 _ _ _ _ _ _ rfl rfl rfl true (decide_eq_true (by omega)) _) ?_
    simp only [aP, lI, l0, lS]
    first | show Exit.then _ _ _ _ _ | show Exit.inBlock _ _ _ _ _
    go_upto_region 4 with fail
    refine wp_region_list ?_
    refine readL (.iface 28 (.int .i64 3)) rfl (by kernel_rfl) ?_
    simp only [aP, lI, l0, lS]
    refine panicL (.iface 28 (.int .i64 3)) rfl (by kernel_rfl) ?_
    exact ⟨rfl, .inr ⟨h8, rfl, _, M.rot3.drop2.drop2⟩⟩
  · obtain ⟨ad, rfl, _⟩ := hS0 0 (by omega)
    have hS8 : Src w3 (some ad) 8 (bl b) := fun j hj => hS0 j (by omega)
    have M2 : Mm w0 ((B2, tk8 b) :: (B1, [.int .u8 0, .int .u8 0, .int .u8 0, .int .u8 0, .int .u8 0, .int .u8 0, .int .u8 0, .int .u8 0]) :: (R, [.slice (some ad) b.length cap]) :: l) (w3.setCells B2 0 (row .u8 8 (bl b))) := Mm.setPart M (row .u8 8 (bl b)) 0 (Nat.le_of_ble_eq_true rfl)
    refine onlyH (i := 5) (some 10) rfl (.int .i64 8) (by kernel_rfl) rfl rfl (run_copy_part _ _ 23 23 5 rfl Try.underlying23 (by kernel_rfl) B2 8 8 b.length cap 8 (bl b) ad rfl rfl (Nat.min_eq_right (by omega)).symm (M.thereP List.mem_cons_self 0 8 (Nat.le_of_ble_eq_true rfl)) hS8) ⟨_, M2⟩ ?_
    simp only [aP, lI, l0, lS]
    replace OF := OF.and1 ((Off.refl [B2] _).setAll (b := B2) List.mem_cons_self 0 (row .u8 8 (bl b))) (.inr (by omega))
    clear M hS0 hS8
    generalize w3.setCells B2 0 (row .u8 8 (bl b)) = w4 at M2 OF ⊢
    have M := M2
    clear M2
    refine readH (i := 6) (some 4) rfl (.int .i64 8) rfl rfl (fun _ _ => by kernel_rfl) (by kernel_rfl) (by kernel_rfl) (by kernel_rfl) (fun _ _ _ h => h) ⟨_, M⟩ ?_
    simp only [aP, lI, l0, lS]
    refine wpAnyH_done (by kernel_rfl) ?_ _
    first | show Exit.then _ _ _ _ _ | show Exit.inBlock _ _ _ _ _
    replace M : Mm w0 ((B2, [.int .u8 (bl b 0), .int .u8 (bl b 1), .int .u8 (bl b 2), .int .u8 (bl b 3), .int .u8 (bl b 4), .int .u8 (bl b 5), .int .u8 (bl b 6), .int .u8 (bl b 7)]) :: (B1, [.int .u8 0, .int .u8 0, .int .u8 0, .int .u8 0, .int .u8 0, .int .u8 0, .int .u8 0, .int .u8 0]) :: (R, [.slice (some ad) b.length cap]) :: l) w4 := M
    go_upto_region 3 with fail
    refine wp_region_list ?_
    refine readL (.int .i64 8) rfl (by kernel_rfl) ?_
    simp only [aP, lI, l0, lS]
    refine readL (.bool false) rfl (lssI .i64 _ _ _ _ _ _ rfl rfl rfl false (by decide) _) ?_
    simp only [aP, lI, l0, lS]
    first | show Exit.then _ _ _ _ _ | show Exit.inBlock _ _ _ _ _
    go_upto_region 5 with fail
    refine wp_region_list ?_
    refine readL (.pointer (some ⟨R, 0, none⟩)) rfl (by kernel_rfl) ?_
    simp only [aP, lI, l0, lS]
    refine readL (.pointer (some ⟨R, 0, none⟩)) rfl (by kernel_rfl) ?_
    simp only [aP, lI, l0, lS]
    refine readL (.pointer (some ⟨R, 0, none⟩)) rfl (by kernel_rfl) ?_
    simp only [aP, lI, l0, lS]
    refine readL (.pointer (some ⟨R, 0, none⟩)) rfl (by kernel_rfl) ?_
    simp only [aP, lI, l0, lS]
    refine readL (.slice (some ad) b.length cap) rfl (load1 23 _ ⟨R, 0, none⟩ _ rfl rfl (fun _ => by kernel_rfl) (M.get (List.mem_cons_of_mem _ (List.mem_cons_of_mem _ List.mem_cons_self)) 0 _ rfl)) ?_
    simp only [aP, lI, l0, lS]
    refine readL (.int .i64 8) rfl (by kernel_rfl) ?_
    simp only [aP, lI, l0, lS]
    obtain ⟨cq, hcut, hcs, hcn⟩ := cut_loA (P := Try.prog) (t := 23) (by kernel_rfl) (fun _ => by kernel_rfl) (some ad) b.length cap 8 (by omega) hcap (fun e => by cases e)
    refine readL (.slice cq (b.length - 8) (cap - 8)) rfl (cutOp _ _ _ _ _ _ rfl rfl rfl (hcut _)) ?_
    simp only [aP, lI, l0, lS]
    refine readL (.pointer (some ⟨R, 0, none⟩)) rfl (by kernel_rfl) ?_
    simp only [aP, lI, l0, lS]
    refine readL (.pointer (some ⟨R, 0, none⟩)) rfl (by kernel_rfl) ?_
    simp only [aP, lI, l0, lS]
    replace M := M.rot3
    refine skipOpL rfl (storeAny (.slice cq (b.length - 8) (cap - 8)) R 0 23 _ _ rfl rfl rfl rfl rfl (M.isSome List.mem_cons_self 0 (by simp)) (M.free List.mem_cons_self 0 (by simp)) (by kernel_rfl)) ?_
    simp only [Act.put]
    replace M := M.set 0 (by simp) (.slice cq (b.length - 8) (cap - 8))
    replace OF := OF.and1 ((Off.refl [R] _).set (b := R) List.mem_cons_self 0 (.slice cq (b.length - 8) (cap - 8))) (.inl List.mem_cons_self)
    generalize w4.setCell ⟨R, 0, none⟩ (.slice cq (b.length - 8) (cap - 8)) = w3 at M OF ⊢
    replace M : Mm w0 ((R, [.slice cq (b.length - 8) (cap - 8)]) :: (B2, [.int .u8 (bl b 0), .int .u8 (bl b 1), .int .u8 (bl b 2), .int .u8 (bl b 3), .int .u8 (bl b 4), .int .u8 (bl b 5), .int .u8 (bl b 6), .int .u8 (bl b 7)]) :: (B1, [.int .u8 0, .int .u8 0, .int .u8 0, .int .u8 0, .int .u8 0, .int .u8 0, .int .u8 0, .int .u8 0]) :: l) w3 := M
    first | show Exit.then _ _ _ _ _ | show Exit.inBlock _ _ _ _ _
    go_upto_region 6 with fail
    refine wp_region_list ?_
    refine readL (.agg #[.int .u8 (bl b 0), .int .u8 (bl b 1), .int .u8 (bl b 2), .int .u8 (bl b 3), .int .u8 (bl b 4), .int .u8 (bl b 5), .int .u8 (bl b 6), .int .u8 (bl b 7)]) rfl (loadN 24 _ ⟨B2, 0, none⟩ [.int .u8 (bl b 0), .int .u8 (bl b 1), .int .u8 (bl b 2), .int .u8 (bl b 3), .int .u8 (bl b 4), .int .u8 (bl b 5), .int .u8 (bl b 6), .int .u8 (bl b 7)] rfl rfl (fun _ => by kernel_rfl) (fun _ => by kernel_rfl) (M.rangeAt (List.mem_cons_of_mem _ List.mem_cons_self))) ?_
    simp only [aP, lI, l0, lS]
    replace M := M.rot3
    refine skipOpL rfl (storeP [.int .u8 (bl b 0), .int .u8 (bl b 1), .int .u8 (bl b 2), .int .u8 (bl b 3), .int .u8 (bl b 4), .int .u8 (bl b 5), .int .u8 (bl b 6), .int .u8 (bl b 7)] B1 0 24 _ _ rfl rfl rfl (M.thereP List.mem_cons_self 0 8 (Nat.le_of_ble_eq_true rfl)) (by kernel_rfl) (List.all_eq_true.1 (rfl : ([.int .u8 (bl b 0), .int .u8 (bl b 1), .int .u8 (bl b 2), .int .u8 (bl b 3), .int .u8 (bl b 4), .int .u8 (bl b 5), .int .u8 (bl b 6), .int .u8 (bl b 7)] : List Value).all (fun u => u.oneCell') = true))) ?_
    simp only [Act.put]
    replace M := M.setPart [.int .u8 (bl b 0), .int .u8 (bl b 1), .int .u8 (bl b 2), .int .u8 (bl b 3), .int .u8 (bl b 4), .int .u8 (bl b 5), .int .u8 (bl b 6), .int .u8 (bl b 7)] 0 (Nat.le_of_ble_eq_true rfl)
    replace OF := OF.and1 ((Off.refl [B1] _).setAll (b := B1) List.mem_cons_self 0 [.int .u8 (bl b 0), .int .u8 (bl b 1), .int .u8 (bl b 2), .int .u8 (bl b 3), .int .u8 (bl b 4), .int .u8 (bl b 5), .int .u8 (bl b 6), .int .u8 (bl b 7)]) (.inr (by omega))
    generalize w3.setCells B1 0 [.int .u8 (bl b 0), .int .u8 (bl b 1), .int .u8 (bl b 2), .int .u8 (bl b 3), .int .u8 (bl b 4), .int .u8 (bl b 5), .int .u8 (bl b 6), .int .u8 (bl b 7)] = w4 at M OF ⊢
    replace M : Mm w0 ((B1, [.int .u8 (bl b 0), .int .u8 (bl b 1), .int .u8 (bl b 2), .int .u8 (bl b 3), .int .u8 (bl b 4), .int .u8 (bl b 5), .int .u8 (bl b 6), .int .u8 (bl b 7)]) :: (R, [.slice cq (b.length - 8) (cap - 8)]) :: (B2, [.int .u8 (bl b 0), .int .u8 (bl b 1), .int .u8 (bl b 2), .int .u8 (bl b 3), .int .u8 (bl b 4), .int .u8 (bl b 5), .int .u8 (bl b 6), .int .u8 (bl b 7)]) :: l) w4 := M
    first | show Exit.then _ _ _ _ _ | show Exit.inBlock _ _ _ _ _
    replace M := M.swap
    have HS := show Hid _ from (And.intro M OF)
    have c1 := M.part (List.mem_cons_of_mem _ List.mem_cons_self) 0 (tk8 b) rfl
    clear M OF
    go_wp2
    refine bodyPost_ret (v := .agg (tk8 b).toArray) (retCell 2 24 ⟨B1, 0, none⟩ (tk8 b) rfl rfl (fun _ => by kernel_rfl) (fun _ => by kernel_rfl) c1) rfl ?_
    exact .inl ⟨by omega, rfl, cq, HS.out.1.drop2.drop2, HS.out.2, hcs, hcn⟩

def rgs (last : Int) (b : List Int) : Except Int (List (Int × Int) × List Int) := match nm b with
  | .error e => .error e
  | .ok (n, b1) => if 8 < n then .error 100 else rd n.toNat last b1
theorem rgs_err {last : Int} {b : List Int} (h : lE b ≠ 0) : rgs last b = .error (lE b) := by unfold rgs; rw [nm_err h]
theorem rgs_nine {last : Int} {b : List Int} (h : lE b = 0) (h8 : 8 < lN b) : rgs last b = .error 100 := by unfold rgs; rw [nm_ok h]; simp only; rw [if_pos h8]
theorem rgs_rd {last : Int} {b : List Int} (h : lE b = 0) (h8 : ¬ 8 < lN b) : rgs last b = rd (lN b).toNat last (lR b) := by unfold rgs; rw [nm_ok h]; simp only; rw [if_neg h8]
def RngP (w0 : World) (R : Nat) (l : List (Nat × List Value)) (last : Int) (b : List Int) (w : World) (e : Ending) (w' : World) : Prop :=
  (∃ rs r vp vc, rgs last b = .ok (rs, r) ∧ rs.length ≤ 8 ∧ r.length ≤ b.length ∧ Byts r ∧ e = .returned (.slice vp rs.length vc) ∧ w'.ownsRow w.heap.size 43 2 (.slice vp rs.length vc) rs.length (rcl rs) ∧ Lft w0 R l w r w') ∨ (∃ c, rgs last b = .error c ∧ Pan w0 R l c e w')

set_option maxRecDepth 10000 in
set_option maxHeartbeats 32000000 in
theorem franges_any (w0 w : World) (R : Nat) (l : List (Nat × List Value)) (sp : Option Addr) (cap : Nat) (b : List Int) (hlen : b.length ≤ 256) (hcap : b.length ≤ cap) (hnil : sp = none → cap = 0) (hb : Byts b) (last : Int) (hla : 0 ≤ last) (hlz : last ≤ 4611686018427387903) (M : Mm w0 ((R, [.slice sp b.length cap]) :: l) w) (hs : Src w sp b.length (bl b)) :
    Calls Try.prog 46 #[.pointer (some ⟨R, 0, none⟩), .int .i64 last] w fun e w' => RngP w0 R l last b w e w' := by
  have hRw := M.lt List.mem_cons_self
  have hw0 := M.below.size
  have hll : ∀ p ∈ l, p.1 < w.heap.size := fun p hp => (M.rows p (List.mem_cons_of_mem _ hp)).2.2
  go_enter Try.func46, Try.ntmps46
  go_upto_region 0 with fail
  refine wp_region_list ?_
  refine readL (.slice none 0 0) rfl (by kernel_rfl) ?_
  simp only [aP, lI, l0, lS]
  first | show Exit.then _ _ _ _ _ | show Exit.inBlock _ _ _ _ _
  go_upto_region 1 with fail
  refine wp_region_list ?_
  refine readL (.pointer (some ⟨R, 0, none⟩)) rfl (by kernel_rfl) ?_
  simp only [aP, lI, l0, lS]
  refine callPL rfl (fun _ => by kernel_rfl) (fnumber_any w0 _ R _ _ _ b hlen hcap hnil hb M hs) ?_
  rintro e w1 (⟨h1, rfl, p1, c1, M', o1, O_1⟩ | ⟨h1, rfl, s1, M'⟩)
  rotate_left
  · right
    refine ⟨_, rfl, ?_⟩
    exact ⟨rfl, .inr ⟨_, rgs_err h1, rfl, s1, M'⟩⟩
  left
  clear M
  have M := M'
  clear M'
  have hc1 := O_1.le
  have hn1 := O_1.nilCap
  have hl1 := lR_le b
  have hb1 := lR_byts hb
  have ho1 := o1.size
  have OF := o1
  refine ⟨_, rfl, ?_⟩
  simp only [aP, lI, l0, lS]
  refine readL (.int .i64 (lN b)) rfl (by kernel_rfl) ?_
  simp only [aP, lI, l0, lS]
  first | show Exit.then _ _ _ _ _ | show Exit.inBlock _ _ _ _ _
  by_cases h8 : 8 < lN b
  · go_upto_region 2 with fail
    refine wp_region_list ?_
    refine readL (.int .i64 (lN b)) rfl (by kernel_rfl) ?_
    simp only [aP, lI, l0, lS]
    refine readL (.bool true) rfl (gtrI .i64 _ _ _ _ _ _ rfl rfl rfl true (decide_eq_true h8) _) ?_
    simp only [aP, lI, l0, lS]
    first | show Exit.then _ _ _ _ _ | show Exit.inBlock _ _ _ _ _
    go_upto_region 3 with fail
    refine wp_region_list ?_
    refine readL (.iface 28 (.int .i64 100)) rfl (by kernel_rfl) ?_
    simp only [aP, lI, l0, lS]
    refine panicL (.iface 28 (.int .i64 100)) rfl (by kernel_rfl) ?_
    exact ⟨rfl, .inr ⟨_, rgs_nine h1 h8, rfl, _, M⟩⟩
  · go_upto_region 2 with fail
    refine wp_region_list ?_
    refine readL (.int .i64 (lN b)) rfl (by kernel_rfl) ?_
    simp only [aP, lI, l0, lS]
    refine readL (.bool false) rfl (gtrI .i64 _ _ _ _ _ _ rfl rfl rfl false (decide_eq_false h8) _) ?_
    simp only [aP, lI, l0, lS]
    first | show Exit.then _ _ _ _ _ | show Exit.inBlock _ _ _ _ _
    go_upto_region 4 with fail
    refine wp_region_list ?_
    refine readL (.slice none 0 0) rfl (by kernel_rfl) ?_
    simp only [aP, lI, l0, lS]
    first | show Exit.then _ _ _ _ _ | show Exit.inBlock _ _ _ _ _
    go_upto_region 5 with fail
    refine wp_region_list ?_
    refine readL (.int .i64 (lN b)) rfl (by kernel_rfl) ?_
    simp only [aP, lI, l0, lS]
    refine readL (.int .i64 0) rfl (by kernel_rfl) ?_
    simp only [aP, lI, l0, lS]
    first | show Exit.then _ _ _ _ _ | show Exit.inBlock _ _ _ _ _
    have hp1 := lN_pos hb h1
    have hrg := rgs_rd (last := last) h1 h8
    obtain ⟨n, hn⟩ := Int.eq_ofNat_of_zero_le hp1.1
    rw [hn, Int.toNat_natCast] at hrg
    rw [hn] at h8 ⊢
    obtain ⟨a1, ha1⟩ : ∃ x, x = lR b := ⟨_, rfl⟩
    have HI := show Hid _ from (And.intro M (And.intro OF O_1))
    clear M OF O_1
    go_wp2
    go_loopw [1, 6, 14] (fun fw lw i w' => ∃ (j : Nat) (rs : List (Int × Int)) (bb : List Int) (la : Int) (p : Option Addr) (c : Nat) (vp : Option Addr) (vc : Nat), j ≤ n ∧ fw = .int .i64 la ∧ lw = .slice vp j vc ∧ i = .int .i64 (j : Int) ∧ rd n last (lR b) = rdk rs (rd (n - j) la bb) ∧ Mm w0 ((R, [.slice p bb.length c]) :: l) w' ∧ Off [R] w w' ∧ OwnL w' w.heap.size bb (.slice p bb.length c) ∧ Byts bb ∧ bb.length ≤ b.length ∧ w'.ownsRow w.heap.size 43 2 (.slice vp j vc) j (rcl rs) ∧ 0 ≤ la ∧ la ≤ 4611686018427387903 ∧ rs.length = j) (fun _ _ i _ => n - (intOf i).toNat)
    case atStart => exact ⟨0, [], _, last, _, _, none, 0, Nat.zero_le _, rfl, rfl, rfl, (rdk_nil _).symm, HI.out.1, HI.out.2.1, HI.out.2.2, hb1, hl1, World.ownsRow_nil _ _ _ 2, hla, hlz, rfl⟩
    case round =>
      clear HI
      obtain ⟨j, rs, bb, la, p, c, vp, vc, hj, rfl, rfl, rfl, hrd, M, OF, O_0, hbb, hbl, V_0, hq1, hq2, hrl⟩ := hrel
      have hVlt : ∀ g, (Value.slice vp j vc).ownBlock = some g → w.heap.size ≤ g ∧ g < wr.heap.size := fun g hg => World.ownsRow.lt V_0 g hg
      have hws := OF.size
      by_cases hlt : j < n
      · have g1 : (j : Int) < (n : Int) := by omega
        obtain ⟨m, hm⟩ : ∃ m, n - j = m + 1 := ⟨n - j - 1, by omega⟩
        rw [hm] at hrd
        go_upto_region 6 with fail
        refine wp_region_list ?_
        refine readL (.bool true) rfl (lssI .i64 _ _ _ _ _ _ rfl rfl rfl true (decide_eq_true g1) _) ?_
        simp only [aP, lI, l0, lS]
        first | show Exit.then _ _ _ _ _ | show Exit.inBlock _ _ _ _ _
        go_upto_region 7 with fail
        refine wp_region_list ?_
        refine readL (.pointer (some ⟨R, 0, none⟩)) rfl (by kernel_rfl) ?_
        simp only [aP, lI, l0, lS]
        refine readL (.int .i64 la) rfl (by kernel_rfl) ?_
        simp only [aP, lI, l0, lS]
        refine callPL rfl (fun _ => by kernel_rfl) (fnext_any w0 _ R _ _ _ bb (by omega) O_0.le O_0.nilCap hbb la hq1 hq2 M O_0.src) ?_
        rintro e w2 (⟨c1, c2, hfar, rfl, p1, cp1, M', o1, O_1⟩ | ⟨code, hcode, rfl, s1, M'⟩)
        rotate_left
        · right
          refine ⟨_, rfl, ?_⟩
          rw [hcode m] at hrd
          exact ⟨rfl, .inr ⟨code, by rw [hrg, hrd]; rfl, rfl, s1, M'⟩⟩
        left
        clear M O_0
        have M := M'
        clear M'
        have hg1 := lN_pos hbb c1
        have hg2 := lN_pos (lR_byts hbb) c2
        have hb1 := lR_byts (lR_byts hbb)
        have hlb1 := lR_le bb
        have hlb2 := lR_le (lR bb)
        have ho1 := o1.size
        have hOlt : ∀ g, (Value.slice p1 (lR (lR bb)).length cp1).ownBlock = some g → wr.heap.size ≤ g ∧ g < w2.heap.size := fun g hg => World.ownsRow.lt O_1 g hg
        rw [rd_one c1 c2 hfar, rdk_one] at hrd
        unfold MX at hfar
        replace V_0 := ownsRow_off V_0 o1 (fun x hx e => by obtain rfl := List.mem_singleton.1 hx; have h1 := hVlt _ e; omega)
        replace OF := OF.trans o1
        clear o1
        refine ⟨_, rfl, ?_⟩
        simp only [aP, lI, l0, lS]
        refine actL (w' := w2.alloc (.cells #[.int .i64 0, .int .i64 0] 43)) (.pointer (some ⟨w2.heap.size, 0, none⟩)) rfl (by kernel_rfl) ?_
        simp only [aP, lI, l0, lS]
        have hlb := (Below.refl w2.heap.size w2).alloc (Nat.le_refl _) (.cells #[.int .i64 0, .int .i64 0] 43)
        replace OF := OF.below hlb
        replace V_0 := ownsRow_low (X := []) V_0 (Off.of_below hlb) (fun _ h => by cases h)
        replace O_1 := O_1.below hlb
        clear hlb
        have hB_B3 : w0.heap.size ≤ w2.heap.size := M.below.size
        replace M := M.box #[.int .i64 0, .int .i64 0] 43 w2.heap.size rfl
        generalize w2.alloc (.cells #[.int .i64 0, .int .i64 0] 43) = w3 at M OF V_0 O_1 ⊢
        generalize eB : w2.heap.size = B3 at M hB_B3  ⊢
        have hE_B3 : w2.heap.size ≤ B3 := Nat.le_of_eq eB
        have hF_B3 : B3 ≤ w2.heap.size := Nat.le_of_eq eB.symm
        clear eB
        replace M : Mm w0 ((B3, [.int .i64 0, .int .i64 0]) :: (R, [.slice p1 ((lR (lR bb)).length) cp1]) :: l) w3 := M
        refine skipOpL rfl (storeP [.int .i64 (la + lN bb), .int .i64 (la + lN bb + lN (lR bb))] B3 0 43 _ _ rfl rfl rfl (M.thereP List.mem_cons_self 0 2 (Nat.le_of_ble_eq_true rfl)) (by kernel_rfl) (List.all_eq_true.1 (rfl : ([.int .i64 (la + lN bb), .int .i64 (la + lN bb + lN (lR bb))] : List Value).all (fun u => u.oneCell') = true))) ?_
        simp only [Act.put]
        replace M := M.setPart [.int .i64 (la + lN bb), .int .i64 (la + lN bb + lN (lR bb))] 0 (Nat.le_of_ble_eq_true rfl)
        replace OF := OF.and1 ((Off.refl [B3] _).setAll (b := B3) List.mem_cons_self 0 [.int .i64 (la + lN bb), .int .i64 (la + lN bb + lN (lR bb))]) (.inr (by omega))
        replace V_0 := ownsRow_off V_0 ((Off.refl [B3] _).setAll (b := B3) List.mem_cons_self 0 [.int .i64 (la + lN bb), .int .i64 (la + lN bb + lN (lR bb))]) (fun x hx e => by obtain rfl := List.mem_singleton.1 hx; have h1 := hVlt _ e; omega)
        replace O_1 : OwnL _ _ _ _ := ownsRow_off O_1 ((Off.refl [B3] _).setAll (b := B3) List.mem_cons_self 0 [.int .i64 (la + lN bb), .int .i64 (la + lN bb + lN (lR bb))]) (fun x hx e => by obtain rfl := List.mem_singleton.1 hx; have h1 := hOlt _ e; omega)
        generalize w3.setCells B3 0 [.int .i64 (la + lN bb), .int .i64 (la + lN bb + lN (lR bb))] = w4 at M OF V_0 O_1 ⊢
        replace M : Mm w0 ((B3, [.int .i64 (la + lN bb), .int .i64 (la + lN bb + lN (lR bb))]) :: (R, [.slice p1 ((lR (lR bb)).length) cp1]) :: l) w4 := M
        first | show Exit.then _ _ _ _ _ | show Exit.inBlock _ _ _ _ _
        go_upto_region 8 with fail
        refine wp_region_list ?_
        refine readL (.slice vp j vc) rfl (by kernel_rfl) ?_
        simp only [aP, lI, l0, lS]
        refine readL (.agg #[.int .i64 (la + lN bb), .int .i64 (la + lN bb + lN (lR bb))]) rfl (loadN 43 _ ⟨B3, 0, none⟩ [.int .i64 (la + lN bb), .int .i64 (la + lN bb + lN (lR bb))] rfl rfl (fun _ => by kernel_rfl) (fun _ => by kernel_rfl) (M.rangeAt List.mem_cons_self)) ?_
        simp only [aP, lI, l0, lS]
        refine actL (w' := w4.alloc (.cells #[.int .i64 (la + lN bb), .int .i64 (la + lN bb + lN (lR bb))] 43)) (.slice (some ⟨w4.heap.size, 0, none⟩) 1 1) rfl (by kernel_rfl) ?_
        simp only [aP, lI, l0, lS]
        have hlb := (Below.refl w4.heap.size w4).alloc (Nat.le_refl _) (.cells #[.int .i64 (la + lN bb), .int .i64 (la + lN bb + lN (lR bb))] 43)
        replace M := M.call hlb
        replace OF := OF.below hlb
        replace V_0 := ownsRow_low (X := []) V_0 (Off.of_below hlb) (fun _ h => by cases h)
        replace O_1 := O_1.below hlb
        have hcell : ∀ j u, ([.int .i64 (la + lN bb), .int .i64 (la + lN bb + lN (lR bb))] : List Value)[j]? = some u → (w4.alloc (.cells #[.int .i64 (la + lN bb), .int .i64 (la + lN bb + lN (lR bb))] 43)).cell? ((⟨w4.heap.size, 0, none⟩ : Addr).add j) = some u := fun j u hu => by rw [Addr.add_mid, Nat.zero_add, World.cell?_alloc_at _ _ _ _ rfl]; simpa using hu
        clear hlb
        generalize w4.alloc (.cells #[.int .i64 (la + lN bb), .int .i64 (la + lN bb + lN (lR bb))] 43) = w5 at M hcell OF V_0 O_1 ⊢
        generalize (⟨w4.heap.size, 0, none⟩ : Addr) = an at hcell ⊢
        obtain ⟨v, w6, hr, V_6, hgr, _⟩ := run_append_OwnV (P := Try.prog) (ty := 22) Try.underlying22 ranges_many rfl (by decide) V_0 an 1 1 [.int .i64 (la + lN bb), .int .i64 (la + lN bb + lN (lR bb))] rfl hcell (List.all_eq_true.1 (rfl : ([.int .i64 (la + lN bb), .int .i64 (la + lN bb + lN (lR bb))] : List Value).all (fun u => u.oneCell') = true)) (by unfold maxLen; omega) (by omega) OF.size
        have hofM : Off (ob vp) w5 w6 := (Off.refl _ _).grown hgr (fun b hb => .inl ((ob_own _ _ _ _).1 hb))
        replace M := M.off hofM (fun x hx => by have h1 := hVlt _ ((ob_own _ _ _ _).2 hx); omega) (fun q hq hx => by
          have h1 := hVlt _ ((ob_own vp j vc _).2 hx)
          rcases List.mem_cons.1 hq with rfl | hq
          · simp only at h1; omega
          · rcases List.mem_cons.1 hq with rfl | hq
            · simp only at h1; omega
            · have h2 := hll q hq; omega) ⟨hgr.os, hgr.tape, hgr.output⟩
        replace OF := OF.grown hgr (fun b hb => .inr (hVlt b hb).1)
        replace O_1 := Own.grown (show OwnL _ _ (lR (lR bb)) _ from O_1) hgr (fun g hg => (hVlt g hg).2)
        refine actL v rfl (appendOp _ _ 22 _ _ _ rfl rfl rfl hr) ?_
        simp only [aP, lI, l0, lS]
        clear hr hgr V_0 hcell hofM
        obtain ⟨vp6, vc6, rfl⟩ := own_slice V_6
        refine readL (.slice vp6 (j + 1) vc6) rfl (by kernel_rfl) ?_
        simp only [aP, lI, l0, lS]
        first | show Exit.then _ _ _ _ _ | show Exit.inBlock _ _ _ _ _
        go_upto_region 9 with fail
        refine wp_region_list ?_
        refine readL (.pointer (some ⟨B3, 1, none⟩)) rfl (by kernel_rfl) ?_
        simp only [aP, lI, l0, lS]
        refine readL (.int .i64 (la + lN bb + lN (lR bb))) rfl (load1 3 _ ⟨B3, 1, none⟩ _ rfl rfl (fun _ => by kernel_rfl) (M.get List.mem_cons_self 1 _ rfl)) ?_
        simp only [aP, lI, l0, lS]
        refine readL (.int .i64 (la + lN bb + lN (lR bb))) rfl (by kernel_rfl) ?_
        simp only [aP, lI, l0, lS]
        first | show Exit.then _ _ _ _ _ | show Exit.inBlock _ _ _ _ _
        replace M := M.tail
        rw [show rcl rs ++ [.int .i64 (la + lN bb), .int .i64 (la + lN bb + lN (lR bb))] = rcl (rs ++ [(la + lN bb, la + lN bb + lN (lR bb))]) from (rcl_app rs [(la + lN bb, la + lN bb + lN (lR bb))]).symm] at V_6
        rw [show m = n - (j + 1) by omega] at hrd
        have HS := show Hid _ from (And.intro hrd (And.intro M (And.intro OF (And.intro (Own.lower (show OwnL _ _ (lR (lR bb)) _ from O_1) hws) (And.intro hb1 (And.intro (show (lR (lR bb)).length ≤ b.length by omega) (And.intro V_6 (And.intro (show 0 ≤ la + lN bb + lN (lR bb) by omega) (And.intro (show la + lN bb + lN (lR bb) ≤ 4611686018427387903 by omega) (show (rs ++ [(la + lN bb, la + lN bb + lN (lR bb))]).length = j + 1 by rw [List.length_append, hrl]; rfl))))))))))
        clear hrd M OF O_1 V_6 hfar
        go_wp2
        go_roundw
        case rel => first | exact ⟨j + 1, _, _, _, _, _, vp6, vc6, by omega, rfl, rfl, by go_num, HS.out⟩ | ((repeat apply Exists.intro); refine ⟨⟨j + 1, _, _, _, _, _, vp6, vc6, by omega, rfl, rfl, ?_, HS.out⟩, rfl⟩ <;> first | rfl | go_num)
        case measure => simp [intOf]; omega
      · obtain rfl : j = n := by omega
        have g1 : ¬ (j : Int) < (j : Int) := by omega
        rw [Nat.sub_self] at hrd
        replace hrd : rd j last (lR b) = .ok (rs ++ [], bb) := hrd
        rw [List.append_nil] at hrd
        rw [hrd] at hrg
        go_upto_region 6 with fail
        refine wp_region_list ?_
        refine readL (.bool false) rfl (lssI .i64 _ _ _ _ _ _ rfl rfl rfl false (decide_eq_false g1) _) ?_
        simp only [aP, lI, l0, lS]
        first | show Exit.then _ _ _ _ _ | show Exit.inBlock _ _ _ _ _
        go_upto_region 11 with fail
        refine wp_region_list ?_
        refine readL (.slice vp j vc) rfl (by kernel_rfl) ?_
        simp only [aP, lI, l0, lS]
        refine readL (.slice vp j vc) rfl (by kernel_rfl) ?_
        simp only [aP, lI, l0, lS]
        first | show Exit.then _ _ _ _ _ | show Exit.inBlock _ _ _ _ _
        have HS := show Hid _ from (And.intro hrg (And.intro V_0 (And.intro M (And.intro OF O_0))))
        have h88 : j ≤ 8 := by omega
        clear M OF O_0 V_0 hrd hrg
        subst hrl
        go_wp2
        go_ret
        exact .inl ⟨rs, bb, vp, vc, HS.out.1, h88, hbl, hbb, rfl, HS.out.2.1, p, c, HS.out.2.2⟩
end Go.Proofs.Yteaamgjlkohfcaa
