/- Texts of Xf Od Hx Xg LawPacketParses Xp Ve Zr Gw Gx Vx Vy, joined. -/
import Derived.Test.YtbhhboiofepnhaaDoorP1PacketParses
import Derived.Lib.AppendZerosOnto
import Derived.Deep.DeepAppendWide
import Derived.Deep.Cut
import Derived.BigQuiet
import Derived.OwnWalk
import Derived.Laws.BitsAllLaws
import Derived.Lib.SliceRun
namespace Go.Proofs.YtbhhboiofepnhaaDoor
open Go.RowKit

def pk0 : Pkt := ⟨0, 0, 0, 0, 0, []⟩
def psP (b : List Int) : Pkt := match pps b with
  | .ok p => p
  | .error _ => pk0
def psE (b : List Int) : Int := match pps b with
  | .ok _ => 0
  | .error e => e
def ParseOK : Prop := ∀ (sp : Option Addr) (cap : Nat) (b : List Int) (w : World), PG w → b.length ≤ 140737488351232 → b.length ≤ cap → (sp = none → cap = 0) → Byts b → Src w sp b.length (bl b) → Calls Tryd.prog 15 #[.slice sp b.length cap] w fun e w' => (∃ bp bc, e = .returned (.tuple #[.agg (pcs (psP b) bp bc).toArray, .int .i64 (psE b)]) ∧ PV w' (psP b) bp bc) ∧ Below w.heap.size w w'
theorem pv0 (w : World) : PV w pk0 none 0 := ⟨fun j hj => absurd hj (Nat.not_lt_zero j), Nat.le_refl _, fun _ => rfl, Nat.zero_le _, fun x hx => (by cases hx), show i64 0 by unfold i64; decide, show i64 0 by unfold i64; decide, show i64 0 by unfold i64; decide, show i64 0 by unfold i64; decide, show i64 0 by unfold i64; decide⟩
theorem ps_err {b : List Int} {e : Int} (h : pps b = .error e) : psP b = pk0 ∧ psE b = e := by unfold psP psE; rw [h]; exact ⟨rfl, rfl⟩
theorem ps_ok {b : List Int} {p : Pkt} (h : pps b = .ok p) : psP b = p ∧ psE b = 0 := by unfold psP psE; rw [h]; exact ⟨rfl, rfl⟩
theorem pps_short {b : List Int} (h : b.length = 0 ∨ (bl b 0 = 3 ∧ b.length < 27)) : pps b = .error 3 := by unfold pps; rw [if_pos h]
theorem pps_bad {b : List Int} (h : ¬ (b.length = 0 ∨ (bl b 0 = 3 ∧ b.length < 27))) (ho : pok (prs b) = false) : pps b = .error 110 := by unfold pps; rw [if_neg h, ho]; rfl
theorem pps_good {b : List Int} (h : ¬ (b.length = 0 ∨ (bl b 0 = 3 ∧ b.length < 27))) (ho : pok (prs b) = true) : pps b = .ok (prs b) := by unfold pps; rw [if_neg h, if_pos ho]
theorem bl_succ (x : Int) (t : List Int) (j : Nat) : bl (x :: t) (1 + j) = bl t j := by rw [Nat.add_comm]; rfl
theorem i64_byte {x : Int} (h : 0 ≤ x ∧ x < 256) : i64 x := by unfold i64; omega
theorem fV_i64 (z : Nat → Int) (s : Nat) (hs : s ≤ 6) (hz : In 256 s z) : i64 (fV z s) := by
  have h1 := fV_nonneg z s hz s (Nat.le_refl s)
  have h2 : (256 : Int) ^ s ≤ 281474976710656 := by
    have : s = 0 ∨ s = 1 ∨ s = 2 ∨ s = 3 ∨ s = 4 ∨ s = 5 ∨ s = 6 := by omega
    rcases this with rfl | rfl | rfl | rfl | rfl | rfl | rfl <;> decide
  unfold i64
  omega

set_option maxRecDepth 10000 in
set_option maxHeartbeats 32000000 in
theorem rparse_any (sp : Option Addr) (cap : Nat) (b : List Int) (w : World) (hlen : b.length ≤ 140737488351232) (hcap : b.length ≤ cap) (hnil : sp = none → cap = 0) (hb : Byts b) (hs : Src w sp b.length (bl b)) : Calls Tryd.prog 16 #[.slice sp b.length cap] w fun e w' => (∃ bp bc, e = .returned (.tuple #[.agg (pcs (psP b) bp bc).toArray, .int .i64 (psE b)]) ∧ PV w' (psP b) bp bc) ∧ Below w.heap.size w w' := by
  have M := Mm.init w
  go_enter Tryd.func16, Tryd.ntmps16
  go_upto_region 0 with fail
  refine wp_region_list ?_
  refine actL (w' := w.alloc (.cells #[.int .i64 0, .int .i64 0, .int .i64 0, .int .i64 0, .int .i64 0, .slice none 0 0] 24)) (.pointer (some ⟨w.heap.size, 0, none⟩)) rfl (by kernel_rfl) ?_
  simp only [aP, lI, l0, lS]
  have hB_B1 : w.heap.size ≤ w.heap.size := M.below.size
  replace M := M.box #[.int .i64 0, .int .i64 0, .int .i64 0, .int .i64 0, .int .i64 0, .slice none 0 0] 24 w.heap.size rfl
  generalize w.alloc (.cells #[.int .i64 0, .int .i64 0, .int .i64 0, .int .i64 0, .int .i64 0, .slice none 0 0] 24) = w1 at M  ⊢
  generalize eB : w.heap.size = B1 at M hB_B1  ⊢
  have hE_B1 : w.heap.size ≤ B1 := Nat.le_of_eq eB
  have hF_B1 : B1 ≤ w.heap.size := Nat.le_of_eq eB.symm
  clear eB
  replace M : Mm w ([(B1, [.int .i64 0, .int .i64 0, .int .i64 0, .int .i64 0, .int .i64 0, .slice none 0 0])]) w1 := M
  refine readL (.int .i64 0) rfl (by kernel_rfl) ?_
  simp only [aP, lI, l0, lS]
  first | show Exit.then _ _ _ _ _ | show Exit.inBlock _ _ _ _ _
  cases b with
  | nil =>
    have hQ := show Hid _ from ps_err (pps_short (b := []) (.inl rfl))
    go_upto_region 1 with fail
    refine wp_region_list ?_
    refine readL (.slice sp 0 cap) rfl (by kernel_rfl) ?_
    simp only [aP, lI, l0, lS]
    refine readL (.int .i64 ((0 : Nat) : Int)) rfl (lenS _ 22 5 sp 0 cap rfl Tryd.underlying22 rfl _) ?_
    simp only [aP, lI, l0, lS]
    refine readL (.bool true) rfl (eqlI .i64 _ _ _ _ _ _ rfl rfl rfl true rfl _) ?_
    simp only [aP, lI, l0, lS]
    refine readL (.bool true) rfl (by kernel_rfl) ?_
    simp only [aP, lI, l0, lS]
    with_reducible refine skipL ?_ ?_
    · rfl
    simp only [aP, lI, l0, lS]
    with_reducible refine skipL ?_ ?_
    · rfl
    simp only [aP, lI, l0, lS]
    with_reducible refine skipL ?_ ?_
    · rfl
    simp only [aP, lI, l0, lS]
    with_reducible refine skipL ?_ ?_
    · rfl
    simp only [aP, lI, l0, lS]
    with_reducible refine skipL ?_ ?_
    · rfl
    simp only [aP, lI, l0, lS]
    with_reducible refine skipL ?_ ?_
    · rfl
    simp only [aP, lI, l0, lS]
    with_reducible refine skipL ?_ ?_
    · rfl
    simp only [aP, lI, l0, lS]
    with_reducible refine skipL ?_ ?_
    · rfl
    simp only [aP, lI, l0, lS]
    with_reducible refine skipL ?_ ?_
    · rfl
    simp only [aP, lI, l0, lS]
    refine readL (.bool true) rfl (by kernel_rfl) ?_
    simp only [aP, lI, l0, lS]
    first | show Exit.then _ _ _ _ _ | show Exit.inBlock _ _ _ _ _
    go_upto_region 2 with fail
    refine wp_region_list ?_
    refine readL (.agg #[.int .i64 0, .int .i64 0, .int .i64 0, .int .i64 0, .int .i64 0, .slice none 0 0]) rfl (by kernel_rfl) ?_
    simp only [aP, lI, l0, lS]
    refine skipOpL rfl (storeP [.int .i64 0, .int .i64 0, .int .i64 0, .int .i64 0, .int .i64 0, .slice none 0 0] B1 0 24 _ _ rfl rfl rfl (M.thereP List.mem_cons_self 0 6 (Nat.le_of_ble_eq_true rfl)) (by kernel_rfl) (List.all_eq_true.1 (rfl : ([.int .i64 0, .int .i64 0, .int .i64 0, .int .i64 0, .int .i64 0, .slice none 0 0] : List Value).all (fun u => u.oneCell') = true))) ?_
    simp only [Act.put]
    replace M := M.setPart [.int .i64 0, .int .i64 0, .int .i64 0, .int .i64 0, .int .i64 0, .slice none 0 0] 0 (Nat.le_of_ble_eq_true rfl)
    generalize w1.setCells B1 0 [.int .i64 0, .int .i64 0, .int .i64 0, .int .i64 0, .int .i64 0, .slice none 0 0] = w2 at M  ⊢
    replace M : Mm w ([(B1, [.int .i64 0, .int .i64 0, .int .i64 0, .int .i64 0, .int .i64 0, .slice none 0 0])]) w2 := M
    refine readL (.int .i64 3) rfl (by kernel_rfl) ?_
    simp only [aP, lI, l0, lS]
    first | show Exit.then _ _ _ _ _ | show Exit.inBlock _ _ _ _ _
    have hpv := show Hid _ from (pv0 w2)
    have c1_ := M.part List.mem_cons_self 0 (pcs pk0 none 0) rfl
    have hM := M.below
    clear M
    go_wp2
    refine bodyPost_ret (v := .tuple #[.agg (pcs pk0 none 0).toArray, .int .i64 3]) (retCellTmp 2 3 24 ⟨B1, 0, none⟩ (pcs pk0 none 0) _ rfl rfl rfl (fun _ => by kernel_rfl) (fun _ => by kernel_rfl) c1_) rfl ?_
    exact ⟨⟨_, _, by rw [hQ.out.1, hQ.out.2], by rw [hQ.out.1]; exact hpv.out⟩, hM⟩
  | cons x bt =>
    obtain ⟨ad, rfl, _⟩ := hs 0 (by simp)
    have hx := hb x List.mem_cons_self
    have hbt := hb.tail
    rw [List.length_cons] at hs hlen hcap
    by_cases h3 : x = 3
    · by_cases h27 : bt.length + 1 < 27
      · have hQ := show Hid _ from ps_err (pps_short (b := x :: bt) (.inr ⟨h3, by rw [List.length_cons]; omega⟩))
        go_upto_region 1 with fail
        refine wp_region_list ?_
        refine readL (.slice (some ad) (bt.length + 1) cap) rfl (by kernel_rfl) ?_
        simp only [aP, lI, l0, lS]
        refine readL (.int .i64 (((bt.length + 1) : Nat) : Int)) rfl (lenS _ 22 5 (some ad) (bt.length + 1) cap rfl Tryd.underlying22 rfl _) ?_
        simp only [aP, lI, l0, lS]
        refine readL (.bool false) rfl (eqlI .i64 _ _ _ _ _ _ rfl rfl rfl false (by simp; omega) _) ?_
        simp only [aP, lI, l0, lS]
        refine readL (.bool false) rfl (by kernel_rfl) ?_
        simp only [aP, lI, l0, lS]
        refine readL (.slice (some ad) (bt.length + 1) cap) rfl (by kernel_rfl) ?_
        simp only [aP, lI, l0, lS]
        refine readL (.pointer (some (ad.add 0))) rfl (idxSl 22 5 (bt.length + 1) cap .i64 ad 0 _ _ Tryd.underlying22 (fun _ => by kernel_rfl) (by omega) rfl rfl rfl _) ?_
        simp only [aP, lI, l0, lS]
        refine readL (.int .u8 x) rfl (load1 5 _ (ad.add 0) _ rfl rfl (fun _ => by kernel_rfl) ((hs.below M.below (Nat.le_refl _)).at 0 (by omega))) ?_
        simp only [aP, lI, l0, lS]
        refine readL (.bool true) rfl (eqlI .u8 _ _ _ _ _ _ rfl rfl rfl true (by rw [h3]; rfl) _) ?_
        simp only [aP, lI, l0, lS]
        refine readL (.bool true) rfl (by kernel_rfl) ?_
        simp only [aP, lI, l0, lS]
        refine readL (.slice (some ad) (bt.length + 1) cap) rfl (by kernel_rfl) ?_
        simp only [aP, lI, l0, lS]
        refine readL (.int .i64 (((bt.length + 1) : Nat) : Int)) rfl (lenS _ 22 5 (some ad) (bt.length + 1) cap rfl Tryd.underlying22 rfl _) ?_
        simp only [aP, lI, l0, lS]
        refine readL (.bool true) rfl (lssI .i64 _ _ _ _ _ _ rfl rfl rfl true (decide_eq_true (by omega)) _) ?_
        simp only [aP, lI, l0, lS]
        refine readL (.bool true) rfl (by kernel_rfl) ?_
        simp only [aP, lI, l0, lS]
        refine readL (.bool true) rfl (by kernel_rfl) ?_
        simp only [aP, lI, l0, lS]
        first | show Exit.then _ _ _ _ _ | show Exit.inBlock _ _ _ _ _
        go_upto_region 2 with fail
        refine wp_region_list ?_
        refine readL (.agg #[.int .i64 0, .int .i64 0, .int .i64 0, .int .i64 0, .int .i64 0, .slice none 0 0]) rfl (by kernel_rfl) ?_
        simp only [aP, lI, l0, lS]
        refine skipOpL rfl (storeP [.int .i64 0, .int .i64 0, .int .i64 0, .int .i64 0, .int .i64 0, .slice none 0 0] B1 0 24 _ _ rfl rfl rfl (M.thereP List.mem_cons_self 0 6 (Nat.le_of_ble_eq_true rfl)) (by kernel_rfl) (List.all_eq_true.1 (rfl : ([.int .i64 0, .int .i64 0, .int .i64 0, .int .i64 0, .int .i64 0, .slice none 0 0] : List Value).all (fun u => u.oneCell') = true))) ?_
        simp only [Act.put]
        replace M := M.setPart [.int .i64 0, .int .i64 0, .int .i64 0, .int .i64 0, .int .i64 0, .slice none 0 0] 0 (Nat.le_of_ble_eq_true rfl)
        generalize w1.setCells B1 0 [.int .i64 0, .int .i64 0, .int .i64 0, .int .i64 0, .int .i64 0, .slice none 0 0] = w3 at M  ⊢
        replace M : Mm w ([(B1, [.int .i64 0, .int .i64 0, .int .i64 0, .int .i64 0, .int .i64 0, .slice none 0 0])]) w3 := M
        refine readL (.int .i64 3) rfl (by kernel_rfl) ?_
        simp only [aP, lI, l0, lS]
        first | show Exit.then _ _ _ _ _ | show Exit.inBlock _ _ _ _ _
        have hpv := show Hid _ from (pv0 w3)
        have c1_ := M.part List.mem_cons_self 0 (pcs pk0 none 0) rfl
        have hM := M.below
        clear M
        go_wp2
        refine bodyPost_ret (v := .tuple #[.agg (pcs pk0 none 0).toArray, .int .i64 3]) (retCellTmp 2 3 24 ⟨B1, 0, none⟩ (pcs pk0 none 0) _ rfl rfl rfl (fun _ => by kernel_rfl) (fun _ => by kernel_rfl) c1_) rfl ?_
        exact ⟨⟨_, _, by rw [hQ.out.1, hQ.out.2], by rw [hQ.out.1]; exact hpv.out⟩, hM⟩
      · have hns : ¬ ((x :: bt).length = 0 ∨ (bl (x :: bt) 0 = 3 ∧ (x :: bt).length < 27)) := by rw [List.length_cons]; omega
        go_upto_region 1 with fail
        refine wp_region_list ?_
        refine readL (.slice (some ad) (bt.length + 1) cap) rfl (by kernel_rfl) ?_
        simp only [aP, lI, l0, lS]
        refine readL (.int .i64 (((bt.length + 1) : Nat) : Int)) rfl (lenS _ 22 5 (some ad) (bt.length + 1) cap rfl Tryd.underlying22 rfl _) ?_
        simp only [aP, lI, l0, lS]
        refine readL (.bool false) rfl (eqlI .i64 _ _ _ _ _ _ rfl rfl rfl false (by simp; omega) _) ?_
        simp only [aP, lI, l0, lS]
        refine readL (.bool false) rfl (by kernel_rfl) ?_
        simp only [aP, lI, l0, lS]
        refine readL (.slice (some ad) (bt.length + 1) cap) rfl (by kernel_rfl) ?_
        simp only [aP, lI, l0, lS]
        refine readL (.pointer (some (ad.add 0))) rfl (idxSl 22 5 (bt.length + 1) cap .i64 ad 0 _ _ Tryd.underlying22 (fun _ => by kernel_rfl) (by omega) rfl rfl rfl _) ?_
        simp only [aP, lI, l0, lS]
        refine readL (.int .u8 x) rfl (load1 5 _ (ad.add 0) _ rfl rfl (fun _ => by kernel_rfl) ((hs.below M.below (Nat.le_refl _)).at 0 (by omega))) ?_
        simp only [aP, lI, l0, lS]
        refine readL (.bool true) rfl (eqlI .u8 _ _ _ _ _ _ rfl rfl rfl true (by rw [h3]; rfl) _) ?_
        simp only [aP, lI, l0, lS]
        refine readL (.bool true) rfl (by kernel_rfl) ?_
        simp only [aP, lI, l0, lS]
        refine readL (.slice (some ad) (bt.length + 1) cap) rfl (by kernel_rfl) ?_
        simp only [aP, lI, l0, lS]
        refine readL (.int .i64 (((bt.length + 1) : Nat) : Int)) rfl (lenS _ 22 5 (some ad) (bt.length + 1) cap rfl Tryd.underlying22 rfl _) ?_
        simp only [aP, lI, l0, lS]
        refine readL (.bool false) rfl (lssI .i64 _ _ _ _ _ _ rfl rfl rfl false (decide_eq_false (by omega)) _) ?_
        simp only [aP, lI, l0, lS]
        refine readL (.bool false) rfl (by kernel_rfl) ?_
        simp only [aP, lI, l0, lS]
        refine readL (.bool false) rfl (by kernel_rfl) ?_
        simp only [aP, lI, l0, lS]
        first | show Exit.then _ _ _ _ _ | show Exit.inBlock _ _ _ _ _
        have hB1w := M.lt List.mem_cons_self
        have hB1l := M.lo List.mem_cons_self
        go_upto_region 3 with fail
        go_cut [4] (fun pv wx => ∃ (B : Nat) (bp : Option Addr) (bc : Nat), pv = .pointer (some ⟨B, 0, none⟩) ∧ B1 < B ∧ Mm w [(B, [.int .i64 x, .int .i64 0, .int .i64 0, .int .i64 0, .int .i64 0, .slice bp bt.length bc]), (B1, [.int .i64 0, .int .i64 0, .int .i64 0, .int .i64 0, .int .i64 0, .slice none 0 0])] wx ∧ SrcA [B, B1] wx bp bt.length (bl bt) ∧ bt.length ≤ bc ∧ (bp = none → bc = 0))
        case first =>
          obtain ⟨q26, hq26, hqs26, hqn26⟩ := cut_loA (P := Tryd.prog) (t := 22) (by kernel_rfl) (fun _ => by kernel_rfl) (some ad) (bt.length + 1) cap 1 (by omega) hcap (fun e => by cases e)
          refine wp_region_held_drew (S := fun w' => Below w.heap.size w w') (by kernel_rfl) M.drew.below ?_
          intro _
          have hdz : w1.heap.size ≤ w1.drew.heap.size := (Below.refl w1.heap.size w1).drew.size
          replace M := M.drew
          generalize w1.drew = w2 at M hdz ⊢
          refine readH (i := 0) (some 20) rfl (.slice (some ad) (bt.length + 1) cap) rfl rfl (fun _ _ => by kernel_rfl) (by kernel_rfl) (by kernel_rfl) (by kernel_rfl) (fun _ _ _ h => h) M.below ?_
          simp only [aP, lI, l0, lS]
          refine readH (i := 1) (some 21) rfl (.pointer (some (ad.add 0))) rfl rfl (fun w _ => idxSl 22 5 (bt.length + 1) cap .i64 ad 0 _ _ Tryd.underlying22 (fun _ => by kernel_rfl) (by omega) rfl rfl rfl w) (by kernel_rfl) (by kernel_rfl) (by kernel_rfl) (fun _ _ _ h => h) M.below ?_
          simp only [aP, lI, l0, lS]
          refine readH (i := 2) (some 22) rfl (.int .u8 x) rfl rfl (fun _ hS => load1 5 _ (ad.add 0) _ rfl rfl (fun _ => by kernel_rfl) ((hs.below hS (Nat.le_refl _)).at 0 (by omega))) (by kernel_rfl) (by kernel_rfl) (by kernel_rfl) (fun _ _ _ h => h) M.below ?_
          simp only [aP, lI, l0, lS]
          refine readH (i := 3) (some 23) rfl (.int .i64 x) rfl rfl (fun w _ => convI .u8 .i64 _ _ _ _ _ rfl (by kernel_rfl) Tryd.underlying3 (by kernel_rfl) rfl (by rw [IntKind.wrap_i64]; omega) w) (by kernel_rfl) (by kernel_rfl) (by kernel_rfl) (fun _ _ _ h => h) M.below ?_
          simp only [aP, lI, l0, lS]
          refine readH (i := 5) (some 25) rfl (.slice (some ad) (bt.length + 1) cap) rfl rfl (fun _ _ => by kernel_rfl) (by kernel_rfl) (by kernel_rfl) (by kernel_rfl) (fun _ _ _ h => h) M.below ?_
          simp only [aP, lI, l0, lS]
          refine readH (i := 6) (some 26) rfl (.slice q26 bt.length (cap - 1)) rfl rfl (fun _ _ => cutOp _ _ _ _ _ _ rfl rfl rfl (hq26 _)) (by kernel_rfl) (by kernel_rfl) (by kernel_rfl) (fun _ _ _ h => h) M.below ?_
          simp only [aP, lI, l0, lS]
          have hsq : ∀ {w' : World}, Below w.heap.size w w' → Src w' q26 bt.length (bl bt) := fun hS => (hqs26 [] _ _ ⟨hs.below hS (Nat.le_refl _), fun _ _ _ h => by cases h⟩).1.congr fun j _ => bl_succ x bt j
          refine twoH 4 9 (by kernel_rfl) ?_ ?_
          · have hlb := (Below.refl w2.heap.size w2).alloc (Nat.le_refl _) (.cells #[] 5)
            refine actO (w' := (w2.alloc (.cells #[] 5))) (i := 4) (some 24) rfl (.slice (some ⟨w2.heap.size, 0, none⟩) 0 0) rfl rfl (by kernel_rfl) ?_
            refine ⟨(M.call hlb).below, ?_⟩
            simp only [aP, lI, l0, lS]
            have O_4 : OwnL (w2.alloc (.cells #[] 5)) (B1 + 1) [] (.slice (some ⟨w2.heap.size, 0, none⟩) 0 0) := Own.lit w2 (B1 + 1) 5 .u8 0 (bl []) (by omega) (by unfold maxLen; omega)
            have h4 : ∀ g, ((.slice (some ⟨w2.heap.size, 0, none⟩) 0 0) : Value).ownBlock = some g → g < (w2.alloc (.cells #[] 5)).heap.size := fun g hg => (World.ownsRow.lt O_4 g hg).2
            have hz4 : w2.heap.size ≤ (w2.alloc (.cells #[] 5)).heap.size := hlb.size
            replace M := M.call hlb
            clear hlb
            generalize (w2.alloc (.cells #[] 5)) = w3 at M O_4 hz4 h4 ⊢
            generalize (some ⟨w2.heap.size, 0, none⟩ : Option Addr) = p4 at O_4 h4 ⊢
            refine twoH 7 9 (by kernel_rfl) ?_ ?_
            · obtain ⟨v, w4, hr, O_7, hgr, hob⟩ := run_append_Own (P := Tryd.prog) (ty := 22) Tryd.underlying22 one8 O_4 q26 bt.length (cap - 1) (bl bt) (hsq M.below) hqn26 (by rw [List.length_nil]; unfold maxLen; omega) (by rw [List.length_nil]; omega) (by omega)
              replace M := M.grown hgr (B1 + 1) (fun p hp => by obtain rfl := List.mem_singleton.1 hp; exact Nat.lt_succ_self _) (Nat.le_succ_of_le hB1l) (by omega) (fun b hb => (World.ownsRow.lt O_4 b hb).1)
              have hz7 : w3.heap.size ≤ w4.heap.size := hgr.size
              replace O_7 : OwnL w4 (B1 + 1) ([] ++ bt) v := OwnL.app O_7
              rw [List.nil_append] at O_7
              refine actO (i := 7) (some 27) rfl v rfl rfl (appendOp _ _ 22 _ _ _ rfl rfl rfl hr) ?_
              refine ⟨M.below, ?_⟩
              simp only [aP, lI, l0, lS]
              obtain ⟨p7, c7, rfl, _, _⟩ := O_7.bytes
              clear hr hgr hob O_4
              refine readH (i := 8) (some 28) rfl (.agg #[.int .i64 x, .int .i64 0, .int .i64 0, .int .i64 0, .int .i64 0, .slice p7 bt.length c7]) rfl rfl (fun _ _ => by kernel_rfl) (by kernel_rfl) (by kernel_rfl) (by kernel_rfl) (fun _ _ _ h => h) M.below ?_
              simp only [aP, lI, l0, lS]
              have hlb := (Below.refl w4.heap.size w4).alloc (Nat.le_refl _) (.cells #[.int .i64 0, .int .i64 0, .int .i64 0, .int .i64 0, .int .i64 0, .slice none 0 0] 24)
              refine onlyH (i := 9) (some 4) rfl (.pointer (some ⟨w4.heap.size, 0, none⟩)) (by kernel_rfl) rfl rfl (by kernel_rfl) (M.call hlb).below ?_
              simp only [aP, lI, l0, lS]
              have hBB : B1 < w4.heap.size := by omega
              have hne7 : ∀ g, (Value.slice p7 bt.length c7).ownBlock = some g → g ≠ w4.heap.size := fun g hg => by have := (World.ownsRow.lt O_7 g hg).2; omega
              replace O_7 := O_7.below hlb
              have hz9 : w4.heap.size ≤ (w4.alloc (.cells #[.int .i64 0, .int .i64 0, .int .i64 0, .int .i64 0, .int .i64 0, .slice none 0 0] 24)).heap.size := hlb.size
              replace M := M.box #[.int .i64 0, .int .i64 0, .int .i64 0, .int .i64 0, .int .i64 0, .slice none 0 0] 24 w4.heap.size rfl
              clear hlb
              have hB9 := M.lt List.mem_cons_self
              generalize (w4.alloc (.cells #[.int .i64 0, .int .i64 0, .int .i64 0, .int .i64 0, .int .i64 0, .slice none 0 0] 24)) = w5 at M hz9 hB9  O_7 ⊢
              generalize eB : w4.heap.size = B at M hBB hB9  hne7 ⊢
              replace M : Mm w [(B, [.int .i64 0, .int .i64 0, .int .i64 0, .int .i64 0, .int .i64 0, .slice none 0 0]), (B1, [.int .i64 0, .int .i64 0, .int .i64 0, .int .i64 0, .int .i64 0, .slice none 0 0])] w5 := M
              have hA7 : SrcA [B, B1] w5 p7 bt.length (bl bt) := ⟨O_7.src, fun ad e hn hm => by
                subst e
                have h1 := (World.ownsRow.lt O_7 ad.block rfl).1
                have h2 := hne7 ad.block rfl
                rcases List.mem_cons.1 hm with h | h
                · exact h2 h
                · have := List.mem_singleton.1 h; omega⟩
              have hc7 := O_7.le
              have hn7 := O_7.nilCap
              clear O_7
              refine doesH (i := 10) none rfl (by kernel_rfl) rfl rfl (storeP [.int .i64 x, .int .i64 0, .int .i64 0, .int .i64 0, .int .i64 0, .slice p7 bt.length c7] B 0 24 _ _ rfl rfl rfl (M.thereP List.mem_cons_self 0 6 (Nat.le_of_ble_eq_true rfl)) (by kernel_rfl) (List.all_eq_true.1 (rfl : ([.int .i64 x, .int .i64 0, .int .i64 0, .int .i64 0, .int .i64 0, .slice p7 bt.length c7] : List Value).all (fun u => u.oneCell') = true))) (M.setPart [.int .i64 x, .int .i64 0, .int .i64 0, .int .i64 0, .int .i64 0, .slice p7 bt.length c7] 0 (Nat.le_of_ble_eq_true rfl)).below ?_
              simp only [Act.put]
              replace M := M.setPart [.int .i64 x, .int .i64 0, .int .i64 0, .int .i64 0, .int .i64 0, .slice p7 bt.length c7] 0 (Nat.le_of_ble_eq_true rfl)
              replace hA7 := hA7.off ((Off.refl [B, B1] _).setAll (b := B) List.mem_cons_self 0 [.int .i64 x, .int .i64 0, .int .i64 0, .int .i64 0, .int .i64 0, .slice p7 bt.length c7])
              generalize w5.setCells B 0 [.int .i64 x, .int .i64 0, .int .i64 0, .int .i64 0, .int .i64 0, .slice p7 bt.length c7] = wz at M hA7 ⊢
              refine wpAnyH_done (by kernel_rfl) ?_ _
              first | show Exit.then _ _ _ _ _ | show Exit.inBlock _ _ _ _ _
              have HS := show Hid _ from (And.intro hBB (And.intro M (And.intro hA7 (And.intro hc7 hn7))))
              clear M hA7 hc7 hn7
              go_wp2
              go_meet
              exact ⟨B, p7, c7, rfl, HS.out⟩
            · have hlb := (Below.refl w3.heap.size w3).alloc (Nat.le_refl _) (.cells #[.int .i64 0, .int .i64 0, .int .i64 0, .int .i64 0, .int .i64 0, .slice none 0 0] 24)
              refine actO (w' := (w3.alloc (.cells #[.int .i64 0, .int .i64 0, .int .i64 0, .int .i64 0, .int .i64 0, .slice none 0 0] 24))) (i := 9) (some 4) rfl (.pointer (some ⟨w3.heap.size, 0, none⟩)) rfl rfl (by kernel_rfl) ?_
              refine ⟨(M.call hlb).below, ?_⟩
              simp only [aP, lI, l0, lS]
              have hBB : B1 < w3.heap.size := by omega
              have hne : ∀ g, (Value.slice p4 0 0).ownBlock = some g → g ≠ w3.heap.size := fun g hg => by have := h4 g hg; omega
              replace O_4 := O_4.below hlb
              have hz9 : w3.heap.size ≤ (w3.alloc (.cells #[.int .i64 0, .int .i64 0, .int .i64 0, .int .i64 0, .int .i64 0, .slice none 0 0] 24)).heap.size := hlb.size
              replace M := M.box #[.int .i64 0, .int .i64 0, .int .i64 0, .int .i64 0, .int .i64 0, .slice none 0 0] 24 w3.heap.size rfl
              clear hlb
              have hB9 := M.lt List.mem_cons_self
              generalize (w3.alloc (.cells #[.int .i64 0, .int .i64 0, .int .i64 0, .int .i64 0, .int .i64 0, .slice none 0 0] 24)) = w4 at M hz9 hB9 O_4  ⊢
              generalize eB : w3.heap.size = B at M hBB hB9 hne  ⊢
              obtain ⟨v, w5, hr, O_7, hgr, hob⟩ := run_append_Own (P := Tryd.prog) (ty := 22) Tryd.underlying22 one8 O_4 q26 bt.length (cap - 1) (bl bt) (hsq M.below) hqn26 (by rw [List.length_nil]; unfold maxLen; omega) (by rw [List.length_nil]; omega) (by omega)
              have hofM : Off (ob p4) w4 w5 := (Off.refl _ _).grown hgr (fun b hb => .inl ((ob_own _ _ _ _).1 hb))
              replace M := M.off hofM (fun y hy => by have h1 := (ob_lt O_4 y hy).1; omega) (fun q hq hy => by
                have h1 := (ob_lt O_4 _ hy).1
                have h2 := hne _ ((ob_own p4 0 0 _).2 hy)
                rcases List.mem_cons.1 hq with rfl | hq
                · exact h2 rfl
                · obtain rfl := List.mem_singleton.1 hq
                  simp only at h1
                  omega) ⟨hgr.os, hgr.tape, hgr.output⟩
              have hne7 : ∀ g, v.ownBlock = some g → g ≠ B := fun g hg => by
                rcases hob g hg with h | h
                · exact hne g h
                · omega
              clear hofM
              have hz7 : w4.heap.size ≤ w5.heap.size := hgr.size
              replace O_7 : OwnL w5 (B1 + 1) ([] ++ bt) v := OwnL.app O_7
              rw [List.nil_append] at O_7
              refine onlyH (i := 7) (some 27) rfl v (by kernel_rfl) rfl rfl (appendOp _ _ 22 _ _ _ rfl rfl rfl hr) M.below ?_
              simp only [aP, lI, l0, lS]
              obtain ⟨p7, c7, rfl, _, _⟩ := O_7.bytes
              clear hr hgr hob O_4
              refine readH (i := 8) (some 28) rfl (.agg #[.int .i64 x, .int .i64 0, .int .i64 0, .int .i64 0, .int .i64 0, .slice p7 bt.length c7]) rfl rfl (fun _ _ => by kernel_rfl) (by kernel_rfl) (by kernel_rfl) (by kernel_rfl) (fun _ _ _ h => h) M.below ?_
              simp only [aP, lI, l0, lS]
              replace M : Mm w [(B, [.int .i64 0, .int .i64 0, .int .i64 0, .int .i64 0, .int .i64 0, .slice none 0 0]), (B1, [.int .i64 0, .int .i64 0, .int .i64 0, .int .i64 0, .int .i64 0, .slice none 0 0])] w5 := M
              have hA7 : SrcA [B, B1] w5 p7 bt.length (bl bt) := ⟨O_7.src, fun ad e hn hm => by
                subst e
                have h1 := (World.ownsRow.lt O_7 ad.block rfl).1
                have h2 := hne7 ad.block rfl
                rcases List.mem_cons.1 hm with h | h
                · exact h2 h
                · have := List.mem_singleton.1 h; omega⟩
              have hc7 := O_7.le
              have hn7 := O_7.nilCap
              clear O_7
              refine doesH (i := 10) none rfl (by kernel_rfl) rfl rfl (storeP [.int .i64 x, .int .i64 0, .int .i64 0, .int .i64 0, .int .i64 0, .slice p7 bt.length c7] B 0 24 _ _ rfl rfl rfl (M.thereP List.mem_cons_self 0 6 (Nat.le_of_ble_eq_true rfl)) (by kernel_rfl) (List.all_eq_true.1 (rfl : ([.int .i64 x, .int .i64 0, .int .i64 0, .int .i64 0, .int .i64 0, .slice p7 bt.length c7] : List Value).all (fun u => u.oneCell') = true))) (M.setPart [.int .i64 x, .int .i64 0, .int .i64 0, .int .i64 0, .int .i64 0, .slice p7 bt.length c7] 0 (Nat.le_of_ble_eq_true rfl)).below ?_
              simp only [Act.put]
              replace M := M.setPart [.int .i64 x, .int .i64 0, .int .i64 0, .int .i64 0, .int .i64 0, .slice p7 bt.length c7] 0 (Nat.le_of_ble_eq_true rfl)
              replace hA7 := hA7.off ((Off.refl [B, B1] _).setAll (b := B) List.mem_cons_self 0 [.int .i64 x, .int .i64 0, .int .i64 0, .int .i64 0, .int .i64 0, .slice p7 bt.length c7])
              generalize w5.setCells B 0 [.int .i64 x, .int .i64 0, .int .i64 0, .int .i64 0, .int .i64 0, .slice p7 bt.length c7] = wz at M hA7 ⊢
              refine wpAnyH_done (by kernel_rfl) ?_ _
              first | show Exit.then _ _ _ _ _ | show Exit.inBlock _ _ _ _ _
              have HS := show Hid _ from (And.intro hBB (And.intro M (And.intro hA7 (And.intro hc7 hn7))))
              clear M hA7 hc7 hn7
              go_wp2
              go_meet
              exact ⟨B, p7, c7, rfl, HS.out⟩
          · have hlb := (Below.refl w2.heap.size w2).alloc (Nat.le_refl _) (.cells #[.int .i64 0, .int .i64 0, .int .i64 0, .int .i64 0, .int .i64 0, .slice none 0 0] 24)
            refine actO (w' := (w2.alloc (.cells #[.int .i64 0, .int .i64 0, .int .i64 0, .int .i64 0, .int .i64 0, .slice none 0 0] 24))) (i := 9) (some 4) rfl (.pointer (some ⟨w2.heap.size, 0, none⟩)) rfl rfl (by kernel_rfl) ?_
            refine ⟨(M.call hlb).below, ?_⟩
            simp only [aP, lI, l0, lS]
            have hBB : B1 < w2.heap.size := by omega
            have hz9 : w2.heap.size ≤ (w2.alloc (.cells #[.int .i64 0, .int .i64 0, .int .i64 0, .int .i64 0, .int .i64 0, .slice none 0 0] 24)).heap.size := hlb.size
            replace M := M.box #[.int .i64 0, .int .i64 0, .int .i64 0, .int .i64 0, .int .i64 0, .slice none 0 0] 24 w2.heap.size rfl
            clear hlb
            have hB9 := M.lt List.mem_cons_self
            generalize (w2.alloc (.cells #[.int .i64 0, .int .i64 0, .int .i64 0, .int .i64 0, .int .i64 0, .slice none 0 0] 24)) = w3 at M hz9 hB9   ⊢
            generalize eB : w2.heap.size = B at M hBB hB9   ⊢
            have hlb := (Below.refl w3.heap.size w3).alloc (Nat.le_refl _) (.cells #[] 5)
            refine onlyH (i := 4) (some 24) rfl (.slice (some ⟨w3.heap.size, 0, none⟩) 0 0) (by kernel_rfl) rfl rfl (by kernel_rfl) (M.call hlb).below ?_
            simp only [aP, lI, l0, lS]
            have O_4 : OwnL (w3.alloc (.cells #[] 5)) (B1 + 1) [] (.slice (some ⟨w3.heap.size, 0, none⟩) 0 0) := Own.lit w3 (B1 + 1) 5 .u8 0 (bl []) (by omega) (by unfold maxLen; omega)
            have hne : ∀ g, ((.slice (some ⟨w3.heap.size, 0, none⟩) 0 0) : Value).ownBlock = some g → g ≠ B := fun g hg => by have hg' : w3.heap.size = g := Option.some.inj hg; omega
            have hz4 : w3.heap.size ≤ (w3.alloc (.cells #[] 5)).heap.size := hlb.size
            replace M := M.call hlb
            clear hlb
            generalize (w3.alloc (.cells #[] 5)) = w4 at M O_4 hz4  ⊢
            generalize (some ⟨w3.heap.size, 0, none⟩ : Option Addr) = p4 at O_4 hne ⊢
            obtain ⟨v, w5, hr, O_7, hgr, hob⟩ := run_append_Own (P := Tryd.prog) (ty := 22) Tryd.underlying22 one8 O_4 q26 bt.length (cap - 1) (bl bt) (hsq M.below) hqn26 (by rw [List.length_nil]; unfold maxLen; omega) (by rw [List.length_nil]; omega) (by omega)
            have hofM : Off (ob p4) w4 w5 := (Off.refl _ _).grown hgr (fun b hb => .inl ((ob_own _ _ _ _).1 hb))
            replace M := M.off hofM (fun y hy => by have h1 := (ob_lt O_4 y hy).1; omega) (fun q hq hy => by
              have h1 := (ob_lt O_4 _ hy).1
              have h2 := hne _ ((ob_own p4 0 0 _).2 hy)
              rcases List.mem_cons.1 hq with rfl | hq
              · exact h2 rfl
              · obtain rfl := List.mem_singleton.1 hq
                simp only at h1
                omega) ⟨hgr.os, hgr.tape, hgr.output⟩
            have hne7 : ∀ g, v.ownBlock = some g → g ≠ B := fun g hg => by
              rcases hob g hg with h | h
              · exact hne g h
              · omega
            clear hofM
            have hz7 : w4.heap.size ≤ w5.heap.size := hgr.size
            replace O_7 : OwnL w5 (B1 + 1) ([] ++ bt) v := OwnL.app O_7
            rw [List.nil_append] at O_7
            refine onlyH (i := 7) (some 27) rfl v (by kernel_rfl) rfl rfl (appendOp _ _ 22 _ _ _ rfl rfl rfl hr) M.below ?_
            simp only [aP, lI, l0, lS]
            obtain ⟨p7, c7, rfl, _, _⟩ := O_7.bytes
            clear hr hgr hob O_4
            refine readH (i := 8) (some 28) rfl (.agg #[.int .i64 x, .int .i64 0, .int .i64 0, .int .i64 0, .int .i64 0, .slice p7 bt.length c7]) rfl rfl (fun _ _ => by kernel_rfl) (by kernel_rfl) (by kernel_rfl) (by kernel_rfl) (fun _ _ _ h => h) M.below ?_
            simp only [aP, lI, l0, lS]
            replace M : Mm w [(B, [.int .i64 0, .int .i64 0, .int .i64 0, .int .i64 0, .int .i64 0, .slice none 0 0]), (B1, [.int .i64 0, .int .i64 0, .int .i64 0, .int .i64 0, .int .i64 0, .slice none 0 0])] w5 := M
            have hA7 : SrcA [B, B1] w5 p7 bt.length (bl bt) := ⟨O_7.src, fun ad e hn hm => by
              subst e
              have h1 := (World.ownsRow.lt O_7 ad.block rfl).1
              have h2 := hne7 ad.block rfl
              rcases List.mem_cons.1 hm with h | h
              · exact h2 h
              · have := List.mem_singleton.1 h; omega⟩
            have hc7 := O_7.le
            have hn7 := O_7.nilCap
            clear O_7
            refine doesH (i := 10) none rfl (by kernel_rfl) rfl rfl (storeP [.int .i64 x, .int .i64 0, .int .i64 0, .int .i64 0, .int .i64 0, .slice p7 bt.length c7] B 0 24 _ _ rfl rfl rfl (M.thereP List.mem_cons_self 0 6 (Nat.le_of_ble_eq_true rfl)) (by kernel_rfl) (List.all_eq_true.1 (rfl : ([.int .i64 x, .int .i64 0, .int .i64 0, .int .i64 0, .int .i64 0, .slice p7 bt.length c7] : List Value).all (fun u => u.oneCell') = true))) (M.setPart [.int .i64 x, .int .i64 0, .int .i64 0, .int .i64 0, .int .i64 0, .slice p7 bt.length c7] 0 (Nat.le_of_ble_eq_true rfl)).below ?_
            simp only [Act.put]
            replace M := M.setPart [.int .i64 x, .int .i64 0, .int .i64 0, .int .i64 0, .int .i64 0, .slice p7 bt.length c7] 0 (Nat.le_of_ble_eq_true rfl)
            replace hA7 := hA7.off ((Off.refl [B, B1] _).setAll (b := B) List.mem_cons_self 0 [.int .i64 x, .int .i64 0, .int .i64 0, .int .i64 0, .int .i64 0, .slice p7 bt.length c7])
            generalize w5.setCells B 0 [.int .i64 x, .int .i64 0, .int .i64 0, .int .i64 0, .int .i64 0, .slice p7 bt.length c7] = wz at M hA7 ⊢
            refine wpAnyH_done (by kernel_rfl) ?_ _
            first | show Exit.then _ _ _ _ _ | show Exit.inBlock _ _ _ _ _
            have HS := show Hid _ from (And.intro hBB (And.intro M (And.intro hA7 (And.intro hc7 hn7))))
            clear M hA7 hc7 hn7
            go_wp2
            go_meet
            exact ⟨B, p7, c7, rfl, HS.out⟩
        case rest =>
          obtain ⟨B, bp, bc, rfl, hBB, M, A_0, hc0, hn0⟩ := hcut
          have hy := hbt.bl 0 (by omega)
          have hz := hbt.bl 1 (by omega)
          go_upto_region 4 with fail
          refine wp_region_list ?_
          refine readL (.pointer (some ⟨B, 0, none⟩)) rfl (by kernel_rfl) ?_
          simp only [aP, lI, l0, lS]
          refine readL (.int .i64 x) rfl (load1 3 _ ⟨B, 0, none⟩ _ rfl rfl (fun _ => by kernel_rfl) (M.get List.mem_cons_self 0 _ rfl)) ?_
          simp only [aP, lI, l0, lS]
          refine readL (.bool true) rfl (eqlI .i64 _ _ _ _ _ _ rfl rfl rfl true (by rw [h3]; rfl) _) ?_
          simp only [aP, lI, l0, lS]
          first | show Exit.then _ _ _ _ _ | show Exit.inBlock _ _ _ _ _
          go_upto_region 5 with fail
          refine wp_region_list ?_
          refine readL (.slice (some ad) (bt.length + 1) cap) rfl (by kernel_rfl) ?_
          simp only [aP, lI, l0, lS]
          refine readL (.pointer (some (ad.add 1))) rfl (idxSl 22 5 (bt.length + 1) cap .i64 ad 1 _ _ Tryd.underlying22 (fun _ => by kernel_rfl) (by omega) rfl rfl rfl _) ?_
          simp only [aP, lI, l0, lS]
          refine readL (.int .u8 (bl bt 0)) rfl (load1 5 _ (ad.add 1) _ rfl rfl (fun _ => by kernel_rfl) ((hs.below M.below (Nat.le_refl _)).at 1 (by omega))) ?_
          simp only [aP, lI, l0, lS]
          refine readL (.int .i64 (bl bt 0)) rfl (convI .u8 .i64 _ _ _ _ _ rfl (by kernel_rfl) Tryd.underlying3 (by kernel_rfl) rfl (by rw [IntKind.wrap_i64]; omega) _) ?_
          simp only [aP, lI, l0, lS]
          refine readL (.pointer (some ⟨B, 1, none⟩)) rfl (by kernel_rfl) ?_
          simp only [aP, lI, l0, lS]
          refine skipOpL rfl (storeAny (.int .i64 (bl bt 0)) B 1 3 _ _ rfl rfl rfl rfl rfl (M.isSome List.mem_cons_self 1 (by simp)) (M.free List.mem_cons_self 1 (by simp)) (by kernel_rfl)) ?_
          simp only [Act.put]
          replace M := M.set 1 (by simp) (.int .i64 (bl bt 0))
          replace A_0 := A_0.off (((Off.refl [B] _).set (b := B) List.mem_cons_self 1 (.int .i64 (bl bt 0))).mono (fun x hx => by obtain rfl := List.mem_singleton.1 hx; simp))
          generalize wc.setCell ⟨B, 1, none⟩ (.int .i64 (bl bt 0)) = w4 at M A_0 ⊢
          replace M : Mm w ([(B, [.int .i64 x, .int .i64 (bl bt 0), .int .i64 0, .int .i64 0, .int .i64 0, .slice bp bt.length bc]), (B1, [.int .i64 0, .int .i64 0, .int .i64 0, .int .i64 0, .int .i64 0, .slice none 0 0])]) w4 := M
          first | show Exit.then _ _ _ _ _ | show Exit.inBlock _ _ _ _ _
          go_upto_region 6 with fail
          refine wp_region_list ?_
          refine readL (.slice (some ad) (bt.length + 1) cap) rfl (by kernel_rfl) ?_
          simp only [aP, lI, l0, lS]
          refine readL (.pointer (some (ad.add 2))) rfl (idxSl 22 5 (bt.length + 1) cap .i64 ad 2 _ _ Tryd.underlying22 (fun _ => by kernel_rfl) (by omega) rfl rfl rfl _) ?_
          simp only [aP, lI, l0, lS]
          refine readL (.int .u8 (bl bt 1)) rfl (load1 5 _ (ad.add 2) _ rfl rfl (fun _ => by kernel_rfl) ((hs.below M.below (Nat.le_refl _)).at 2 (by omega))) ?_
          simp only [aP, lI, l0, lS]
          refine readL (.int .i64 (bl bt 1)) rfl (convI .u8 .i64 _ _ _ _ _ rfl (by kernel_rfl) Tryd.underlying3 (by kernel_rfl) rfl (by rw [IntKind.wrap_i64]; omega) _) ?_
          simp only [aP, lI, l0, lS]
          refine readL (.pointer (some ⟨B, 2, none⟩)) rfl (by kernel_rfl) ?_
          simp only [aP, lI, l0, lS]
          refine skipOpL rfl (storeAny (.int .i64 (bl bt 1)) B 2 3 _ _ rfl rfl rfl rfl rfl (M.isSome List.mem_cons_self 2 (by simp)) (M.free List.mem_cons_self 2 (by simp)) (by kernel_rfl)) ?_
          simp only [Act.put]
          replace M := M.set 2 (by simp) (.int .i64 (bl bt 1))
          replace A_0 := A_0.off (((Off.refl [B] _).set (b := B) List.mem_cons_self 2 (.int .i64 (bl bt 1))).mono (fun x hx => by obtain rfl := List.mem_singleton.1 hx; simp))
          generalize w4.setCell ⟨B, 2, none⟩ (.int .i64 (bl bt 1)) = w5 at M A_0 ⊢
          replace M : Mm w ([(B, [.int .i64 x, .int .i64 (bl bt 0), .int .i64 (bl bt 1), .int .i64 0, .int .i64 0, .slice bp bt.length bc]), (B1, [.int .i64 0, .int .i64 0, .int .i64 0, .int .i64 0, .int .i64 0, .slice none 0 0])]) w5 := M
          first | show Exit.then _ _ _ _ _ | show Exit.inBlock _ _ _ _ _
          go_upto_region 7 with fail
          refine wp_region_list ?_
          refine readL (.slice (some ad) (bt.length + 1) cap) rfl (by kernel_rfl) ?_
          simp only [aP, lI, l0, lS]
          obtain ⟨q44, hq44, hqs44⟩ := cut_lh (P := Tryd.prog) (t := 22) (by kernel_rfl) (fun _ => by kernel_rfl) (some ad) (bt.length + 1) cap 3 5 (by omega) (by omega) hcap
          refine readL (.slice q44 2 (cap - 3)) rfl (cutLHop _ _ _ _ _ _ _ _ rfl rfl rfl rfl (hq44 _)) ?_
          simp only [aP, lI, l0, lS]
          have hzz : In 256 2 (fun j => bl (x :: bt) (3 + j)) := fun j hj => hb.bl (3 + j) (by show 3 + j < bt.length + 1; omega)
          have hcc : 2 ≤ cap - 3 := by omega
          refine callL rfl (fun _ => by kernel_rfl) (rtakefixed_any q44 2 (cap - 3) (by omega) hcc (fun e => by obtain ⟨_, e', _⟩ := hqs44 _ _ (hs.below M.below (Nat.le_refl _)) 0 (by omega); rw [e] at e'; cases e') (fun j => bl (x :: bt) (3 + j)) hzz 2 _ (hqs44 _ _ (hs.below M.below (Nat.le_refl _)))) ?_
          rintro e w6 ⟨rp, rc, rfl, _, l1⟩
          replace M := M.call l1
          replace A_0 := A_0.off (Off.of_below l1)
          clear l1 hzz hcc
          have eg : gN 2 (fun j => bl (x :: bt) (3 + j)) 2 = fV (fun j => bl (x :: bt) (3 + j)) 2 := rfl
          refine ⟨_, rfl, ?_⟩
          simp only [aP, lI, l0, lS]
          rw [eg]
          clear eg
          refine readL (.tuple #[.int .i64 (fV (fun j => bl (x :: bt) (3 + j)) 2), .slice rp (gL 2 2) rc, .int .i64 (gE 2 2)]) rfl (by kernel_rfl) ?_
          simp only [aP, lI, l0, lS]
          refine readL (.int .i64 (fV (fun j => bl (x :: bt) (3 + j)) 2)) rfl (by kernel_rfl) ?_
          simp only [aP, lI, l0, lS]
          refine readL (.slice rp (gL 2 2) rc) rfl (by kernel_rfl) ?_
          simp only [aP, lI, l0, lS]
          refine readL (.int .i64 (gE 2 2)) rfl (by kernel_rfl) ?_
          simp only [aP, lI, l0, lS]
          refine readL (.pointer (some ⟨B, 3, none⟩)) rfl (by kernel_rfl) ?_
          simp only [aP, lI, l0, lS]
          refine skipOpL rfl (storeAny (.int .i64 (fV (fun j => bl (x :: bt) (3 + j)) 2)) B 3 3 _ _ rfl rfl rfl rfl rfl (M.isSome List.mem_cons_self 3 (by simp)) (M.free List.mem_cons_self 3 (by simp)) (by kernel_rfl)) ?_
          simp only [Act.put]
          replace M := M.set 3 (by simp) (.int .i64 (fV (fun j => bl (x :: bt) (3 + j)) 2))
          replace A_0 := A_0.off (((Off.refl [B] _).set (b := B) List.mem_cons_self 3 (.int .i64 (fV (fun j => bl (x :: bt) (3 + j)) 2))).mono (fun x hx => by obtain rfl := List.mem_singleton.1 hx; simp))
          generalize w6.setCell ⟨B, 3, none⟩ (.int .i64 (fV (fun j => bl (x :: bt) (3 + j)) 2)) = w7 at M A_0 ⊢
          replace M : Mm w ([(B, [.int .i64 x, .int .i64 (bl bt 0), .int .i64 (bl bt 1), .int .i64 (fV (fun j => bl (x :: bt) (3 + j)) 2), .int .i64 0, .slice bp bt.length bc]), (B1, [.int .i64 0, .int .i64 0, .int .i64 0, .int .i64 0, .int .i64 0, .slice none 0 0])]) w7 := M
          first | show Exit.then _ _ _ _ _ | show Exit.inBlock _ _ _ _ _
          go_upto_region 8 with fail
          refine wp_region_list ?_
          refine readL (.slice (some ad) (bt.length + 1) cap) rfl (by kernel_rfl) ?_
          simp only [aP, lI, l0, lS]
          obtain ⟨q52, hq52, hqs52⟩ := cut_lh (P := Tryd.prog) (t := 22) (by kernel_rfl) (fun _ => by kernel_rfl) (some ad) (bt.length + 1) cap 5 11 (by omega) (by omega) hcap
          refine readL (.slice q52 6 (cap - 5)) rfl (cutLHop _ _ _ _ _ _ _ _ rfl rfl rfl rfl (hq52 _)) ?_
          simp only [aP, lI, l0, lS]
          have hzz : In 256 6 (fun j => bl (x :: bt) (5 + j)) := fun j hj => hb.bl (5 + j) (by show 5 + j < bt.length + 1; omega)
          have hcc : 6 ≤ cap - 5 := by omega
          refine callL rfl (fun _ => by kernel_rfl) (rtakefixed_any q52 6 (cap - 5) (by omega) hcc (fun e => by obtain ⟨_, e', _⟩ := hqs52 _ _ (hs.below M.below (Nat.le_refl _)) 0 (by omega); rw [e] at e'; cases e') (fun j => bl (x :: bt) (5 + j)) hzz 6 _ (hqs52 _ _ (hs.below M.below (Nat.le_refl _)))) ?_
          rintro e w8 ⟨rp, rc, rfl, _, l1⟩
          replace M := M.call l1
          replace A_0 := A_0.off (Off.of_below l1)
          clear l1 hzz hcc
          have eg : gN 6 (fun j => bl (x :: bt) (5 + j)) 6 = fV (fun j => bl (x :: bt) (5 + j)) 6 := rfl
          refine ⟨_, rfl, ?_⟩
          simp only [aP, lI, l0, lS]
          rw [eg]
          clear eg
          refine readL (.tuple #[.int .i64 (fV (fun j => bl (x :: bt) (5 + j)) 6), .slice rp (gL 6 6) rc, .int .i64 (gE 6 6)]) rfl (by kernel_rfl) ?_
          simp only [aP, lI, l0, lS]
          refine readL (.int .i64 (fV (fun j => bl (x :: bt) (5 + j)) 6)) rfl (by kernel_rfl) ?_
          simp only [aP, lI, l0, lS]
          refine readL (.slice rp (gL 6 6) rc) rfl (by kernel_rfl) ?_
          simp only [aP, lI, l0, lS]
          refine readL (.int .i64 (gE 6 6)) rfl (by kernel_rfl) ?_
          simp only [aP, lI, l0, lS]
          refine readL (.pointer (some ⟨B, 4, none⟩)) rfl (by kernel_rfl) ?_
          simp only [aP, lI, l0, lS]
          refine skipOpL rfl (storeAny (.int .i64 (fV (fun j => bl (x :: bt) (5 + j)) 6)) B 4 3 _ _ rfl rfl rfl rfl rfl (M.isSome List.mem_cons_self 4 (by simp)) (M.free List.mem_cons_self 4 (by simp)) (by kernel_rfl)) ?_
          simp only [Act.put]
          replace M := M.set 4 (by simp) (.int .i64 (fV (fun j => bl (x :: bt) (5 + j)) 6))
          replace A_0 := A_0.off (((Off.refl [B] _).set (b := B) List.mem_cons_self 4 (.int .i64 (fV (fun j => bl (x :: bt) (5 + j)) 6))).mono (fun x hx => by obtain rfl := List.mem_singleton.1 hx; simp))
          generalize w8.setCell ⟨B, 4, none⟩ (.int .i64 (fV (fun j => bl (x :: bt) (5 + j)) 6)) = w9 at M A_0 ⊢
          replace M : Mm w ([(B, [.int .i64 x, .int .i64 (bl bt 0), .int .i64 (bl bt 1), .int .i64 (fV (fun j => bl (x :: bt) (3 + j)) 2), .int .i64 (fV (fun j => bl (x :: bt) (5 + j)) 6), .slice bp bt.length bc]), (B1, [.int .i64 0, .int .i64 0, .int .i64 0, .int .i64 0, .int .i64 0, .slice none 0 0])]) w9 := M
          first | show Exit.then _ _ _ _ _ | show Exit.inBlock _ _ _ _ _
          go_upto_region 9 with fail
          refine wp_region_list ?_
          refine actL (w' := w9.alloc (.cells #[] 5)) (.slice (some ⟨w9.heap.size, 0, none⟩) 0 0) rfl (by kernel_rfl) ?_
          simp only [aP, lI, l0, lS]
          have O_10 : OwnL (w9.alloc (.cells #[] 5)) w9.heap.size [] (.slice (some ⟨w9.heap.size, 0, none⟩) 0 0) := Own.lit w9 w9.heap.size 5 .u8 0 (bl []) (Nat.le_refl _) (by unfold maxLen; omega)
          have hlb := (Below.refl w9.heap.size w9).alloc (Nat.le_refl _) (.cells #[] 5)
          have hbz10 := hlb.size
          have hlo10 := M.lt List.mem_cons_self
          have hlp10 := M.lt (List.mem_cons_of_mem _ List.mem_cons_self)
          replace M := M.call hlb
          replace A_0 := A_0.off (Off.of_below hlb)
          clear hlb
          generalize w9.alloc (.cells #[] 5) = w10 at M O_10 hbz10 A_0 ⊢
          generalize (some ⟨w9.heap.size, 0, none⟩ : Option Addr) = p10 at O_10 ⊢
          refine readL (.slice (some ad) (bt.length + 1) cap) rfl (by kernel_rfl) ?_
          simp only [aP, lI, l0, lS]
          obtain ⟨q60, hq60, hqs60, hqn60⟩ := cut_loA (P := Tryd.prog) (t := 22) (by kernel_rfl) (fun _ => by kernel_rfl) (some ad) (bt.length + 1) cap 11 (by omega) hcap (fun e => by cases e)
          refine readL (.slice q60 (bt.length + 1 - 11) (cap - 11)) rfl (cutOp _ _ _ _ _ _ rfl rfl rfl (hq60 _)) ?_
          simp only [aP, lI, l0, lS]
          have hsr : Src w10 q60 (bt.length + 1 - 11) (fun j => bl (x :: bt) (11 + j)) := (hqs60 [] _ _ ⟨hs.below M.below (Nat.le_refl _), fun _ _ _ h => by cases h⟩).1
          have hdl : bt.length + 1 - 11 = (bt.drop 10).length := by rw [List.length_drop]; omega
          rw [hdl] at hsr
          replace hsr : Src w10 q60 (bt.drop 10).length (bl (bt.drop 10)) := hsr.congr fun j _ => by rw [bl_drop]; show bl (x :: bt) (11 + j) = _; rw [show 11 + j = 1 + (10 + j) by omega, bl_succ]
          obtain ⟨v, w11, hr, O_11, hgr, _⟩ := run_append_Own (P := Tryd.prog) (ty := 22) Tryd.underlying22 one8 O_10 q60 (bt.drop 10).length (cap - 11) (bl (bt.drop 10)) hsr hqn60 (by rw [List.length_nil]; unfold maxLen; omega) (by rw [List.length_nil]; omega) (by omega)
          replace M := M.grown hgr w9.heap.size (fun p hp => by rcases List.mem_cons.1 hp with rfl | hp; omega; obtain rfl := List.mem_singleton.1 hp; omega) (by have := M.lo List.mem_cons_self; omega) (by omega) (fun b hb => (World.ownsRow.lt O_10 b hb).1)
          replace O_11 : OwnL w11 w9.heap.size ([] ++ (bt.drop 10)) v := OwnL.app O_11
          rw [List.nil_append] at O_11
          rw [hdl]
          refine actL v rfl (appendOp _ _ 22 _ _ _ rfl rfl rfl hr) ?_
          simp only [aP, lI, l0, lS]
          clear hr hgr O_10
          obtain ⟨p11, c11, rfl, _, _⟩ := O_11.bytes
          have A_11 : SrcA [B, B1] w11 p11 (bt.drop 10).length (bl (bt.drop 10)) := SrcA.of_own O_11 (fun x hx => by rcases List.mem_cons.1 hx with rfl | hx; omega; obtain rfl := List.mem_singleton.1 hx; omega)
          have hc11 := O_11.le
          have hn11 := O_11.nilCap
          clear O_11
          refine readL (.pointer (some ⟨B, 5, none⟩)) rfl (by kernel_rfl) ?_
          simp only [aP, lI, l0, lS]
          refine skipOpL rfl (storeAny (.slice p11 ((bt.drop 10).length) c11) B 5 22 _ _ rfl rfl rfl rfl rfl (M.isSome List.mem_cons_self 5 (by simp)) (M.free List.mem_cons_self 5 (by simp)) (by kernel_rfl)) ?_
          simp only [Act.put]
          replace M := M.set 5 (by simp) (.slice p11 ((bt.drop 10).length) c11)
          replace A_11 := A_11.off (((Off.refl [B] _).set (b := B) List.mem_cons_self 5 (.slice p11 ((bt.drop 10).length) c11)).mono (fun x hx => by obtain rfl := List.mem_singleton.1 hx; simp))
          generalize w11.setCell ⟨B, 5, none⟩ (.slice p11 ((bt.drop 10).length) c11) = w12 at M A_11 ⊢
          replace M : Mm w ([(B, [.int .i64 x, .int .i64 (bl bt 0), .int .i64 (bl bt 1), .int .i64 (fV (fun j => bl (x :: bt) (3 + j)) 2), .int .i64 (fV (fun j => bl (x :: bt) (5 + j)) 6), .slice p11 ((bt.drop 10).length) c11]), (B1, [.int .i64 0, .int .i64 0, .int .i64 0, .int .i64 0, .int .i64 0, .slice none 0 0])]) w12 := M
          first | show Exit.then _ _ _ _ _ | show Exit.inBlock _ _ _ _ _
          have hprs : prs (x :: bt) = ⟨x, bl bt 0, bl bt 1, fV (fun j => bl (x :: bt) (3 + j)) 2, fV (fun j => bl (x :: bt) (5 + j)) 6, bt.drop 10⟩ := by unfold prs; rw [if_pos (show bl (x :: bt) 0 = 3 from h3), h3]; rfl
          cases hok : pok ⟨x, bl bt 0, bl bt 1, fV (fun j => bl (x :: bt) (3 + j)) 2, fV (fun j => bl (x :: bt) (5 + j)) 6, bt.drop 10⟩ with
          | true =>
            have hQ := show Hid _ from ps_ok (by rw [pps_good hns (by rw [hprs]; exact hok), hprs])
            go_upto_region 10 with fail
            refine wp_region_list ?_
            refine readL (.agg #[.int .i64 x, .int .i64 (bl bt 0), .int .i64 (bl bt 1), .int .i64 (fV (fun j => bl (x :: bt) (3 + j)) 2), .int .i64 (fV (fun j => bl (x :: bt) (5 + j)) 6), .slice p11 ((bt.drop 10).length) c11]) rfl (loadN 24 _ ⟨B, 0, none⟩ [.int .i64 x, .int .i64 (bl bt 0), .int .i64 (bl bt 1), .int .i64 (fV (fun j => bl (x :: bt) (3 + j)) 2), .int .i64 (fV (fun j => bl (x :: bt) (5 + j)) 6), .slice p11 ((bt.drop 10).length) c11] rfl rfl (fun _ => by kernel_rfl) (fun _ => by kernel_rfl) (M.rangeAt List.mem_cons_self)) ?_
            simp only [aP, lI, l0, lS]
            have hC : Calls Tryd.prog 18 #[.agg #[.int .i64 x, .int .i64 (bl bt 0), .int .i64 (bl bt 1), .int .i64 (fV (fun j => bl (x :: bt) (3 + j)) 2), .int .i64 (fV (fun j => bl (x :: bt) (5 + j)) 6), .slice p11 ((bt.drop 10).length) c11]] w12 (fun e w' => e = .returned (.bool true) ∧ Below w12.heap.size w12 w') := (by rw [← hok]; exact rmay_any ⟨x, bl bt 0, bl bt 1, fV (fun j => bl (x :: bt) (3 + j)) 2, fV (fun j => bl (x :: bt) (5 + j)) 6, bt.drop 10⟩ p11 c11 _)
            refine callL rfl (fun _ => by kernel_rfl) (hC) ?_
            rintro e w13 ⟨rfl, l⟩
            replace M := M.call l
            refine ⟨_, rfl, ?_⟩
            replace A_11 := A_11.off (Off.of_below l)
            clear l hC
            simp only [aP, lI, l0, lS]
            refine readL (.bool false) rfl (by kernel_rfl) ?_
            simp only [aP, lI, l0, lS]
            first | show Exit.then _ _ _ _ _ | show Exit.inBlock _ _ _ _ _
            go_upto_region 12 with fail
            refine wp_region_list ?_
            refine readL (.agg #[.int .i64 x, .int .i64 (bl bt 0), .int .i64 (bl bt 1), .int .i64 (fV (fun j => bl (x :: bt) (3 + j)) 2), .int .i64 (fV (fun j => bl (x :: bt) (5 + j)) 6), .slice p11 ((bt.drop 10).length) c11]) rfl (loadN 24 _ ⟨B, 0, none⟩ [.int .i64 x, .int .i64 (bl bt 0), .int .i64 (bl bt 1), .int .i64 (fV (fun j => bl (x :: bt) (3 + j)) 2), .int .i64 (fV (fun j => bl (x :: bt) (5 + j)) 6), .slice p11 ((bt.drop 10).length) c11] rfl rfl (fun _ => by kernel_rfl) (fun _ => by kernel_rfl) (M.rangeAt List.mem_cons_self)) ?_
            simp only [aP, lI, l0, lS]
            replace M := M.swap
            refine skipOpL rfl (storeP [.int .i64 x, .int .i64 (bl bt 0), .int .i64 (bl bt 1), .int .i64 (fV (fun j => bl (x :: bt) (3 + j)) 2), .int .i64 (fV (fun j => bl (x :: bt) (5 + j)) 6), .slice p11 ((bt.drop 10).length) c11] B1 0 24 _ _ rfl rfl rfl (M.thereP List.mem_cons_self 0 6 (Nat.le_of_ble_eq_true rfl)) (by kernel_rfl) (List.all_eq_true.1 (rfl : ([.int .i64 x, .int .i64 (bl bt 0), .int .i64 (bl bt 1), .int .i64 (fV (fun j => bl (x :: bt) (3 + j)) 2), .int .i64 (fV (fun j => bl (x :: bt) (5 + j)) 6), .slice p11 ((bt.drop 10).length) c11] : List Value).all (fun u => u.oneCell') = true))) ?_
            simp only [Act.put]
            replace M := M.setPart [.int .i64 x, .int .i64 (bl bt 0), .int .i64 (bl bt 1), .int .i64 (fV (fun j => bl (x :: bt) (3 + j)) 2), .int .i64 (fV (fun j => bl (x :: bt) (5 + j)) 6), .slice p11 ((bt.drop 10).length) c11] 0 (Nat.le_of_ble_eq_true rfl)
            replace A_11 := A_11.off (((Off.refl [B1] _).setAll (b := B1) List.mem_cons_self 0 [.int .i64 x, .int .i64 (bl bt 0), .int .i64 (bl bt 1), .int .i64 (fV (fun j => bl (x :: bt) (3 + j)) 2), .int .i64 (fV (fun j => bl (x :: bt) (5 + j)) 6), .slice p11 ((bt.drop 10).length) c11]).mono (fun x hx => by obtain rfl := List.mem_singleton.1 hx; simp))
            generalize w13.setCells B1 0 [.int .i64 x, .int .i64 (bl bt 0), .int .i64 (bl bt 1), .int .i64 (fV (fun j => bl (x :: bt) (3 + j)) 2), .int .i64 (fV (fun j => bl (x :: bt) (5 + j)) 6), .slice p11 ((bt.drop 10).length) c11] = w14 at M A_11 ⊢
            replace M : Mm w ([(B1, [.int .i64 x, .int .i64 (bl bt 0), .int .i64 (bl bt 1), .int .i64 (fV (fun j => bl (x :: bt) (3 + j)) 2), .int .i64 (fV (fun j => bl (x :: bt) (5 + j)) 6), .slice p11 ((bt.drop 10).length) c11]), (B, [.int .i64 x, .int .i64 (bl bt 0), .int .i64 (bl bt 1), .int .i64 (fV (fun j => bl (x :: bt) (3 + j)) 2), .int .i64 (fV (fun j => bl (x :: bt) (5 + j)) 6), .slice p11 ((bt.drop 10).length) c11])]) w14 := M
            refine readL (.int .i64 0) rfl (by kernel_rfl) ?_
            simp only [aP, lI, l0, lS]
            first | show Exit.then _ _ _ _ _ | show Exit.inBlock _ _ _ _ _
            have hpv := show Hid _ from ((⟨A_11.1, hc11, hn11, by rw [List.length_drop]; omega, hbt.drop 10, i64_byte hx, i64_byte hy, i64_byte hz, fV_i64 _ 2 (by decide) (fun j hj => hb.bl (3 + j) (by rw [List.length_cons]; omega)), fV_i64 _ 6 (by decide) (fun j hj => hb.bl (5 + j) (by rw [List.length_cons]; omega))⟩ : PV _ ⟨x, bl bt 0, bl bt 1, fV (fun j => bl (x :: bt) (3 + j)) 2, fV (fun j => bl (x :: bt) (5 + j)) 6, bt.drop 10⟩ p11 c11))
            have c1_ := M.part List.mem_cons_self 0 (pcs ⟨x, bl bt 0, bl bt 1, fV (fun j => bl (x :: bt) (3 + j)) 2, fV (fun j => bl (x :: bt) (5 + j)) 6, bt.drop 10⟩ p11 c11) rfl
            have hM := M.below
            clear M
            go_wp2
            refine bodyPost_ret (v := .tuple #[.agg (pcs ⟨x, bl bt 0, bl bt 1, fV (fun j => bl (x :: bt) (3 + j)) 2, fV (fun j => bl (x :: bt) (5 + j)) 6, bt.drop 10⟩ p11 c11).toArray, .int .i64 0]) (retCellTmp 2 3 24 ⟨B1, 0, none⟩ (pcs ⟨x, bl bt 0, bl bt 1, fV (fun j => bl (x :: bt) (3 + j)) 2, fV (fun j => bl (x :: bt) (5 + j)) 6, bt.drop 10⟩ p11 c11) _ rfl rfl rfl (fun _ => by kernel_rfl) (fun _ => by kernel_rfl) c1_) rfl ?_
            exact ⟨⟨_, _, by rw [hQ.out.1, hQ.out.2], by rw [hQ.out.1]; exact hpv.out⟩, hM⟩
          | false =>
            have hQ := show Hid _ from ps_err (pps_bad hns (by rw [hprs]; exact hok))
            go_upto_region 10 with fail
            refine wp_region_list ?_
            refine readL (.agg #[.int .i64 x, .int .i64 (bl bt 0), .int .i64 (bl bt 1), .int .i64 (fV (fun j => bl (x :: bt) (3 + j)) 2), .int .i64 (fV (fun j => bl (x :: bt) (5 + j)) 6), .slice p11 ((bt.drop 10).length) c11]) rfl (loadN 24 _ ⟨B, 0, none⟩ [.int .i64 x, .int .i64 (bl bt 0), .int .i64 (bl bt 1), .int .i64 (fV (fun j => bl (x :: bt) (3 + j)) 2), .int .i64 (fV (fun j => bl (x :: bt) (5 + j)) 6), .slice p11 ((bt.drop 10).length) c11] rfl rfl (fun _ => by kernel_rfl) (fun _ => by kernel_rfl) (M.rangeAt List.mem_cons_self)) ?_
            simp only [aP, lI, l0, lS]
            have hC : Calls Tryd.prog 18 #[.agg #[.int .i64 x, .int .i64 (bl bt 0), .int .i64 (bl bt 1), .int .i64 (fV (fun j => bl (x :: bt) (3 + j)) 2), .int .i64 (fV (fun j => bl (x :: bt) (5 + j)) 6), .slice p11 ((bt.drop 10).length) c11]] w12 (fun e w' => e = .returned (.bool false) ∧ Below w12.heap.size w12 w') := (by rw [← hok]; exact rmay_any ⟨x, bl bt 0, bl bt 1, fV (fun j => bl (x :: bt) (3 + j)) 2, fV (fun j => bl (x :: bt) (5 + j)) 6, bt.drop 10⟩ p11 c11 _)
            refine callL rfl (fun _ => by kernel_rfl) (hC) ?_
            rintro e w15 ⟨rfl, l⟩
            replace M := M.call l
            refine ⟨_, rfl, ?_⟩
            replace A_11 := A_11.off (Off.of_below l)
            clear l hC
            simp only [aP, lI, l0, lS]
            refine readL (.bool true) rfl (by kernel_rfl) ?_
            simp only [aP, lI, l0, lS]
            first | show Exit.then _ _ _ _ _ | show Exit.inBlock _ _ _ _ _
            go_upto_region 11 with fail
            refine wp_region_list ?_
            refine readL (.agg #[.int .i64 0, .int .i64 0, .int .i64 0, .int .i64 0, .int .i64 0, .slice none 0 0]) rfl (by kernel_rfl) ?_
            simp only [aP, lI, l0, lS]
            replace M := M.swap
            refine skipOpL rfl (storeP [.int .i64 0, .int .i64 0, .int .i64 0, .int .i64 0, .int .i64 0, .slice none 0 0] B1 0 24 _ _ rfl rfl rfl (M.thereP List.mem_cons_self 0 6 (Nat.le_of_ble_eq_true rfl)) (by kernel_rfl) (List.all_eq_true.1 (rfl : ([.int .i64 0, .int .i64 0, .int .i64 0, .int .i64 0, .int .i64 0, .slice none 0 0] : List Value).all (fun u => u.oneCell') = true))) ?_
            simp only [Act.put]
            replace M := M.setPart [.int .i64 0, .int .i64 0, .int .i64 0, .int .i64 0, .int .i64 0, .slice none 0 0] 0 (Nat.le_of_ble_eq_true rfl)
            generalize w15.setCells B1 0 [.int .i64 0, .int .i64 0, .int .i64 0, .int .i64 0, .int .i64 0, .slice none 0 0] = w16 at M  ⊢
            replace M : Mm w ([(B1, [.int .i64 0, .int .i64 0, .int .i64 0, .int .i64 0, .int .i64 0, .slice none 0 0]), (B, [.int .i64 x, .int .i64 (bl bt 0), .int .i64 (bl bt 1), .int .i64 (fV (fun j => bl (x :: bt) (3 + j)) 2), .int .i64 (fV (fun j => bl (x :: bt) (5 + j)) 6), .slice p11 ((bt.drop 10).length) c11])]) w16 := M
            refine readL (.int .i64 110) rfl (by kernel_rfl) ?_
            simp only [aP, lI, l0, lS]
            first | show Exit.then _ _ _ _ _ | show Exit.inBlock _ _ _ _ _
            have hpv := show Hid _ from (pv0 w16)
            have c1_ := M.part List.mem_cons_self 0 (pcs pk0 none 0) rfl
            have hM := M.below
            clear M
            go_wp2
            refine bodyPost_ret (v := .tuple #[.agg (pcs pk0 none 0).toArray, .int .i64 110]) (retCellTmp 2 3 24 ⟨B1, 0, none⟩ (pcs pk0 none 0) _ rfl rfl rfl (fun _ => by kernel_rfl) (fun _ => by kernel_rfl) c1_) rfl ?_
            exact ⟨⟨_, _, by rw [hQ.out.1, hQ.out.2], by rw [hQ.out.1]; exact hpv.out⟩, hM⟩
    · have hns : ¬ ((x :: bt).length = 0 ∨ (bl (x :: bt) 0 = 3 ∧ (x :: bt).length < 27)) := by rw [List.length_cons]; rintro (h | h); omega; exact h3 h.1
      go_upto_region 1 with fail
      refine wp_region_list ?_
      refine readL (.slice (some ad) (bt.length + 1) cap) rfl (by kernel_rfl) ?_
      simp only [aP, lI, l0, lS]
      refine readL (.int .i64 (((bt.length + 1) : Nat) : Int)) rfl (lenS _ 22 5 (some ad) (bt.length + 1) cap rfl Tryd.underlying22 rfl _) ?_
      simp only [aP, lI, l0, lS]
      refine readL (.bool false) rfl (eqlI .i64 _ _ _ _ _ _ rfl rfl rfl false (by simp; omega) _) ?_
      simp only [aP, lI, l0, lS]
      refine readL (.bool false) rfl (by kernel_rfl) ?_
      simp only [aP, lI, l0, lS]
      refine readL (.slice (some ad) (bt.length + 1) cap) rfl (by kernel_rfl) ?_
      simp only [aP, lI, l0, lS]
      refine readL (.pointer (some (ad.add 0))) rfl (idxSl 22 5 (bt.length + 1) cap .i64 ad 0 _ _ Tryd.underlying22 (fun _ => by kernel_rfl) (by omega) rfl rfl rfl _) ?_
      simp only [aP, lI, l0, lS]
      refine readL (.int .u8 x) rfl (load1 5 _ (ad.add 0) _ rfl rfl (fun _ => by kernel_rfl) ((hs.below M.below (Nat.le_refl _)).at 0 (by omega))) ?_
      simp only [aP, lI, l0, lS]
      refine readL (.bool false) rfl (eqlI .u8 _ _ _ _ _ _ rfl rfl rfl false (by simpa using h3) _) ?_
      simp only [aP, lI, l0, lS]
      refine readL (.bool false) rfl (by kernel_rfl) ?_
      simp only [aP, lI, l0, lS]
      with_reducible refine skipL ?_ ?_
      · rfl
      simp only [aP, lI, l0, lS]
      with_reducible refine skipL ?_ ?_
      · rfl
      simp only [aP, lI, l0, lS]
      with_reducible refine skipL ?_ ?_
      · rfl
      simp only [aP, lI, l0, lS]
      refine readL (.bool false) rfl (by kernel_rfl) ?_
      simp only [aP, lI, l0, lS]
      refine readL (.bool false) rfl (by kernel_rfl) ?_
      simp only [aP, lI, l0, lS]
      first | show Exit.then _ _ _ _ _ | show Exit.inBlock _ _ _ _ _
      have hB1w := M.lt List.mem_cons_self
      have hB1l := M.lo List.mem_cons_self
      go_upto_region 3 with fail
      go_cut [4] (fun pv wx => ∃ (B : Nat) (bp : Option Addr) (bc : Nat), pv = .pointer (some ⟨B, 0, none⟩) ∧ B1 < B ∧ Mm w [(B, [.int .i64 x, .int .i64 0, .int .i64 0, .int .i64 0, .int .i64 0, .slice bp bt.length bc]), (B1, [.int .i64 0, .int .i64 0, .int .i64 0, .int .i64 0, .int .i64 0, .slice none 0 0])] wx ∧ SrcA [B, B1] wx bp bt.length (bl bt) ∧ bt.length ≤ bc ∧ (bp = none → bc = 0))
      case first =>
        obtain ⟨q26, hq26, hqs26, hqn26⟩ := cut_loA (P := Tryd.prog) (t := 22) (by kernel_rfl) (fun _ => by kernel_rfl) (some ad) (bt.length + 1) cap 1 (by omega) hcap (fun e => by cases e)
        refine wp_region_held_drew (S := fun w' => Below w.heap.size w w') (by kernel_rfl) M.drew.below ?_
        intro _
        have hdz : w1.heap.size ≤ w1.drew.heap.size := (Below.refl w1.heap.size w1).drew.size
        replace M := M.drew
        generalize w1.drew = w2 at M hdz ⊢
        refine readH (i := 0) (some 20) rfl (.slice (some ad) (bt.length + 1) cap) rfl rfl (fun _ _ => by kernel_rfl) (by kernel_rfl) (by kernel_rfl) (by kernel_rfl) (fun _ _ _ h => h) M.below ?_
        simp only [aP, lI, l0, lS]
        refine readH (i := 1) (some 21) rfl (.pointer (some (ad.add 0))) rfl rfl (fun w _ => idxSl 22 5 (bt.length + 1) cap .i64 ad 0 _ _ Tryd.underlying22 (fun _ => by kernel_rfl) (by omega) rfl rfl rfl w) (by kernel_rfl) (by kernel_rfl) (by kernel_rfl) (fun _ _ _ h => h) M.below ?_
        simp only [aP, lI, l0, lS]
        refine readH (i := 2) (some 22) rfl (.int .u8 x) rfl rfl (fun _ hS => load1 5 _ (ad.add 0) _ rfl rfl (fun _ => by kernel_rfl) ((hs.below hS (Nat.le_refl _)).at 0 (by omega))) (by kernel_rfl) (by kernel_rfl) (by kernel_rfl) (fun _ _ _ h => h) M.below ?_
        simp only [aP, lI, l0, lS]
        refine readH (i := 3) (some 23) rfl (.int .i64 x) rfl rfl (fun w _ => convI .u8 .i64 _ _ _ _ _ rfl (by kernel_rfl) Tryd.underlying3 (by kernel_rfl) rfl (by rw [IntKind.wrap_i64]; omega) w) (by kernel_rfl) (by kernel_rfl) (by kernel_rfl) (fun _ _ _ h => h) M.below ?_
        simp only [aP, lI, l0, lS]
        refine readH (i := 5) (some 25) rfl (.slice (some ad) (bt.length + 1) cap) rfl rfl (fun _ _ => by kernel_rfl) (by kernel_rfl) (by kernel_rfl) (by kernel_rfl) (fun _ _ _ h => h) M.below ?_
        simp only [aP, lI, l0, lS]
        refine readH (i := 6) (some 26) rfl (.slice q26 bt.length (cap - 1)) rfl rfl (fun _ _ => cutOp _ _ _ _ _ _ rfl rfl rfl (hq26 _)) (by kernel_rfl) (by kernel_rfl) (by kernel_rfl) (fun _ _ _ h => h) M.below ?_
        simp only [aP, lI, l0, lS]
        have hsq : ∀ {w' : World}, Below w.heap.size w w' → Src w' q26 bt.length (bl bt) := fun hS => (hqs26 [] _ _ ⟨hs.below hS (Nat.le_refl _), fun _ _ _ h => by cases h⟩).1.congr fun j _ => bl_succ x bt j
        refine twoH 4 9 (by kernel_rfl) ?_ ?_
        · have hlb := (Below.refl w2.heap.size w2).alloc (Nat.le_refl _) (.cells #[] 5)
          refine actO (w' := (w2.alloc (.cells #[] 5))) (i := 4) (some 24) rfl (.slice (some ⟨w2.heap.size, 0, none⟩) 0 0) rfl rfl (by kernel_rfl) ?_
          refine ⟨(M.call hlb).below, ?_⟩
          simp only [aP, lI, l0, lS]
          have O_4 : OwnL (w2.alloc (.cells #[] 5)) (B1 + 1) [] (.slice (some ⟨w2.heap.size, 0, none⟩) 0 0) := Own.lit w2 (B1 + 1) 5 .u8 0 (bl []) (by omega) (by unfold maxLen; omega)
          have h4 : ∀ g, ((.slice (some ⟨w2.heap.size, 0, none⟩) 0 0) : Value).ownBlock = some g → g < (w2.alloc (.cells #[] 5)).heap.size := fun g hg => (World.ownsRow.lt O_4 g hg).2
          have hz4 : w2.heap.size ≤ (w2.alloc (.cells #[] 5)).heap.size := hlb.size
          replace M := M.call hlb
          clear hlb
          generalize (w2.alloc (.cells #[] 5)) = w3 at M O_4 hz4 h4 ⊢
          generalize (some ⟨w2.heap.size, 0, none⟩ : Option Addr) = p4 at O_4 h4 ⊢
          refine twoH 7 9 (by kernel_rfl) ?_ ?_
          · obtain ⟨v, w4, hr, O_7, hgr, hob⟩ := run_append_Own (P := Tryd.prog) (ty := 22) Tryd.underlying22 one8 O_4 q26 bt.length (cap - 1) (bl bt) (hsq M.below) hqn26 (by rw [List.length_nil]; unfold maxLen; omega) (by rw [List.length_nil]; omega) (by omega)
            replace M := M.grown hgr (B1 + 1) (fun p hp => by obtain rfl := List.mem_singleton.1 hp; exact Nat.lt_succ_self _) (Nat.le_succ_of_le hB1l) (by omega) (fun b hb => (World.ownsRow.lt O_4 b hb).1)
            have hz7 : w3.heap.size ≤ w4.heap.size := hgr.size
            replace O_7 : OwnL w4 (B1 + 1) ([] ++ bt) v := OwnL.app O_7
            rw [List.nil_append] at O_7
            refine actO (i := 7) (some 27) rfl v rfl rfl (appendOp _ _ 22 _ _ _ rfl rfl rfl hr) ?_
            refine ⟨M.below, ?_⟩
            simp only [aP, lI, l0, lS]
            obtain ⟨p7, c7, rfl, _, _⟩ := O_7.bytes
            clear hr hgr hob O_4
            refine readH (i := 8) (some 28) rfl (.agg #[.int .i64 x, .int .i64 0, .int .i64 0, .int .i64 0, .int .i64 0, .slice p7 bt.length c7]) rfl rfl (fun _ _ => by kernel_rfl) (by kernel_rfl) (by kernel_rfl) (by kernel_rfl) (fun _ _ _ h => h) M.below ?_
            simp only [aP, lI, l0, lS]
            have hlb := (Below.refl w4.heap.size w4).alloc (Nat.le_refl _) (.cells #[.int .i64 0, .int .i64 0, .int .i64 0, .int .i64 0, .int .i64 0, .slice none 0 0] 24)
            refine onlyH (i := 9) (some 4) rfl (.pointer (some ⟨w4.heap.size, 0, none⟩)) (by kernel_rfl) rfl rfl (by kernel_rfl) (M.call hlb).below ?_
            simp only [aP, lI, l0, lS]
            have hBB : B1 < w4.heap.size := by omega
            have hne7 : ∀ g, (Value.slice p7 bt.length c7).ownBlock = some g → g ≠ w4.heap.size := fun g hg => by have := (World.ownsRow.lt O_7 g hg).2; omega
            replace O_7 := O_7.below hlb
            have hz9 : w4.heap.size ≤ (w4.alloc (.cells #[.int .i64 0, .int .i64 0, .int .i64 0, .int .i64 0, .int .i64 0, .slice none 0 0] 24)).heap.size := hlb.size
            replace M := M.box #[.int .i64 0, .int .i64 0, .int .i64 0, .int .i64 0, .int .i64 0, .slice none 0 0] 24 w4.heap.size rfl
            clear hlb
            have hB9 := M.lt List.mem_cons_self
            generalize (w4.alloc (.cells #[.int .i64 0, .int .i64 0, .int .i64 0, .int .i64 0, .int .i64 0, .slice none 0 0] 24)) = w5 at M hz9 hB9  O_7 ⊢
            generalize eB : w4.heap.size = B at M hBB hB9  hne7 ⊢
            replace M : Mm w [(B, [.int .i64 0, .int .i64 0, .int .i64 0, .int .i64 0, .int .i64 0, .slice none 0 0]), (B1, [.int .i64 0, .int .i64 0, .int .i64 0, .int .i64 0, .int .i64 0, .slice none 0 0])] w5 := M
            have hA7 : SrcA [B, B1] w5 p7 bt.length (bl bt) := ⟨O_7.src, fun ad e hn hm => by
              subst e
              have h1 := (World.ownsRow.lt O_7 ad.block rfl).1
              have h2 := hne7 ad.block rfl
              rcases List.mem_cons.1 hm with h | h
              · exact h2 h
              · have := List.mem_singleton.1 h; omega⟩
            have hc7 := O_7.le
            have hn7 := O_7.nilCap
            clear O_7
            refine doesH (i := 10) none rfl (by kernel_rfl) rfl rfl (storeP [.int .i64 x, .int .i64 0, .int .i64 0, .int .i64 0, .int .i64 0, .slice p7 bt.length c7] B 0 24 _ _ rfl rfl rfl (M.thereP List.mem_cons_self 0 6 (Nat.le_of_ble_eq_true rfl)) (by kernel_rfl) (List.all_eq_true.1 (rfl : ([.int .i64 x, .int .i64 0, .int .i64 0, .int .i64 0, .int .i64 0, .slice p7 bt.length c7] : List Value).all (fun u => u.oneCell') = true))) (M.setPart [.int .i64 x, .int .i64 0, .int .i64 0, .int .i64 0, .int .i64 0, .slice p7 bt.length c7] 0 (Nat.le_of_ble_eq_true rfl)).below ?_
            simp only [Act.put]
            replace M := M.setPart [.int .i64 x, .int .i64 0, .int .i64 0, .int .i64 0, .int .i64 0, .slice p7 bt.length c7] 0 (Nat.le_of_ble_eq_true rfl)
            replace hA7 := hA7.off ((Off.refl [B, B1] _).setAll (b := B) List.mem_cons_self 0 [.int .i64 x, .int .i64 0, .int .i64 0, .int .i64 0, .int .i64 0, .slice p7 bt.length c7])
            generalize w5.setCells B 0 [.int .i64 x, .int .i64 0, .int .i64 0, .int .i64 0, .int .i64 0, .slice p7 bt.length c7] = wz at M hA7 ⊢
            refine wpAnyH_done (by kernel_rfl) ?_ _
            first | show Exit.then _ _ _ _ _ | show Exit.inBlock _ _ _ _ _
            have HS := show Hid _ from (And.intro hBB (And.intro M (And.intro hA7 (And.intro hc7 hn7))))
            clear M hA7 hc7 hn7
            go_wp2
            go_meet
            exact ⟨B, p7, c7, rfl, HS.out⟩
          · have hlb := (Below.refl w3.heap.size w3).alloc (Nat.le_refl _) (.cells #[.int .i64 0, .int .i64 0, .int .i64 0, .int .i64 0, .int .i64 0, .slice none 0 0] 24)
            refine actO (w' := (w3.alloc (.cells #[.int .i64 0, .int .i64 0, .int .i64 0, .int .i64 0, .int .i64 0, .slice none 0 0] 24))) (i := 9) (some 4) rfl (.pointer (some ⟨w3.heap.size, 0, none⟩)) rfl rfl (by kernel_rfl) ?_
            refine ⟨(M.call hlb).below, ?_⟩
            simp only [aP, lI, l0, lS]
            have hBB : B1 < w3.heap.size := by omega
            have hne : ∀ g, (Value.slice p4 0 0).ownBlock = some g → g ≠ w3.heap.size := fun g hg => by have := h4 g hg; omega
            replace O_4 := O_4.below hlb
            have hz9 : w3.heap.size ≤ (w3.alloc (.cells #[.int .i64 0, .int .i64 0, .int .i64 0, .int .i64 0, .int .i64 0, .slice none 0 0] 24)).heap.size := hlb.size
            replace M := M.box #[.int .i64 0, .int .i64 0, .int .i64 0, .int .i64 0, .int .i64 0, .slice none 0 0] 24 w3.heap.size rfl
            clear hlb
            have hB9 := M.lt List.mem_cons_self
            generalize (w3.alloc (.cells #[.int .i64 0, .int .i64 0, .int .i64 0, .int .i64 0, .int .i64 0, .slice none 0 0] 24)) = w4 at M hz9 hB9 O_4  ⊢
            generalize eB : w3.heap.size = B at M hBB hB9 hne  ⊢
            obtain ⟨v, w5, hr, O_7, hgr, hob⟩ := run_append_Own (P := Tryd.prog) (ty := 22) Tryd.underlying22 one8 O_4 q26 bt.length (cap - 1) (bl bt) (hsq M.below) hqn26 (by rw [List.length_nil]; unfold maxLen; omega) (by rw [List.length_nil]; omega) (by omega)
            have hofM : Off (ob p4) w4 w5 := (Off.refl _ _).grown hgr (fun b hb => .inl ((ob_own _ _ _ _).1 hb))
            replace M := M.off hofM (fun y hy => by have h1 := (ob_lt O_4 y hy).1; omega) (fun q hq hy => by
              have h1 := (ob_lt O_4 _ hy).1
              have h2 := hne _ ((ob_own p4 0 0 _).2 hy)
              rcases List.mem_cons.1 hq with rfl | hq
              · exact h2 rfl
              · obtain rfl := List.mem_singleton.1 hq
                simp only at h1
                omega) ⟨hgr.os, hgr.tape, hgr.output⟩
            have hne7 : ∀ g, v.ownBlock = some g → g ≠ B := fun g hg => by
              rcases hob g hg with h | h
              · exact hne g h
              · omega
            clear hofM
            have hz7 : w4.heap.size ≤ w5.heap.size := hgr.size
            replace O_7 : OwnL w5 (B1 + 1) ([] ++ bt) v := OwnL.app O_7
            rw [List.nil_append] at O_7
            refine onlyH (i := 7) (some 27) rfl v (by kernel_rfl) rfl rfl (appendOp _ _ 22 _ _ _ rfl rfl rfl hr) M.below ?_
            simp only [aP, lI, l0, lS]
            obtain ⟨p7, c7, rfl, _, _⟩ := O_7.bytes
            clear hr hgr hob O_4
            refine readH (i := 8) (some 28) rfl (.agg #[.int .i64 x, .int .i64 0, .int .i64 0, .int .i64 0, .int .i64 0, .slice p7 bt.length c7]) rfl rfl (fun _ _ => by kernel_rfl) (by kernel_rfl) (by kernel_rfl) (by kernel_rfl) (fun _ _ _ h => h) M.below ?_
            simp only [aP, lI, l0, lS]
            replace M : Mm w [(B, [.int .i64 0, .int .i64 0, .int .i64 0, .int .i64 0, .int .i64 0, .slice none 0 0]), (B1, [.int .i64 0, .int .i64 0, .int .i64 0, .int .i64 0, .int .i64 0, .slice none 0 0])] w5 := M
            have hA7 : SrcA [B, B1] w5 p7 bt.length (bl bt) := ⟨O_7.src, fun ad e hn hm => by
              subst e
              have h1 := (World.ownsRow.lt O_7 ad.block rfl).1
              have h2 := hne7 ad.block rfl
              rcases List.mem_cons.1 hm with h | h
              · exact h2 h
              · have := List.mem_singleton.1 h; omega⟩
            have hc7 := O_7.le
            have hn7 := O_7.nilCap
            clear O_7
            refine doesH (i := 10) none rfl (by kernel_rfl) rfl rfl (storeP [.int .i64 x, .int .i64 0, .int .i64 0, .int .i64 0, .int .i64 0, .slice p7 bt.length c7] B 0 24 _ _ rfl rfl rfl (M.thereP List.mem_cons_self 0 6 (Nat.le_of_ble_eq_true rfl)) (by kernel_rfl) (List.all_eq_true.1 (rfl : ([.int .i64 x, .int .i64 0, .int .i64 0, .int .i64 0, .int .i64 0, .slice p7 bt.length c7] : List Value).all (fun u => u.oneCell') = true))) (M.setPart [.int .i64 x, .int .i64 0, .int .i64 0, .int .i64 0, .int .i64 0, .slice p7 bt.length c7] 0 (Nat.le_of_ble_eq_true rfl)).below ?_
            simp only [Act.put]
            replace M := M.setPart [.int .i64 x, .int .i64 0, .int .i64 0, .int .i64 0, .int .i64 0, .slice p7 bt.length c7] 0 (Nat.le_of_ble_eq_true rfl)
            replace hA7 := hA7.off ((Off.refl [B, B1] _).setAll (b := B) List.mem_cons_self 0 [.int .i64 x, .int .i64 0, .int .i64 0, .int .i64 0, .int .i64 0, .slice p7 bt.length c7])
            generalize w5.setCells B 0 [.int .i64 x, .int .i64 0, .int .i64 0, .int .i64 0, .int .i64 0, .slice p7 bt.length c7] = wz at M hA7 ⊢
            refine wpAnyH_done (by kernel_rfl) ?_ _
            first | show Exit.then _ _ _ _ _ | show Exit.inBlock _ _ _ _ _
            have HS := show Hid _ from (And.intro hBB (And.intro M (And.intro hA7 (And.intro hc7 hn7))))
            clear M hA7 hc7 hn7
            go_wp2
            go_meet
            exact ⟨B, p7, c7, rfl, HS.out⟩
        · have hlb := (Below.refl w2.heap.size w2).alloc (Nat.le_refl _) (.cells #[.int .i64 0, .int .i64 0, .int .i64 0, .int .i64 0, .int .i64 0, .slice none 0 0] 24)
          refine actO (w' := (w2.alloc (.cells #[.int .i64 0, .int .i64 0, .int .i64 0, .int .i64 0, .int .i64 0, .slice none 0 0] 24))) (i := 9) (some 4) rfl (.pointer (some ⟨w2.heap.size, 0, none⟩)) rfl rfl (by kernel_rfl) ?_
          refine ⟨(M.call hlb).below, ?_⟩
          simp only [aP, lI, l0, lS]
          have hBB : B1 < w2.heap.size := by omega
          have hz9 : w2.heap.size ≤ (w2.alloc (.cells #[.int .i64 0, .int .i64 0, .int .i64 0, .int .i64 0, .int .i64 0, .slice none 0 0] 24)).heap.size := hlb.size
          replace M := M.box #[.int .i64 0, .int .i64 0, .int .i64 0, .int .i64 0, .int .i64 0, .slice none 0 0] 24 w2.heap.size rfl
          clear hlb
          have hB9 := M.lt List.mem_cons_self
          generalize (w2.alloc (.cells #[.int .i64 0, .int .i64 0, .int .i64 0, .int .i64 0, .int .i64 0, .slice none 0 0] 24)) = w3 at M hz9 hB9   ⊢
          generalize eB : w2.heap.size = B at M hBB hB9   ⊢
          have hlb := (Below.refl w3.heap.size w3).alloc (Nat.le_refl _) (.cells #[] 5)
          refine onlyH (i := 4) (some 24) rfl (.slice (some ⟨w3.heap.size, 0, none⟩) 0 0) (by kernel_rfl) rfl rfl (by kernel_rfl) (M.call hlb).below ?_
          simp only [aP, lI, l0, lS]
          have O_4 : OwnL (w3.alloc (.cells #[] 5)) (B1 + 1) [] (.slice (some ⟨w3.heap.size, 0, none⟩) 0 0) := Own.lit w3 (B1 + 1) 5 .u8 0 (bl []) (by omega) (by unfold maxLen; omega)
          have hne : ∀ g, ((.slice (some ⟨w3.heap.size, 0, none⟩) 0 0) : Value).ownBlock = some g → g ≠ B := fun g hg => by have hg' : w3.heap.size = g := Option.some.inj hg; omega
          have hz4 : w3.heap.size ≤ (w3.alloc (.cells #[] 5)).heap.size := hlb.size
          replace M := M.call hlb
          clear hlb
          generalize (w3.alloc (.cells #[] 5)) = w4 at M O_4 hz4  ⊢
          generalize (some ⟨w3.heap.size, 0, none⟩ : Option Addr) = p4 at O_4 hne ⊢
          obtain ⟨v, w5, hr, O_7, hgr, hob⟩ := run_append_Own (P := Tryd.prog) (ty := 22) Tryd.underlying22 one8 O_4 q26 bt.length (cap - 1) (bl bt) (hsq M.below) hqn26 (by rw [List.length_nil]; unfold maxLen; omega) (by rw [List.length_nil]; omega) (by omega)
          have hofM : Off (ob p4) w4 w5 := (Off.refl _ _).grown hgr (fun b hb => .inl ((ob_own _ _ _ _).1 hb))
          replace M := M.off hofM (fun y hy => by have h1 := (ob_lt O_4 y hy).1; omega) (fun q hq hy => by
            have h1 := (ob_lt O_4 _ hy).1
            have h2 := hne _ ((ob_own p4 0 0 _).2 hy)
            rcases List.mem_cons.1 hq with rfl | hq
            · exact h2 rfl
            · obtain rfl := List.mem_singleton.1 hq
              simp only at h1
              omega) ⟨hgr.os, hgr.tape, hgr.output⟩
          have hne7 : ∀ g, v.ownBlock = some g → g ≠ B := fun g hg => by
            rcases hob g hg with h | h
            · exact hne g h
            · omega
          clear hofM
          have hz7 : w4.heap.size ≤ w5.heap.size := hgr.size
          replace O_7 : OwnL w5 (B1 + 1) ([] ++ bt) v := OwnL.app O_7
          rw [List.nil_append] at O_7
          refine onlyH (i := 7) (some 27) rfl v (by kernel_rfl) rfl rfl (appendOp _ _ 22 _ _ _ rfl rfl rfl hr) M.below ?_
          simp only [aP, lI, l0, lS]
          obtain ⟨p7, c7, rfl, _, _⟩ := O_7.bytes
          clear hr hgr hob O_4
          refine readH (i := 8) (some 28) rfl (.agg #[.int .i64 x, .int .i64 0, .int .i64 0, .int .i64 0, .int .i64 0, .slice p7 bt.length c7]) rfl rfl (fun _ _ => by kernel_rfl) (by kernel_rfl) (by kernel_rfl) (by kernel_rfl) (fun _ _ _ h => h) M.below ?_
          simp only [aP, lI, l0, lS]
          replace M : Mm w [(B, [.int .i64 0, .int .i64 0, .int .i64 0, .int .i64 0, .int .i64 0, .slice none 0 0]), (B1, [.int .i64 0, .int .i64 0, .int .i64 0, .int .i64 0, .int .i64 0, .slice none 0 0])] w5 := M
          have hA7 : SrcA [B, B1] w5 p7 bt.length (bl bt) := ⟨O_7.src, fun ad e hn hm => by
            subst e
            have h1 := (World.ownsRow.lt O_7 ad.block rfl).1
            have h2 := hne7 ad.block rfl
            rcases List.mem_cons.1 hm with h | h
            · exact h2 h
            · have := List.mem_singleton.1 h; omega⟩
          have hc7 := O_7.le
          have hn7 := O_7.nilCap
          clear O_7
          refine doesH (i := 10) none rfl (by kernel_rfl) rfl rfl (storeP [.int .i64 x, .int .i64 0, .int .i64 0, .int .i64 0, .int .i64 0, .slice p7 bt.length c7] B 0 24 _ _ rfl rfl rfl (M.thereP List.mem_cons_self 0 6 (Nat.le_of_ble_eq_true rfl)) (by kernel_rfl) (List.all_eq_true.1 (rfl : ([.int .i64 x, .int .i64 0, .int .i64 0, .int .i64 0, .int .i64 0, .slice p7 bt.length c7] : List Value).all (fun u => u.oneCell') = true))) (M.setPart [.int .i64 x, .int .i64 0, .int .i64 0, .int .i64 0, .int .i64 0, .slice p7 bt.length c7] 0 (Nat.le_of_ble_eq_true rfl)).below ?_
          simp only [Act.put]
          replace M := M.setPart [.int .i64 x, .int .i64 0, .int .i64 0, .int .i64 0, .int .i64 0, .slice p7 bt.length c7] 0 (Nat.le_of_ble_eq_true rfl)
          replace hA7 := hA7.off ((Off.refl [B, B1] _).setAll (b := B) List.mem_cons_self 0 [.int .i64 x, .int .i64 0, .int .i64 0, .int .i64 0, .int .i64 0, .slice p7 bt.length c7])
          generalize w5.setCells B 0 [.int .i64 x, .int .i64 0, .int .i64 0, .int .i64 0, .int .i64 0, .slice p7 bt.length c7] = wz at M hA7 ⊢
          refine wpAnyH_done (by kernel_rfl) ?_ _
          first | show Exit.then _ _ _ _ _ | show Exit.inBlock _ _ _ _ _
          have HS := show Hid _ from (And.intro hBB (And.intro M (And.intro hA7 (And.intro hc7 hn7))))
          clear M hA7 hc7 hn7
          go_wp2
          go_meet
          exact ⟨B, p7, c7, rfl, HS.out⟩
      case rest =>
        obtain ⟨B, bp, bc, rfl, hBB, M, A_0, hc0, hn0⟩ := hcut
        go_upto_region 4 with fail
        refine wp_region_list ?_
        refine readL (.pointer (some ⟨B, 0, none⟩)) rfl (by kernel_rfl) ?_
        simp only [aP, lI, l0, lS]
        refine readL (.int .i64 x) rfl (load1 3 _ ⟨B, 0, none⟩ _ rfl rfl (fun _ => by kernel_rfl) (M.get List.mem_cons_self 0 _ rfl)) ?_
        simp only [aP, lI, l0, lS]
        refine readL (.bool false) rfl (eqlI .i64 _ _ _ _ _ _ rfl rfl rfl false (by simpa using h3) _) ?_
        simp only [aP, lI, l0, lS]
        first | show Exit.then _ _ _ _ _ | show Exit.inBlock _ _ _ _ _
        have hprs : prs (x :: bt) = ⟨x, 0, 0, 0, 0, bt⟩ := by unfold prs; rw [if_neg (show ¬ bl (x :: bt) 0 = 3 from h3)]; rfl
        cases hok : pok ⟨x, 0, 0, 0, 0, bt⟩ with
        | true =>
          have hQ := show Hid _ from ps_ok (by rw [pps_good hns (by rw [hprs]; exact hok), hprs])
          go_upto_region 10 with fail
          refine wp_region_list ?_
          refine readL (.agg #[.int .i64 x, .int .i64 0, .int .i64 0, .int .i64 0, .int .i64 0, .slice bp bt.length bc]) rfl (loadN 24 _ ⟨B, 0, none⟩ [.int .i64 x, .int .i64 0, .int .i64 0, .int .i64 0, .int .i64 0, .slice bp bt.length bc] rfl rfl (fun _ => by kernel_rfl) (fun _ => by kernel_rfl) (M.rangeAt List.mem_cons_self)) ?_
          simp only [aP, lI, l0, lS]
          have hC : Calls Tryd.prog 18 #[.agg #[.int .i64 x, .int .i64 0, .int .i64 0, .int .i64 0, .int .i64 0, .slice bp bt.length bc]] wc (fun e w' => e = .returned (.bool true) ∧ Below wc.heap.size wc w') := (by rw [← hok]; exact rmay_any ⟨x, 0, 0, 0, 0, bt⟩ bp bc _)
          refine callL rfl (fun _ => by kernel_rfl) (hC) ?_
          rintro e w17 ⟨rfl, l⟩
          replace M := M.call l
          refine ⟨_, rfl, ?_⟩
          replace A_0 := A_0.off (Off.of_below l)
          clear l hC
          simp only [aP, lI, l0, lS]
          refine readL (.bool false) rfl (by kernel_rfl) ?_
          simp only [aP, lI, l0, lS]
          first | show Exit.then _ _ _ _ _ | show Exit.inBlock _ _ _ _ _
          go_upto_region 12 with fail
          refine wp_region_list ?_
          refine readL (.agg #[.int .i64 x, .int .i64 0, .int .i64 0, .int .i64 0, .int .i64 0, .slice bp bt.length bc]) rfl (loadN 24 _ ⟨B, 0, none⟩ [.int .i64 x, .int .i64 0, .int .i64 0, .int .i64 0, .int .i64 0, .slice bp bt.length bc] rfl rfl (fun _ => by kernel_rfl) (fun _ => by kernel_rfl) (M.rangeAt List.mem_cons_self)) ?_
          simp only [aP, lI, l0, lS]
          replace M := M.swap
          refine skipOpL rfl (storeP [.int .i64 x, .int .i64 0, .int .i64 0, .int .i64 0, .int .i64 0, .slice bp bt.length bc] B1 0 24 _ _ rfl rfl rfl (M.thereP List.mem_cons_self 0 6 (Nat.le_of_ble_eq_true rfl)) (by kernel_rfl) (List.all_eq_true.1 (rfl : ([.int .i64 x, .int .i64 0, .int .i64 0, .int .i64 0, .int .i64 0, .slice bp bt.length bc] : List Value).all (fun u => u.oneCell') = true))) ?_
          simp only [Act.put]
          replace M := M.setPart [.int .i64 x, .int .i64 0, .int .i64 0, .int .i64 0, .int .i64 0, .slice bp bt.length bc] 0 (Nat.le_of_ble_eq_true rfl)
          replace A_0 := A_0.off (((Off.refl [B1] _).setAll (b := B1) List.mem_cons_self 0 [.int .i64 x, .int .i64 0, .int .i64 0, .int .i64 0, .int .i64 0, .slice bp bt.length bc]).mono (fun x hx => by obtain rfl := List.mem_singleton.1 hx; simp))
          generalize w17.setCells B1 0 [.int .i64 x, .int .i64 0, .int .i64 0, .int .i64 0, .int .i64 0, .slice bp bt.length bc] = w18 at M A_0 ⊢
          replace M : Mm w ([(B1, [.int .i64 x, .int .i64 0, .int .i64 0, .int .i64 0, .int .i64 0, .slice bp bt.length bc]), (B, [.int .i64 x, .int .i64 0, .int .i64 0, .int .i64 0, .int .i64 0, .slice bp bt.length bc])]) w18 := M
          refine readL (.int .i64 0) rfl (by kernel_rfl) ?_
          simp only [aP, lI, l0, lS]
          first | show Exit.then _ _ _ _ _ | show Exit.inBlock _ _ _ _ _
          have hpv := show Hid _ from ((⟨A_0.1, hc0, hn0, show bt.length ≤ 140737488351232 by omega, hbt, i64_byte hx, show i64 0 by unfold i64; decide, show i64 0 by unfold i64; decide, show i64 0 by unfold i64; decide, show i64 0 by unfold i64; decide⟩ : PV _ ⟨x, 0, 0, 0, 0, bt⟩ bp bc))
          have c1_ := M.part List.mem_cons_self 0 (pcs ⟨x, 0, 0, 0, 0, bt⟩ bp bc) rfl
          have hM := M.below
          clear M
          go_wp2
          refine bodyPost_ret (v := .tuple #[.agg (pcs ⟨x, 0, 0, 0, 0, bt⟩ bp bc).toArray, .int .i64 0]) (retCellTmp 2 3 24 ⟨B1, 0, none⟩ (pcs ⟨x, 0, 0, 0, 0, bt⟩ bp bc) _ rfl rfl rfl (fun _ => by kernel_rfl) (fun _ => by kernel_rfl) c1_) rfl ?_
          exact ⟨⟨_, _, by rw [hQ.out.1, hQ.out.2], by rw [hQ.out.1]; exact hpv.out⟩, hM⟩
        | false =>
          have hQ := show Hid _ from ps_err (pps_bad hns (by rw [hprs]; exact hok))
          go_upto_region 10 with fail
          refine wp_region_list ?_
          refine readL (.agg #[.int .i64 x, .int .i64 0, .int .i64 0, .int .i64 0, .int .i64 0, .slice bp bt.length bc]) rfl (loadN 24 _ ⟨B, 0, none⟩ [.int .i64 x, .int .i64 0, .int .i64 0, .int .i64 0, .int .i64 0, .slice bp bt.length bc] rfl rfl (fun _ => by kernel_rfl) (fun _ => by kernel_rfl) (M.rangeAt List.mem_cons_self)) ?_
          simp only [aP, lI, l0, lS]
          have hC : Calls Tryd.prog 18 #[.agg #[.int .i64 x, .int .i64 0, .int .i64 0, .int .i64 0, .int .i64 0, .slice bp bt.length bc]] wc (fun e w' => e = .returned (.bool false) ∧ Below wc.heap.size wc w') := (by rw [← hok]; exact rmay_any ⟨x, 0, 0, 0, 0, bt⟩ bp bc _)
          refine callL rfl (fun _ => by kernel_rfl) (hC) ?_
          rintro e w19 ⟨rfl, l⟩
          replace M := M.call l
          refine ⟨_, rfl, ?_⟩
          replace A_0 := A_0.off (Off.of_below l)
          clear l hC
          simp only [aP, lI, l0, lS]
          refine readL (.bool true) rfl (by kernel_rfl) ?_
          simp only [aP, lI, l0, lS]
          first | show Exit.then _ _ _ _ _ | show Exit.inBlock _ _ _ _ _
          go_upto_region 11 with fail
          refine wp_region_list ?_
          refine readL (.agg #[.int .i64 0, .int .i64 0, .int .i64 0, .int .i64 0, .int .i64 0, .slice none 0 0]) rfl (by kernel_rfl) ?_
          simp only [aP, lI, l0, lS]
          replace M := M.swap
          refine skipOpL rfl (storeP [.int .i64 0, .int .i64 0, .int .i64 0, .int .i64 0, .int .i64 0, .slice none 0 0] B1 0 24 _ _ rfl rfl rfl (M.thereP List.mem_cons_self 0 6 (Nat.le_of_ble_eq_true rfl)) (by kernel_rfl) (List.all_eq_true.1 (rfl : ([.int .i64 0, .int .i64 0, .int .i64 0, .int .i64 0, .int .i64 0, .slice none 0 0] : List Value).all (fun u => u.oneCell') = true))) ?_
          simp only [Act.put]
          replace M := M.setPart [.int .i64 0, .int .i64 0, .int .i64 0, .int .i64 0, .int .i64 0, .slice none 0 0] 0 (Nat.le_of_ble_eq_true rfl)
          generalize w19.setCells B1 0 [.int .i64 0, .int .i64 0, .int .i64 0, .int .i64 0, .int .i64 0, .slice none 0 0] = w20 at M  ⊢
          replace M : Mm w ([(B1, [.int .i64 0, .int .i64 0, .int .i64 0, .int .i64 0, .int .i64 0, .slice none 0 0]), (B, [.int .i64 x, .int .i64 0, .int .i64 0, .int .i64 0, .int .i64 0, .slice bp bt.length bc])]) w20 := M
          refine readL (.int .i64 110) rfl (by kernel_rfl) ?_
          simp only [aP, lI, l0, lS]
          first | show Exit.then _ _ _ _ _ | show Exit.inBlock _ _ _ _ _
          have hpv := show Hid _ from (pv0 w20)
          have c1_ := M.part List.mem_cons_self 0 (pcs pk0 none 0) rfl
          have hM := M.below
          clear M
          go_wp2
          refine bodyPost_ret (v := .tuple #[.agg (pcs pk0 none 0).toArray, .int .i64 110]) (retCellTmp 2 3 24 ⟨B1, 0, none⟩ (pcs pk0 none 0) _ rfl rfl rfl (fun _ => by kernel_rfl) (fun _ => by kernel_rfl) c1_) rfl ?_
          exact ⟨⟨_, _, by rw [hQ.out.1, hQ.out.2], by rw [hQ.out.1]; exact hpv.out⟩, hM⟩
end Go.Proofs.YtbhhboiofepnhaaDoor

namespace Go.Proofs.YtbhhboiofepnhaaDoor
open Go.RowKit

theorem Mm.src {w0 w : World} {l : List (Nat × List Value)} (h : Mm w0 l w) {b : Nat} {cs : List Value} (hp : (b, cs) ∈ l) (bs : List Int) (hc : cs = bs.map (Value.int .u8)) : Src w (some ⟨b, 0, none⟩) bs.length (bl bs) := fun j hj => ⟨_, rfl, by
  rw [Addr.add_mid, Nat.zero_add]
  refine h.get hp j _ ?_
  rw [hc, List.getElem?_map, List.getElem?_eq_getElem hj]
  show some (Value.int .u8 bs[j]) = _
  unfold bl
  rw [List.getD_eq_getElem?_getD, List.getElem?_eq_getElem hj]
  rfl⟩
theorem Mm.srcRow {w0 w : World} {l : List (Nat × List Value)} (h : Mm w0 l w) {b : Nat} {cs : List Value} (hp : (b, cs) ∈ l) (o n : Nat) (f : Nat → Int) (hd : (cs.drop o).take (row .u8 n f).length = row .u8 n f) : Src w (some ⟨b, o, none⟩) n f := fun j hj => ⟨_, rfl, h.part hp o _ hd j _ (row_get .u8 n f j hj)⟩
end Go.Proofs.YtbhhboiofepnhaaDoor

namespace Go.Proofs.YtbhhboiofepnhaaDoor
open Go.RowKit

section
variable {P : Program} {ops : Array Oper} {Q : Exit → Act → World → Prop} {md : Region.Mode}
theorem wpAnyH_more {S S' : World → Prop} (h : ∀ w, S' w → S w) : ∀ (n : Nat) (l : Array Bool) (a : Act) (w : World), wpAnyH P md ops Q S' n l a w → wpAnyH P md ops Q S n l a w
  | 0, _, _, _, H => H
  | n + 1, _, _, _, H => ⟨H.1, fun j hj => wpOp_mono (fun a' w' h3 => ⟨h w' h3.1, wpAnyH_more h n _ a' w' h3.2⟩) (H.2 j hj)⟩
end
end Go.Proofs.YtbhhboiofepnhaaDoor

namespace Go.Proofs.YtbhhboiofepnhaaDoor
open Go.RowKit

theorem PV.off1 {w w' : World} {p : Pkt} {bp : Option Addr} {bc b : Nat} (h : PV w p bp bc) (o : Off [b] w w') (hb : ∀ ad, bp = some ad → 0 < p.body.length → ad.block ≠ b) : PV w' p bp bc :=
  { h with src := (SrcA.off ⟨h.src, fun ad e hn hm => hb ad e hn (List.mem_singleton.1 hm)⟩ o).1 }
def rec0 : Pkt := ⟨3, 1, 2, 3, 4, [0, 0, 0, 0, 0, 0, 0, 0, 0, 0, 0, 0, 0, 0, 0, 0]⟩

set_option maxRecDepth 10000 in
set_option maxHeartbeats 32000000 in
theorem shown11 (hP : PrintOK) (hD : ParseOK) (hH : HeadOK) (hN : NonceOK) (w : World) (hg : PG w) : Calls Tryd.prog 8 #[] w fun e w' => e = .returned (.bool true) ∧ Below w.heap.size w w' := by
  have M := Mm.init w
  go_enter Tryd.func8, Tryd.ntmps8
  go_upto_region 0 with fail
  refine wp_region_list ?_
  refine readL (.bool false) rfl (by kernel_rfl) ?_
  simp only [aP, lI, l0]
  first | show Exit.then _ _ _ _ _ | show Exit.inBlock _ _ _ _ _
  go_upto_region 1 with fail
  refine wp_region_list ?_
  refine actL (w' := w.alloc (.cells #[.int .u8 0, .int .u8 0, .int .u8 0, .int .u8 0, .int .u8 0, .int .u8 0, .int .u8 0, .int .u8 0, .int .u8 0, .int .u8 0, .int .u8 0, .int .u8 0, .int .u8 0, .int .u8 0, .int .u8 0, .int .u8 0] 5)) (.slice (some ⟨w.heap.size, 0, none⟩) 16 16) rfl (by kernel_rfl) ?_
  simp only [aP, lI, l0, lS]
  replace M := M.box #[.int .u8 0, .int .u8 0, .int .u8 0, .int .u8 0, .int .u8 0, .int .u8 0, .int .u8 0, .int .u8 0, .int .u8 0, .int .u8 0, .int .u8 0, .int .u8 0, .int .u8 0, .int .u8 0, .int .u8 0, .int .u8 0] 5 w.heap.size rfl
  generalize w.alloc (.cells #[.int .u8 0, .int .u8 0, .int .u8 0, .int .u8 0, .int .u8 0, .int .u8 0, .int .u8 0, .int .u8 0, .int .u8 0, .int .u8 0, .int .u8 0, .int .u8 0, .int .u8 0, .int .u8 0, .int .u8 0, .int .u8 0] 5) = w1 at M  ⊢
  generalize w.heap.size = B1 at *
  replace M : Mm w [(B1, [.int .u8 0, .int .u8 0, .int .u8 0, .int .u8 0, .int .u8 0, .int .u8 0, .int .u8 0, .int .u8 0, .int .u8 0, .int .u8 0, .int .u8 0, .int .u8 0, .int .u8 0, .int .u8 0, .int .u8 0, .int .u8 0])] w1 := M
  refine readL (.agg #[.int .i64 3, .int .i64 1, .int .i64 2, .int .i64 3, .int .i64 4, .slice (some ⟨B1, 0, none⟩) 16 16]) rfl (by kernel_rfl) ?_
  simp only [aP, lI, l0, lS]
  refine actL (w' := w1.alloc (.cells #[.int .i64 0, .int .i64 0, .int .i64 0, .int .i64 0, .int .i64 0, .slice none 0 0] 24)) (.pointer (some ⟨w1.heap.size, 0, none⟩)) rfl (by kernel_rfl) ?_
  simp only [aP, lI, l0, lS]
  have hB_B2 : w.heap.size ≤ w1.heap.size := M.below.size
  replace M := M.box #[.int .i64 0, .int .i64 0, .int .i64 0, .int .i64 0, .int .i64 0, .slice none 0 0] 24 w1.heap.size rfl
  generalize w1.alloc (.cells #[.int .i64 0, .int .i64 0, .int .i64 0, .int .i64 0, .int .i64 0, .slice none 0 0] 24) = w2 at M  ⊢
  generalize eB : w1.heap.size = B2 at M hB_B2  ⊢
  have hE_B2 : w1.heap.size ≤ B2 := Nat.le_of_eq eB
  have hF_B2 : B2 ≤ w1.heap.size := Nat.le_of_eq eB.symm
  clear eB
  replace M : Mm w ([(B2, [.int .i64 0, .int .i64 0, .int .i64 0, .int .i64 0, .int .i64 0, .slice none 0 0]), (B1, [.int .u8 0, .int .u8 0, .int .u8 0, .int .u8 0, .int .u8 0, .int .u8 0, .int .u8 0, .int .u8 0, .int .u8 0, .int .u8 0, .int .u8 0, .int .u8 0, .int .u8 0, .int .u8 0, .int .u8 0, .int .u8 0])]) w2 := M
  refine skipOpL rfl (storeP [.int .i64 3, .int .i64 1, .int .i64 2, .int .i64 3, .int .i64 4, .slice (some ⟨B1, 0, none⟩) 16 16] B2 0 24 _ _ rfl rfl rfl (M.thereP List.mem_cons_self 0 6 (Nat.le_of_ble_eq_true rfl)) (by kernel_rfl) (List.all_eq_true.1 (rfl : ([.int .i64 3, .int .i64 1, .int .i64 2, .int .i64 3, .int .i64 4, .slice (some ⟨B1, 0, none⟩) 16 16] : List Value).all (fun u => u.oneCell') = true))) ?_
  simp only [Act.put]
  replace M := M.setPart [.int .i64 3, .int .i64 1, .int .i64 2, .int .i64 3, .int .i64 4, .slice (some ⟨B1, 0, none⟩) 16 16] 0 (Nat.le_of_ble_eq_true rfl)
  generalize w2.setCells B2 0 [.int .i64 3, .int .i64 1, .int .i64 2, .int .i64 3, .int .i64 4, .slice (some ⟨B1, 0, none⟩) 16 16] = w3 at M  ⊢
  replace M : Mm w ([(B2, [.int .i64 3, .int .i64 1, .int .i64 2, .int .i64 3, .int .i64 4, .slice (some ⟨B1, 0, none⟩) 16 16]), (B1, [.int .u8 0, .int .u8 0, .int .u8 0, .int .u8 0, .int .u8 0, .int .u8 0, .int .u8 0, .int .u8 0, .int .u8 0, .int .u8 0, .int .u8 0, .int .u8 0, .int .u8 0, .int .u8 0, .int .u8 0, .int .u8 0])]) w3 := M
  first | show Exit.then _ _ _ _ _ | show Exit.inBlock _ _ _ _ _
  go_upto_region 2 with fail
  refine wp_region_list ?_
  refine readL (.agg #[.int .i64 3, .int .i64 1, .int .i64 2, .int .i64 3, .int .i64 4, .slice (some ⟨B1, 0, none⟩) 16 16]) rfl (loadN 24 _ ⟨B2, 0, none⟩ [.int .i64 3, .int .i64 1, .int .i64 2, .int .i64 3, .int .i64 4, .slice (some ⟨B1, 0, none⟩) 16 16] rfl rfl (fun _ => by kernel_rfl) (fun _ => by kernel_rfl) (M.rangeAt List.mem_cons_self)) ?_
  simp only [aP, lI, l0, lS]
  refine callL rfl (fun _ => by kernel_rfl) (hP rec0 (some ⟨B1, 0, none⟩) 16 _ (hg.mm M) (⟨M.src (List.mem_cons_of_mem _ List.mem_cons_self) rec0.body rfl, Nat.le_refl _, fun e => (by cases e), show (16 : Nat) ≤ 140737488351232 by decide, show Byts rec0.body by intro x hx; unfold rec0 at hx; simp at hx; omega, show i64 3 by unfold i64; decide, show i64 1 by unfold i64; decide, show i64 2 by unfold i64; decide, show i64 3 by unfold i64; decide, show i64 4 by unfold i64; decide⟩ : PV _ rec0 (some ⟨B1, 0, none⟩) 16)) ?_
  rintro e w4 ⟨⟨v4, rfl, O_4⟩, l⟩
  replace M := M.call l
  clear l
  rw [show pL rec0 = [3, 1, 2, 0, 3, 0, 0, 0, 0, 0, 4, 0, 0, 0, 0, 0, 0, 0, 0, 0, 0, 0, 0, 0, 0, 0, 0] from by kernel_rfl] at O_4
  rw [show pE rec0 = 0 from by kernel_rfl]
  obtain ⟨p4, c4, rfl, _, _⟩ := O_4.bytes
  refine ⟨_, rfl, ?_⟩
  simp only [aP, lI, l0, lS]
  refine readL (.tuple #[.slice p4 (([3, 1, 2, 0, 3, 0, 0, 0, 0, 0, 4, 0, 0, 0, 0, 0, 0, 0, 0, 0, 0, 0, 0, 0, 0, 0, 0]).length) c4, .int .i64 0]) rfl (by kernel_rfl) ?_
  simp only [aP, lI, l0, lS]
  refine readL (.slice p4 (([3, 1, 2, 0, 3, 0, 0, 0, 0, 0, 4, 0, 0, 0, 0, 0, 0, 0, 0, 0, 0, 0, 0, 0, 0, 0, 0]).length) c4) rfl (by kernel_rfl) ?_
  simp only [aP, lI, l0, lS]
  refine readL (.int .i64 0) rfl (by kernel_rfl) ?_
  simp only [aP, lI, l0, lS]
  refine readL (.slice p4 (([3, 1, 2, 0, 3, 0, 0, 0, 0, 0, 4, 0, 0, 0, 0, 0, 0, 0, 0, 0, 0, 0, 0, 0, 0, 0, 0]).length) c4) rfl (by kernel_rfl) ?_
  simp only [aP, lI, l0, lS]
  refine readL (.int .i64 0) rfl (by kernel_rfl) ?_
  simp only [aP, lI, l0, lS]
  first | show Exit.then _ _ _ _ _ | show Exit.inBlock _ _ _ _ _
  go_upto_region 3 with fail
  refine wp_region_list ?_
  refine callL rfl (fun _ => by kernel_rfl) (hD none 0 ([]) _ (hg.mm M) (by decide) (by decide) (fun _ => rfl) (fun x hx => by cases hx) (fun j hj => absurd hj (Nat.not_lt_zero j))) ?_
  rintro e w5 ⟨⟨bp5, bc5, rfl, F_5⟩, l⟩
  replace M := M.call l
  replace O_4 := O_4.below l
  clear l
  rw [show psP ([]) = pk0 from by kernel_rfl] at F_5
  rw [show psP ([]) = pk0 from by kernel_rfl, show psE ([]) = 3 from by kernel_rfl]
  unfold pcs
  refine ⟨_, rfl, ?_⟩
  simp only [aP, lI, l0, lS]
  refine readL (.tuple #[.agg #[.int .i64 pk0.kind, .int .i64 pk0.role, .int .i64 pk0.path, .int .i64 pk0.epo, .int .i64 pk0.ctr, .slice bp5 pk0.body.length bc5], .int .i64 3]) rfl (by kernel_rfl) ?_
  simp only [aP, lI, l0, lS]
  refine readL (.agg #[.int .i64 pk0.kind, .int .i64 pk0.role, .int .i64 pk0.path, .int .i64 pk0.epo, .int .i64 pk0.ctr, .slice bp5 pk0.body.length bc5]) rfl (by kernel_rfl) ?_
  simp only [aP, lI, l0, lS]
  refine readL (.int .i64 3) rfl (by kernel_rfl) ?_
  simp only [aP, lI, l0, lS]
  have hnew := Below.refl w5.heap.size w5
  have hnz := Nat.le_refl w5.heap.size
  refine actL (w' := w5.alloc (.cells #[.int .i64 0, .int .i64 0, .int .i64 0, .int .i64 0, .int .i64 0, .slice none 0 0] 24)) (.pointer (some ⟨w5.heap.size, 0, none⟩)) rfl (by kernel_rfl) ?_
  simp only [aP, lI, l0, lS]
  have hlb := (Below.refl w5.heap.size w5).alloc (Nat.le_refl _) (.cells #[.int .i64 0, .int .i64 0, .int .i64 0, .int .i64 0, .int .i64 0, .slice none 0 0] 24)
  replace hnew := hnew.trans (hlb.mono hnew.size)
  clear hlb
  have hB_B6 : w.heap.size ≤ w5.heap.size := M.below.size
  replace M := M.box #[.int .i64 0, .int .i64 0, .int .i64 0, .int .i64 0, .int .i64 0, .slice none 0 0] 24 w5.heap.size rfl
  generalize w5.alloc (.cells #[.int .i64 0, .int .i64 0, .int .i64 0, .int .i64 0, .int .i64 0, .slice none 0 0] 24) = w6 at M hnew ⊢
  generalize eB : w5.heap.size = B6 at M hB_B6  ⊢
  have hE_B6 : w5.heap.size ≤ B6 := Nat.le_of_eq eB
  have hF_B6 : B6 ≤ w5.heap.size := Nat.le_of_eq eB.symm
  clear eB
  replace M : Mm w ([(B6, [.int .i64 0, .int .i64 0, .int .i64 0, .int .i64 0, .int .i64 0, .slice none 0 0]), (B2, [.int .i64 3, .int .i64 1, .int .i64 2, .int .i64 3, .int .i64 4, .slice (some ⟨B1, 0, none⟩) 16 16]), (B1, [.int .u8 0, .int .u8 0, .int .u8 0, .int .u8 0, .int .u8 0, .int .u8 0, .int .u8 0, .int .u8 0, .int .u8 0, .int .u8 0, .int .u8 0, .int .u8 0, .int .u8 0, .int .u8 0, .int .u8 0, .int .u8 0])]) w6 := M
  refine skipOpL rfl (storeP [.int .i64 pk0.kind, .int .i64 pk0.role, .int .i64 pk0.path, .int .i64 pk0.epo, .int .i64 pk0.ctr, .slice bp5 pk0.body.length bc5] B6 0 24 _ _ rfl rfl rfl (M.thereP List.mem_cons_self 0 6 (Nat.le_of_ble_eq_true rfl)) (by kernel_rfl) (List.all_eq_true.1 (rfl : ([.int .i64 pk0.kind, .int .i64 pk0.role, .int .i64 pk0.path, .int .i64 pk0.epo, .int .i64 pk0.ctr, .slice bp5 pk0.body.length bc5] : List Value).all (fun u => u.oneCell') = true))) ?_
  simp only [Act.put]
  replace M := M.setPart [.int .i64 pk0.kind, .int .i64 pk0.role, .int .i64 pk0.path, .int .i64 pk0.epo, .int .i64 pk0.ctr, .slice bp5 pk0.body.length bc5] 0 (Nat.le_of_ble_eq_true rfl)
  replace hnew := below_setAll hnew B6 (by have := hnew.size; omega) 0 [.int .i64 pk0.kind, .int .i64 pk0.role, .int .i64 pk0.path, .int .i64 pk0.epo, .int .i64 pk0.ctr, .slice bp5 pk0.body.length bc5]
  generalize w6.setCells B6 0 [.int .i64 pk0.kind, .int .i64 pk0.role, .int .i64 pk0.path, .int .i64 pk0.epo, .int .i64 pk0.ctr, .slice bp5 pk0.body.length bc5] = w7 at M hnew ⊢
  replace M : Mm w ([(B6, [.int .i64 pk0.kind, .int .i64 pk0.role, .int .i64 pk0.path, .int .i64 pk0.epo, .int .i64 pk0.ctr, .slice bp5 pk0.body.length bc5]), (B2, [.int .i64 3, .int .i64 1, .int .i64 2, .int .i64 3, .int .i64 4, .slice (some ⟨B1, 0, none⟩) 16 16]), (B1, [.int .u8 0, .int .u8 0, .int .u8 0, .int .u8 0, .int .u8 0, .int .u8 0, .int .u8 0, .int .u8 0, .int .u8 0, .int .u8 0, .int .u8 0, .int .u8 0, .int .u8 0, .int .u8 0, .int .u8 0, .int .u8 0])]) w7 := M
  refine readL (.int .i64 3) rfl (by kernel_rfl) ?_
  simp only [aP, lI, l0, lS]
  first | show Exit.then _ _ _ _ _ | show Exit.inBlock _ _ _ _ _
  replace O_4 := O_4.below hnew
  replace F_5 := F_5.below hnew (Nat.le_refl _)
  clear hnew hnz
  go_upto_region 4 with fail
  refine wp_region_list ?_
  refine actL (w' := w7.alloc (.cells #[.int .u8 1] 5)) (.slice (some ⟨w7.heap.size, 0, none⟩) 1 1) rfl (by kernel_rfl) ?_
  simp only [aP, lI, l0, lS]
  have hlb := (Below.refl w7.heap.size w7).alloc (Nat.le_refl _) (.cells #[.int .u8 1] 5)
  replace O_4 := O_4.below hlb
  replace F_5 := F_5.below hlb (Nat.le_refl _)
  clear hlb
  replace M := M.box #[.int .u8 1] 5 w7.heap.size rfl
  generalize w7.alloc (.cells #[.int .u8 1] 5) = w8 at M O_4 F_5 ⊢
  generalize w7.heap.size = B8 at *
  replace M : Mm w [(B8, [.int .u8 1]), (B6, [.int .i64 pk0.kind, .int .i64 pk0.role, .int .i64 pk0.path, .int .i64 pk0.epo, .int .i64 pk0.ctr, .slice bp5 pk0.body.length bc5]), (B2, [.int .i64 3, .int .i64 1, .int .i64 2, .int .i64 3, .int .i64 4, .slice (some ⟨B1, 0, none⟩) 16 16]), (B1, [.int .u8 0, .int .u8 0, .int .u8 0, .int .u8 0, .int .u8 0, .int .u8 0, .int .u8 0, .int .u8 0, .int .u8 0, .int .u8 0, .int .u8 0, .int .u8 0, .int .u8 0, .int .u8 0, .int .u8 0, .int .u8 0])] w8 := M
  refine callL rfl (fun _ => by kernel_rfl) (hD (some ⟨B8, 0, none⟩) 1 ([1]) _ (hg.mm M) (by decide) (by decide) (fun e => by cases e) (by intro x hx; simp at hx; omega) (M.src List.mem_cons_self [1] rfl)) ?_
  rintro e w9 ⟨⟨bp9, bc9, rfl, F_9⟩, l⟩
  replace M := M.call l
  replace O_4 := O_4.below l
  replace F_5 := F_5.below l (Nat.le_refl _)
  clear l
  rw [show psP ([1]) = pk0 from by kernel_rfl] at F_9
  rw [show psP ([1]) = pk0 from by kernel_rfl, show psE ([1]) = 110 from by kernel_rfl]
  unfold pcs
  refine ⟨_, rfl, ?_⟩
  simp only [aP, lI, l0, lS]
  refine readL (.tuple #[.agg #[.int .i64 pk0.kind, .int .i64 pk0.role, .int .i64 pk0.path, .int .i64 pk0.epo, .int .i64 pk0.ctr, .slice bp9 pk0.body.length bc9], .int .i64 110]) rfl (by kernel_rfl) ?_
  simp only [aP, lI, l0, lS]
  refine readL (.agg #[.int .i64 pk0.kind, .int .i64 pk0.role, .int .i64 pk0.path, .int .i64 pk0.epo, .int .i64 pk0.ctr, .slice bp9 pk0.body.length bc9]) rfl (by kernel_rfl) ?_
  simp only [aP, lI, l0, lS]
  refine readL (.int .i64 110) rfl (by kernel_rfl) ?_
  simp only [aP, lI, l0, lS]
  have hnew := Below.refl w9.heap.size w9
  have hnz := Nat.le_refl w9.heap.size
  refine actL (w' := w9.alloc (.cells #[.int .i64 0, .int .i64 0, .int .i64 0, .int .i64 0, .int .i64 0, .slice none 0 0] 24)) (.pointer (some ⟨w9.heap.size, 0, none⟩)) rfl (by kernel_rfl) ?_
  simp only [aP, lI, l0, lS]
  have hlb := (Below.refl w9.heap.size w9).alloc (Nat.le_refl _) (.cells #[.int .i64 0, .int .i64 0, .int .i64 0, .int .i64 0, .int .i64 0, .slice none 0 0] 24)
  replace hnew := hnew.trans (hlb.mono hnew.size)
  clear hlb
  have hB_B10 : w.heap.size ≤ w9.heap.size := M.below.size
  replace M := M.box #[.int .i64 0, .int .i64 0, .int .i64 0, .int .i64 0, .int .i64 0, .slice none 0 0] 24 w9.heap.size rfl
  generalize w9.alloc (.cells #[.int .i64 0, .int .i64 0, .int .i64 0, .int .i64 0, .int .i64 0, .slice none 0 0] 24) = w10 at M hnew ⊢
  generalize eB : w9.heap.size = B10 at M hB_B10  ⊢
  have hE_B10 : w9.heap.size ≤ B10 := Nat.le_of_eq eB
  have hF_B10 : B10 ≤ w9.heap.size := Nat.le_of_eq eB.symm
  clear eB
  replace M : Mm w ([(B10, [.int .i64 0, .int .i64 0, .int .i64 0, .int .i64 0, .int .i64 0, .slice none 0 0]), (B8, [.int .u8 1]), (B6, [.int .i64 pk0.kind, .int .i64 pk0.role, .int .i64 pk0.path, .int .i64 pk0.epo, .int .i64 pk0.ctr, .slice bp5 pk0.body.length bc5]), (B2, [.int .i64 3, .int .i64 1, .int .i64 2, .int .i64 3, .int .i64 4, .slice (some ⟨B1, 0, none⟩) 16 16]), (B1, [.int .u8 0, .int .u8 0, .int .u8 0, .int .u8 0, .int .u8 0, .int .u8 0, .int .u8 0, .int .u8 0, .int .u8 0, .int .u8 0, .int .u8 0, .int .u8 0, .int .u8 0, .int .u8 0, .int .u8 0, .int .u8 0])]) w10 := M
  refine skipOpL rfl (storeP [.int .i64 pk0.kind, .int .i64 pk0.role, .int .i64 pk0.path, .int .i64 pk0.epo, .int .i64 pk0.ctr, .slice bp9 pk0.body.length bc9] B10 0 24 _ _ rfl rfl rfl (M.thereP List.mem_cons_self 0 6 (Nat.le_of_ble_eq_true rfl)) (by kernel_rfl) (List.all_eq_true.1 (rfl : ([.int .i64 pk0.kind, .int .i64 pk0.role, .int .i64 pk0.path, .int .i64 pk0.epo, .int .i64 pk0.ctr, .slice bp9 pk0.body.length bc9] : List Value).all (fun u => u.oneCell') = true))) ?_
  simp only [Act.put]
  replace M := M.setPart [.int .i64 pk0.kind, .int .i64 pk0.role, .int .i64 pk0.path, .int .i64 pk0.epo, .int .i64 pk0.ctr, .slice bp9 pk0.body.length bc9] 0 (Nat.le_of_ble_eq_true rfl)
  replace hnew := below_setAll hnew B10 (by have := hnew.size; omega) 0 [.int .i64 pk0.kind, .int .i64 pk0.role, .int .i64 pk0.path, .int .i64 pk0.epo, .int .i64 pk0.ctr, .slice bp9 pk0.body.length bc9]
  generalize w10.setCells B10 0 [.int .i64 pk0.kind, .int .i64 pk0.role, .int .i64 pk0.path, .int .i64 pk0.epo, .int .i64 pk0.ctr, .slice bp9 pk0.body.length bc9] = w11 at M hnew ⊢
  replace M : Mm w ([(B10, [.int .i64 pk0.kind, .int .i64 pk0.role, .int .i64 pk0.path, .int .i64 pk0.epo, .int .i64 pk0.ctr, .slice bp9 pk0.body.length bc9]), (B8, [.int .u8 1]), (B6, [.int .i64 pk0.kind, .int .i64 pk0.role, .int .i64 pk0.path, .int .i64 pk0.epo, .int .i64 pk0.ctr, .slice bp5 pk0.body.length bc5]), (B2, [.int .i64 3, .int .i64 1, .int .i64 2, .int .i64 3, .int .i64 4, .slice (some ⟨B1, 0, none⟩) 16 16]), (B1, [.int .u8 0, .int .u8 0, .int .u8 0, .int .u8 0, .int .u8 0, .int .u8 0, .int .u8 0, .int .u8 0, .int .u8 0, .int .u8 0, .int .u8 0, .int .u8 0, .int .u8 0, .int .u8 0, .int .u8 0, .int .u8 0])]) w11 := M
  refine readL (.int .i64 110) rfl (by kernel_rfl) ?_
  simp only [aP, lI, l0, lS]
  first | show Exit.then _ _ _ _ _ | show Exit.inBlock _ _ _ _ _
  replace O_4 := O_4.below hnew
  replace F_5 := F_5.below hnew (Nat.le_refl _)
  replace F_9 := F_9.below hnew (Nat.le_refl _)
  clear hnew hnz
  go_upto_region 5 with fail
  refine wp_region_list ?_
  refine actL (w' := w11.alloc (.cells #[.int .u8 3, .int .u8 0] 5)) (.slice (some ⟨w11.heap.size, 0, none⟩) 2 2) rfl (by kernel_rfl) ?_
  simp only [aP, lI, l0, lS]
  have hlb := (Below.refl w11.heap.size w11).alloc (Nat.le_refl _) (.cells #[.int .u8 3, .int .u8 0] 5)
  replace O_4 := O_4.below hlb
  replace F_5 := F_5.below hlb (Nat.le_refl _)
  replace F_9 := F_9.below hlb (Nat.le_refl _)
  clear hlb
  replace M := M.box #[.int .u8 3, .int .u8 0] 5 w11.heap.size rfl
  generalize w11.alloc (.cells #[.int .u8 3, .int .u8 0] 5) = w12 at M O_4 F_5 F_9 ⊢
  generalize w11.heap.size = B12 at *
  replace M : Mm w [(B12, [.int .u8 3, .int .u8 0]), (B10, [.int .i64 pk0.kind, .int .i64 pk0.role, .int .i64 pk0.path, .int .i64 pk0.epo, .int .i64 pk0.ctr, .slice bp9 pk0.body.length bc9]), (B8, [.int .u8 1]), (B6, [.int .i64 pk0.kind, .int .i64 pk0.role, .int .i64 pk0.path, .int .i64 pk0.epo, .int .i64 pk0.ctr, .slice bp5 pk0.body.length bc5]), (B2, [.int .i64 3, .int .i64 1, .int .i64 2, .int .i64 3, .int .i64 4, .slice (some ⟨B1, 0, none⟩) 16 16]), (B1, [.int .u8 0, .int .u8 0, .int .u8 0, .int .u8 0, .int .u8 0, .int .u8 0, .int .u8 0, .int .u8 0, .int .u8 0, .int .u8 0, .int .u8 0, .int .u8 0, .int .u8 0, .int .u8 0, .int .u8 0, .int .u8 0])] w12 := M
  refine callL rfl (fun _ => by kernel_rfl) (hD (some ⟨B12, 0, none⟩) 2 ([3, 0]) _ (hg.mm M) (by decide) (by decide) (fun e => by cases e) (by intro x hx; simp at hx; omega) (M.src List.mem_cons_self [3, 0] rfl)) ?_
  rintro e w13 ⟨⟨bp13, bc13, rfl, F_13⟩, l⟩
  replace M := M.call l
  replace O_4 := O_4.below l
  replace F_5 := F_5.below l (Nat.le_refl _)
  replace F_9 := F_9.below l (Nat.le_refl _)
  clear l
  rw [show psP ([3, 0]) = pk0 from by kernel_rfl] at F_13
  rw [show psP ([3, 0]) = pk0 from by kernel_rfl, show psE ([3, 0]) = 3 from by kernel_rfl]
  unfold pcs
  refine ⟨_, rfl, ?_⟩
  simp only [aP, lI, l0, lS]
  refine readL (.tuple #[.agg #[.int .i64 pk0.kind, .int .i64 pk0.role, .int .i64 pk0.path, .int .i64 pk0.epo, .int .i64 pk0.ctr, .slice bp13 pk0.body.length bc13], .int .i64 3]) rfl (by kernel_rfl) ?_
  simp only [aP, lI, l0, lS]
  refine readL (.agg #[.int .i64 pk0.kind, .int .i64 pk0.role, .int .i64 pk0.path, .int .i64 pk0.epo, .int .i64 pk0.ctr, .slice bp13 pk0.body.length bc13]) rfl (by kernel_rfl) ?_
  simp only [aP, lI, l0, lS]
  refine readL (.int .i64 3) rfl (by kernel_rfl) ?_
  simp only [aP, lI, l0, lS]
  have hnew := Below.refl w13.heap.size w13
  have hnz := Nat.le_refl w13.heap.size
  refine actL (w' := w13.alloc (.cells #[.int .i64 0, .int .i64 0, .int .i64 0, .int .i64 0, .int .i64 0, .slice none 0 0] 24)) (.pointer (some ⟨w13.heap.size, 0, none⟩)) rfl (by kernel_rfl) ?_
  simp only [aP, lI, l0, lS]
  have hlb := (Below.refl w13.heap.size w13).alloc (Nat.le_refl _) (.cells #[.int .i64 0, .int .i64 0, .int .i64 0, .int .i64 0, .int .i64 0, .slice none 0 0] 24)
  replace hnew := hnew.trans (hlb.mono hnew.size)
  clear hlb
  have hB_B14 : w.heap.size ≤ w13.heap.size := M.below.size
  replace M := M.box #[.int .i64 0, .int .i64 0, .int .i64 0, .int .i64 0, .int .i64 0, .slice none 0 0] 24 w13.heap.size rfl
  generalize w13.alloc (.cells #[.int .i64 0, .int .i64 0, .int .i64 0, .int .i64 0, .int .i64 0, .slice none 0 0] 24) = w14 at M hnew ⊢
  generalize eB : w13.heap.size = B14 at M hB_B14  ⊢
  have hE_B14 : w13.heap.size ≤ B14 := Nat.le_of_eq eB
  have hF_B14 : B14 ≤ w13.heap.size := Nat.le_of_eq eB.symm
  clear eB
  replace M : Mm w ([(B14, [.int .i64 0, .int .i64 0, .int .i64 0, .int .i64 0, .int .i64 0, .slice none 0 0]), (B12, [.int .u8 3, .int .u8 0]), (B10, [.int .i64 pk0.kind, .int .i64 pk0.role, .int .i64 pk0.path, .int .i64 pk0.epo, .int .i64 pk0.ctr, .slice bp9 pk0.body.length bc9]), (B8, [.int .u8 1]), (B6, [.int .i64 pk0.kind, .int .i64 pk0.role, .int .i64 pk0.path, .int .i64 pk0.epo, .int .i64 pk0.ctr, .slice bp5 pk0.body.length bc5]), (B2, [.int .i64 3, .int .i64 1, .int .i64 2, .int .i64 3, .int .i64 4, .slice (some ⟨B1, 0, none⟩) 16 16]), (B1, [.int .u8 0, .int .u8 0, .int .u8 0, .int .u8 0, .int .u8 0, .int .u8 0, .int .u8 0, .int .u8 0, .int .u8 0, .int .u8 0, .int .u8 0, .int .u8 0, .int .u8 0, .int .u8 0, .int .u8 0, .int .u8 0])]) w14 := M
  refine skipOpL rfl (storeP [.int .i64 pk0.kind, .int .i64 pk0.role, .int .i64 pk0.path, .int .i64 pk0.epo, .int .i64 pk0.ctr, .slice bp13 pk0.body.length bc13] B14 0 24 _ _ rfl rfl rfl (M.thereP List.mem_cons_self 0 6 (Nat.le_of_ble_eq_true rfl)) (by kernel_rfl) (List.all_eq_true.1 (rfl : ([.int .i64 pk0.kind, .int .i64 pk0.role, .int .i64 pk0.path, .int .i64 pk0.epo, .int .i64 pk0.ctr, .slice bp13 pk0.body.length bc13] : List Value).all (fun u => u.oneCell') = true))) ?_
  simp only [Act.put]
  replace M := M.setPart [.int .i64 pk0.kind, .int .i64 pk0.role, .int .i64 pk0.path, .int .i64 pk0.epo, .int .i64 pk0.ctr, .slice bp13 pk0.body.length bc13] 0 (Nat.le_of_ble_eq_true rfl)
  replace hnew := below_setAll hnew B14 (by have := hnew.size; omega) 0 [.int .i64 pk0.kind, .int .i64 pk0.role, .int .i64 pk0.path, .int .i64 pk0.epo, .int .i64 pk0.ctr, .slice bp13 pk0.body.length bc13]
  generalize w14.setCells B14 0 [.int .i64 pk0.kind, .int .i64 pk0.role, .int .i64 pk0.path, .int .i64 pk0.epo, .int .i64 pk0.ctr, .slice bp13 pk0.body.length bc13] = w15 at M hnew ⊢
  replace M : Mm w ([(B14, [.int .i64 pk0.kind, .int .i64 pk0.role, .int .i64 pk0.path, .int .i64 pk0.epo, .int .i64 pk0.ctr, .slice bp13 pk0.body.length bc13]), (B12, [.int .u8 3, .int .u8 0]), (B10, [.int .i64 pk0.kind, .int .i64 pk0.role, .int .i64 pk0.path, .int .i64 pk0.epo, .int .i64 pk0.ctr, .slice bp9 pk0.body.length bc9]), (B8, [.int .u8 1]), (B6, [.int .i64 pk0.kind, .int .i64 pk0.role, .int .i64 pk0.path, .int .i64 pk0.epo, .int .i64 pk0.ctr, .slice bp5 pk0.body.length bc5]), (B2, [.int .i64 3, .int .i64 1, .int .i64 2, .int .i64 3, .int .i64 4, .slice (some ⟨B1, 0, none⟩) 16 16]), (B1, [.int .u8 0, .int .u8 0, .int .u8 0, .int .u8 0, .int .u8 0, .int .u8 0, .int .u8 0, .int .u8 0, .int .u8 0, .int .u8 0, .int .u8 0, .int .u8 0, .int .u8 0, .int .u8 0, .int .u8 0, .int .u8 0])]) w15 := M
  refine readL (.int .i64 3) rfl (by kernel_rfl) ?_
  simp only [aP, lI, l0, lS]
  first | show Exit.then _ _ _ _ _ | show Exit.inBlock _ _ _ _ _
  replace O_4 := O_4.below hnew
  replace F_5 := F_5.below hnew (Nat.le_refl _)
  replace F_9 := F_9.below hnew (Nat.le_refl _)
  replace F_13 := F_13.below hnew (Nat.le_refl _)
  clear hnew hnz
  go_upto_region 6 with fail
  refine wp_region_list ?_
  refine actL (w' := w15.alloc (.cells #[.int .u8 4, .int .u8 0] 5)) (.slice (some ⟨w15.heap.size, 0, none⟩) 2 2) rfl (by kernel_rfl) ?_
  simp only [aP, lI, l0, lS]
  have hlb := (Below.refl w15.heap.size w15).alloc (Nat.le_refl _) (.cells #[.int .u8 4, .int .u8 0] 5)
  replace O_4 := O_4.below hlb
  replace F_5 := F_5.below hlb (Nat.le_refl _)
  replace F_9 := F_9.below hlb (Nat.le_refl _)
  replace F_13 := F_13.below hlb (Nat.le_refl _)
  clear hlb
  replace M := M.box #[.int .u8 4, .int .u8 0] 5 w15.heap.size rfl
  generalize w15.alloc (.cells #[.int .u8 4, .int .u8 0] 5) = w16 at M O_4 F_5 F_9 F_13 ⊢
  generalize w15.heap.size = B16 at *
  replace M : Mm w [(B16, [.int .u8 4, .int .u8 0]), (B14, [.int .i64 pk0.kind, .int .i64 pk0.role, .int .i64 pk0.path, .int .i64 pk0.epo, .int .i64 pk0.ctr, .slice bp13 pk0.body.length bc13]), (B12, [.int .u8 3, .int .u8 0]), (B10, [.int .i64 pk0.kind, .int .i64 pk0.role, .int .i64 pk0.path, .int .i64 pk0.epo, .int .i64 pk0.ctr, .slice bp9 pk0.body.length bc9]), (B8, [.int .u8 1]), (B6, [.int .i64 pk0.kind, .int .i64 pk0.role, .int .i64 pk0.path, .int .i64 pk0.epo, .int .i64 pk0.ctr, .slice bp5 pk0.body.length bc5]), (B2, [.int .i64 3, .int .i64 1, .int .i64 2, .int .i64 3, .int .i64 4, .slice (some ⟨B1, 0, none⟩) 16 16]), (B1, [.int .u8 0, .int .u8 0, .int .u8 0, .int .u8 0, .int .u8 0, .int .u8 0, .int .u8 0, .int .u8 0, .int .u8 0, .int .u8 0, .int .u8 0, .int .u8 0, .int .u8 0, .int .u8 0, .int .u8 0, .int .u8 0])] w16 := M
  refine callL rfl (fun _ => by kernel_rfl) (hD (some ⟨B16, 0, none⟩) 2 ([4, 0]) _ (hg.mm M) (by decide) (by decide) (fun e => by cases e) (by intro x hx; simp at hx; omega) (M.src List.mem_cons_self [4, 0] rfl)) ?_
  rintro e w17 ⟨⟨bp17, bc17, rfl, F_17⟩, l⟩
  replace M := M.call l
  replace O_4 := O_4.below l
  replace F_5 := F_5.below l (Nat.le_refl _)
  replace F_9 := F_9.below l (Nat.le_refl _)
  replace F_13 := F_13.below l (Nat.le_refl _)
  clear l
  rw [show psP ([4, 0]) = pk0 from by kernel_rfl] at F_17
  rw [show psP ([4, 0]) = pk0 from by kernel_rfl, show psE ([4, 0]) = 110 from by kernel_rfl]
  unfold pcs
  refine ⟨_, rfl, ?_⟩
  simp only [aP, lI, l0, lS]
  refine readL (.tuple #[.agg #[.int .i64 pk0.kind, .int .i64 pk0.role, .int .i64 pk0.path, .int .i64 pk0.epo, .int .i64 pk0.ctr, .slice bp17 pk0.body.length bc17], .int .i64 110]) rfl (by kernel_rfl) ?_
  simp only [aP, lI, l0, lS]
  refine readL (.agg #[.int .i64 pk0.kind, .int .i64 pk0.role, .int .i64 pk0.path, .int .i64 pk0.epo, .int .i64 pk0.ctr, .slice bp17 pk0.body.length bc17]) rfl (by kernel_rfl) ?_
  simp only [aP, lI, l0, lS]
  refine readL (.int .i64 110) rfl (by kernel_rfl) ?_
  simp only [aP, lI, l0, lS]
  have hnew := Below.refl w17.heap.size w17
  have hnz := Nat.le_refl w17.heap.size
  refine actL (w' := w17.alloc (.cells #[.int .i64 0, .int .i64 0, .int .i64 0, .int .i64 0, .int .i64 0, .slice none 0 0] 24)) (.pointer (some ⟨w17.heap.size, 0, none⟩)) rfl (by kernel_rfl) ?_
  simp only [aP, lI, l0, lS]
  have hlb := (Below.refl w17.heap.size w17).alloc (Nat.le_refl _) (.cells #[.int .i64 0, .int .i64 0, .int .i64 0, .int .i64 0, .int .i64 0, .slice none 0 0] 24)
  replace hnew := hnew.trans (hlb.mono hnew.size)
  clear hlb
  have hB_B18 : w.heap.size ≤ w17.heap.size := M.below.size
  replace M := M.box #[.int .i64 0, .int .i64 0, .int .i64 0, .int .i64 0, .int .i64 0, .slice none 0 0] 24 w17.heap.size rfl
  generalize w17.alloc (.cells #[.int .i64 0, .int .i64 0, .int .i64 0, .int .i64 0, .int .i64 0, .slice none 0 0] 24) = w18 at M hnew ⊢
  generalize eB : w17.heap.size = B18 at M hB_B18  ⊢
  have hE_B18 : w17.heap.size ≤ B18 := Nat.le_of_eq eB
  have hF_B18 : B18 ≤ w17.heap.size := Nat.le_of_eq eB.symm
  clear eB
  replace M : Mm w ([(B18, [.int .i64 0, .int .i64 0, .int .i64 0, .int .i64 0, .int .i64 0, .slice none 0 0]), (B16, [.int .u8 4, .int .u8 0]), (B14, [.int .i64 pk0.kind, .int .i64 pk0.role, .int .i64 pk0.path, .int .i64 pk0.epo, .int .i64 pk0.ctr, .slice bp13 pk0.body.length bc13]), (B12, [.int .u8 3, .int .u8 0]), (B10, [.int .i64 pk0.kind, .int .i64 pk0.role, .int .i64 pk0.path, .int .i64 pk0.epo, .int .i64 pk0.ctr, .slice bp9 pk0.body.length bc9]), (B8, [.int .u8 1]), (B6, [.int .i64 pk0.kind, .int .i64 pk0.role, .int .i64 pk0.path, .int .i64 pk0.epo, .int .i64 pk0.ctr, .slice bp5 pk0.body.length bc5]), (B2, [.int .i64 3, .int .i64 1, .int .i64 2, .int .i64 3, .int .i64 4, .slice (some ⟨B1, 0, none⟩) 16 16]), (B1, [.int .u8 0, .int .u8 0, .int .u8 0, .int .u8 0, .int .u8 0, .int .u8 0, .int .u8 0, .int .u8 0, .int .u8 0, .int .u8 0, .int .u8 0, .int .u8 0, .int .u8 0, .int .u8 0, .int .u8 0, .int .u8 0])]) w18 := M
  refine skipOpL rfl (storeP [.int .i64 pk0.kind, .int .i64 pk0.role, .int .i64 pk0.path, .int .i64 pk0.epo, .int .i64 pk0.ctr, .slice bp17 pk0.body.length bc17] B18 0 24 _ _ rfl rfl rfl (M.thereP List.mem_cons_self 0 6 (Nat.le_of_ble_eq_true rfl)) (by kernel_rfl) (List.all_eq_true.1 (rfl : ([.int .i64 pk0.kind, .int .i64 pk0.role, .int .i64 pk0.path, .int .i64 pk0.epo, .int .i64 pk0.ctr, .slice bp17 pk0.body.length bc17] : List Value).all (fun u => u.oneCell') = true))) ?_
  simp only [Act.put]
  replace M := M.setPart [.int .i64 pk0.kind, .int .i64 pk0.role, .int .i64 pk0.path, .int .i64 pk0.epo, .int .i64 pk0.ctr, .slice bp17 pk0.body.length bc17] 0 (Nat.le_of_ble_eq_true rfl)
  replace hnew := below_setAll hnew B18 (by have := hnew.size; omega) 0 [.int .i64 pk0.kind, .int .i64 pk0.role, .int .i64 pk0.path, .int .i64 pk0.epo, .int .i64 pk0.ctr, .slice bp17 pk0.body.length bc17]
  generalize w18.setCells B18 0 [.int .i64 pk0.kind, .int .i64 pk0.role, .int .i64 pk0.path, .int .i64 pk0.epo, .int .i64 pk0.ctr, .slice bp17 pk0.body.length bc17] = w19 at M hnew ⊢
  replace M : Mm w ([(B18, [.int .i64 pk0.kind, .int .i64 pk0.role, .int .i64 pk0.path, .int .i64 pk0.epo, .int .i64 pk0.ctr, .slice bp17 pk0.body.length bc17]), (B16, [.int .u8 4, .int .u8 0]), (B14, [.int .i64 pk0.kind, .int .i64 pk0.role, .int .i64 pk0.path, .int .i64 pk0.epo, .int .i64 pk0.ctr, .slice bp13 pk0.body.length bc13]), (B12, [.int .u8 3, .int .u8 0]), (B10, [.int .i64 pk0.kind, .int .i64 pk0.role, .int .i64 pk0.path, .int .i64 pk0.epo, .int .i64 pk0.ctr, .slice bp9 pk0.body.length bc9]), (B8, [.int .u8 1]), (B6, [.int .i64 pk0.kind, .int .i64 pk0.role, .int .i64 pk0.path, .int .i64 pk0.epo, .int .i64 pk0.ctr, .slice bp5 pk0.body.length bc5]), (B2, [.int .i64 3, .int .i64 1, .int .i64 2, .int .i64 3, .int .i64 4, .slice (some ⟨B1, 0, none⟩) 16 16]), (B1, [.int .u8 0, .int .u8 0, .int .u8 0, .int .u8 0, .int .u8 0, .int .u8 0, .int .u8 0, .int .u8 0, .int .u8 0, .int .u8 0, .int .u8 0, .int .u8 0, .int .u8 0, .int .u8 0, .int .u8 0, .int .u8 0])]) w19 := M
  refine readL (.int .i64 110) rfl (by kernel_rfl) ?_
  simp only [aP, lI, l0, lS]
  first | show Exit.then _ _ _ _ _ | show Exit.inBlock _ _ _ _ _
  replace O_4 := O_4.below hnew
  replace F_5 := F_5.below hnew (Nat.le_refl _)
  replace F_9 := F_9.below hnew (Nat.le_refl _)
  replace F_13 := F_13.below hnew (Nat.le_refl _)
  replace F_17 := F_17.below hnew (Nat.le_refl _)
  clear hnew hnz
  go_upto_region 7 with fail
  refine wp_region_held_drew (S := fun w' => (((((Mm w [(B18, [.int .i64 pk0.kind, .int .i64 pk0.role, .int .i64 pk0.path, .int .i64 pk0.epo, .int .i64 pk0.ctr, .slice bp17 pk0.body.length bc17]), (B16, [.int .u8 4, .int .u8 0]), (B14, [.int .i64 pk0.kind, .int .i64 pk0.role, .int .i64 pk0.path, .int .i64 pk0.epo, .int .i64 pk0.ctr, .slice bp13 pk0.body.length bc13]), (B12, [.int .u8 3, .int .u8 0]), (B10, [.int .i64 pk0.kind, .int .i64 pk0.role, .int .i64 pk0.path, .int .i64 pk0.epo, .int .i64 pk0.ctr, .slice bp9 pk0.body.length bc9]), (B8, [.int .u8 1]), (B6, [.int .i64 pk0.kind, .int .i64 pk0.role, .int .i64 pk0.path, .int .i64 pk0.epo, .int .i64 pk0.ctr, .slice bp5 pk0.body.length bc5]), (B2, [.int .i64 3, .int .i64 1, .int .i64 2, .int .i64 3, .int .i64 4, .slice (some ⟨B1, 0, none⟩) 16 16]), (B1, [.int .u8 0, .int .u8 0, .int .u8 0, .int .u8 0, .int .u8 0, .int .u8 0, .int .u8 0, .int .u8 0, .int .u8 0, .int .u8 0, .int .u8 0, .int .u8 0, .int .u8 0, .int .u8 0, .int .u8 0, .int .u8 0])] w') ∧ OwnL w' w3.heap.size ([3, 1, 2, 0, 3, 0, 0, 0, 0, 0, 4, 0, 0, 0, 0, 0, 0, 0, 0, 0, 0, 0, 0, 0, 0, 0, 0]) (.slice p4 ([3, 1, 2, 0, 3, 0, 0, 0, 0, 0, 4, 0, 0, 0, 0, 0, 0, 0, 0, 0, 0, 0, 0, 0, 0, 0, 0]).length c4)) ∧ PV w' pk0 bp5 bc5) ∧ PV w' pk0 bp9 bc9) ∧ PV w' pk0 bp13 bc13) ∧ PV w' pk0 bp17 bc17) (by kernel_rfl) ⟨⟨⟨⟨⟨M.drew, (O_4.below (Below.refl _ _).drew)⟩, (F_5.below (Below.refl _ _).drew (Nat.le_refl _))⟩, (F_9.below (Below.refl _ _).drew (Nat.le_refl _))⟩, (F_13.below (Below.refl _ _).drew (Nat.le_refl _))⟩, (F_17.below (Below.refl _ _).drew (Nat.le_refl _))⟩ ?_
  clear M O_4 F_5 F_9 F_13 F_17
  intro hS_
  obtain ⟨⟨⟨⟨⟨M, O_4⟩, F_5⟩, F_9⟩, F_13⟩, F_17⟩ := hS_
  generalize w19.drew = w20 at M O_4 F_5 F_9 F_13 F_17 ⊢
  refine readH (i := 0) (some 38) rfl (.slice p4 (([3, 1, 2, 0, 3, 0, 0, 0, 0, 0, 4, 0, 0, 0, 0, 0, 0, 0, 0, 0, 0, 0, 0, 0, 0, 0, 0]).length) c4) rfl rfl (fun _ ⟨⟨⟨⟨⟨M, O_4⟩, F_5⟩, F_9⟩, F_13⟩, F_17⟩ => (by kernel_rfl)) (by kernel_rfl) (by kernel_rfl) (by kernel_rfl) (fun _ _ _ h => h) ⟨⟨⟨⟨⟨M, O_4⟩, F_5⟩, F_9⟩, F_13⟩, F_17⟩ ?_
  simp only [aP, lI, l0, lS]
  refine readH (i := 1) (some 39) rfl (.int .i64 ((([3, 1, 2, 0, 3, 0, 0, 0, 0, 0, 4, 0, 0, 0, 0, 0, 0, 0, 0, 0, 0, 0, 0, 0, 0, 0, 0]).length : Nat) : Int)) rfl rfl (fun _ ⟨⟨⟨⟨⟨M, O_4⟩, F_5⟩, F_9⟩, F_13⟩, F_17⟩ => lenS _ 22 5 p4 (([3, 1, 2, 0, 3, 0, 0, 0, 0, 0, 4, 0, 0, 0, 0, 0, 0, 0, 0, 0, 0, 0, 0, 0, 0, 0, 0]).length) c4 rfl Tryd.underlying22 rfl _) (by kernel_rfl) (by kernel_rfl) (by kernel_rfl) (fun _ _ _ h => h) ⟨⟨⟨⟨⟨M, O_4⟩, F_5⟩, F_9⟩, F_13⟩, F_17⟩ ?_
  simp only [aP, lI, l0, lS]
  refine readH (i := 2) (some 40) rfl (.bool true) rfl rfl (fun _ ⟨⟨⟨⟨⟨M, O_4⟩, F_5⟩, F_9⟩, F_13⟩, F_17⟩ => eqlI .i64 _ _ _ _ _ _ rfl rfl rfl true rfl _) (by kernel_rfl) (by kernel_rfl) (by kernel_rfl) (fun _ _ _ h => h) ⟨⟨⟨⟨⟨M, O_4⟩, F_5⟩, F_9⟩, F_13⟩, F_17⟩ ?_
  simp only [aP, lI, l0, lS]
  refine readH (i := 3) (some 41) rfl (.bool true) rfl rfl (fun _ ⟨⟨⟨⟨⟨M, O_4⟩, F_5⟩, F_9⟩, F_13⟩, F_17⟩ => (by kernel_rfl)) (by kernel_rfl) (by kernel_rfl) (by kernel_rfl) (fun _ _ _ h => h) ⟨⟨⟨⟨⟨M, O_4⟩, F_5⟩, F_9⟩, F_13⟩, F_17⟩ ?_
  simp only [aP, lI, l0, lS]
  refine readH (i := 4) (some 42) rfl (.slice p4 (([3, 1, 2, 0, 3, 0, 0, 0, 0, 0, 4, 0, 0, 0, 0, 0, 0, 0, 0, 0, 0, 0, 0, 0, 0, 0, 0]).length) c4) rfl rfl (fun _ ⟨⟨⟨⟨⟨M, O_4⟩, F_5⟩, F_9⟩, F_13⟩, F_17⟩ => (by kernel_rfl)) (by kernel_rfl) (by kernel_rfl) (by kernel_rfl) (fun _ _ _ h => h) ⟨⟨⟨⟨⟨M, O_4⟩, F_5⟩, F_9⟩, F_13⟩, F_17⟩ ?_
  simp only [aP, lI, l0, lS]
  obtain ⟨q43, hq43, hqs43⟩ := cut_hi (P := Tryd.prog) (t := 22) (by kernel_rfl) (fun _ => by kernel_rfl) p4 (([3, 1, 2, 0, 3, 0, 0, 0, 0, 0, 4, 0, 0, 0, 0, 0, 0, 0, 0, 0, 0, 0, 0, 0, 0, 0, 0]).length) c4 11 (by first | decide | omega) O_4.le
  refine readH (i := 5) (some 43) rfl (.slice q43 11 c4) rfl rfl (fun _ ⟨⟨⟨⟨⟨M, O_4⟩, F_5⟩, F_9⟩, F_13⟩, F_17⟩ => cutHi _ _ _ _ _ _ rfl rfl rfl (hq43 _)) (by kernel_rfl) (by kernel_rfl) (by kernel_rfl) (fun _ _ _ h => h) ⟨⟨⟨⟨⟨M, O_4⟩, F_5⟩, F_9⟩, F_13⟩, F_17⟩ ?_
  simp only [aP, lI, l0, lS]
  refine readH (i := 6) (some 44) rfl (.string (txt 11 (bl ([3, 1, 2, 0, 3, 0, 0, 0, 0, 0, 4, 0, 0, 0, 0, 0, 0, 0, 0, 0, 0, 0, 0, 0, 0, 0, 0])))) rfl rfl (fun _ ⟨⟨⟨⟨⟨M, O_4⟩, F_5⟩, F_9⟩, F_13⟩, F_17⟩ => conv_txt 22 5 9 _ rfl Tryd.underlying22 Tryd.underlying5 Tryd.underlying9 q43 11 c4 (bl ([3, 1, 2, 0, 3, 0, 0, 0, 0, 0, 4, 0, 0, 0, 0, 0, 0, 0, 0, 0, 0, 0, 0, 0, 0, 0, 0])) rfl _ (hqs43 _ _ O_4.src) (fun e => by obtain ⟨_, e', _⟩ := hqs43 _ _ O_4.src 0 (by decide); rw [e] at e'; cases e')) (by kernel_rfl) (by kernel_rfl) (by kernel_rfl) (fun _ _ _ h => h) ⟨⟨⟨⟨⟨M, O_4⟩, F_5⟩, F_9⟩, F_13⟩, F_17⟩ ?_
  simp only [aP, lI, l0, lS]
  refine readH (i := 7) (some 45) rfl (.bool true) rfl rfl (fun _ ⟨⟨⟨⟨⟨M, O_4⟩, F_5⟩, F_9⟩, F_13⟩, F_17⟩ => eqlS _ _ _ _ _ _ rfl rfl rfl (by kernel_rfl) _) (by kernel_rfl) (by kernel_rfl) (by kernel_rfl) (fun _ _ _ h => h) ⟨⟨⟨⟨⟨M, O_4⟩, F_5⟩, F_9⟩, F_13⟩, F_17⟩ ?_
  simp only [aP, lI, l0, lS]
  refine readH (i := 8) (some 46) rfl (.bool true) rfl rfl (fun _ ⟨⟨⟨⟨⟨M, O_4⟩, F_5⟩, F_9⟩, F_13⟩, F_17⟩ => (by kernel_rfl)) (by kernel_rfl) (by kernel_rfl) (by kernel_rfl) (fun _ _ _ h => h) ⟨⟨⟨⟨⟨M, O_4⟩, F_5⟩, F_9⟩, F_13⟩, F_17⟩ ?_
  simp only [aP, lI, l0, lS]
  refine readH (i := 9) (some 47) rfl (.bool true) rfl rfl (fun _ ⟨⟨⟨⟨⟨M, O_4⟩, F_5⟩, F_9⟩, F_13⟩, F_17⟩ => (by kernel_rfl)) (by kernel_rfl) (by kernel_rfl) (by kernel_rfl) (fun _ _ _ h => h) ⟨⟨⟨⟨⟨M, O_4⟩, F_5⟩, F_9⟩, F_13⟩, F_17⟩ ?_
  simp only [aP, lI, l0, lS]
  refine readH (i := 10) (some 48) rfl (.int .i64 0) rfl rfl (fun _ ⟨⟨⟨⟨⟨M, O_4⟩, F_5⟩, F_9⟩, F_13⟩, F_17⟩ => (by kernel_rfl)) (by kernel_rfl) (by kernel_rfl) (by kernel_rfl) (fun _ _ _ h => h) ⟨⟨⟨⟨⟨M, O_4⟩, F_5⟩, F_9⟩, F_13⟩, F_17⟩ ?_
  simp only [aP, lI, l0, lS]
  refine readH (i := 11) (some 49) rfl (.bool true) rfl rfl (fun _ ⟨⟨⟨⟨⟨M, O_4⟩, F_5⟩, F_9⟩, F_13⟩, F_17⟩ => eqlI .i64 _ _ _ _ _ _ rfl rfl rfl true (by decide) _) (by kernel_rfl) (by kernel_rfl) (by kernel_rfl) (fun _ _ _ h => h) ⟨⟨⟨⟨⟨M, O_4⟩, F_5⟩, F_9⟩, F_13⟩, F_17⟩ ?_
  simp only [aP, lI, l0, lS]
  refine readH (i := 12) (some 50) rfl (.bool true) rfl rfl (fun _ ⟨⟨⟨⟨⟨M, O_4⟩, F_5⟩, F_9⟩, F_13⟩, F_17⟩ => (by kernel_rfl)) (by kernel_rfl) (by kernel_rfl) (by kernel_rfl) (fun _ _ _ h => h) ⟨⟨⟨⟨⟨M, O_4⟩, F_5⟩, F_9⟩, F_13⟩, F_17⟩ ?_
  simp only [aP, lI, l0, lS]
  refine readH (i := 13) (some 51) rfl (.bool true) rfl rfl (fun _ ⟨⟨⟨⟨⟨M, O_4⟩, F_5⟩, F_9⟩, F_13⟩, F_17⟩ => (by kernel_rfl)) (by kernel_rfl) (by kernel_rfl) (by kernel_rfl) (fun _ _ _ h => h) ⟨⟨⟨⟨⟨M, O_4⟩, F_5⟩, F_9⟩, F_13⟩, F_17⟩ ?_
  simp only [aP, lI, l0, lS]
  refine readH (i := 14) (some 52) rfl (.int .i64 3) rfl rfl (fun _ ⟨⟨⟨⟨⟨M, O_4⟩, F_5⟩, F_9⟩, F_13⟩, F_17⟩ => (by kernel_rfl)) (by kernel_rfl) (by kernel_rfl) (by kernel_rfl) (fun _ _ _ h => h) ⟨⟨⟨⟨⟨M, O_4⟩, F_5⟩, F_9⟩, F_13⟩, F_17⟩ ?_
  simp only [aP, lI, l0, lS]
  refine readH (i := 15) (some 53) rfl (.bool true) rfl rfl (fun _ ⟨⟨⟨⟨⟨M, O_4⟩, F_5⟩, F_9⟩, F_13⟩, F_17⟩ => eqlI .i64 _ _ _ _ _ _ rfl rfl rfl true (by decide) _) (by kernel_rfl) (by kernel_rfl) (by kernel_rfl) (fun _ _ _ h => h) ⟨⟨⟨⟨⟨M, O_4⟩, F_5⟩, F_9⟩, F_13⟩, F_17⟩ ?_
  simp only [aP, lI, l0, lS]
  refine readH (i := 16) (some 54) rfl (.bool true) rfl rfl (fun _ ⟨⟨⟨⟨⟨M, O_4⟩, F_5⟩, F_9⟩, F_13⟩, F_17⟩ => (by kernel_rfl)) (by kernel_rfl) (by kernel_rfl) (by kernel_rfl) (fun _ _ _ h => h) ⟨⟨⟨⟨⟨M, O_4⟩, F_5⟩, F_9⟩, F_13⟩, F_17⟩ ?_
  simp only [aP, lI, l0, lS]
  refine readH (i := 17) (some 55) rfl (.bool true) rfl rfl (fun _ ⟨⟨⟨⟨⟨M, O_4⟩, F_5⟩, F_9⟩, F_13⟩, F_17⟩ => (by kernel_rfl)) (by kernel_rfl) (by kernel_rfl) (by kernel_rfl) (fun _ _ _ h => h) ⟨⟨⟨⟨⟨M, O_4⟩, F_5⟩, F_9⟩, F_13⟩, F_17⟩ ?_
  simp only [aP, lI, l0, lS]
  refine readH (i := 18) (some 56) rfl (.int .i64 110) rfl rfl (fun _ ⟨⟨⟨⟨⟨M, O_4⟩, F_5⟩, F_9⟩, F_13⟩, F_17⟩ => (by kernel_rfl)) (by kernel_rfl) (by kernel_rfl) (by kernel_rfl) (fun _ _ _ h => h) ⟨⟨⟨⟨⟨M, O_4⟩, F_5⟩, F_9⟩, F_13⟩, F_17⟩ ?_
  simp only [aP, lI, l0, lS]
  refine readH (i := 19) (some 57) rfl (.bool true) rfl rfl (fun _ ⟨⟨⟨⟨⟨M, O_4⟩, F_5⟩, F_9⟩, F_13⟩, F_17⟩ => eqlI .i64 _ _ _ _ _ _ rfl rfl rfl true (by decide) _) (by kernel_rfl) (by kernel_rfl) (by kernel_rfl) (fun _ _ _ h => h) ⟨⟨⟨⟨⟨M, O_4⟩, F_5⟩, F_9⟩, F_13⟩, F_17⟩ ?_
  simp only [aP, lI, l0, lS]
  refine readH (i := 20) (some 58) rfl (.bool true) rfl rfl (fun _ ⟨⟨⟨⟨⟨M, O_4⟩, F_5⟩, F_9⟩, F_13⟩, F_17⟩ => (by kernel_rfl)) (by kernel_rfl) (by kernel_rfl) (by kernel_rfl) (fun _ _ _ h => h) ⟨⟨⟨⟨⟨M, O_4⟩, F_5⟩, F_9⟩, F_13⟩, F_17⟩ ?_
  simp only [aP, lI, l0, lS]
  refine readH (i := 21) (some 59) rfl (.bool true) rfl rfl (fun _ ⟨⟨⟨⟨⟨M, O_4⟩, F_5⟩, F_9⟩, F_13⟩, F_17⟩ => (by kernel_rfl)) (by kernel_rfl) (by kernel_rfl) (by kernel_rfl) (fun _ _ _ h => h) ⟨⟨⟨⟨⟨M, O_4⟩, F_5⟩, F_9⟩, F_13⟩, F_17⟩ ?_
  simp only [aP, lI, l0, lS]
  refine readH (i := 22) (some 60) rfl (.int .i64 3) rfl rfl (fun _ ⟨⟨⟨⟨⟨M, O_4⟩, F_5⟩, F_9⟩, F_13⟩, F_17⟩ => (by kernel_rfl)) (by kernel_rfl) (by kernel_rfl) (by kernel_rfl) (fun _ _ _ h => h) ⟨⟨⟨⟨⟨M, O_4⟩, F_5⟩, F_9⟩, F_13⟩, F_17⟩ ?_
  simp only [aP, lI, l0, lS]
  refine readH (i := 23) (some 61) rfl (.bool true) rfl rfl (fun _ ⟨⟨⟨⟨⟨M, O_4⟩, F_5⟩, F_9⟩, F_13⟩, F_17⟩ => eqlI .i64 _ _ _ _ _ _ rfl rfl rfl true (by decide) _) (by kernel_rfl) (by kernel_rfl) (by kernel_rfl) (fun _ _ _ h => h) ⟨⟨⟨⟨⟨M, O_4⟩, F_5⟩, F_9⟩, F_13⟩, F_17⟩ ?_
  simp only [aP, lI, l0, lS]
  refine readH (i := 24) (some 62) rfl (.bool true) rfl rfl (fun _ ⟨⟨⟨⟨⟨M, O_4⟩, F_5⟩, F_9⟩, F_13⟩, F_17⟩ => (by kernel_rfl)) (by kernel_rfl) (by kernel_rfl) (by kernel_rfl) (fun _ _ _ h => h) ⟨⟨⟨⟨⟨M, O_4⟩, F_5⟩, F_9⟩, F_13⟩, F_17⟩ ?_
  simp only [aP, lI, l0, lS]
  refine readH (i := 25) (some 63) rfl (.bool true) rfl rfl (fun _ ⟨⟨⟨⟨⟨M, O_4⟩, F_5⟩, F_9⟩, F_13⟩, F_17⟩ => (by kernel_rfl)) (by kernel_rfl) (by kernel_rfl) (by kernel_rfl) (fun _ _ _ h => h) ⟨⟨⟨⟨⟨M, O_4⟩, F_5⟩, F_9⟩, F_13⟩, F_17⟩ ?_
  simp only [aP, lI, l0, lS]
  refine readH (i := 26) (some 64) rfl (.int .i64 110) rfl rfl (fun _ ⟨⟨⟨⟨⟨M, O_4⟩, F_5⟩, F_9⟩, F_13⟩, F_17⟩ => (by kernel_rfl)) (by kernel_rfl) (by kernel_rfl) (by kernel_rfl) (fun _ _ _ h => h) ⟨⟨⟨⟨⟨M, O_4⟩, F_5⟩, F_9⟩, F_13⟩, F_17⟩ ?_
  simp only [aP, lI, l0, lS]
  refine readH (i := 27) (some 65) rfl (.bool true) rfl rfl (fun _ ⟨⟨⟨⟨⟨M, O_4⟩, F_5⟩, F_9⟩, F_13⟩, F_17⟩ => eqlI .i64 _ _ _ _ _ _ rfl rfl rfl true (by decide) _) (by kernel_rfl) (by kernel_rfl) (by kernel_rfl) (fun _ _ _ h => h) ⟨⟨⟨⟨⟨M, O_4⟩, F_5⟩, F_9⟩, F_13⟩, F_17⟩ ?_
  simp only [aP, lI, l0, lS]
  refine readH (i := 28) (some 66) rfl (.bool true) rfl rfl (fun _ ⟨⟨⟨⟨⟨M, O_4⟩, F_5⟩, F_9⟩, F_13⟩, F_17⟩ => (by kernel_rfl)) (by kernel_rfl) (by kernel_rfl) (by kernel_rfl) (fun _ _ _ h => h) ⟨⟨⟨⟨⟨M, O_4⟩, F_5⟩, F_9⟩, F_13⟩, F_17⟩ ?_
  simp only [aP, lI, l0, lS]
  refine readH (i := 29) (some 67) rfl (.bool true) rfl rfl (fun _ ⟨⟨⟨⟨⟨M, O_4⟩, F_5⟩, F_9⟩, F_13⟩, F_17⟩ => (by kernel_rfl)) (by kernel_rfl) (by kernel_rfl) (by kernel_rfl) (fun _ _ _ h => h) ⟨⟨⟨⟨⟨M, O_4⟩, F_5⟩, F_9⟩, F_13⟩, F_17⟩ ?_
  simp only [aP, lI, l0, lS]
  refine readH (i := 30) (some 68) rfl (.agg #[.int .i64 3, .int .i64 1, .int .i64 2, .int .i64 3, .int .i64 4, .slice (some ⟨B1, 0, none⟩) 16 16]) rfl rfl (fun _ ⟨⟨⟨⟨⟨M, O_4⟩, F_5⟩, F_9⟩, F_13⟩, F_17⟩ => loadN 24 _ ⟨B2, 0, none⟩ [.int .i64 3, .int .i64 1, .int .i64 2, .int .i64 3, .int .i64 4, .slice (some ⟨B1, 0, none⟩) 16 16] rfl rfl (fun _ => by kernel_rfl) (fun _ => by kernel_rfl) (M.rangeAt (List.mem_cons_of_mem _ (List.mem_cons_of_mem _ (List.mem_cons_of_mem _ (List.mem_cons_of_mem _ (List.mem_cons_of_mem _ (List.mem_cons_of_mem _ (List.mem_cons_of_mem _ List.mem_cons_self))))))))) (by kernel_rfl) (by kernel_rfl) (by kernel_rfl) (fun _ _ _ h => h) ⟨⟨⟨⟨⟨M, O_4⟩, F_5⟩, F_9⟩, F_13⟩, F_17⟩ ?_
  simp only [aP, lI, l0, lS]
  refine readH (i := 32) (some 70) rfl (.agg #[.int .u8 2, .int .u8 0, .int .u8 3, .int .u8 0, .int .u8 0, .int .u8 0, .int .u8 0, .int .u8 0, .int .u8 0, .int .u8 0, .int .u8 0, .int .u8 4]) rfl rfl (fun _ ⟨⟨⟨⟨⟨M, O_4⟩, F_5⟩, F_9⟩, F_13⟩, F_17⟩ => (by kernel_rfl)) (by kernel_rfl) (by kernel_rfl) (by kernel_rfl) (fun _ _ _ h => h) ⟨⟨⟨⟨⟨M, O_4⟩, F_5⟩, F_9⟩, F_13⟩, F_17⟩ ?_
  simp only [aP, lI, l0, lS]
  have hC : Calls Tryd.prog 13 #[.agg #[.int .i64 3, .int .i64 1, .int .i64 2, .int .i64 3, .int .i64 4, .slice (some ⟨B1, 0, none⟩) 16 16]] w20 (fun e w' => e = .returned (.agg (row .u8 12 (bl (pno rec0))).toArray) ∧ Below w20.heap.size w20 w') := hN rec0 (some ⟨B1, 0, none⟩) 16 _ (hg.mm M) (⟨M.src (List.mem_cons_of_mem _ (List.mem_cons_of_mem _ (List.mem_cons_of_mem _ (List.mem_cons_of_mem _ (List.mem_cons_of_mem _ (List.mem_cons_of_mem _ (List.mem_cons_of_mem _ (List.mem_cons_of_mem _ List.mem_cons_self)))))))) rec0.body rfl, Nat.le_refl _, fun e => (by cases e), show (16 : Nat) ≤ 140737488351232 by decide, show Byts rec0.body by intro x hx; unfold rec0 at hx; simp at hx; omega, show i64 3 by unfold i64; decide, show i64 1 by unfold i64; decide, show i64 2 by unfold i64; decide, show i64 3 by unfold i64; decide, show i64 4 by unfold i64; decide⟩ : PV _ rec0 (some ⟨B1, 0, none⟩) 16)
  refine callH (i := 31) (some 69) rfl (by kernel_rfl) rfl rfl (fun _ => by kernel_rfl) (hC) ?_
  rintro e w21 ⟨rfl, l⟩
  replace M := M.call l
  replace O_4 := O_4.below l
  replace F_5 := F_5.below l (Nat.le_refl _)
  replace F_9 := F_9.below l (Nat.le_refl _)
  replace F_13 := F_13.below l (Nat.le_refl _)
  replace F_17 := F_17.below l (Nat.le_refl _)
  refine ⟨_, rfl, ⟨⟨⟨⟨⟨M, O_4⟩, F_5⟩, F_9⟩, F_13⟩, F_17⟩, ?_⟩
  clear l hC
  simp only [aP, lI, l0, lS]
  refine readH (i := 33) (some 71) rfl (.bool true) rfl rfl (fun _ ⟨⟨⟨⟨⟨M, O_4⟩, F_5⟩, F_9⟩, F_13⟩, F_17⟩ => eqlRow 12 .u8 (bl (pno rec0)) (bl ([2, 0, 3, 0, 0, 0, 0, 0, 0, 0, 0, 4])) 31 5 _ _ _ rfl rfl rfl Tryd.underlying31 Tryd.underlying5 (fun _ => by kernel_rfl) (by kernel_rfl) (fun j hj => by rw [show pno rec0 = [2, 0, 3, 0, 0, 0, 0, 0, 0, 0, 0, 4] from by kernel_rfl]) _) (by kernel_rfl) (by kernel_rfl) (by kernel_rfl) (fun _ _ _ h => h) ⟨⟨⟨⟨⟨M, O_4⟩, F_5⟩, F_9⟩, F_13⟩, F_17⟩ ?_
  simp only [aP, lI, l0, lS]
  refine readH (i := 34) (some 72) rfl (.bool true) rfl rfl (fun _ ⟨⟨⟨⟨⟨M, O_4⟩, F_5⟩, F_9⟩, F_13⟩, F_17⟩ => (by kernel_rfl)) (by kernel_rfl) (by kernel_rfl) (by kernel_rfl) (fun _ _ _ h => h) ⟨⟨⟨⟨⟨M, O_4⟩, F_5⟩, F_9⟩, F_13⟩, F_17⟩ ?_
  simp only [aP, lI, l0, lS]
  refine readH (i := 35) (some 73) rfl (.bool true) rfl rfl (fun _ ⟨⟨⟨⟨⟨M, O_4⟩, F_5⟩, F_9⟩, F_13⟩, F_17⟩ => (by kernel_rfl)) (by kernel_rfl) (by kernel_rfl) (by kernel_rfl) (fun _ _ _ h => h) ⟨⟨⟨⟨⟨M, O_4⟩, F_5⟩, F_9⟩, F_13⟩, F_17⟩ ?_
  simp only [aP, lI, l0, lS]
  refine readH (i := 36) (some 74) rfl (.agg #[.int .i64 3, .int .i64 1, .int .i64 2, .int .i64 3, .int .i64 4, .slice (some ⟨B1, 0, none⟩) 16 16]) rfl rfl (fun _ ⟨⟨⟨⟨⟨M, O_4⟩, F_5⟩, F_9⟩, F_13⟩, F_17⟩ => loadN 24 _ ⟨B2, 0, none⟩ [.int .i64 3, .int .i64 1, .int .i64 2, .int .i64 3, .int .i64 4, .slice (some ⟨B1, 0, none⟩) 16 16] rfl rfl (fun _ => by kernel_rfl) (fun _ => by kernel_rfl) (M.rangeAt (List.mem_cons_of_mem _ (List.mem_cons_of_mem _ (List.mem_cons_of_mem _ (List.mem_cons_of_mem _ (List.mem_cons_of_mem _ (List.mem_cons_of_mem _ (List.mem_cons_of_mem _ List.mem_cons_self))))))))) (by kernel_rfl) (by kernel_rfl) (by kernel_rfl) (fun _ _ _ h => h) ⟨⟨⟨⟨⟨M, O_4⟩, F_5⟩, F_9⟩, F_13⟩, F_17⟩ ?_
  simp only [aP, lI, l0, lS]
  refine readH (i := 39) (some 77) rfl (.slice p4 (([3, 1, 2, 0, 3, 0, 0, 0, 0, 0, 4, 0, 0, 0, 0, 0, 0, 0, 0, 0, 0, 0, 0, 0, 0, 0, 0]).length) c4) rfl rfl (fun _ ⟨⟨⟨⟨⟨M, O_4⟩, F_5⟩, F_9⟩, F_13⟩, F_17⟩ => (by kernel_rfl)) (by kernel_rfl) (by kernel_rfl) (by kernel_rfl) (fun _ _ _ h => h) ⟨⟨⟨⟨⟨M, O_4⟩, F_5⟩, F_9⟩, F_13⟩, F_17⟩ ?_
  simp only [aP, lI, l0, lS]
  obtain ⟨q78, hq78, hqs78⟩ := cut_hi (P := Tryd.prog) (t := 22) (by kernel_rfl) (fun _ => by kernel_rfl) p4 (([3, 1, 2, 0, 3, 0, 0, 0, 0, 0, 4, 0, 0, 0, 0, 0, 0, 0, 0, 0, 0, 0, 0, 0, 0, 0, 0]).length) c4 11 (by first | decide | omega) O_4.le
  refine readH (i := 40) (some 78) rfl (.slice q78 11 c4) rfl rfl (fun _ ⟨⟨⟨⟨⟨M, O_4⟩, F_5⟩, F_9⟩, F_13⟩, F_17⟩ => cutHi _ _ _ _ _ _ rfl rfl rfl (hq78 _)) (by kernel_rfl) (by kernel_rfl) (by kernel_rfl) (fun _ _ _ h => h) ⟨⟨⟨⟨⟨M, O_4⟩, F_5⟩, F_9⟩, F_13⟩, F_17⟩ ?_
  simp only [aP, lI, l0, lS]
  refine readH (i := 41) (some 79) rfl (.string (txt 11 (bl ([3, 1, 2, 0, 3, 0, 0, 0, 0, 0, 4, 0, 0, 0, 0, 0, 0, 0, 0, 0, 0, 0, 0, 0, 0, 0, 0])))) rfl rfl (fun _ ⟨⟨⟨⟨⟨M, O_4⟩, F_5⟩, F_9⟩, F_13⟩, F_17⟩ => conv_txt 22 5 9 _ rfl Tryd.underlying22 Tryd.underlying5 Tryd.underlying9 q78 11 c4 (bl ([3, 1, 2, 0, 3, 0, 0, 0, 0, 0, 4, 0, 0, 0, 0, 0, 0, 0, 0, 0, 0, 0, 0, 0, 0, 0, 0])) rfl _ (hqs78 _ _ O_4.src) (fun e => by obtain ⟨_, e', _⟩ := hqs78 _ _ O_4.src 0 (by decide); rw [e] at e'; cases e')) (by kernel_rfl) (by kernel_rfl) (by kernel_rfl) (fun _ _ _ h => h) ⟨⟨⟨⟨⟨M, O_4⟩, F_5⟩, F_9⟩, F_13⟩, F_17⟩ ?_
  simp only [aP, lI, l0, lS]
  refine callH (i := 37) (some 75) rfl (by kernel_rfl) rfl rfl (fun _ => by kernel_rfl) (hH rec0 (some ⟨B1, 0, none⟩) 16 _ (hg.mm M) (⟨M.src (List.mem_cons_of_mem _ (List.mem_cons_of_mem _ (List.mem_cons_of_mem _ (List.mem_cons_of_mem _ (List.mem_cons_of_mem _ (List.mem_cons_of_mem _ (List.mem_cons_of_mem _ (List.mem_cons_of_mem _ List.mem_cons_self)))))))) rec0.body rfl, Nat.le_refl _, fun e => (by cases e), show (16 : Nat) ≤ 140737488351232 by decide, show Byts rec0.body by intro x hx; unfold rec0 at hx; simp at hx; omega, show i64 3 by unfold i64; decide, show i64 1 by unfold i64; decide, show i64 2 by unfold i64; decide, show i64 3 by unfold i64; decide, show i64 4 by unfold i64; decide⟩ : PV _ rec0 (some ⟨B1, 0, none⟩) 16)) ?_
  rintro e w22 ⟨⟨v22, rfl, O_22⟩, l⟩
  replace M := M.call l
  replace O_4 := O_4.below l
  replace F_5 := F_5.below l (Nat.le_refl _)
  replace F_9 := F_9.below l (Nat.le_refl _)
  replace F_13 := F_13.below l (Nat.le_refl _)
  replace F_17 := F_17.below l (Nat.le_refl _)
  clear l
  rw [show phd rec0 = [3, 1, 2, 0, 3, 0, 0, 0, 0, 0, 4] from by kernel_rfl] at O_22
  obtain ⟨p22, c22, rfl, _, _⟩ := O_22.bytes
  refine ⟨_, rfl, ⟨⟨⟨⟨⟨M, O_4⟩, F_5⟩, F_9⟩, F_13⟩, F_17⟩, ?_⟩
  simp only [aP, lI, l0, lS]
  refine wpAnyH_more (S' := fun w' => ((((((Mm w [(B18, [.int .i64 pk0.kind, .int .i64 pk0.role, .int .i64 pk0.path, .int .i64 pk0.epo, .int .i64 pk0.ctr, .slice bp17 pk0.body.length bc17]), (B16, [.int .u8 4, .int .u8 0]), (B14, [.int .i64 pk0.kind, .int .i64 pk0.role, .int .i64 pk0.path, .int .i64 pk0.epo, .int .i64 pk0.ctr, .slice bp13 pk0.body.length bc13]), (B12, [.int .u8 3, .int .u8 0]), (B10, [.int .i64 pk0.kind, .int .i64 pk0.role, .int .i64 pk0.path, .int .i64 pk0.epo, .int .i64 pk0.ctr, .slice bp9 pk0.body.length bc9]), (B8, [.int .u8 1]), (B6, [.int .i64 pk0.kind, .int .i64 pk0.role, .int .i64 pk0.path, .int .i64 pk0.epo, .int .i64 pk0.ctr, .slice bp5 pk0.body.length bc5]), (B2, [.int .i64 3, .int .i64 1, .int .i64 2, .int .i64 3, .int .i64 4, .slice (some ⟨B1, 0, none⟩) 16 16]), (B1, [.int .u8 0, .int .u8 0, .int .u8 0, .int .u8 0, .int .u8 0, .int .u8 0, .int .u8 0, .int .u8 0, .int .u8 0, .int .u8 0, .int .u8 0, .int .u8 0, .int .u8 0, .int .u8 0, .int .u8 0, .int .u8 0])] w') ∧ OwnL w' w3.heap.size ([3, 1, 2, 0, 3, 0, 0, 0, 0, 0, 4, 0, 0, 0, 0, 0, 0, 0, 0, 0, 0, 0, 0, 0, 0, 0, 0]) (.slice p4 ([3, 1, 2, 0, 3, 0, 0, 0, 0, 0, 4, 0, 0, 0, 0, 0, 0, 0, 0, 0, 0, 0, 0, 0, 0, 0, 0]).length c4)) ∧ PV w' pk0 bp5 bc5) ∧ PV w' pk0 bp9 bc9) ∧ PV w' pk0 bp13 bc13) ∧ PV w' pk0 bp17 bc17) ∧ NewL w' w21.heap.size ([3, 1, 2, 0, 3, 0, 0, 0, 0, 0, 4]) (.slice p22 ([3, 1, 2, 0, 3, 0, 0, 0, 0, 0, 4]).length c22)) (fun _ h => h.1) _ _ _ _ ?_
  refine readH (i := 38) (some 76) rfl (.string (txt (([3, 1, 2, 0, 3, 0, 0, 0, 0, 0, 4]).length) (bl ([3, 1, 2, 0, 3, 0, 0, 0, 0, 0, 4])))) rfl rfl (fun _ ⟨⟨⟨⟨⟨⟨M, O_4⟩, F_5⟩, F_9⟩, F_13⟩, F_17⟩, O_22⟩ => conv_txt 22 5 9 _ rfl Tryd.underlying22 Tryd.underlying5 Tryd.underlying9 p22 (([3, 1, 2, 0, 3, 0, 0, 0, 0, 0, 4]).length) c22 (bl ([3, 1, 2, 0, 3, 0, 0, 0, 0, 0, 4])) rfl _ O_22.src (fun e => by have h1 := O_22.nilCap e; have h2 := O_22.le; omega)) (by kernel_rfl) (by kernel_rfl) (by kernel_rfl) (fun _ _ _ h => h) ⟨⟨⟨⟨⟨⟨M, O_4⟩, F_5⟩, F_9⟩, F_13⟩, F_17⟩, O_22⟩ ?_
  simp only [aP, lI, l0, lS]
  refine readH (i := 42) (some 80) rfl (.bool true) rfl rfl (fun _ ⟨⟨⟨⟨⟨⟨M, O_4⟩, F_5⟩, F_9⟩, F_13⟩, F_17⟩, O_22⟩ => eqlS _ _ _ _ _ _ rfl rfl rfl (by kernel_rfl) _) (by kernel_rfl) (by kernel_rfl) (by kernel_rfl) (fun _ _ _ h => h) ⟨⟨⟨⟨⟨⟨M, O_4⟩, F_5⟩, F_9⟩, F_13⟩, F_17⟩, O_22⟩ ?_
  simp only [aP, lI, l0, lS]
  refine readH (i := 43) (some 81) rfl (.bool true) rfl rfl (fun _ ⟨⟨⟨⟨⟨⟨M, O_4⟩, F_5⟩, F_9⟩, F_13⟩, F_17⟩, O_22⟩ => (by kernel_rfl)) (by kernel_rfl) (by kernel_rfl) (by kernel_rfl) (fun _ _ _ h => h) ⟨⟨⟨⟨⟨⟨M, O_4⟩, F_5⟩, F_9⟩, F_13⟩, F_17⟩, O_22⟩ ?_
  simp only [aP, lI, l0, lS]
  refine readH (i := 44) (some 0) rfl (.bool true) rfl rfl (fun _ ⟨⟨⟨⟨⟨⟨M, O_4⟩, F_5⟩, F_9⟩, F_13⟩, F_17⟩, O_22⟩ => (by kernel_rfl)) (by kernel_rfl) (by kernel_rfl) (by kernel_rfl) (fun _ _ _ h => h) ⟨⟨⟨⟨⟨⟨M, O_4⟩, F_5⟩, F_9⟩, F_13⟩, F_17⟩, O_22⟩ ?_
  simp only [aP, lI, l0]
  refine wpAnyH_done (by kernel_rfl) ?_ _
  first | show Exit.then _ _ _ _ _ | show Exit.inBlock _ _ _ _ _
  go_wp2
  go_ret
  exact ⟨rfl, M.below⟩
end Go.Proofs.YtbhhboiofepnhaaDoor

namespace Go.Proofs.YtbhhboiofepnhaaDoor
open Go.RowKit

set_option maxRecDepth 10000 in
set_option maxHeartbeats 32000000 in
theorem law_PacketParses (hP : PrintOK) (hD : ParseOK) (hH : HeadOK) (hN : NonceOK) (sp : Option Addr) (cap : Nat) (b : List Int) (hlen : b.length ≤ 140737488351232) (hcap : b.length ≤ cap) (hnil : sp = none → cap = 0) (hb : Byts b) (w : World) (hg : PG w) (hs : Src w sp b.length (bl b)) : Calls Tryd.prog 4 #[.slice sp b.length cap] w fun e w' => e = .returned (.bool true) ∧ Below w.heap.size w w' := by
  have M := Mm.init w
  go_enter Tryd.func4, Tryd.ntmps4
  go_upto_region 0 with fail
  refine wp_region_list ?_
  refine readL (.bool false) rfl (by kernel_rfl) ?_
  simp only [aP, lI, l0, lS]
  first | show Exit.then _ _ _ _ _ | show Exit.inBlock _ _ _ _ _
  go_upto_region 1 with fail
  refine wp_region_list ?_
  have hC : Calls Tryd.prog 8 #[] w (fun e w' => e = .returned (.bool true) ∧ Below w.heap.size w w') := (shown11 hP hD hH hN _ (hg.mm M))
  refine callL rfl (fun _ => by kernel_rfl) (hC) ?_
  rintro e w1 ⟨rfl, l⟩
  replace M := M.call l
  refine ⟨_, rfl, ?_⟩
  clear l hC
  simp only [aP, lI, l0, lS]
  refine readL (.bool true) rfl (by kernel_rfl) ?_
  simp only [aP, lI, l0, lS]
  first | show Exit.then _ _ _ _ _ | show Exit.inBlock _ _ _ _ _
  go_upto_region 2 with fail
  refine wp_region_list ?_
  refine actL (w' := w1.alloc (.cells #[] 5)) (.slice (some ⟨w1.heap.size, 0, none⟩) 0 0) rfl (by kernel_rfl) ?_
  simp only [aP, lI, l0, lS]
  have O_1 : OwnL (w1.alloc (.cells #[] 5)) w.heap.size [] (.slice (some ⟨w1.heap.size, 0, none⟩) 0 0) := Own.lit w1 w.heap.size 5 .u8 0 (bl []) M.below.size (by unfold maxLen; omega)
  replace M := M.call ((Below.refl w1.heap.size w1).alloc (Nat.le_refl _) (.cells #[] 5))
  generalize w1.alloc (.cells #[] 5) = w2 at M O_1 ⊢
  generalize hp1 : (some ⟨w1.heap.size, 0, none⟩ : Option Addr) = p1 at O_1 ⊢
  clear hp1
  refine readL (.slice sp b.length cap) rfl (by kernel_rfl) ?_
  simp only [aP, lI, l0, lS]
  obtain ⟨v, w3, hr, O_3, hgr, _⟩ := run_append_Own (P := Tryd.prog) (ty := 22) Tryd.underlying22 one8 O_1 sp b.length cap (bl b) (hs.below M.below (Nat.le_refl _)) hnil (by unfold maxLen; rw [List.length_nil]; omega) (by rw [List.length_nil]; omega) M.below.size
  replace M := M.grown hgr w.heap.size (fun p hp => by cases hp) (Nat.le_refl _) M.below.size (fun b hb => (World.ownsRow.lt O_1 b hb).1)
  replace O_3 : OwnL w3 w.heap.size b v := OwnL.app (a := []) O_3
  refine actL v rfl (appendOp _ _ 22 _ _ _ rfl rfl rfl hr) ?_
  simp only [aP, lI, l0, lS]
  clear hr hgr O_1
  obtain ⟨p3, c3, rfl, _, _⟩ := O_3.bytes
  refine readL (.slice p3 b.length c3) rfl (by kernel_rfl) ?_
  simp only [aP, lI, l0, lS]
  first | show Exit.then _ _ _ _ _ | show Exit.inBlock _ _ _ _ _
  go_upto_region 3 with fail
  refine wp_region_list ?_
  refine readL (.slice p3 b.length c3) rfl (by kernel_rfl) ?_
  simp only [aP, lI, l0, lS]
  refine callL rfl (fun _ => by kernel_rfl) (hD p3 c3 b _ (hg.mm M) hlen O_3.le O_3.nilCap hb O_3.src) ?_
  rintro e w4 ⟨⟨bp4, bc4, rfl, F_4⟩, l⟩
  replace M := M.call l
  replace O_3 := O_3.below l
  clear l

  unfold pcs
  refine ⟨_, rfl, ?_⟩
  simp only [aP, lI, l0, lS]
  refine readL (.tuple #[.agg #[.int .i64 ((psP b).kind), .int .i64 ((psP b).role), .int .i64 ((psP b).path), .int .i64 ((psP b).epo), .int .i64 ((psP b).ctr), .slice bp4 ((psP b).body.length) bc4], .int .i64 (psE b)]) rfl (by kernel_rfl) ?_
  simp only [aP, lI, l0, lS]
  refine readL (.agg #[.int .i64 ((psP b).kind), .int .i64 ((psP b).role), .int .i64 ((psP b).path), .int .i64 ((psP b).epo), .int .i64 ((psP b).ctr), .slice bp4 ((psP b).body.length) bc4]) rfl (by kernel_rfl) ?_
  simp only [aP, lI, l0, lS]
  refine readL (.int .i64 (psE b)) rfl (by kernel_rfl) ?_
  simp only [aP, lI, l0, lS]
  have hnew := Below.refl w4.heap.size w4
  have hnz := Nat.le_refl w4.heap.size
  refine actL (w' := w4.alloc (.cells #[.int .i64 0, .int .i64 0, .int .i64 0, .int .i64 0, .int .i64 0, .slice none 0 0] 24)) (.pointer (some ⟨w4.heap.size, 0, none⟩)) rfl (by kernel_rfl) ?_
  simp only [aP, lI, l0, lS]
  have hlb := (Below.refl w4.heap.size w4).alloc (Nat.le_refl _) (.cells #[.int .i64 0, .int .i64 0, .int .i64 0, .int .i64 0, .int .i64 0, .slice none 0 0] 24)
  replace hnew := hnew.trans (hlb.mono hnew.size)
  clear hlb
  have hB_B5 : w.heap.size ≤ w4.heap.size := M.below.size
  replace M := M.box #[.int .i64 0, .int .i64 0, .int .i64 0, .int .i64 0, .int .i64 0, .slice none 0 0] 24 w4.heap.size rfl
  generalize w4.alloc (.cells #[.int .i64 0, .int .i64 0, .int .i64 0, .int .i64 0, .int .i64 0, .slice none 0 0] 24) = w5 at M hnew ⊢
  generalize eB : w4.heap.size = B5 at M hB_B5  ⊢
  have hE_B5 : w4.heap.size ≤ B5 := Nat.le_of_eq eB
  have hF_B5 : B5 ≤ w4.heap.size := Nat.le_of_eq eB.symm
  clear eB
  replace M : Mm w ([(B5, [.int .i64 0, .int .i64 0, .int .i64 0, .int .i64 0, .int .i64 0, .slice none 0 0])]) w5 := M
  refine skipOpL rfl (storeP [.int .i64 ((psP b).kind), .int .i64 ((psP b).role), .int .i64 ((psP b).path), .int .i64 ((psP b).epo), .int .i64 ((psP b).ctr), .slice bp4 ((psP b).body.length) bc4] B5 0 24 _ _ rfl rfl rfl (M.thereP List.mem_cons_self 0 6 (Nat.le_of_ble_eq_true rfl)) (by kernel_rfl) (List.all_eq_true.1 (rfl : ([.int .i64 ((psP b).kind), .int .i64 ((psP b).role), .int .i64 ((psP b).path), .int .i64 ((psP b).epo), .int .i64 ((psP b).ctr), .slice bp4 ((psP b).body.length) bc4] : List Value).all (fun u => u.oneCell') = true))) ?_
  simp only [Act.put]
  replace M := M.setPart [.int .i64 ((psP b).kind), .int .i64 ((psP b).role), .int .i64 ((psP b).path), .int .i64 ((psP b).epo), .int .i64 ((psP b).ctr), .slice bp4 ((psP b).body.length) bc4] 0 (Nat.le_of_ble_eq_true rfl)
  replace hnew := below_setAll hnew B5 (by have := hnew.size; omega) 0 [.int .i64 ((psP b).kind), .int .i64 ((psP b).role), .int .i64 ((psP b).path), .int .i64 ((psP b).epo), .int .i64 ((psP b).ctr), .slice bp4 ((psP b).body.length) bc4]
  generalize w5.setCells B5 0 [.int .i64 ((psP b).kind), .int .i64 ((psP b).role), .int .i64 ((psP b).path), .int .i64 ((psP b).epo), .int .i64 ((psP b).ctr), .slice bp4 ((psP b).body.length) bc4] = w6 at M hnew ⊢
  replace M : Mm w ([(B5, [.int .i64 ((psP b).kind), .int .i64 ((psP b).role), .int .i64 ((psP b).path), .int .i64 ((psP b).epo), .int .i64 ((psP b).ctr), .slice bp4 ((psP b).body.length) bc4])]) w6 := M
  refine readL (.int .i64 (psE b)) rfl (by kernel_rfl) ?_
  simp only [aP, lI, l0, lS]
  first | show Exit.then _ _ _ _ _ | show Exit.inBlock _ _ _ _ _
  replace O_3 := O_3.below hnew
  replace F_4 := F_4.below hnew (Nat.le_refl _)
  clear hnew hnz
  go_upto_region 4 with fail
  refine wp_region_list ?_
  refine readL (.slice sp b.length cap) rfl (by kernel_rfl) ?_
  simp only [aP, lI, l0, lS]
  refine callL rfl (fun _ => by kernel_rfl) (rparse_any sp cap b _ hlen hcap hnil hb (hs.below M.below (Nat.le_refl _))) ?_
  rintro e w7 ⟨⟨bp7, bc7, rfl, F_7⟩, l⟩
  replace M := M.call l
  replace O_3 := O_3.below l
  replace F_4 := F_4.below l (Nat.le_refl _)
  clear l

  unfold pcs
  refine ⟨_, rfl, ?_⟩
  simp only [aP, lI, l0, lS]
  refine readL (.tuple #[.agg #[.int .i64 ((psP b).kind), .int .i64 ((psP b).role), .int .i64 ((psP b).path), .int .i64 ((psP b).epo), .int .i64 ((psP b).ctr), .slice bp7 ((psP b).body.length) bc7], .int .i64 (psE b)]) rfl (by kernel_rfl) ?_
  simp only [aP, lI, l0, lS]
  refine readL (.agg #[.int .i64 ((psP b).kind), .int .i64 ((psP b).role), .int .i64 ((psP b).path), .int .i64 ((psP b).epo), .int .i64 ((psP b).ctr), .slice bp7 ((psP b).body.length) bc7]) rfl (by kernel_rfl) ?_
  simp only [aP, lI, l0, lS]
  refine readL (.int .i64 (psE b)) rfl (by kernel_rfl) ?_
  simp only [aP, lI, l0, lS]
  have hnew := Below.refl w7.heap.size w7
  have hnz := Nat.le_refl w7.heap.size
  refine actL (w' := w7.alloc (.cells #[.int .i64 0, .int .i64 0, .int .i64 0, .int .i64 0, .int .i64 0, .slice none 0 0] 24)) (.pointer (some ⟨w7.heap.size, 0, none⟩)) rfl (by kernel_rfl) ?_
  simp only [aP, lI, l0, lS]
  have hlb := (Below.refl w7.heap.size w7).alloc (Nat.le_refl _) (.cells #[.int .i64 0, .int .i64 0, .int .i64 0, .int .i64 0, .int .i64 0, .slice none 0 0] 24)
  replace hnew := hnew.trans (hlb.mono hnew.size)
  clear hlb
  have hB_B8 : w.heap.size ≤ w7.heap.size := M.below.size
  replace M := M.box #[.int .i64 0, .int .i64 0, .int .i64 0, .int .i64 0, .int .i64 0, .slice none 0 0] 24 w7.heap.size rfl
  generalize w7.alloc (.cells #[.int .i64 0, .int .i64 0, .int .i64 0, .int .i64 0, .int .i64 0, .slice none 0 0] 24) = w8 at M hnew ⊢
  generalize eB : w7.heap.size = B8 at M hB_B8  ⊢
  have hE_B8 : w7.heap.size ≤ B8 := Nat.le_of_eq eB
  have hF_B8 : B8 ≤ w7.heap.size := Nat.le_of_eq eB.symm
  clear eB
  replace M : Mm w ([(B8, [.int .i64 0, .int .i64 0, .int .i64 0, .int .i64 0, .int .i64 0, .slice none 0 0]), (B5, [.int .i64 ((psP b).kind), .int .i64 ((psP b).role), .int .i64 ((psP b).path), .int .i64 ((psP b).epo), .int .i64 ((psP b).ctr), .slice bp4 ((psP b).body.length) bc4])]) w8 := M
  refine skipOpL rfl (storeP [.int .i64 ((psP b).kind), .int .i64 ((psP b).role), .int .i64 ((psP b).path), .int .i64 ((psP b).epo), .int .i64 ((psP b).ctr), .slice bp7 ((psP b).body.length) bc7] B8 0 24 _ _ rfl rfl rfl (M.thereP List.mem_cons_self 0 6 (Nat.le_of_ble_eq_true rfl)) (by kernel_rfl) (List.all_eq_true.1 (rfl : ([.int .i64 ((psP b).kind), .int .i64 ((psP b).role), .int .i64 ((psP b).path), .int .i64 ((psP b).epo), .int .i64 ((psP b).ctr), .slice bp7 ((psP b).body.length) bc7] : List Value).all (fun u => u.oneCell') = true))) ?_
  simp only [Act.put]
  replace M := M.setPart [.int .i64 ((psP b).kind), .int .i64 ((psP b).role), .int .i64 ((psP b).path), .int .i64 ((psP b).epo), .int .i64 ((psP b).ctr), .slice bp7 ((psP b).body.length) bc7] 0 (Nat.le_of_ble_eq_true rfl)
  replace hnew := below_setAll hnew B8 (by have := hnew.size; omega) 0 [.int .i64 ((psP b).kind), .int .i64 ((psP b).role), .int .i64 ((psP b).path), .int .i64 ((psP b).epo), .int .i64 ((psP b).ctr), .slice bp7 ((psP b).body.length) bc7]
  generalize w8.setCells B8 0 [.int .i64 ((psP b).kind), .int .i64 ((psP b).role), .int .i64 ((psP b).path), .int .i64 ((psP b).epo), .int .i64 ((psP b).ctr), .slice bp7 ((psP b).body.length) bc7] = w9 at M hnew ⊢
  replace M : Mm w ([(B8, [.int .i64 ((psP b).kind), .int .i64 ((psP b).role), .int .i64 ((psP b).path), .int .i64 ((psP b).epo), .int .i64 ((psP b).ctr), .slice bp7 ((psP b).body.length) bc7]), (B5, [.int .i64 ((psP b).kind), .int .i64 ((psP b).role), .int .i64 ((psP b).path), .int .i64 ((psP b).epo), .int .i64 ((psP b).ctr), .slice bp4 ((psP b).body.length) bc4])]) w9 := M
  refine readL (.int .i64 (psE b)) rfl (by kernel_rfl) ?_
  simp only [aP, lI, l0, lS]
  first | show Exit.then _ _ _ _ _ | show Exit.inBlock _ _ _ _ _
  replace O_3 := O_3.below hnew
  replace F_4 := F_4.below hnew (Nat.le_refl _)
  replace F_7 := F_7.below hnew (Nat.le_refl _)
  clear hnew hnz
  go_upto_region 5 with fail
  refine wp_region_list ?_
  refine readL (.agg #[.int .i64 ((psP b).kind), .int .i64 ((psP b).role), .int .i64 ((psP b).path), .int .i64 ((psP b).epo), .int .i64 ((psP b).ctr), .slice bp4 ((psP b).body.length) bc4]) rfl (loadN 24 _ ⟨B5, 0, none⟩ [.int .i64 ((psP b).kind), .int .i64 ((psP b).role), .int .i64 ((psP b).path), .int .i64 ((psP b).epo), .int .i64 ((psP b).ctr), .slice bp4 ((psP b).body.length) bc4] rfl rfl (fun _ => by kernel_rfl) (fun _ => by kernel_rfl) (M.rangeAt (List.mem_cons_of_mem _ List.mem_cons_self))) ?_
  simp only [aP, lI, l0, lS]
  refine readL (.agg #[.int .i64 ((psP b).kind), .int .i64 ((psP b).role), .int .i64 ((psP b).path), .int .i64 ((psP b).epo), .int .i64 ((psP b).ctr), .slice bp7 ((psP b).body.length) bc7]) rfl (loadN 24 _ ⟨B8, 0, none⟩ [.int .i64 ((psP b).kind), .int .i64 ((psP b).role), .int .i64 ((psP b).path), .int .i64 ((psP b).epo), .int .i64 ((psP b).ctr), .slice bp7 ((psP b).body.length) bc7] rfl rfl (fun _ => by kernel_rfl) (fun _ => by kernel_rfl) (M.rangeAt List.mem_cons_self)) ?_
  simp only [aP, lI, l0, lS]
  have hC : Calls Tryd.prog 17 #[.agg #[.int .i64 ((psP b).kind), .int .i64 ((psP b).role), .int .i64 ((psP b).path), .int .i64 ((psP b).epo), .int .i64 ((psP b).ctr), .slice bp4 ((psP b).body.length) bc4], .agg #[.int .i64 ((psP b).kind), .int .i64 ((psP b).role), .int .i64 ((psP b).path), .int .i64 ((psP b).epo), .int .i64 ((psP b).ctr), .slice bp7 ((psP b).body.length) bc7]] w9 (fun e w' => e = .returned (.bool true) ∧ Below w9.heap.size w9 w') := pksame_any (psP b) bp4 bc4 bp7 bc7 _ F_4 F_7
  refine callL rfl (fun _ => by kernel_rfl) (hC) ?_
  rintro e w10 ⟨rfl, l⟩
  replace M := M.call l
  refine ⟨_, rfl, ?_⟩
  replace O_3 := O_3.below l
  replace F_4 := F_4.below l (Nat.le_refl _)
  replace F_7 := F_7.below l (Nat.le_refl _)
  clear l hC
  simp only [aP, lI, l0, lS]
  refine readL (.bool true) rfl (by kernel_rfl) ?_
  simp only [aP, lI, l0, lS]
  first | show Exit.then _ _ _ _ _ | show Exit.inBlock _ _ _ _ _
  go_upto_region 6 with fail
  refine wp_region_list ?_
  refine readL (.bool true) rfl (by kernel_rfl) ?_
  simp only [aP, lI, l0, lS]
  refine readL (.bool true) rfl (by kernel_rfl) ?_
  simp only [aP, lI, l0, lS]
  refine readL (.bool true) rfl (by kernel_rfl) ?_
  simp only [aP, lI, l0, lS]
  refine readL (.bool true) rfl (by kernel_rfl) ?_
  simp only [aP, lI, l0, lS]
  refine readL (.bool true) rfl (by kernel_rfl) ?_
  simp only [aP, lI, l0, lS]
  refine readL (.int .i64 (psE b)) rfl (by kernel_rfl) ?_
  simp only [aP, lI, l0, lS]
  refine readL (.int .i64 (psE b)) rfl (by kernel_rfl) ?_
  simp only [aP, lI, l0, lS]
  refine readL (.bool true) rfl (eqlI .i64 _ _ _ _ _ _ rfl rfl rfl true (beq_self_eq_true _) _) ?_
  simp only [aP, lI, l0, lS]
  refine readL (.bool true) rfl (by kernel_rfl) ?_
  simp only [aP, lI, l0, lS]
  refine readL (.bool true) rfl (by kernel_rfl) ?_
  simp only [aP, lI, l0, lS]
  refine readL (.slice p3 b.length c3) rfl (by kernel_rfl) ?_
  simp only [aP, lI, l0, lS]
  refine readL (.string (txt b.length (bl b))) rfl (conv_txt 22 5 9 _ rfl Tryd.underlying22 Tryd.underlying5 Tryd.underlying9 p3 b.length c3 (bl b) rfl _ O_3.src (fun e => by have h1 := O_3.nilCap e; have h2 := O_3.le; omega)) ?_
  simp only [aP, lI, l0, lS]
  refine readL (.slice sp b.length cap) rfl (by kernel_rfl) ?_
  simp only [aP, lI, l0, lS]
  refine readL (.string (txt b.length (bl b))) rfl (conv_txt 22 5 9 _ rfl Tryd.underlying22 Tryd.underlying5 Tryd.underlying9 sp b.length cap (bl b) rfl _ (hs.below M.below (Nat.le_refl _)) (fun e => by have h1 := hnil e; omega)) ?_
  simp only [aP, lI, l0, lS]
  refine readL (.bool true) rfl (eqlS _ _ _ _ _ _ rfl rfl rfl rfl _) ?_
  simp only [aP, lI, l0, lS]
  refine readL (.bool true) rfl (by kernel_rfl) ?_
  simp only [aP, lI, l0, lS]
  refine readL (.bool true) rfl (by kernel_rfl) ?_
  simp only [aP, lI, l0, lS]
  first | show Exit.then _ _ _ _ _ | show Exit.inBlock _ _ _ _ _
  go_wp2
  go_ret
  exact ⟨rfl, M.below⟩
end Go.Proofs.YtbhhboiofepnhaaDoor

namespace Go.Proofs.YtbhhboiofepnhaaDoor
open Go.RowKit

def pinb (n a b : Int) : Bool := decide (n ≥ a) && decide (n ≤ b)
theorem pinb_iff {n a b : Int} : pinb n a b = true ↔ a ≤ n ∧ n ≤ b := by unfold pinb; simp

set_option maxRecDepth 10000 in
set_option maxHeartbeats 32000000 in
theorem pwithin_any (n least most : Int) (w : World) :
    Calls Tryd.prog 27 #[.int .i64 n, .int .i64 least, .int .i64 most] w fun e w' => e = .returned (.bool (pinb n least most)) ∧ Below w.heap.size w w' := by
  have M := Mm.init w
  go_enter Tryd.func27, Tryd.ntmps27
  go_upto_region 0 with fail
  refine wp_region_list ?_
  refine readL (.bool false) rfl (by kernel_rfl) ?_
  simp only [aP, lI, l0, lS]
  first | show Exit.then _ _ _ _ _ | show Exit.inBlock _ _ _ _ _
  go_upto_region 1 with fail
  refine wp_region_list ?_
  refine readL (.int .i64 n) rfl (by kernel_rfl) ?_
  simp only [aP, lI, l0, lS]
  refine readL (.int .i64 least) rfl (by kernel_rfl) ?_
  simp only [aP, lI, l0, lS]
  obtain ⟨b1, hb1⟩ : ∃ y_, y_ = (decide (n ≥ least)) := ⟨_, rfl⟩
  refine readL (.bool b1) rfl (geqI .i64 _ _ _ _ _ _ rfl rfl rfl b1 hb1.symm _) ?_
  simp only [aP, lI, l0, lS]
  refine readL (.bool b1) rfl (by kernel_rfl) ?_
  simp only [aP, lI, l0, lS]
  refine mayL (b1) (.int .i64 n) ((bif b1 then (.int .i64 n) else undef)) (by cases b1 <;> rfl) (by cases b1 <;> rfl) (fun hc => by cases b1 <;> first | (cases hc; done) | kernel_rfl) ?_
  simp only [aP, lI, l0, lS]
  refine mayL (b1) (.int .i64 most) ((bif b1 then (.int .i64 most) else undef)) (by cases b1 <;> rfl) (by cases b1 <;> rfl) (fun hc => by cases b1 <;> first | (cases hc; done) | kernel_rfl) ?_
  simp only [aP, lI, l0, lS]
  obtain ⟨b2, hb2⟩ : ∃ y_, y_ = (decide (n ≤ most)) := ⟨_, rfl⟩
  refine mayL (b1) (.bool b2) ((bif b1 then (.bool b2) else undef)) (by cases b1 <;> rfl) (by cases b1 <;> rfl) (fun hc => by cases b1 <;> first | (cases hc; done) | exact (leqI .i64 _ _ _ _ _ _ rfl rfl rfl b2 hb2.symm _)) ?_
  simp only [aP, lI, l0, lS]
  obtain ⟨b3, hb3⟩ : ∃ y_, y_ = (b1 && b2) := ⟨_, rfl⟩
  refine readL (.bool b3) rfl (by subst hb3; cases b1 <;> rfl) ?_
  simp only [aP, lI, l0, lS]
  refine readL (.bool b3) rfl (by kernel_rfl) ?_
  simp only [aP, lI, l0, lS]
  first | show Exit.then _ _ _ _ _ | show Exit.inBlock _ _ _ _ _
  have hK := show Hid _ from (show b3 = pinb n least most by simp only [hb1, hb2, hb3]; rfl)
  try clear hb1
  try clear hb2
  try clear hb3
  go_wp2
  go_ret
  exact ⟨by rw [← hK.out] <;> rfl, M.below⟩

set_option maxRecDepth 10000 in
set_option maxHeartbeats 32000000 in
theorem pmay_any (p : Pkt) (bp : Option Addr) (bc : Nat) (w : World) : Calls Tryd.prog 19 #[.agg (pcs p bp bc).toArray] w fun e w' => e = .returned (.bool (pok p)) ∧ Below w.heap.size w w' := by
  have M := Mm.init w
  unfold pcs
  go_enter Tryd.func19, Tryd.ntmps19
  go_upto_region 0 with fail
  refine wp_region_list ?_
  refine actL (w' := w.alloc (.cells #[.int .i64 p.kind, .int .i64 p.role, .int .i64 p.path, .int .i64 p.epo, .int .i64 p.ctr, .slice bp p.body.length bc] 24)) (.pointer (some ⟨w.heap.size, 0, none⟩)) rfl (by kernel_rfl) ?_
  simp only [aP, lI, l0, lS]
  have hB_B1 : w.heap.size ≤ w.heap.size := M.below.size
  replace M := M.box #[.int .i64 p.kind, .int .i64 p.role, .int .i64 p.path, .int .i64 p.epo, .int .i64 p.ctr, .slice bp p.body.length bc] 24 w.heap.size rfl
  generalize w.alloc (.cells #[.int .i64 p.kind, .int .i64 p.role, .int .i64 p.path, .int .i64 p.epo, .int .i64 p.ctr, .slice bp p.body.length bc] 24) = w1 at M  ⊢
  generalize eB : w.heap.size = B1 at M hB_B1  ⊢
  have hE_B1 : w.heap.size ≤ B1 := Nat.le_of_eq eB
  have hF_B1 : B1 ≤ w.heap.size := Nat.le_of_eq eB.symm
  clear eB
  replace M : Mm w ([(B1, [.int .i64 p.kind, .int .i64 p.role, .int .i64 p.path, .int .i64 p.epo, .int .i64 p.ctr, .slice bp p.body.length bc])]) w1 := M
  refine readL (.bool false) rfl (by kernel_rfl) ?_
  simp only [aP, lI, l0, lS]
  first | show Exit.then _ _ _ _ _ | show Exit.inBlock _ _ _ _ _
  go_upto_region 1 with fail
  refine wp_region_list ?_
  refine readL (.pointer (some ⟨B1, 0, none⟩)) rfl (by kernel_rfl) ?_
  simp only [aP, lI, l0, lS]
  refine readL (.int .i64 p.kind) rfl (load1 3 _ ⟨B1, 0, none⟩ _ rfl rfl (fun _ => by kernel_rfl) (M.get List.mem_cons_self 0 _ rfl)) ?_
  simp only [aP, lI, l0, lS]
  first | show Exit.then _ _ _ _ _ | show Exit.inBlock _ _ _ _ _
  go_upto_region 2 with fail
  refine wp_region_list ?_
  obtain ⟨b1, hb1⟩ : ∃ y_, y_ = ((p.kind : Int) == (1 : Int)) := ⟨_, rfl⟩
  refine readL (.bool b1) rfl (eqlI .i64 _ _ _ _ _ _ rfl rfl rfl b1 hb1.symm _) ?_
  simp only [aP, lI, l0, lS]
  refine readL (.bool b1) rfl (by kernel_rfl) ?_
  simp only [aP, lI, l0, lS]
  first | show Exit.then _ _ _ _ _ | show Exit.inBlock _ _ _ _ _
  cases b1 with
  | true =>
    have k1 : p.kind = 1 := by simpa using hb1.symm
    go_upto_region 4 with fail
    refine wp_region_list ?_
    refine readL (.pointer (some ⟨B1, 1, none⟩)) rfl (by kernel_rfl) ?_
    simp only [aP, lI, l0, lS]
    refine readL (.int .i64 p.role) rfl (load1 3 _ ⟨B1, 1, none⟩ _ rfl rfl (fun _ => by kernel_rfl) (M.get List.mem_cons_self 1 _ rfl)) ?_
    simp only [aP, lI, l0, lS]
    obtain ⟨b2, hb2⟩ : ∃ y_, y_ = ((p.role : Int) == (0 : Int)) := ⟨_, rfl⟩
    refine readL (.bool b2) rfl (eqlI .i64 _ _ _ _ _ _ rfl rfl rfl b2 hb2.symm _) ?_
    simp only [aP, lI, l0, lS]
    refine readL (.bool b2) rfl (by kernel_rfl) ?_
    simp only [aP, lI, l0, lS]
    refine mayL (b2) (.pointer (some ⟨B1, 2, none⟩)) ((bif b2 then (.pointer (some ⟨B1, 2, none⟩)) else undef)) (by cases b2 <;> rfl) (by cases b2 <;> rfl) (fun hc => by cases b2 <;> first | (cases hc; done) | kernel_rfl) ?_
    simp only [aP, lI, l0, lS]
    refine mayL (b2) (.int .i64 p.path) ((bif b2 then (.int .i64 p.path) else undef)) (by cases b2 <;> rfl) (by cases b2 <;> rfl) (fun hc => by cases b2 <;> first | (cases hc; done) | exact (load1 3 _ ⟨B1, 2, none⟩ _ rfl rfl (fun _ => by kernel_rfl) (M.get List.mem_cons_self 2 _ rfl))) ?_
    simp only [aP, lI, l0, lS]
    obtain ⟨b3, hb3⟩ : ∃ y_, y_ = ((p.path : Int) == (0 : Int)) := ⟨_, rfl⟩
    refine mayL (b2) (.bool b3) ((bif b2 then (.bool b3) else undef)) (by cases b2 <;> rfl) (by cases b2 <;> rfl) (fun hc => by cases b2 <;> first | (cases hc; done) | exact (eqlI .i64 _ _ _ _ _ _ rfl rfl rfl b3 hb3.symm _)) ?_
    simp only [aP, lI, l0, lS]
    obtain ⟨b4, hb4⟩ : ∃ y_, y_ = (b2 && b3) := ⟨_, rfl⟩
    refine readL (.bool b4) rfl (by subst hb4; cases b2 <;> rfl) ?_
    simp only [aP, lI, l0, lS]
    refine readL (.bool b4) rfl (by kernel_rfl) ?_
    simp only [aP, lI, l0, lS]
    refine mayL (b4) (.pointer (some ⟨B1, 3, none⟩)) ((bif b4 then (.pointer (some ⟨B1, 3, none⟩)) else undef)) (by cases b4 <;> rfl) (by cases b4 <;> rfl) (fun hc => by cases b4 <;> first | (cases hc; done) | kernel_rfl) ?_
    simp only [aP, lI, l0, lS]
    refine mayL (b4) (.int .i64 p.epo) ((bif b4 then (.int .i64 p.epo) else undef)) (by cases b4 <;> rfl) (by cases b4 <;> rfl) (fun hc => by cases b4 <;> first | (cases hc; done) | exact (load1 3 _ ⟨B1, 3, none⟩ _ rfl rfl (fun _ => by kernel_rfl) (M.get List.mem_cons_self 3 _ rfl))) ?_
    simp only [aP, lI, l0, lS]
    obtain ⟨b5, hb5⟩ : ∃ y_, y_ = ((p.epo : Int) == (0 : Int)) := ⟨_, rfl⟩
    refine mayL (b4) (.bool b5) ((bif b4 then (.bool b5) else undef)) (by cases b4 <;> rfl) (by cases b4 <;> rfl) (fun hc => by cases b4 <;> first | (cases hc; done) | exact (eqlI .i64 _ _ _ _ _ _ rfl rfl rfl b5 hb5.symm _)) ?_
    simp only [aP, lI, l0, lS]
    obtain ⟨b6, hb6⟩ : ∃ y_, y_ = (b4 && b5) := ⟨_, rfl⟩
    refine readL (.bool b6) rfl (by subst hb6; cases b4 <;> rfl) ?_
    simp only [aP, lI, l0, lS]
    refine readL (.bool b6) rfl (by kernel_rfl) ?_
    simp only [aP, lI, l0, lS]
    refine mayL (b6) (.pointer (some ⟨B1, 4, none⟩)) ((bif b6 then (.pointer (some ⟨B1, 4, none⟩)) else undef)) (by cases b6 <;> rfl) (by cases b6 <;> rfl) (fun hc => by cases b6 <;> first | (cases hc; done) | kernel_rfl) ?_
    simp only [aP, lI, l0, lS]
    refine mayL (b6) (.int .i64 p.ctr) ((bif b6 then (.int .i64 p.ctr) else undef)) (by cases b6 <;> rfl) (by cases b6 <;> rfl) (fun hc => by cases b6 <;> first | (cases hc; done) | exact (load1 3 _ ⟨B1, 4, none⟩ _ rfl rfl (fun _ => by kernel_rfl) (M.get List.mem_cons_self 4 _ rfl))) ?_
    simp only [aP, lI, l0, lS]
    obtain ⟨b7, hb7⟩ : ∃ y_, y_ = ((p.ctr : Int) == (0 : Int)) := ⟨_, rfl⟩
    refine mayL (b6) (.bool b7) ((bif b6 then (.bool b7) else undef)) (by cases b6 <;> rfl) (by cases b6 <;> rfl) (fun hc => by cases b6 <;> first | (cases hc; done) | exact (eqlI .i64 _ _ _ _ _ _ rfl rfl rfl b7 hb7.symm _)) ?_
    simp only [aP, lI, l0, lS]
    obtain ⟨b8, hb8⟩ : ∃ y_, y_ = (b6 && b7) := ⟨_, rfl⟩
    refine readL (.bool b8) rfl (by subst hb8; cases b6 <;> rfl) ?_
    simp only [aP, lI, l0, lS]
    refine readL (.bool b8) rfl (by kernel_rfl) ?_
    simp only [aP, lI, l0, lS]
    refine mayL (b8) (.pointer (some ⟨B1, 5, none⟩)) ((bif b8 then (.pointer (some ⟨B1, 5, none⟩)) else undef)) (by cases b8 <;> rfl) (by cases b8 <;> rfl) (fun hc => by cases b8 <;> first | (cases hc; done) | kernel_rfl) ?_
    simp only [aP, lI, l0, lS]
    refine mayL (b8) (.slice bp p.body.length bc) ((bif b8 then (.slice bp p.body.length bc) else undef)) (by cases b8 <;> rfl) (by cases b8 <;> rfl) (fun hc => by cases b8 <;> first | (cases hc; done) | exact (load1 22 _ ⟨B1, 5, none⟩ _ rfl rfl (fun _ => by kernel_rfl) (M.get List.mem_cons_self 5 _ rfl))) ?_
    simp only [aP, lI, l0, lS]
    refine mayL (b8) (.int .i64 ((p.body.length : Nat) : Int)) ((bif b8 then (.int .i64 ((p.body.length : Nat) : Int)) else undef)) (by cases b8 <;> rfl) (by cases b8 <;> rfl) (fun hc => by cases b8 <;> first | (cases hc; done) | exact (lenS _ 22 5 bp p.body.length bc rfl Tryd.underlying22 rfl _)) ?_
    simp only [aP, lI, l0, lS]
    obtain ⟨b9, hb9⟩ : ∃ y_, y_ = (pinb ((p.body.length : Nat) : Int) 1 300) := ⟨_, rfl⟩
    have hC : Calls Tryd.prog 27 #[.int .i64 ((p.body.length : Nat) : Int), .int .i64 1, .int .i64 300] w1 (fun e w' => e = .returned (.bool b9) ∧ Below w1.heap.size w1 w') := (by rw [hb9]; exact pwithin_any _ _ _ _)
    refine mayCallL (b8) (.bool b9) ((bif b8 then (.bool b9) else undef)) 27 #[.int .i64 ((p.body.length : Nat) : Int), .int .i64 1, .int .i64 300] (by cases b8 <;> rfl) (by cases b8 <;> rfl) (fun hc => by cases b8 <;> first | (cases hc; done) | (intro _; kernel_rfl)) (fun _ => hC) ?_
    intro w2 l
    replace M := M.call l
    clear l hC
    simp only [aP, lI, l0, lS]
    obtain ⟨b10, hb10⟩ : ∃ y_, y_ = (b8 && b9) := ⟨_, rfl⟩
    refine readL (.bool b10) rfl (by subst hb10; cases b8 <;> rfl) ?_
    simp only [aP, lI, l0, lS]
    refine readL (.bool b10) rfl (by kernel_rfl) ?_
    simp only [aP, lI, l0, lS]
    first | show Exit.then _ _ _ _ _ | show Exit.inBlock _ _ _ _ _
    have hA : b10 = pok p := by
      rw [pok_hlo (by omega)]
      apply Bool.eq_iff_iff.2
      simp only [hb2, hb3, hb4, hb5, hb6, hb7, hb8, hb9, hb10, Bool.and_eq_true, decide_eq_true_eq, beq_iff_eq, pinb_iff]
      unfold Hlo
      omega
    replace hA := show Hid _ from hA
    try clear hb1
    try clear hb2
    try clear hb3
    try clear hb4
    try clear hb5
    try clear hb6
    try clear hb7
    try clear hb8
    try clear hb9
    try clear hb10
    try clear k1
    try clear k2
    try clear k3
    go_wp2
    go_ret
    exact ⟨by rw [← hA.out] <;> rfl, M.below⟩
  | false =>
    have k1 : ¬ p.kind = 1 := by simpa using hb1.symm
    go_upto_region 3 with fail
    refine wp_region_list ?_
    obtain ⟨b11, hb11⟩ : ∃ y_, y_ = ((p.kind : Int) == (2 : Int)) := ⟨_, rfl⟩
    refine readL (.bool b11) rfl (eqlI .i64 _ _ _ _ _ _ rfl rfl rfl b11 hb11.symm _) ?_
    simp only [aP, lI, l0, lS]
    refine readL (.bool b11) rfl (by kernel_rfl) ?_
    simp only [aP, lI, l0, lS]
    first | show Exit.then _ _ _ _ _ | show Exit.inBlock _ _ _ _ _
    cases b11 with
    | true =>
      have k2 : p.kind = 2 := by simpa using hb11.symm
      go_upto_region 4 with fail
      refine wp_region_list ?_
      refine readL (.pointer (some ⟨B1, 1, none⟩)) rfl (by kernel_rfl) ?_
      simp only [aP, lI, l0, lS]
      refine readL (.int .i64 p.role) rfl (load1 3 _ ⟨B1, 1, none⟩ _ rfl rfl (fun _ => by kernel_rfl) (M.get List.mem_cons_self 1 _ rfl)) ?_
      simp only [aP, lI, l0, lS]
      obtain ⟨b12, hb12⟩ : ∃ y_, y_ = ((p.role : Int) == (0 : Int)) := ⟨_, rfl⟩
      refine readL (.bool b12) rfl (eqlI .i64 _ _ _ _ _ _ rfl rfl rfl b12 hb12.symm _) ?_
      simp only [aP, lI, l0, lS]
      refine readL (.bool b12) rfl (by kernel_rfl) ?_
      simp only [aP, lI, l0, lS]
      refine mayL (b12) (.pointer (some ⟨B1, 2, none⟩)) ((bif b12 then (.pointer (some ⟨B1, 2, none⟩)) else undef)) (by cases b12 <;> rfl) (by cases b12 <;> rfl) (fun hc => by cases b12 <;> first | (cases hc; done) | kernel_rfl) ?_
      simp only [aP, lI, l0, lS]
      refine mayL (b12) (.int .i64 p.path) ((bif b12 then (.int .i64 p.path) else undef)) (by cases b12 <;> rfl) (by cases b12 <;> rfl) (fun hc => by cases b12 <;> first | (cases hc; done) | exact (load1 3 _ ⟨B1, 2, none⟩ _ rfl rfl (fun _ => by kernel_rfl) (M.get List.mem_cons_self 2 _ rfl))) ?_
      simp only [aP, lI, l0, lS]
      obtain ⟨b13, hb13⟩ : ∃ y_, y_ = ((p.path : Int) == (0 : Int)) := ⟨_, rfl⟩
      refine mayL (b12) (.bool b13) ((bif b12 then (.bool b13) else undef)) (by cases b12 <;> rfl) (by cases b12 <;> rfl) (fun hc => by cases b12 <;> first | (cases hc; done) | exact (eqlI .i64 _ _ _ _ _ _ rfl rfl rfl b13 hb13.symm _)) ?_
      simp only [aP, lI, l0, lS]
      obtain ⟨b14, hb14⟩ : ∃ y_, y_ = (b12 && b13) := ⟨_, rfl⟩
      refine readL (.bool b14) rfl (by subst hb14; cases b12 <;> rfl) ?_
      simp only [aP, lI, l0, lS]
      refine readL (.bool b14) rfl (by kernel_rfl) ?_
      simp only [aP, lI, l0, lS]
      refine mayL (b14) (.pointer (some ⟨B1, 3, none⟩)) ((bif b14 then (.pointer (some ⟨B1, 3, none⟩)) else undef)) (by cases b14 <;> rfl) (by cases b14 <;> rfl) (fun hc => by cases b14 <;> first | (cases hc; done) | kernel_rfl) ?_
      simp only [aP, lI, l0, lS]
      refine mayL (b14) (.int .i64 p.epo) ((bif b14 then (.int .i64 p.epo) else undef)) (by cases b14 <;> rfl) (by cases b14 <;> rfl) (fun hc => by cases b14 <;> first | (cases hc; done) | exact (load1 3 _ ⟨B1, 3, none⟩ _ rfl rfl (fun _ => by kernel_rfl) (M.get List.mem_cons_self 3 _ rfl))) ?_
      simp only [aP, lI, l0, lS]
      obtain ⟨b15, hb15⟩ : ∃ y_, y_ = ((p.epo : Int) == (0 : Int)) := ⟨_, rfl⟩
      refine mayL (b14) (.bool b15) ((bif b14 then (.bool b15) else undef)) (by cases b14 <;> rfl) (by cases b14 <;> rfl) (fun hc => by cases b14 <;> first | (cases hc; done) | exact (eqlI .i64 _ _ _ _ _ _ rfl rfl rfl b15 hb15.symm _)) ?_
      simp only [aP, lI, l0, lS]
      obtain ⟨b16, hb16⟩ : ∃ y_, y_ = (b14 && b15) := ⟨_, rfl⟩
      refine readL (.bool b16) rfl (by subst hb16; cases b14 <;> rfl) ?_
      simp only [aP, lI, l0, lS]
      refine readL (.bool b16) rfl (by kernel_rfl) ?_
      simp only [aP, lI, l0, lS]
      refine mayL (b16) (.pointer (some ⟨B1, 4, none⟩)) ((bif b16 then (.pointer (some ⟨B1, 4, none⟩)) else undef)) (by cases b16 <;> rfl) (by cases b16 <;> rfl) (fun hc => by cases b16 <;> first | (cases hc; done) | kernel_rfl) ?_
      simp only [aP, lI, l0, lS]
      refine mayL (b16) (.int .i64 p.ctr) ((bif b16 then (.int .i64 p.ctr) else undef)) (by cases b16 <;> rfl) (by cases b16 <;> rfl) (fun hc => by cases b16 <;> first | (cases hc; done) | exact (load1 3 _ ⟨B1, 4, none⟩ _ rfl rfl (fun _ => by kernel_rfl) (M.get List.mem_cons_self 4 _ rfl))) ?_
      simp only [aP, lI, l0, lS]
      obtain ⟨b17, hb17⟩ : ∃ y_, y_ = ((p.ctr : Int) == (0 : Int)) := ⟨_, rfl⟩
      refine mayL (b16) (.bool b17) ((bif b16 then (.bool b17) else undef)) (by cases b16 <;> rfl) (by cases b16 <;> rfl) (fun hc => by cases b16 <;> first | (cases hc; done) | exact (eqlI .i64 _ _ _ _ _ _ rfl rfl rfl b17 hb17.symm _)) ?_
      simp only [aP, lI, l0, lS]
      obtain ⟨b18, hb18⟩ : ∃ y_, y_ = (b16 && b17) := ⟨_, rfl⟩
      refine readL (.bool b18) rfl (by subst hb18; cases b16 <;> rfl) ?_
      simp only [aP, lI, l0, lS]
      refine readL (.bool b18) rfl (by kernel_rfl) ?_
      simp only [aP, lI, l0, lS]
      refine mayL (b18) (.pointer (some ⟨B1, 5, none⟩)) ((bif b18 then (.pointer (some ⟨B1, 5, none⟩)) else undef)) (by cases b18 <;> rfl) (by cases b18 <;> rfl) (fun hc => by cases b18 <;> first | (cases hc; done) | kernel_rfl) ?_
      simp only [aP, lI, l0, lS]
      refine mayL (b18) (.slice bp p.body.length bc) ((bif b18 then (.slice bp p.body.length bc) else undef)) (by cases b18 <;> rfl) (by cases b18 <;> rfl) (fun hc => by cases b18 <;> first | (cases hc; done) | exact (load1 22 _ ⟨B1, 5, none⟩ _ rfl rfl (fun _ => by kernel_rfl) (M.get List.mem_cons_self 5 _ rfl))) ?_
      simp only [aP, lI, l0, lS]
      refine mayL (b18) (.int .i64 ((p.body.length : Nat) : Int)) ((bif b18 then (.int .i64 ((p.body.length : Nat) : Int)) else undef)) (by cases b18 <;> rfl) (by cases b18 <;> rfl) (fun hc => by cases b18 <;> first | (cases hc; done) | exact (lenS _ 22 5 bp p.body.length bc rfl Tryd.underlying22 rfl _)) ?_
      simp only [aP, lI, l0, lS]
      obtain ⟨b19, hb19⟩ : ∃ y_, y_ = (pinb ((p.body.length : Nat) : Int) 1 300) := ⟨_, rfl⟩
      have hC : Calls Tryd.prog 27 #[.int .i64 ((p.body.length : Nat) : Int), .int .i64 1, .int .i64 300] w1 (fun e w' => e = .returned (.bool b19) ∧ Below w1.heap.size w1 w') := (by rw [hb19]; exact pwithin_any _ _ _ _)
      refine mayCallL (b18) (.bool b19) ((bif b18 then (.bool b19) else undef)) 27 #[.int .i64 ((p.body.length : Nat) : Int), .int .i64 1, .int .i64 300] (by cases b18 <;> rfl) (by cases b18 <;> rfl) (fun hc => by cases b18 <;> first | (cases hc; done) | (intro _; kernel_rfl)) (fun _ => hC) ?_
      intro w3 l
      replace M := M.call l
      clear l hC
      simp only [aP, lI, l0, lS]
      obtain ⟨b20, hb20⟩ : ∃ y_, y_ = (b18 && b19) := ⟨_, rfl⟩
      refine readL (.bool b20) rfl (by subst hb20; cases b18 <;> rfl) ?_
      simp only [aP, lI, l0, lS]
      refine readL (.bool b20) rfl (by kernel_rfl) ?_
      simp only [aP, lI, l0, lS]
      first | show Exit.then _ _ _ _ _ | show Exit.inBlock _ _ _ _ _
      have hA : b20 = pok p := by
        rw [pok_hlo (by omega)]
        apply Bool.eq_iff_iff.2
        simp only [hb12, hb13, hb14, hb15, hb16, hb17, hb18, hb19, hb20, Bool.and_eq_true, decide_eq_true_eq, beq_iff_eq, pinb_iff]
        unfold Hlo
        omega
      replace hA := show Hid _ from hA
      try clear hb1
      try clear hb11
      try clear hb12
      try clear hb13
      try clear hb14
      try clear hb15
      try clear hb16
      try clear hb17
      try clear hb18
      try clear hb19
      try clear hb20
      try clear k1
      try clear k2
      try clear k3
      go_wp2
      go_ret
      exact ⟨by rw [← hA.out] <;> rfl, M.below⟩
    | false =>
      have k2 : ¬ p.kind = 2 := by simpa using hb11.symm
      go_upto_region 5 with fail
      refine wp_region_list ?_
      obtain ⟨b21, hb21⟩ : ∃ y_, y_ = ((p.kind : Int) == (3 : Int)) := ⟨_, rfl⟩
      refine readL (.bool b21) rfl (eqlI .i64 _ _ _ _ _ _ rfl rfl rfl b21 hb21.symm _) ?_
      simp only [aP, lI, l0, lS]
      refine readL (.bool b21) rfl (by kernel_rfl) ?_
      simp only [aP, lI, l0, lS]
      first | show Exit.then _ _ _ _ _ | show Exit.inBlock _ _ _ _ _
      cases b21 with
      | true =>
        have k3 : p.kind = 3 := by simpa using hb21.symm
        go_upto_region 6 with fail
        refine wp_region_list ?_
        refine readL (.pointer (some ⟨B1, 1, none⟩)) rfl (by kernel_rfl) ?_
        simp only [aP, lI, l0, lS]
        refine readL (.int .i64 p.role) rfl (load1 3 _ ⟨B1, 1, none⟩ _ rfl rfl (fun _ => by kernel_rfl) (M.get List.mem_cons_self 1 _ rfl)) ?_
        simp only [aP, lI, l0, lS]
        obtain ⟨b22, hb22⟩ : ∃ y_, y_ = (pinb p.role 0 1) := ⟨_, rfl⟩
        have hC : Calls Tryd.prog 27 #[.int .i64 p.role, .int .i64 0, .int .i64 1] w1 (fun e w' => e = .returned (.bool b22) ∧ Below w1.heap.size w1 w') := (by rw [hb22]; exact pwithin_any _ _ _ _)
        refine callL rfl (fun _ => by kernel_rfl) (hC) ?_
        rintro e w4 ⟨rfl, l⟩
        replace M := M.call l
        refine ⟨_, rfl, ?_⟩
        clear l hC
        simp only [aP, lI, l0, lS]
        refine readL (.bool b22) rfl (by kernel_rfl) ?_
        simp only [aP, lI, l0, lS]
        refine mayL (b22) (.pointer (some ⟨B1, 2, none⟩)) ((bif b22 then (.pointer (some ⟨B1, 2, none⟩)) else undef)) (by cases b22 <;> rfl) (by cases b22 <;> rfl) (fun hc => by cases b22 <;> first | (cases hc; done) | kernel_rfl) ?_
        simp only [aP, lI, l0, lS]
        refine mayL (b22) (.int .i64 p.path) ((bif b22 then (.int .i64 p.path) else undef)) (by cases b22 <;> rfl) (by cases b22 <;> rfl) (fun hc => by cases b22 <;> first | (cases hc; done) | exact (load1 3 _ ⟨B1, 2, none⟩ _ rfl rfl (fun _ => by kernel_rfl) (M.get List.mem_cons_self 2 _ rfl))) ?_
        simp only [aP, lI, l0, lS]
        obtain ⟨b23, hb23⟩ : ∃ y_, y_ = (pinb p.path 0 255) := ⟨_, rfl⟩
        have hC : Calls Tryd.prog 27 #[.int .i64 p.path, .int .i64 0, .int .i64 255] w4 (fun e w' => e = .returned (.bool b23) ∧ Below w4.heap.size w4 w') := (by rw [hb23]; exact pwithin_any _ _ _ _)
        refine mayCallL (b22) (.bool b23) ((bif b22 then (.bool b23) else undef)) 27 #[.int .i64 p.path, .int .i64 0, .int .i64 255] (by cases b22 <;> rfl) (by cases b22 <;> rfl) (fun hc => by cases b22 <;> first | (cases hc; done) | (intro _; kernel_rfl)) (fun _ => hC) ?_
        intro w5 l
        replace M := M.call l
        clear l hC
        simp only [aP, lI, l0, lS]
        obtain ⟨b24, hb24⟩ : ∃ y_, y_ = (b22 && b23) := ⟨_, rfl⟩
        refine readL (.bool b24) rfl (by subst hb24; cases b22 <;> rfl) ?_
        simp only [aP, lI, l0, lS]
        refine readL (.bool b24) rfl (by kernel_rfl) ?_
        simp only [aP, lI, l0, lS]
        refine mayL (b24) (.pointer (some ⟨B1, 3, none⟩)) ((bif b24 then (.pointer (some ⟨B1, 3, none⟩)) else undef)) (by cases b24 <;> rfl) (by cases b24 <;> rfl) (fun hc => by cases b24 <;> first | (cases hc; done) | kernel_rfl) ?_
        simp only [aP, lI, l0, lS]
        refine mayL (b24) (.int .i64 p.epo) ((bif b24 then (.int .i64 p.epo) else undef)) (by cases b24 <;> rfl) (by cases b24 <;> rfl) (fun hc => by cases b24 <;> first | (cases hc; done) | exact (load1 3 _ ⟨B1, 3, none⟩ _ rfl rfl (fun _ => by kernel_rfl) (M.get List.mem_cons_self 3 _ rfl))) ?_
        simp only [aP, lI, l0, lS]
        obtain ⟨b25, hb25⟩ : ∃ y_, y_ = (pinb p.epo 0 65535) := ⟨_, rfl⟩
        have hC : Calls Tryd.prog 27 #[.int .i64 p.epo, .int .i64 0, .int .i64 65535] w5 (fun e w' => e = .returned (.bool b25) ∧ Below w5.heap.size w5 w') := (by rw [hb25]; exact pwithin_any _ _ _ _)
        refine mayCallL (b24) (.bool b25) ((bif b24 then (.bool b25) else undef)) 27 #[.int .i64 p.epo, .int .i64 0, .int .i64 65535] (by cases b24 <;> rfl) (by cases b24 <;> rfl) (fun hc => by cases b24 <;> first | (cases hc; done) | (intro _; kernel_rfl)) (fun _ => hC) ?_
        intro w6 l
        replace M := M.call l
        clear l hC
        simp only [aP, lI, l0, lS]
        obtain ⟨b26, hb26⟩ : ∃ y_, y_ = (b24 && b25) := ⟨_, rfl⟩
        refine readL (.bool b26) rfl (by subst hb26; cases b24 <;> rfl) ?_
        simp only [aP, lI, l0, lS]
        refine readL (.bool b26) rfl (by kernel_rfl) ?_
        simp only [aP, lI, l0, lS]
        refine mayL (b26) (.pointer (some ⟨B1, 4, none⟩)) ((bif b26 then (.pointer (some ⟨B1, 4, none⟩)) else undef)) (by cases b26 <;> rfl) (by cases b26 <;> rfl) (fun hc => by cases b26 <;> first | (cases hc; done) | kernel_rfl) ?_
        simp only [aP, lI, l0, lS]
        refine mayL (b26) (.int .i64 p.ctr) ((bif b26 then (.int .i64 p.ctr) else undef)) (by cases b26 <;> rfl) (by cases b26 <;> rfl) (fun hc => by cases b26 <;> first | (cases hc; done) | exact (load1 3 _ ⟨B1, 4, none⟩ _ rfl rfl (fun _ => by kernel_rfl) (M.get List.mem_cons_self 4 _ rfl))) ?_
        simp only [aP, lI, l0, lS]
        obtain ⟨b27, hb27⟩ : ∃ y_, y_ = (pinb p.ctr 0 281474976710655) := ⟨_, rfl⟩
        have hC : Calls Tryd.prog 27 #[.int .i64 p.ctr, .int .i64 0, .int .i64 281474976710655] w6 (fun e w' => e = .returned (.bool b27) ∧ Below w6.heap.size w6 w') := (by rw [hb27]; exact pwithin_any _ _ _ _)
        refine mayCallL (b26) (.bool b27) ((bif b26 then (.bool b27) else undef)) 27 #[.int .i64 p.ctr, .int .i64 0, .int .i64 281474976710655] (by cases b26 <;> rfl) (by cases b26 <;> rfl) (fun hc => by cases b26 <;> first | (cases hc; done) | (intro _; kernel_rfl)) (fun _ => hC) ?_
        intro w7 l
        replace M := M.call l
        clear l hC
        simp only [aP, lI, l0, lS]
        obtain ⟨b28, hb28⟩ : ∃ y_, y_ = (b26 && b27) := ⟨_, rfl⟩
        refine readL (.bool b28) rfl (by subst hb28; cases b26 <;> rfl) ?_
        simp only [aP, lI, l0, lS]
        refine readL (.bool b28) rfl (by kernel_rfl) ?_
        simp only [aP, lI, l0, lS]
        refine mayL (b28) (.pointer (some ⟨B1, 5, none⟩)) ((bif b28 then (.pointer (some ⟨B1, 5, none⟩)) else undef)) (by cases b28 <;> rfl) (by cases b28 <;> rfl) (fun hc => by cases b28 <;> first | (cases hc; done) | kernel_rfl) ?_
        simp only [aP, lI, l0, lS]
        refine mayL (b28) (.slice bp p.body.length bc) ((bif b28 then (.slice bp p.body.length bc) else undef)) (by cases b28 <;> rfl) (by cases b28 <;> rfl) (fun hc => by cases b28 <;> first | (cases hc; done) | exact (load1 22 _ ⟨B1, 5, none⟩ _ rfl rfl (fun _ => by kernel_rfl) (M.get List.mem_cons_self 5 _ rfl))) ?_
        simp only [aP, lI, l0, lS]
        refine mayL (b28) (.int .i64 ((p.body.length : Nat) : Int)) ((bif b28 then (.int .i64 ((p.body.length : Nat) : Int)) else undef)) (by cases b28 <;> rfl) (by cases b28 <;> rfl) (fun hc => by cases b28 <;> first | (cases hc; done) | exact (lenS _ 22 5 bp p.body.length bc rfl Tryd.underlying22 rfl _)) ?_
        simp only [aP, lI, l0, lS]
        obtain ⟨b29, hb29⟩ : ∃ y_, y_ = (pinb ((p.body.length : Nat) : Int) 16 272) := ⟨_, rfl⟩
        have hC : Calls Tryd.prog 27 #[.int .i64 ((p.body.length : Nat) : Int), .int .i64 16, .int .i64 272] w7 (fun e w' => e = .returned (.bool b29) ∧ Below w7.heap.size w7 w') := (by rw [hb29]; exact pwithin_any _ _ _ _)
        refine mayCallL (b28) (.bool b29) ((bif b28 then (.bool b29) else undef)) 27 #[.int .i64 ((p.body.length : Nat) : Int), .int .i64 16, .int .i64 272] (by cases b28 <;> rfl) (by cases b28 <;> rfl) (fun hc => by cases b28 <;> first | (cases hc; done) | (intro _; kernel_rfl)) (fun _ => hC) ?_
        intro w8 l
        replace M := M.call l
        clear l hC
        simp only [aP, lI, l0, lS]
        obtain ⟨b30, hb30⟩ : ∃ y_, y_ = (b28 && b29) := ⟨_, rfl⟩
        refine readL (.bool b30) rfl (by subst hb30; cases b28 <;> rfl) ?_
        simp only [aP, lI, l0, lS]
        refine readL (.bool b30) rfl (by kernel_rfl) ?_
        simp only [aP, lI, l0, lS]
        first | show Exit.then _ _ _ _ _ | show Exit.inBlock _ _ _ _ _
        have hA : b30 = pok p := by
          rw [pok_rec k3]
          apply Bool.eq_iff_iff.2
          simp only [hb22, hb23, hb24, hb25, hb26, hb27, hb28, hb29, hb30, Bool.and_eq_true, decide_eq_true_eq, pinb_iff]
          unfold Rec
          omega
        replace hA := show Hid _ from hA
        try clear hb1
        try clear hb11
        try clear hb21
        try clear hb22
        try clear hb23
        try clear hb24
        try clear hb25
        try clear hb26
        try clear hb27
        try clear hb28
        try clear hb29
        try clear hb30
        try clear k1
        try clear k2
        try clear k3
        go_wp2
        go_ret
        exact ⟨by rw [← hA.out] <;> rfl, M.below⟩
      | false =>
        have k3 : ¬ p.kind = 3 := by simpa using hb21.symm
        go_upto_region 7 with fail
        refine wp_region_list ?_
        refine readL (.bool false) rfl (by kernel_rfl) ?_
        simp only [aP, lI, l0, lS]
        first | show Exit.then _ _ _ _ _ | show Exit.inBlock _ _ _ _ _
        have hA : false = pok p := by
          rw [pok_none (by omega) k3]
        replace hA := show Hid _ from hA
        try clear hb1
        try clear hb11
        try clear hb21
        try clear k1
        try clear k2
        try clear k3
        go_wp2
        go_ret
        exact ⟨by rw [← hA.out] <;> rfl, M.below⟩

def prc (p : Pkt) : Bool := decide (p.kind = 3 ∧ pok p = true)
set_option maxRecDepth 10000 in
set_option maxHeartbeats 32000000 in
theorem prec_any (p : Pkt) (bp : Option Addr) (bc : Nat) (w : World) : Calls Tryd.prog 21 #[.agg (pcs p bp bc).toArray] w fun e w' => e = .returned (.bool (prc p)) ∧ Below w.heap.size w w' := by
  have M := Mm.init w
  unfold pcs
  go_enter Tryd.func21, Tryd.ntmps21
  go_upto_region 0 with fail
  refine wp_region_list ?_
  refine actL (w' := w.alloc (.cells #[.int .i64 p.kind, .int .i64 p.role, .int .i64 p.path, .int .i64 p.epo, .int .i64 p.ctr, .slice bp p.body.length bc] 24)) (.pointer (some ⟨w.heap.size, 0, none⟩)) rfl (by kernel_rfl) ?_
  simp only [aP, lI, l0, lS]
  have hB_B1 : w.heap.size ≤ w.heap.size := M.below.size
  replace M := M.box #[.int .i64 p.kind, .int .i64 p.role, .int .i64 p.path, .int .i64 p.epo, .int .i64 p.ctr, .slice bp p.body.length bc] 24 w.heap.size rfl
  generalize w.alloc (.cells #[.int .i64 p.kind, .int .i64 p.role, .int .i64 p.path, .int .i64 p.epo, .int .i64 p.ctr, .slice bp p.body.length bc] 24) = w1 at M  ⊢
  generalize eB : w.heap.size = B1 at M hB_B1  ⊢
  have hE_B1 : w.heap.size ≤ B1 := Nat.le_of_eq eB
  have hF_B1 : B1 ≤ w.heap.size := Nat.le_of_eq eB.symm
  clear eB
  replace M : Mm w ([(B1, [.int .i64 p.kind, .int .i64 p.role, .int .i64 p.path, .int .i64 p.epo, .int .i64 p.ctr, .slice bp p.body.length bc])]) w1 := M
  refine readL (.bool false) rfl (by kernel_rfl) ?_
  simp only [aP, lI, l0, lS]
  first | show Exit.then _ _ _ _ _ | show Exit.inBlock _ _ _ _ _
  go_upto_region 1 with fail
  refine wp_region_list ?_
  refine readL (.pointer (some ⟨B1, 0, none⟩)) rfl (by kernel_rfl) ?_
  simp only [aP, lI, l0, lS]
  refine readL (.int .i64 p.kind) rfl (load1 3 _ ⟨B1, 0, none⟩ _ rfl rfl (fun _ => by kernel_rfl) (M.get List.mem_cons_self 0 _ rfl)) ?_
  simp only [aP, lI, l0, lS]
  obtain ⟨b1, hb1⟩ : ∃ y_, y_ = ((p.kind : Int) == (3 : Int)) := ⟨_, rfl⟩
  refine readL (.bool b1) rfl (eqlI .i64 _ _ _ _ _ _ rfl rfl rfl b1 hb1.symm _) ?_
  simp only [aP, lI, l0, lS]
  refine readL (.bool b1) rfl (by kernel_rfl) ?_
  simp only [aP, lI, l0, lS]
  refine mayL (b1) (.agg #[.int .i64 p.kind, .int .i64 p.role, .int .i64 p.path, .int .i64 p.epo, .int .i64 p.ctr, .slice bp p.body.length bc]) ((bif b1 then (.agg #[.int .i64 p.kind, .int .i64 p.role, .int .i64 p.path, .int .i64 p.epo, .int .i64 p.ctr, .slice bp p.body.length bc]) else undef)) (by cases b1 <;> rfl) (by cases b1 <;> rfl) (fun hc => by cases b1 <;> first | (cases hc; done) | exact (loadN 24 _ ⟨B1, 0, none⟩ [.int .i64 p.kind, .int .i64 p.role, .int .i64 p.path, .int .i64 p.epo, .int .i64 p.ctr, .slice bp p.body.length bc] rfl rfl (fun _ => by kernel_rfl) (fun _ => by kernel_rfl) (M.rangeAt List.mem_cons_self))) ?_
  simp only [aP, lI, l0, lS]
  obtain ⟨b2, hb2⟩ : ∃ y_, y_ = (pok p) := ⟨_, rfl⟩
  have hC : Calls Tryd.prog 19 #[.agg #[.int .i64 p.kind, .int .i64 p.role, .int .i64 p.path, .int .i64 p.epo, .int .i64 p.ctr, .slice bp p.body.length bc]] w1 (fun e w' => e = .returned (.bool b2) ∧ Below w1.heap.size w1 w') := (by rw [hb2]; exact pmay_any p bp bc _)
  refine mayCallL (b1) (.bool b2) ((bif b1 then (.bool b2) else undef)) 19 #[.agg #[.int .i64 p.kind, .int .i64 p.role, .int .i64 p.path, .int .i64 p.epo, .int .i64 p.ctr, .slice bp p.body.length bc]] (by cases b1 <;> rfl) (by cases b1 <;> rfl) (fun hc => by cases b1 <;> first | (cases hc; done) | (intro _; kernel_rfl)) (fun _ => hC) ?_
  intro w2 l
  replace M := M.call l
  clear l hC
  simp only [aP, lI, l0, lS]
  obtain ⟨b3, hb3⟩ : ∃ y_, y_ = (b1 && b2) := ⟨_, rfl⟩
  refine readL (.bool b3) rfl (by subst hb3; cases b1 <;> rfl) ?_
  simp only [aP, lI, l0, lS]
  refine readL (.bool b3) rfl (by kernel_rfl) ?_
  simp only [aP, lI, l0, lS]
  first | show Exit.then _ _ _ _ _ | show Exit.inBlock _ _ _ _ _
  have hA : b3 = prc p := by
    unfold prc
    rw [hb3, hb2, hb1]
    by_cases h3 : p.kind = 3
    · cases pok p <;> simp [h3]
    · simp [h3]
  replace hA := show Hid _ from hA
  try clear hb1
  try clear hb2
  try clear hb3
  go_wp2
  go_ret
  exact ⟨by rw [← hA.out] <;> rfl, M.below⟩
end Go.Proofs.YtbhhboiofepnhaaDoor

namespace Go.Proofs.YtbhhboiofepnhaaDoor
open Go.RowKit

def PutF (len : Nat) (z : Nat → Int) (n s : Int) (B : Nat) (e : Ending) (w' : World) : Prop := ∃ v, e = .returned (.tuple #[v, .int .i64 (fE n s)]) ∧ Own w' B 5 .u8 (fL len n s) (fput len z n s) v
def PutFixedOK : Prop := ∀ (sp : Option Addr) (len cap : Nat), len ≤ 140737488351232 → len ≤ cap → (sp = none → cap = 0) → ∀ z : Nat → Int, In 256 len z → ∀ n : Int, (-9223372036854775808 ≤ n ∧ n < 9223372036854775808) → ∀ s : Int, (-9223372036854775808 ≤ s ∧ s < 9223372036854775808) → ∀ w : World, Src w sp len z → Calls Tryd.prog 29 #[.slice sp len cap, .int .i64 n, .int .i64 s] w fun e w' => PutF len z n s w.heap.size e w' ∧ Below w.heap.size w w'
end Go.Proofs.YtbhhboiofepnhaaDoor

namespace Go.Proofs.YtbhhboiofepnhaaDoor
open Go.RowKit

def vcap : Value → Nat
  | .slice _ _ c => c
  | _ => 0

section
variable {P : Program}
theorem run_append_Room {w : World} {base : Nat} {t ty e : TypeId} {k : IntKind} {bytes n : Nat} {f : Nat → Int} {v : Value} (ht : P.underlying t = some (.slice e)) (he : One P e k bytes) (h : Own w base e k n f v)
    (sp : Option Addr) (m c : Nat) (hv : Nat → Int) (hs : ∀ j, j < m → ∃ ad, sp = some ad ∧ w.cell? (ad.add j) = some (.int k (hv j))) (hz : sp = none → c = 0) (hroom : n + m ≤ vcap v) :
    ∃ v' w', (Builtin.append_ #[t, t] ty #[v, .slice sp m c]).run P w = .ok v' w' ∧ Own w' base e k (n + m) (app f n hv) v' ∧ w.grownBy w' v.ownBlock ∧ vcap v' = vcap v ∧ v'.ownBlock = v.ownBlock := by
  obtain ⟨i, hi, hq⟩ := Option.map_eq_some_iff.1 he.info
  simp only [Prod.mk.injEq] at hq
  obtain ⟨_, _, h3⟩ := hq
  cases sp with
  | none =>
    have hm : m = 0 := by
      rcases Nat.eq_zero_or_pos m with h0 | h0
      · exact h0
      · obtain ⟨ad, e, _⟩ := hs 0 h0; cases e
    subst hm
    obtain rfl := hz rfl
    exact ⟨v, w, run_append_owned_none (P := P) (w := w) base t ty e i 1 ht hi v n _ h, h.congr fun j hj => by unfold app; rw [if_pos hj], ⟨rfl, rfl, rfl, Nat.le_refl _, fun _ _ _ => rfl⟩, rfl, rfl⟩
  | some ad =>
    have hnews : ∀ j u, (row k m hv)[j]? = some u → w.cell? (ad.add j) = some u := fun j u hu => by
      obtain ⟨hj, rfl⟩ := row_get_some hu
      obtain ⟨ad', e', hc⟩ := hs j hj
      injection e' with e'
      subst e'
      exact hc
    have hml : (row k m hv).length = m * i.size := by rw [row_length, h3, Nat.mul_one]
    have hlen : (row k n f ++ row k m hv).length = (n + m) * 1 := by rw [List.length_append, row_length, row_length, Nat.mul_one]
    rcases h.2 with ⟨rfl, rfl⟩ | ⟨g, cap, cur, rfl, hbg, hgg, hnc, hcm, hcs, htake⟩
    · have hm : m = 0 := by simp only [vcap] at hroom; omega
      subst hm
      refine ⟨.slice none 0 0, w, ?_, h.congr fun j hj => absurd hj (Nat.not_lt_zero j), ⟨rfl, rfl, rfl, Nat.le_refl _, fun _ _ _ => rfl⟩, rfl, rfl⟩
      simp [Builtin.append_, run_underlying ht, sizeOf, typeInfo, hi, Builtin.lenOf, Builtin.firstCells, loadCells, loadCellsFrom]
    · have hroom' : n + m ≤ cap := hroom
      have hr2 := run_append_room (P := P) w t ty e i ht hi g n cap cur hgg ad m c (row k m hv) hml hnews (row_one k m hv) hroom' (by rw [hml, hcs, h3]; omega)
      refine ⟨_, _, hr2, ?_, ⟨rfl, rfl, rfl, by simp, fun q _ hq => setRow_other w g q _ (fun e => hq (by simp [Value.ownBlock, e]))⟩, rfl, rfl⟩
      unfold Own
      rw [← row_app]
      rw [Nat.mul_one] at htake hcs
      refine ⟨hlen, .inr ⟨g, cap, _, rfl, hbg, setRow_heap w g cur _ e _ hgg, hroom', hcm, ?_, ?_⟩⟩
      · simp only [List.size_toArray, List.length_append, List.length_take, List.length_drop, Array.length_toList, row_length, h3, Nat.mul_one]
        omega
      · simp only [h3, Nat.mul_one, htake]
        have e2 : n + m = (row k n f ++ row k m hv).length := by rw [hlen, Nat.mul_one]
        rw [e2]
        exact List.take_left
end
section
variable {P : Program} {o : Oper} {a : Act}
theorem appendNOp {w w' : World} (s x : Operand) (t u : TypeId) (v n r : Value) (ho : o.op = .call { callee := .builtin .append, args := #[s, x], argTypes := #[t, u] }) (hs : a.eval s = v) (hx : a.eval x = n) (hr : (Builtin.append_ #[t, u] o.type #[v, n]).run P w = .ok r w') :
    (execOp a.eval o).run P w = .ok (.value r) w' := by
  unfold execOp
  simp only [ho, resolve, invoke, builtin, Sem.run_bind, Sem.run_pure, Result.andThen_ok, List.map_toArray, List.map_cons, List.map_nil, hs, hx, hr]
end
end Go.Proofs.YtbhhboiofepnhaaDoor

namespace Go.Proofs.YtbhhboiofepnhaaDoor
open Go.RowKit

/-- How many bytes the first slices have together, and which. -/
def tot (ln : Nat → Nat) : Nat → Nat
  | 0 => 0
  | j + 1 => tot ln j + ln j
def catz (ln : Nat → Nat) (zz : Nat → Nat → Int) : Nat → Nat → Int
  | 0 => fun _ => 0
  | j + 1 => app (catz ln zz j) (tot ln j) (zz j)
theorem tot_mono (ln : Nat → Nat) {i : Nat} : ∀ {j : Nat}, i ≤ j → tot ln i ≤ tot ln j
  | 0, h => by obtain rfl : i = 0 := by omega
               exact Nat.le_refl _
  | j + 1, h => by
    rcases Nat.lt_or_ge j i with h' | h'
    · obtain rfl : i = j + 1 := by omega
      exact Nat.le_refl _
    · have := tot_mono ln h'
      show _ ≤ tot ln j + ln j
      omega
theorem loadSl {P : Program} {o : Oper} {a : Act} {w : World} (ty e : TypeId) (x : Operand) (p : Addr) (v : Value) (ho : o.op = .load ty x) (hx : a.eval x = .pointer (some p)) (hu : P.underlying ty = some (.slice e)) (hc : w.cell? p = some v) : (execOp a.eval o).run P w = .ok (.value v) w := by
  have hagg : (isAgg ty).run P w = .ok false w := by
    unfold isAgg
    rw [Sem.run_bind, run_underlying hu w]
    rfl
  have e : (loadVar ty p).run P w = .ok v w := by simp [loadVar, Sem.run_bind, hagg, hc]
  unfold execOp
  simp only [ho, hx, Instr.loadAt, Instr.sureAddr, Sem.run_bind, Sem.run_pure, Result.andThen_ok, e]
theorem cut_none (g n cap : Nat) (w : World) : (Instr.sliceAt 22 (.slice (some ⟨g, 0, none⟩) n cap) none (some (.int .i64 0)) none).run Tryd.prog w = .ok (.slice (some ⟨g, 0, none⟩) 0 cap) w := by
  rw [run_sliceAt_slice w 22 _ _ _ _ (by kernel_rfl), run_slice_h w 22 _ n cap (by kernel_rfl) .i64 0 (by omega) (by omega), show (sizeOf (Tryd.prog.elem 22)).run Tryd.prog w = .ok 1 w by kernel_rfl]
  simp [Result.andThen, sliced, Addr.add_mid]

set_option maxRecDepth 10000 in
set_option maxHeartbeats 4000000 in
theorem grow_any (n : Nat) (hn : n ≤ 281474976710656) (w : World) :
    Calls Tryd.prog 28 #[.slice none 0 0, .int .i64 (n : Int)] w fun e w' => ∃ v, e = .returned v ∧ Own w' w.heap.size 5 .u8 0 (fun _ => 0) v ∧ n ≤ vcap v ∧ Below w.heap.size w w' := by
  have h0 : ¬ (n : Int) < 0 := by omega
  go_enter Tryd.func28, Tryd.ntmps28
  go_upto_region 3 with fail
  clear h0
  refine wp_region_list ?_
  refine pureL (.int .i64 (n : Int)) rfl (fun _ => by kernel_rfl) ?_
  simp only [aP, lI, l0, lS]
  refine pureL (.slice none 0 0) rfl (fun _ => by kernel_rfl) ?_
  simp only [aP, lI, l0, lS]
  refine pureL (.int .i64 0) rfl (fun _ => by kernel_rfl) ?_
  simp only [aP, lI, l0, lS]
  refine pureL (.slice none 0 0) rfl (fun _ => by kernel_rfl) ?_
  simp only [aP, lI, l0, lS]
  refine pureL (.int .i64 0) rfl (fun _ => by kernel_rfl) ?_
  simp only [aP, lI, l0, lS]
  refine pureL (.int .i64 0) rfl (fun _ => by kernel_rfl) ?_
  simp only [aP, lI, l0, lS]
  refine pureL (.int .i64 (n : Int)) rfl (fun w => subI .i64 _ _ _ _ _ _ _ rfl rfl rfl (by rw [IntKind.wrap_i64]; omega) w) ?_
  simp only [aP, lI, l0, lS]
  refine pureL (.int .i64 (n : Int)) rfl (fun _ => by kernel_rfl) ?_
  simp only [aP, lI, l0, lS]
  show Exit.then _ _ _ _ _
  rcases Nat.eq_zero_or_pos n with hz | hz
  · subst hz
    go_wp2
    go_ret
    exact ⟨.slice none 0 0, rfl, World.ownsRow_nil w _ _ 1, Nat.le_refl _, Below.refl _ _⟩
  · have g1 : (0 : Int) < (n : Int) := by omega
    go_upto_region 5 with fail
    refine wp_region_list ?_
    refine pureL (.slice none 0 0) rfl (fun _ => by kernel_rfl) ?_
    simp only [aP, lI, l0, lS]
    refine pureL (.slice none 0 0) rfl (fun _ => by kernel_rfl) ?_
    simp only [aP, lI, l0, lS]
    refine pureL (.int .i64 0) rfl (fun _ => by kernel_rfl) ?_
    simp only [aP, lI, l0, lS]
    refine pureL (.slice none 0 0) rfl (fun _ => by kernel_rfl) ?_
    simp only [aP, lI, l0, lS]
    refine pureL (.int .i64 (n : Int)) rfl (fun _ => by kernel_rfl) ?_
    simp only [aP, lI, l0, lS]
    have h1 : (Tryd.prog.info? 5).map (fun i => (i.zero, i.bytes, i.size)) = some (some (.int .u8 0), 1, 1) := by kernel_rfl
    obtain ⟨i, hi, he⟩ := Option.map_eq_some_iff.1 h1
    simp only [Prod.mk.injEq] at he
    obtain ⟨e1, e2, e3⟩ := he
    have hr : ∀ ty, _ := fun ty => Lib.run_append_nil_zeros (P := Tryd.prog) w 22 3 ty 5 i (.int .u8 0) .i64 .i64 Tryd.underlying22 Tryd.underlying3 hi e1 n (by omega) (by rw [e3]; decide) (by omega) (by rw [e2]; omega)
    refine actL _ rfl (appendNOp _ _ 22 3 _ _ _ rfl rfl rfl (hr _)) ?_
    clear hr
    have hge := grownCap_ge w n 0 5
    have hle := grownCap_le_maxLen w n 0 5 (by unfold maxLen; omega)
    have hz1 : (Value.int .u8 0).cells.size = 1 := rfl
    have hsz : (Builtin.zeroCells (Value.int .u8 0).cells n ++ Builtin.zeroCells (Value.int .u8 0).cells (grownCap w n 0 5 - n)).size = grownCap w n 0 5 * 1 := by
      rw [Array.size_append, size_zeroCells, size_zeroCells, hz1]
      omega
    have O : Own (w.drew.alloc (.cells (Builtin.zeroCells (Value.int .u8 0).cells n ++ Builtin.zeroCells (Value.int .u8 0).cells (grownCap w n 0 5 - n)) 5)) w.heap.size 5 .u8 0 (fun _ => 0) (.slice (some ⟨w.heap.size, 0, none⟩) 0 (grownCap w n 0 5)) :=
      ⟨rfl, .inr ⟨w.heap.size, _, _, rfl, Nat.le_refl _, heap_alloc_new w.drew _, Nat.zero_le _, hle, hsz, by rw [Nat.zero_mul, List.take_zero]; rfl⟩⟩
    have hB : Below w.heap.size w (w.drew.alloc (.cells (Builtin.zeroCells (Value.int .u8 0).cells n ++ Builtin.zeroCells (Value.int .u8 0).cells (grownCap w n 0 5 - n)) 5)) := (Below.refl _ _).drew.alloc (Nat.le_refl _) _
    generalize (w.drew.alloc (.cells (Builtin.zeroCells (Value.int .u8 0).cells n ++ Builtin.zeroCells (Value.int .u8 0).cells (grownCap w n 0 5 - n)) 5)) = w1 at O hB ⊢
    clear hle hsz hz1 h1 hi e1 e2 e3
    generalize grownCap w n 0 5 = cp at O hge ⊢
    generalize hg : w.heap.size = g at O hB ⊢
    simp only [aP, lI, l0, lS]
    refine pureL (.slice none 0 0) rfl (fun _ => by kernel_rfl) ?_
    simp only [aP, lI, l0, lS]
    refine pureL (.int .i64 0) rfl (fun _ => by kernel_rfl) ?_
    simp only [aP, lI, l0, lS]
    refine pureL (.slice (some ⟨g, 0, none⟩) 0 cp) rfl (fun w' => cutHi _ _ _ _ _ _ rfl rfl rfl (cut_none g n cp w')) ?_
    simp only [aP, lI, l0, lS]
    refine pureL (.slice (some ⟨g, 0, none⟩) 0 cp) rfl (fun _ => by kernel_rfl) ?_
    simp only [aP, lI, l0]
    subst hg
    show Exit.then _ _ _ _ _
    go_wp2
    go_ret
    exact ⟨_, rfl, O, hge, hB⟩

/-- The slices that stand one behind the other. -/
structure CatIn (w : World) (p : Addr) (c : Nat) (sp : Nat → Option Addr) (ln cp : Nat → Nat) (zz : Nat → Nat → Int) : Prop where
  cell : ∀ j, j < c → w.cell? (p.add j) = some (.slice (sp j) (ln j) (cp j))
  src : ∀ j, j < c → Src w (sp j) (ln j) (zz j)
  nil : ∀ j, j < c → sp j = none → cp j = 0
theorem CatIn.below {w w' : World} {p : Addr} {c : Nat} {sp : Nat → Option Addr} {ln cp : Nat → Nat} {zz : Nat → Nat → Int} (h : CatIn w p c sp ln cp zz) (l : Below w.heap.size w w') : CatIn w' p c sp ln cp zz :=
  ⟨fun j hj => by rw [l.cell (World.block_lt_of_cell? w _ (h.cell j hj))]; exact h.cell j hj, fun j hj => (h.src j hj).below l (Nat.le_refl _), h.nil⟩
/-- What is joined so far. -/
structure CatI (w : World) (ln : Nat → Nat) (zz : Nat → Nat → Int) (c j : Nat) (s : Value) (w' : World) : Prop where
  own : Own w' w.heap.size 5 .u8 (tot ln j) (catz ln zz j) s
  room : tot ln c ≤ vcap s
  below : Below w.heap.size w w'

set_option maxRecDepth 10000 in
set_option maxHeartbeats 4000000 in
theorem concat_any (p : Addr) (c c' : Nat) (sp : Nat → Option Addr) (ln cp : Nat → Nat) (zz : Nat → Nat → Int) (hc : c < 1000000) (ht : tot ln c ≤ 281474976710656) (w : World) (hin : CatIn w p c sp ln cp zz) :
    Calls Tryd.prog 20 #[.slice (some p) c c'] w fun e w' => ∃ v, e = .returned v ∧ Own w' w.heap.size 5 .u8 (tot ln c) (catz ln zz c) v ∧ Below w.heap.size w w' := by
  go_enter Tryd.func20, Tryd.ntmps20
  go_wp2
  go_loopw [3, 11] (fun s i w' => ∃ j : Nat, j ≤ c ∧ s = .int .i64 ((tot ln j : Nat) : Int) ∧ i = .int .i64 (j : Int) ∧ w = w') (fun _ i _ => c - (intOf i).toNat)
  case atStart => exact ⟨0, Nat.zero_le _, rfl, rfl, rfl⟩
  case round =>
    obtain ⟨j, hj, rfl, rfl, rfl⟩ := hrel
    by_cases hlt : j < c
    · have g1 : (j : Int) < (c : Int) := by omega
      have hm : tot ln j + ln j ≤ tot ln c := tot_mono ln (show j + 1 ≤ c by omega)
      go_upto_region 4 with fail
      refine wp_region_list ?_
      refine pureL (.pointer (some (p.add j))) rfl (fun w => idxSl 48 22 c c' .i64 p j _ _ Tryd.underlying48 (fun _ => by kernel_rfl) hlt rfl rfl rfl w) ?_
      simp only [aP, lI, l0, lS]
      refine readL (.slice (sp j) (ln j) (cp j)) rfl (loadSl 22 5 _ (p.add j) _ rfl rfl Tryd.underlying22 (hin.cell j hlt)) ?_
      simp only [aP, lI, l0, lS]
      refine pureL (.slice (sp j) (ln j) (cp j)) rfl (fun _ => by kernel_rfl) ?_
      simp only [aP, lI, l0, lS]
      show Exit.then _ _ _ _ _
      go_upto_region 5 with fail
      refine wp_region_list ?_
      refine pureL (.int .i64 ((tot ln j : Nat) : Int)) rfl (fun _ => by kernel_rfl) ?_
      simp only [aP, lI, l0, lS]
      refine pureL (.slice (sp j) (ln j) (cp j)) rfl (fun _ => by kernel_rfl) ?_
      simp only [aP, lI, l0, lS]
      refine pureL (.int .i64 ((ln j : Nat) : Int)) rfl (fun w => lenS _ 22 5 (sp j) (ln j) (cp j) rfl Tryd.underlying22 rfl w) ?_
      simp only [aP, lI, l0, lS]
      refine pureL (.int .i64 ((tot ln (j + 1) : Nat) : Int)) rfl (fun w => addI .i64 _ _ _ _ _ _ _ rfl rfl rfl (by rw [IntKind.wrap_i64]; show _ = ((tot ln j + ln j : Nat) : Int); omega) w) ?_
      simp only [aP, lI, l0, lS]
      refine pureL (.int .i64 ((tot ln (j + 1) : Nat) : Int)) rfl (fun _ => by kernel_rfl) ?_
      simp only [aP, lI, l0, lS]
      show Exit.then _ _ _ _ _
      have g2 : ¬ ((tot ln (j + 1) : Nat) : Int) < 0 := by omega
      clear hm
      go_wp2
      go_roundw
      case rel => exact ⟨j + 1, by omega, rfl, by go_num, trivial⟩
      case measure => simp [intOf]; omega
    · obtain rfl : j = c := by omega
      have g1 : ¬ (j : Int) < (j : Int) := by omega
      clear hlt hj
      go_upto_region 9 with fail
      refine wp_region_list ?_
      refine pureL (.int .i64 ((tot ln j : Nat) : Int)) rfl (fun _ => by kernel_rfl) ?_
      simp only [aP, lI, l0, lS]
      refine callL rfl (fun _ => by kernel_rfl) (grow_any (tot ln j) ht _) ?_
      rintro e w1 ⟨v, rfl, O, hro, hB⟩
      refine ⟨_, rfl, ?_⟩
      simp only [aP, lI, l0, lS]
      refine pureL v rfl (fun _ => by kernel_rfl) ?_
      simp only [aP, lI, l0, lS]
      have HI : CatI w ln zz j 0 v w1 := ⟨O, hro, hB⟩
      clear O hro hB
      show Exit.then _ _ _ _ _
      go_wp2
      go_loopw [6, 27] (fun s i w' => ∃ q : Nat, q ≤ j ∧ i = .int .i64 (q : Int) ∧ CatI w ln zz j q s w') (fun _ i _ => j - (intOf i).toNat)
      case atStart => exact ⟨0, Nat.zero_le _, rfl, HI⟩
      case round =>
        clear HI
        obtain ⟨q, hq, rfl, HI⟩ := hrel
        by_cases hlt : q < j
        · have g2 : (q : Int) < (j : Int) := by omega
          have hm : tot ln q + ln q ≤ tot ln j := tot_mono ln (show q + 1 ≤ j by omega)
          go_upto_region 12 with fail
          refine wp_region_list ?_
          refine pureL (.pointer (some (p.add q))) rfl (fun w => idxSl 48 22 j c' .i64 p q _ _ Tryd.underlying48 (fun _ => by kernel_rfl) hlt rfl rfl rfl w) ?_
          simp only [aP, lI, l0, lS]
          refine readL (.slice (sp q) (ln q) (cp q)) rfl (loadSl 22 5 _ (p.add q) _ rfl rfl Tryd.underlying22 ((hin.below HI.below).cell q hlt)) ?_
          simp only [aP, lI, l0, lS]
          refine pureL (.slice (sp q) (ln q) (cp q)) rfl (fun _ => by kernel_rfl) ?_
          simp only [aP, lI, l0, lS]
          show Exit.then _ _ _ _ _
          go_upto_region 13 with fail
          refine wp_region_list ?_
          refine pureL u6 rfl (fun _ => by kernel_rfl) ?_
          simp only [aP, lI, l0, lS]
          refine pureL (.slice (sp q) (ln q) (cp q)) rfl (fun _ => by kernel_rfl) ?_
          simp only [aP, lI, l0, lS]
          obtain ⟨v', w2, hr, O, hg, hv, _⟩ := run_append_Room (P := Tryd.prog) (ty := 22) Tryd.underlying22 one8 HI.own (sp q) (ln q) (cp q) (zz q) ((hin.below HI.below).src q hlt) (hin.nil q hlt) (Nat.le_trans hm HI.room)
          refine actL _ rfl (appendOp _ _ 22 _ _ _ rfl rfl rfl hr) ?_
          simp only [aP, lI, l0, lS]
          refine pureL v' rfl (fun _ => by kernel_rfl) ?_
          simp only [aP, lI, l0, lS]
          have HS := show Hid _ from (show CatI w ln zz j (q + 1) v' w2 from ⟨O, by rw [hv]; exact HI.room, Below.grown HI.below hg HI.below.size (fun b hb => (World.ownsRow.lt HI.own b hb).1)⟩)
          clear O hg hv hr HI hm
          show Exit.inBlock _ _ _ _ _
          go_wp2
          go_roundw
          case rel => first | exact ⟨q + 1, by omega, by go_num, HS.out⟩ | ((repeat apply Exists.intro); refine ⟨⟨q + 1, by omega, ?_, HS.out⟩, rfl⟩ <;> first | rfl | go_num)
          case measure => simp [intOf]; omega
        · obtain rfl : q = j := by omega
          have g2 : ¬ (q : Int) < (q : Int) := by omega
          have HS := show Hid _ from HI
          clear HI hlt hq
          go_wp2
          go_ret
          exact ⟨_, rfl, HS.out.own, HS.out.below⟩
end Go.Proofs.YtbhhboiofepnhaaDoor

namespace Go.Proofs.YtbhhboiofepnhaaDoor
open Go.RowKit

theorem Has.head {w : World} {b : Nat} {k : IntKind} {n : Nat} {f : Nat → Int} (h : Has w b k n f) (m : Nat) (hm : m ≤ n) : w.rangeAt b 0 (row k m f) := fun j v hv => by
  obtain ⟨hj, rfl⟩ := row_get_some hv
  rw [Nat.zero_add]
  exact h.cell j (by omega)
/-- Part of a row is written anew. -/
theorem Kr.part {w w' : World} {m : Nat} {l : List (Nat × IntKind × Nat × (Nat → Int))} {R : List (Nat × Nat)} (h : Kr w m l R w') (l' : List (Nat × IntKind × Nat × (Nat → Int))) (b : Nat) (k : IntKind) (n : Nat) (f : Nat → Int) (o q : Nat) (ho : o + q ≤ n) (g : Nat → Int) (hp : (b, k, n, f) ∈ l) (hl : ∀ p ∈ l', p ∈ l) (hne : ∀ p ∈ l', p.1 ≠ b) (hlo : w.heap.size ≤ b) :
    Kr w m ((b, k, n, over f o q g) :: l') R (w'.setCells b o (row k q g)) :=
  ((h.loose l' b k n f hp hl hne hlo).poke b n List.mem_cons_self o _).settle R b k n _ List.mem_cons_self (fun _ hq => List.mem_cons_of_mem _ hq) (fun q hq => (h.apart _ hp q hq).symm) ((h.get _ _ _ _ hp).part o q ho g)
theorem Kr.headC {w w' : World} {m : Nat} {l : List (Nat × IntKind × Nat × (Nat → Int))} {R : List (Nat × Nat)} {b : Nat} {k : IntKind} {n : Nat} {f : Nat → Int} (h : Kr w m ((b, k, n, f) :: l) R w') (g : Nat → Int) (e : ∀ j, j < n → f j = g j) : Kr w m ((b, k, n, g) :: l) R w' :=
  ⟨fun p hp => by
    rcases List.mem_cons.1 hp with rfl | hp
    · exact ⟨(h.rows _ List.mem_cons_self).1.congr e, (h.rows _ List.mem_cons_self).2⟩
    · exact h.rows p (List.mem_cons_of_mem _ hp), h.room, fun p hp q hq => by
    rcases List.mem_cons.1 hp with rfl | hp
    · exact h.apart _ List.mem_cons_self q hq
    · exact h.apart p (List.mem_cons_of_mem _ hp) q hq, h.size, h.base, h.below⟩
end Go.Proofs.YtbhhboiofepnhaaDoor

namespace Go.Proofs.YtbhhboiofepnhaaDoor
open Go.RowKit

theorem or_low (x d : Nat) (hd : d < 256) (hx : x * 256 < 9223372036854775808) : bits .or .i64 ((x * 256 : Nat) : Int) (d : Int) = ((x * 256 + d : Nat) : Int) := by
  have h1 : (BitVec.ofInt 64 ((x * 256 : Nat) : Int)).toNat = x * 256 := by rw [BitVec.toNat_ofInt]; omega
  have h2 : (BitVec.ofInt 64 ((d : Nat) : Int)).toNat = d := by rw [BitVec.toNat_ofInt]; omega
  have h3 : x * 256 ||| d = x * 256 + d := by
    have := Nat.two_pow_add_eq_or_of_lt (i := 8) (b := d) (by omega) x
    rw [show (2 : Nat) ^ 8 = 256 from rfl, Nat.mul_comm] at this
    exact this.symm
  show IntKind.i64.wrap ((BitVec.ofInt 64 ((x * 256 : Nat) : Int) ||| BitVec.ofInt 64 ((d : Nat) : Int)).toNat : Nat) = _
  rw [BitVec.toNat_or, h1, h2, h3, IntKind.wrap_i64]
  omega
theorem eqlNil {P : Program} {o : Oper} {a : Act} (t e t' : TypeId) (x y : Operand) (sp : Option Addr) (n c : Nat) (b : Bool) (ho : o.op = .binOp .eql t x y t') (hx : a.eval x = .slice sp n c) (hy : a.eval y = .slice none 0 0) (hu : P.underlying t = some (.slice e)) (hb : sp.isNone = b) (w : World) :
    (execOp a.eval o).run P w = .ok (.value (.bool b)) w := by
  subst hb
  unfold execOp
  have e1 : (eqGuard .eql t x y (.slice sp n c) (.slice none 0 0)).run P w = .ok () w := rfl
  simp only [ho, hx, hy, Sem.run_bind, e1, Lib.run_eql_slice_nil w t e sp n c 0 0 hu, Sem.run_pure, Result.andThen_ok]
theorem fby_tail (n s j : Nat) (hs : s ≤ 8) (hj : j < s) : fby n 8 (8 - s + j) = fby n s j := by
  unfold fby
  rw [show 8 - 1 - (8 - s + j) = s - 1 - j by omega]
theorem vidx8 (b i : Nat) (hi : i < 8) (w : World) {o : Oper} {a : Act} (x y : Operand) (ho : o.op = .indexAddr 59 x y) (hx : a.eval x = .pointer (some ⟨b, 0, none⟩)) (hy : a.eval y = .int .i64 (i : Int)) :
    (execOp a.eval o).run Tryd.prog w = .ok (.value (.pointer (some ⟨b, i, none⟩))) w := by
  have h := idxArr (P := Tryd.prog) 59 5 8 .i64 b 0 i x y Tryd.underlying59 (fun _ => by kernel_rfl) hi ho hx hy w
  rw [Nat.zero_add] at h
  exact h
theorem cut8 (b s : Nat) (hs : 1 ≤ s ∧ s ≤ 8) (w : World) : (Instr.sliceAt 59 (.pointer (some ⟨b, 0, none⟩)) (some (.int .i64 ((8 - s : Nat) : Int))) none none).run Tryd.prog w = .ok (.slice (some ⟨b, 8 - s, none⟩) s s) w := by
  have hl : Tryd.prog.arrayLen 59 = 8 := by kernel_rfl
  have hz : ∀ w, (sizeOf (Tryd.prog.elem 59)).run Tryd.prog w = .ok 1 w := fun w => by kernel_rfl
  rw [run_sliceAt_array_l w 59 ⟨b, 0, none⟩ (by kernel_rfl) .i64 _ (by omega) (by rw [hl]; omega), hz, hl]
  simp only [Result.andThen, slicedAt]
  rw [Int.toNat_natCast, if_neg (by omega), Addr.add_mid, Nat.zero_add, Nat.mul_one, show 8 - (8 - s) = s by omega]

set_option maxRecDepth 10000 in
set_option maxHeartbeats 8000000 in
theorem lowest_any (n s : Nat) (hs : 1 ≤ s ∧ s ≤ 8) (w : World) :
    Calls Tryd.prog 32 #[.int .i64 (n : Int), .int .i64 (s : Int)] w fun e w' => e = .returned (.slice (some ⟨w.heap.size, 8 - s, none⟩) s s) ∧ Kr w (w.heap.size + 1) [(w.heap.size, .u8, 8, fby n 8)] [] w' := by
  go_enter Tryd.func32, Tryd.ntmps32
  go_upto_region 1 with fail
  refine wp_region_list ?_
  refine allocL (row .u8 8 (fun _ => 0)).toArray 59 rfl (fun _ => by kernel_rfl) ?_
  simp only [aP, lI, l0, lS]
  have K := (Kr.init w).box .u8 8 (fun _ => 0) 59 w.heap.size rfl
  generalize w.alloc (.cells (row .u8 8 (fun _ => 0)).toArray 59) = w1 at K ⊢
  show Exit.then _ _ _ _ _
  go_wp2
  go_loopw [7] (fun i w' => ∃ (m : Nat) (f : Nat → Int), m ≤ 8 ∧ i = .int .i64 (m : Int) ∧ Kr w (w.heap.size + 1) [(w.heap.size, .u8, 8, f)] [] w' ∧ ∀ j, 8 - m ≤ j → j < 8 → f j = fby n 8 j) (fun i _ => 8 - (intOf i).toNat)
  case atStart => exact ⟨0, _, by omega, rfl, K, fun j h1 h2 => by omega⟩
  case round =>
    clear K
    obtain ⟨m, f, hm, rfl, K, hd⟩ := hrel
    have g1 : (0 : Int) ≤ (m : Int) := by omega
    by_cases hlt : m < 8
    · have g2 : (m : Int) < 8 := by omega
      have h7 : 7 - m < 8 := by omega
      go_upto_region 5 with fail
      refine wp_region_list ?_
      refine pureL (.int .i64 (m : Int)) rfl (fun _ => by kernel_rfl) ?_
      simp only [aP, lI, l0, lS]
      refine pureL (.int .i64 ((7 - m : Nat) : Int)) rfl (fun w => subI .i64 _ _ _ _ _ _ _ rfl rfl rfl (by rw [IntKind.wrap_i64]; omega) w) ?_
      simp only [aP, lI, l0, lS]
      refine pureL (.int .i64 (n : Int)) rfl (fun _ => by kernel_rfl) ?_
      simp only [aP, lI, l0, lS]
      refine pureL (.int .i64 (m : Int)) rfl (fun _ => by kernel_rfl) ?_
      simp only [aP, lI, l0, lS]
      refine pureL (.int .i64 ((8 * m : Nat) : Int)) rfl (fun w => mulI .i64 _ _ _ _ _ _ _ rfl rfl rfl (by rw [IntKind.wrap_i64]; omega) w) ?_
      simp only [aP, lI, l0, lS]
      refine pureL (.int .i64 ((n / 256 ^ m : Nat) : Int)) rfl (fun w => shrI .i64 .i64 _ _ _ _ _ _ _ rfl rfl rfl (by omega) (shr_byte n m (by omega)) w) ?_
      simp only [aP, lI, l0, lS]
      refine pureL (.int .u8 (fby n 8 (7 - m))) rfl (fun w => convI .i64 .u8 _ _ _ _ _ rfl (by kernel_rfl) Tryd.underlying5 (by kernel_rfl) rfl (by rw [IntKind.wrap_u8']; unfold fby; rw [show 8 - 1 - (7 - m) = m by omega]; omega) w) ?_
      simp only [aP, lI, l0, lS]
      refine pureL (.pointer (some ⟨w.heap.size, 7 - m, none⟩)) rfl (fun w' => vidx8 (w.heap.size) (7 - m) h7 w' _ _ rfl rfl rfl) ?_
      simp only [aP, lI, l0, lS]
      refine storeL .u8 (fby n 8 (7 - m)) (w.heap.size) (7 - m) 5 _ _ rfl rfl rfl rfl (by rw [(K.get _ _ _ _ List.mem_cons_self).cell (7 - m) h7]; rfl) ((K.get _ _ _ _ List.mem_cons_self).free (7 - m) h7) (by kernel_rfl) ?_
      simp only [Act.put]
      replace K := K.setCell [] (w.heap.size) .u8 8 f (7 - m) h7 (fby n 8 (7 - m)) List.mem_cons_self (fun _ hp => by cases hp) (fun _ hp => by cases hp) (Nat.le_refl _)
      have HS := show Hid _ from (And.intro K (show ∀ j, 8 - (m + 1) ≤ j → j < 8 → upd f (7 - m) (fby n 8 (7 - m)) j = fby n 8 j from fun j h1 h2 => by
        by_cases e : j = 7 - m
        · subst e; rw [upd_same]
        · rw [upd_other _ _ _ _ e]; exact hd j (by omega) h2))
      clear K hd
      generalize wr.setCell ⟨w.heap.size, 7 - m, none⟩ (.int .u8 (fby n 8 (7 - m))) = w4 at HS ⊢
      generalize upd f (7 - m) (fby n 8 (7 - m)) = f' at HS
      show Exit.inBlock _ _ _ _ _
      go_wp2
      go_roundw
      case rel => first | exact ⟨m + 1, f', by omega, by go_num, HS.out⟩ | ((repeat apply Exists.intro); refine ⟨⟨m + 1, f', by omega, by go_num, HS.out⟩, rfl⟩)
      case measure => simp [intOf]; omega
    · obtain rfl : m = 8 := by omega
      replace K := K.headC (fby n 8) (fun j hj => hd j (by omega) hj)
      clear hd hlt hm g1
      go_upto_region 7 with fail
      refine wp_region_list ?_
      refine pureL (.int .i64 (s : Int)) rfl (fun _ => by kernel_rfl) ?_
      simp only [aP, lI, l0, lS]
      refine pureL (.int .i64 ((8 - s : Nat) : Int)) rfl (fun w => subI .i64 _ _ _ _ _ _ _ rfl rfl rfl (by rw [IntKind.wrap_i64]; omega) w) ?_
      simp only [aP, lI, l0, lS]
      refine pureL (.slice (some ⟨w.heap.size, 8 - s, none⟩) s s) rfl (fun w' => cutOp _ _ _ _ _ _ rfl rfl rfl (cut8 (w.heap.size) s hs w')) ?_
      simp only [aP, lI, l0, lS]
      refine pureL (.slice (some ⟨w.heap.size, 8 - s, none⟩) s s) rfl (fun _ => by kernel_rfl) ?_
      simp only [aP, lI, l0, lS]
      show Exit.then _ _ _ _ _
      go_wp2
      go_ret
      exact ⟨rfl, K⟩

/-- The number of the bytes h and, behind it, the first of z. -/
def jV (h : Int) (z : Nat → Int) : Nat → Int
  | 0 => h
  | i + 1 => jV h z i * 256 + z i
theorem jV_in (h : Int) (hh : 0 ≤ h ∧ h < 64) (z : Nat → Int) (m : Nat) (hz : In 256 m z) : ∀ i, i ≤ m → 0 ≤ jV h z i ∧ jV h z i < 64 * 256 ^ i
  | 0, _ => by show 0 ≤ h ∧ h < 64 * 256 ^ 0; omega
  | i + 1, hi => by
    have h1 := jV_in h hh z m hz i (by omega)
    have h2 := hz i (by omega)
    show 0 ≤ jV h z i * 256 + z i ∧ jV h z i * 256 + z i < 64 * 256 ^ (i + 1)
    rw [Int.pow_succ]
    omega
theorem jV_zero (z : Nat → Int) : ∀ i, jV 0 z i = fV z i
  | 0 => rfl
  | i + 1 => by
    show jV 0 z i * 256 + z i = fV z (i + 1)
    rw [jV_zero z i]
    rfl
set_option maxRecDepth 10000 in
set_option maxHeartbeats 8000000 in
theorem vjoin_any (h : Int) (hh : 0 ≤ h ∧ h < 64) (sp : Option Addr) (len cap : Nat) (hl : len ≤ 7) (z : Nat → Int) (hz : In 256 len z) (w : World) (hs : Src w sp len z) :
    Calls Tryd.prog 34 #[.int .i64 h, .slice sp len cap] w fun e w' => e = .returned (.int .i64 (jV h z len)) ∧ Below w.heap.size w w' := by
  have hB := Below.refl w.heap.size w
  go_enter Tryd.func34, Tryd.ntmps34
  go_upto_region 1 with fail
  refine wp_region_list ?_
  refine pureL (.slice sp len cap) rfl (fun _ => by kernel_rfl) ?_
  simp only [aP, lI, l0, lS]
  refine pureL (.int .i64 (len : Int)) rfl (fun w => lenS _ 22 5 (sp) (len) (cap) rfl Tryd.underlying22 rfl w) ?_
  simp only [aP, lI, l0, lS]
  refine pureL (.int .i64 0) rfl (fun _ => by kernel_rfl) ?_
  simp only [aP, lI, l0, lS]
  show Exit.then _ _ _ _ _
  go_wp2
  go_loopw [0, 9] (fun hw i w' => ∃ m : Nat, m ≤ len ∧ hw = .int .i64 (jV h z m) ∧ i = .int .i64 (m : Int) ∧ w = w') (fun _ i _ => len - (intOf i).toNat)
  case atStart => exact ⟨0, Nat.zero_le _, rfl, rfl, rfl⟩
  case round =>
    obtain ⟨m, hm, rfl, rfl, rfl⟩ := hrel
    by_cases hlt : m < len
    · have g1 : (m : Int) < (len : Int) := by omega
      obtain ⟨ad, rfl, hc⟩ := hs m hlt
      have hzm := hz m hlt
      have hj := jV_in h hh z len hz m hm
      have hj2 : jV h z m < 18014398509481984 := by
        have h6 : (256 : Nat) ^ m ≤ 256 ^ 6 := Nat.pow_le_pow_right (by decide) (by omega)
        have e6 : (256 : Nat) ^ 6 = 281474976710656 := by decide
        have e7 : ((256 ^ m : Nat) : Int) = (256 : Int) ^ m := by norm_cast
        omega
      obtain ⟨x, hx⟩ := Int.eq_ofNat_of_zero_le hj.1
      obtain ⟨d, hd⟩ := Int.eq_ofNat_of_zero_le hzm.1
      have hor : bits .or .i64 (jV h z m * 256) (z m) = jV h z (m + 1) := by
        show _ = jV h z m * 256 + z m
        rw [hx, hd, show ((x : Nat) : Int) * 256 = ((x * 256 : Nat) : Int) by omega, or_low x d (by omega) (by omega)]
        omega
      go_upto_region 3 with fail
      refine wp_region_list ?_
      refine pureL (.pointer (some (ad.add m))) rfl (fun w => idxSl 22 5 len cap .i64 ad m _ _ Tryd.underlying22 (fun _ => by kernel_rfl) hlt rfl rfl rfl w) ?_
      simp only [aP, lI, l0, lS]
      refine readL (.int .u8 (z m)) rfl (loadAny 5 .u8 _ (ad.add m) _ rfl rfl Tryd.underlying5 hc) ?_
      simp only [aP, lI, l0, lS]
      refine pureL (.int .u8 (z m)) rfl (fun _ => by kernel_rfl) ?_
      simp only [aP, lI, l0, lS]
      show Exit.then _ _ _ _ _
      go_upto_region 4 with fail
      refine wp_region_list ?_
      refine pureL (.int .i64 (jV h z m)) rfl (fun _ => by kernel_rfl) ?_
      simp only [aP, lI, l0, lS]
      refine pureL (.int .i64 (jV h z m * 256)) rfl (fun w => shlI .i64 .u64 _ _ _ _ _ _ _ rfl rfl rfl (by omega) (by rw [IntKind.wrap_i64, show min (8 : Int).toNat IntKind.i64.bits = 8 from rfl]; omega) w) ?_
      simp only [aP, lI, l0, lS]
      refine pureL (.int .u8 (z m)) rfl (fun _ => by kernel_rfl) ?_
      simp only [aP, lI, l0, lS]
      refine pureL (.int .i64 (z m)) rfl (fun w => convI .u8 .i64 _ _ _ _ _ rfl (by kernel_rfl) Tryd.underlying3 (by kernel_rfl) rfl (by rw [IntKind.wrap_i64]; omega) w) ?_
      simp only [aP, lI, l0, lS]
      refine pureL (.int .i64 (jV h z (m + 1))) rfl (fun w => vorI .i64 _ _ _ _ _ _ _ rfl rfl rfl hor w) ?_
      simp only [aP, lI, l0, lS]
      refine pureL (.int .i64 (jV h z (m + 1))) rfl (fun _ => by kernel_rfl) ?_
      simp only [aP, lI, l0]
      clear hor hx hd hj hj2
      show Exit.inBlock _ _ _ _ _
      go_wp2
      go_roundw
      case rel => first | exact ⟨m + 1, by omega, rfl, by go_num, trivial⟩ | ((repeat apply Exists.intro); refine ⟨⟨m + 1, by omega, rfl, by go_num, trivial⟩, rfl⟩)
      case measure => simp [intOf]; omega
    · obtain rfl : m = len := by omega
      have g1 : ¬ (m : Int) < (m : Int) := by omega
      clear hlt hm
      go_wp2
      go_ret
      exact ⟨rfl, hB⟩

set_option maxRecDepth 10000 in
set_option maxHeartbeats 8000000 in
theorem clone_any (sp : Option Addr) (len cap : Nat) (hlen : len ≤ 140737488351240) (hc : len ≤ cap) (hnil : sp = none → cap = 0) (z : Nat → Int) (w : World) (hs : Src w sp len z) :
    Calls Tryd.prog 25 #[.slice sp len cap] w fun e w' => ∃ v, e = .returned v ∧ Own w' w.heap.size 5 .u8 len z v ∧ Below w.heap.size w w' := by
  have hB := Below.refl w.heap.size w
  cases sp with
  | none =>
    obtain rfl : len = 0 := by have := hnil rfl; omega
    obtain rfl := hnil rfl
    go_enter Tryd.func25, Tryd.ntmps25
    go_upto_region 1 with fail
    refine wp_region_list ?_
    refine pureL (.slice none 0 0) rfl (fun _ => by kernel_rfl) ?_
    simp only [aP, lI, l0, lS]
    refine pureL (.bool true) rfl (fun w => eqlNil 22 5 _ _ _ none 0 0 true rfl rfl rfl Tryd.underlying22 rfl w) ?_
    simp only [aP, lI, l0, lS]
    show Exit.then _ _ _ _ _
    go_wp2
    go_ret
    exact ⟨_, rfl, World.ownsRow_nil w _ _ 1, hB⟩
  | some ad =>
    go_enter Tryd.func25, Tryd.ntmps25
    go_upto_region 1 with fail
    refine wp_region_list ?_
    refine pureL (.slice (some ad) len cap) rfl (fun _ => by kernel_rfl) ?_
    simp only [aP, lI, l0, lS]
    refine pureL (.bool false) rfl (fun w => eqlNil 22 5 _ _ _ (some ad) len cap false rfl rfl rfl Tryd.underlying22 rfl w) ?_
    simp only [aP, lI, l0, lS]
    show Exit.then _ _ _ _ _
    go_upto_region 3 with fail
    refine wp_region_list ?_
    refine actL (w' := w.alloc (.cells #[] 5)) (.slice (some ⟨w.heap.size, 0, none⟩) 0 0) rfl (by kernel_rfl) ?_
    simp only [aP, lI, l0, lS]
    refine pureL (.slice (some ad) len cap) rfl (fun _ => by kernel_rfl) ?_
    simp only [aP, lI, l0, lS]
    have hb1 := (Below.refl w.heap.size w).alloc (Nat.le_refl _) (.cells #[] 5)
    obtain ⟨v, w2, hr, ho, hgr, _⟩ := run_append_Own (P := Tryd.prog) (ty := 22) Tryd.underlying22 one8 (Own.lit w w.heap.size 5 .u8 0 (fun _ => 0) (Nat.le_refl _) (by unfold maxLen; omega)) (some ad) (len) (cap) (z) ((hs).below hb1 (Nat.le_refl _)) (fun e => by cases e) (by unfold maxLen; omega) (by omega) hb1.size
    have hb2 := hb1.grown hgr hb1.size (fun b hb => by injection hb with hb; simp only at hb; omega)
    refine actL v rfl (appendOp _ _ 22 _ _ _ rfl rfl rfl hr) ?_
    simp only [aP, lI, l0, lS]
    have hO : Own w2 w.heap.size 5 .u8 (len) (z) v := by
      rw [Nat.zero_add] at ho
      exact ho.congr fun j _ => by unfold app; rw [if_neg (Nat.not_lt_zero j), Nat.sub_zero]
    clear hr ho hgr hb1
    refine pureL v rfl (fun _ => by kernel_rfl) ?_
    simp only [aP, lI, l0, lS]
    show Exit.then _ _ _ _ _
    go_wp2
    go_ret
    exact ⟨_, rfl, hO, hb2⟩
end Go.Proofs.YtbhhboiofepnhaaDoor

namespace Go.Proofs.YtbhhboiofepnhaaDoor
open Go.RowKit

/-- What is left of a text, in a place of its own. -/
structure Tp (w0 : World) (B len : Nat) (z : Nat → Int) (w : World) : Prop where
  lo : w0.heap.size ≤ B
  hi : B < w.heap.size
  cell : ∃ sp cap, w.cell? ⟨B, 0, none⟩ = some (.slice sp len cap) ∧ len ≤ cap ∧ (sp = none → cap = 0) ∧ Src w0 sp len z
  free : w.frozen? ⟨B, 0, none⟩ = false
  below : Below w0.heap.size w0 w
theorem Tp.call {w0 w w' : World} {B len : Nat} {z : Nat → Int} (h : Tp w0 B len z w) (l : Below w.heap.size w w') : Tp w0 B len z w' := by
  obtain ⟨lo, hi, ⟨sp, cap, h1, h2⟩, hf, hb⟩ := h
  exact ⟨lo, Nat.lt_of_lt_of_le hi l.size, ⟨sp, cap, by rw [l.cell (p := ⟨B, 0, none⟩) hi]; exact h1, h2⟩, by rw [l.frozen (p := ⟨B, 0, none⟩) hi]; exact hf, hb.trans (l.mono hb.size)⟩
theorem Tp.set {w0 w : World} {B len : Nat} {z : Nat → Int} (h : Tp w0 B len z w) (sp : Option Addr) (len' cap : Nat) (z' : Nat → Int) (hc : len' ≤ cap) (hn : sp = none → cap = 0) (hs : Src w0 sp len' z') : Tp w0 B len' z' (w.setCell ⟨B, 0, none⟩ (.slice sp len' cap)) := by
  obtain ⟨lo, hi, ⟨sp', cap', h1, h2⟩, hf, hb⟩ := h
  exact ⟨lo, by have e := size_setAll B 0 [.slice sp len' cap] w; simp only [World.setCells] at e; omega, ⟨sp, cap, World.cell?_setCell_same' _ _ _ (by rw [h1]; rfl), hc, hn, hs⟩, by rw [World.frozen?_setCell]; exact hf, below_setAll hb B lo 0 [.slice sp len' cap]⟩
theorem Tp.nil {w0 w : World} {B : Nat} {z z' : Nat → Int} (h : Tp w0 B 0 z w) : Tp w0 B 0 z' w := by
  obtain ⟨lo, hi, ⟨sp, cap, h1, h2, h3, _⟩, hf, hb⟩ := h
  exact ⟨lo, hi, ⟨sp, cap, h1, h2, h3, fun j hj => absurd hj (Nat.not_lt_zero j)⟩, hf, hb⟩
/-- A slice is stored. -/
theorem storeSl {P : Program} {ops : Array Oper} {Q : Exit → Act → World → Prop} {o' : Oper} {rest : List Oper} {a : Act} {w : World} (sp : Option Addr) (n c : Nat) (b : Nat) (ty : TypeId) (x y : Operand) (hw : Region.wanted o' (yielded ops a.tmps) = true) (ho : o'.op = .store ty x y) (hx : a.eval x = .pointer (some ⟨b, 0, none⟩)) (hy : a.eval y = .slice sp n c)
    (hc : (w.cell? ⟨b, 0, none⟩).isSome = true) (hf : w.frozen? ⟨b, 0, none⟩ = false) (hz : (P.info? ty).map (·.size) = some 1)
    (h : wpList P ops Q rest (a.put o'.dst undef) (w.setCell ⟨b, 0, none⟩ (.slice sp n c))) : wpList P ops Q (o' :: rest) a w := by
  have h0 : ∀ j : Nat, j < [Value.slice sp n c].length → j = 0 := fun j hj => by simpa using hj
  have hst := run_storeCells_cells (P := P) b 0 [.slice sp n c] 0 w (fun j hj => by rw [h0 j hj]; simpa using hc) (fun j hj => by rw [h0 j hj]; simpa using hf) (fun v hv => by simp at hv; subst hv; rfl)
  have he : (execOp a.eval o').run P w = .ok .skip (w.setCell ⟨b, 0, none⟩ (.slice sp n c)) := by
    cases hq : P.info? ty with
    | none => simp [hq] at hz
    | some i =>
      have hs : i.size = 1 := by simp [hq] at hz; omega
      simp only [Nat.add_zero] at hst
      have e : (storeVar ty ⟨b, 0, none⟩ (.slice sp n c)).run P w = .ok () (w.setCell ⟨b, 0, none⟩ (.slice sp n c)) := by
        simp [storeVar, sizeOf, typeInfo, hq, Value.cells, hs, hst, World.setCells]
      unfold execOp
      simp only [ho, hx, hy, Instr.storeAt, Instr.sureAddr, Sem.run_bind, Sem.run_pure, Result.andThen_ok, e]
  unfold wpList
  rw [if_pos hw]
  refine .inl ?_
  unfold Oper.wp
  rw [he]
  exact h

set_option maxRecDepth 10000 in
set_option maxHeartbeats 8000000 in
theorem along_any (sp : Option Addr) (len cap : Nat) (hc : len ≤ cap) (hnil : sp = none → cap = 0) (z : Nat → Int) (w : World) (hs : Src w sp len z) :
    Calls Tryd.prog 33 #[.slice sp len cap] w fun e w' => ∃ B, e = .returned (.tuple #[(.func (.func 35) #[] #[.pointer (some ⟨B, 0, none⟩)]), (.func (.func 36) #[] #[.pointer (some ⟨B, 0, none⟩)])]) ∧ Tp w B len z w' := by
  go_enter Tryd.func33, Tryd.ntmps33
  go_upto_region 0 with fail
  refine wp_region_list ?_
  refine actL (w' := w.alloc (.cells #[.slice sp len cap] 22)) (.pointer (some ⟨w.heap.size, 0, none⟩)) rfl (by kernel_rfl) ?_
  simp only [aP, lI, l0, lS]
  refine pureL .nilFunc rfl (fun _ => by kernel_rfl) ?_
  simp only [aP, lI, l0, lS]
  refine pureL .nilFunc rfl (fun _ => by kernel_rfl) ?_
  simp only [aP, lI, l0, lS]
  have T : Tp w w.heap.size len z (w.alloc (.cells #[.slice sp len cap] 22)) := ⟨Nat.le_refl _, by simp, ⟨sp, cap, by rw [World.cell?_alloc_at _ _ _ _ rfl]; rfl, hc, hnil, hs⟩, by first | exact World.frozen?_alloc_new _ _ _ _ | (simp [World.frozen?, World.alloc]), (Below.refl _ _).alloc (Nat.le_refl _) _⟩
  generalize w.alloc (.cells #[.slice sp len cap] 22) = w1 at T ⊢
  generalize w.heap.size = B at *
  show Exit.then _ _ _ _ _
  go_upto_region 1 with fail
  refine wp_region_list ?_
  refine pureL (.func (.func 35) #[] #[.pointer (some ⟨B, 0, none⟩)]) rfl (fun _ => by kernel_rfl) ?_
  simp only [aP, lI, l0, lS]
  refine pureL (.func (.func 35) #[] #[.pointer (some ⟨B, 0, none⟩)]) rfl (fun _ => by kernel_rfl) ?_
  simp only [aP, lI, l0, lS]
  show Exit.then _ _ _ _ _
  go_upto_region 2 with fail
  refine wp_region_list ?_
  refine pureL (.func (.func 36) #[] #[.pointer (some ⟨B, 0, none⟩)]) rfl (fun _ => by kernel_rfl) ?_
  simp only [aP, lI, l0, lS]
  refine pureL (.func (.func 36) #[] #[.pointer (some ⟨B, 0, none⟩)]) rfl (fun _ => by kernel_rfl) ?_
  simp only [aP, lI, l0, lS]
  show Exit.then _ _ _ _ _
  go_upto_region 3 with fail
  refine wp_region_list ?_
  refine pureL (.func (.func 35) #[] #[.pointer (some ⟨B, 0, none⟩)]) rfl (fun _ => by kernel_rfl) ?_
  simp only [aP, lI, l0, lS]
  refine pureL (.func (.func 36) #[] #[.pointer (some ⟨B, 0, none⟩)]) rfl (fun _ => by kernel_rfl) ?_
  simp only [aP, lI, l0, lS]
  refine pureL (.func (.func 35) #[] #[.pointer (some ⟨B, 0, none⟩)]) rfl (fun _ => by kernel_rfl) ?_
  simp only [aP, lI, l0, lS]
  refine pureL (.func (.func 36) #[] #[.pointer (some ⟨B, 0, none⟩)]) rfl (fun _ => by kernel_rfl) ?_
  simp only [aP, lI, l0, lS]
  show Exit.then _ _ _ _ _
  go_wp2
  go_ret2
  exact ⟨B, rfl, T⟩

set_option maxRecDepth 10000 in
set_option maxHeartbeats 8000000 in
theorem next_any (w0 : World) (B len : Nat) (z : Nat → Int) (m : Nat) (w : World) (T : Tp w0 B len z w) :
    Calls Tryd.prog 35 #[.int .i64 (m : Int), .pointer (some ⟨B, 0, none⟩)] w fun e w' =>
      (len < m ∧ e = .returned (.tuple #[.slice none 0 0, .bool false]) ∧ Tp w0 B len z w') ∨
      (m ≤ len ∧ ∃ sp cap, e = .returned (.tuple #[.slice sp m cap, .bool true]) ∧ m ≤ cap ∧ (sp = none → cap = 0) ∧ Src w0 sp m z ∧ Tp w0 B (len - m) (fun j => z (m + j)) w') := by
  obtain ⟨sp, cap, hcell, hc, hnil, hs⟩ := T.cell
  by_cases h1 : len < m
  · go_enter Tryd.func35, Tryd.ntmps35
    go_upto_region 1 with fail
    refine wp_region_list ?_
    refine pureL (.int .i64 (m : Int)) rfl (fun _ => by kernel_rfl) ?_
    simp only [aP, lI, l0, lS]
    refine readL (.slice sp len cap) rfl (loadSl 22 5 _ ⟨B, 0, none⟩ _ rfl rfl Tryd.underlying22 hcell) ?_
    simp only [aP, lI, l0, lS]
    refine pureL (.int .i64 (len : Int)) rfl (fun w => lenS _ 22 5 (sp) (len) (cap) rfl Tryd.underlying22 rfl w) ?_
    simp only [aP, lI, l0, lS]
    refine pureL (.bool true) rfl (fun w => gtrI .i64 _ _ _ _ _ _ rfl rfl rfl true (decide_eq_true (by omega)) w) ?_
    simp only [aP, lI, l0, lS]
    show Exit.then _ _ _ _ _
    go_wp2
    go_ret2
    exact .inl ⟨h1, rfl, T⟩
  · obtain ⟨cp, hcut1, hcs1, hcn1⟩ := cut_hiN (P := Tryd.prog) (t := 22) (by kernel_rfl) (fun _ => by kernel_rfl) sp len cap m (by omega) hc hnil
    obtain ⟨cq, hcut2, hcs2, hcn2⟩ := cut_loN (P := Tryd.prog) (t := 22) (by kernel_rfl) (fun _ => by kernel_rfl) sp len cap m (by omega) hc hnil
    go_enter Tryd.func35, Tryd.ntmps35
    go_upto_region 1 with fail
    refine wp_region_list ?_
    refine pureL (.int .i64 (m : Int)) rfl (fun _ => by kernel_rfl) ?_
    simp only [aP, lI, l0, lS]
    refine readL (.slice sp len cap) rfl (loadSl 22 5 _ ⟨B, 0, none⟩ _ rfl rfl Tryd.underlying22 hcell) ?_
    simp only [aP, lI, l0, lS]
    refine pureL (.int .i64 (len : Int)) rfl (fun w => lenS _ 22 5 (sp) (len) (cap) rfl Tryd.underlying22 rfl w) ?_
    simp only [aP, lI, l0, lS]
    refine pureL (.bool false) rfl (fun w => gtrI .i64 _ _ _ _ _ _ rfl rfl rfl false (decide_eq_false (by omega)) w) ?_
    simp only [aP, lI, l0, lS]
    show Exit.then _ _ _ _ _
    go_upto_region 3 with fail
    refine wp_region_list ?_
    refine readL (.slice sp len cap) rfl (loadSl 22 5 _ ⟨B, 0, none⟩ _ rfl rfl Tryd.underlying22 hcell) ?_
    simp only [aP, lI, l0, lS]
    refine pureL (.int .i64 (m : Int)) rfl (fun _ => by kernel_rfl) ?_
    simp only [aP, lI, l0, lS]
    refine pureL (.slice cp m cap) rfl (fun w => cutHi _ _ _ _ _ _ rfl rfl rfl (hcut1 w)) ?_
    simp only [aP, lI, l0, lS]
    refine pureL (.slice cp m cap) rfl (fun _ => by kernel_rfl) ?_
    simp only [aP, lI, l0, lS]
    show Exit.then _ _ _ _ _
    go_upto_region 4 with fail
    refine wp_region_list ?_
    refine readL (.slice sp len cap) rfl (loadSl 22 5 _ ⟨B, 0, none⟩ _ rfl rfl Tryd.underlying22 hcell) ?_
    simp only [aP, lI, l0, lS]
    refine pureL (.int .i64 (m : Int)) rfl (fun _ => by kernel_rfl) ?_
    simp only [aP, lI, l0, lS]
    refine pureL (.slice cq (len - m) (cap - m)) rfl (fun w => cutOp _ _ _ _ _ _ rfl rfl rfl (hcut2 w)) ?_
    simp only [aP, lI, l0, lS]
    refine storeSl cq (len - m) (cap - m) B 22 _ _ rfl rfl rfl rfl (by rw [hcell]; rfl) T.free (by kernel_rfl) ?_
    simp only [Act.put]
    replace T := T.set cq (len - m) (cap - m) (fun j => z (m + j)) (by omega) hcn2 (hcs2 _ _ hs)
    replace hs := hcs1 _ _ hs
    generalize w.setCell ⟨B, 0, none⟩ (.slice cq (len - m) (cap - m)) = w1 at T ⊢
    clear hcut1 hcut2 hcs1 hcs2 hcn2 hcell
    show Exit.then _ _ _ _ _
    go_upto_region 5 with fail
    refine wp_region_list ?_
    refine pureL (.slice cp m cap) rfl (fun _ => by kernel_rfl) ?_
    simp only [aP, lI, l0, lS]
    refine pureL (.slice cp m cap) rfl (fun _ => by kernel_rfl) ?_
    simp only [aP, lI, l0, lS]
    refine pureL (.bool true) rfl (fun _ => by kernel_rfl) ?_
    simp only [aP, lI, l0, lS]
    show Exit.then _ _ _ _ _
    go_wp2
    go_ret2
    exact .inr ⟨by omega, cp, cap, rfl, by omega, hcn1, hs, T⟩

set_option maxRecDepth 10000 in
set_option maxHeartbeats 8000000 in
theorem left_any (w0 : World) (B len : Nat) (hlen : len ≤ 140737488351240) (z : Nat → Int) (w : World) (T : Tp w0 B len z w) :
    Calls Tryd.prog 36 #[.pointer (some ⟨B, 0, none⟩)] w fun e w' => ∃ v, e = .returned v ∧ Own w' w.heap.size 5 .u8 len z v ∧ Below w.heap.size w w' := by
  obtain ⟨sp, cap, hcell, hc, hnil, hs⟩ := T.cell
  go_enter Tryd.func36, Tryd.ntmps36
  go_upto_region 1 with fail
  refine wp_region_list ?_
  refine readL (.slice sp len cap) rfl (loadSl 22 5 _ ⟨B, 0, none⟩ _ rfl rfl Tryd.underlying22 hcell) ?_
  simp only [aP, lI, l0, lS]
  refine callL rfl (fun _ => by kernel_rfl) (clone_any sp len cap hlen hc hnil z _ (hs.below T.below (Nat.le_refl _))) ?_
  rintro e w1 ⟨v, rfl, hO, hB⟩
  refine ⟨_, rfl, ?_⟩
  simp only [aP, lI, l0, lS]
  refine pureL v rfl (fun _ => by kernel_rfl) ?_
  simp only [aP, lI, l0, lS]
  show Exit.then _ _ _ _ _
  go_wp2
  go_ret
  exact ⟨v, rfl, hO, hB⟩

set_option maxRecDepth 10000 in
set_option maxHeartbeats 8000000 in
theorem isSize_any (s : Int) (w : World) : Calls Tryd.prog 31 #[.int .i64 s] w fun e w' => e = .returned (.bool (decide (1 ≤ s ∧ s ≤ 7))) ∧ Below w.heap.size w w' := by
  have hB := Below.refl w.heap.size w
  by_cases h1 : 1 ≤ s
  · by_cases h2 : s ≤ 7
    · rw [decide_eq_true (And.intro h1 h2)]
      go_enter Tryd.func31, Tryd.ntmps31
      go_wp2
      go_ret
      exact ⟨rfl, hB⟩
    · rw [decide_eq_false (fun h => h2 h.2)]
      go_enter Tryd.func31, Tryd.ntmps31
      go_wp2
      go_ret
      exact ⟨rfl, hB⟩
  · rw [decide_eq_false (fun h => h1 h.1)]
    go_enter Tryd.func31, Tryd.ntmps31
    go_wp2
    go_ret
    exact ⟨rfl, hB⟩
end Go.Proofs.YtbhhboiofepnhaaDoor
