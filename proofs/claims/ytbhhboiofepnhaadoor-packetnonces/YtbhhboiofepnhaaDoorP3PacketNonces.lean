/- Texts of Xt Opn Open11 Door11, joined. -/
import Derived.Test.YtbhhboiofepnhaaDoorP2PacketNonces
import Derived.Test.YtbhhboiofepnhaaDoorP1PacketNonces
import Derived.ProofKit
import Derived.LaidMore
import Derived.OpenShut
import Derived.SizedLaws
import Derived.Deep.Strs
import Derived.Stop.Joined
import Derived.Test.YtbhhboiofepnhaaDoorRows
import Derived.JoinedCond
import Derived.Carry
namespace Go.Proofs.YtbhhboiofepnhaaDoor
open Go.RowKit

def qszn : Nat → Nat
  | 3 => 2
  | 4 => 6
  | _ => 1
/-- Where a head's numbers begin; what they are. -/
def rof : Nat → Nat
  | 0 => 0
  | k + 1 => rof k + qszn k
def rnum (b : List Int) (k : Nat) : Int := fV (fun i => bl b (rof k + i)) (qszn k)
def rnz (b : List Int) (j k : Nat) : Int := if k < j then rnum b k else 0
def ncs (b : List Int) (j : Nat) : List Value := [.int .i64 (rnz b j 0), .int .i64 (rnz b j 1), .int .i64 (rnz b j 2), .int .i64 (rnz b j 3), .int .i64 (rnz b j 4)]
theorem rnum_byte (b : List Int) (k : Nat) (hk : k < 3) : rnum b k = bl b k := by
  have : k = 0 ∨ k = 1 ∨ k = 2 := by omega
  rcases this with rfl | rfl | rfl
  · show 0 * 256 + bl b 0 = bl b 0; omega
  · show 0 * 256 + bl b 1 = bl b 1; omega
  · show 0 * 256 + bl b 2 = bl b 2; omega
theorem PG.row {w : World} (h : PG w) : ∀ (j : Nat) (v : Value), ([.int .i64 1, .int .i64 1, .int .i64 1, .int .i64 2, .int .i64 6] : List Value)[j]? = some v → w.cell? ((⟨0, 0, none⟩ : Addr).add j) = some v := fun j v hv => by
  rw [Addr.add_mid, Nat.zero_add]
  match j, hv with
  | 0, hv => cases hv; exact h.sz 0 (by decide)
  | 1, hv => cases hv; exact h.sz 1 (by decide)
  | 2, hv => cases hv; exact h.sz 2 (by decide)
  | 3, hv => cases hv; exact h.sz 3 (by decide)
  | 4, hv => cases hv; exact h.sz 4 (by decide)
  | _ + 5, hv => cases hv
theorem prs_rec {b : List Int} (h : bl b 0 = 3) : prs b = ⟨rnum b 0, rnum b 1, rnum b 2, rnum b 3, rnum b 4, b.drop 11⟩ := by
  unfold prs
  rw [if_pos h, rnum_byte b 0 (by decide), rnum_byte b 1 (by decide), rnum_byte b 2 (by decide), h]
  rfl
theorem prs_other {b : List Int} (h : ¬ bl b 0 = 3) : prs b = ⟨bl b 0, 0, 0, 0, 0, b.drop 1⟩ := by unfold prs; rw [if_neg h]
abbrev OwnN (w : World) (base n : Nat) (f : Nat → Int) (v : Value) : Prop := Own w base 5 .u8 n f v
theorem i64_0 : i64 0 := by unfold i64; decide

set_option maxRecDepth 10000 in
set_option maxHeartbeats 32000000 in
theorem pread_any (sp : Option Addr) (cap : Nat) (b : List Int) (w0 w : World) (hl0 : Below w0.heap.size w0 w) (hg : PG w) (hlen : b.length ≤ 140737488351232) (hcap : b.length ≤ cap) (hnil : sp = none → cap = 0) (hb : Byts b) (hs0 : Src w0 sp b.length (bl b)) (h1 : 0 < b.length) (h27 : bl b 0 = 3 → 27 ≤ b.length) :
    Calls Tryd.prog 24 #[.slice sp b.length cap] w fun e w' => (∃ bp bc, e = .returned (.agg (pcs (prs b) bp bc).toArray) ∧ PV w0 (prs b) bp bc) ∧ Below w.heap.size w w' := by
  have M := Mm.init w
  obtain ⟨ad, rfl, _⟩ := hs0 0 h1
  have hs := hs0.below hl0 (Nat.le_refl _)
  have hx0 := hb.bl 0 h1
  go_enter Tryd.func24, Tryd.ntmps24
  go_upto_region 0 with fail
  refine wp_region_list ?_
  refine actL (w' := w.alloc (.cells #[.int .i64 0, .int .i64 0, .int .i64 0, .int .i64 0, .int .i64 0, .slice none 0 0] 24)) (.pointer (some ⟨w.heap.size, 0, none⟩)) rfl (by kernel_rfl) ?_
  simp only [aP, lI, l0, lS]
  have hB_B1 : w.heap.size ≤ w.heap.size := M.below.size
  replace M := M.box #[.int .i64 0, .int .i64 0, .int .i64 0, .int .i64 0, .int .i64 0, .slice none 0 0] 24 w.heap.size rfl
  generalize w.alloc (.cells #[.int .i64 0, .int .i64 0, .int .i64 0, .int .i64 0, .int .i64 0, .slice none 0 0] 24) = w1 at M  ⊢
  generalize eB : w.heap.size = B1 at M hB_B1  ⊢
  have hE_B1 : w.heap.size ≤ B1 := Nat.le_of_eq eB
  have hF_B1 : B1 ≤ w.heap.size := Nat.le_of_eq eB.symm
  clear eB
  replace M : Mm w ([(B1, [.int .i64 0, .int .i64 0, .int .i64 0, .int .i64 0, .int .i64 0, .slice none 0 0])]) w1 := M
  first | show Exit.then _ _ _ _ _ | show Exit.inBlock _ _ _ _ _
  by_cases h3 : bl b 0 = 3
  · have hl27 := h27 h3
    go_upto_region 1 with fail
    refine wp_region_list ?_
    refine readL (.slice (some ad) b.length cap) rfl (by kernel_rfl) ?_
    simp only [aP, lI, l0, lS]
    refine readL (.pointer (some (ad.add 0))) rfl (idxSl 22 5 b.length cap .i64 ad 0 _ _ Tryd.underlying22 (fun _ => by kernel_rfl) (by omega) rfl rfl rfl _) ?_
    simp only [aP, lI, l0, lS]
    refine readL (.int .u8 (bl b 0)) rfl (load1 5 _ (ad.add 0) _ rfl rfl (fun _ => by kernel_rfl) ((hs.below M.below (Nat.le_refl _)).at 0 (by omega))) ?_
    simp only [aP, lI, l0, lS]
    refine readL (.bool false) rfl (neqI .u8 _ _ _ _ _ _ rfl rfl rfl false (by rw [h3]; rfl) _) ?_
    simp only [aP, lI, l0, lS]
    first | show Exit.then _ _ _ _ _ | show Exit.inBlock _ _ _ _ _
    go_upto_region 3 with fail
    refine wp_region_list ?_
    refine actL (w' := w1.alloc (.cells #[.int .i64 0, .int .i64 0, .int .i64 0, .int .i64 0, .int .i64 0] 50)) (.pointer (some ⟨w1.heap.size, 0, none⟩)) rfl (by kernel_rfl) ?_
    simp only [aP, lI, l0, lS]
    have hB_B2 : w.heap.size ≤ w1.heap.size := M.below.size
    replace M := M.box #[.int .i64 0, .int .i64 0, .int .i64 0, .int .i64 0, .int .i64 0] 50 w1.heap.size rfl
    generalize w1.alloc (.cells #[.int .i64 0, .int .i64 0, .int .i64 0, .int .i64 0, .int .i64 0] 50) = w2 at M  ⊢
    generalize eB : w1.heap.size = B2 at M hB_B2  ⊢
    have hE_B2 : w1.heap.size ≤ B2 := Nat.le_of_eq eB
    have hF_B2 : B2 ≤ w1.heap.size := Nat.le_of_eq eB.symm
    clear eB
    replace M : Mm w ([(B2, [.int .i64 0, .int .i64 0, .int .i64 0, .int .i64 0, .int .i64 0]), (B1, [.int .i64 0, .int .i64 0, .int .i64 0, .int .i64 0, .int .i64 0, .slice none 0 0])]) w2 := M
    first | show Exit.then _ _ _ _ _ | show Exit.inBlock _ _ _ _ _
    go_upto_region 4 with fail
    refine wp_region_list ?_
    refine readL (.slice (some ad) b.length cap) rfl (by kernel_rfl) ?_
    simp only [aP, lI, l0, lS]
    obtain ⟨q19, hq19, hqs19⟩ := cut_hi (P := Tryd.prog) (t := 22) (by kernel_rfl) (fun _ => by kernel_rfl) (some ad) b.length cap 11 (by omega) hcap
    refine readL (.slice q19 11 cap) rfl (cutHi _ _ _ _ _ _ rfl rfl rfl (hq19 _)) ?_
    simp only [aP, lI, l0, lS]
    refine readL (.slice q19 11 cap) rfl (by kernel_rfl) ?_
    simp only [aP, lI, l0, lS]
    first | show Exit.then _ _ _ _ _ | show Exit.inBlock _ _ _ _ _
    go_upto_region 5 with fail
    refine wp_region_list ?_
    refine readL (.agg #[.int .i64 1, .int .i64 1, .int .i64 1, .int .i64 2, .int .i64 6]) rfl (loadN 50 _ ⟨0, 0, none⟩ [.int .i64 1, .int .i64 1, .int .i64 1, .int .i64 2, .int .i64 6] rfl rfl (fun _ => by kernel_rfl) (fun _ => by kernel_rfl) (hg.mm M).row) ?_
    simp only [aP, lI, l0, lS]
    refine readL (.int .i64 0) rfl (by kernel_rfl) ?_
    simp only [aP, lI, l0, lS]
    first | show Exit.then _ _ _ _ _ | show Exit.inBlock _ _ _ _ _
    have hS0 : Src w2 q19 11 (fun k => bl b (rof 0 + k)) := (hqs19 _ _ (hs.below M.below (Nat.le_refl _))).congr fun k _ => congrArg (bl b) (Nat.zero_add k).symm
    have hN0 : q19 = none → cap = 0 := fun e => by obtain ⟨_, e', _⟩ := hS0 0 (by decide); rw [e] at e'; cases e'
    have HI := show Hid _ from (And.intro (show Mm w [(B2, ncs b 0), (B1, [.int .i64 0, .int .i64 0, .int .i64 0, .int .i64 0, .int .i64 0, .slice none 0 0])] w2 from M) (And.intro hS0 hN0))
    clear M hS0 hN0
    have hc11 : 11 ≤ cap := by omega
    go_wp2
    go_loopw [4, 21] (fun v i w' => ∃ (j : Nat) (rp : Option Addr) (rc : Nat), j ≤ 5 ∧ i = .int .i64 (j : Int) ∧ v = .slice rp (11 - rof j) rc ∧ 11 - rof j ≤ rc ∧ (rp = none → rc = 0) ∧ Src w' rp (11 - rof j) (fun k => bl b (rof j + k)) ∧ Mm w [(B2, ncs b j), (B1, [.int .i64 0, .int .i64 0, .int .i64 0, .int .i64 0, .int .i64 0, .slice none 0 0])] w') (fun _ i _ => 5 - (intOf i).toNat)
    case atStart => exact ⟨0, _, _, Nat.zero_le _, rfl, rfl, hc11, HI.out.2.2, HI.out.2.1, HI.out.1⟩
    case round =>
      clear HI
      obtain ⟨j, rp, rc, hj, rfl, rfl, hrc, hrn, hrs, M⟩ := hrel
      have hj6 : j = 0 ∨ j = 1 ∨ j = 2 ∨ j = 3 ∨ j = 4 ∨ j = 5 := by omega
      clear hj
      rcases hj6 with rfl | rfl | rfl | rfl | rfl | rfl
      · replace hrc : 11 ≤ rc := hrc
        replace hrs : Src wr rp 11 (fun k => bl b (rof 0 + k)) := hrs
        replace M : Mm w [(B2, [.int .i64 0, .int .i64 0, .int .i64 0, .int .i64 0, .int .i64 0]), (B1, [.int .i64 0, .int .i64 0, .int .i64 0, .int .i64 0, .int .i64 0, .slice none 0 0])] wr := M
        have er : 11 - rof 0 = 11 := rfl
        rw [er]
        clear er
        go_upto_region 6 with fail
        refine wp_region_list ?_
        refine readL (.bool true) rfl (lssI .i64 _ _ _ _ _ _ rfl rfl rfl true (by decide) _) ?_
        simp only [aP, lI, l0, lS]
        first | show Exit.then _ _ _ _ _ | show Exit.inBlock _ _ _ _ _
        go_upto_region 7 with fail
        refine wp_region_list ?_
        refine readL (.int .i64 ((0 : Nat) : Int)) rfl (by kernel_rfl) ?_
        simp only [aP, lI, l0, lS]
        refine readL (.int .i64 1) rfl (by kernel_rfl) ?_
        simp only [aP, lI, l0, lS]
        refine readL (.int .i64 ((0 : Nat) : Int)) rfl (by kernel_rfl) ?_
        simp only [aP, lI, l0, lS]
        refine readL (.int .i64 1) rfl (by kernel_rfl) ?_
        simp only [aP, lI, l0, lS]
        first | show Exit.then _ _ _ _ _ | show Exit.inBlock _ _ _ _ _
        go_upto_region 8 with fail
        refine wp_region_list ?_
        refine readL (.int .i64 ((0 : Nat) : Int)) rfl (by kernel_rfl) ?_
        simp only [aP, lI, l0, lS]
        refine readL (.slice rp 11 rc) rfl (by kernel_rfl) ?_
        simp only [aP, lI, l0, lS]
        refine readL (.int .i64 1) rfl (by kernel_rfl) ?_
        simp only [aP, lI, l0, lS]
        have hzz : In 256 11 (fun k => bl b (rof 0 + k)) := fun k hk => hb.bl (rof 0 + k) (by show 0 + k < b.length; omega)
        have hBt := M.lt List.mem_cons_self
        refine callL rfl (fun _ => by kernel_rfl) (vtakefixed_own rp 11 rc (by decide) hrc hrn (fun k => bl b (rof 0 + k)) hzz 1 (by decide) _ hrs) ?_
        rintro e w3 ⟨⟨v, rfl, O_0⟩, l⟩
        have O_2 : OwnN w3 wr.heap.size 10 (fun k => bl b (rof 1 + k)) v := (show Own w3 wr.heap.size 5 .u8 10 _ v from O_0).congr fun k _ => congrArg (bl b) (by show 0 + (1 + k) = 1 + k; omega)
        replace M := M.call l
        obtain ⟨p2, c2, rfl, _, _⟩ := O_2.bytes
        have eg : gN 11 (fun k => bl b (rof 0 + k)) 1 = rnum b 0 := rfl
        have ee : gE 11 1 = 0 := rfl
        rw [eg, ee]
        clear l O_0 hzz hrs hrc hrn eg ee
        refine ⟨_, rfl, ?_⟩
        simp only [aP, lI, l0, lS]
        refine readL (.tuple #[.int .i64 (rnum b 0), .slice p2 10 c2, .int .i64 0]) rfl (by kernel_rfl) ?_
        simp only [aP, lI, l0, lS]
        refine readL (.int .i64 (rnum b 0)) rfl (by kernel_rfl) ?_
        simp only [aP, lI, l0, lS]
        refine readL (.slice p2 10 c2) rfl (by kernel_rfl) ?_
        simp only [aP, lI, l0, lS]
        refine readL (.int .i64 0) rfl (by kernel_rfl) ?_
        simp only [aP, lI, l0, lS]
        refine readL (.pointer (some ⟨B2, 0, none⟩)) rfl (by kernel_rfl) ?_
        simp only [aP, lI, l0, lS]
        refine skipOpL rfl (storeAny (.int .i64 (rnum b 0)) B2 0 3 _ _ rfl rfl rfl rfl rfl (M.isSome List.mem_cons_self 0 (by simp)) (M.free List.mem_cons_self 0 (by simp)) (by kernel_rfl)) ?_
        simp only [Act.put]
        replace M := M.set 0 (by simp) (.int .i64 (rnum b 0))
        replace O_2 := Own.off1 O_2 ((Off.refl [B2] _).set (b := B2) List.mem_cons_self 0 (.int .i64 (rnum b 0))) (by omega)
        generalize w3.setCell ⟨B2, 0, none⟩ (.int .i64 (rnum b 0)) = w4 at M O_2 ⊢
        replace M : Mm w ([(B2, [.int .i64 (rnum b 0), .int .i64 0, .int .i64 0, .int .i64 0, .int .i64 0]), (B1, [.int .i64 0, .int .i64 0, .int .i64 0, .int .i64 0, .int .i64 0, .slice none 0 0])]) w4 := M
        refine readL (.slice p2 10 c2) rfl (by kernel_rfl) ?_
        simp only [aP, lI, l0, lS]
        first | show Exit.then _ _ _ _ _ | show Exit.inBlock _ _ _ _ _
        have HS := show Hid _ from (And.intro M O_2)
        clear M O_2
        go_wp2
        go_roundw
        case rel => first | exact ⟨1, _, _, by decide, by go_num, rfl, HS.out.2.le, HS.out.2.nilCap, HS.out.2.src, HS.out.1⟩ | ((repeat apply Exists.intro); refine ⟨⟨1, _, _, by decide, ?_, rfl, HS.out.2.le, HS.out.2.nilCap, HS.out.2.src, HS.out.1⟩, rfl⟩ <;> first | rfl | go_num)
        case measure => simp [intOf]
      · replace hrc : 10 ≤ rc := hrc
        replace hrs : Src wr rp 10 (fun k => bl b (rof 1 + k)) := hrs
        replace M : Mm w [(B2, [.int .i64 (rnum b 0), .int .i64 0, .int .i64 0, .int .i64 0, .int .i64 0]), (B1, [.int .i64 0, .int .i64 0, .int .i64 0, .int .i64 0, .int .i64 0, .slice none 0 0])] wr := M
        have er : 11 - rof 1 = 10 := rfl
        rw [er]
        clear er
        go_upto_region 6 with fail
        refine wp_region_list ?_
        refine readL (.bool true) rfl (lssI .i64 _ _ _ _ _ _ rfl rfl rfl true (by decide) _) ?_
        simp only [aP, lI, l0, lS]
        first | show Exit.then _ _ _ _ _ | show Exit.inBlock _ _ _ _ _
        go_upto_region 7 with fail
        refine wp_region_list ?_
        refine readL (.int .i64 ((1 : Nat) : Int)) rfl (by kernel_rfl) ?_
        simp only [aP, lI, l0, lS]
        refine readL (.int .i64 1) rfl (by kernel_rfl) ?_
        simp only [aP, lI, l0, lS]
        refine readL (.int .i64 ((1 : Nat) : Int)) rfl (by kernel_rfl) ?_
        simp only [aP, lI, l0, lS]
        refine readL (.int .i64 1) rfl (by kernel_rfl) ?_
        simp only [aP, lI, l0, lS]
        first | show Exit.then _ _ _ _ _ | show Exit.inBlock _ _ _ _ _
        go_upto_region 8 with fail
        refine wp_region_list ?_
        refine readL (.int .i64 ((1 : Nat) : Int)) rfl (by kernel_rfl) ?_
        simp only [aP, lI, l0, lS]
        refine readL (.slice rp 10 rc) rfl (by kernel_rfl) ?_
        simp only [aP, lI, l0, lS]
        refine readL (.int .i64 1) rfl (by kernel_rfl) ?_
        simp only [aP, lI, l0, lS]
        have hzz : In 256 10 (fun k => bl b (rof 1 + k)) := fun k hk => hb.bl (rof 1 + k) (by show 1 + k < b.length; omega)
        have hBt := M.lt List.mem_cons_self
        refine callL rfl (fun _ => by kernel_rfl) (vtakefixed_own rp 10 rc (by decide) hrc hrn (fun k => bl b (rof 1 + k)) hzz 1 (by decide) _ hrs) ?_
        rintro e w5 ⟨⟨v, rfl, O_0⟩, l⟩
        have O_2 : OwnN w5 wr.heap.size 9 (fun k => bl b (rof 2 + k)) v := (show Own w5 wr.heap.size 5 .u8 9 _ v from O_0).congr fun k _ => congrArg (bl b) (by show 1 + (1 + k) = 2 + k; omega)
        replace M := M.call l
        obtain ⟨p2, c2, rfl, _, _⟩ := O_2.bytes
        have eg : gN 10 (fun k => bl b (rof 1 + k)) 1 = rnum b 1 := rfl
        have ee : gE 10 1 = 0 := rfl
        rw [eg, ee]
        clear l O_0 hzz hrs hrc hrn eg ee
        refine ⟨_, rfl, ?_⟩
        simp only [aP, lI, l0, lS]
        refine readL (.tuple #[.int .i64 (rnum b 1), .slice p2 9 c2, .int .i64 0]) rfl (by kernel_rfl) ?_
        simp only [aP, lI, l0, lS]
        refine readL (.int .i64 (rnum b 1)) rfl (by kernel_rfl) ?_
        simp only [aP, lI, l0, lS]
        refine readL (.slice p2 9 c2) rfl (by kernel_rfl) ?_
        simp only [aP, lI, l0, lS]
        refine readL (.int .i64 0) rfl (by kernel_rfl) ?_
        simp only [aP, lI, l0, lS]
        refine readL (.pointer (some ⟨B2, 1, none⟩)) rfl (by kernel_rfl) ?_
        simp only [aP, lI, l0, lS]
        refine skipOpL rfl (storeAny (.int .i64 (rnum b 1)) B2 1 3 _ _ rfl rfl rfl rfl rfl (M.isSome List.mem_cons_self 1 (by simp)) (M.free List.mem_cons_self 1 (by simp)) (by kernel_rfl)) ?_
        simp only [Act.put]
        replace M := M.set 1 (by simp) (.int .i64 (rnum b 1))
        replace O_2 := Own.off1 O_2 ((Off.refl [B2] _).set (b := B2) List.mem_cons_self 1 (.int .i64 (rnum b 1))) (by omega)
        generalize w5.setCell ⟨B2, 1, none⟩ (.int .i64 (rnum b 1)) = w6 at M O_2 ⊢
        replace M : Mm w ([(B2, [.int .i64 (rnum b 0), .int .i64 (rnum b 1), .int .i64 0, .int .i64 0, .int .i64 0]), (B1, [.int .i64 0, .int .i64 0, .int .i64 0, .int .i64 0, .int .i64 0, .slice none 0 0])]) w6 := M
        refine readL (.slice p2 9 c2) rfl (by kernel_rfl) ?_
        simp only [aP, lI, l0, lS]
        first | show Exit.then _ _ _ _ _ | show Exit.inBlock _ _ _ _ _
        have HS := show Hid _ from (And.intro M O_2)
        clear M O_2
        go_wp2
        go_roundw
        case rel => first | exact ⟨2, _, _, by decide, by go_num, rfl, HS.out.2.le, HS.out.2.nilCap, HS.out.2.src, HS.out.1⟩ | ((repeat apply Exists.intro); refine ⟨⟨2, _, _, by decide, ?_, rfl, HS.out.2.le, HS.out.2.nilCap, HS.out.2.src, HS.out.1⟩, rfl⟩ <;> first | rfl | go_num)
        case measure => simp [intOf]
      · replace hrc : 9 ≤ rc := hrc
        replace hrs : Src wr rp 9 (fun k => bl b (rof 2 + k)) := hrs
        replace M : Mm w [(B2, [.int .i64 (rnum b 0), .int .i64 (rnum b 1), .int .i64 0, .int .i64 0, .int .i64 0]), (B1, [.int .i64 0, .int .i64 0, .int .i64 0, .int .i64 0, .int .i64 0, .slice none 0 0])] wr := M
        have er : 11 - rof 2 = 9 := rfl
        rw [er]
        clear er
        go_upto_region 6 with fail
        refine wp_region_list ?_
        refine readL (.bool true) rfl (lssI .i64 _ _ _ _ _ _ rfl rfl rfl true (by decide) _) ?_
        simp only [aP, lI, l0, lS]
        first | show Exit.then _ _ _ _ _ | show Exit.inBlock _ _ _ _ _
        go_upto_region 7 with fail
        refine wp_region_list ?_
        refine readL (.int .i64 ((2 : Nat) : Int)) rfl (by kernel_rfl) ?_
        simp only [aP, lI, l0, lS]
        refine readL (.int .i64 1) rfl (by kernel_rfl) ?_
        simp only [aP, lI, l0, lS]
        refine readL (.int .i64 ((2 : Nat) : Int)) rfl (by kernel_rfl) ?_
        simp only [aP, lI, l0, lS]
        refine readL (.int .i64 1) rfl (by kernel_rfl) ?_
        simp only [aP, lI, l0, lS]
        first | show Exit.then _ _ _ _ _ | show Exit.inBlock _ _ _ _ _
        go_upto_region 8 with fail
        refine wp_region_list ?_
        refine readL (.int .i64 ((2 : Nat) : Int)) rfl (by kernel_rfl) ?_
        simp only [aP, lI, l0, lS]
        refine readL (.slice rp 9 rc) rfl (by kernel_rfl) ?_
        simp only [aP, lI, l0, lS]
        refine readL (.int .i64 1) rfl (by kernel_rfl) ?_
        simp only [aP, lI, l0, lS]
        have hzz : In 256 9 (fun k => bl b (rof 2 + k)) := fun k hk => hb.bl (rof 2 + k) (by show 2 + k < b.length; omega)
        have hBt := M.lt List.mem_cons_self
        refine callL rfl (fun _ => by kernel_rfl) (vtakefixed_own rp 9 rc (by decide) hrc hrn (fun k => bl b (rof 2 + k)) hzz 1 (by decide) _ hrs) ?_
        rintro e w7 ⟨⟨v, rfl, O_0⟩, l⟩
        have O_2 : OwnN w7 wr.heap.size 8 (fun k => bl b (rof 3 + k)) v := (show Own w7 wr.heap.size 5 .u8 8 _ v from O_0).congr fun k _ => congrArg (bl b) (by show 2 + (1 + k) = 3 + k; omega)
        replace M := M.call l
        obtain ⟨p2, c2, rfl, _, _⟩ := O_2.bytes
        have eg : gN 9 (fun k => bl b (rof 2 + k)) 1 = rnum b 2 := rfl
        have ee : gE 9 1 = 0 := rfl
        rw [eg, ee]
        clear l O_0 hzz hrs hrc hrn eg ee
        refine ⟨_, rfl, ?_⟩
        simp only [aP, lI, l0, lS]
        refine readL (.tuple #[.int .i64 (rnum b 2), .slice p2 8 c2, .int .i64 0]) rfl (by kernel_rfl) ?_
        simp only [aP, lI, l0, lS]
        refine readL (.int .i64 (rnum b 2)) rfl (by kernel_rfl) ?_
        simp only [aP, lI, l0, lS]
        refine readL (.slice p2 8 c2) rfl (by kernel_rfl) ?_
        simp only [aP, lI, l0, lS]
        refine readL (.int .i64 0) rfl (by kernel_rfl) ?_
        simp only [aP, lI, l0, lS]
        refine readL (.pointer (some ⟨B2, 2, none⟩)) rfl (by kernel_rfl) ?_
        simp only [aP, lI, l0, lS]
        refine skipOpL rfl (storeAny (.int .i64 (rnum b 2)) B2 2 3 _ _ rfl rfl rfl rfl rfl (M.isSome List.mem_cons_self 2 (by simp)) (M.free List.mem_cons_self 2 (by simp)) (by kernel_rfl)) ?_
        simp only [Act.put]
        replace M := M.set 2 (by simp) (.int .i64 (rnum b 2))
        replace O_2 := Own.off1 O_2 ((Off.refl [B2] _).set (b := B2) List.mem_cons_self 2 (.int .i64 (rnum b 2))) (by omega)
        generalize w7.setCell ⟨B2, 2, none⟩ (.int .i64 (rnum b 2)) = w8 at M O_2 ⊢
        replace M : Mm w ([(B2, [.int .i64 (rnum b 0), .int .i64 (rnum b 1), .int .i64 (rnum b 2), .int .i64 0, .int .i64 0]), (B1, [.int .i64 0, .int .i64 0, .int .i64 0, .int .i64 0, .int .i64 0, .slice none 0 0])]) w8 := M
        refine readL (.slice p2 8 c2) rfl (by kernel_rfl) ?_
        simp only [aP, lI, l0, lS]
        first | show Exit.then _ _ _ _ _ | show Exit.inBlock _ _ _ _ _
        have HS := show Hid _ from (And.intro M O_2)
        clear M O_2
        go_wp2
        go_roundw
        case rel => first | exact ⟨3, _, _, by decide, by go_num, rfl, HS.out.2.le, HS.out.2.nilCap, HS.out.2.src, HS.out.1⟩ | ((repeat apply Exists.intro); refine ⟨⟨3, _, _, by decide, ?_, rfl, HS.out.2.le, HS.out.2.nilCap, HS.out.2.src, HS.out.1⟩, rfl⟩ <;> first | rfl | go_num)
        case measure => simp [intOf]
      · replace hrc : 8 ≤ rc := hrc
        replace hrs : Src wr rp 8 (fun k => bl b (rof 3 + k)) := hrs
        replace M : Mm w [(B2, [.int .i64 (rnum b 0), .int .i64 (rnum b 1), .int .i64 (rnum b 2), .int .i64 0, .int .i64 0]), (B1, [.int .i64 0, .int .i64 0, .int .i64 0, .int .i64 0, .int .i64 0, .slice none 0 0])] wr := M
        have er : 11 - rof 3 = 8 := rfl
        rw [er]
        clear er
        go_upto_region 6 with fail
        refine wp_region_list ?_
        refine readL (.bool true) rfl (lssI .i64 _ _ _ _ _ _ rfl rfl rfl true (by decide) _) ?_
        simp only [aP, lI, l0, lS]
        first | show Exit.then _ _ _ _ _ | show Exit.inBlock _ _ _ _ _
        go_upto_region 7 with fail
        refine wp_region_list ?_
        refine readL (.int .i64 ((3 : Nat) : Int)) rfl (by kernel_rfl) ?_
        simp only [aP, lI, l0, lS]
        refine readL (.int .i64 2) rfl (by kernel_rfl) ?_
        simp only [aP, lI, l0, lS]
        refine readL (.int .i64 ((3 : Nat) : Int)) rfl (by kernel_rfl) ?_
        simp only [aP, lI, l0, lS]
        refine readL (.int .i64 2) rfl (by kernel_rfl) ?_
        simp only [aP, lI, l0, lS]
        first | show Exit.then _ _ _ _ _ | show Exit.inBlock _ _ _ _ _
        go_upto_region 8 with fail
        refine wp_region_list ?_
        refine readL (.int .i64 ((3 : Nat) : Int)) rfl (by kernel_rfl) ?_
        simp only [aP, lI, l0, lS]
        refine readL (.slice rp 8 rc) rfl (by kernel_rfl) ?_
        simp only [aP, lI, l0, lS]
        refine readL (.int .i64 2) rfl (by kernel_rfl) ?_
        simp only [aP, lI, l0, lS]
        have hzz : In 256 8 (fun k => bl b (rof 3 + k)) := fun k hk => hb.bl (rof 3 + k) (by show 3 + k < b.length; omega)
        have hBt := M.lt List.mem_cons_self
        refine callL rfl (fun _ => by kernel_rfl) (vtakefixed_own rp 8 rc (by decide) hrc hrn (fun k => bl b (rof 3 + k)) hzz 2 (by decide) _ hrs) ?_
        rintro e w9 ⟨⟨v, rfl, O_0⟩, l⟩
        have O_2 : OwnN w9 wr.heap.size 6 (fun k => bl b (rof 4 + k)) v := (show Own w9 wr.heap.size 5 .u8 6 _ v from O_0).congr fun k _ => congrArg (bl b) (by show 3 + (2 + k) = 5 + k; omega)
        replace M := M.call l
        obtain ⟨p2, c2, rfl, _, _⟩ := O_2.bytes
        have eg : gN 8 (fun k => bl b (rof 3 + k)) 2 = rnum b 3 := rfl
        have ee : gE 8 2 = 0 := rfl
        rw [eg, ee]
        clear l O_0 hzz hrs hrc hrn eg ee
        refine ⟨_, rfl, ?_⟩
        simp only [aP, lI, l0, lS]
        refine readL (.tuple #[.int .i64 (rnum b 3), .slice p2 6 c2, .int .i64 0]) rfl (by kernel_rfl) ?_
        simp only [aP, lI, l0, lS]
        refine readL (.int .i64 (rnum b 3)) rfl (by kernel_rfl) ?_
        simp only [aP, lI, l0, lS]
        refine readL (.slice p2 6 c2) rfl (by kernel_rfl) ?_
        simp only [aP, lI, l0, lS]
        refine readL (.int .i64 0) rfl (by kernel_rfl) ?_
        simp only [aP, lI, l0, lS]
        refine readL (.pointer (some ⟨B2, 3, none⟩)) rfl (by kernel_rfl) ?_
        simp only [aP, lI, l0, lS]
        refine skipOpL rfl (storeAny (.int .i64 (rnum b 3)) B2 3 3 _ _ rfl rfl rfl rfl rfl (M.isSome List.mem_cons_self 3 (by simp)) (M.free List.mem_cons_self 3 (by simp)) (by kernel_rfl)) ?_
        simp only [Act.put]
        replace M := M.set 3 (by simp) (.int .i64 (rnum b 3))
        replace O_2 := Own.off1 O_2 ((Off.refl [B2] _).set (b := B2) List.mem_cons_self 3 (.int .i64 (rnum b 3))) (by omega)
        generalize w9.setCell ⟨B2, 3, none⟩ (.int .i64 (rnum b 3)) = w10 at M O_2 ⊢
        replace M : Mm w ([(B2, [.int .i64 (rnum b 0), .int .i64 (rnum b 1), .int .i64 (rnum b 2), .int .i64 (rnum b 3), .int .i64 0]), (B1, [.int .i64 0, .int .i64 0, .int .i64 0, .int .i64 0, .int .i64 0, .slice none 0 0])]) w10 := M
        refine readL (.slice p2 6 c2) rfl (by kernel_rfl) ?_
        simp only [aP, lI, l0, lS]
        first | show Exit.then _ _ _ _ _ | show Exit.inBlock _ _ _ _ _
        have HS := show Hid _ from (And.intro M O_2)
        clear M O_2
        go_wp2
        go_roundw
        case rel => first | exact ⟨4, _, _, by decide, by go_num, rfl, HS.out.2.le, HS.out.2.nilCap, HS.out.2.src, HS.out.1⟩ | ((repeat apply Exists.intro); refine ⟨⟨4, _, _, by decide, ?_, rfl, HS.out.2.le, HS.out.2.nilCap, HS.out.2.src, HS.out.1⟩, rfl⟩ <;> first | rfl | go_num)
        case measure => simp [intOf]
      · replace hrc : 6 ≤ rc := hrc
        replace hrs : Src wr rp 6 (fun k => bl b (rof 4 + k)) := hrs
        replace M : Mm w [(B2, [.int .i64 (rnum b 0), .int .i64 (rnum b 1), .int .i64 (rnum b 2), .int .i64 (rnum b 3), .int .i64 0]), (B1, [.int .i64 0, .int .i64 0, .int .i64 0, .int .i64 0, .int .i64 0, .slice none 0 0])] wr := M
        have er : 11 - rof 4 = 6 := rfl
        rw [er]
        clear er
        go_upto_region 6 with fail
        refine wp_region_list ?_
        refine readL (.bool true) rfl (lssI .i64 _ _ _ _ _ _ rfl rfl rfl true (by decide) _) ?_
        simp only [aP, lI, l0, lS]
        first | show Exit.then _ _ _ _ _ | show Exit.inBlock _ _ _ _ _
        go_upto_region 7 with fail
        refine wp_region_list ?_
        refine readL (.int .i64 ((4 : Nat) : Int)) rfl (by kernel_rfl) ?_
        simp only [aP, lI, l0, lS]
        refine readL (.int .i64 6) rfl (by kernel_rfl) ?_
        simp only [aP, lI, l0, lS]
        refine readL (.int .i64 ((4 : Nat) : Int)) rfl (by kernel_rfl) ?_
        simp only [aP, lI, l0, lS]
        refine readL (.int .i64 6) rfl (by kernel_rfl) ?_
        simp only [aP, lI, l0, lS]
        first | show Exit.then _ _ _ _ _ | show Exit.inBlock _ _ _ _ _
        go_upto_region 8 with fail
        refine wp_region_list ?_
        refine readL (.int .i64 ((4 : Nat) : Int)) rfl (by kernel_rfl) ?_
        simp only [aP, lI, l0, lS]
        refine readL (.slice rp 6 rc) rfl (by kernel_rfl) ?_
        simp only [aP, lI, l0, lS]
        refine readL (.int .i64 6) rfl (by kernel_rfl) ?_
        simp only [aP, lI, l0, lS]
        have hzz : In 256 6 (fun k => bl b (rof 4 + k)) := fun k hk => hb.bl (rof 4 + k) (by show 5 + k < b.length; omega)
        have hBt := M.lt List.mem_cons_self
        refine callL rfl (fun _ => by kernel_rfl) (vtakefixed_own rp 6 rc (by decide) hrc hrn (fun k => bl b (rof 4 + k)) hzz 6 (by decide) _ hrs) ?_
        rintro e w11 ⟨⟨v, rfl, O_0⟩, l⟩
        have O_2 : OwnN w11 wr.heap.size 0 (fun k => bl b (rof 5 + k)) v := (show Own w11 wr.heap.size 5 .u8 0 _ v from O_0).congr fun k _ => congrArg (bl b) (by show 5 + (6 + k) = 11 + k; omega)
        replace M := M.call l
        obtain ⟨p2, c2, rfl, _, _⟩ := O_2.bytes
        have eg : gN 6 (fun k => bl b (rof 4 + k)) 6 = rnum b 4 := rfl
        have ee : gE 6 6 = 0 := rfl
        rw [eg, ee]
        clear l O_0 hzz hrs hrc hrn eg ee
        refine ⟨_, rfl, ?_⟩
        simp only [aP, lI, l0, lS]
        refine readL (.tuple #[.int .i64 (rnum b 4), .slice p2 0 c2, .int .i64 0]) rfl (by kernel_rfl) ?_
        simp only [aP, lI, l0, lS]
        refine readL (.int .i64 (rnum b 4)) rfl (by kernel_rfl) ?_
        simp only [aP, lI, l0, lS]
        refine readL (.slice p2 0 c2) rfl (by kernel_rfl) ?_
        simp only [aP, lI, l0, lS]
        refine readL (.int .i64 0) rfl (by kernel_rfl) ?_
        simp only [aP, lI, l0, lS]
        refine readL (.pointer (some ⟨B2, 4, none⟩)) rfl (by kernel_rfl) ?_
        simp only [aP, lI, l0, lS]
        refine skipOpL rfl (storeAny (.int .i64 (rnum b 4)) B2 4 3 _ _ rfl rfl rfl rfl rfl (M.isSome List.mem_cons_self 4 (by simp)) (M.free List.mem_cons_self 4 (by simp)) (by kernel_rfl)) ?_
        simp only [Act.put]
        replace M := M.set 4 (by simp) (.int .i64 (rnum b 4))
        replace O_2 := Own.off1 O_2 ((Off.refl [B2] _).set (b := B2) List.mem_cons_self 4 (.int .i64 (rnum b 4))) (by omega)
        generalize w11.setCell ⟨B2, 4, none⟩ (.int .i64 (rnum b 4)) = w12 at M O_2 ⊢
        replace M : Mm w ([(B2, [.int .i64 (rnum b 0), .int .i64 (rnum b 1), .int .i64 (rnum b 2), .int .i64 (rnum b 3), .int .i64 (rnum b 4)]), (B1, [.int .i64 0, .int .i64 0, .int .i64 0, .int .i64 0, .int .i64 0, .slice none 0 0])]) w12 := M
        refine readL (.slice p2 0 c2) rfl (by kernel_rfl) ?_
        simp only [aP, lI, l0, lS]
        first | show Exit.then _ _ _ _ _ | show Exit.inBlock _ _ _ _ _
        have HS := show Hid _ from (And.intro M O_2)
        clear M O_2
        go_wp2
        go_roundw
        case rel => first | exact ⟨5, _, _, by decide, by go_num, rfl, HS.out.2.le, HS.out.2.nilCap, HS.out.2.src, HS.out.1⟩ | ((repeat apply Exists.intro); refine ⟨⟨5, _, _, by decide, ?_, rfl, HS.out.2.le, HS.out.2.nilCap, HS.out.2.src, HS.out.1⟩, rfl⟩ <;> first | rfl | go_num)
        case measure => simp [intOf]
      · clear hrs hrc hrn
        replace M : Mm w [(B2, [.int .i64 (rnum b 0), .int .i64 (rnum b 1), .int .i64 (rnum b 2), .int .i64 (rnum b 3), .int .i64 (rnum b 4)]), (B1, [.int .i64 0, .int .i64 0, .int .i64 0, .int .i64 0, .int .i64 0, .slice none 0 0])] wr := M
        go_upto_region 6 with fail
        refine wp_region_list ?_
        refine readL (.bool false) rfl (lssI .i64 _ _ _ _ _ _ rfl rfl rfl false (by decide) _) ?_
        simp only [aP, lI, l0, lS]
        first | show Exit.then _ _ _ _ _ | show Exit.inBlock _ _ _ _ _
        obtain ⟨qb, hqb, hqs, hqn⟩ := cut_loA (P := Tryd.prog) (t := 22) (by kernel_rfl) (fun _ => by kernel_rfl) (some ad) b.length cap 11 (by omega) hcap (fun e => by cases e)
        have hdl : b.length - 11 = (b.drop 11).length := by rw [List.length_drop]
        have hsb : Src w0 qb (b.drop 11).length (bl (b.drop 11)) := by
          have h := (hqs [] _ _ ⟨hs0, fun _ _ _ h => by cases h⟩).1
          rw [hdl] at h
          exact h.congr fun j _ => (bl_drop b 11 j).symm
        rw [hdl] at hqb
        have hcb : (b.drop 11).length ≤ cap - 11 := by omega
        have hmb : (b.drop 11).length ≤ 140737488351232 := by omega
        clear hqs hdl
        replace M := M.swap
        have hI2 : ∀ k, k < 5 → i64 (rnum b k) := fun k hk => by
          have : k = 0 ∨ k = 1 ∨ k = 2 ∨ k = 3 ∨ k = 4 := by omega
          rcases this with rfl | rfl | rfl | rfl | rfl <;> exact fV_i64 _ _ (by decide) (fun i hi => hb.bl _ (by have : i < 6 := Nat.lt_of_lt_of_le hi (by decide); show _ + i < b.length; first | (show 0 + i < _; omega) | (show 1 + i < _; omega) | (show 2 + i < _; omega) | (show 3 + i < _; omega) | (show 5 + i < _; omega)))
        have hpv : PV w0 (prs b) qb (cap - 11) := by rw [prs_rec h3]; exact ⟨hsb, hcb, hqn, hmb, hb.drop 11, hI2 0 (by decide), hI2 1 (by decide), hI2 2 (by decide), hI2 3 (by decide), hI2 4 (by decide)⟩
        have hpe : pcs (prs b) qb (cap - 11) = [.int .i64 (rnum b 0), .int .i64 (rnum b 1), .int .i64 (rnum b 2), .int .i64 (rnum b 3), .int .i64 (rnum b 4), .slice qb (b.drop 11).length (cap - 11)] := by rw [prs_rec h3]; rfl
        clear hI2
        go_upto_region 10 with fail
        refine wp_region_held_drew (S := fun w' => ∃ cs, Mm w ((B1, cs) :: [(B2, [.int .i64 (rnum b 0), .int .i64 (rnum b 1), .int .i64 (rnum b 2), .int .i64 (rnum b 3), .int .i64 (rnum b 4)])]) w') (by kernel_rfl) ⟨_, M.drew⟩ ?_
        intro _
        replace M := M.drew
        generalize wr.drew = wd at M ⊢
        refine readH (i := 0) (some 35) rfl (.pointer (some ⟨B2, 0, none⟩)) rfl rfl (fun _ _ => by kernel_rfl) (by kernel_rfl) (by kernel_rfl) (by kernel_rfl) (fun _ _ _ h => h) ⟨_, M⟩ ?_
        simp only [aP, lI, l0, lS]
        refine readH (i := 1) (some 36) rfl (.int .i64 (rnum b 0)) rfl rfl (fun _ hS => by obtain ⟨cs, M⟩ := hS; exact load1 3 _ ⟨B2, 0, none⟩ _ rfl rfl (fun _ => by kernel_rfl) (M.get (List.mem_cons_of_mem _ List.mem_cons_self) 0 _ rfl)) (by kernel_rfl) (by kernel_rfl) (by kernel_rfl) (fun _ _ _ h => h) ⟨_, M⟩ ?_
        simp only [aP, lI, l0, lS]
        refine readH (i := 2) (some 37) rfl (.pointer (some ⟨B2, 1, none⟩)) rfl rfl (fun _ _ => by kernel_rfl) (by kernel_rfl) (by kernel_rfl) (by kernel_rfl) (fun _ _ _ h => h) ⟨_, M⟩ ?_
        simp only [aP, lI, l0, lS]
        refine readH (i := 3) (some 38) rfl (.int .i64 (rnum b 1)) rfl rfl (fun _ hS => by obtain ⟨cs, M⟩ := hS; exact load1 3 _ ⟨B2, 1, none⟩ _ rfl rfl (fun _ => by kernel_rfl) (M.get (List.mem_cons_of_mem _ List.mem_cons_self) 1 _ rfl)) (by kernel_rfl) (by kernel_rfl) (by kernel_rfl) (fun _ _ _ h => h) ⟨_, M⟩ ?_
        simp only [aP, lI, l0, lS]
        refine readH (i := 4) (some 39) rfl (.pointer (some ⟨B2, 2, none⟩)) rfl rfl (fun _ _ => by kernel_rfl) (by kernel_rfl) (by kernel_rfl) (by kernel_rfl) (fun _ _ _ h => h) ⟨_, M⟩ ?_
        simp only [aP, lI, l0, lS]
        refine readH (i := 5) (some 40) rfl (.int .i64 (rnum b 2)) rfl rfl (fun _ hS => by obtain ⟨cs, M⟩ := hS; exact load1 3 _ ⟨B2, 2, none⟩ _ rfl rfl (fun _ => by kernel_rfl) (M.get (List.mem_cons_of_mem _ List.mem_cons_self) 2 _ rfl)) (by kernel_rfl) (by kernel_rfl) (by kernel_rfl) (fun _ _ _ h => h) ⟨_, M⟩ ?_
        simp only [aP, lI, l0, lS]
        refine readH (i := 6) (some 41) rfl (.pointer (some ⟨B2, 3, none⟩)) rfl rfl (fun _ _ => by kernel_rfl) (by kernel_rfl) (by kernel_rfl) (by kernel_rfl) (fun _ _ _ h => h) ⟨_, M⟩ ?_
        simp only [aP, lI, l0, lS]
        refine readH (i := 7) (some 42) rfl (.int .i64 (rnum b 3)) rfl rfl (fun _ hS => by obtain ⟨cs, M⟩ := hS; exact load1 3 _ ⟨B2, 3, none⟩ _ rfl rfl (fun _ => by kernel_rfl) (M.get (List.mem_cons_of_mem _ List.mem_cons_self) 3 _ rfl)) (by kernel_rfl) (by kernel_rfl) (by kernel_rfl) (fun _ _ _ h => h) ⟨_, M⟩ ?_
        simp only [aP, lI, l0, lS]
        refine readH (i := 8) (some 43) rfl (.pointer (some ⟨B2, 4, none⟩)) rfl rfl (fun _ _ => by kernel_rfl) (by kernel_rfl) (by kernel_rfl) (by kernel_rfl) (fun _ _ _ h => h) ⟨_, M⟩ ?_
        simp only [aP, lI, l0, lS]
        refine readH (i := 9) (some 44) rfl (.int .i64 (rnum b 4)) rfl rfl (fun _ hS => by obtain ⟨cs, M⟩ := hS; exact load1 3 _ ⟨B2, 4, none⟩ _ rfl rfl (fun _ => by kernel_rfl) (M.get (List.mem_cons_of_mem _ List.mem_cons_self) 4 _ rfl)) (by kernel_rfl) (by kernel_rfl) (by kernel_rfl) (fun _ _ _ h => h) ⟨_, M⟩ ?_
        simp only [aP, lI, l0, lS]
        refine readH (i := 10) (some 45) rfl (.slice (some ad) b.length cap) rfl rfl (fun _ _ => by kernel_rfl) (by kernel_rfl) (by kernel_rfl) (by kernel_rfl) (fun _ _ _ h => h) ⟨_, M⟩ ?_
        simp only [aP, lI, l0, lS]
        refine readH (i := 11) (some 46) rfl (.slice qb (b.drop 11).length (cap - 11)) rfl rfl (fun _ _ => cutOp _ _ _ _ _ _ rfl rfl rfl (hqb _)) (by kernel_rfl) (by kernel_rfl) (by kernel_rfl) (fun _ _ _ h => h) ⟨_, M⟩ ?_
        simp only [aP, lI, l0, lS]
        refine readH (i := 12) (some 47) rfl (.agg #[.int .i64 (rnum b 0), .int .i64 (rnum b 1), .int .i64 (rnum b 2), .int .i64 (rnum b 3), .int .i64 (rnum b 4), .slice qb ((b.drop 11).length) (cap - 11)]) rfl rfl (fun _ _ => by kernel_rfl) (by kernel_rfl) (by kernel_rfl) (by kernel_rfl) (fun _ _ _ h => h) ⟨_, M⟩ ?_
        simp only [aP, lI, l0, lS]
        have M2 := M.setPart [.int .i64 (rnum b 0), .int .i64 (rnum b 1), .int .i64 (rnum b 2), .int .i64 (rnum b 3), .int .i64 (rnum b 4), .slice qb ((b.drop 11).length) (cap - 11)] 0 (Nat.le_of_ble_eq_true rfl)
        refine doesH (i := 13) none rfl (by kernel_rfl) rfl rfl (storeP [.int .i64 (rnum b 0), .int .i64 (rnum b 1), .int .i64 (rnum b 2), .int .i64 (rnum b 3), .int .i64 (rnum b 4), .slice qb ((b.drop 11).length) (cap - 11)] B1 0 24 _ _ rfl rfl rfl (M.thereP List.mem_cons_self 0 6 (Nat.le_of_ble_eq_true rfl)) (by kernel_rfl) (List.all_eq_true.1 (rfl : ([.int .i64 (rnum b 0), .int .i64 (rnum b 1), .int .i64 (rnum b 2), .int .i64 (rnum b 3), .int .i64 (rnum b 4), .slice qb ((b.drop 11).length) (cap - 11)] : List Value).all (fun u => u.oneCell') = true))) ⟨_, M2⟩ ?_
        simp only [Act.put]
        clear M
        generalize wd.setCells B1 0 [.int .i64 (rnum b 0), .int .i64 (rnum b 1), .int .i64 (rnum b 2), .int .i64 (rnum b 3), .int .i64 (rnum b 4), .slice qb ((b.drop 11).length) (cap - 11)] = we at M2 ⊢
        refine wpAnyH_done (by kernel_rfl) ?_ _
        first | show Exit.then _ _ _ _ _ | show Exit.inBlock _ _ _ _ _
        have c1_ := M2.part List.mem_cons_self 0 [.int .i64 (rnum b 0), .int .i64 (rnum b 1), .int .i64 (rnum b 2), .int .i64 (rnum b 3), .int .i64 (rnum b 4), .slice qb ((b.drop 11).length) (cap - 11)] rfl
        have hM := M2.below
        clear M2
        have hS := show Hid _ from (And.intro hpv hpe)
        clear hpv hpe hsb hcb hmb
        go_wp2
        refine bodyPost_ret (v := .agg (pcs (prs b) qb (cap - 11)).toArray) (by rw [hS.out.2]; exact retCell 2 24 ⟨B1, 0, none⟩ [.int .i64 (rnum b 0), .int .i64 (rnum b 1), .int .i64 (rnum b 2), .int .i64 (rnum b 3), .int .i64 (rnum b 4), .slice qb ((b.drop 11).length) (cap - 11)] rfl rfl (fun _ => by kernel_rfl) (fun _ => by kernel_rfl) c1_) rfl ?_
        exact ⟨⟨qb, cap - 11, rfl, hS.out.1⟩, hM⟩
  · go_upto_region 1 with fail
    refine wp_region_list ?_
    refine readL (.slice (some ad) b.length cap) rfl (by kernel_rfl) ?_
    simp only [aP, lI, l0, lS]
    refine readL (.pointer (some (ad.add 0))) rfl (idxSl 22 5 b.length cap .i64 ad 0 _ _ Tryd.underlying22 (fun _ => by kernel_rfl) (by omega) rfl rfl rfl _) ?_
    simp only [aP, lI, l0, lS]
    refine readL (.int .u8 (bl b 0)) rfl (load1 5 _ (ad.add 0) _ rfl rfl (fun _ => by kernel_rfl) ((hs.below M.below (Nat.le_refl _)).at 0 (by omega))) ?_
    simp only [aP, lI, l0, lS]
    refine readL (.bool true) rfl (neqI .u8 _ _ _ _ _ _ rfl rfl rfl true (by simpa using h3) _) ?_
    simp only [aP, lI, l0, lS]
    first | show Exit.then _ _ _ _ _ | show Exit.inBlock _ _ _ _ _
    obtain ⟨qb, hqb, hqs, hqn⟩ := cut_loA (P := Tryd.prog) (t := 22) (by kernel_rfl) (fun _ => by kernel_rfl) (some ad) b.length cap 1 (by omega) hcap (fun e => by cases e)
    have hdl : b.length - 1 = (b.drop 1).length := by rw [List.length_drop]
    have hsb : Src w0 qb (b.drop 1).length (bl (b.drop 1)) := by
      have h := (hqs [] _ _ ⟨hs0, fun _ _ _ h => by cases h⟩).1
      rw [hdl] at h
      exact h.congr fun j _ => (bl_drop b 1 j).symm
    rw [hdl] at hqb
    have hcb : (b.drop 1).length ≤ cap - 1 := by omega
    have hmb : (b.drop 1).length ≤ 140737488351232 := by omega
    clear hqs hdl
    have hpv : PV w0 (prs b) qb (cap - 1) := by rw [prs_other h3]; exact ⟨hsb, hcb, hqn, hmb, hb.drop 1, i64_byte hx0, i64_0, i64_0, i64_0, i64_0⟩
    have hpe : pcs (prs b) qb (cap - 1) = [.int .i64 (bl b 0), .int .i64 0, .int .i64 0, .int .i64 0, .int .i64 0, .slice qb (b.drop 1).length (cap - 1)] := by rw [prs_other h3]; rfl
    go_upto_region 2 with fail
    refine wp_region_held_drew (S := fun w' => ∃ cs, Mm w ((B1, cs) :: []) w') (by kernel_rfl) ⟨_, M.drew⟩ ?_
    intro _
    replace M := M.drew
    generalize w1.drew = wd at M ⊢
    refine readH (i := 0) (some 11) rfl (.slice (some ad) b.length cap) rfl rfl (fun _ _ => by kernel_rfl) (by kernel_rfl) (by kernel_rfl) (by kernel_rfl) (fun _ _ _ h => h) ⟨_, M⟩ ?_
    simp only [aP, lI, l0, lS]
    refine readH (i := 1) (some 12) rfl (.pointer (some (ad.add 0))) rfl rfl (fun w _ => idxSl 22 5 b.length cap .i64 ad 0 _ _ Tryd.underlying22 (fun _ => by kernel_rfl) (by omega) rfl rfl rfl w) (by kernel_rfl) (by kernel_rfl) (by kernel_rfl) (fun _ _ _ h => h) ⟨_, M⟩ ?_
    simp only [aP, lI, l0, lS]
    refine readH (i := 2) (some 13) rfl (.int .u8 (bl b 0)) rfl rfl (fun _ hS => by obtain ⟨cs, M⟩ := hS; exact load1 5 _ (ad.add 0) _ rfl rfl (fun _ => by kernel_rfl) ((hs.below M.below (Nat.le_refl _)).at 0 (by omega))) (by kernel_rfl) (by kernel_rfl) (by kernel_rfl) (fun _ _ _ h => h) ⟨_, M⟩ ?_
    simp only [aP, lI, l0, lS]
    refine readH (i := 3) (some 14) rfl (.int .i64 (bl b 0)) rfl rfl (fun w _ => convI .u8 .i64 _ _ _ _ _ rfl (by kernel_rfl) Tryd.underlying3 (by kernel_rfl) rfl (by rw [IntKind.wrap_i64]; omega) w) (by kernel_rfl) (by kernel_rfl) (by kernel_rfl) (fun _ _ _ h => h) ⟨_, M⟩ ?_
    simp only [aP, lI, l0, lS]
    refine readH (i := 4) (some 15) rfl (.slice (some ad) b.length cap) rfl rfl (fun _ _ => by kernel_rfl) (by kernel_rfl) (by kernel_rfl) (by kernel_rfl) (fun _ _ _ h => h) ⟨_, M⟩ ?_
    simp only [aP, lI, l0, lS]
    refine readH (i := 5) (some 16) rfl (.slice qb (b.drop 1).length (cap - 1)) rfl rfl (fun _ _ => cutOp _ _ _ _ _ _ rfl rfl rfl (hqb _)) (by kernel_rfl) (by kernel_rfl) (by kernel_rfl) (fun _ _ _ h => h) ⟨_, M⟩ ?_
    simp only [aP, lI, l0, lS]
    refine readH (i := 6) (some 17) rfl (.agg #[.int .i64 (bl b 0), .int .i64 0, .int .i64 0, .int .i64 0, .int .i64 0, .slice qb ((b.drop 1).length) (cap - 1)]) rfl rfl (fun _ _ => by kernel_rfl) (by kernel_rfl) (by kernel_rfl) (by kernel_rfl) (fun _ _ _ h => h) ⟨_, M⟩ ?_
    simp only [aP, lI, l0, lS]
    have M2 := M.setPart [.int .i64 (bl b 0), .int .i64 0, .int .i64 0, .int .i64 0, .int .i64 0, .slice qb ((b.drop 1).length) (cap - 1)] 0 (Nat.le_of_ble_eq_true rfl)
    refine doesH (i := 7) none rfl (by kernel_rfl) rfl rfl (storeP [.int .i64 (bl b 0), .int .i64 0, .int .i64 0, .int .i64 0, .int .i64 0, .slice qb ((b.drop 1).length) (cap - 1)] B1 0 24 _ _ rfl rfl rfl (M.thereP List.mem_cons_self 0 6 (Nat.le_of_ble_eq_true rfl)) (by kernel_rfl) (List.all_eq_true.1 (rfl : ([.int .i64 (bl b 0), .int .i64 0, .int .i64 0, .int .i64 0, .int .i64 0, .slice qb ((b.drop 1).length) (cap - 1)] : List Value).all (fun u => u.oneCell') = true))) ⟨_, M2⟩ ?_
    simp only [Act.put]
    clear M
    generalize wd.setCells B1 0 [.int .i64 (bl b 0), .int .i64 0, .int .i64 0, .int .i64 0, .int .i64 0, .slice qb ((b.drop 1).length) (cap - 1)] = we at M2 ⊢
    refine wpAnyH_done (by kernel_rfl) ?_ _
    first | show Exit.then _ _ _ _ _ | show Exit.inBlock _ _ _ _ _
    have c1_ := M2.part List.mem_cons_self 0 [.int .i64 (bl b 0), .int .i64 0, .int .i64 0, .int .i64 0, .int .i64 0, .slice qb ((b.drop 1).length) (cap - 1)] rfl
    have hM := M2.below
    clear M2
    have hS := show Hid _ from (And.intro hpv hpe)
    clear hpv hpe hsb hcb hmb
    go_wp2
    refine bodyPost_ret (v := .agg (pcs (prs b) qb (cap - 1)).toArray) (by rw [hS.out.2]; exact retCell 2 24 ⟨B1, 0, none⟩ [.int .i64 (bl b 0), .int .i64 0, .int .i64 0, .int .i64 0, .int .i64 0, .slice qb ((b.drop 1).length) (cap - 1)] rfl rfl (fun _ => by kernel_rfl) (fun _ => by kernel_rfl) c1_) rfl ?_
    exact ⟨⟨qb, cap - 1, rfl, hS.out.1⟩, hM⟩

set_option maxRecDepth 10000 in
set_option maxHeartbeats 32000000 in
theorem vparse_any : ParseOK := by
  intro sp cap b w hg hlen hcap hnil hb hs
  have M := Mm.init w
  go_enter Tryd.func15, Tryd.ntmps15
  go_upto_region 0 with fail
  refine wp_region_list ?_
  refine actL (w' := w.alloc (.cells #[.int .i64 0, .int .i64 0, .int .i64 0, .int .i64 0, .int .i64 0, .slice none 0 0] 24)) (.pointer (some ⟨w.heap.size, 0, none⟩)) rfl (by kernel_rfl) ?_
  simp only [aP, lI, l0, lS]
  have hB_B1 : w.heap.size ≤ w.heap.size := M.below.size
  replace M := M.box #[.int .i64 0, .int .i64 0, .int .i64 0, .int .i64 0, .int .i64 0, .slice none 0 0] 24 w.heap.size rfl
  generalize w.alloc (.cells #[.int .i64 0, .int .i64 0, .int .i64 0, .int .i64 0, .int .i64 0, .slice none 0 0] 24) = w1 at M  ⊢
  generalize eB : w.heap.size = B1 at M hB_B1  ⊢
  have hE_B1 : w.heap.size ≤ B1 := Nat.le_of_eq eB
  have hF_B1 : B1 ≤ w.heap.size := Nat.le_of_eq eB.symm
  clear eB
  replace M : Mm w ([(B1, [.int .i64 0, .int .i64 0, .int .i64 0, .int .i64 0, .int .i64 0, .slice none 0 0])]) w1 := M
  refine readL (.int .i64 0) rfl (by kernel_rfl) ?_
  simp only [aP, lI, l0, lS]
  first | show Exit.then _ _ _ _ _ | show Exit.inBlock _ _ _ _ _
  by_cases h0 : b.length = 0
  · have hQ := show Hid _ from ps_err (pps_short (b := b) (.inl h0))
    go_upto_region 1 with fail
    refine wp_region_list ?_
    refine readL (.slice sp b.length cap) rfl (by kernel_rfl) ?_
    simp only [aP, lI, l0, lS]
    refine readL (.int .i64 ((b.length : Nat) : Int)) rfl (lenS _ 22 5 sp b.length cap rfl Tryd.underlying22 rfl _) ?_
    simp only [aP, lI, l0, lS]
    refine readL (.bool true) rfl (eqlI .i64 _ _ _ _ _ _ rfl rfl rfl true (by rw [h0]; rfl) _) ?_
    simp only [aP, lI, l0, lS]
    refine readL (.bool true) rfl (by kernel_rfl) ?_
    simp only [aP, lI, l0, lS]
    with_reducible refine skipL ?_ ?_
    · rfl
    simp only [aP, lI, l0, lS]
    with_reducible refine skipL ?_ ?_
    · rfl
    simp only [aP, lI, l0, lS]
    with_reducible refine skipL ?_ ?_
    · rfl
    simp only [aP, lI, l0, lS]
    with_reducible refine skipL ?_ ?_
    · rfl
    simp only [aP, lI, l0, lS]
    with_reducible refine skipL ?_ ?_
    · rfl
    simp only [aP, lI, l0, lS]
    with_reducible refine skipL ?_ ?_
    · rfl
    simp only [aP, lI, l0, lS]
    with_reducible refine skipL ?_ ?_
    · rfl
    simp only [aP, lI, l0, lS]
    with_reducible refine skipL ?_ ?_
    · rfl
    simp only [aP, lI, l0, lS]
    with_reducible refine skipL ?_ ?_
    · rfl
    simp only [aP, lI, l0, lS]
    refine readL (.bool true) rfl (by kernel_rfl) ?_
    simp only [aP, lI, l0, lS]
    first | show Exit.then _ _ _ _ _ | show Exit.inBlock _ _ _ _ _
    go_upto_region 2 with fail
    refine wp_region_list ?_
    refine readL (.agg #[.int .i64 0, .int .i64 0, .int .i64 0, .int .i64 0, .int .i64 0, .slice none 0 0]) rfl (by kernel_rfl) ?_
    simp only [aP, lI, l0, lS]
    refine skipOpL rfl (storeP [.int .i64 0, .int .i64 0, .int .i64 0, .int .i64 0, .int .i64 0, .slice none 0 0] B1 0 24 _ _ rfl rfl rfl (M.thereP List.mem_cons_self 0 6 (Nat.le_of_ble_eq_true rfl)) (by kernel_rfl) (List.all_eq_true.1 (rfl : ([.int .i64 0, .int .i64 0, .int .i64 0, .int .i64 0, .int .i64 0, .slice none 0 0] : List Value).all (fun u => u.oneCell') = true))) ?_
    simp only [Act.put]
    replace M := M.setPart [.int .i64 0, .int .i64 0, .int .i64 0, .int .i64 0, .int .i64 0, .slice none 0 0] 0 (Nat.le_of_ble_eq_true rfl)
    generalize w1.setCells B1 0 [.int .i64 0, .int .i64 0, .int .i64 0, .int .i64 0, .int .i64 0, .slice none 0 0] = w2 at M  ⊢
    replace M : Mm w ([(B1, [.int .i64 0, .int .i64 0, .int .i64 0, .int .i64 0, .int .i64 0, .slice none 0 0])]) w2 := M
    refine readL (.int .i64 3) rfl (by kernel_rfl) ?_
    simp only [aP, lI, l0, lS]
    first | show Exit.then _ _ _ _ _ | show Exit.inBlock _ _ _ _ _
    have hpv := show Hid _ from (pv0 w2)
    have c1_ := M.part List.mem_cons_self 0 (pcs pk0 none 0) rfl
    have hM := M.below
    clear M
    go_wp2
    refine bodyPost_ret (v := .tuple #[.agg (pcs pk0 none 0).toArray, .int .i64 3]) (retCellTmp 2 3 24 ⟨B1, 0, none⟩ (pcs pk0 none 0) _ rfl rfl rfl (fun _ => by kernel_rfl) (fun _ => by kernel_rfl) c1_) rfl ?_
    exact ⟨⟨_, _, by rw [hQ.out.1, hQ.out.2], by rw [hQ.out.1]; exact hpv.out⟩, hM⟩
  · have hpos : 0 < b.length := by omega
    obtain ⟨ad, rfl, _⟩ := hs 0 hpos
    by_cases h3 : bl b 0 = 3 ∧ b.length < 27
    · have hQ := show Hid _ from ps_err (pps_short (b := b) (.inr h3))
      go_upto_region 1 with fail
      refine wp_region_list ?_
      refine readL (.slice (some ad) b.length cap) rfl (by kernel_rfl) ?_
      simp only [aP, lI, l0, lS]
      refine readL (.int .i64 ((b.length : Nat) : Int)) rfl (lenS _ 22 5 (some ad) b.length cap rfl Tryd.underlying22 rfl _) ?_
      simp only [aP, lI, l0, lS]
      refine readL (.bool false) rfl (eqlI .i64 _ _ _ _ _ _ rfl rfl rfl false (beq_eq_false_iff_ne.2 (by omega)) _) ?_
      simp only [aP, lI, l0, lS]
      refine readL (.bool false) rfl (by kernel_rfl) ?_
      simp only [aP, lI, l0, lS]
      refine readL (.slice (some ad) b.length cap) rfl (by kernel_rfl) ?_
      simp only [aP, lI, l0, lS]
      refine readL (.pointer (some (ad.add 0))) rfl (idxSl 22 5 b.length cap .i64 ad 0 _ _ Tryd.underlying22 (fun _ => by kernel_rfl) (by omega) rfl rfl rfl _) ?_
      simp only [aP, lI, l0, lS]
      refine readL (.int .u8 (bl b 0)) rfl (load1 5 _ (ad.add 0) _ rfl rfl (fun _ => by kernel_rfl) ((hs.below M.below (Nat.le_refl _)).at 0 (by omega))) ?_
      simp only [aP, lI, l0, lS]
      refine readL (.bool true) rfl (eqlI .u8 _ _ _ _ _ _ rfl rfl rfl true (by rw [h3.1]; rfl) _) ?_
      simp only [aP, lI, l0, lS]
      refine readL (.bool true) rfl (by kernel_rfl) ?_
      simp only [aP, lI, l0, lS]
      refine readL (.slice (some ad) b.length cap) rfl (by kernel_rfl) ?_
      simp only [aP, lI, l0, lS]
      refine readL (.int .i64 ((b.length : Nat) : Int)) rfl (lenS _ 22 5 (some ad) b.length cap rfl Tryd.underlying22 rfl _) ?_
      simp only [aP, lI, l0, lS]
      refine readL (.bool true) rfl (lssI .i64 _ _ _ _ _ _ rfl rfl rfl true (decide_eq_true (by omega)) _) ?_
      simp only [aP, lI, l0, lS]
      refine readL (.bool true) rfl (by kernel_rfl) ?_
      simp only [aP, lI, l0, lS]
      refine readL (.bool true) rfl (by kernel_rfl) ?_
      simp only [aP, lI, l0, lS]
      first | show Exit.then _ _ _ _ _ | show Exit.inBlock _ _ _ _ _
      go_upto_region 2 with fail
      refine wp_region_list ?_
      refine readL (.agg #[.int .i64 0, .int .i64 0, .int .i64 0, .int .i64 0, .int .i64 0, .slice none 0 0]) rfl (by kernel_rfl) ?_
      simp only [aP, lI, l0, lS]
      refine skipOpL rfl (storeP [.int .i64 0, .int .i64 0, .int .i64 0, .int .i64 0, .int .i64 0, .slice none 0 0] B1 0 24 _ _ rfl rfl rfl (M.thereP List.mem_cons_self 0 6 (Nat.le_of_ble_eq_true rfl)) (by kernel_rfl) (List.all_eq_true.1 (rfl : ([.int .i64 0, .int .i64 0, .int .i64 0, .int .i64 0, .int .i64 0, .slice none 0 0] : List Value).all (fun u => u.oneCell') = true))) ?_
      simp only [Act.put]
      replace M := M.setPart [.int .i64 0, .int .i64 0, .int .i64 0, .int .i64 0, .int .i64 0, .slice none 0 0] 0 (Nat.le_of_ble_eq_true rfl)
      generalize w1.setCells B1 0 [.int .i64 0, .int .i64 0, .int .i64 0, .int .i64 0, .int .i64 0, .slice none 0 0] = w3 at M  ⊢
      replace M : Mm w ([(B1, [.int .i64 0, .int .i64 0, .int .i64 0, .int .i64 0, .int .i64 0, .slice none 0 0])]) w3 := M
      refine readL (.int .i64 3) rfl (by kernel_rfl) ?_
      simp only [aP, lI, l0, lS]
      first | show Exit.then _ _ _ _ _ | show Exit.inBlock _ _ _ _ _
      have hpv := show Hid _ from (pv0 w3)
      have c1_ := M.part List.mem_cons_self 0 (pcs pk0 none 0) rfl
      have hM := M.below
      clear M
      go_wp2
      refine bodyPost_ret (v := .tuple #[.agg (pcs pk0 none 0).toArray, .int .i64 3]) (retCellTmp 2 3 24 ⟨B1, 0, none⟩ (pcs pk0 none 0) _ rfl rfl rfl (fun _ => by kernel_rfl) (fun _ => by kernel_rfl) c1_) rfl ?_
      exact ⟨⟨_, _, by rw [hQ.out.1, hQ.out.2], by rw [hQ.out.1]; exact hpv.out⟩, hM⟩
    · have h27 : bl b 0 = 3 → 27 ≤ b.length := fun h => by omega
      have hno : ¬ (b.length = 0 ∨ (bl b 0 = 3 ∧ b.length < 27)) := by omega
      by_cases h3' : bl b 0 = 3
      · go_upto_region 1 with fail
        refine wp_region_list ?_
        refine readL (.slice (some ad) b.length cap) rfl (by kernel_rfl) ?_
        simp only [aP, lI, l0, lS]
        refine readL (.int .i64 ((b.length : Nat) : Int)) rfl (lenS _ 22 5 (some ad) b.length cap rfl Tryd.underlying22 rfl _) ?_
        simp only [aP, lI, l0, lS]
        refine readL (.bool false) rfl (eqlI .i64 _ _ _ _ _ _ rfl rfl rfl false (beq_eq_false_iff_ne.2 (by omega)) _) ?_
        simp only [aP, lI, l0, lS]
        refine readL (.bool false) rfl (by kernel_rfl) ?_
        simp only [aP, lI, l0, lS]
        refine readL (.slice (some ad) b.length cap) rfl (by kernel_rfl) ?_
        simp only [aP, lI, l0, lS]
        refine readL (.pointer (some (ad.add 0))) rfl (idxSl 22 5 b.length cap .i64 ad 0 _ _ Tryd.underlying22 (fun _ => by kernel_rfl) (by omega) rfl rfl rfl _) ?_
        simp only [aP, lI, l0, lS]
        refine readL (.int .u8 (bl b 0)) rfl (load1 5 _ (ad.add 0) _ rfl rfl (fun _ => by kernel_rfl) ((hs.below M.below (Nat.le_refl _)).at 0 (by omega))) ?_
        simp only [aP, lI, l0, lS]
        refine readL (.bool true) rfl (eqlI .u8 _ _ _ _ _ _ rfl rfl rfl true (by rw [h3']; rfl) _) ?_
        simp only [aP, lI, l0, lS]
        refine readL (.bool true) rfl (by kernel_rfl) ?_
        simp only [aP, lI, l0, lS]
        refine readL (.slice (some ad) b.length cap) rfl (by kernel_rfl) ?_
        simp only [aP, lI, l0, lS]
        refine readL (.int .i64 ((b.length : Nat) : Int)) rfl (lenS _ 22 5 (some ad) b.length cap rfl Tryd.underlying22 rfl _) ?_
        simp only [aP, lI, l0, lS]
        refine readL (.bool false) rfl (lssI .i64 _ _ _ _ _ _ rfl rfl rfl false (decide_eq_false (by omega)) _) ?_
        simp only [aP, lI, l0, lS]
        refine readL (.bool false) rfl (by kernel_rfl) ?_
        simp only [aP, lI, l0, lS]
        refine readL (.bool false) rfl (by kernel_rfl) ?_
        simp only [aP, lI, l0, lS]
        first | show Exit.then _ _ _ _ _ | show Exit.inBlock _ _ _ _ _
        go_upto_region 3 with fail
        refine wp_region_list ?_
        refine readL (.slice (some ad) b.length cap) rfl (by kernel_rfl) ?_
        simp only [aP, lI, l0, lS]
        refine callL rfl (fun _ => by kernel_rfl) (pread_any (some ad) cap b w _ M.below (hg.mm M) hlen hcap hnil hb hs hpos h27) ?_
        rintro e w4 ⟨⟨bp, bc, rfl, F_1⟩, l⟩
        replace M := M.call l
        clear l
        refine ⟨_, rfl, ?_⟩
        rw [show (.agg (pcs (prs b) bp bc).toArray : Value) = .agg #[.int .i64 ((prs b).kind), .int .i64 ((prs b).role), .int .i64 ((prs b).path), .int .i64 ((prs b).epo), .int .i64 ((prs b).ctr), .slice bp ((prs b).body.length) bc] from rfl]
        simp only [aP, lI, l0, lS]
        refine actL (w' := w4.alloc (.cells #[.int .i64 0, .int .i64 0, .int .i64 0, .int .i64 0, .int .i64 0, .slice none 0 0] 24)) (.pointer (some ⟨w4.heap.size, 0, none⟩)) rfl (by kernel_rfl) ?_
        simp only [aP, lI, l0, lS]
        have hB_B5 : w.heap.size ≤ w4.heap.size := M.below.size
        replace M := M.box #[.int .i64 0, .int .i64 0, .int .i64 0, .int .i64 0, .int .i64 0, .slice none 0 0] 24 w4.heap.size rfl
        generalize w4.alloc (.cells #[.int .i64 0, .int .i64 0, .int .i64 0, .int .i64 0, .int .i64 0, .slice none 0 0] 24) = w5 at M  ⊢
        generalize eB : w4.heap.size = B5 at M hB_B5  ⊢
        have hE_B5 : w4.heap.size ≤ B5 := Nat.le_of_eq eB
        have hF_B5 : B5 ≤ w4.heap.size := Nat.le_of_eq eB.symm
        clear eB
        replace M : Mm w ([(B5, [.int .i64 0, .int .i64 0, .int .i64 0, .int .i64 0, .int .i64 0, .slice none 0 0]), (B1, [.int .i64 0, .int .i64 0, .int .i64 0, .int .i64 0, .int .i64 0, .slice none 0 0])]) w5 := M
        refine skipOpL rfl (storeP [.int .i64 ((prs b).kind), .int .i64 ((prs b).role), .int .i64 ((prs b).path), .int .i64 ((prs b).epo), .int .i64 ((prs b).ctr), .slice bp ((prs b).body.length) bc] B5 0 24 _ _ rfl rfl rfl (M.thereP List.mem_cons_self 0 6 (Nat.le_of_ble_eq_true rfl)) (by kernel_rfl) (List.all_eq_true.1 (rfl : ([.int .i64 ((prs b).kind), .int .i64 ((prs b).role), .int .i64 ((prs b).path), .int .i64 ((prs b).epo), .int .i64 ((prs b).ctr), .slice bp ((prs b).body.length) bc] : List Value).all (fun u => u.oneCell') = true))) ?_
        simp only [Act.put]
        replace M := M.setPart [.int .i64 ((prs b).kind), .int .i64 ((prs b).role), .int .i64 ((prs b).path), .int .i64 ((prs b).epo), .int .i64 ((prs b).ctr), .slice bp ((prs b).body.length) bc] 0 (Nat.le_of_ble_eq_true rfl)
        generalize w5.setCells B5 0 [.int .i64 ((prs b).kind), .int .i64 ((prs b).role), .int .i64 ((prs b).path), .int .i64 ((prs b).epo), .int .i64 ((prs b).ctr), .slice bp ((prs b).body.length) bc] = w6 at M  ⊢
        replace M : Mm w ([(B5, [.int .i64 ((prs b).kind), .int .i64 ((prs b).role), .int .i64 ((prs b).path), .int .i64 ((prs b).epo), .int .i64 ((prs b).ctr), .slice bp ((prs b).body.length) bc]), (B1, [.int .i64 0, .int .i64 0, .int .i64 0, .int .i64 0, .int .i64 0, .slice none 0 0])]) w6 := M
        first | show Exit.then _ _ _ _ _ | show Exit.inBlock _ _ _ _ _
        go_upto_region 4 with fail
        refine wp_region_list ?_
        refine readL (.agg #[.int .i64 ((prs b).kind), .int .i64 ((prs b).role), .int .i64 ((prs b).path), .int .i64 ((prs b).epo), .int .i64 ((prs b).ctr), .slice bp ((prs b).body.length) bc]) rfl (loadN 24 _ ⟨B5, 0, none⟩ [.int .i64 ((prs b).kind), .int .i64 ((prs b).role), .int .i64 ((prs b).path), .int .i64 ((prs b).epo), .int .i64 ((prs b).ctr), .slice bp ((prs b).body.length) bc] rfl rfl (fun _ => by kernel_rfl) (fun _ => by kernel_rfl) (M.rangeAt List.mem_cons_self)) ?_
        simp only [aP, lI, l0, lS]
        obtain ⟨b1, hb1⟩ : ∃ y_, y_ = (pok (prs b)) := ⟨_, rfl⟩
        have hC : Calls Tryd.prog 19 #[.agg #[.int .i64 ((prs b).kind), .int .i64 ((prs b).role), .int .i64 ((prs b).path), .int .i64 ((prs b).epo), .int .i64 ((prs b).ctr), .slice bp ((prs b).body.length) bc]] w6 (fun e w' => e = .returned (.bool b1) ∧ Below w6.heap.size w6 w') := (by rw [hb1]; exact pmay_any (prs b) bp bc _)
        refine callL rfl (fun _ => by kernel_rfl) (hC) ?_
        rintro e w7 ⟨rfl, l⟩
        replace M := M.call l
        refine ⟨_, rfl, ?_⟩
        clear l hC
        simp only [aP, lI, l0, lS]
        obtain ⟨b2, hb2⟩ : ∃ y_, y_ = (!b1) := ⟨_, rfl⟩
        refine readL (.bool b2) rfl (by subst hb2; cases b1 <;> rfl) ?_
        simp only [aP, lI, l0, lS]
        first | show Exit.then _ _ _ _ _ | show Exit.inBlock _ _ _ _ _
        have hbb : b2 = !pok (prs b) := by rw [hb2, hb1]
        try clear hb1
        try clear hb2
        cases b2 with
        | true =>
          have hQ := show Hid _ from ps_err (pps_bad hno (show pok (prs b) = false by simpa using hbb))
          clear hbb
          go_upto_region 5 with fail
          refine wp_region_list ?_
          refine readL (.agg #[.int .i64 0, .int .i64 0, .int .i64 0, .int .i64 0, .int .i64 0, .slice none 0 0]) rfl (by kernel_rfl) ?_
          simp only [aP, lI, l0, lS]
          replace M := M.swap
          refine skipOpL rfl (storeP [.int .i64 0, .int .i64 0, .int .i64 0, .int .i64 0, .int .i64 0, .slice none 0 0] B1 0 24 _ _ rfl rfl rfl (M.thereP List.mem_cons_self 0 6 (Nat.le_of_ble_eq_true rfl)) (by kernel_rfl) (List.all_eq_true.1 (rfl : ([.int .i64 0, .int .i64 0, .int .i64 0, .int .i64 0, .int .i64 0, .slice none 0 0] : List Value).all (fun u => u.oneCell') = true))) ?_
          simp only [Act.put]
          replace M := M.setPart [.int .i64 0, .int .i64 0, .int .i64 0, .int .i64 0, .int .i64 0, .slice none 0 0] 0 (Nat.le_of_ble_eq_true rfl)
          generalize w7.setCells B1 0 [.int .i64 0, .int .i64 0, .int .i64 0, .int .i64 0, .int .i64 0, .slice none 0 0] = w8 at M  ⊢
          replace M : Mm w ([(B1, [.int .i64 0, .int .i64 0, .int .i64 0, .int .i64 0, .int .i64 0, .slice none 0 0]), (B5, [.int .i64 ((prs b).kind), .int .i64 ((prs b).role), .int .i64 ((prs b).path), .int .i64 ((prs b).epo), .int .i64 ((prs b).ctr), .slice bp ((prs b).body.length) bc])]) w8 := M
          refine readL (.int .i64 110) rfl (by kernel_rfl) ?_
          simp only [aP, lI, l0, lS]
          first | show Exit.then _ _ _ _ _ | show Exit.inBlock _ _ _ _ _
          have hpv := show Hid _ from (pv0 w8)
          have c1_ := M.part List.mem_cons_self 0 (pcs pk0 none 0) rfl
          have hM := M.below
          clear M
          go_wp2
          refine bodyPost_ret (v := .tuple #[.agg (pcs pk0 none 0).toArray, .int .i64 110]) (retCellTmp 2 3 24 ⟨B1, 0, none⟩ (pcs pk0 none 0) _ rfl rfl rfl (fun _ => by kernel_rfl) (fun _ => by kernel_rfl) c1_) rfl ?_
          exact ⟨⟨_, _, by rw [hQ.out.1, hQ.out.2], by rw [hQ.out.1]; exact hpv.out⟩, hM⟩
        | false =>
          have hQ := show Hid _ from ps_ok (pps_good hno (show pok (prs b) = true by simpa using hbb))
          clear hbb
          go_upto_region 6 with fail
          refine wp_region_list ?_
          refine readL (.pointer (some ⟨B5, 5, none⟩)) rfl (by kernel_rfl) ?_
          simp only [aP, lI, l0, lS]
          refine readL (.slice bp ((prs b).body.length) bc) rfl (load1 22 _ ⟨B5, 5, none⟩ _ rfl rfl (fun _ => by kernel_rfl) (M.get List.mem_cons_self 5 _ rfl)) ?_
          simp only [aP, lI, l0, lS]
          have hB4 := M.lt List.mem_cons_self
          have hB1 := M.lt (List.mem_cons_of_mem _ List.mem_cons_self)
          refine callL rfl (fun _ => by kernel_rfl) (clone_any bp _ bc (Nat.le_trans F_1.max (by decide)) F_1.le F_1.nil (bl (prs b).body) _ (F_1.src.below M.below (Nat.le_refl _))) ?_
          rintro e w9 ⟨v, rfl, O_2, l⟩
          replace M := M.call l
          clear l
          obtain ⟨p5, c5, rfl, _, _⟩ := O_2.bytes
          refine ⟨_, rfl, ?_⟩
          simp only [aP, lI, l0, lS]
          refine readL (.pointer (some ⟨B5, 5, none⟩)) rfl (by kernel_rfl) ?_
          simp only [aP, lI, l0, lS]
          refine skipOpL rfl (storeAny (.slice p5 ((prs b).body.length) c5) B5 5 22 _ _ rfl rfl rfl rfl rfl (M.isSome List.mem_cons_self 5 (by simp)) (M.free List.mem_cons_self 5 (by simp)) (by kernel_rfl)) ?_
          simp only [Act.put]
          replace M := M.set 5 (by simp) (.slice p5 ((prs b).body.length) c5)
          replace O_2 := Own.off1 O_2 ((Off.refl [B5] _).set (b := B5) List.mem_cons_self 5 (.slice p5 ((prs b).body.length) c5)) (by omega)
          generalize w9.setCell ⟨B5, 5, none⟩ (.slice p5 ((prs b).body.length) c5) = w10 at M O_2 ⊢
          replace M : Mm w ([(B5, [.int .i64 ((prs b).kind), .int .i64 ((prs b).role), .int .i64 ((prs b).path), .int .i64 ((prs b).epo), .int .i64 ((prs b).ctr), .slice p5 ((prs b).body.length) c5]), (B1, [.int .i64 0, .int .i64 0, .int .i64 0, .int .i64 0, .int .i64 0, .slice none 0 0])]) w10 := M
          first | show Exit.then _ _ _ _ _ | show Exit.inBlock _ _ _ _ _
          go_upto_region 7 with fail
          refine wp_region_list ?_
          refine readL (.agg #[.int .i64 ((prs b).kind), .int .i64 ((prs b).role), .int .i64 ((prs b).path), .int .i64 ((prs b).epo), .int .i64 ((prs b).ctr), .slice p5 ((prs b).body.length) c5]) rfl (loadN 24 _ ⟨B5, 0, none⟩ [.int .i64 ((prs b).kind), .int .i64 ((prs b).role), .int .i64 ((prs b).path), .int .i64 ((prs b).epo), .int .i64 ((prs b).ctr), .slice p5 ((prs b).body.length) c5] rfl rfl (fun _ => by kernel_rfl) (fun _ => by kernel_rfl) (M.rangeAt List.mem_cons_self)) ?_
          simp only [aP, lI, l0, lS]
          replace M := M.swap
          refine skipOpL rfl (storeP [.int .i64 ((prs b).kind), .int .i64 ((prs b).role), .int .i64 ((prs b).path), .int .i64 ((prs b).epo), .int .i64 ((prs b).ctr), .slice p5 ((prs b).body.length) c5] B1 0 24 _ _ rfl rfl rfl (M.thereP List.mem_cons_self 0 6 (Nat.le_of_ble_eq_true rfl)) (by kernel_rfl) (List.all_eq_true.1 (rfl : ([.int .i64 ((prs b).kind), .int .i64 ((prs b).role), .int .i64 ((prs b).path), .int .i64 ((prs b).epo), .int .i64 ((prs b).ctr), .slice p5 ((prs b).body.length) c5] : List Value).all (fun u => u.oneCell') = true))) ?_
          simp only [Act.put]
          replace M := M.setPart [.int .i64 ((prs b).kind), .int .i64 ((prs b).role), .int .i64 ((prs b).path), .int .i64 ((prs b).epo), .int .i64 ((prs b).ctr), .slice p5 ((prs b).body.length) c5] 0 (Nat.le_of_ble_eq_true rfl)
          replace O_2 := Own.off1 O_2 ((Off.refl [B1] _).setAll (b := B1) List.mem_cons_self 0 [.int .i64 ((prs b).kind), .int .i64 ((prs b).role), .int .i64 ((prs b).path), .int .i64 ((prs b).epo), .int .i64 ((prs b).ctr), .slice p5 ((prs b).body.length) c5]) (by omega)
          generalize w10.setCells B1 0 [.int .i64 ((prs b).kind), .int .i64 ((prs b).role), .int .i64 ((prs b).path), .int .i64 ((prs b).epo), .int .i64 ((prs b).ctr), .slice p5 ((prs b).body.length) c5] = w11 at M O_2 ⊢
          replace M : Mm w ([(B1, [.int .i64 ((prs b).kind), .int .i64 ((prs b).role), .int .i64 ((prs b).path), .int .i64 ((prs b).epo), .int .i64 ((prs b).ctr), .slice p5 ((prs b).body.length) c5]), (B5, [.int .i64 ((prs b).kind), .int .i64 ((prs b).role), .int .i64 ((prs b).path), .int .i64 ((prs b).epo), .int .i64 ((prs b).ctr), .slice p5 ((prs b).body.length) c5])]) w11 := M
          refine readL (.int .i64 0) rfl (by kernel_rfl) ?_
          simp only [aP, lI, l0, lS]
          first | show Exit.then _ _ _ _ _ | show Exit.inBlock _ _ _ _ _
          have hpv := show Hid _ from ((⟨O_2.src, O_2.le, O_2.nilCap, F_1.max, F_1.byts, F_1.kind, F_1.role, F_1.path, F_1.epo, F_1.ctr⟩ : PV _ (prs b) p5 c5))
          have c1_ := M.part List.mem_cons_self 0 (pcs (prs b) p5 c5) rfl
          have hM := M.below
          clear M
          go_wp2
          refine bodyPost_ret (v := .tuple #[.agg (pcs (prs b) p5 c5).toArray, .int .i64 0]) (retCellTmp 2 3 24 ⟨B1, 0, none⟩ (pcs (prs b) p5 c5) _ rfl rfl rfl (fun _ => by kernel_rfl) (fun _ => by kernel_rfl) c1_) rfl ?_
          exact ⟨⟨_, _, by rw [hQ.out.1, hQ.out.2], by rw [hQ.out.1]; exact hpv.out⟩, hM⟩
      · go_upto_region 1 with fail
        refine wp_region_list ?_
        refine readL (.slice (some ad) b.length cap) rfl (by kernel_rfl) ?_
        simp only [aP, lI, l0, lS]
        refine readL (.int .i64 ((b.length : Nat) : Int)) rfl (lenS _ 22 5 (some ad) b.length cap rfl Tryd.underlying22 rfl _) ?_
        simp only [aP, lI, l0, lS]
        refine readL (.bool false) rfl (eqlI .i64 _ _ _ _ _ _ rfl rfl rfl false (beq_eq_false_iff_ne.2 (by omega)) _) ?_
        simp only [aP, lI, l0, lS]
        refine readL (.bool false) rfl (by kernel_rfl) ?_
        simp only [aP, lI, l0, lS]
        refine readL (.slice (some ad) b.length cap) rfl (by kernel_rfl) ?_
        simp only [aP, lI, l0, lS]
        refine readL (.pointer (some (ad.add 0))) rfl (idxSl 22 5 b.length cap .i64 ad 0 _ _ Tryd.underlying22 (fun _ => by kernel_rfl) (by omega) rfl rfl rfl _) ?_
        simp only [aP, lI, l0, lS]
        refine readL (.int .u8 (bl b 0)) rfl (load1 5 _ (ad.add 0) _ rfl rfl (fun _ => by kernel_rfl) ((hs.below M.below (Nat.le_refl _)).at 0 (by omega))) ?_
        simp only [aP, lI, l0, lS]
        refine readL (.bool false) rfl (eqlI .u8 _ _ _ _ _ _ rfl rfl rfl false (by simpa using h3') _) ?_
        simp only [aP, lI, l0, lS]
        refine readL (.bool false) rfl (by kernel_rfl) ?_
        simp only [aP, lI, l0, lS]
        with_reducible refine skipL ?_ ?_
        · rfl
        simp only [aP, lI, l0, lS]
        with_reducible refine skipL ?_ ?_
        · rfl
        simp only [aP, lI, l0, lS]
        with_reducible refine skipL ?_ ?_
        · rfl
        simp only [aP, lI, l0, lS]
        refine readL (.bool false) rfl (by kernel_rfl) ?_
        simp only [aP, lI, l0, lS]
        refine readL (.bool false) rfl (by kernel_rfl) ?_
        simp only [aP, lI, l0, lS]
        first | show Exit.then _ _ _ _ _ | show Exit.inBlock _ _ _ _ _
        go_upto_region 3 with fail
        refine wp_region_list ?_
        refine readL (.slice (some ad) b.length cap) rfl (by kernel_rfl) ?_
        simp only [aP, lI, l0, lS]
        refine callL rfl (fun _ => by kernel_rfl) (pread_any (some ad) cap b w _ M.below (hg.mm M) hlen hcap hnil hb hs hpos h27) ?_
        rintro e w12 ⟨⟨bp, bc, rfl, F_1⟩, l⟩
        replace M := M.call l
        clear l
        refine ⟨_, rfl, ?_⟩
        rw [show (.agg (pcs (prs b) bp bc).toArray : Value) = .agg #[.int .i64 ((prs b).kind), .int .i64 ((prs b).role), .int .i64 ((prs b).path), .int .i64 ((prs b).epo), .int .i64 ((prs b).ctr), .slice bp ((prs b).body.length) bc] from rfl]
        simp only [aP, lI, l0, lS]
        refine actL (w' := w12.alloc (.cells #[.int .i64 0, .int .i64 0, .int .i64 0, .int .i64 0, .int .i64 0, .slice none 0 0] 24)) (.pointer (some ⟨w12.heap.size, 0, none⟩)) rfl (by kernel_rfl) ?_
        simp only [aP, lI, l0, lS]
        have hB_B13 : w.heap.size ≤ w12.heap.size := M.below.size
        replace M := M.box #[.int .i64 0, .int .i64 0, .int .i64 0, .int .i64 0, .int .i64 0, .slice none 0 0] 24 w12.heap.size rfl
        generalize w12.alloc (.cells #[.int .i64 0, .int .i64 0, .int .i64 0, .int .i64 0, .int .i64 0, .slice none 0 0] 24) = w13 at M  ⊢
        generalize eB : w12.heap.size = B13 at M hB_B13  ⊢
        have hE_B13 : w12.heap.size ≤ B13 := Nat.le_of_eq eB
        have hF_B13 : B13 ≤ w12.heap.size := Nat.le_of_eq eB.symm
        clear eB
        replace M : Mm w ([(B13, [.int .i64 0, .int .i64 0, .int .i64 0, .int .i64 0, .int .i64 0, .slice none 0 0]), (B1, [.int .i64 0, .int .i64 0, .int .i64 0, .int .i64 0, .int .i64 0, .slice none 0 0])]) w13 := M
        refine skipOpL rfl (storeP [.int .i64 ((prs b).kind), .int .i64 ((prs b).role), .int .i64 ((prs b).path), .int .i64 ((prs b).epo), .int .i64 ((prs b).ctr), .slice bp ((prs b).body.length) bc] B13 0 24 _ _ rfl rfl rfl (M.thereP List.mem_cons_self 0 6 (Nat.le_of_ble_eq_true rfl)) (by kernel_rfl) (List.all_eq_true.1 (rfl : ([.int .i64 ((prs b).kind), .int .i64 ((prs b).role), .int .i64 ((prs b).path), .int .i64 ((prs b).epo), .int .i64 ((prs b).ctr), .slice bp ((prs b).body.length) bc] : List Value).all (fun u => u.oneCell') = true))) ?_
        simp only [Act.put]
        replace M := M.setPart [.int .i64 ((prs b).kind), .int .i64 ((prs b).role), .int .i64 ((prs b).path), .int .i64 ((prs b).epo), .int .i64 ((prs b).ctr), .slice bp ((prs b).body.length) bc] 0 (Nat.le_of_ble_eq_true rfl)
        generalize w13.setCells B13 0 [.int .i64 ((prs b).kind), .int .i64 ((prs b).role), .int .i64 ((prs b).path), .int .i64 ((prs b).epo), .int .i64 ((prs b).ctr), .slice bp ((prs b).body.length) bc] = w14 at M  ⊢
        replace M : Mm w ([(B13, [.int .i64 ((prs b).kind), .int .i64 ((prs b).role), .int .i64 ((prs b).path), .int .i64 ((prs b).epo), .int .i64 ((prs b).ctr), .slice bp ((prs b).body.length) bc]), (B1, [.int .i64 0, .int .i64 0, .int .i64 0, .int .i64 0, .int .i64 0, .slice none 0 0])]) w14 := M
        first | show Exit.then _ _ _ _ _ | show Exit.inBlock _ _ _ _ _
        go_upto_region 4 with fail
        refine wp_region_list ?_
        refine readL (.agg #[.int .i64 ((prs b).kind), .int .i64 ((prs b).role), .int .i64 ((prs b).path), .int .i64 ((prs b).epo), .int .i64 ((prs b).ctr), .slice bp ((prs b).body.length) bc]) rfl (loadN 24 _ ⟨B13, 0, none⟩ [.int .i64 ((prs b).kind), .int .i64 ((prs b).role), .int .i64 ((prs b).path), .int .i64 ((prs b).epo), .int .i64 ((prs b).ctr), .slice bp ((prs b).body.length) bc] rfl rfl (fun _ => by kernel_rfl) (fun _ => by kernel_rfl) (M.rangeAt List.mem_cons_self)) ?_
        simp only [aP, lI, l0, lS]
        obtain ⟨b3, hb3⟩ : ∃ y_, y_ = (pok (prs b)) := ⟨_, rfl⟩
        have hC : Calls Tryd.prog 19 #[.agg #[.int .i64 ((prs b).kind), .int .i64 ((prs b).role), .int .i64 ((prs b).path), .int .i64 ((prs b).epo), .int .i64 ((prs b).ctr), .slice bp ((prs b).body.length) bc]] w14 (fun e w' => e = .returned (.bool b3) ∧ Below w14.heap.size w14 w') := (by rw [hb3]; exact pmay_any (prs b) bp bc _)
        refine callL rfl (fun _ => by kernel_rfl) (hC) ?_
        rintro e w15 ⟨rfl, l⟩
        replace M := M.call l
        refine ⟨_, rfl, ?_⟩
        clear l hC
        simp only [aP, lI, l0, lS]
        obtain ⟨b4, hb4⟩ : ∃ y_, y_ = (!b3) := ⟨_, rfl⟩
        refine readL (.bool b4) rfl (by subst hb4; cases b3 <;> rfl) ?_
        simp only [aP, lI, l0, lS]
        first | show Exit.then _ _ _ _ _ | show Exit.inBlock _ _ _ _ _
        have hbb : b4 = !pok (prs b) := by rw [hb4, hb3]
        try clear hb3
        try clear hb4
        cases b4 with
        | true =>
          have hQ := show Hid _ from ps_err (pps_bad hno (show pok (prs b) = false by simpa using hbb))
          clear hbb
          go_upto_region 5 with fail
          refine wp_region_list ?_
          refine readL (.agg #[.int .i64 0, .int .i64 0, .int .i64 0, .int .i64 0, .int .i64 0, .slice none 0 0]) rfl (by kernel_rfl) ?_
          simp only [aP, lI, l0, lS]
          replace M := M.swap
          refine skipOpL rfl (storeP [.int .i64 0, .int .i64 0, .int .i64 0, .int .i64 0, .int .i64 0, .slice none 0 0] B1 0 24 _ _ rfl rfl rfl (M.thereP List.mem_cons_self 0 6 (Nat.le_of_ble_eq_true rfl)) (by kernel_rfl) (List.all_eq_true.1 (rfl : ([.int .i64 0, .int .i64 0, .int .i64 0, .int .i64 0, .int .i64 0, .slice none 0 0] : List Value).all (fun u => u.oneCell') = true))) ?_
          simp only [Act.put]
          replace M := M.setPart [.int .i64 0, .int .i64 0, .int .i64 0, .int .i64 0, .int .i64 0, .slice none 0 0] 0 (Nat.le_of_ble_eq_true rfl)
          generalize w15.setCells B1 0 [.int .i64 0, .int .i64 0, .int .i64 0, .int .i64 0, .int .i64 0, .slice none 0 0] = w16 at M  ⊢
          replace M : Mm w ([(B1, [.int .i64 0, .int .i64 0, .int .i64 0, .int .i64 0, .int .i64 0, .slice none 0 0]), (B13, [.int .i64 ((prs b).kind), .int .i64 ((prs b).role), .int .i64 ((prs b).path), .int .i64 ((prs b).epo), .int .i64 ((prs b).ctr), .slice bp ((prs b).body.length) bc])]) w16 := M
          refine readL (.int .i64 110) rfl (by kernel_rfl) ?_
          simp only [aP, lI, l0, lS]
          first | show Exit.then _ _ _ _ _ | show Exit.inBlock _ _ _ _ _
          have hpv := show Hid _ from (pv0 w16)
          have c1_ := M.part List.mem_cons_self 0 (pcs pk0 none 0) rfl
          have hM := M.below
          clear M
          go_wp2
          refine bodyPost_ret (v := .tuple #[.agg (pcs pk0 none 0).toArray, .int .i64 110]) (retCellTmp 2 3 24 ⟨B1, 0, none⟩ (pcs pk0 none 0) _ rfl rfl rfl (fun _ => by kernel_rfl) (fun _ => by kernel_rfl) c1_) rfl ?_
          exact ⟨⟨_, _, by rw [hQ.out.1, hQ.out.2], by rw [hQ.out.1]; exact hpv.out⟩, hM⟩
        | false =>
          have hQ := show Hid _ from ps_ok (pps_good hno (show pok (prs b) = true by simpa using hbb))
          clear hbb
          go_upto_region 6 with fail
          refine wp_region_list ?_
          refine readL (.pointer (some ⟨B13, 5, none⟩)) rfl (by kernel_rfl) ?_
          simp only [aP, lI, l0, lS]
          refine readL (.slice bp ((prs b).body.length) bc) rfl (load1 22 _ ⟨B13, 5, none⟩ _ rfl rfl (fun _ => by kernel_rfl) (M.get List.mem_cons_self 5 _ rfl)) ?_
          simp only [aP, lI, l0, lS]
          have hB4 := M.lt List.mem_cons_self
          have hB1 := M.lt (List.mem_cons_of_mem _ List.mem_cons_self)
          refine callL rfl (fun _ => by kernel_rfl) (clone_any bp _ bc (Nat.le_trans F_1.max (by decide)) F_1.le F_1.nil (bl (prs b).body) _ (F_1.src.below M.below (Nat.le_refl _))) ?_
          rintro e w17 ⟨v, rfl, O_2, l⟩
          replace M := M.call l
          clear l
          obtain ⟨p5, c5, rfl, _, _⟩ := O_2.bytes
          refine ⟨_, rfl, ?_⟩
          simp only [aP, lI, l0, lS]
          refine readL (.pointer (some ⟨B13, 5, none⟩)) rfl (by kernel_rfl) ?_
          simp only [aP, lI, l0, lS]
          refine skipOpL rfl (storeAny (.slice p5 ((prs b).body.length) c5) B13 5 22 _ _ rfl rfl rfl rfl rfl (M.isSome List.mem_cons_self 5 (by simp)) (M.free List.mem_cons_self 5 (by simp)) (by kernel_rfl)) ?_
          simp only [Act.put]
          replace M := M.set 5 (by simp) (.slice p5 ((prs b).body.length) c5)
          replace O_2 := Own.off1 O_2 ((Off.refl [B13] _).set (b := B13) List.mem_cons_self 5 (.slice p5 ((prs b).body.length) c5)) (by omega)
          generalize w17.setCell ⟨B13, 5, none⟩ (.slice p5 ((prs b).body.length) c5) = w18 at M O_2 ⊢
          replace M : Mm w ([(B13, [.int .i64 ((prs b).kind), .int .i64 ((prs b).role), .int .i64 ((prs b).path), .int .i64 ((prs b).epo), .int .i64 ((prs b).ctr), .slice p5 ((prs b).body.length) c5]), (B1, [.int .i64 0, .int .i64 0, .int .i64 0, .int .i64 0, .int .i64 0, .slice none 0 0])]) w18 := M
          first | show Exit.then _ _ _ _ _ | show Exit.inBlock _ _ _ _ _
          go_upto_region 7 with fail
          refine wp_region_list ?_
          refine readL (.agg #[.int .i64 ((prs b).kind), .int .i64 ((prs b).role), .int .i64 ((prs b).path), .int .i64 ((prs b).epo), .int .i64 ((prs b).ctr), .slice p5 ((prs b).body.length) c5]) rfl (loadN 24 _ ⟨B13, 0, none⟩ [.int .i64 ((prs b).kind), .int .i64 ((prs b).role), .int .i64 ((prs b).path), .int .i64 ((prs b).epo), .int .i64 ((prs b).ctr), .slice p5 ((prs b).body.length) c5] rfl rfl (fun _ => by kernel_rfl) (fun _ => by kernel_rfl) (M.rangeAt List.mem_cons_self)) ?_
          simp only [aP, lI, l0, lS]
          replace M := M.swap
          refine skipOpL rfl (storeP [.int .i64 ((prs b).kind), .int .i64 ((prs b).role), .int .i64 ((prs b).path), .int .i64 ((prs b).epo), .int .i64 ((prs b).ctr), .slice p5 ((prs b).body.length) c5] B1 0 24 _ _ rfl rfl rfl (M.thereP List.mem_cons_self 0 6 (Nat.le_of_ble_eq_true rfl)) (by kernel_rfl) (List.all_eq_true.1 (rfl : ([.int .i64 ((prs b).kind), .int .i64 ((prs b).role), .int .i64 ((prs b).path), .int .i64 ((prs b).epo), .int .i64 ((prs b).ctr), .slice p5 ((prs b).body.length) c5] : List Value).all (fun u => u.oneCell') = true))) ?_
          simp only [Act.put]
          replace M := M.setPart [.int .i64 ((prs b).kind), .int .i64 ((prs b).role), .int .i64 ((prs b).path), .int .i64 ((prs b).epo), .int .i64 ((prs b).ctr), .slice p5 ((prs b).body.length) c5] 0 (Nat.le_of_ble_eq_true rfl)
          replace O_2 := Own.off1 O_2 ((Off.refl [B1] _).setAll (b := B1) List.mem_cons_self 0 [.int .i64 ((prs b).kind), .int .i64 ((prs b).role), .int .i64 ((prs b).path), .int .i64 ((prs b).epo), .int .i64 ((prs b).ctr), .slice p5 ((prs b).body.length) c5]) (by omega)
          generalize w18.setCells B1 0 [.int .i64 ((prs b).kind), .int .i64 ((prs b).role), .int .i64 ((prs b).path), .int .i64 ((prs b).epo), .int .i64 ((prs b).ctr), .slice p5 ((prs b).body.length) c5] = w19 at M O_2 ⊢
          replace M : Mm w ([(B1, [.int .i64 ((prs b).kind), .int .i64 ((prs b).role), .int .i64 ((prs b).path), .int .i64 ((prs b).epo), .int .i64 ((prs b).ctr), .slice p5 ((prs b).body.length) c5]), (B13, [.int .i64 ((prs b).kind), .int .i64 ((prs b).role), .int .i64 ((prs b).path), .int .i64 ((prs b).epo), .int .i64 ((prs b).ctr), .slice p5 ((prs b).body.length) c5])]) w19 := M
          refine readL (.int .i64 0) rfl (by kernel_rfl) ?_
          simp only [aP, lI, l0, lS]
          first | show Exit.then _ _ _ _ _ | show Exit.inBlock _ _ _ _ _
          have hpv := show Hid _ from ((⟨O_2.src, O_2.le, O_2.nilCap, F_1.max, F_1.byts, F_1.kind, F_1.role, F_1.path, F_1.epo, F_1.ctr⟩ : PV _ (prs b) p5 c5))
          have c1_ := M.part List.mem_cons_self 0 (pcs (prs b) p5 c5) rfl
          have hM := M.below
          clear M
          go_wp2
          refine bodyPost_ret (v := .tuple #[.agg (pcs (prs b) p5 c5).toArray, .int .i64 0]) (retCellTmp 2 3 24 ⟨B1, 0, none⟩ (pcs (prs b) p5 c5) _ rfl rfl rfl (fun _ => by kernel_rfl) (fun _ => by kernel_rfl) c1_) rfl ?_
          exact ⟨⟨_, _, by rw [hQ.out.1, hQ.out.2], by rw [hQ.out.1]; exact hpv.out⟩, hM⟩
end Go.Proofs.YtbhhboiofepnhaaDoor

namespace Go.Proofs.YtbhhboiofepnhaaDoor
open Go.ChangeShapes Go.WideShapes Go.ChangeAt Go.WideMaps Go.WideElems Go.RowKit

/-- A number, if it is one. -/
def intAt : Option Value → Int
  | some (.int _ n) => n
  | _ => 0
/-- What a row of numbers reads as. -/
def litR {H : Type} (k : IntKind) (n : Nat) (f : Nat → Int) : DataW H := .agg ((List.range n).map fun j => .lit (.int k (f j)))
section
variable {H : Type} {enc : TypeId × Value → H} {P : Program} {w : World} {base : Nat} {sp : Nat → Bool} {held : Bool}
theorem open_row {t e : TypeId} {n : Nat} {k : IntKind} (hu : P.underlying t = some (.array n e)) (he : P.underlying e = some (.int k)) (hct : P.cellsOf t = n) (hce : P.cellsOf e = 1) {fuel : Nat} {cs : List Value} {x : DataW H × List MemPlace}
    (h : DataW.trod enc P w base sp held fuel t cs = some x) : ∃ f : Nat → Int, (∀ j, j < n → (Lit.int k (f j)).wf = true) ∧ cs = row k n f ∧ x = (litR k n f, []) := by
  obtain ⟨xs, m, _, hx, hl, hn, hel⟩ := DataW.trod_array hu h
  rw [hct] at hl
  have hcell : ∀ i, i < n → ∃ v, cs[i]? = some (.int k v) ∧ xs[i]? = some (.lit (.int k v), []) ∧ (Lit.int k v).wf = true := by
    intro i hi
    have e1 := hel i hi
    rw [hce, Nat.mul_one] at e1
    have hxi : i < xs.length := by omega
    rw [List.getElem?_eq_getElem hxi] at e1
    obtain ⟨v, e2, e3, e4⟩ := DataW.trod_int he e1
    refine ⟨v, ?_, by rw [List.getElem?_eq_getElem hxi, e3], e4⟩
    have hci : i < cs.length := by omega
    have e5 : (cs.drop i).take 1 = [cs[i]] := by rw [List.drop_eq_getElem_cons hci, List.take_succ_cons, List.take_zero]
    rw [e5] at e2
    rw [List.getElem?_eq_getElem hci]
    simpa using e2
  refine ⟨fun i => intAt cs[i]?, fun i hi => ?_, ?_, ?_⟩
  · obtain ⟨v, e1, _, e3⟩ := hcell i hi
    dsimp only
    rw [e1]; exact e3
  · refine List.ext_getElem? fun i => ?_
    by_cases hi : i < n
    · obtain ⟨v, e1, _, _⟩ := hcell i hi
      rw [row_get k n _ i hi, e1]; rfl
    · rw [List.getElem?_eq_none (by omega), List.getElem?_eq_none (by rw [row_length]; omega)]
  · rw [hx]
    congr 1
    · unfold litR
      congr 1
      refine List.ext_getElem? fun i => ?_
      by_cases hi : i < n
      · obtain ⟨v, e1, e2, _⟩ := hcell i hi
        rw [List.getElem?_map, e2, List.getElem?_map, List.getElem?_range hi]
        simp only [Option.map_some]
        rw [e1]
        rfl
      · rw [List.getElem?_eq_none (by simp [hn]; omega), List.getElem?_eq_none (by simp; omega)]
    · refine List.flatMap_eq_nil_iff.2 fun y hy => ?_
      obtain ⟨i, hi⟩ := List.mem_iff_getElem?.1 hy
      have hin : i < n := by have := (List.getElem?_eq_some_iff.1 hi).1; omega
      obtain ⟨v, _, e2, _⟩ := hcell i hin
      rw [e2] at hi
      rw [← Option.some.inj hi]
end
theorem wf_u8 {n : Int} : (Lit.int .u8 n).wf = true ↔ 0 ≤ n ∧ n < 256 := by
  simp [Lit.wf, IntKind.min, IntKind.max, IntKind.signed, IntKind.bits]
  omega
theorem wf_i64 {n : Int} : (Lit.int .i64 n).wf = true ↔ -9223372036854775808 ≤ n ∧ n ≤ 9223372036854775807 := by
  simp [Lit.wf, IntKind.min, IntKind.max, IntKind.signed, IntKind.bits]

theorem litR_inj {H : Type} {k : IntKind} {n : Nat} {f g : Nat → Int} (h : (litR k n f : DataW H) = litR k n g) (j : Nat) (hj : j < n) : f j = g j := by
  unfold litR at h
  injection h with h
  have e := congrArg (fun l => l[j]?) h
  simp only [List.getElem?_map, List.getElem?_range hj, Option.map_some, Option.some.injEq] at e
  injection e with e
  injection e
end Go.Proofs.YtbhhboiofepnhaaDoor

namespace Go.Proofs.YtbhhboiofepnhaaDoor
open Go.ChangeShapes Go.WideShapes Go.ChangeAt Go.WideMaps Go.WideElems Go.RowKit

theorem own : ownKnob Tryd.prog.godebug = none := by kernel_rfl
theorem cellsByte : Tryd.prog.cellsOf 5 = 1 := by kernel_rfl
theorem laidOut : laidOutB Tryd.prog = true := by kernel_rfl
/-- What is asked of data that come in: their slices are not too long. -/
structure Fit (H : Type) (Q : TypeId → DataW H → Prop) : Prop where
  packet : ∀ l, Q 24 (.agg l) → ∀ d, l[5]? = some d → Q 22 d
  bytes : ∀ a b, Q 22 (.slice a b) → a.length ≤ 140737488351232
section
variable {H : Type} {enc : TypeId × Value → H} {W : World} {Q : TypeId → DataW H → Prop}
theorem fieldsPacket : (Tryd.prog.fieldsOf 24).toList.map (fun f => (f.type, f.offset)) = [(3, 0), (3, 1), (3, 2), (3, 3), (3, 4), (22, 5)] := by kernel_rfl
theorem field_of {fs : Array Field} {l : List (TypeId × Nat)} (h : fs.toList.map (fun f => (f.type, f.offset)) = l) (i : Nat) (t : TypeId) (o : Nat) (hi : l[i]? = some (t, o)) : ∃ f, fs[i]? = some f ∧ f.type = t ∧ f.offset = o := by
  rw [← h, List.getElem?_map] at hi
  obtain ⟨f, h1, h2⟩ := Option.map_eq_some_iff.1 hi
  injection h2 with h2 h3
  exact ⟨f, by simpa using h1, h2, h3⟩
theorem open_octets (F : Fit H Q) {fuel : Nat} {cs : List Value} {x : DataW H × List MemPlace} (h : DataW.trod enc Tryd.prog W 0 (fun _ => true) true fuel 22 cs = some x) (hq : Q 22 x.1) :
    ∃ (sp : Option Addr) (cap : Nat) (bs : List Int), cs = [.slice sp bs.length cap] ∧ Src W sp bs.length (bl bs) ∧ bs.length ≤ cap ∧ (sp = none → cap = 0) ∧ bs.length ≤ 140737488351232 ∧ Byts bs := by
  rcases open_ints Tryd.underlying22 Tryd.underlying5 cellsByte h with ⟨rfl, rfl⟩ | ⟨ad, len, cap, zs, rfl, _, hle, hmax, hall, rfl, hcell, hwf⟩
  · exact ⟨none, 0, [], rfl, fun j hj => absurd hj (Nat.not_lt_zero j), Nat.le_refl _, fun _ => rfl, Nat.zero_le _, fun x hx => (by cases hx)⟩
  · simp only [if_true] at hall
    have hm := F.bytes _ _ hq
    simp only [lits, List.length_map, List.length_take] at hm
    have hl : (zs.take len).length = len := by rw [List.length_take]; omega
    refine ⟨some ad, cap, zs.take len, by rw [hl], fun j hj => ⟨ad, rfl, ?_⟩, by rw [hl]; exact hle, fun e => (by cases e), by rw [hl]; omega, fun y hy => wf_u8.1 (hwf y (List.mem_of_mem_take hy))⟩
    rw [hl] at hj
    rw [bl_take _ _ _ hj]
    exact hcell j (by omega)
theorem i64_of {n : Int} (h : (Lit.int .i64 n).wf = true) : i64 n := by have := wf_i64.1 h; unfold i64; omega
theorem open_packet (F : Fit H Q) {fuel : Nat} {cs : List Value} {x : DataW H × List MemPlace} (h : DataW.trod enc Tryd.prog W 0 (fun _ => true) true fuel 24 cs = some x) (hq : Q 24 x.1) :
    ∃ (p : Pkt) (bp : Option Addr) (bc : Nat), cs = pcs p bp bc ∧ PV W p bp bc := by
  obtain ⟨xs, n, _, hx, hl, hlen, hf⟩ := DataW.trod_struct (fs := Tryd.prog.fieldsOf 24) (by kernel_rfl) h
  have h6 : Tryd.prog.cellsOf 24 = 6 := by kernel_rfl
  have hc1 : Tryd.prog.cellsOf 3 = 1 := by kernel_rfl
  have hc3 : Tryd.prog.cellsOf 22 = 1 := by kernel_rfl
  have hs : xs.length = 6 := by rw [hlen]; kernel_rfl
  rw [h6] at hl
  rw [hx] at hq
  have hq2 := F.packet _ hq
  match cs, hl with
  | [c0, c1, c2, c3, c4, c5], _ =>
    obtain ⟨f0, e0, t0, o0⟩ := field_of fieldsPacket 0 3 0 rfl
    obtain ⟨f1, e1, t1, o1⟩ := field_of fieldsPacket 1 3 1 rfl
    obtain ⟨f2, e2, t2, o2⟩ := field_of fieldsPacket 2 3 2 rfl
    obtain ⟨f3, e3, t3, o3⟩ := field_of fieldsPacket 3 3 3 rfl
    obtain ⟨f4, e4, t4, o4⟩ := field_of fieldsPacket 4 3 4 rfl
    obtain ⟨f5, e5, t5, o5⟩ := field_of fieldsPacket 5 22 5 rfl
    have g0 := hf 0 f0 e0
    have g1 := hf 1 f1 e1
    have g2 := hf 2 f2 e2
    have g3 := hf 3 f3 e3
    have g4 := hf 4 f4 e4
    have g5 := hf 5 f5 e5
    rw [t0, o0, hc1, List.getElem?_eq_getElem (by omega)] at g0
    rw [t1, o1, hc1, List.getElem?_eq_getElem (by omega)] at g1
    rw [t2, o2, hc1, List.getElem?_eq_getElem (by omega)] at g2
    rw [t3, o3, hc1, List.getElem?_eq_getElem (by omega)] at g3
    rw [t4, o4, hc1, List.getElem?_eq_getElem (by omega)] at g4
    rw [t5, o5, hc3, List.getElem?_eq_getElem (by omega)] at g5
    obtain ⟨n0, q0, _, w0⟩ := DataW.trod_int Tryd.underlying3 g0
    obtain ⟨n1, q1, _, w1⟩ := DataW.trod_int Tryd.underlying3 g1
    obtain ⟨n2, q2, _, w2⟩ := DataW.trod_int Tryd.underlying3 g2
    obtain ⟨n3, q3, _, w3⟩ := DataW.trod_int Tryd.underlying3 g3
    obtain ⟨n4, q4, _, w4⟩ := DataW.trod_int Tryd.underlying3 g4
    obtain ⟨bp, bc, bs, q5, b1, b2, b3, b4, b5⟩ := open_octets F g5 (hq2 _ (by rw [List.getElem?_map, List.getElem?_eq_getElem (show 5 < xs.length by omega)]; rfl))
    simp at q0 q1 q2 q3 q4 q5
    refine ⟨⟨n0, n1, n2, n3, n4, bs⟩, bp, bc, ?_, ⟨b1, b2, b3, b4, b5, i64_of w0, i64_of w1, i64_of w2, i64_of w3, i64_of w4⟩⟩
    rw [q0, q1, q2, q3, q4, q5]
    rfl
end
/-- The first form's reach. -/
def Wok {H : Type} (t : TypeId) (d : DataW H) : Prop := ∀ n ∈ d.weights Tryd.prog t, n ≤ reachBytes
theorem fitWok (H : Type) : Fit H Wok where
  packet l h := by
    have hu : Tryd.prog.underlying 24 = some (.struct (Tryd.prog.fieldsOf 24)) := by kernel_rfl
    have ht : (Tryd.prog.fieldsOf 24).toList.map (·.type) = [3, 3, 3, 3, 3, 22] := by kernel_rfl
    have e : ∀ n ∈ DataW.weightsEach Tryd.prog [3, 3, 3, 3, 3, 22] l, n ≤ reachBytes := fun n hn => h n (by simp only [DataW.weights, hu, ht]; exact hn)
    exact fun d hd n hn => e n (DataW.weights_mem_each (j := 5) rfl hd n hn)
  bytes a b h := by
    have h1 := h ((a.length + b.length) * Tryd.prog.bytesOf 5) (by simp only [DataW.weights, Tryd.underlying22]; exact List.mem_cons_self)
    rw [show Tryd.prog.bytesOf 5 = 1 by kernel_rfl] at h1
    simp only [reachBytes] at h1
    omega
section
variable {H : Type} {enc : TypeId × Value → H} {W : World} {Q : TypeId → DataW H → Prop}
/-- What came in is read again, whatever was made beside it. -/
theorem again {t : TypeId} (hr : Tryd.prog.readableRec t = true) (hrow : t < Tryd.prog.types.size) {v : Value} {d : DataW H} {p : List MemPlace} (h : DataW.Trod enc Tryd.prog W 0 (fun _ => true) true t v d p) (W' : World) (hb : Below W.heap.size W W') : DataW.Trod enc Tryd.prog W' 0 (fun b => decide (b < W.heap.size)) true t v d p :=
  hb.trod laidOut hr hrow h (by obtain ⟨fuel, hf⟩ := h; exact fun x hx => DataW.trod_lt _ _ _ _ hf x hx)
theorem arg_packet (F : Fit H Q) {r : Reach} {b0 : Nat} {v : Value} {d : DataW H} {p : List MemPlace} (hv : Value.okWide Tryd.prog W r b0 24 v) (h : DataW.Trod enc Tryd.prog W 0 (fun _ => true) true 24 v d p) (hq : Q 24 d) :
    ∃ (k : Pkt) (bp : Option Addr) (bc : Nat), v = .agg (pcs k bp bc).toArray ∧ PV W k bp bc := by
  have hu : Tryd.prog.underlying 24 = some (.struct (Tryd.prog.fieldsOf 24)) := by kernel_rfl
  simp only [Value.okWide, hu] at hv
  obtain ⟨cs, rfl, _⟩ := hv
  obtain ⟨fuel, hf⟩ := h
  obtain ⟨k, bp, bc, h1, h2⟩ := open_packet F hf hq
  exact ⟨k, bp, bc, congrArg Value.agg (Array.toList_inj.1 h1), h2⟩
end
end Go.Proofs.YtbhhboiofepnhaaDoor

namespace Go.Proofs.YtbhhboiofepnhaaDoor
open Go.ChangeShapes Go.WideShapes Go.ChangeAt Go.WideMaps Go.WideElems Go.RowKit

theorem cellsInt : Tryd.prog.cellsOf 3 = 1 := by kernel_rfl
theorem cellsSz : Tryd.prog.cellsOf 50 = 5 := by kernel_rfl
theorem gSizes : Tryd.prog.globalNamed "sheave/packet.sizes" = some 0 := by kernel_rfl
theorem tSizes : (Tryd.prog.globals[0]?).map (·.type) = some 50 := by kernel_rfl
/-- What the cards' rows list. -/
def laidP {H : Type} : List (String × DataW H) := [("sheave/packet.sizes", Rows.laid_sheave_packet_sizes)]
theorem glob_of_laidP {W : World} (h : laidMetH Tryd.prog laidP W) : PG W := by
  rw [MakeChecks.laidMetH_plain _ _ _ (by kernel_rfl)] at h
  obtain ⟨ps, ⟨g0, t0, cs0, f0, p0, q0, hg0, ht0, hv0, hd0, _, _⟩, _, _⟩ := h
  obtain rfl := Option.some.inj (gSizes.symm.trans hg0)
  obtain rfl := Option.some.inj (tSizes.symm.trans ht0)
  obtain ⟨f, _, e1, e2⟩ := open_row Tryd.underlying50 Tryd.underlying3 cellsSz cellsInt hd0
  simp only [Prod.mk.injEq] at e2
  have ef := litR_inj (show (litR .i64 5 szs : DataW _) = litR .i64 5 f from e2.1)
  have c0 : ∀ j, j < 5 → W.cell? ⟨0, j, none⟩ = some (.int .i64 (szs j)) := fun j hj => by
    rw [World.var?_cell hg0 hv0 j, ef j hj]
    have := row_get .i64 5 f j hj
    rw [← e1] at this
    simpa using this
  have s0 := World.block_lt_of_cell? W _ (c0 0 (by omega))
  exact ⟨c0, by dsimp only at s0; omega⟩
/-- The door's own heap meets the condition: three closed facts. -/
theorem door_metP (os : Os) (args : Array Value) : laidMetH Tryd.prog laidP ((World.doorLaid Tryd.prog 10 os).forCall (fun _ _ => 0) ⟨#[], args, []⟩).memory :=
  laidMetH_of_parts3 (fuel := 8) (laidMet_of_run' 8 (by kernel_rfl) (by kernel_rfl)) (by kernel_rfl) (by kernel_rfl)
end Go.Proofs.YtbhhboiofepnhaaDoor
