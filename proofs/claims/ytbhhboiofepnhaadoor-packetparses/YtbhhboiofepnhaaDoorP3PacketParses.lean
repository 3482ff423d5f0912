/- Texts of Vz Xq Xr Vo Xt Opn Open11 Door11, joined. -/
import Derived.Test.YtbhhboiofepnhaaDoorP2PacketParses
import Derived.Test.YtbhhboiofepnhaaDoorP1PacketParses
import Derived.ProofKit
import Derived.LaidMore
import Derived.OpenShut
import Derived.SizedLaws
import Derived.Deep.Strs
import Derived.Stop.Joined
import Derived.Test.YtbhhboiofepnhaaDoorRows
import Derived.JoinedCond
import Derived.Carry
namespace Go.Proofs.YtbhhboiofepnhaaDoor
open Go.RowKit

/-- One of two. -/
def pk2 {α : Type} (a b : α) : Nat → α
  | 0 => a
  | _ => b
theorem tot2 (a b : Nat) : tot (pk2 a b) 2 = a + b := by show 0 + a + b = _; omega
theorem catIn2 {w : World} (C : Nat) (p1 p2 : Option Addr) (l1 l2 c1 c2 : Nat) (z1 z2 : Nat → Int) (t : TypeId) (hC : C = w.heap.size) (h1 : Src w p1 l1 z1) (h2 : Src w p2 l2 z2) (n1 : p1 = none → c1 = 0) (n2 : p2 = none → c2 = 0) :
    CatIn (w.alloc (.cells #[.slice p1 l1 c1, .slice p2 l2 c2] t)) ⟨C, 0, none⟩ 2 (pk2 p1 p2) (pk2 l1 l2) (pk2 c1 c2) (pk2 z1 z2) := by
  have hb := (Below.refl w.heap.size w).alloc (Nat.le_refl _) (.cells #[.slice p1 l1 c1, .slice p2 l2 c2] t)
  refine ⟨fun j hj => ?_, fun j hj => ?_, fun j hj => ?_⟩
  · rw [Addr.add_mid, World.cell?_alloc_at _ _ _ _ hC]
    match j, hj with
    | 0, _ | 1, _ => rfl
    | _ + 2, h => omega
  · match j, hj with
    | 0, _ => exact h1.below hb (Nat.le_refl _)
    | 1, _ => exact h2.below hb (Nat.le_refl _)
    | _ + 2, h => omega
  · match j, hj with
    | 0, _ => exact n1
    | 1, _ => exact n2
    | _ + 2, h => omega
theorem catz2 (a b : Nat) (z1 z2 : Nat → Int) (j : Nat) : catz (pk2 a b) (pk2 z1 z2) 2 j = app z1 a z2 j := by
  show app (app (fun _ => 0) 0 z1) (0 + a) z2 j = app z1 a z2 j
  unfold app
  rw [Nat.zero_add]
  by_cases h : j < a
  · rw [if_pos h, if_pos h, if_neg (Nat.not_lt_zero j), Nat.sub_zero]
  · rw [if_neg h, if_neg h]
theorem shl_bytes (s : Nat) (h : s ≤ 7) : IntKind.i64.wrap (1 * 2 ^ min ((8 * s : Nat) : Int).toNat IntKind.i64.bits) = ((256 ^ s : Nat) : Int) := by
  have : s = 0 ∨ s = 1 ∨ s = 2 ∨ s = 3 ∨ s = 4 ∨ s = 5 ∨ s = 6 ∨ s = 7 := by omega
  rcases this with rfl | rfl | rfl | rfl | rfl | rfl | rfl | rfl <;> rfl
set_option maxRecDepth 10000 in
set_option maxHeartbeats 8000000 in
theorem vputfixed_any : PutFixedOK := by
  intro sp len cap hlen hcap hnil z hz n hn s hs2 w hs
  go_enter Tryd.func29, Tryd.ntmps29
  by_cases hsz' : 1 ≤ s ∧ s ≤ 7
  · have hsz : decide (1 ≤ s ∧ s ≤ 7) = true := decide_eq_true hsz'
    by_cases h1 : n < 0
    · have hb : fbad n s := by unfold fbad; omega
      have e1 : fE n s = 1 := by unfold fE; rw [if_pos hb]
      have e2 : fL len n s = 0 := by unfold fL; rw [if_pos hb]
      go_upto_region 1 with fail
      refine wp_region_list ?_
      refine pureL (.int .i64 s) rfl (fun _ => by kernel_rfl) ?_
      simp only [aP, lI, l0, lS]
      refine callL rfl (fun _ => by kernel_rfl) (isSize_any s _) ?_
      rintro e w1 ⟨rfl, hB⟩
      rw [hsz]
      refine ⟨_, rfl, ?_⟩
      simp only [aP, lI, l0, lS]
      refine pureL (.bool false) rfl (fun _ => by kernel_rfl) ?_
      simp only [aP, lI, l0, lS]
      refine pureL (.bool false) rfl (fun _ => by kernel_rfl) ?_
      simp only [aP, lI, l0, lS]
      refine pureL (.int .i64 n) rfl (fun _ => by kernel_rfl) ?_
      simp only [aP, lI, l0, lS]
      refine pureL (.bool true) rfl (fun w => lssI .i64 _ _ _ _ _ _ rfl rfl rfl true (decide_eq_true h1) w) ?_
      simp only [aP, lI, l0, lS]
      refine pureL (.bool true) rfl (fun _ => by kernel_rfl) ?_
      simp only [aP, lI, l0, lS]
      refine pureL (.bool true) rfl (fun _ => by kernel_rfl) ?_
      simp only [aP, lI, l0, lS]
      refine skipL (by kernel_rfl) ?_
      simp only [aP, lI, l0, lS]
      refine skipL (by kernel_rfl) ?_
      simp only [aP, lI, l0, lS]
      refine skipL (by kernel_rfl) ?_
      simp only [aP, lI, l0, lS]
      refine skipL (by kernel_rfl) ?_
      simp only [aP, lI, l0, lS]
      refine skipL (by kernel_rfl) ?_
      simp only [aP, lI, l0, lS]
      refine pureL (.bool true) rfl (fun _ => by kernel_rfl) ?_
      simp only [aP, lI, l0, lS]
      show Exit.then _ _ _ _ _
      go_wp2
      go_ret2
      exact ⟨⟨_, by rw [e1]; rfl, by rw [e2]; exact World.ownsRow_nil _ _ _ 1⟩, hB⟩
    · obtain ⟨n, rfl⟩ := Int.eq_ofNat_of_zero_le (show 0 ≤ n by omega)
      obtain ⟨s, rfl⟩ := Int.eq_ofNat_of_zero_le (show 0 ≤ s by omega)
      have hpw : (256 : Int) ^ ((s : Nat) : Int).toNat = ((256 ^ s : Nat) : Int) := by rw [Int.toNat_natCast]; exact (Int.natCast_pow 256 s).symm
      by_cases h2 : 256 ^ s ≤ n
      · have hb : fbad (n : Int) (s : Int) := by unfold fbad; rw [hpw]; omega
        have e1 : fE (n : Int) (s : Int) = 1 := by unfold fE; rw [if_pos hb]
        have e2 : fL len (n : Int) (s : Int) = 0 := by unfold fL; rw [if_pos hb]
        go_upto_region 1 with fail
        refine wp_region_list ?_
        refine pureL (.int .i64 (s : Int)) rfl (fun _ => by kernel_rfl) ?_
        simp only [aP, lI, l0, lS]
        refine callL rfl (fun _ => by kernel_rfl) (isSize_any s _) ?_
        rintro e w1 ⟨rfl, hB⟩
        rw [hsz]
        refine ⟨_, rfl, ?_⟩
        simp only [aP, lI, l0, lS]
        refine pureL (.bool false) rfl (fun _ => by kernel_rfl) ?_
        simp only [aP, lI, l0, lS]
        refine pureL (.bool false) rfl (fun _ => by kernel_rfl) ?_
        simp only [aP, lI, l0, lS]
        refine pureL (.int .i64 (n : Int)) rfl (fun _ => by kernel_rfl) ?_
        simp only [aP, lI, l0, lS]
        refine pureL (.bool false) rfl (fun w => lssI .i64 _ _ _ _ _ _ rfl rfl rfl false (decide_eq_false (by omega)) w) ?_
        simp only [aP, lI, l0, lS]
        refine pureL (.bool false) rfl (fun _ => by kernel_rfl) ?_
        simp only [aP, lI, l0, lS]
        refine pureL (.bool false) rfl (fun _ => by kernel_rfl) ?_
        simp only [aP, lI, l0, lS]
        refine pureL (.int .i64 (n : Int)) rfl (fun _ => by kernel_rfl) ?_
        simp only [aP, lI, l0, lS]
        refine pureL (.int .i64 (s : Int)) rfl (fun _ => by kernel_rfl) ?_
        simp only [aP, lI, l0, lS]
        refine pureL (.int .i64 ((8 * s : Nat) : Int)) rfl (fun w => mulI .i64 _ _ _ _ _ _ _ rfl rfl rfl (by rw [IntKind.wrap_i64]; omega) w) ?_
        simp only [aP, lI, l0, lS]
        refine pureL (.int .i64 ((256 ^ s : Nat) : Int)) rfl (fun w => shlI .i64 .i64 _ _ _ _ _ _ _ rfl rfl rfl (by omega) (shl_bytes s (by omega)) w) ?_
        simp only [aP, lI, l0, lS]
        refine pureL (.bool true) rfl (fun w => geqI .i64 _ _ _ _ _ _ rfl rfl rfl true (decide_eq_true (by omega)) w) ?_
        simp only [aP, lI, l0, lS]
        refine pureL (.bool true) rfl (fun _ => by kernel_rfl) ?_
        simp only [aP, lI, l0, lS]
        show Exit.then _ _ _ _ _
        go_wp2
        go_ret2
        exact ⟨⟨_, by rw [e1]; rfl, by rw [e2]; exact World.ownsRow_nil _ _ _ 1⟩, hB⟩
      · have hb : ¬ fbad (n : Int) (s : Int) := by unfold fbad; rw [hpw]; omega
        have e1 : fE (n : Int) (s : Int) = 0 := by unfold fE; rw [if_neg hb]
        have e2 : fL len (n : Int) (s : Int) = len + s := by unfold fL; rw [if_neg hb, Int.toNat_natCast]
        have e3 : fput len z (n : Int) (s : Int) = app z len (fby n s) := rfl
        go_upto_region 1 with fail
        refine wp_region_list ?_
        refine pureL (.int .i64 (s : Int)) rfl (fun _ => by kernel_rfl) ?_
        simp only [aP, lI, l0, lS]
        refine callL rfl (fun _ => by kernel_rfl) (isSize_any s _) ?_
        rintro e w1 ⟨rfl, hB⟩
        rw [hsz]
        refine ⟨_, rfl, ?_⟩
        simp only [aP, lI, l0, lS]
        refine pureL (.bool false) rfl (fun _ => by kernel_rfl) ?_
        simp only [aP, lI, l0, lS]
        refine pureL (.bool false) rfl (fun _ => by kernel_rfl) ?_
        simp only [aP, lI, l0, lS]
        refine pureL (.int .i64 (n : Int)) rfl (fun _ => by kernel_rfl) ?_
        simp only [aP, lI, l0, lS]
        refine pureL (.bool false) rfl (fun w => lssI .i64 _ _ _ _ _ _ rfl rfl rfl false (decide_eq_false (by omega)) w) ?_
        simp only [aP, lI, l0, lS]
        refine pureL (.bool false) rfl (fun _ => by kernel_rfl) ?_
        simp only [aP, lI, l0, lS]
        refine pureL (.bool false) rfl (fun _ => by kernel_rfl) ?_
        simp only [aP, lI, l0, lS]
        refine pureL (.int .i64 (n : Int)) rfl (fun _ => by kernel_rfl) ?_
        simp only [aP, lI, l0, lS]
        refine pureL (.int .i64 (s : Int)) rfl (fun _ => by kernel_rfl) ?_
        simp only [aP, lI, l0, lS]
        refine pureL (.int .i64 ((8 * s : Nat) : Int)) rfl (fun w => mulI .i64 _ _ _ _ _ _ _ rfl rfl rfl (by rw [IntKind.wrap_i64]; omega) w) ?_
        simp only [aP, lI, l0, lS]
        refine pureL (.int .i64 ((256 ^ s : Nat) : Int)) rfl (fun w => shlI .i64 .i64 _ _ _ _ _ _ _ rfl rfl rfl (by omega) (shl_bytes s (by omega)) w) ?_
        simp only [aP, lI, l0, lS]
        refine pureL (.bool false) rfl (fun w => geqI .i64 _ _ _ _ _ _ rfl rfl rfl false (decide_eq_false (by omega)) w) ?_
        simp only [aP, lI, l0, lS]
        refine pureL (.bool false) rfl (fun _ => by kernel_rfl) ?_
        simp only [aP, lI, l0, lS]
        show Exit.then _ _ _ _ _
        go_upto_region 3 with fail
        refine wp_region_list ?_
        refine pureL (.slice sp len cap) rfl (fun _ => by kernel_rfl) ?_
        simp only [aP, lI, l0, lS]
        refine pureL (.int .i64 (n : Int)) rfl (fun _ => by kernel_rfl) ?_
        simp only [aP, lI, l0, lS]
        refine pureL (.int .i64 (s : Int)) rfl (fun _ => by kernel_rfl) ?_
        simp only [aP, lI, l0, lS]
        refine callL rfl (fun _ => by kernel_rfl) (lowest_any n s (by omega) _) ?_
        rintro e w2 ⟨rfl, R⟩
        have hS : Src w2 (some ⟨w1.heap.size, 8 - s, none⟩) s (fby n s) := ((R.get _ _ _ _ List.mem_cons_self).src (8 - s) s (by omega)).congr fun j hj => fby_tail n s j (by omega) hj
        replace hB := hB.trans (R.below.mono hB.size)
        clear R
        generalize w1.heap.size = B at *
        refine ⟨_, rfl, ?_⟩
        simp only [aP, lI, l0, lS]
        refine actL (w' := w2.alloc (.cells #[.slice sp len cap, .slice (some ⟨B, 8 - s, none⟩) (s) (s)] 22)) (.slice (some ⟨w2.heap.size, 0, none⟩) 2 2) rfl (by kernel_rfl) ?_
        simp only [aP, lI, l0, lS]
        have HC := catIn2 w2.heap.size sp (some ⟨B, 8 - s, none⟩) len (s) cap (s) z (fby n s) 22 rfl (hs.below hB (Nat.le_refl _)) hS hnil (fun e => by cases e)
        replace hB := hB.alloc hB.size (.cells #[.slice sp len cap, .slice (some ⟨B, 8 - s, none⟩) (s) (s)] 22)
        refine callL rfl (fun _ => by kernel_rfl) (concat_any ⟨w2.heap.size, 0, none⟩ 2 2 _ _ _ _ (by decide) (by rw [tot2]; omega) _ HC) ?_
        rintro e w3 ⟨v, rfl, hO, hb⟩
        rw [tot2] at hO
        have hO2 : Own w3 w.heap.size 5 .u8 (len + s) (app z len (fby n s)) v := (hO.congr fun j _ => catz2 _ _ _ _ j).lower hB.size
        replace hB := hB.trans (hb.mono hB.size)
        clear hO hb HC hS
        refine ⟨_, rfl, ?_⟩
        simp only [aP, lI, l0, lS]
        refine pureL v rfl (fun _ => by kernel_rfl) ?_
        simp only [aP, lI, l0, lS]
        refine pureL (.int .i64 0) rfl (fun _ => by kernel_rfl) ?_
        simp only [aP, lI, l0, lS]
        show Exit.then _ _ _ _ _
        go_wp2
        go_ret2
        exact ⟨⟨v, by rw [e1]; rfl, by rw [e2, e3]; exact hO2⟩, hB⟩
  · have hsz : decide (1 ≤ s ∧ s ≤ 7) = false := decide_eq_false hsz'
    have hb : fbad n s := by unfold fbad; omega
    have e1 : fE n s = 1 := by unfold fE; rw [if_pos hb]
    have e2 : fL len n s = 0 := by unfold fL; rw [if_pos hb]
    go_upto_region 1 with fail
    refine wp_region_list ?_
    refine pureL (.int .i64 s) rfl (fun _ => by kernel_rfl) ?_
    simp only [aP, lI, l0, lS]
    refine callL rfl (fun _ => by kernel_rfl) (isSize_any s _) ?_
    rintro e w1 ⟨rfl, hB⟩
    rw [hsz]
    refine ⟨_, rfl, ?_⟩
    simp only [aP, lI, l0, lS]
    refine pureL (.bool true) rfl (fun _ => by kernel_rfl) ?_
    simp only [aP, lI, l0, lS]
    refine pureL (.bool true) rfl (fun _ => by kernel_rfl) ?_
    simp only [aP, lI, l0, lS]
    refine skipL (by kernel_rfl) ?_
    simp only [aP, lI, l0, lS]
    refine skipL (by kernel_rfl) ?_
    simp only [aP, lI, l0, lS]
    refine pureL (.bool true) rfl (fun _ => by kernel_rfl) ?_
    simp only [aP, lI, l0, lS]
    refine pureL (.bool true) rfl (fun _ => by kernel_rfl) ?_
    simp only [aP, lI, l0, lS]
    refine skipL (by kernel_rfl) ?_
    simp only [aP, lI, l0, lS]
    refine skipL (by kernel_rfl) ?_
    simp only [aP, lI, l0, lS]
    refine skipL (by kernel_rfl) ?_
    simp only [aP, lI, l0, lS]
    refine skipL (by kernel_rfl) ?_
    simp only [aP, lI, l0, lS]
    refine skipL (by kernel_rfl) ?_
    simp only [aP, lI, l0, lS]
    refine pureL (.bool true) rfl (fun _ => by kernel_rfl) ?_
    simp only [aP, lI, l0, lS]
    show Exit.then _ _ _ _ _
    go_wp2
    go_ret2
    exact ⟨⟨_, by rw [e1]; rfl, by rw [e2]; exact World.ownsRow_nil _ _ _ 1⟩, hB⟩

end Go.Proofs.YtbhhboiofepnhaaDoor

namespace Go.Proofs.YtbhhboiofepnhaaDoor
open Go.RowKit

/-- A number's bytes laid behind others. -/
theorem vputfixed_good (sp : Option Addr) (cap : Nat) (l : List Int) (hlen : l.length ≤ 140737488351232) (hcap : l.length ≤ cap) (hnil : sp = none → cap = 0) (hb : Byts l) (n : Int) (s : Nat) (hs1 : 1 ≤ s) (hs7 : s ≤ 7) (h0 : 0 ≤ n) (hn : n.toNat < 256 ^ s) (w : World) (hs : Src w sp l.length (bl l)) :
    Calls Tryd.prog 29 #[.slice sp l.length cap, .int .i64 n, .int .i64 (s : Int)] w fun e w' => ∃ v, e = .returned (.tuple #[v, .int .i64 0]) ∧ OwnL w' w.heap.size (l ++ flst n.toNat s) v ∧ Below w.heap.size w w' := by
  have h7 : (256 : Nat) ^ s ≤ 256 ^ 7 := Nat.pow_le_pow_right (by decide) hs7
  have hc : ((256 ^ s : Nat) : Int) = (256 : Int) ^ s := by simp
  have hq : ¬ fbad n (s : Int) := by unfold fbad; rw [Int.toNat_natCast, ← hc]; omega
  refine (vputfixed_any sp l.length cap hlen hcap hnil (bl l) hb.bl n (by omega) s (by omega) w hs).mono fun e w' h => ?_
  obtain ⟨⟨v, rfl, O⟩, l1⟩ := h
  refine ⟨v, by unfold fE; rw [if_neg hq], ?_, l1⟩
  unfold fL fput at O
  rw [if_neg hq, Int.toNat_natCast] at O
  exact OwnL.fix O
def pnum (p : Pkt) : Nat → Int
  | 0 => p.kind
  | 1 => p.role
  | 2 => p.path
  | 3 => p.epo
  | _ => p.ctr
def pszn : Nat → Nat
  | 3 => 2
  | 4 => 6
  | _ => 1
/-- A head's bytes, number by number. -/
def hpre (p : Pkt) : Nat → List Int
  | 0 => []
  | j + 1 => hpre p j ++ flst (pnum p j).toNat (pszn j)
theorem flst_one {n : Int} (h : 0 ≤ n ∧ n < 256) : flst n.toNat 1 = [n] := by
  show [fby n.toNat 1 0] = [n]
  unfold fby
  congr 1
  simp
  omega
theorem hpre_end {p : Pkt} (hk : p.kind = 3) (hR : Rec p) : hpre p 5 = hdr p := by
  obtain ⟨r1, r2, _⟩ := hR
  show ((((([] ++ flst p.kind.toNat 1) ++ flst p.role.toNat 1) ++ flst p.path.toNat 1) ++ flst p.epo.toNat 2) ++ flst p.ctr.toNat 6) = _
  rw [hk, flst_one (n := 3) (by decide), flst_one (n := p.role) (by omega), flst_one (n := p.path) (by omega)]
  rfl
theorem hpre_byts (p : Pkt) : ∀ j, Byts (hpre p j)
  | 0 => fun x hx => by cases hx
  | j + 1 => (hpre_byts p j).app (flst_byts _ _)
theorem hpre_len (p : Pkt) : ∀ j, (hpre p j).length ≤ 6 * j
  | 0 => Nat.le_refl _
  | j + 1 => by
    have h1 := hpre_len p j
    have h2 : pszn j ≤ 6 := by unfold pszn; split <;> omega
    show (hpre p j ++ _).length ≤ _
    rw [List.length_append, flst_length]
    omega
theorem Mm.newL {w0 w : World} {l : List (Nat × List Value)} (h : Mm w0 l w) {b : Nat} {cs : List Value} (hp : (b, cs) ∈ l) (bs : List Int) (hc : cs = bs.map (Value.int .u8)) : NewL w w0.heap.size bs (.slice (some ⟨b, 0, none⟩) bs.length bs.length) :=
  ⟨_, _, rfl, Nat.le_refl _, fun e => (by cases e), h.src hp bs hc, fun a e => by cases e; exact ⟨h.lo hp, h.lt hp⟩⟩

set_option maxRecDepth 10000 in
set_option maxHeartbeats 32000000 in
theorem phead_any (p : Pkt) (bp : Option Addr) (bc : Nat) (w : World) (hg : PG w) (hk : p.kind = 3) (hR : Rec p) : Calls Tryd.prog 22 #[.agg (pcs p bp bc).toArray] w fun e w' => e = .returned (.agg (row .u8 11 (bl (hdr p))).toArray) ∧ Below w.heap.size w w' := by
  have M := Mm.init w
  have hrec := hR
  obtain ⟨r1, r2, r3, r4, _⟩ := hrec
  unfold pcs
  go_enter Tryd.func22, Tryd.ntmps22
  go_upto_region 0 with fail
  refine wp_region_list ?_
  refine actL (w' := w.alloc (.cells #[.int .i64 p.kind, .int .i64 p.role, .int .i64 p.path, .int .i64 p.epo, .int .i64 p.ctr, .slice bp p.body.length bc] 24)) (.pointer (some ⟨w.heap.size, 0, none⟩)) rfl (by kernel_rfl) ?_
  simp only [aP, lI, l0, lS]
  have hB_B1 : w.heap.size ≤ w.heap.size := M.below.size
  replace M := M.box #[.int .i64 p.kind, .int .i64 p.role, .int .i64 p.path, .int .i64 p.epo, .int .i64 p.ctr, .slice bp p.body.length bc] 24 w.heap.size rfl
  generalize w.alloc (.cells #[.int .i64 p.kind, .int .i64 p.role, .int .i64 p.path, .int .i64 p.epo, .int .i64 p.ctr, .slice bp p.body.length bc] 24) = w1 at M  ⊢
  generalize eB : w.heap.size = B1 at M hB_B1  ⊢
  have hE_B1 : w.heap.size ≤ B1 := Nat.le_of_eq eB
  have hF_B1 : B1 ≤ w.heap.size := Nat.le_of_eq eB.symm
  clear eB
  replace M : Mm w ([(B1, [.int .i64 p.kind, .int .i64 p.role, .int .i64 p.path, .int .i64 p.epo, .int .i64 p.ctr, .slice bp p.body.length bc])]) w1 := M
  refine actL (w' := w1.alloc (.cells #[.int .u8 0, .int .u8 0, .int .u8 0, .int .u8 0, .int .u8 0, .int .u8 0, .int .u8 0, .int .u8 0, .int .u8 0, .int .u8 0, .int .u8 0] 40)) (.pointer (some ⟨w1.heap.size, 0, none⟩)) rfl (by kernel_rfl) ?_
  simp only [aP, lI, l0, lS]
  have hB_B2 : w.heap.size ≤ w1.heap.size := M.below.size
  replace M := M.box #[.int .u8 0, .int .u8 0, .int .u8 0, .int .u8 0, .int .u8 0, .int .u8 0, .int .u8 0, .int .u8 0, .int .u8 0, .int .u8 0, .int .u8 0] 40 w1.heap.size rfl
  generalize w1.alloc (.cells #[.int .u8 0, .int .u8 0, .int .u8 0, .int .u8 0, .int .u8 0, .int .u8 0, .int .u8 0, .int .u8 0, .int .u8 0, .int .u8 0, .int .u8 0] 40) = w2 at M  ⊢
  generalize eB : w1.heap.size = B2 at M hB_B2  ⊢
  have hE_B2 : w1.heap.size ≤ B2 := Nat.le_of_eq eB
  have hF_B2 : B2 ≤ w1.heap.size := Nat.le_of_eq eB.symm
  clear eB
  replace M : Mm w ([(B2, [.int .u8 0, .int .u8 0, .int .u8 0, .int .u8 0, .int .u8 0, .int .u8 0, .int .u8 0, .int .u8 0, .int .u8 0, .int .u8 0, .int .u8 0]), (B1, [.int .i64 p.kind, .int .i64 p.role, .int .i64 p.path, .int .i64 p.epo, .int .i64 p.ctr, .slice bp p.body.length bc])]) w2 := M
  first | show Exit.then _ _ _ _ _ | show Exit.inBlock _ _ _ _ _
  go_upto_region 1 with fail
  refine wp_region_list ?_
  refine readL (.slice none 0 0) rfl (by kernel_rfl) ?_
  simp only [aP, lI, l0, lS]
  first | show Exit.then _ _ _ _ _ | show Exit.inBlock _ _ _ _ _
  go_upto_region 2 with fail
  refine wp_region_list ?_
  refine readL (.pointer (some ⟨B1, 0, none⟩)) rfl (by kernel_rfl) ?_
  simp only [aP, lI, l0, lS]
  refine readL (.int .i64 p.kind) rfl (load1 3 _ ⟨B1, 0, none⟩ _ rfl rfl (fun _ => by kernel_rfl) (M.get (List.mem_cons_of_mem _ List.mem_cons_self) 0 _ rfl)) ?_
  simp only [aP, lI, l0, lS]
  refine readL (.pointer (some ⟨B1, 1, none⟩)) rfl (by kernel_rfl) ?_
  simp only [aP, lI, l0, lS]
  refine readL (.int .i64 p.role) rfl (load1 3 _ ⟨B1, 1, none⟩ _ rfl rfl (fun _ => by kernel_rfl) (M.get (List.mem_cons_of_mem _ List.mem_cons_self) 1 _ rfl)) ?_
  simp only [aP, lI, l0, lS]
  refine readL (.pointer (some ⟨B1, 2, none⟩)) rfl (by kernel_rfl) ?_
  simp only [aP, lI, l0, lS]
  refine readL (.int .i64 p.path) rfl (load1 3 _ ⟨B1, 2, none⟩ _ rfl rfl (fun _ => by kernel_rfl) (M.get (List.mem_cons_of_mem _ List.mem_cons_self) 2 _ rfl)) ?_
  simp only [aP, lI, l0, lS]
  refine readL (.pointer (some ⟨B1, 3, none⟩)) rfl (by kernel_rfl) ?_
  simp only [aP, lI, l0, lS]
  refine readL (.int .i64 p.epo) rfl (load1 3 _ ⟨B1, 3, none⟩ _ rfl rfl (fun _ => by kernel_rfl) (M.get (List.mem_cons_of_mem _ List.mem_cons_self) 3 _ rfl)) ?_
  simp only [aP, lI, l0, lS]
  refine readL (.pointer (some ⟨B1, 4, none⟩)) rfl (by kernel_rfl) ?_
  simp only [aP, lI, l0, lS]
  refine readL (.int .i64 p.ctr) rfl (load1 3 _ ⟨B1, 4, none⟩ _ rfl rfl (fun _ => by kernel_rfl) (M.get (List.mem_cons_of_mem _ List.mem_cons_self) 4 _ rfl)) ?_
  simp only [aP, lI, l0, lS]
  refine readL (.agg #[.int .i64 p.kind, .int .i64 p.role, .int .i64 p.path, .int .i64 p.epo, .int .i64 p.ctr]) rfl (by kernel_rfl) ?_
  simp only [aP, lI, l0, lS]
  refine readL (.int .i64 0) rfl (by kernel_rfl) ?_
  simp only [aP, lI, l0, lS]
  first | show Exit.then _ _ _ _ _ | show Exit.inBlock _ _ _ _ _
  have HI := show Hid _ from (show Mm w [(B2, [.int .u8 0, .int .u8 0, .int .u8 0, .int .u8 0, .int .u8 0, .int .u8 0, .int .u8 0, .int .u8 0, .int .u8 0, .int .u8 0, .int .u8 0]), (B1, [.int .i64 p.kind, .int .i64 p.role, .int .i64 p.path, .int .i64 p.epo, .int .i64 p.ctr, .slice bp p.body.length bc])] w2 from M)
  clear M
  go_wp2
  go_loopw [3, 18] (fun v i w' => ∃ j : Nat, j ≤ 5 ∧ i = .int .i64 (j : Int) ∧ Mm w [(B2, [.int .u8 0, .int .u8 0, .int .u8 0, .int .u8 0, .int .u8 0, .int .u8 0, .int .u8 0, .int .u8 0, .int .u8 0, .int .u8 0, .int .u8 0]), (B1, [.int .i64 p.kind, .int .i64 p.role, .int .i64 p.path, .int .i64 p.epo, .int .i64 p.ctr, .slice bp p.body.length bc])] w' ∧ OwnL w' w.heap.size (hpre p j) v) (fun _ i _ => 5 - (intOf i).toNat)
  case atStart => exact ⟨0, Nat.zero_le _, rfl, HI.out, World.ownsRow_nil _ _ _ 1⟩
  case round =>
    clear HI
    obtain ⟨j, hj, rfl, M, O_1⟩ := hrel
    obtain ⟨p1, c1, rfl, _, _⟩ := O_1.bytes
    have hj6 : j = 0 ∨ j = 1 ∨ j = 2 ∨ j = 3 ∨ j = 4 ∨ j = 5 := by omega
    clear hj
    rcases hj6 with rfl | rfl | rfl | rfl | rfl | rfl
    · go_upto_region 3 with fail
      refine wp_region_list ?_
      refine readL (.bool true) rfl (lssI .i64 _ _ _ _ _ _ rfl rfl rfl true (by decide) _) ?_
      simp only [aP, lI, l0, lS]
      first | show Exit.then _ _ _ _ _ | show Exit.inBlock _ _ _ _ _
      go_upto_region 4 with fail
      refine wp_region_list ?_
      refine readL (.int .i64 ((0 : Nat) : Int)) rfl (by kernel_rfl) ?_
      simp only [aP, lI, l0, lS]
      refine readL (.int .i64 p.kind) rfl (by kernel_rfl) ?_
      simp only [aP, lI, l0, lS]
      refine readL (.int .i64 ((0 : Nat) : Int)) rfl (by kernel_rfl) ?_
      simp only [aP, lI, l0, lS]
      refine readL (.int .i64 p.kind) rfl (by kernel_rfl) ?_
      simp only [aP, lI, l0, lS]
      first | show Exit.then _ _ _ _ _ | show Exit.inBlock _ _ _ _ _
      go_upto_region 5 with fail
      refine wp_region_list ?_
      refine readL (.slice p1 ((hpre p 0).length) c1) rfl (by kernel_rfl) ?_
      simp only [aP, lI, l0, lS]
      refine readL (.int .i64 p.kind) rfl (by kernel_rfl) ?_
      simp only [aP, lI, l0, lS]
      refine readL (.int .i64 ((0 : Nat) : Int)) rfl (by kernel_rfl) ?_
      simp only [aP, lI, l0, lS]
      refine readL (.pointer (some (⟨0, 0, none⟩ : Addr))) rfl (by kernel_rfl) ?_
      simp only [aP, lI, l0, lS]
      refine readL (.int .i64 ((1 : Nat) : Int)) rfl (load1 3 _ (⟨0, 0, none⟩ : Addr) _ rfl rfl (fun _ => by kernel_rfl) (((hg.mm M).sz 0 (by decide)))) ?_
      simp only [aP, lI, l0, lS]
      refine callL rfl (fun _ => by kernel_rfl) (vputfixed_good p1 c1 (hpre p 0) (Nat.le_trans (hpre_len p 0) (by decide)) O_1.le O_1.nilCap (hpre_byts p 0) p.kind 1 (by decide) (by decide) (by omega) (by omega) _ O_1.src) ?_
      rintro e w3 ⟨v, rfl, O_2, l⟩
      replace O_2 : OwnL w3 w.heap.size (hpre p 1) v := O_2.lower M.below.size
      replace M := M.call l
      clear l O_1
      refine ⟨_, rfl, ?_⟩
      simp only [aP, lI, l0, lS]
      refine readL (.tuple #[v, .int .i64 0]) rfl (by kernel_rfl) ?_
      simp only [aP, lI, l0, lS]
      refine readL (v) rfl (by kernel_rfl) ?_
      simp only [aP, lI, l0, lS]
      refine readL (.int .i64 0) rfl (by kernel_rfl) ?_
      simp only [aP, lI, l0, lS]
      refine readL (v) rfl (by kernel_rfl) ?_
      simp only [aP, lI, l0, lS]
      first | show Exit.then _ _ _ _ _ | show Exit.inBlock _ _ _ _ _
      have HS := show Hid _ from (And.intro M O_2)
      clear M O_2
      go_wp2
      go_roundw
      case rel => first | exact ⟨1, by decide, by go_num, HS.out⟩ | ((repeat apply Exists.intro); refine ⟨⟨1, by decide, ?_, HS.out⟩, rfl⟩ <;> first | rfl | go_num)
      case measure => simp [intOf]
    · go_upto_region 3 with fail
      refine wp_region_list ?_
      refine readL (.bool true) rfl (lssI .i64 _ _ _ _ _ _ rfl rfl rfl true (by decide) _) ?_
      simp only [aP, lI, l0, lS]
      first | show Exit.then _ _ _ _ _ | show Exit.inBlock _ _ _ _ _
      go_upto_region 4 with fail
      refine wp_region_list ?_
      refine readL (.int .i64 ((1 : Nat) : Int)) rfl (by kernel_rfl) ?_
      simp only [aP, lI, l0, lS]
      refine readL (.int .i64 p.role) rfl (by kernel_rfl) ?_
      simp only [aP, lI, l0, lS]
      refine readL (.int .i64 ((1 : Nat) : Int)) rfl (by kernel_rfl) ?_
      simp only [aP, lI, l0, lS]
      refine readL (.int .i64 p.role) rfl (by kernel_rfl) ?_
      simp only [aP, lI, l0, lS]
      first | show Exit.then _ _ _ _ _ | show Exit.inBlock _ _ _ _ _
      go_upto_region 5 with fail
      refine wp_region_list ?_
      refine readL (.slice p1 ((hpre p 1).length) c1) rfl (by kernel_rfl) ?_
      simp only [aP, lI, l0, lS]
      refine readL (.int .i64 p.role) rfl (by kernel_rfl) ?_
      simp only [aP, lI, l0, lS]
      refine readL (.int .i64 ((1 : Nat) : Int)) rfl (by kernel_rfl) ?_
      simp only [aP, lI, l0, lS]
      refine readL (.pointer (some (⟨0, 1, none⟩ : Addr))) rfl (by kernel_rfl) ?_
      simp only [aP, lI, l0, lS]
      refine readL (.int .i64 ((1 : Nat) : Int)) rfl (load1 3 _ (⟨0, 1, none⟩ : Addr) _ rfl rfl (fun _ => by kernel_rfl) (((hg.mm M).sz 1 (by decide)))) ?_
      simp only [aP, lI, l0, lS]
      refine callL rfl (fun _ => by kernel_rfl) (vputfixed_good p1 c1 (hpre p 1) (Nat.le_trans (hpre_len p 1) (by decide)) O_1.le O_1.nilCap (hpre_byts p 1) p.role 1 (by decide) (by decide) (by omega) (by omega) _ O_1.src) ?_
      rintro e w4 ⟨v, rfl, O_2, l⟩
      replace O_2 : OwnL w4 w.heap.size (hpre p 2) v := O_2.lower M.below.size
      replace M := M.call l
      clear l O_1
      refine ⟨_, rfl, ?_⟩
      simp only [aP, lI, l0, lS]
      refine readL (.tuple #[v, .int .i64 0]) rfl (by kernel_rfl) ?_
      simp only [aP, lI, l0, lS]
      refine readL (v) rfl (by kernel_rfl) ?_
      simp only [aP, lI, l0, lS]
      refine readL (.int .i64 0) rfl (by kernel_rfl) ?_
      simp only [aP, lI, l0, lS]
      refine readL (v) rfl (by kernel_rfl) ?_
      simp only [aP, lI, l0, lS]
      first | show Exit.then _ _ _ _ _ | show Exit.inBlock _ _ _ _ _
      have HS := show Hid _ from (And.intro M O_2)
      clear M O_2
      go_wp2
      go_roundw
      case rel => first | exact ⟨2, by decide, by go_num, HS.out⟩ | ((repeat apply Exists.intro); refine ⟨⟨2, by decide, ?_, HS.out⟩, rfl⟩ <;> first | rfl | go_num)
      case measure => simp [intOf]
    · go_upto_region 3 with fail
      refine wp_region_list ?_
      refine readL (.bool true) rfl (lssI .i64 _ _ _ _ _ _ rfl rfl rfl true (by decide) _) ?_
      simp only [aP, lI, l0, lS]
      first | show Exit.then _ _ _ _ _ | show Exit.inBlock _ _ _ _ _
      go_upto_region 4 with fail
      refine wp_region_list ?_
      refine readL (.int .i64 ((2 : Nat) : Int)) rfl (by kernel_rfl) ?_
      simp only [aP, lI, l0, lS]
      refine readL (.int .i64 p.path) rfl (by kernel_rfl) ?_
      simp only [aP, lI, l0, lS]
      refine readL (.int .i64 ((2 : Nat) : Int)) rfl (by kernel_rfl) ?_
      simp only [aP, lI, l0, lS]
      refine readL (.int .i64 p.path) rfl (by kernel_rfl) ?_
      simp only [aP, lI, l0, lS]
      first | show Exit.then _ _ _ _ _ | show Exit.inBlock _ _ _ _ _
      go_upto_region 5 with fail
      refine wp_region_list ?_
      refine readL (.slice p1 ((hpre p 2).length) c1) rfl (by kernel_rfl) ?_
      simp only [aP, lI, l0, lS]
      refine readL (.int .i64 p.path) rfl (by kernel_rfl) ?_
      simp only [aP, lI, l0, lS]
      refine readL (.int .i64 ((2 : Nat) : Int)) rfl (by kernel_rfl) ?_
      simp only [aP, lI, l0, lS]
      refine readL (.pointer (some (⟨0, 2, none⟩ : Addr))) rfl (by kernel_rfl) ?_
      simp only [aP, lI, l0, lS]
      refine readL (.int .i64 ((1 : Nat) : Int)) rfl (load1 3 _ (⟨0, 2, none⟩ : Addr) _ rfl rfl (fun _ => by kernel_rfl) (((hg.mm M).sz 2 (by decide)))) ?_
      simp only [aP, lI, l0, lS]
      refine callL rfl (fun _ => by kernel_rfl) (vputfixed_good p1 c1 (hpre p 2) (Nat.le_trans (hpre_len p 2) (by decide)) O_1.le O_1.nilCap (hpre_byts p 2) p.path 1 (by decide) (by decide) (by omega) (by omega) _ O_1.src) ?_
      rintro e w5 ⟨v, rfl, O_2, l⟩
      replace O_2 : OwnL w5 w.heap.size (hpre p 3) v := O_2.lower M.below.size
      replace M := M.call l
      clear l O_1
      refine ⟨_, rfl, ?_⟩
      simp only [aP, lI, l0, lS]
      refine readL (.tuple #[v, .int .i64 0]) rfl (by kernel_rfl) ?_
      simp only [aP, lI, l0, lS]
      refine readL (v) rfl (by kernel_rfl) ?_
      simp only [aP, lI, l0, lS]
      refine readL (.int .i64 0) rfl (by kernel_rfl) ?_
      simp only [aP, lI, l0, lS]
      refine readL (v) rfl (by kernel_rfl) ?_
      simp only [aP, lI, l0, lS]
      first | show Exit.then _ _ _ _ _ | show Exit.inBlock _ _ _ _ _
      have HS := show Hid _ from (And.intro M O_2)
      clear M O_2
      go_wp2
      go_roundw
      case rel => first | exact ⟨3, by decide, by go_num, HS.out⟩ | ((repeat apply Exists.intro); refine ⟨⟨3, by decide, ?_, HS.out⟩, rfl⟩ <;> first | rfl | go_num)
      case measure => simp [intOf]
    · go_upto_region 3 with fail
      refine wp_region_list ?_
      refine readL (.bool true) rfl (lssI .i64 _ _ _ _ _ _ rfl rfl rfl true (by decide) _) ?_
      simp only [aP, lI, l0, lS]
      first | show Exit.then _ _ _ _ _ | show Exit.inBlock _ _ _ _ _
      go_upto_region 4 with fail
      refine wp_region_list ?_
      refine readL (.int .i64 ((3 : Nat) : Int)) rfl (by kernel_rfl) ?_
      simp only [aP, lI, l0, lS]
      refine readL (.int .i64 p.epo) rfl (by kernel_rfl) ?_
      simp only [aP, lI, l0, lS]
      refine readL (.int .i64 ((3 : Nat) : Int)) rfl (by kernel_rfl) ?_
      simp only [aP, lI, l0, lS]
      refine readL (.int .i64 p.epo) rfl (by kernel_rfl) ?_
      simp only [aP, lI, l0, lS]
      first | show Exit.then _ _ _ _ _ | show Exit.inBlock _ _ _ _ _
      go_upto_region 5 with fail
      refine wp_region_list ?_
      refine readL (.slice p1 ((hpre p 3).length) c1) rfl (by kernel_rfl) ?_
      simp only [aP, lI, l0, lS]
      refine readL (.int .i64 p.epo) rfl (by kernel_rfl) ?_
      simp only [aP, lI, l0, lS]
      refine readL (.int .i64 ((3 : Nat) : Int)) rfl (by kernel_rfl) ?_
      simp only [aP, lI, l0, lS]
      refine readL (.pointer (some (⟨0, 3, none⟩ : Addr))) rfl (by kernel_rfl) ?_
      simp only [aP, lI, l0, lS]
      refine readL (.int .i64 ((2 : Nat) : Int)) rfl (load1 3 _ (⟨0, 3, none⟩ : Addr) _ rfl rfl (fun _ => by kernel_rfl) (((hg.mm M).sz 3 (by decide)))) ?_
      simp only [aP, lI, l0, lS]
      refine callL rfl (fun _ => by kernel_rfl) (vputfixed_good p1 c1 (hpre p 3) (Nat.le_trans (hpre_len p 3) (by decide)) O_1.le O_1.nilCap (hpre_byts p 3) p.epo 2 (by decide) (by decide) (by omega) (by omega) _ O_1.src) ?_
      rintro e w6 ⟨v, rfl, O_2, l⟩
      replace O_2 : OwnL w6 w.heap.size (hpre p 4) v := O_2.lower M.below.size
      replace M := M.call l
      clear l O_1
      refine ⟨_, rfl, ?_⟩
      simp only [aP, lI, l0, lS]
      refine readL (.tuple #[v, .int .i64 0]) rfl (by kernel_rfl) ?_
      simp only [aP, lI, l0, lS]
      refine readL (v) rfl (by kernel_rfl) ?_
      simp only [aP, lI, l0, lS]
      refine readL (.int .i64 0) rfl (by kernel_rfl) ?_
      simp only [aP, lI, l0, lS]
      refine readL (v) rfl (by kernel_rfl) ?_
      simp only [aP, lI, l0, lS]
      first | show Exit.then _ _ _ _ _ | show Exit.inBlock _ _ _ _ _
      have HS := show Hid _ from (And.intro M O_2)
      clear M O_2
      go_wp2
      go_roundw
      case rel => first | exact ⟨4, by decide, by go_num, HS.out⟩ | ((repeat apply Exists.intro); refine ⟨⟨4, by decide, ?_, HS.out⟩, rfl⟩ <;> first | rfl | go_num)
      case measure => simp [intOf]
    · go_upto_region 3 with fail
      refine wp_region_list ?_
      refine readL (.bool true) rfl (lssI .i64 _ _ _ _ _ _ rfl rfl rfl true (by decide) _) ?_
      simp only [aP, lI, l0, lS]
      first | show Exit.then _ _ _ _ _ | show Exit.inBlock _ _ _ _ _
      go_upto_region 4 with fail
      refine wp_region_list ?_
      refine readL (.int .i64 ((4 : Nat) : Int)) rfl (by kernel_rfl) ?_
      simp only [aP, lI, l0, lS]
      refine readL (.int .i64 p.ctr) rfl (by kernel_rfl) ?_
      simp only [aP, lI, l0, lS]
      refine readL (.int .i64 ((4 : Nat) : Int)) rfl (by kernel_rfl) ?_
      simp only [aP, lI, l0, lS]
      refine readL (.int .i64 p.ctr) rfl (by kernel_rfl) ?_
      simp only [aP, lI, l0, lS]
      first | show Exit.then _ _ _ _ _ | show Exit.inBlock _ _ _ _ _
      go_upto_region 5 with fail
      refine wp_region_list ?_
      refine readL (.slice p1 ((hpre p 4).length) c1) rfl (by kernel_rfl) ?_
      simp only [aP, lI, l0, lS]
      refine readL (.int .i64 p.ctr) rfl (by kernel_rfl) ?_
      simp only [aP, lI, l0, lS]
      refine readL (.int .i64 ((4 : Nat) : Int)) rfl (by kernel_rfl) ?_
      simp only [aP, lI, l0, lS]
      refine readL (.pointer (some (⟨0, 4, none⟩ : Addr))) rfl (by kernel_rfl) ?_
      simp only [aP, lI, l0, lS]
      refine readL (.int .i64 ((6 : Nat) : Int)) rfl (load1 3 _ (⟨0, 4, none⟩ : Addr) _ rfl rfl (fun _ => by kernel_rfl) (((hg.mm M).sz 4 (by decide)))) ?_
      simp only [aP, lI, l0, lS]
      refine callL rfl (fun _ => by kernel_rfl) (vputfixed_good p1 c1 (hpre p 4) (Nat.le_trans (hpre_len p 4) (by decide)) O_1.le O_1.nilCap (hpre_byts p 4) p.ctr 6 (by decide) (by decide) (by omega) (by omega) _ O_1.src) ?_
      rintro e w7 ⟨v, rfl, O_2, l⟩
      replace O_2 : OwnL w7 w.heap.size (hpre p 5) v := O_2.lower M.below.size
      replace M := M.call l
      clear l O_1
      refine ⟨_, rfl, ?_⟩
      simp only [aP, lI, l0, lS]
      refine readL (.tuple #[v, .int .i64 0]) rfl (by kernel_rfl) ?_
      simp only [aP, lI, l0, lS]
      refine readL (v) rfl (by kernel_rfl) ?_
      simp only [aP, lI, l0, lS]
      refine readL (.int .i64 0) rfl (by kernel_rfl) ?_
      simp only [aP, lI, l0, lS]
      refine readL (v) rfl (by kernel_rfl) ?_
      simp only [aP, lI, l0, lS]
      first | show Exit.then _ _ _ _ _ | show Exit.inBlock _ _ _ _ _
      have HS := show Hid _ from (And.intro M O_2)
      clear M O_2
      go_wp2
      go_roundw
      case rel => first | exact ⟨5, by decide, by go_num, HS.out⟩ | ((repeat apply Exists.intro); refine ⟨⟨5, by decide, ?_, HS.out⟩, rfl⟩ <;> first | rfl | go_num)
      case measure => simp [intOf]
    · have O_2 : Own wr w.heap.size 5 .u8 11 (bl (hdr p)) (.slice p1 (hpre p 5).length c1) := by have h := O_1; rw [hpre_end hk hR] at h; rw [hpre_end hk hR]; unfold OwnL at h; rw [hdr_length] at h ⊢; exact h
      clear O_1
      rw [hpre_end hk hR, hdr_length] at O_2 ⊢
      go_upto_region 3 with fail
      refine wp_region_list ?_
      refine readL (.bool false) rfl (lssI .i64 _ _ _ _ _ _ rfl rfl rfl false (by decide) _) ?_
      simp only [aP, lI, l0, lS]
      first | show Exit.then _ _ _ _ _ | show Exit.inBlock _ _ _ _ _
      go_upto_region 7 with fail
      refine wp_region_list ?_
      refine actL (w' := wr.alloc (.cells #[.int .u8 0, .int .u8 0, .int .u8 0, .int .u8 0, .int .u8 0, .int .u8 0, .int .u8 0, .int .u8 0, .int .u8 0, .int .u8 0, .int .u8 0] 40)) (.pointer (some ⟨wr.heap.size, 0, none⟩)) rfl (by kernel_rfl) ?_
      simp only [aP, lI, l0, lS]
      have hlb := (Below.refl wr.heap.size wr).alloc (Nat.le_refl _) (.cells #[.int .u8 0, .int .u8 0, .int .u8 0, .int .u8 0, .int .u8 0, .int .u8 0, .int .u8 0, .int .u8 0, .int .u8 0, .int .u8 0, .int .u8 0] 40)
      replace O_2 := O_2.below hlb
      clear hlb
      have hB_B8 : w.heap.size ≤ wr.heap.size := M.below.size
      replace M := M.box #[.int .u8 0, .int .u8 0, .int .u8 0, .int .u8 0, .int .u8 0, .int .u8 0, .int .u8 0, .int .u8 0, .int .u8 0, .int .u8 0, .int .u8 0] 40 wr.heap.size rfl
      generalize wr.alloc (.cells #[.int .u8 0, .int .u8 0, .int .u8 0, .int .u8 0, .int .u8 0, .int .u8 0, .int .u8 0, .int .u8 0, .int .u8 0, .int .u8 0, .int .u8 0] 40) = w8 at M O_2 ⊢
      generalize eB : wr.heap.size = B8 at M hB_B8  ⊢
      have hE_B8 : wr.heap.size ≤ B8 := Nat.le_of_eq eB
      have hF_B8 : B8 ≤ wr.heap.size := Nat.le_of_eq eB.symm
      clear eB
      replace M : Mm w ([(B8, [.int .u8 0, .int .u8 0, .int .u8 0, .int .u8 0, .int .u8 0, .int .u8 0, .int .u8 0, .int .u8 0, .int .u8 0, .int .u8 0, .int .u8 0]), (B2, [.int .u8 0, .int .u8 0, .int .u8 0, .int .u8 0, .int .u8 0, .int .u8 0, .int .u8 0, .int .u8 0, .int .u8 0, .int .u8 0, .int .u8 0]), (B1, [.int .i64 p.kind, .int .i64 p.role, .int .i64 p.path, .int .i64 p.epo, .int .i64 p.ctr, .slice bp p.body.length bc])]) w8 := M
      first | show Exit.then _ _ _ _ _ | show Exit.inBlock _ _ _ _ _
      go_upto_region 8 with fail
      refine wp_region_list ?_
      refine readL (.slice (some ⟨B8, 0, none⟩) 11 11) rfl (by kernel_rfl) ?_
      simp only [aP, lI, l0, lS]
      refine readL (.slice p1 11 c1) rfl (by kernel_rfl) ?_
      simp only [aP, lI, l0, lS]
      refine actL (w' := w8.setCells B8 0 (row .u8 11 (bl (hdr p)))) (.int .i64 11) rfl (run_copy_src _ _ 22 22 5 rfl Tryd.underlying22 (by kernel_rfl) B8 11 11 11 c1 11 p1 (bl (hdr p)) rfl rfl (Nat.le_refl _) (Nat.le_refl _) (M.thereP List.mem_cons_self 0 11 (Nat.le_of_ble_eq_true rfl)) O_2.src) ?_
      simp only [aP, lI, l0, lS]
      replace M : Mm w ([(B8, [.int .u8 (bl (hdr p) 0), .int .u8 (bl (hdr p) 1), .int .u8 (bl (hdr p) 2), .int .u8 (bl (hdr p) 3), .int .u8 (bl (hdr p) 4), .int .u8 (bl (hdr p) 5), .int .u8 (bl (hdr p) 6), .int .u8 (bl (hdr p) 7), .int .u8 (bl (hdr p) 8), .int .u8 (bl (hdr p) 9), .int .u8 (bl (hdr p) 10)]), (B2, [.int .u8 0, .int .u8 0, .int .u8 0, .int .u8 0, .int .u8 0, .int .u8 0, .int .u8 0, .int .u8 0, .int .u8 0, .int .u8 0, .int .u8 0]), (B1, [.int .i64 p.kind, .int .i64 p.role, .int .i64 p.path, .int .i64 p.epo, .int .i64 p.ctr, .slice bp p.body.length bc])]) _ := M.setPart (row .u8 11 (bl (hdr p))) 0 (Nat.le_of_ble_eq_true rfl)
      clear O_2
      generalize w8.setCells B8 0 (row .u8 11 (bl (hdr p))) = w9 at M ⊢
      first | show Exit.then _ _ _ _ _ | show Exit.inBlock _ _ _ _ _
      go_upto_region 9 with fail
      refine wp_region_list ?_
      refine readL (.agg #[.int .u8 (bl (hdr p) 0), .int .u8 (bl (hdr p) 1), .int .u8 (bl (hdr p) 2), .int .u8 (bl (hdr p) 3), .int .u8 (bl (hdr p) 4), .int .u8 (bl (hdr p) 5), .int .u8 (bl (hdr p) 6), .int .u8 (bl (hdr p) 7), .int .u8 (bl (hdr p) 8), .int .u8 (bl (hdr p) 9), .int .u8 (bl (hdr p) 10)]) rfl (loadN 40 _ ⟨B8, 0, none⟩ [.int .u8 (bl (hdr p) 0), .int .u8 (bl (hdr p) 1), .int .u8 (bl (hdr p) 2), .int .u8 (bl (hdr p) 3), .int .u8 (bl (hdr p) 4), .int .u8 (bl (hdr p) 5), .int .u8 (bl (hdr p) 6), .int .u8 (bl (hdr p) 7), .int .u8 (bl (hdr p) 8), .int .u8 (bl (hdr p) 9), .int .u8 (bl (hdr p) 10)] rfl rfl (fun _ => by kernel_rfl) (fun _ => by kernel_rfl) (M.rangeAt List.mem_cons_self)) ?_
      simp only [aP, lI, l0, lS]
      replace M := M.swap
      refine skipOpL rfl (storeP [.int .u8 (bl (hdr p) 0), .int .u8 (bl (hdr p) 1), .int .u8 (bl (hdr p) 2), .int .u8 (bl (hdr p) 3), .int .u8 (bl (hdr p) 4), .int .u8 (bl (hdr p) 5), .int .u8 (bl (hdr p) 6), .int .u8 (bl (hdr p) 7), .int .u8 (bl (hdr p) 8), .int .u8 (bl (hdr p) 9), .int .u8 (bl (hdr p) 10)] B2 0 40 _ _ rfl rfl rfl (M.thereP List.mem_cons_self 0 11 (Nat.le_of_ble_eq_true rfl)) (by kernel_rfl) (List.all_eq_true.1 (rfl : ([.int .u8 (bl (hdr p) 0), .int .u8 (bl (hdr p) 1), .int .u8 (bl (hdr p) 2), .int .u8 (bl (hdr p) 3), .int .u8 (bl (hdr p) 4), .int .u8 (bl (hdr p) 5), .int .u8 (bl (hdr p) 6), .int .u8 (bl (hdr p) 7), .int .u8 (bl (hdr p) 8), .int .u8 (bl (hdr p) 9), .int .u8 (bl (hdr p) 10)] : List Value).all (fun u => u.oneCell') = true))) ?_
      simp only [Act.put]
      replace M := M.setPart [.int .u8 (bl (hdr p) 0), .int .u8 (bl (hdr p) 1), .int .u8 (bl (hdr p) 2), .int .u8 (bl (hdr p) 3), .int .u8 (bl (hdr p) 4), .int .u8 (bl (hdr p) 5), .int .u8 (bl (hdr p) 6), .int .u8 (bl (hdr p) 7), .int .u8 (bl (hdr p) 8), .int .u8 (bl (hdr p) 9), .int .u8 (bl (hdr p) 10)] 0 (Nat.le_of_ble_eq_true rfl)
      generalize w9.setCells B2 0 [.int .u8 (bl (hdr p) 0), .int .u8 (bl (hdr p) 1), .int .u8 (bl (hdr p) 2), .int .u8 (bl (hdr p) 3), .int .u8 (bl (hdr p) 4), .int .u8 (bl (hdr p) 5), .int .u8 (bl (hdr p) 6), .int .u8 (bl (hdr p) 7), .int .u8 (bl (hdr p) 8), .int .u8 (bl (hdr p) 9), .int .u8 (bl (hdr p) 10)] = w10 at M  ⊢
      replace M : Mm w ([(B2, [.int .u8 (bl (hdr p) 0), .int .u8 (bl (hdr p) 1), .int .u8 (bl (hdr p) 2), .int .u8 (bl (hdr p) 3), .int .u8 (bl (hdr p) 4), .int .u8 (bl (hdr p) 5), .int .u8 (bl (hdr p) 6), .int .u8 (bl (hdr p) 7), .int .u8 (bl (hdr p) 8), .int .u8 (bl (hdr p) 9), .int .u8 (bl (hdr p) 10)]), (B8, [.int .u8 (bl (hdr p) 0), .int .u8 (bl (hdr p) 1), .int .u8 (bl (hdr p) 2), .int .u8 (bl (hdr p) 3), .int .u8 (bl (hdr p) 4), .int .u8 (bl (hdr p) 5), .int .u8 (bl (hdr p) 6), .int .u8 (bl (hdr p) 7), .int .u8 (bl (hdr p) 8), .int .u8 (bl (hdr p) 9), .int .u8 (bl (hdr p) 10)]), (B1, [.int .i64 p.kind, .int .i64 p.role, .int .i64 p.path, .int .i64 p.epo, .int .i64 p.ctr, .slice bp p.body.length bc])]) w10 := M
      first | show Exit.then _ _ _ _ _ | show Exit.inBlock _ _ _ _ _
      have c1_ := M.part List.mem_cons_self 0 (row .u8 11 (bl (hdr p))) rfl
      have hM := M.below
      clear M
      go_wp2
      refine bodyPost_ret (v := .agg (row .u8 11 (bl (hdr p))).toArray) (retCell 2 40 ⟨B2, 0, none⟩ (row .u8 11 (bl (hdr p))) rfl rfl (fun _ => by kernel_rfl) (fun _ => by kernel_rfl) c1_) rfl ?_
      exact ⟨rfl, hM⟩

set_option maxRecDepth 10000 in
set_option maxHeartbeats 32000000 in
theorem vhead_any : HeadOK := by
  intro p bp bc w hg hp
  have M := Mm.init w
  have fold : (.agg #[.int .i64 p.kind, .int .i64 p.role, .int .i64 p.path, .int .i64 p.epo, .int .i64 p.ctr, .slice bp p.body.length bc] : Value) = .agg (pcs p bp bc).toArray := rfl
  rw [← fold]
  go_enter Tryd.func11, Tryd.ntmps11
  go_upto_region 0 with fail
  refine wp_region_list ?_
  refine actL (w' := w.alloc (.cells #[.int .i64 p.kind, .int .i64 p.role, .int .i64 p.path, .int .i64 p.epo, .int .i64 p.ctr, .slice bp p.body.length bc] 24)) (.pointer (some ⟨w.heap.size, 0, none⟩)) rfl (by kernel_rfl) ?_
  simp only [aP, lI, l0, lS]
  have hB_B1 : w.heap.size ≤ w.heap.size := M.below.size
  replace M := M.box #[.int .i64 p.kind, .int .i64 p.role, .int .i64 p.path, .int .i64 p.epo, .int .i64 p.ctr, .slice bp p.body.length bc] 24 w.heap.size rfl
  generalize w.alloc (.cells #[.int .i64 p.kind, .int .i64 p.role, .int .i64 p.path, .int .i64 p.epo, .int .i64 p.ctr, .slice bp p.body.length bc] 24) = w1 at M  ⊢
  generalize eB : w.heap.size = B1 at M hB_B1  ⊢
  have hE_B1 : w.heap.size ≤ B1 := Nat.le_of_eq eB
  have hF_B1 : B1 ≤ w.heap.size := Nat.le_of_eq eB.symm
  clear eB
  replace M : Mm w ([(B1, [.int .i64 p.kind, .int .i64 p.role, .int .i64 p.path, .int .i64 p.epo, .int .i64 p.ctr, .slice bp p.body.length bc])]) w1 := M
  refine readL (.slice none 0 0) rfl (by kernel_rfl) ?_
  simp only [aP, lI, l0, lS]
  first | show Exit.then _ _ _ _ _ | show Exit.inBlock _ _ _ _ _
  go_upto_region 1 with fail
  refine wp_region_list ?_
  refine readL (.agg #[.int .i64 p.kind, .int .i64 p.role, .int .i64 p.path, .int .i64 p.epo, .int .i64 p.ctr, .slice bp p.body.length bc]) rfl (loadN 24 _ ⟨B1, 0, none⟩ [.int .i64 p.kind, .int .i64 p.role, .int .i64 p.path, .int .i64 p.epo, .int .i64 p.ctr, .slice bp p.body.length bc] rfl rfl (fun _ => by kernel_rfl) (fun _ => by kernel_rfl) (M.rangeAt List.mem_cons_self)) ?_
  simp only [aP, lI, l0, lS]
  obtain ⟨b1, hb1⟩ : ∃ y_, y_ = (prc p) := ⟨_, rfl⟩
  have hC : Calls Tryd.prog 21 #[.agg #[.int .i64 p.kind, .int .i64 p.role, .int .i64 p.path, .int .i64 p.epo, .int .i64 p.ctr, .slice bp p.body.length bc]] w1 (fun e w' => e = .returned (.bool b1) ∧ Below w1.heap.size w1 w') := (by rw [hb1]; exact prec_any p bp bc _)
  refine callL rfl (fun _ => by kernel_rfl) (hC) ?_
  rintro e w2 ⟨rfl, l⟩
  replace M := M.call l
  refine ⟨_, rfl, ?_⟩
  clear l hC
  simp only [aP, lI, l0, lS]
  obtain ⟨b2, hb2⟩ : ∃ y_, y_ = (!b1) := ⟨_, rfl⟩
  refine readL (.bool b2) rfl (by subst hb2; cases b1 <;> rfl) ?_
  simp only [aP, lI, l0, lS]
  first | show Exit.then _ _ _ _ _ | show Exit.inBlock _ _ _ _ _
  have hb : b2 = !prc p := by rw [hb2, hb1]
  try clear hb1
  try clear hb2
  cases b2 with
  | true =>
    go_upto_region 2 with fail
    refine wp_region_list ?_
    refine readL (.slice none 0 0) rfl (by kernel_rfl) ?_
    simp only [aP, lI, l0, lS]
    first | show Exit.then _ _ _ _ _ | show Exit.inBlock _ _ _ _ _
    have hA : phd p = [] := phd_none (of_decide_eq_false (show prc p = false by simpa using hb))
    replace hA := show Hid _ from hA
    clear hb
    go_wp2
    go_ret
    exact ⟨⟨_, rfl, by rw [hA.out]; exact NewF.nil _ _ _⟩, M.below⟩
  | false =>
    have hk : p.kind = 3 ∧ pok p = true := of_decide_eq_true (show prc p = true by simpa using hb)
    have hR : Rec p := of_decide_eq_true ((pok_rec hk.1).symm.trans hk.2)
    clear hb
    go_upto_region 3 with fail
    refine wp_region_list ?_
    refine readL (.agg #[.int .i64 p.kind, .int .i64 p.role, .int .i64 p.path, .int .i64 p.epo, .int .i64 p.ctr, .slice bp p.body.length bc]) rfl (loadN 24 _ ⟨B1, 0, none⟩ [.int .i64 p.kind, .int .i64 p.role, .int .i64 p.path, .int .i64 p.epo, .int .i64 p.ctr, .slice bp p.body.length bc] rfl rfl (fun _ => by kernel_rfl) (fun _ => by kernel_rfl) (M.rangeAt List.mem_cons_self)) ?_
    simp only [aP, lI, l0, lS]
    have hC : Calls Tryd.prog 22 #[.agg #[.int .i64 p.kind, .int .i64 p.role, .int .i64 p.path, .int .i64 p.epo, .int .i64 p.ctr, .slice bp p.body.length bc]] w2 (fun e w' => e = .returned (.agg #[.int .u8 (bl (hdr p) 0), .int .u8 (bl (hdr p) 1), .int .u8 (bl (hdr p) 2), .int .u8 (bl (hdr p) 3), .int .u8 (bl (hdr p) 4), .int .u8 (bl (hdr p) 5), .int .u8 (bl (hdr p) 6), .int .u8 (bl (hdr p) 7), .int .u8 (bl (hdr p) 8), .int .u8 (bl (hdr p) 9), .int .u8 (bl (hdr p) 10)]) ∧ Below w2.heap.size w2 w') := (phead_any p bp bc _ (hg.mm M) hk.1 hR)
    refine callL rfl (fun _ => by kernel_rfl) (hC) ?_
    rintro e w3 ⟨rfl, l⟩
    replace M := M.call l
    refine ⟨_, rfl, ?_⟩
    clear l hC
    simp only [aP, lI, l0, lS]
    refine actL (w' := w3.alloc (.cells #[.int .u8 0, .int .u8 0, .int .u8 0, .int .u8 0, .int .u8 0, .int .u8 0, .int .u8 0, .int .u8 0, .int .u8 0, .int .u8 0, .int .u8 0] 40)) (.pointer (some ⟨w3.heap.size, 0, none⟩)) rfl (by kernel_rfl) ?_
    simp only [aP, lI, l0, lS]
    have hB_B4 : w.heap.size ≤ w3.heap.size := M.below.size
    replace M := M.box #[.int .u8 0, .int .u8 0, .int .u8 0, .int .u8 0, .int .u8 0, .int .u8 0, .int .u8 0, .int .u8 0, .int .u8 0, .int .u8 0, .int .u8 0] 40 w3.heap.size rfl
    generalize w3.alloc (.cells #[.int .u8 0, .int .u8 0, .int .u8 0, .int .u8 0, .int .u8 0, .int .u8 0, .int .u8 0, .int .u8 0, .int .u8 0, .int .u8 0, .int .u8 0] 40) = w4 at M  ⊢
    generalize eB : w3.heap.size = B4 at M hB_B4  ⊢
    have hE_B4 : w3.heap.size ≤ B4 := Nat.le_of_eq eB
    have hF_B4 : B4 ≤ w3.heap.size := Nat.le_of_eq eB.symm
    clear eB
    replace M : Mm w ([(B4, [.int .u8 0, .int .u8 0, .int .u8 0, .int .u8 0, .int .u8 0, .int .u8 0, .int .u8 0, .int .u8 0, .int .u8 0, .int .u8 0, .int .u8 0]), (B1, [.int .i64 p.kind, .int .i64 p.role, .int .i64 p.path, .int .i64 p.epo, .int .i64 p.ctr, .slice bp p.body.length bc])]) w4 := M
    refine skipOpL rfl (storeP [.int .u8 (bl (hdr p) 0), .int .u8 (bl (hdr p) 1), .int .u8 (bl (hdr p) 2), .int .u8 (bl (hdr p) 3), .int .u8 (bl (hdr p) 4), .int .u8 (bl (hdr p) 5), .int .u8 (bl (hdr p) 6), .int .u8 (bl (hdr p) 7), .int .u8 (bl (hdr p) 8), .int .u8 (bl (hdr p) 9), .int .u8 (bl (hdr p) 10)] B4 0 40 _ _ rfl rfl rfl (M.thereP List.mem_cons_self 0 11 (Nat.le_of_ble_eq_true rfl)) (by kernel_rfl) (List.all_eq_true.1 (rfl : ([.int .u8 (bl (hdr p) 0), .int .u8 (bl (hdr p) 1), .int .u8 (bl (hdr p) 2), .int .u8 (bl (hdr p) 3), .int .u8 (bl (hdr p) 4), .int .u8 (bl (hdr p) 5), .int .u8 (bl (hdr p) 6), .int .u8 (bl (hdr p) 7), .int .u8 (bl (hdr p) 8), .int .u8 (bl (hdr p) 9), .int .u8 (bl (hdr p) 10)] : List Value).all (fun u => u.oneCell') = true))) ?_
    simp only [Act.put]
    replace M := M.setPart [.int .u8 (bl (hdr p) 0), .int .u8 (bl (hdr p) 1), .int .u8 (bl (hdr p) 2), .int .u8 (bl (hdr p) 3), .int .u8 (bl (hdr p) 4), .int .u8 (bl (hdr p) 5), .int .u8 (bl (hdr p) 6), .int .u8 (bl (hdr p) 7), .int .u8 (bl (hdr p) 8), .int .u8 (bl (hdr p) 9), .int .u8 (bl (hdr p) 10)] 0 (Nat.le_of_ble_eq_true rfl)
    generalize w4.setCells B4 0 [.int .u8 (bl (hdr p) 0), .int .u8 (bl (hdr p) 1), .int .u8 (bl (hdr p) 2), .int .u8 (bl (hdr p) 3), .int .u8 (bl (hdr p) 4), .int .u8 (bl (hdr p) 5), .int .u8 (bl (hdr p) 6), .int .u8 (bl (hdr p) 7), .int .u8 (bl (hdr p) 8), .int .u8 (bl (hdr p) 9), .int .u8 (bl (hdr p) 10)] = w5 at M  ⊢
    replace M : Mm w ([(B4, [.int .u8 (bl (hdr p) 0), .int .u8 (bl (hdr p) 1), .int .u8 (bl (hdr p) 2), .int .u8 (bl (hdr p) 3), .int .u8 (bl (hdr p) 4), .int .u8 (bl (hdr p) 5), .int .u8 (bl (hdr p) 6), .int .u8 (bl (hdr p) 7), .int .u8 (bl (hdr p) 8), .int .u8 (bl (hdr p) 9), .int .u8 (bl (hdr p) 10)]), (B1, [.int .i64 p.kind, .int .i64 p.role, .int .i64 p.path, .int .i64 p.epo, .int .i64 p.ctr, .slice bp p.body.length bc])]) w5 := M
    first | show Exit.then _ _ _ _ _ | show Exit.inBlock _ _ _ _ _
    go_upto_region 4 with fail
    refine wp_region_list ?_
    refine readL (.slice (some ⟨B4, 0, none⟩) 11 11) rfl (by kernel_rfl) ?_
    simp only [aP, lI, l0, lS]
    refine readL (.slice (some ⟨B4, 0, none⟩) 11 11) rfl (by kernel_rfl) ?_
    simp only [aP, lI, l0, lS]
    first | show Exit.then _ _ _ _ _ | show Exit.inBlock _ _ _ _ _
    have hN := M.newL List.mem_cons_self (hdr p) rfl
    rw [hdr_length] at hN
    have hA : phd p = hdr p := phd_rec hk.1 hk.2
    have hS := show Hid _ from (And.intro hN hA)
    clear hk hR hN hA
    go_wp2
    go_ret
    exact ⟨⟨_, rfl, by rw [hS.out.2]; exact hS.out.1⟩, M.below⟩
end Go.Proofs.YtbhhboiofepnhaaDoor

namespace Go.Proofs.YtbhhboiofepnhaaDoor
open Go.RowKit

theorem run_copy_at {P : Program} {o : Oper} {a : Act} {w : World} (d s : Operand) (dT sT elem : TypeId) (ho : o.op = .call { callee := .builtin .copy, args := #[d, s], argTypes := #[dT, sT] }) (hu : P.underlying dT = some (.slice elem)) (hsz : (P.info? elem).map (·.size) = some 1)
    (b o' dLen dCap sLen sCap m : Nat) (z : Nat → Int) (ad : Addr) (hd : a.eval d = .slice (some ⟨b, o', none⟩) dLen dCap) (hs : a.eval s = .slice (some ad) sLen sCap) (hmin : m = Nat.min sLen dLen) (hb : w.there b o' m) (hc : Src w (some ad) m z) :
    (execOp a.eval o).run P w = .ok (.value (.int .i64 (m : Int))) (w.setCells b o' (row .u8 m z)) := by
  have hrun := run_copy_cells (P := P) w dT sT o.type elem b o' dLen dCap ad sLen sCap (row .u8 m z) hu hsz (by rw [row_length]; exact hmin) (fun j v hv => by
    obtain ⟨hj, rfl⟩ := row_get_some hv
    obtain ⟨ad', he, hc'⟩ := hc j hj
    injection he with he
    subst he
    exact hc') (fun j hj => by rw [row_length] at hj; exact (hb j hj).1) (fun j hj => by rw [row_length] at hj; exact (hb j hj).2) (row_one .u8 m z)
  rw [row_length] at hrun
  simp [execOp, ho, resolve, invoke, builtin, hd, hs, hrun, Result.andThen, goInt]

set_option maxRecDepth 10000 in
set_option maxHeartbeats 32000000 in
theorem vnonce_any : NonceOK := by
  intro p bp bc w hg hp
  have M := Mm.init w
  have fold : (.agg #[.int .i64 p.kind, .int .i64 p.role, .int .i64 p.path, .int .i64 p.epo, .int .i64 p.ctr, .slice bp p.body.length bc] : Value) = .agg (pcs p bp bc).toArray := rfl
  rw [← fold]
  go_enter Tryd.func13, Tryd.ntmps13
  go_upto_region 0 with fail
  refine wp_region_list ?_
  refine actL (w' := w.alloc (.cells #[.int .i64 p.kind, .int .i64 p.role, .int .i64 p.path, .int .i64 p.epo, .int .i64 p.ctr, .slice bp p.body.length bc] 24)) (.pointer (some ⟨w.heap.size, 0, none⟩)) rfl (by kernel_rfl) ?_
  simp only [aP, lI, l0, lS]
  have hB_B1 : w.heap.size ≤ w.heap.size := M.below.size
  replace M := M.box #[.int .i64 p.kind, .int .i64 p.role, .int .i64 p.path, .int .i64 p.epo, .int .i64 p.ctr, .slice bp p.body.length bc] 24 w.heap.size rfl
  generalize w.alloc (.cells #[.int .i64 p.kind, .int .i64 p.role, .int .i64 p.path, .int .i64 p.epo, .int .i64 p.ctr, .slice bp p.body.length bc] 24) = w1 at M  ⊢
  generalize eB : w.heap.size = B1 at M hB_B1  ⊢
  have hE_B1 : w.heap.size ≤ B1 := Nat.le_of_eq eB
  have hF_B1 : B1 ≤ w.heap.size := Nat.le_of_eq eB.symm
  clear eB
  replace M : Mm w ([(B1, [.int .i64 p.kind, .int .i64 p.role, .int .i64 p.path, .int .i64 p.epo, .int .i64 p.ctr, .slice bp p.body.length bc])]) w1 := M
  refine actL (w' := w1.alloc (.cells #[.int .u8 0, .int .u8 0, .int .u8 0, .int .u8 0, .int .u8 0, .int .u8 0, .int .u8 0, .int .u8 0, .int .u8 0, .int .u8 0, .int .u8 0, .int .u8 0] 31)) (.pointer (some ⟨w1.heap.size, 0, none⟩)) rfl (by kernel_rfl) ?_
  simp only [aP, lI, l0, lS]
  have hB_B2 : w.heap.size ≤ w1.heap.size := M.below.size
  replace M := M.box #[.int .u8 0, .int .u8 0, .int .u8 0, .int .u8 0, .int .u8 0, .int .u8 0, .int .u8 0, .int .u8 0, .int .u8 0, .int .u8 0, .int .u8 0, .int .u8 0] 31 w1.heap.size rfl
  generalize w1.alloc (.cells #[.int .u8 0, .int .u8 0, .int .u8 0, .int .u8 0, .int .u8 0, .int .u8 0, .int .u8 0, .int .u8 0, .int .u8 0, .int .u8 0, .int .u8 0, .int .u8 0] 31) = w2 at M  ⊢
  generalize eB : w1.heap.size = B2 at M hB_B2  ⊢
  have hE_B2 : w1.heap.size ≤ B2 := Nat.le_of_eq eB
  have hF_B2 : B2 ≤ w1.heap.size := Nat.le_of_eq eB.symm
  clear eB
  replace M : Mm w ([(B2, [.int .u8 0, .int .u8 0, .int .u8 0, .int .u8 0, .int .u8 0, .int .u8 0, .int .u8 0, .int .u8 0, .int .u8 0, .int .u8 0, .int .u8 0, .int .u8 0]), (B1, [.int .i64 p.kind, .int .i64 p.role, .int .i64 p.path, .int .i64 p.epo, .int .i64 p.ctr, .slice bp p.body.length bc])]) w2 := M
  first | show Exit.then _ _ _ _ _ | show Exit.inBlock _ _ _ _ _
  go_upto_region 1 with fail
  refine wp_region_list ?_
  refine actL (w' := w2.alloc (.cells #[.int .u8 0, .int .u8 0, .int .u8 0, .int .u8 0, .int .u8 0, .int .u8 0, .int .u8 0, .int .u8 0, .int .u8 0, .int .u8 0, .int .u8 0, .int .u8 0] 31)) (.pointer (some ⟨w2.heap.size, 0, none⟩)) rfl (by kernel_rfl) ?_
  simp only [aP, lI, l0, lS]
  have hB_B3 : w.heap.size ≤ w2.heap.size := M.below.size
  replace M := M.box #[.int .u8 0, .int .u8 0, .int .u8 0, .int .u8 0, .int .u8 0, .int .u8 0, .int .u8 0, .int .u8 0, .int .u8 0, .int .u8 0, .int .u8 0, .int .u8 0] 31 w2.heap.size rfl
  generalize w2.alloc (.cells #[.int .u8 0, .int .u8 0, .int .u8 0, .int .u8 0, .int .u8 0, .int .u8 0, .int .u8 0, .int .u8 0, .int .u8 0, .int .u8 0, .int .u8 0, .int .u8 0] 31) = w3 at M  ⊢
  generalize eB : w2.heap.size = B3 at M hB_B3  ⊢
  have hE_B3 : w2.heap.size ≤ B3 := Nat.le_of_eq eB
  have hF_B3 : B3 ≤ w2.heap.size := Nat.le_of_eq eB.symm
  clear eB
  replace M : Mm w ([(B3, [.int .u8 0, .int .u8 0, .int .u8 0, .int .u8 0, .int .u8 0, .int .u8 0, .int .u8 0, .int .u8 0, .int .u8 0, .int .u8 0, .int .u8 0, .int .u8 0]), (B2, [.int .u8 0, .int .u8 0, .int .u8 0, .int .u8 0, .int .u8 0, .int .u8 0, .int .u8 0, .int .u8 0, .int .u8 0, .int .u8 0, .int .u8 0, .int .u8 0]), (B1, [.int .i64 p.kind, .int .i64 p.role, .int .i64 p.path, .int .i64 p.epo, .int .i64 p.ctr, .slice bp p.body.length bc])]) w3 := M
  first | show Exit.then _ _ _ _ _ | show Exit.inBlock _ _ _ _ _
  go_upto_region 2 with fail
  refine wp_region_list ?_
  refine readL (.agg #[.int .i64 p.kind, .int .i64 p.role, .int .i64 p.path, .int .i64 p.epo, .int .i64 p.ctr, .slice bp p.body.length bc]) rfl (loadN 24 _ ⟨B1, 0, none⟩ [.int .i64 p.kind, .int .i64 p.role, .int .i64 p.path, .int .i64 p.epo, .int .i64 p.ctr, .slice bp p.body.length bc] rfl rfl (fun _ => by kernel_rfl) (fun _ => by kernel_rfl) (M.rangeAt (List.mem_cons_of_mem _ (List.mem_cons_of_mem _ List.mem_cons_self)))) ?_
  simp only [aP, lI, l0, lS]
  obtain ⟨b1, hb1⟩ : ∃ y_, y_ = (prc p) := ⟨_, rfl⟩
  have hC : Calls Tryd.prog 21 #[.agg #[.int .i64 p.kind, .int .i64 p.role, .int .i64 p.path, .int .i64 p.epo, .int .i64 p.ctr, .slice bp p.body.length bc]] w3 (fun e w' => e = .returned (.bool b1) ∧ Below w3.heap.size w3 w') := (by rw [hb1]; exact prec_any p bp bc _)
  refine callL rfl (fun _ => by kernel_rfl) (hC) ?_
  rintro e w4 ⟨rfl, l⟩
  replace M := M.call l
  refine ⟨_, rfl, ?_⟩
  clear l hC
  simp only [aP, lI, l0, lS]
  first | show Exit.then _ _ _ _ _ | show Exit.inBlock _ _ _ _ _
  have hb : b1 = prc p := by rw [hb1]
  try clear hb1
  cases b1 with
  | true =>
    have hk : p.kind = 3 ∧ pok p = true := of_decide_eq_true (show prc p = true by simpa using hb)
    have hR : Rec p := of_decide_eq_true ((pok_rec hk.1).symm.trans hk.2)
    clear hb
    go_upto_region 3 with fail
    refine wp_region_list ?_
    refine readL (.agg #[.int .i64 p.kind, .int .i64 p.role, .int .i64 p.path, .int .i64 p.epo, .int .i64 p.ctr, .slice bp p.body.length bc]) rfl (loadN 24 _ ⟨B1, 0, none⟩ [.int .i64 p.kind, .int .i64 p.role, .int .i64 p.path, .int .i64 p.epo, .int .i64 p.ctr, .slice bp p.body.length bc] rfl rfl (fun _ => by kernel_rfl) (fun _ => by kernel_rfl) (M.rangeAt (List.mem_cons_of_mem _ (List.mem_cons_of_mem _ List.mem_cons_self)))) ?_
    simp only [aP, lI, l0, lS]
    have hC : Calls Tryd.prog 22 #[.agg #[.int .i64 p.kind, .int .i64 p.role, .int .i64 p.path, .int .i64 p.epo, .int .i64 p.ctr, .slice bp p.body.length bc]] w4 (fun e w' => e = .returned (.agg #[.int .u8 (bl (hdr p) 0), .int .u8 (bl (hdr p) 1), .int .u8 (bl (hdr p) 2), .int .u8 (bl (hdr p) 3), .int .u8 (bl (hdr p) 4), .int .u8 (bl (hdr p) 5), .int .u8 (bl (hdr p) 6), .int .u8 (bl (hdr p) 7), .int .u8 (bl (hdr p) 8), .int .u8 (bl (hdr p) 9), .int .u8 (bl (hdr p) 10)]) ∧ Below w4.heap.size w4 w') := (phead_any p bp bc _ (hg.mm M) hk.1 hR)
    refine callL rfl (fun _ => by kernel_rfl) (hC) ?_
    rintro e w5 ⟨rfl, l⟩
    replace M := M.call l
    refine ⟨_, rfl, ?_⟩
    clear l hC
    simp only [aP, lI, l0, lS]
    refine actL (w' := w5.alloc (.cells #[.int .u8 0, .int .u8 0, .int .u8 0, .int .u8 0, .int .u8 0, .int .u8 0, .int .u8 0, .int .u8 0, .int .u8 0, .int .u8 0, .int .u8 0] 40)) (.pointer (some ⟨w5.heap.size, 0, none⟩)) rfl (by kernel_rfl) ?_
    simp only [aP, lI, l0, lS]
    have hB_B6 : w.heap.size ≤ w5.heap.size := M.below.size
    replace M := M.box #[.int .u8 0, .int .u8 0, .int .u8 0, .int .u8 0, .int .u8 0, .int .u8 0, .int .u8 0, .int .u8 0, .int .u8 0, .int .u8 0, .int .u8 0] 40 w5.heap.size rfl
    generalize w5.alloc (.cells #[.int .u8 0, .int .u8 0, .int .u8 0, .int .u8 0, .int .u8 0, .int .u8 0, .int .u8 0, .int .u8 0, .int .u8 0, .int .u8 0, .int .u8 0] 40) = w6 at M  ⊢
    generalize eB : w5.heap.size = B6 at M hB_B6  ⊢
    have hE_B6 : w5.heap.size ≤ B6 := Nat.le_of_eq eB
    have hF_B6 : B6 ≤ w5.heap.size := Nat.le_of_eq eB.symm
    clear eB
    replace M : Mm w ([(B6, [.int .u8 0, .int .u8 0, .int .u8 0, .int .u8 0, .int .u8 0, .int .u8 0, .int .u8 0, .int .u8 0, .int .u8 0, .int .u8 0, .int .u8 0]), (B3, [.int .u8 0, .int .u8 0, .int .u8 0, .int .u8 0, .int .u8 0, .int .u8 0, .int .u8 0, .int .u8 0, .int .u8 0, .int .u8 0, .int .u8 0, .int .u8 0]), (B2, [.int .u8 0, .int .u8 0, .int .u8 0, .int .u8 0, .int .u8 0, .int .u8 0, .int .u8 0, .int .u8 0, .int .u8 0, .int .u8 0, .int .u8 0, .int .u8 0]), (B1, [.int .i64 p.kind, .int .i64 p.role, .int .i64 p.path, .int .i64 p.epo, .int .i64 p.ctr, .slice bp p.body.length bc])]) w6 := M
    refine skipOpL rfl (storeP [.int .u8 (bl (hdr p) 0), .int .u8 (bl (hdr p) 1), .int .u8 (bl (hdr p) 2), .int .u8 (bl (hdr p) 3), .int .u8 (bl (hdr p) 4), .int .u8 (bl (hdr p) 5), .int .u8 (bl (hdr p) 6), .int .u8 (bl (hdr p) 7), .int .u8 (bl (hdr p) 8), .int .u8 (bl (hdr p) 9), .int .u8 (bl (hdr p) 10)] B6 0 40 _ _ rfl rfl rfl (M.thereP List.mem_cons_self 0 11 (Nat.le_of_ble_eq_true rfl)) (by kernel_rfl) (List.all_eq_true.1 (rfl : ([.int .u8 (bl (hdr p) 0), .int .u8 (bl (hdr p) 1), .int .u8 (bl (hdr p) 2), .int .u8 (bl (hdr p) 3), .int .u8 (bl (hdr p) 4), .int .u8 (bl (hdr p) 5), .int .u8 (bl (hdr p) 6), .int .u8 (bl (hdr p) 7), .int .u8 (bl (hdr p) 8), .int .u8 (bl (hdr p) 9), .int .u8 (bl (hdr p) 10)] : List Value).all (fun u => u.oneCell') = true))) ?_
    simp only [Act.put]
    replace M := M.setPart [.int .u8 (bl (hdr p) 0), .int .u8 (bl (hdr p) 1), .int .u8 (bl (hdr p) 2), .int .u8 (bl (hdr p) 3), .int .u8 (bl (hdr p) 4), .int .u8 (bl (hdr p) 5), .int .u8 (bl (hdr p) 6), .int .u8 (bl (hdr p) 7), .int .u8 (bl (hdr p) 8), .int .u8 (bl (hdr p) 9), .int .u8 (bl (hdr p) 10)] 0 (Nat.le_of_ble_eq_true rfl)
    generalize w6.setCells B6 0 [.int .u8 (bl (hdr p) 0), .int .u8 (bl (hdr p) 1), .int .u8 (bl (hdr p) 2), .int .u8 (bl (hdr p) 3), .int .u8 (bl (hdr p) 4), .int .u8 (bl (hdr p) 5), .int .u8 (bl (hdr p) 6), .int .u8 (bl (hdr p) 7), .int .u8 (bl (hdr p) 8), .int .u8 (bl (hdr p) 9), .int .u8 (bl (hdr p) 10)] = w7 at M  ⊢
    replace M : Mm w ([(B6, [.int .u8 (bl (hdr p) 0), .int .u8 (bl (hdr p) 1), .int .u8 (bl (hdr p) 2), .int .u8 (bl (hdr p) 3), .int .u8 (bl (hdr p) 4), .int .u8 (bl (hdr p) 5), .int .u8 (bl (hdr p) 6), .int .u8 (bl (hdr p) 7), .int .u8 (bl (hdr p) 8), .int .u8 (bl (hdr p) 9), .int .u8 (bl (hdr p) 10)]), (B3, [.int .u8 0, .int .u8 0, .int .u8 0, .int .u8 0, .int .u8 0, .int .u8 0, .int .u8 0, .int .u8 0, .int .u8 0, .int .u8 0, .int .u8 0, .int .u8 0]), (B2, [.int .u8 0, .int .u8 0, .int .u8 0, .int .u8 0, .int .u8 0, .int .u8 0, .int .u8 0, .int .u8 0, .int .u8 0, .int .u8 0, .int .u8 0, .int .u8 0]), (B1, [.int .i64 p.kind, .int .i64 p.role, .int .i64 p.path, .int .i64 p.epo, .int .i64 p.ctr, .slice bp p.body.length bc])]) w7 := M
    first | show Exit.then _ _ _ _ _ | show Exit.inBlock _ _ _ _ _
    go_upto_region 4 with fail
    refine wp_region_list ?_
    refine readL (.slice (some ⟨B6, 5, none⟩) 6 6) rfl (by kernel_rfl) ?_
    simp only [aP, lI, l0, lS]
    refine readL (.slice (some ⟨B6, 5, none⟩) 6 6) rfl (by kernel_rfl) ?_
    simp only [aP, lI, l0, lS]
    first | show Exit.then _ _ _ _ _ | show Exit.inBlock _ _ _ _ _
    replace M := M.swap
    go_upto_region 5 with fail
    refine wp_region_held_drew (S := fun w' => ∃ cs, Mm w ((B3, cs) :: (B6, [.int .u8 (bl (hdr p) 0), .int .u8 (bl (hdr p) 1), .int .u8 (bl (hdr p) 2), .int .u8 (bl (hdr p) 3), .int .u8 (bl (hdr p) 4), .int .u8 (bl (hdr p) 5), .int .u8 (bl (hdr p) 6), .int .u8 (bl (hdr p) 7), .int .u8 (bl (hdr p) 8), .int .u8 (bl (hdr p) 9), .int .u8 (bl (hdr p) 10)]) :: (B2, [.int .u8 0, .int .u8 0, .int .u8 0, .int .u8 0, .int .u8 0, .int .u8 0, .int .u8 0, .int .u8 0, .int .u8 0, .int .u8 0, .int .u8 0, .int .u8 0]) :: (B1, [.int .i64 p.kind, .int .i64 p.role, .int .i64 p.path, .int .i64 p.epo, .int .i64 p.ctr, .slice bp p.body.length bc]) :: []) w') (by kernel_rfl) ⟨_, M.drew⟩ ?_
    intro _
    replace M := M.drew
    generalize w7.drew = wd at M ⊢
    refine readH (i := 0) (some 11) rfl (.slice (some ⟨B3, 0, none⟩) 12 12) rfl rfl (fun _ _ => by kernel_rfl) (by kernel_rfl) (by kernel_rfl) (by kernel_rfl) (fun _ _ _ h => h) ⟨_, M⟩ ?_
    simp only [aP, lI, l0, lS]
    refine readH (i := 1) (some 12) rfl (.slice (some ⟨B6, 2, none⟩) 3 9) rfl rfl (fun _ _ => by kernel_rfl) (by kernel_rfl) (by kernel_rfl) (by kernel_rfl) (fun _ _ _ h => h) ⟨_, M⟩ ?_
    simp only [aP, lI, l0, lS]
    have M2 : Mm w [(B3, [.int .u8 (bl (hdr p) (2 + 0)), .int .u8 (bl (hdr p) (2 + 1)), .int .u8 (bl (hdr p) (2 + 2)), .int .u8 0, .int .u8 0, .int .u8 0, .int .u8 0, .int .u8 0, .int .u8 0, .int .u8 0, .int .u8 0, .int .u8 0]), (B6, [.int .u8 (bl (hdr p) 0), .int .u8 (bl (hdr p) 1), .int .u8 (bl (hdr p) 2), .int .u8 (bl (hdr p) 3), .int .u8 (bl (hdr p) 4), .int .u8 (bl (hdr p) 5), .int .u8 (bl (hdr p) 6), .int .u8 (bl (hdr p) 7), .int .u8 (bl (hdr p) 8), .int .u8 (bl (hdr p) 9), .int .u8 (bl (hdr p) 10)]), (B2, [.int .u8 0, .int .u8 0, .int .u8 0, .int .u8 0, .int .u8 0, .int .u8 0, .int .u8 0, .int .u8 0, .int .u8 0, .int .u8 0, .int .u8 0, .int .u8 0]), (B1, [.int .i64 p.kind, .int .i64 p.role, .int .i64 p.path, .int .i64 p.epo, .int .i64 p.ctr, .slice bp p.body.length bc])] (wd.setCells B3 0 (row .u8 3 (fun j => bl (hdr p) (2 + j)))) := Mm.setPart M (row .u8 3 (fun j => bl (hdr p) (2 + j))) 0 (Nat.le_of_ble_eq_true rfl)
    refine onlyH (i := 2) (some 13) rfl (.int .i64 3) (by kernel_rfl) rfl rfl (run_copy_at _ _ 22 22 5 rfl Tryd.underlying22 (by kernel_rfl) B3 0 12 12 3 9 3 (fun j => bl (hdr p) (2 + j)) ⟨B6, 2, none⟩ rfl rfl rfl (M.thereP List.mem_cons_self 0 3 (Nat.le_of_ble_eq_true rfl)) (M.srcRow (List.mem_cons_of_mem _ List.mem_cons_self) 2 3 _ rfl)) ⟨_, M2⟩ ?_
    simp only [aP, lI, l0, lS]
    clear M
    generalize wd.setCells B3 0 (row .u8 3 (fun j => bl (hdr p) (2 + j))) = we at M2 ⊢
    have M := M2
    clear M2
    refine wpAnyH_done (by kernel_rfl) ?_ _
    first | show Exit.then _ _ _ _ _ | show Exit.inBlock _ _ _ _ _
    go_upto_region 6 with fail
    refine wp_region_list ?_
    refine readL (.slice (some ⟨B6, 5, none⟩) 6 6) rfl (by kernel_rfl) ?_
    simp only [aP, lI, l0, lS]
    refine readL (.int .i64 ((6 : Nat) : Int)) rfl (lenS _ 22 5 (some ⟨B6, 5, none⟩) 6 6 rfl Tryd.underlying22 rfl _) ?_
    simp only [aP, lI, l0, lS]
    refine readL (.int .i64 6) rfl (subI .i64 _ _ _ _ _ _ _ rfl rfl rfl (by decide) _) ?_
    simp only [aP, lI, l0, lS]
    refine readL (.slice (some ⟨B3, 6, none⟩) 6 6) rfl (by kernel_rfl) ?_
    simp only [aP, lI, l0, lS]
    refine readL (.slice (some ⟨B6, 5, none⟩) 6 6) rfl (by kernel_rfl) ?_
    simp only [aP, lI, l0, lS]
    refine actL (w' := we.setCells B3 6 (row .u8 6 (fun j => bl (hdr p) (5 + j)))) (.int .i64 6) rfl (run_copy_at _ _ 22 22 5 rfl Tryd.underlying22 (by kernel_rfl) B3 6 6 6 6 6 6 (fun j => bl (hdr p) (5 + j)) ⟨B6, 5, none⟩ rfl rfl rfl (M.thereP List.mem_cons_self 6 6 (Nat.le_of_ble_eq_true rfl)) (M.srcRow (List.mem_cons_of_mem _ List.mem_cons_self) 5 6 _ rfl)) ?_
    simp only [aP, lI, l0, lS]
    replace M : Mm w ([(B3, [.int .u8 (bl (hdr p) (2 + 0)), .int .u8 (bl (hdr p) (2 + 1)), .int .u8 (bl (hdr p) (2 + 2)), .int .u8 0, .int .u8 0, .int .u8 0, .int .u8 (bl (hdr p) (5 + 0)), .int .u8 (bl (hdr p) (5 + 1)), .int .u8 (bl (hdr p) (5 + 2)), .int .u8 (bl (hdr p) (5 + 3)), .int .u8 (bl (hdr p) (5 + 4)), .int .u8 (bl (hdr p) (5 + 5))]), (B6, [.int .u8 (bl (hdr p) 0), .int .u8 (bl (hdr p) 1), .int .u8 (bl (hdr p) 2), .int .u8 (bl (hdr p) 3), .int .u8 (bl (hdr p) 4), .int .u8 (bl (hdr p) 5), .int .u8 (bl (hdr p) 6), .int .u8 (bl (hdr p) 7), .int .u8 (bl (hdr p) 8), .int .u8 (bl (hdr p) 9), .int .u8 (bl (hdr p) 10)]), (B2, [.int .u8 0, .int .u8 0, .int .u8 0, .int .u8 0, .int .u8 0, .int .u8 0, .int .u8 0, .int .u8 0, .int .u8 0, .int .u8 0, .int .u8 0, .int .u8 0]), (B1, [.int .i64 p.kind, .int .i64 p.role, .int .i64 p.path, .int .i64 p.epo, .int .i64 p.ctr, .slice bp p.body.length bc])]) _ := M.setPart (row .u8 6 (fun j => bl (hdr p) (5 + j))) 6 (Nat.le_of_ble_eq_true rfl)
    generalize we.setCells B3 6 (row .u8 6 (fun j => bl (hdr p) (5 + j))) = w8 at M ⊢
    first | show Exit.then _ _ _ _ _ | show Exit.inBlock _ _ _ _ _
    go_upto_region 7 with fail
    refine wp_region_list ?_
    refine readL (.agg #[.int .u8 (bl (hdr p) (2 + 0)), .int .u8 (bl (hdr p) (2 + 1)), .int .u8 (bl (hdr p) (2 + 2)), .int .u8 0, .int .u8 0, .int .u8 0, .int .u8 (bl (hdr p) (5 + 0)), .int .u8 (bl (hdr p) (5 + 1)), .int .u8 (bl (hdr p) (5 + 2)), .int .u8 (bl (hdr p) (5 + 3)), .int .u8 (bl (hdr p) (5 + 4)), .int .u8 (bl (hdr p) (5 + 5))]) rfl (loadN 31 _ ⟨B3, 0, none⟩ [.int .u8 (bl (hdr p) (2 + 0)), .int .u8 (bl (hdr p) (2 + 1)), .int .u8 (bl (hdr p) (2 + 2)), .int .u8 0, .int .u8 0, .int .u8 0, .int .u8 (bl (hdr p) (5 + 0)), .int .u8 (bl (hdr p) (5 + 1)), .int .u8 (bl (hdr p) (5 + 2)), .int .u8 (bl (hdr p) (5 + 3)), .int .u8 (bl (hdr p) (5 + 4)), .int .u8 (bl (hdr p) (5 + 5))] rfl rfl (fun _ => by kernel_rfl) (fun _ => by kernel_rfl) (M.rangeAt List.mem_cons_self)) ?_
    simp only [aP, lI, l0, lS]
    replace M := M.rot3
    refine skipOpL rfl (storeP [.int .u8 (bl (hdr p) (2 + 0)), .int .u8 (bl (hdr p) (2 + 1)), .int .u8 (bl (hdr p) (2 + 2)), .int .u8 0, .int .u8 0, .int .u8 0, .int .u8 (bl (hdr p) (5 + 0)), .int .u8 (bl (hdr p) (5 + 1)), .int .u8 (bl (hdr p) (5 + 2)), .int .u8 (bl (hdr p) (5 + 3)), .int .u8 (bl (hdr p) (5 + 4)), .int .u8 (bl (hdr p) (5 + 5))] B2 0 31 _ _ rfl rfl rfl (M.thereP List.mem_cons_self 0 12 (Nat.le_of_ble_eq_true rfl)) (by kernel_rfl) (List.all_eq_true.1 (rfl : ([.int .u8 (bl (hdr p) (2 + 0)), .int .u8 (bl (hdr p) (2 + 1)), .int .u8 (bl (hdr p) (2 + 2)), .int .u8 0, .int .u8 0, .int .u8 0, .int .u8 (bl (hdr p) (5 + 0)), .int .u8 (bl (hdr p) (5 + 1)), .int .u8 (bl (hdr p) (5 + 2)), .int .u8 (bl (hdr p) (5 + 3)), .int .u8 (bl (hdr p) (5 + 4)), .int .u8 (bl (hdr p) (5 + 5))] : List Value).all (fun u => u.oneCell') = true))) ?_
    simp only [Act.put]
    replace M := M.setPart [.int .u8 (bl (hdr p) (2 + 0)), .int .u8 (bl (hdr p) (2 + 1)), .int .u8 (bl (hdr p) (2 + 2)), .int .u8 0, .int .u8 0, .int .u8 0, .int .u8 (bl (hdr p) (5 + 0)), .int .u8 (bl (hdr p) (5 + 1)), .int .u8 (bl (hdr p) (5 + 2)), .int .u8 (bl (hdr p) (5 + 3)), .int .u8 (bl (hdr p) (5 + 4)), .int .u8 (bl (hdr p) (5 + 5))] 0 (Nat.le_of_ble_eq_true rfl)
    generalize w8.setCells B2 0 [.int .u8 (bl (hdr p) (2 + 0)), .int .u8 (bl (hdr p) (2 + 1)), .int .u8 (bl (hdr p) (2 + 2)), .int .u8 0, .int .u8 0, .int .u8 0, .int .u8 (bl (hdr p) (5 + 0)), .int .u8 (bl (hdr p) (5 + 1)), .int .u8 (bl (hdr p) (5 + 2)), .int .u8 (bl (hdr p) (5 + 3)), .int .u8 (bl (hdr p) (5 + 4)), .int .u8 (bl (hdr p) (5 + 5))] = w9 at M  ⊢
    replace M : Mm w ([(B2, [.int .u8 (bl (hdr p) (2 + 0)), .int .u8 (bl (hdr p) (2 + 1)), .int .u8 (bl (hdr p) (2 + 2)), .int .u8 0, .int .u8 0, .int .u8 0, .int .u8 (bl (hdr p) (5 + 0)), .int .u8 (bl (hdr p) (5 + 1)), .int .u8 (bl (hdr p) (5 + 2)), .int .u8 (bl (hdr p) (5 + 3)), .int .u8 (bl (hdr p) (5 + 4)), .int .u8 (bl (hdr p) (5 + 5))]), (B3, [.int .u8 (bl (hdr p) (2 + 0)), .int .u8 (bl (hdr p) (2 + 1)), .int .u8 (bl (hdr p) (2 + 2)), .int .u8 0, .int .u8 0, .int .u8 0, .int .u8 (bl (hdr p) (5 + 0)), .int .u8 (bl (hdr p) (5 + 1)), .int .u8 (bl (hdr p) (5 + 2)), .int .u8 (bl (hdr p) (5 + 3)), .int .u8 (bl (hdr p) (5 + 4)), .int .u8 (bl (hdr p) (5 + 5))]), (B6, [.int .u8 (bl (hdr p) 0), .int .u8 (bl (hdr p) 1), .int .u8 (bl (hdr p) 2), .int .u8 (bl (hdr p) 3), .int .u8 (bl (hdr p) 4), .int .u8 (bl (hdr p) 5), .int .u8 (bl (hdr p) 6), .int .u8 (bl (hdr p) 7), .int .u8 (bl (hdr p) 8), .int .u8 (bl (hdr p) 9), .int .u8 (bl (hdr p) 10)]), (B1, [.int .i64 p.kind, .int .i64 p.role, .int .i64 p.path, .int .i64 p.epo, .int .i64 p.ctr, .slice bp p.body.length bc])]) w9 := M
    first | show Exit.then _ _ _ _ _ | show Exit.inBlock _ _ _ _ _
    have hA : [.int .u8 (bl (hdr p) (2 + 0)), .int .u8 (bl (hdr p) (2 + 1)), .int .u8 (bl (hdr p) (2 + 2)), .int .u8 0, .int .u8 0, .int .u8 0, .int .u8 (bl (hdr p) (5 + 0)), .int .u8 (bl (hdr p) (5 + 1)), .int .u8 (bl (hdr p) (5 + 2)), .int .u8 (bl (hdr p) (5 + 3)), .int .u8 (bl (hdr p) (5 + 4)), .int .u8 (bl (hdr p) (5 + 5))] = row .u8 12 (bl (pno p)) := by rw [pno_rec hk]; rfl
    have c1_ := M.part List.mem_cons_self 0 [.int .u8 (bl (hdr p) (2 + 0)), .int .u8 (bl (hdr p) (2 + 1)), .int .u8 (bl (hdr p) (2 + 2)), .int .u8 0, .int .u8 0, .int .u8 0, .int .u8 (bl (hdr p) (5 + 0)), .int .u8 (bl (hdr p) (5 + 1)), .int .u8 (bl (hdr p) (5 + 2)), .int .u8 (bl (hdr p) (5 + 3)), .int .u8 (bl (hdr p) (5 + 4)), .int .u8 (bl (hdr p) (5 + 5))] rfl
    have hM := M.below
    clear M
    replace hA := show Hid _ from hA
    try clear hk
    try clear hR
    go_wp2
    refine bodyPost_ret (v := .agg (row .u8 12 (bl (pno p))).toArray) (by rw [← hA.out]; exact retCell 2 31 ⟨B2, 0, none⟩ [.int .u8 (bl (hdr p) (2 + 0)), .int .u8 (bl (hdr p) (2 + 1)), .int .u8 (bl (hdr p) (2 + 2)), .int .u8 0, .int .u8 0, .int .u8 0, .int .u8 (bl (hdr p) (5 + 0)), .int .u8 (bl (hdr p) (5 + 1)), .int .u8 (bl (hdr p) (5 + 2)), .int .u8 (bl (hdr p) (5 + 3)), .int .u8 (bl (hdr p) (5 + 4)), .int .u8 (bl (hdr p) (5 + 5))] rfl rfl (fun _ => by kernel_rfl) (fun _ => by kernel_rfl) c1_) rfl ?_
    exact ⟨rfl, hM⟩
  | false =>
    have hk : ¬ (p.kind = 3 ∧ pok p = true) := of_decide_eq_false (show prc p = false by simpa using hb)
    clear hb
    go_upto_region 7 with fail
    refine wp_region_list ?_
    refine readL (.agg #[.int .u8 0, .int .u8 0, .int .u8 0, .int .u8 0, .int .u8 0, .int .u8 0, .int .u8 0, .int .u8 0, .int .u8 0, .int .u8 0, .int .u8 0, .int .u8 0]) rfl (loadN 31 _ ⟨B3, 0, none⟩ [.int .u8 0, .int .u8 0, .int .u8 0, .int .u8 0, .int .u8 0, .int .u8 0, .int .u8 0, .int .u8 0, .int .u8 0, .int .u8 0, .int .u8 0, .int .u8 0] rfl rfl (fun _ => by kernel_rfl) (fun _ => by kernel_rfl) (M.rangeAt List.mem_cons_self)) ?_
    simp only [aP, lI, l0, lS]
    replace M := M.swap
    refine skipOpL rfl (storeP [.int .u8 0, .int .u8 0, .int .u8 0, .int .u8 0, .int .u8 0, .int .u8 0, .int .u8 0, .int .u8 0, .int .u8 0, .int .u8 0, .int .u8 0, .int .u8 0] B2 0 31 _ _ rfl rfl rfl (M.thereP List.mem_cons_self 0 12 (Nat.le_of_ble_eq_true rfl)) (by kernel_rfl) (List.all_eq_true.1 (rfl : ([.int .u8 0, .int .u8 0, .int .u8 0, .int .u8 0, .int .u8 0, .int .u8 0, .int .u8 0, .int .u8 0, .int .u8 0, .int .u8 0, .int .u8 0, .int .u8 0] : List Value).all (fun u => u.oneCell') = true))) ?_
    simp only [Act.put]
    replace M := M.setPart [.int .u8 0, .int .u8 0, .int .u8 0, .int .u8 0, .int .u8 0, .int .u8 0, .int .u8 0, .int .u8 0, .int .u8 0, .int .u8 0, .int .u8 0, .int .u8 0] 0 (Nat.le_of_ble_eq_true rfl)
    generalize w4.setCells B2 0 [.int .u8 0, .int .u8 0, .int .u8 0, .int .u8 0, .int .u8 0, .int .u8 0, .int .u8 0, .int .u8 0, .int .u8 0, .int .u8 0, .int .u8 0, .int .u8 0] = w10 at M  ⊢
    replace M : Mm w ([(B2, [.int .u8 0, .int .u8 0, .int .u8 0, .int .u8 0, .int .u8 0, .int .u8 0, .int .u8 0, .int .u8 0, .int .u8 0, .int .u8 0, .int .u8 0, .int .u8 0]), (B3, [.int .u8 0, .int .u8 0, .int .u8 0, .int .u8 0, .int .u8 0, .int .u8 0, .int .u8 0, .int .u8 0, .int .u8 0, .int .u8 0, .int .u8 0, .int .u8 0]), (B1, [.int .i64 p.kind, .int .i64 p.role, .int .i64 p.path, .int .i64 p.epo, .int .i64 p.ctr, .slice bp p.body.length bc])]) w10 := M
    first | show Exit.then _ _ _ _ _ | show Exit.inBlock _ _ _ _ _
    have hA : [.int .u8 0, .int .u8 0, .int .u8 0, .int .u8 0, .int .u8 0, .int .u8 0, .int .u8 0, .int .u8 0, .int .u8 0, .int .u8 0, .int .u8 0, .int .u8 0] = row .u8 12 (bl (pno p)) := by rw [pno_none hk]; rfl
    have c1_ := M.part List.mem_cons_self 0 [.int .u8 0, .int .u8 0, .int .u8 0, .int .u8 0, .int .u8 0, .int .u8 0, .int .u8 0, .int .u8 0, .int .u8 0, .int .u8 0, .int .u8 0, .int .u8 0] rfl
    have hM := M.below
    clear M
    replace hA := show Hid _ from hA
    try clear hk
    try clear hR
    go_wp2
    refine bodyPost_ret (v := .agg (row .u8 12 (bl (pno p))).toArray) (by rw [← hA.out]; exact retCell 2 31 ⟨B2, 0, none⟩ [.int .u8 0, .int .u8 0, .int .u8 0, .int .u8 0, .int .u8 0, .int .u8 0, .int .u8 0, .int .u8 0, .int .u8 0, .int .u8 0, .int .u8 0, .int .u8 0] rfl rfl (fun _ => by kernel_rfl) (fun _ => by kernel_rfl) c1_) rfl ?_
    exact ⟨rfl, hM⟩

set_option maxRecDepth 10000 in
set_option maxHeartbeats 32000000 in
theorem vprint_any : PrintOK := by
  intro p bp bc w hg hp
  have M := Mm.init w
  have fold : (.agg #[.int .i64 p.kind, .int .i64 p.role, .int .i64 p.path, .int .i64 p.epo, .int .i64 p.ctr, .slice bp p.body.length bc] : Value) = .agg (pcs p bp bc).toArray := rfl
  rw [← fold]
  go_enter Tryd.func9, Tryd.ntmps9
  go_upto_region 0 with fail
  refine wp_region_list ?_
  refine actL (w' := w.alloc (.cells #[.int .i64 p.kind, .int .i64 p.role, .int .i64 p.path, .int .i64 p.epo, .int .i64 p.ctr, .slice bp p.body.length bc] 24)) (.pointer (some ⟨w.heap.size, 0, none⟩)) rfl (by kernel_rfl) ?_
  simp only [aP, lI, l0, lS]
  have hB_B1 : w.heap.size ≤ w.heap.size := M.below.size
  replace M := M.box #[.int .i64 p.kind, .int .i64 p.role, .int .i64 p.path, .int .i64 p.epo, .int .i64 p.ctr, .slice bp p.body.length bc] 24 w.heap.size rfl
  generalize w.alloc (.cells #[.int .i64 p.kind, .int .i64 p.role, .int .i64 p.path, .int .i64 p.epo, .int .i64 p.ctr, .slice bp p.body.length bc] 24) = w1 at M  ⊢
  generalize eB : w.heap.size = B1 at M hB_B1  ⊢
  have hE_B1 : w.heap.size ≤ B1 := Nat.le_of_eq eB
  have hF_B1 : B1 ≤ w.heap.size := Nat.le_of_eq eB.symm
  clear eB
  replace M : Mm w ([(B1, [.int .i64 p.kind, .int .i64 p.role, .int .i64 p.path, .int .i64 p.epo, .int .i64 p.ctr, .slice bp p.body.length bc])]) w1 := M
  refine readL (.slice none 0 0) rfl (by kernel_rfl) ?_
  simp only [aP, lI, l0, lS]
  refine readL (.int .i64 0) rfl (by kernel_rfl) ?_
  simp only [aP, lI, l0, lS]
  first | show Exit.then _ _ _ _ _ | show Exit.inBlock _ _ _ _ _
  go_upto_region 1 with fail
  refine wp_region_list ?_
  refine readL (.agg #[.int .i64 p.kind, .int .i64 p.role, .int .i64 p.path, .int .i64 p.epo, .int .i64 p.ctr, .slice bp p.body.length bc]) rfl (loadN 24 _ ⟨B1, 0, none⟩ [.int .i64 p.kind, .int .i64 p.role, .int .i64 p.path, .int .i64 p.epo, .int .i64 p.ctr, .slice bp p.body.length bc] rfl rfl (fun _ => by kernel_rfl) (fun _ => by kernel_rfl) (M.rangeAt List.mem_cons_self)) ?_
  simp only [aP, lI, l0, lS]
  obtain ⟨b1, hb1⟩ : ∃ y_, y_ = (pok p) := ⟨_, rfl⟩
  have hC : Calls Tryd.prog 19 #[.agg #[.int .i64 p.kind, .int .i64 p.role, .int .i64 p.path, .int .i64 p.epo, .int .i64 p.ctr, .slice bp p.body.length bc]] w1 (fun e w' => e = .returned (.bool b1) ∧ Below w1.heap.size w1 w') := (by rw [hb1]; exact pmay_any p bp bc _)
  refine callL rfl (fun _ => by kernel_rfl) (hC) ?_
  rintro e w2 ⟨rfl, l⟩
  replace M := M.call l
  refine ⟨_, rfl, ?_⟩
  clear l hC
  simp only [aP, lI, l0, lS]
  obtain ⟨b2, hb2⟩ : ∃ y_, y_ = (!b1) := ⟨_, rfl⟩
  refine readL (.bool b2) rfl (by subst hb2; cases b1 <;> rfl) ?_
  simp only [aP, lI, l0, lS]
  refine readL (.bool b2) rfl (by kernel_rfl) ?_
  simp only [aP, lI, l0, lS]
  first | show Exit.then _ _ _ _ _ | show Exit.inBlock _ _ _ _ _
  have hb : b2 = !pok p := by rw [hb2, hb1]
  try clear hb1
  try clear hb2
  cases b2 with
  | true =>
    go_upto_region 2 with fail
    refine wp_region_list ?_
    refine readL (.slice none 0 0) rfl (by kernel_rfl) ?_
    simp only [aP, lI, l0, lS]
    refine readL (.int .i64 110) rfl (by kernel_rfl) ?_
    simp only [aP, lI, l0, lS]
    first | show Exit.then _ _ _ _ _ | show Exit.inBlock _ _ _ _ _
    have hok : pok p = false := by simpa using hb
    have hA : pE p = 110 ∧ pL p = [] := by unfold pE pL; rw [hok]; exact ⟨rfl, rfl⟩
    replace hA := show Hid _ from hA
    clear hb hok
    go_wp2
    go_ret2
    exact ⟨⟨_, by rw [hA.out.1]; rfl, by rw [hA.out.2]; exact World.ownsRow_nil _ _ _ 1⟩, M.below⟩
  | false =>
    have hok : pok p = true := by simpa using hb
    have hlen : p.body.length ≤ 300 := by rcases (pok_iff p).1 hok with h | h; exact h.2.1.2; have := h.2.2.2.2.2; omega
    have hA : pE p = 0 ∧ pL p = pby p := by unfold pE pL; rw [if_pos hok, if_pos hok]; exact ⟨rfl, rfl⟩
    clear hb
    by_cases h3 : p.kind = 3
    · have hh : phd p = hdr p := phd_rec h3 hok
      have hhl := hdr_length p
      go_upto_region 3 with fail
      refine wp_region_list ?_
      refine readL (.pointer (some ⟨B1, 0, none⟩)) rfl (by kernel_rfl) ?_
      simp only [aP, lI, l0, lS]
      refine readL (.int .i64 p.kind) rfl (load1 3 _ ⟨B1, 0, none⟩ _ rfl rfl (fun _ => by kernel_rfl) (M.get List.mem_cons_self 0 _ rfl)) ?_
      simp only [aP, lI, l0, lS]
      refine readL (.bool true) rfl (eqlI .i64 _ _ _ _ _ _ rfl rfl rfl true (by rw [h3]; rfl) _) ?_
      simp only [aP, lI, l0, lS]
      refine readL (.bool true) rfl (by kernel_rfl) ?_
      simp only [aP, lI, l0, lS]
      first | show Exit.then _ _ _ _ _ | show Exit.inBlock _ _ _ _ _
      go_upto_region 4 with fail
      refine wp_region_held_drew (S := fun w' => Mm w [(B1, [.int .i64 p.kind, .int .i64 p.role, .int .i64 p.path, .int .i64 p.epo, .int .i64 p.ctr, .slice bp p.body.length bc])] w') (by kernel_rfl) M.drew ?_
      clear M
      intro M
      generalize w2.drew = w3 at M  ⊢
      refine readH (i := 0) (some 12) rfl (.agg #[.int .i64 p.kind, .int .i64 p.role, .int .i64 p.path, .int .i64 p.epo, .int .i64 p.ctr, .slice bp p.body.length bc]) rfl rfl (fun _ M => loadN 24 _ ⟨B1, 0, none⟩ [.int .i64 p.kind, .int .i64 p.role, .int .i64 p.path, .int .i64 p.epo, .int .i64 p.ctr, .slice bp p.body.length bc] rfl rfl (fun _ => by kernel_rfl) (fun _ => by kernel_rfl) (M.rangeAt List.mem_cons_self)) (by kernel_rfl) (by kernel_rfl) (by kernel_rfl) (fun _ _ _ h => h) M ?_
      simp only [aP, lI, l0, lS]
      refine readH (i := 2) (some 14) rfl (.pointer (some ⟨B1, 5, none⟩)) rfl rfl (fun _ M => (by kernel_rfl)) (by kernel_rfl) (by kernel_rfl) (by kernel_rfl) (fun _ _ _ h => h) M ?_
      simp only [aP, lI, l0, lS]
      refine readH (i := 3) (some 15) rfl (.slice bp p.body.length bc) rfl rfl (fun _ M => load1 22 _ ⟨B1, 5, none⟩ _ rfl rfl (fun _ => by kernel_rfl) (M.get List.mem_cons_self 5 _ rfl)) (by kernel_rfl) (by kernel_rfl) (by kernel_rfl) (fun _ _ _ h => h) M ?_
      simp only [aP, lI, l0, lS]
      refine callH (i := 1) (some 13) rfl (by kernel_rfl) rfl rfl (fun _ => by kernel_rfl) (vhead_any p bp bc _ (hg.mm M) (hp.below M.below (Nat.le_refl _))) ?_
      rintro e w4 ⟨⟨v, rfl, O_1⟩, l⟩
      replace M := M.call l
      clear l
      rw [hh] at O_1
      obtain ⟨p1, c1, rfl, _, _⟩ := O_1.bytes
      refine ⟨_, rfl, M, ?_⟩
      simp only [aP, lI, l0, lS]
      have HC := catIn2 w4.heap.size p1 bp ((hdr p).length) p.body.length c1 bc (bl (hdr p)) (bl p.body) 22 rfl O_1.src (hp.src.below M.below (Nat.le_refl _)) O_1.nilCap hp.nil
      have hlb := (Below.refl w4.heap.size w4).alloc (Nat.le_refl _) (.cells #[.slice p1 ((hdr p).length) c1, .slice bp p.body.length bc] 22)
      refine onlyH (i := 4) (some 16) rfl (.slice (some ⟨w4.heap.size, 0, none⟩) 2 2) (by kernel_rfl) rfl rfl (by kernel_rfl) (M.call hlb) ?_
      simp only [aP, lI, l0, lS]
      replace M := M.call hlb
      clear hlb O_1
      generalize hC : w4.heap.size = C at HC ⊢
      clear hC
      generalize (w4.alloc (.cells #[.slice p1 ((hdr p).length) c1, .slice bp p.body.length bc] 22)) = w5 at M HC ⊢
      refine callH (i := 5) (some 17) rfl (by kernel_rfl) rfl rfl (fun _ => by kernel_rfl) (concat_any ⟨C, 0, none⟩ 2 2 _ _ _ _ (by decide) (by rw [tot2]; omega) _ HC) ?_
      rintro e w6 ⟨v, rfl, hO, l⟩
      rw [tot2] at hO
      have O_9 : OwnL w6 w.heap.size (hdr p ++ p.body) v := OwnL.app ((hO.congr fun j _ => catz2 _ _ _ _ j).lower M.below.size)
      replace M := M.call l
      clear l hO HC
      refine ⟨_, rfl, M, ?_⟩
      simp only [aP, lI, l0, lS]
      refine readH (i := 6) (some 2) rfl (v) rfl rfl (fun _ M => (by kernel_rfl)) (by kernel_rfl) (by kernel_rfl) (by kernel_rfl) (fun _ _ _ h => h) M ?_
      simp only [aP, lI, l0, lS]
      refine readH (i := 7) (some 3) rfl (.int .i64 0) rfl rfl (fun _ M => (by kernel_rfl)) (by kernel_rfl) (by kernel_rfl) (by kernel_rfl) (fun _ _ _ h => h) M ?_
      simp only [aP, lI, l0, lS]
      refine wpAnyH_done (by kernel_rfl) ?_ _
      first | show Exit.then _ _ _ _ _ | show Exit.inBlock _ _ _ _ _
      have hB : (hdr p ++ p.body) = pby p := by unfold pby; rw [if_pos h3]
      replace hA := show Hid _ from hA
      replace hB := show Hid _ from hB
      clear hok hlen hh hhl h3
      go_wp2
      go_ret2
      exact ⟨⟨_, by rw [hA.out.1]; rfl, by rw [hA.out.2, ← hB.out]; exact O_9⟩, M.below⟩
    · have hk : 1 ≤ p.kind ∧ p.kind ≤ 2 := by rcases (pok_iff p).1 hok with h | h; have := h.1; omega; exact absurd h.1 h3
      go_upto_region 3 with fail
      refine wp_region_list ?_
      refine readL (.pointer (some ⟨B1, 0, none⟩)) rfl (by kernel_rfl) ?_
      simp only [aP, lI, l0, lS]
      refine readL (.int .i64 p.kind) rfl (load1 3 _ ⟨B1, 0, none⟩ _ rfl rfl (fun _ => by kernel_rfl) (M.get List.mem_cons_self 0 _ rfl)) ?_
      simp only [aP, lI, l0, lS]
      refine readL (.bool false) rfl (eqlI .i64 _ _ _ _ _ _ rfl rfl rfl false (by simpa using h3) _) ?_
      simp only [aP, lI, l0, lS]
      refine readL (.bool false) rfl (by kernel_rfl) ?_
      simp only [aP, lI, l0, lS]
      first | show Exit.then _ _ _ _ _ | show Exit.inBlock _ _ _ _ _
      go_upto_region 5 with fail
      refine wp_region_list ?_
      refine readL (.pointer (some ⟨B1, 0, none⟩)) rfl (by kernel_rfl) ?_
      simp only [aP, lI, l0, lS]
      refine readL (.int .i64 p.kind) rfl (load1 3 _ ⟨B1, 0, none⟩ _ rfl rfl (fun _ => by kernel_rfl) (M.get List.mem_cons_self 0 _ rfl)) ?_
      simp only [aP, lI, l0, lS]
      refine readL (.int .u8 p.kind) rfl (convI .i64 .u8 _ _ _ _ _ rfl (by kernel_rfl) Tryd.underlying5 (by kernel_rfl) rfl (by rw [IntKind.wrap_u8]; omega) _) ?_
      simp only [aP, lI, l0, lS]
      refine actL (w' := w2.alloc (.cells #[.int .u8 p.kind] 5)) (.slice (some ⟨w2.heap.size, 0, none⟩) 1 1) rfl (by kernel_rfl) ?_
      simp only [aP, lI, l0, lS]
      have O_1 : OwnL (w2.alloc (.cells #[.int .u8 p.kind] 5)) w.heap.size [p.kind] (.slice (some ⟨w2.heap.size, 0, none⟩) 1 1) := Own.lit w2 w.heap.size 5 .u8 1 (bl [p.kind]) M.below.size (by unfold maxLen; omega)
      replace M := M.call ((Below.refl w2.heap.size w2).alloc (Nat.le_refl _) (.cells #[.int .u8 p.kind] 5))
      generalize w2.alloc (.cells #[.int .u8 p.kind] 5) = w7 at M O_1 ⊢
      generalize (some ⟨w2.heap.size, 0, none⟩ : Option Addr) = p1 at O_1 ⊢
      refine readL (.pointer (some ⟨B1, 5, none⟩)) rfl (by kernel_rfl) ?_
      simp only [aP, lI, l0, lS]
      refine readL (.slice bp p.body.length bc) rfl (load1 22 _ ⟨B1, 5, none⟩ _ rfl rfl (fun _ => by kernel_rfl) (M.get List.mem_cons_self 5 _ rfl)) ?_
      simp only [aP, lI, l0, lS]
      have HC := catIn2 w7.heap.size p1 bp 1 p.body.length 1 bc (bl ([p.kind])) (bl p.body) 22 rfl O_1.src (hp.src.below M.below (Nat.le_refl _)) O_1.nilCap hp.nil
      have hlb := (Below.refl w7.heap.size w7).alloc (Nat.le_refl _) (.cells #[.slice p1 1 1, .slice bp p.body.length bc] 22)
      refine actL (w' := (w7.alloc (.cells #[.slice p1 1 1, .slice bp p.body.length bc] 22))) (.slice (some ⟨w7.heap.size, 0, none⟩) 2 2) rfl (by kernel_rfl) ?_
      simp only [aP, lI, l0, lS]
      replace M := M.call hlb
      clear hlb O_1
      generalize hC : w7.heap.size = C at HC ⊢
      clear hC
      generalize (w7.alloc (.cells #[.slice p1 1 1, .slice bp p.body.length bc] 22)) = w8 at M HC ⊢
      refine callL rfl (fun _ => by kernel_rfl) (concat_any ⟨C, 0, none⟩ 2 2 _ _ _ _ (by decide) (by rw [tot2]; omega) _ HC) ?_
      rintro e w9 ⟨v, rfl, hO, l⟩
      rw [tot2] at hO
      have O_9 : OwnL w9 w.heap.size ([p.kind] ++ p.body) v := OwnL.app ((hO.congr fun j _ => catz2 _ _ _ _ j).lower M.below.size)
      replace M := M.call l
      clear l hO HC
      refine ⟨_, rfl, ?_⟩
      simp only [aP, lI, l0, lS]
      refine readL (v) rfl (by kernel_rfl) ?_
      simp only [aP, lI, l0, lS]
      refine readL (.int .i64 0) rfl (by kernel_rfl) ?_
      simp only [aP, lI, l0, lS]
      first | show Exit.then _ _ _ _ _ | show Exit.inBlock _ _ _ _ _
      have hB : ([p.kind] ++ p.body) = pby p := by unfold pby; rw [if_neg h3]; rfl
      replace hA := show Hid _ from hA
      replace hB := show Hid _ from hB
      clear hok hlen hk h3
      go_wp2
      go_ret2
      exact ⟨⟨_, by rw [hA.out.1]; rfl, by rw [hA.out.2, ← hB.out]; exact O_9⟩, M.below⟩
end Go.Proofs.YtbhhboiofepnhaaDoor

namespace Go.Proofs.YtbhhboiofepnhaaDoor
open Go.RowKit

def TakeFO (len : Nat) (z : Nat → Int) (s : Int) (B : Nat) (e : Ending) (w' : World) : Prop := ∃ v, e = .returned (.tuple #[.int .i64 (gN len z s), v, .int .i64 (gE len s)]) ∧ Own w' B 5 .u8 (gL len s) (fun j => z (s.toNat + j)) v
def TakeFixedOw : Prop := ∀ (sp : Option Addr) (len cap : Nat), len ≤ 140737488351240 → len ≤ cap → (sp = none → cap = 0) → ∀ z : Nat → Int, In 256 len z → ∀ s : Int, (-9223372036854775808 ≤ s ∧ s < 9223372036854775808) → ∀ w : World, Src w sp len z → Calls Tryd.prog 30 #[.slice sp len cap, .int .i64 s] w fun e w' => TakeFO len z s w.heap.size e w' ∧ Below w.heap.size w w'
set_option maxRecDepth 10000 in
set_option maxHeartbeats 8000000 in
theorem vtakefixed_own : TakeFixedOw := by
  intro sp len cap hlen hcap hnil z hz s hs2 w hs
  go_enter Tryd.func30, Tryd.ntmps30
  by_cases hsz' : 1 ≤ s ∧ s ≤ 7
  · have hsz : decide (1 ≤ s ∧ s ≤ 7) = true := decide_eq_true hsz'
    have hgE : gE len s = if (len : Int) < s then 3 else 0 := by unfold gE; rw [if_neg (by omega)]
    go_upto_region 1 with fail
    refine wp_region_list ?_
    refine pureL (.int .i64 s) rfl (fun _ => by kernel_rfl) ?_
    simp only [aP, lI, l0, lS]
    refine callL rfl (fun _ => by kernel_rfl) (isSize_any s _) ?_
    rintro e w1 ⟨rfl, hB⟩
    rw [hsz]
    refine ⟨_, rfl, ?_⟩
    simp only [aP, lI, l0, lS]
    refine pureL (.bool false) rfl (fun _ => by kernel_rfl) ?_
    simp only [aP, lI, l0, lS]
    show Exit.then _ _ _ _ _
    clear hsz
    obtain ⟨s, rfl⟩ := Int.eq_ofNat_of_zero_le (show 0 ≤ s by omega)
    go_upto_region 3 with fail
    refine wp_region_list ?_
    refine pureL (.slice sp len cap) rfl (fun _ => by kernel_rfl) ?_
    simp only [aP, lI, l0, lS]
    refine callL rfl (fun _ => by kernel_rfl) (along_any sp len cap hcap hnil z _ (hs.below hB (Nat.le_refl _))) ?_
    rintro e w2 ⟨B, rfl, T⟩
    refine ⟨_, rfl, ?_⟩
    simp only [aP, lI, l0, lS]
    refine pureL (.tuple #[(.func (.func 35) #[] #[.pointer (some ⟨B, 0, none⟩)]), (.func (.func 36) #[] #[.pointer (some ⟨B, 0, none⟩)])]) rfl (fun _ => by kernel_rfl) ?_
    simp only [aP, lI, l0, lS]
    refine pureL (.func (.func 35) #[] #[.pointer (some ⟨B, 0, none⟩)]) rfl (fun _ => by kernel_rfl) ?_
    simp only [aP, lI, l0, lS]
    refine pureL (.func (.func 36) #[] #[.pointer (some ⟨B, 0, none⟩)]) rfl (fun _ => by kernel_rfl) ?_
    simp only [aP, lI, l0, lS]
    refine pureL (.func (.func 35) #[] #[.pointer (some ⟨B, 0, none⟩)]) rfl (fun _ => by kernel_rfl) ?_
    simp only [aP, lI, l0, lS]
    refine pureL (.func (.func 36) #[] #[.pointer (some ⟨B, 0, none⟩)]) rfl (fun _ => by kernel_rfl) ?_
    simp only [aP, lI, l0, lS]
    show Exit.then _ _ _ _ _
    go_upto_region 4 with fail
    refine wp_region_list ?_
    refine pureL (.func (.func 35) #[] #[.pointer (some ⟨B, 0, none⟩)]) rfl (fun _ => by kernel_rfl) ?_
    simp only [aP, lI, l0, lS]
    refine pureL (.int .i64 (s : Int)) rfl (fun _ => by kernel_rfl) ?_
    simp only [aP, lI, l0, lS]
    refine callL rfl (fun _ => by kernel_rfl) (next_any w1 B len z s _ T) ?_
    intro e w3 h
    clear T
    rcases h with ⟨h1, rfl, T⟩ | ⟨h1, dp, dc, rfl, hdc, hdn, hds, T⟩
    · have hE : gE len (s : Int) = 3 := by rw [hgE, if_pos (by omega)]
      have hN : gN len z (s : Int) = 0 := by unfold gN; rw [hE]; rfl
      have hL : gL len (s : Int) = 0 := by unfold gL; rw [hE]; rfl
      replace hB := hB.trans (T.below.mono hB.size)
      refine ⟨_, rfl, ?_⟩
      simp only [aP, lI, l0, lS]
      refine pureL (.tuple #[(.slice none 0 0), .bool false]) rfl (fun _ => by kernel_rfl) ?_
      simp only [aP, lI, l0, lS]
      refine pureL (.slice none 0 0) rfl (fun _ => by kernel_rfl) ?_
      simp only [aP, lI, l0, lS]
      refine pureL (.bool false) rfl (fun _ => by kernel_rfl) ?_
      simp only [aP, lI, l0, lS]
      refine pureL (.slice none 0 0) rfl (fun _ => by kernel_rfl) ?_
      simp only [aP, lI, l0, lS]
      refine pureL (.bool false) rfl (fun _ => by kernel_rfl) ?_
      simp only [aP, lI, l0, lS]
      show Exit.then _ _ _ _ _
      go_upto_region 5 with fail
      refine wp_region_list ?_
      refine pureL (.bool false) rfl (fun _ => by kernel_rfl) ?_
      simp only [aP, lI, l0, lS]
      refine pureL (.bool true) rfl (fun _ => by kernel_rfl) ?_
      simp only [aP, lI, l0, lS]
      show Exit.then _ _ _ _ _
      have hA := show Hid _ from (And.intro hN (And.intro hL hE))
      clear hN hL hE
      go_wp2
      refine bodyPost_ret (results_tmp3 Tryd.results30 _ _ _) rfl ?_
      exact ⟨⟨.slice none 0 0, by rw [hA.out.1, hA.out.2.2]; rfl, by rw [hA.out.2.1]; exact World.ownsRow_nil _ _ _ 1⟩, hB⟩
    · have hE : gE len (s : Int) = 0 := by rw [hgE, if_neg (by omega)]
      have hN : gN len z (s : Int) = fV z s := by unfold gN; rw [if_pos hE, Int.toNat_natCast]
      have hL : gL len (s : Int) = len - s := by unfold gL; rw [if_pos hE, Int.toNat_natCast]
      refine ⟨_, rfl, ?_⟩
      simp only [aP, lI, l0, lS]
      refine pureL (.tuple #[(.slice dp s dc), .bool true]) rfl (fun _ => by kernel_rfl) ?_
      simp only [aP, lI, l0, lS]
      refine pureL (.slice dp s dc) rfl (fun _ => by kernel_rfl) ?_
      simp only [aP, lI, l0, lS]
      refine pureL (.bool true) rfl (fun _ => by kernel_rfl) ?_
      simp only [aP, lI, l0, lS]
      refine pureL (.slice dp s dc) rfl (fun _ => by kernel_rfl) ?_
      simp only [aP, lI, l0, lS]
      refine pureL (.bool true) rfl (fun _ => by kernel_rfl) ?_
      simp only [aP, lI, l0, lS]
      show Exit.then _ _ _ _ _
      go_upto_region 5 with fail
      refine wp_region_list ?_
      refine pureL (.bool true) rfl (fun _ => by kernel_rfl) ?_
      simp only [aP, lI, l0, lS]
      refine pureL (.bool false) rfl (fun _ => by kernel_rfl) ?_
      simp only [aP, lI, l0, lS]
      show Exit.then _ _ _ _ _
      go_upto_region 7 with fail
      refine wp_region_list ?_
      refine pureL (.slice dp s dc) rfl (fun _ => by kernel_rfl) ?_
      simp only [aP, lI, l0, lS]
      refine callL rfl (fun _ => by kernel_rfl) (vjoin_any 0 (by decide) dp s dc (by omega) z (fun j hj => hz j (by omega)) _ (hds.below T.below (Nat.le_refl _))) ?_
      rintro e w4 ⟨rfl, l⟩
      rw [jV_zero z s]
      replace T := T.call l
      clear l
      refine ⟨_, rfl, ?_⟩
      simp only [aP, lI, l0, lS]
      refine pureL (.func (.func 36) #[] #[.pointer (some ⟨B, 0, none⟩)]) rfl (fun _ => by kernel_rfl) ?_
      simp only [aP, lI, l0, lS]
      replace hB := hB.trans (T.below.mono hB.size)
      refine callL rfl (fun _ => by kernel_rfl) (left_any w1 B _ (by omega) _ _ T) ?_
      rintro e w5 ⟨v, rfl, hO, l⟩
      obtain ⟨rp, rc, rfl, _, _⟩ := hO.bytes
      replace hO := hO.lower hB.size
      replace hB := hB.trans (l.mono hB.size)
      clear T l
      refine ⟨_, rfl, ?_⟩
      simp only [aP, lI, l0, lS]
      refine pureL (.int .i64 (fV z s)) rfl (fun _ => by kernel_rfl) ?_
      simp only [aP, lI, l0, lS]
      refine pureL (.slice rp (len - s) rc) rfl (fun _ => by kernel_rfl) ?_
      simp only [aP, lI, l0, lS]
      refine pureL (.int .i64 0) rfl (fun _ => by kernel_rfl) ?_
      simp only [aP, lI, l0, lS]
      show Exit.then _ _ _ _ _
      have hA := show Hid _ from (And.intro hN (And.intro hL hE))
      clear hN hL hE hgE
      go_wp2
      refine bodyPost_ret (results_tmp3 Tryd.results30 _ _ _) rfl ?_
      exact ⟨⟨_, by rw [hA.out.1, hA.out.2.2]; rfl, by rw [hA.out.2.1]; exact hO⟩, hB⟩
  · have hsz : decide (1 ≤ s ∧ s ≤ 7) = false := decide_eq_false hsz'
    have hE : gE len s = 1 := by unfold gE; rw [if_pos (by omega)]
    have hN : gN len z s = 0 := by unfold gN; rw [hE]; rfl
    have hL : gL len s = 0 := by unfold gL; rw [hE]; rfl
    go_upto_region 1 with fail
    refine wp_region_list ?_
    refine pureL (.int .i64 s) rfl (fun _ => by kernel_rfl) ?_
    simp only [aP, lI, l0, lS]
    refine callL rfl (fun _ => by kernel_rfl) (isSize_any s _) ?_
    rintro e w1 ⟨rfl, hB⟩
    rw [hsz]
    refine ⟨_, rfl, ?_⟩
    simp only [aP, lI, l0, lS]
    refine pureL (.bool true) rfl (fun _ => by kernel_rfl) ?_
    simp only [aP, lI, l0, lS]
    show Exit.then _ _ _ _ _
    have hA := show Hid _ from (And.intro hN (And.intro hL hE))
    clear hN hL hE
    go_wp2
    refine bodyPost_ret (results_tmp3 Tryd.results30 _ _ _) rfl ?_
    exact ⟨⟨.slice none 0 0, by rw [hA.out.1, hA.out.2.2]; rfl, by rw [hA.out.2.1]; exact World.ownsRow_nil _ _ _ 1⟩, hB⟩

end Go.Proofs.YtbhhboiofepnhaaDoor

namespace Go.Proofs.YtbhhboiofepnhaaDoor
open Go.RowKit

def qszn : Nat → Nat
  | 3 => 2
  | 4 => 6
  | _ => 1
/-- Where a head's numbers begin; what they are. -/
def rof : Nat → Nat
  | 0 => 0
  | k + 1 => rof k + qszn k
def rnum (b : List Int) (k : Nat) : Int := fV (fun i => bl b (rof k + i)) (qszn k)
def rnz (b : List Int) (j k : Nat) : Int := if k < j then rnum b k else 0
def ncs (b : List Int) (j : Nat) : List Value := [.int .i64 (rnz b j 0), .int .i64 (rnz b j 1), .int .i64 (rnz b j 2), .int .i64 (rnz b j 3), .int .i64 (rnz b j 4)]
theorem rnum_byte (b : List Int) (k : Nat) (hk : k < 3) : rnum b k = bl b k := by
  have : k = 0 ∨ k = 1 ∨ k = 2 := by omega
  rcases this with rfl | rfl | rfl
  · show 0 * 256 + bl b 0 = bl b 0; omega
  · show 0 * 256 + bl b 1 = bl b 1; omega
  · show 0 * 256 + bl b 2 = bl b 2; omega
theorem PG.row {w : World} (h : PG w) : ∀ (j : Nat) (v : Value), ([.int .i64 1, .int .i64 1, .int .i64 1, .int .i64 2, .int .i64 6] : List Value)[j]? = some v → w.cell? ((⟨0, 0, none⟩ : Addr).add j) = some v := fun j v hv => by
  rw [Addr.add_mid, Nat.zero_add]
  match j, hv with
  | 0, hv => cases hv; exact h.sz 0 (by decide)
  | 1, hv => cases hv; exact h.sz 1 (by decide)
  | 2, hv => cases hv; exact h.sz 2 (by decide)
  | 3, hv => cases hv; exact h.sz 3 (by decide)
  | 4, hv => cases hv; exact h.sz 4 (by decide)
  | _ + 5, hv => cases hv
theorem prs_rec {b : List Int} (h : bl b 0 = 3) : prs b = ⟨rnum b 0, rnum b 1, rnum b 2, rnum b 3, rnum b 4, b.drop 11⟩ := by
  unfold prs
  rw [if_pos h, rnum_byte b 0 (by decide), rnum_byte b 1 (by decide), rnum_byte b 2 (by decide), h]
  rfl
theorem prs_other {b : List Int} (h : ¬ bl b 0 = 3) : prs b = ⟨bl b 0, 0, 0, 0, 0, b.drop 1⟩ := by unfold prs; rw [if_neg h]
abbrev OwnN (w : World) (base n : Nat) (f : Nat → Int) (v : Value) : Prop := Own w base 5 .u8 n f v
theorem i64_0 : i64 0 := by unfold i64; decide

set_option maxRecDepth 10000 in
set_option maxHeartbeats 32000000 in
theorem pread_any (sp : Option Addr) (cap : Nat) (b : List Int) (w0 w : World) (hl0 : Below w0.heap.size w0 w) (hg : PG w) (hlen : b.length ≤ 140737488351232) (hcap : b.length ≤ cap) (hnil : sp = none → cap = 0) (hb : Byts b) (hs0 : Src w0 sp b.length (bl b)) (h1 : 0 < b.length) (h27 : bl b 0 = 3 → 27 ≤ b.length) :
    Calls Tryd.prog 24 #[.slice sp b.length cap] w fun e w' => (∃ bp bc, e = .returned (.agg (pcs (prs b) bp bc).toArray) ∧ PV w0 (prs b) bp bc) ∧ Below w.heap.size w w' := by
  have M := Mm.init w
  obtain ⟨ad, rfl, _⟩ := hs0 0 h1
  have hs := hs0.below hl0 (Nat.le_refl _)
  have hx0 := hb.bl 0 h1
  go_enter Tryd.func24, Tryd.ntmps24
  go_upto_region 0 with fail
  refine wp_region_list ?_
  refine actL (w' := w.alloc (.cells #[.int .i64 0, .int .i64 0, .int .i64 0, .int .i64 0, .int .i64 0, .slice none 0 0] 24)) (.pointer (some ⟨w.heap.size, 0, none⟩)) rfl (by kernel_rfl) ?_
  simp only [aP, lI, l0, lS]
  have hB_B1 : w.heap.size ≤ w.heap.size := M.below.size
  replace M := M.box #[.int .i64 0, .int .i64 0, .int .i64 0, .int .i64 0, .int .i64 0, .slice none 0 0] 24 w.heap.size rfl
  generalize w.alloc (.cells #[.int .i64 0, .int .i64 0, .int .i64 0, .int .i64 0, .int .i64 0, .slice none 0 0] 24) = w1 at M  ⊢
  generalize eB : w.heap.size = B1 at M hB_B1  ⊢
  have hE_B1 : w.heap.size ≤ B1 := Nat.le_of_eq eB
  have hF_B1 : B1 ≤ w.heap.size := Nat.le_of_eq eB.symm
  clear eB
  replace M : Mm w ([(B1, [.int .i64 0, .int .i64 0, .int .i64 0, .int .i64 0, .int .i64 0, .slice none 0 0])]) w1 := M
  first | show Exit.then _ _ _ _ _ | show Exit.inBlock _ _ _ _ _
  by_cases h3 : bl b 0 = 3
  · have hl27 := h27 h3
    go_upto_region 1 with fail
    refine wp_region_list ?_
    refine readL (.slice (some ad) b.length cap) rfl (by kernel_rfl) ?_
    simp only [aP, lI, l0, lS]
    refine readL (.pointer (some (ad.add 0))) rfl (idxSl 22 5 b.length cap .i64 ad 0 _ _ Tryd.underlying22 (fun _ => by kernel_rfl) (by omega) rfl rfl rfl _) ?_
    simp only [aP, lI, l0, lS]
    refine readL (.int .u8 (bl b 0)) rfl (load1 5 _ (ad.add 0) _ rfl rfl (fun _ => by kernel_rfl) ((hs.below M.below (Nat.le_refl _)).at 0 (by omega))) ?_
    simp only [aP, lI, l0, lS]
    refine readL (.bool false) rfl (neqI .u8 _ _ _ _ _ _ rfl rfl rfl false (by rw [h3]; rfl) _) ?_
    simp only [aP, lI, l0, lS]
    first | show Exit.then _ _ _ _ _ | show Exit.inBlock _ _ _ _ _
    go_upto_region 3 with fail
    refine wp_region_list ?_
    refine actL (w' := w1.alloc (.cells #[.int .i64 0, .int .i64 0, .int .i64 0, .int .i64 0, .int .i64 0] 50)) (.pointer (some ⟨w1.heap.size, 0, none⟩)) rfl (by kernel_rfl) ?_
    simp only [aP, lI, l0, lS]
    have hB_B2 : w.heap.size ≤ w1.heap.size := M.below.size
    replace M := M.box #[.int .i64 0, .int .i64 0, .int .i64 0, .int .i64 0, .int .i64 0] 50 w1.heap.size rfl
    generalize w1.alloc (.cells #[.int .i64 0, .int .i64 0, .int .i64 0, .int .i64 0, .int .i64 0] 50) = w2 at M  ⊢
    generalize eB : w1.heap.size = B2 at M hB_B2  ⊢
    have hE_B2 : w1.heap.size ≤ B2 := Nat.le_of_eq eB
    have hF_B2 : B2 ≤ w1.heap.size := Nat.le_of_eq eB.symm
    clear eB
    replace M : Mm w ([(B2, [.int .i64 0, .int .i64 0, .int .i64 0, .int .i64 0, .int .i64 0]), (B1, [.int .i64 0, .int .i64 0, .int .i64 0, .int .i64 0, .int .i64 0, .slice none 0 0])]) w2 := M
    first | show Exit.then _ _ _ _ _ | show Exit.inBlock _ _ _ _ _
    go_upto_region 4 with fail
    refine wp_region_list ?_
    refine readL (.slice (some ad) b.length cap) rfl (by kernel_rfl) ?_
    simp only [aP, lI, l0, lS]
    obtain ⟨q19, hq19, hqs19⟩ := cut_hi (P := Tryd.prog) (t := 22) (by kernel_rfl) (fun _ => by kernel_rfl) (some ad) b.length cap 11 (by omega) hcap
    refine readL (.slice q19 11 cap) rfl (cutHi _ _ _ _ _ _ rfl rfl rfl (hq19 _)) ?_
    simp only [aP, lI, l0, lS]
    refine readL (.slice q19 11 cap) rfl (by kernel_rfl) ?_
    simp only [aP, lI, l0, lS]
    first | show Exit.then _ _ _ _ _ | show Exit.inBlock _ _ _ _ _
    go_upto_region 5 with fail
    refine wp_region_list ?_
    refine readL (.agg #[.int .i64 1, .int .i64 1, .int .i64 1, .int .i64 2, .int .i64 6]) rfl (loadN 50 _ ⟨0, 0, none⟩ [.int .i64 1, .int .i64 1, .int .i64 1, .int .i64 2, .int .i64 6] rfl rfl (fun _ => by kernel_rfl) (fun _ => by kernel_rfl) (hg.mm M).row) ?_
    simp only [aP, lI, l0, lS]
    refine readL (.int .i64 0) rfl (by kernel_rfl) ?_
    simp only [aP, lI, l0, lS]
    first | show Exit.then _ _ _ _ _ | show Exit.inBlock _ _ _ _ _
    have hS0 : Src w2 q19 11 (fun k => bl b (rof 0 + k)) := (hqs19 _ _ (hs.below M.below (Nat.le_refl _))).congr fun k _ => congrArg (bl b) (Nat.zero_add k).symm
    have hN0 : q19 = none → cap = 0 := fun e => by obtain ⟨_, e', _⟩ := hS0 0 (by decide); rw [e] at e'; cases e'
    have HI := show Hid _ from (And.intro (show Mm w [(B2, ncs b 0), (B1, [.int .i64 0, .int .i64 0, .int .i64 0, .int .i64 0, .int .i64 0, .slice none 0 0])] w2 from M) (And.intro hS0 hN0))
    clear M hS0 hN0
    have hc11 : 11 ≤ cap := by omega
    go_wp2
    go_loopw [4, 21] (fun v i w' => ∃ (j : Nat) (rp : Option Addr) (rc : Nat), j ≤ 5 ∧ i = .int .i64 (j : Int) ∧ v = .slice rp (11 - rof j) rc ∧ 11 - rof j ≤ rc ∧ (rp = none → rc = 0) ∧ Src w' rp (11 - rof j) (fun k => bl b (rof j + k)) ∧ Mm w [(B2, ncs b j), (B1, [.int .i64 0, .int .i64 0, .int .i64 0, .int .i64 0, .int .i64 0, .slice none 0 0])] w') (fun _ i _ => 5 - (intOf i).toNat)
    case atStart => exact ⟨0, _, _, Nat.zero_le _, rfl, rfl, hc11, HI.out.2.2, HI.out.2.1, HI.out.1⟩
    case round =>
      clear HI
      obtain ⟨j, rp, rc, hj, rfl, rfl, hrc, hrn, hrs, M⟩ := hrel
      have hj6 : j = 0 ∨ j = 1 ∨ j = 2 ∨ j = 3 ∨ j = 4 ∨ j = 5 := by omega
      clear hj
      rcases hj6 with rfl | rfl | rfl | rfl | rfl | rfl
      · replace hrc : 11 ≤ rc := hrc
        replace hrs : Src wr rp 11 (fun k => bl b (rof 0 + k)) := hrs
        replace M : Mm w [(B2, [.int .i64 0, .int .i64 0, .int .i64 0, .int .i64 0, .int .i64 0]), (B1, [.int .i64 0, .int .i64 0, .int .i64 0, .int .i64 0, .int .i64 0, .slice none 0 0])] wr := M
        have er : 11 - rof 0 = 11 := rfl
        rw [er]
        clear er
        go_upto_region 6 with fail
        refine wp_region_list ?_
        refine readL (.bool true) rfl (lssI .i64 _ _ _ _ _ _ rfl rfl rfl true (by decide) _) ?_
        simp only [aP, lI, l0, lS]
        first | show Exit.then _ _ _ _ _ | show Exit.inBlock _ _ _ _ _
        go_upto_region 7 with fail
        refine wp_region_list ?_
        refine readL (.int .i64 ((0 : Nat) : Int)) rfl (by kernel_rfl) ?_
        simp only [aP, lI, l0, lS]
        refine readL (.int .i64 1) rfl (by kernel_rfl) ?_
        simp only [aP, lI, l0, lS]
        refine readL (.int .i64 ((0 : Nat) : Int)) rfl (by kernel_rfl) ?_
        simp only [aP, lI, l0, lS]
        refine readL (.int .i64 1) rfl (by kernel_rfl) ?_
        simp only [aP, lI, l0, lS]
        first | show Exit.then _ _ _ _ _ | show Exit.inBlock _ _ _ _ _
        go_upto_region 8 with fail
        refine wp_region_list ?_
        refine readL (.int .i64 ((0 : Nat) : Int)) rfl (by kernel_rfl) ?_
        simp only [aP, lI, l0, lS]
        refine readL (.slice rp 11 rc) rfl (by kernel_rfl) ?_
        simp only [aP, lI, l0, lS]
        refine readL (.int .i64 1) rfl (by kernel_rfl) ?_
        simp only [aP, lI, l0, lS]
        have hzz : In 256 11 (fun k => bl b (rof 0 + k)) := fun k hk => hb.bl (rof 0 + k) (by show 0 + k < b.length; omega)
        have hBt := M.lt List.mem_cons_self
        refine callL rfl (fun _ => by kernel_rfl) (vtakefixed_own rp 11 rc (by decide) hrc hrn (fun k => bl b (rof 0 + k)) hzz 1 (by decide) _ hrs) ?_
        rintro e w3 ⟨⟨v, rfl, O_0⟩, l⟩
        have O_2 : OwnN w3 wr.heap.size 10 (fun k => bl b (rof 1 + k)) v := (show Own w3 wr.heap.size 5 .u8 10 _ v from O_0).congr fun k _ => congrArg (bl b) (by show 0 + (1 + k) = 1 + k; omega)
        replace M := M.call l
        obtain ⟨p2, c2, rfl, _, _⟩ := O_2.bytes
        have eg : gN 11 (fun k => bl b (rof 0 + k)) 1 = rnum b 0 := rfl
        have ee : gE 11 1 = 0 := rfl
        rw [eg, ee]
        clear l O_0 hzz hrs hrc hrn eg ee
        refine ⟨_, rfl, ?_⟩
        simp only [aP, lI, l0, lS]
        refine readL (.tuple #[.int .i64 (rnum b 0), .slice p2 10 c2, .int .i64 0]) rfl (by kernel_rfl) ?_
        simp only [aP, lI, l0, lS]
        refine readL (.int .i64 (rnum b 0)) rfl (by kernel_rfl) ?_
        simp only [aP, lI, l0, lS]
        refine readL (.slice p2 10 c2) rfl (by kernel_rfl) ?_
        simp only [aP, lI, l0, lS]
        refine readL (.int .i64 0) rfl (by kernel_rfl) ?_
        simp only [aP, lI, l0, lS]
        refine readL (.pointer (some ⟨B2, 0, none⟩)) rfl (by kernel_rfl) ?_
        simp only [aP, lI, l0, lS]
        refine skipOpL rfl (storeAny (.int .i64 (rnum b 0)) B2 0 3 _ _ rfl rfl rfl rfl rfl (M.isSome List.mem_cons_self 0 (by simp)) (M.free List.mem_cons_self 0 (by simp)) (by kernel_rfl)) ?_
        simp only [Act.put]
        replace M := M.set 0 (by simp) (.int .i64 (rnum b 0))
        replace O_2 := Own.off1 O_2 ((Off.refl [B2] _).set (b := B2) List.mem_cons_self 0 (.int .i64 (rnum b 0))) (by omega)
        generalize w3.setCell ⟨B2, 0, none⟩ (.int .i64 (rnum b 0)) = w4 at M O_2 ⊢
        replace M : Mm w ([(B2, [.int .i64 (rnum b 0), .int .i64 0, .int .i64 0, .int .i64 0, .int .i64 0]), (B1, [.int .i64 0, .int .i64 0, .int .i64 0, .int .i64 0, .int .i64 0, .slice none 0 0])]) w4 := M
        refine readL (.slice p2 10 c2) rfl (by kernel_rfl) ?_
        simp only [aP, lI, l0, lS]
        first | show Exit.then _ _ _ _ _ | show Exit.inBlock _ _ _ _ _
        have HS := show Hid _ from (And.intro M O_2)
        clear M O_2
        go_wp2
        go_roundw
        case rel => first | exact ⟨1, _, _, by decide, by go_num, rfl, HS.out.2.le, HS.out.2.nilCap, HS.out.2.src, HS.out.1⟩ | ((repeat apply Exists.intro); refine ⟨⟨1, _, _, by decide, ?_, rfl, HS.out.2.le, HS.out.2.nilCap, HS.out.2.src, HS.out.1⟩, rfl⟩ <;> first | rfl | go_num)
        case measure => simp [intOf]
      · replace hrc : 10 ≤ rc := hrc
        replace hrs : Src wr rp 10 (fun k => bl b (rof 1 + k)) := hrs
        replace M : Mm w [(B2, [.int .i64 (rnum b 0), .int .i64 0, .int .i64 0, .int .i64 0, .int .i64 0]), (B1, [.int .i64 0, .int .i64 0, .int .i64 0, .int .i64 0, .int .i64 0, .slice none 0 0])] wr := M
        have er : 11 - rof 1 = 10 := rfl
        rw [er]
        clear er
        go_upto_region 6 with fail
        refine wp_region_list ?_
        refine readL (.bool true) rfl (lssI .i64 _ _ _ _ _ _ rfl rfl rfl true (by decide) _) ?_
        simp only [aP, lI, l0, lS]
        first | show Exit.then _ _ _ _ _ | show Exit.inBlock _ _ _ _ _
        go_upto_region 7 with fail
        refine wp_region_list ?_
        refine readL (.int .i64 ((1 : Nat) : Int)) rfl (by kernel_rfl) ?_
        simp only [aP, lI, l0, lS]
        refine readL (.int .i64 1) rfl (by kernel_rfl) ?_
        simp only [aP, lI, l0, lS]
        refine readL (.int .i64 ((1 : Nat) : Int)) rfl (by kernel_rfl) ?_
        simp only [aP, lI, l0, lS]
        refine readL (.int .i64 1) rfl (by kernel_rfl) ?_
        simp only [aP, lI, l0, lS]
        first | show Exit.then _ _ _ _ _ | show Exit.inBlock _ _ _ _ _
        go_upto_region 8 with fail
        refine wp_region_list ?_
        refine readL (.int .i64 ((1 : Nat) : Int)) rfl (by kernel_rfl) ?_
        simp only [aP, lI, l0, lS]
        refine readL (.slice rp 10 rc) rfl (by kernel_rfl) ?_
        simp only [aP, lI, l0, lS]
        refine readL (.int .i64 1) rfl (by kernel_rfl) ?_
        simp only [aP, lI, l0, lS]
        have hzz : In 256 10 (fun k => bl b (rof 1 + k)) := fun k hk => hb.bl (rof 1 + k) (by show 1 + k < b.length; omega)
        have hBt := M.lt List.mem_cons_self
        refine callL rfl (fun _ => by kernel_rfl) (vtakefixed_own rp 10 rc (by decide) hrc hrn (fun k => bl b (rof 1 + k)) hzz 1 (by decide) _ hrs) ?_
        rintro e w5 ⟨⟨v, rfl, O_0⟩, l⟩
        have O_2 : OwnN w5 wr.heap.size 9 (fun k => bl b (rof 2 + k)) v := (show Own w5 wr.heap.size 5 .u8 9 _ v from O_0).congr fun k _ => congrArg (bl b) (by show 1 + (1 + k) = 2 + k; omega)
        replace M := M.call l
        obtain ⟨p2, c2, rfl, _, _⟩ := O_2.bytes
        have eg : gN 10 (fun k => bl b (rof 1 + k)) 1 = rnum b 1 := rfl
        have ee : gE 10 1 = 0 := rfl
        rw [eg, ee]
        clear l O_0 hzz hrs hrc hrn eg ee
        refine ⟨_, rfl, ?_⟩
        simp only [aP, lI, l0, lS]
        refine readL (.tuple #[.int .i64 (rnum b 1), .slice p2 9 c2, .int .i64 0]) rfl (by kernel_rfl) ?_
        simp only [aP, lI, l0, lS]
        refine readL (.int .i64 (rnum b 1)) rfl (by kernel_rfl) ?_
        simp only [aP, lI, l0, lS]
        refine readL (.slice p2 9 c2) rfl (by kernel_rfl) ?_
        simp only [aP, lI, l0, lS]
        refine readL (.int .i64 0) rfl (by kernel_rfl) ?_
        simp only [aP, lI, l0, lS]
        refine readL (.pointer (some ⟨B2, 1, none⟩)) rfl (by kernel_rfl) ?_
        simp only [aP, lI, l0, lS]
        refine skipOpL rfl (storeAny (.int .i64 (rnum b 1)) B2 1 3 _ _ rfl rfl rfl rfl rfl (M.isSome List.mem_cons_self 1 (by simp)) (M.free List.mem_cons_self 1 (by simp)) (by kernel_rfl)) ?_
        simp only [Act.put]
        replace M := M.set 1 (by simp) (.int .i64 (rnum b 1))
        replace O_2 := Own.off1 O_2 ((Off.refl [B2] _).set (b := B2) List.mem_cons_self 1 (.int .i64 (rnum b 1))) (by omega)
        generalize w5.setCell ⟨B2, 1, none⟩ (.int .i64 (rnum b 1)) = w6 at M O_2 ⊢
        replace M : Mm w ([(B2, [.int .i64 (rnum b 0), .int .i64 (rnum b 1), .int .i64 0, .int .i64 0, .int .i64 0]), (B1, [.int .i64 0, .int .i64 0, .int .i64 0, .int .i64 0, .int .i64 0, .slice none 0 0])]) w6 := M
        refine readL (.slice p2 9 c2) rfl (by kernel_rfl) ?_
        simp only [aP, lI, l0, lS]
        first | show Exit.then _ _ _ _ _ | show Exit.inBlock _ _ _ _ _
        have HS := show Hid _ from (And.intro M O_2)
        clear M O_2
        go_wp2
        go_roundw
        case rel => first | exact ⟨2, _, _, by decide, by go_num, rfl, HS.out.2.le, HS.out.2.nilCap, HS.out.2.src, HS.out.1⟩ | ((repeat apply Exists.intro); refine ⟨⟨2, _, _, by decide, ?_, rfl, HS.out.2.le, HS.out.2.nilCap, HS.out.2.src, HS.out.1⟩, rfl⟩ <;> first | rfl | go_num)
        case measure => simp [intOf]
      · replace hrc : 9 ≤ rc := hrc
        replace hrs : Src wr rp 9 (fun k => bl b (rof 2 + k)) := hrs
        replace M : Mm w [(B2, [.int .i64 (rnum b 0), .int .i64 (rnum b 1), .int .i64 0, .int .i64 0, .int .i64 0]), (B1, [.int .i64 0, .int .i64 0, .int .i64 0, .int .i64 0, .int .i64 0, .slice none 0 0])] wr := M
        have er : 11 - rof 2 = 9 := rfl
        rw [er]
        clear er
        go_upto_region 6 with fail
        refine wp_region_list ?_
        refine readL (.bool true) rfl (lssI .i64 _ _ _ _ _ _ rfl rfl rfl true (by decide) _) ?_
        simp only [aP, lI, l0, lS]
        first | show Exit.then _ _ _ _ _ | show Exit.inBlock _ _ _ _ _
        go_upto_region 7 with fail
        refine wp_region_list ?_
        refine readL (.int .i64 ((2 : Nat) : Int)) rfl (by kernel_rfl) ?_
        simp only [aP, lI, l0, lS]
        refine readL (.int .i64 1) rfl (by kernel_rfl) ?_
        simp only [aP, lI, l0, lS]
        refine readL (.int .i64 ((2 : Nat) : Int)) rfl (by kernel_rfl) ?_
        simp only [aP, lI, l0, lS]
        refine readL (.int .i64 1) rfl (by kernel_rfl) ?_
        simp only [aP, lI, l0, lS]
        first | show Exit.then _ _ _ _ _ | show Exit.inBlock _ _ _ _ _
        go_upto_region 8 with fail
        refine wp_region_list ?_
        refine readL (.int .i64 ((2 : Nat) : Int)) rfl (by kernel_rfl) ?_
        simp only [aP, lI, l0, lS]
        refine readL (.slice rp 9 rc) rfl (by kernel_rfl) ?_
        simp only [aP, lI, l0, lS]
        refine readL (.int .i64 1) rfl (by kernel_rfl) ?_
        simp only [aP, lI, l0, lS]
        have hzz : In 256 9 (fun k => bl b (rof 2 + k)) := fun k hk => hb.bl (rof 2 + k) (by show 2 + k < b.length; omega)
        have hBt := M.lt List.mem_cons_self
        refine callL rfl (fun _ => by kernel_rfl) (vtakefixed_own rp 9 rc (by decide) hrc hrn (fun k => bl b (rof 2 + k)) hzz 1 (by decide) _ hrs) ?_
        rintro e w7 ⟨⟨v, rfl, O_0⟩, l⟩
        have O_2 : OwnN w7 wr.heap.size 8 (fun k => bl b (rof 3 + k)) v := (show Own w7 wr.heap.size 5 .u8 8 _ v from O_0).congr fun k _ => congrArg (bl b) (by show 2 + (1 + k) = 3 + k; omega)
        replace M := M.call l
        obtain ⟨p2, c2, rfl, _, _⟩ := O_2.bytes
        have eg : gN 9 (fun k => bl b (rof 2 + k)) 1 = rnum b 2 := rfl
        have ee : gE 9 1 = 0 := rfl
        rw [eg, ee]
        clear l O_0 hzz hrs hrc hrn eg ee
        refine ⟨_, rfl, ?_⟩
        simp only [aP, lI, l0, lS]
        refine readL (.tuple #[.int .i64 (rnum b 2), .slice p2 8 c2, .int .i64 0]) rfl (by kernel_rfl) ?_
        simp only [aP, lI, l0, lS]
        refine readL (.int .i64 (rnum b 2)) rfl (by kernel_rfl) ?_
        simp only [aP, lI, l0, lS]
        refine readL (.slice p2 8 c2) rfl (by kernel_rfl) ?_
        simp only [aP, lI, l0, lS]
        refine readL (.int .i64 0) rfl (by kernel_rfl) ?_
        simp only [aP, lI, l0, lS]
        refine readL (.pointer (some ⟨B2, 2, none⟩)) rfl (by kernel_rfl) ?_
        simp only [aP, lI, l0, lS]
        refine skipOpL rfl (storeAny (.int .i64 (rnum b 2)) B2 2 3 _ _ rfl rfl rfl rfl rfl (M.isSome List.mem_cons_self 2 (by simp)) (M.free List.mem_cons_self 2 (by simp)) (by kernel_rfl)) ?_
        simp only [Act.put]
        replace M := M.set 2 (by simp) (.int .i64 (rnum b 2))
        replace O_2 := Own.off1 O_2 ((Off.refl [B2] _).set (b := B2) List.mem_cons_self 2 (.int .i64 (rnum b 2))) (by omega)
        generalize w7.setCell ⟨B2, 2, none⟩ (.int .i64 (rnum b 2)) = w8 at M O_2 ⊢
        replace M : Mm w ([(B2, [.int .i64 (rnum b 0), .int .i64 (rnum b 1), .int .i64 (rnum b 2), .int .i64 0, .int .i64 0]), (B1, [.int .i64 0, .int .i64 0, .int .i64 0, .int .i64 0, .int .i64 0, .slice none 0 0])]) w8 := M
        refine readL (.slice p2 8 c2) rfl (by kernel_rfl) ?_
        simp only [aP, lI, l0, lS]
        first | show Exit.then _ _ _ _ _ | show Exit.inBlock _ _ _ _ _
        have HS := show Hid _ from (And.intro M O_2)
        clear M O_2
        go_wp2
        go_roundw
        case rel => first | exact ⟨3, _, _, by decide, by go_num, rfl, HS.out.2.le, HS.out.2.nilCap, HS.out.2.src, HS.out.1⟩ | ((repeat apply Exists.intro); refine ⟨⟨3, _, _, by decide, ?_, rfl, HS.out.2.le, HS.out.2.nilCap, HS.out.2.src, HS.out.1⟩, rfl⟩ <;> first | rfl | go_num)
        case measure => simp [intOf]
      · replace hrc : 8 ≤ rc := hrc
        replace hrs : Src wr rp 8 (fun k => bl b (rof 3 + k)) := hrs
        replace M : Mm w [(B2, [.int .i64 (rnum b 0), .int .i64 (rnum b 1), .int .i64 (rnum b 2), .int .i64 0, .int .i64 0]), (B1, [.int .i64 0, .int .i64 0, .int .i64 0, .int .i64 0, .int .i64 0, .slice none 0 0])] wr := M
        have er : 11 - rof 3 = 8 := rfl
        rw [er]
        clear er
        go_upto_region 6 with fail
        refine wp_region_list ?_
        refine readL (.bool true) rfl (lssI .i64 _ _ _ _ _ _ rfl rfl rfl true (by decide) _) ?_
        simp only [aP, lI, l0, lS]
        first | show Exit.then _ _ _ _ _ | show Exit.inBlock _ _ _ _ _
        go_upto_region 7 with fail
        refine wp_region_list ?_
        refine readL (.int .i64 ((3 : Nat) : Int)) rfl (by kernel_rfl) ?_
        simp only [aP, lI, l0, lS]
        refine readL (.int .i64 2) rfl (by kernel_rfl) ?_
        simp only [aP, lI, l0, lS]
        refine readL (.int .i64 ((3 : Nat) : Int)) rfl (by kernel_rfl) ?_
        simp only [aP, lI, l0, lS]
        refine readL (.int .i64 2) rfl (by kernel_rfl) ?_
        simp only [aP, lI, l0, lS]
        first | show Exit.then _ _ _ _ _ | show Exit.inBlock _ _ _ _ _
        go_upto_region 8 with fail
        refine wp_region_list ?_
        refine readL (.int .i64 ((3 : Nat) : Int)) rfl (by kernel_rfl) ?_
        simp only [aP, lI, l0, lS]
        refine readL (.slice rp 8 rc) rfl (by kernel_rfl) ?_
        simp only [aP, lI, l0, lS]
        refine readL (.int .i64 2) rfl (by kernel_rfl) ?_
        simp only [aP, lI, l0, lS]
        have hzz : In 256 8 (fun k => bl b (rof 3 + k)) := fun k hk => hb.bl (rof 3 + k) (by show 3 + k < b.length; omega)
        have hBt := M.lt List.mem_cons_self
        refine callL rfl (fun _ => by kernel_rfl) (vtakefixed_own rp 8 rc (by decide) hrc hrn (fun k => bl b (rof 3 + k)) hzz 2 (by decide) _ hrs) ?_
        rintro e w9 ⟨⟨v, rfl, O_0⟩, l⟩
        have O_2 : OwnN w9 wr.heap.size 6 (fun k => bl b (rof 4 + k)) v := (show Own w9 wr.heap.size 5 .u8 6 _ v from O_0).congr fun k _ => congrArg (bl b) (by show 3 + (2 + k) = 5 + k; omega)
        replace M := M.call l
        obtain ⟨p2, c2, rfl, _, _⟩ := O_2.bytes
        have eg : gN 8 (fun k => bl b (rof 3 + k)) 2 = rnum b 3 := rfl
        have ee : gE 8 2 = 0 := rfl
        rw [eg, ee]
        clear l O_0 hzz hrs hrc hrn eg ee
        refine ⟨_, rfl, ?_⟩
        simp only [aP, lI, l0, lS]
        refine readL (.tuple #[.int .i64 (rnum b 3), .slice p2 6 c2, .int .i64 0]) rfl (by kernel_rfl) ?_
        simp only [aP, lI, l0, lS]
        refine readL (.int .i64 (rnum b 3)) rfl (by kernel_rfl) ?_
        simp only [aP, lI, l0, lS]
        refine readL (.slice p2 6 c2) rfl (by kernel_rfl) ?_
        simp only [aP, lI, l0, lS]
        refine readL (.int .i64 0) rfl (by kernel_rfl) ?_
        simp only [aP, lI, l0, lS]
        refine readL (.pointer (some ⟨B2, 3, none⟩)) rfl (by kernel_rfl) ?_
        simp only [aP, lI, l0, lS]
        refine skipOpL rfl (storeAny (.int .i64 (rnum b 3)) B2 3 3 _ _ rfl rfl rfl rfl rfl (M.isSome List.mem_cons_self 3 (by simp)) (M.free List.mem_cons_self 3 (by simp)) (by kernel_rfl)) ?_
        simp only [Act.put]
        replace M := M.set 3 (by simp) (.int .i64 (rnum b 3))
        replace O_2 := Own.off1 O_2 ((Off.refl [B2] _).set (b := B2) List.mem_cons_self 3 (.int .i64 (rnum b 3))) (by omega)
        generalize w9.setCell ⟨B2, 3, none⟩ (.int .i64 (rnum b 3)) = w10 at M O_2 ⊢
        replace M : Mm w ([(B2, [.int .i64 (rnum b 0), .int .i64 (rnum b 1), .int .i64 (rnum b 2), .int .i64 (rnum b 3), .int .i64 0]), (B1, [.int .i64 0, .int .i64 0, .int .i64 0, .int .i64 0, .int .i64 0, .slice none 0 0])]) w10 := M
        refine readL (.slice p2 6 c2) rfl (by kernel_rfl) ?_
        simp only [aP, lI, l0, lS]
        first | show Exit.then _ _ _ _ _ | show Exit.inBlock _ _ _ _ _
        have HS := show Hid _ from (And.intro M O_2)
        clear M O_2
        go_wp2
        go_roundw
        case rel => first | exact ⟨4, _, _, by decide, by go_num, rfl, HS.out.2.le, HS.out.2.nilCap, HS.out.2.src, HS.out.1⟩ | ((repeat apply Exists.intro); refine ⟨⟨4, _, _, by decide, ?_, rfl, HS.out.2.le, HS.out.2.nilCap, HS.out.2.src, HS.out.1⟩, rfl⟩ <;> first | rfl | go_num)
        case measure => simp [intOf]
      · replace hrc : 6 ≤ rc := hrc
        replace hrs : Src wr rp 6 (fun k => bl b (rof 4 + k)) := hrs
        replace M : Mm w [(B2, [.int .i64 (rnum b 0), .int .i64 (rnum b 1), .int .i64 (rnum b 2), .int .i64 (rnum b 3), .int .i64 0]), (B1, [.int .i64 0, .int .i64 0, .int .i64 0, .int .i64 0, .int .i64 0, .slice none 0 0])] wr := M
        have er : 11 - rof 4 = 6 := rfl
        rw [er]
        clear er
        go_upto_region 6 with fail
        refine wp_region_list ?_
        refine readL (.bool true) rfl (lssI .i64 _ _ _ _ _ _ rfl rfl rfl true (by decide) _) ?_
        simp only [aP, lI, l0, lS]
        first | show Exit.then _ _ _ _ _ | show Exit.inBlock _ _ _ _ _
        go_upto_region 7 with fail
        refine wp_region_list ?_
        refine readL (.int .i64 ((4 : Nat) : Int)) rfl (by kernel_rfl) ?_
        simp only [aP, lI, l0, lS]
        refine readL (.int .i64 6) rfl (by kernel_rfl) ?_
        simp only [aP, lI, l0, lS]
        refine readL (.int .i64 ((4 : Nat) : Int)) rfl (by kernel_rfl) ?_
        simp only [aP, lI, l0, lS]
        refine readL (.int .i64 6) rfl (by kernel_rfl) ?_
        simp only [aP, lI, l0, lS]
        first | show Exit.then _ _ _ _ _ | show Exit.inBlock _ _ _ _ _
        go_upto_region 8 with fail
        refine wp_region_list ?_
        refine readL (.int .i64 ((4 : Nat) : Int)) rfl (by kernel_rfl) ?_
        simp only [aP, lI, l0, lS]
        refine readL (.slice rp 6 rc) rfl (by kernel_rfl) ?_
        simp only [aP, lI, l0, lS]
        refine readL (.int .i64 6) rfl (by kernel_rfl) ?_
        simp only [aP, lI, l0, lS]
        have hzz : In 256 6 (fun k => bl b (rof 4 + k)) := fun k hk => hb.bl (rof 4 + k) (by show 5 + k < b.length; omega)
        have hBt := M.lt List.mem_cons_self
        refine callL rfl (fun _ => by kernel_rfl) (vtakefixed_own rp 6 rc (by decide) hrc hrn (fun k => bl b (rof 4 + k)) hzz 6 (by decide) _ hrs) ?_
        rintro e w11 ⟨⟨v, rfl, O_0⟩, l⟩
        have O_2 : OwnN w11 wr.heap.size 0 (fun k => bl b (rof 5 + k)) v := (show Own w11 wr.heap.size 5 .u8 0 _ v from O_0).congr fun k _ => congrArg (bl b) (by show 5 + (6 + k) = 11 + k; omega)
        replace M := M.call l
        obtain ⟨p2, c2, rfl, _, _⟩ := O_2.bytes
        have eg : gN 6 (fun k => bl b (rof 4 + k)) 6 = rnum b 4 := rfl
        have ee : gE 6 6 = 0 := rfl
        rw [eg, ee]
        clear l O_0 hzz hrs hrc hrn eg ee
        refine ⟨_, rfl, ?_⟩
        simp only [aP, lI, l0, lS]
        refine readL (.tuple #[.int .i64 (rnum b 4), .slice p2 0 c2, .int .i64 0]) rfl (by kernel_rfl) ?_
        simp only [aP, lI, l0, lS]
        refine readL (.int .i64 (rnum b 4)) rfl (by kernel_rfl) ?_
        simp only [aP, lI, l0, lS]
        refine readL (.slice p2 0 c2) rfl (by kernel_rfl) ?_
        simp only [aP, lI, l0, lS]
        refine readL (.int .i64 0) rfl (by kernel_rfl) ?_
        simp only [aP, lI, l0, lS]
        refine readL (.pointer (some ⟨B2, 4, none⟩)) rfl (by kernel_rfl) ?_
        simp only [aP, lI, l0, lS]
        refine skipOpL rfl (storeAny (.int .i64 (rnum b 4)) B2 4 3 _ _ rfl rfl rfl rfl rfl (M.isSome List.mem_cons_self 4 (by simp)) (M.free List.mem_cons_self 4 (by simp)) (by kernel_rfl)) ?_
        simp only [Act.put]
        replace M := M.set 4 (by simp) (.int .i64 (rnum b 4))
        replace O_2 := Own.off1 O_2 ((Off.refl [B2] _).set (b := B2) List.mem_cons_self 4 (.int .i64 (rnum b 4))) (by omega)
        generalize w11.setCell ⟨B2, 4, none⟩ (.int .i64 (rnum b 4)) = w12 at M O_2 ⊢
        replace M : Mm w ([(B2, [.int .i64 (rnum b 0), .int .i64 (rnum b 1), .int .i64 (rnum b 2), .int .i64 (rnum b 3), .int .i64 (rnum b 4)]), (B1, [.int .i64 0, .int .i64 0, .int .i64 0, .int .i64 0, .int .i64 0, .slice none 0 0])]) w12 := M
        refine readL (.slice p2 0 c2) rfl (by kernel_rfl) ?_
        simp only [aP, lI, l0, lS]
        first | show Exit.then _ _ _ _ _ | show Exit.inBlock _ _ _ _ _
        have HS := show Hid _ from (And.intro M O_2)
        clear M O_2
        go_wp2
        go_roundw
        case rel => first | exact ⟨5, _, _, by decide, by go_num, rfl, HS.out.2.le, HS.out.2.nilCap, HS.out.2.src, HS.out.1⟩ | ((repeat apply Exists.intro); refine ⟨⟨5, _, _, by decide, ?_, rfl, HS.out.2.le, HS.out.2.nilCap, HS.out.2.src, HS.out.1⟩, rfl⟩ <;> first | rfl | go_num)
        case measure => simp [intOf]
      · clear hrs hrc hrn
        replace M : Mm w [(B2, [.int .i64 (rnum b 0), .int .i64 (rnum b 1), .int .i64 (rnum b 2), .int .i64 (rnum b 3), .int .i64 (rnum b 4)]), (B1, [.int .i64 0, .int .i64 0, .int .i64 0, .int .i64 0, .int .i64 0, .slice none 0 0])] wr := M
        go_upto_region 6 with fail
        refine wp_region_list ?_
        refine readL (.bool false) rfl (lssI .i64 _ _ _ _ _ _ rfl rfl rfl false (by decide) _) ?_
        simp only [aP, lI, l0, lS]
        first | show Exit.then _ _ _ _ _ | show Exit.inBlock _ _ _ _ _
        obtain ⟨qb, hqb, hqs, hqn⟩ := cut_loA (P := Tryd.prog) (t := 22) (by kernel_rfl) (fun _ => by kernel_rfl) (some ad) b.length cap 11 (by omega) hcap (fun e => by cases e)
        have hdl : b.length - 11 = (b.drop 11).length := by rw [List.length_drop]
        have hsb : Src w0 qb (b.drop 11).length (bl (b.drop 11)) := by
          have h := (hqs [] _ _ ⟨hs0, fun _ _ _ h => by cases h⟩).1
          rw [hdl] at h
          exact h.congr fun j _ => (bl_drop b 11 j).symm
        rw [hdl] at hqb
        have hcb : (b.drop 11).length ≤ cap - 11 := by omega
        have hmb : (b.drop 11).length ≤ 140737488351232 := by omega
        clear hqs hdl
        replace M := M.swap
        have hI2 : ∀ k, k < 5 → i64 (rnum b k) := fun k hk => by
          have : k = 0 ∨ k = 1 ∨ k = 2 ∨ k = 3 ∨ k = 4 := by omega
          rcases this with rfl | rfl | rfl | rfl | rfl <;> exact fV_i64 _ _ (by decide) (fun i hi => hb.bl _ (by have : i < 6 := Nat.lt_of_lt_of_le hi (by decide); show _ + i < b.length; first | (show 0 + i < _; omega) | (show 1 + i < _; omega) | (show 2 + i < _; omega) | (show 3 + i < _; omega) | (show 5 + i < _; omega)))
        have hpv : PV w0 (prs b) qb (cap - 11) := by rw [prs_rec h3]; exact ⟨hsb, hcb, hqn, hmb, hb.drop 11, hI2 0 (by decide), hI2 1 (by decide), hI2 2 (by decide), hI2 3 (by decide), hI2 4 (by decide)⟩
        have hpe : pcs (prs b) qb (cap - 11) = [.int .i64 (rnum b 0), .int .i64 (rnum b 1), .int .i64 (rnum b 2), .int .i64 (rnum b 3), .int .i64 (rnum b 4), .slice qb (b.drop 11).length (cap - 11)] := by rw [prs_rec h3]; rfl
        clear hI2
        go_upto_region 10 with fail
        refine wp_region_held_drew (S := fun w' => ∃ cs, Mm w ((B1, cs) :: [(B2, [.int .i64 (rnum b 0), .int .i64 (rnum b 1), .int .i64 (rnum b 2), .int .i64 (rnum b 3), .int .i64 (rnum b 4)])]) w') (by kernel_rfl) ⟨_, M.drew⟩ ?_
        intro _
        replace M := M.drew
        generalize wr.drew = wd at M ⊢
        refine readH (i := 0) (some 35) rfl (.pointer (some ⟨B2, 0, none⟩)) rfl rfl (fun _ _ => by kernel_rfl) (by kernel_rfl) (by kernel_rfl) (by kernel_rfl) (fun _ _ _ h => h) ⟨_, M⟩ ?_
        simp only [aP, lI, l0, lS]
        refine readH (i := 1) (some 36) rfl (.int .i64 (rnum b 0)) rfl rfl (fun _ hS => by obtain ⟨cs, M⟩ := hS; exact load1 3 _ ⟨B2, 0, none⟩ _ rfl rfl (fun _ => by kernel_rfl) (M.get (List.mem_cons_of_mem _ List.mem_cons_self) 0 _ rfl)) (by kernel_rfl) (by kernel_rfl) (by kernel_rfl) (fun _ _ _ h => h) ⟨_, M⟩ ?_
        simp only [aP, lI, l0, lS]
        refine readH (i := 2) (some 37) rfl (.pointer (some ⟨B2, 1, none⟩)) rfl rfl (fun _ _ => by kernel_rfl) (by kernel_rfl) (by kernel_rfl) (by kernel_rfl) (fun _ _ _ h => h) ⟨_, M⟩ ?_
        simp only [aP, lI, l0, lS]
        refine readH (i := 3) (some 38) rfl (.int .i64 (rnum b 1)) rfl rfl (fun _ hS => by obtain ⟨cs, M⟩ := hS; exact load1 3 _ ⟨B2, 1, none⟩ _ rfl rfl (fun _ => by kernel_rfl) (M.get (List.mem_cons_of_mem _ List.mem_cons_self) 1 _ rfl)) (by kernel_rfl) (by kernel_rfl) (by kernel_rfl) (fun _ _ _ h => h) ⟨_, M⟩ ?_
        simp only [aP, lI, l0, lS]
        refine readH (i := 4) (some 39) rfl (.pointer (some ⟨B2, 2, none⟩)) rfl rfl (fun _ _ => by kernel_rfl) (by kernel_rfl) (by kernel_rfl) (by kernel_rfl) (fun _ _ _ h => h) ⟨_, M⟩ ?_
        simp only [aP, lI, l0, lS]
        refine readH (i := 5) (some 40) rfl (.int .i64 (rnum b 2)) rfl rfl (fun _ hS => by obtain ⟨cs, M⟩ := hS; exact load1 3 _ ⟨B2, 2, none⟩ _ rfl rfl (fun _ => by kernel_rfl) (M.get (List.mem_cons_of_mem _ List.mem_cons_self) 2 _ rfl)) (by kernel_rfl) (by kernel_rfl) (by kernel_rfl) (fun _ _ _ h => h) ⟨_, M⟩ ?_
        simp only [aP, lI, l0, lS]
        refine readH (i := 6) (some 41) rfl (.pointer (some ⟨B2, 3, none⟩)) rfl rfl (fun _ _ => by kernel_rfl) (by kernel_rfl) (by kernel_rfl) (by kernel_rfl) (fun _ _ _ h => h) ⟨_, M⟩ ?_
        simp only [aP, lI, l0, lS]
        refine readH (i := 7) (some 42) rfl (.int .i64 (rnum b 3)) rfl rfl (fun _ hS => by obtain ⟨cs, M⟩ := hS; exact load1 3 _ ⟨B2, 3, none⟩ _ rfl rfl (fun _ => by kernel_rfl) (M.get (List.mem_cons_of_mem _ List.mem_cons_self) 3 _ rfl)) (by kernel_rfl) (by kernel_rfl) (by kernel_rfl) (fun _ _ _ h => h) ⟨_, M⟩ ?_
        simp only [aP, lI, l0, lS]
        refine readH (i := 8) (some 43) rfl (.pointer (some ⟨B2, 4, none⟩)) rfl rfl (fun _ _ => by kernel_rfl) (by kernel_rfl) (by kernel_rfl) (by kernel_rfl) (fun _ _ _ h => h) ⟨_, M⟩ ?_
        simp only [aP, lI, l0, lS]
        refine readH (i := 9) (some 44) rfl (.int .i64 (rnum b 4)) rfl rfl (fun _ hS => by obtain ⟨cs, M⟩ := hS; exact load1 3 _ ⟨B2, 4, none⟩ _ rfl rfl (fun _ => by kernel_rfl) (M.get (List.mem_cons_of_mem _ List.mem_cons_self) 4 _ rfl)) (by kernel_rfl) (by kernel_rfl) (by kernel_rfl) (fun _ _ _ h => h) ⟨_, M⟩ ?_
        simp only [aP, lI, l0, lS]
        refine readH (i := 10) (some 45) rfl (.slice (some ad) b.length cap) rfl rfl (fun _ _ => by kernel_rfl) (by kernel_rfl) (by kernel_rfl) (by kernel_rfl) (fun _ _ _ h => h) ⟨_, M⟩ ?_
        simp only [aP, lI, l0, lS]
        refine readH (i := 11) (some 46) rfl (.slice qb (b.drop 11).length (cap - 11)) rfl rfl (fun _ _ => cutOp _ _ _ _ _ _ rfl rfl rfl (hqb _)) (by kernel_rfl) (by kernel_rfl) (by kernel_rfl) (fun _ _ _ h => h) ⟨_, M⟩ ?_
        simp only [aP, lI, l0, lS]
        refine readH (i := 12) (some 47) rfl (.agg #[.int .i64 (rnum b 0), .int .i64 (rnum b 1), .int .i64 (rnum b 2), .int .i64 (rnum b 3), .int .i64 (rnum b 4), .slice qb ((b.drop 11).length) (cap - 11)]) rfl rfl (fun _ _ => by kernel_rfl) (by kernel_rfl) (by kernel_rfl) (by kernel_rfl) (fun _ _ _ h => h) ⟨_, M⟩ ?_
        simp only [aP, lI, l0, lS]
        have M2 := M.setPart [.int .i64 (rnum b 0), .int .i64 (rnum b 1), .int .i64 (rnum b 2), .int .i64 (rnum b 3), .int .i64 (rnum b 4), .slice qb ((b.drop 11).length) (cap - 11)] 0 (Nat.le_of_ble_eq_true rfl)
        refine doesH (i := 13) none rfl (by kernel_rfl) rfl rfl (storeP [.int .i64 (rnum b 0), .int .i64 (rnum b 1), .int .i64 (rnum b 2), .int .i64 (rnum b 3), .int .i64 (rnum b 4), .slice qb ((b.drop 11).length) (cap - 11)] B1 0 24 _ _ rfl rfl rfl (M.thereP List.mem_cons_self 0 6 (Nat.le_of_ble_eq_true rfl)) (by kernel_rfl) (List.all_eq_true.1 (rfl : ([.int .i64 (rnum b 0), .int .i64 (rnum b 1), .int .i64 (rnum b 2), .int .i64 (rnum b 3), .int .i64 (rnum b 4), .slice qb ((b.drop 11).length) (cap - 11)] : List Value).all (fun u => u.oneCell') = true))) ⟨_, M2⟩ ?_
        simp only [Act.put]
        clear M
        generalize wd.setCells B1 0 [.int .i64 (rnum b 0), .int .i64 (rnum b 1), .int .i64 (rnum b 2), .int .i64 (rnum b 3), .int .i64 (rnum b 4), .slice qb ((b.drop 11).length) (cap - 11)] = we at M2 ⊢
        refine wpAnyH_done (by kernel_rfl) ?_ _
        first | show Exit.then _ _ _ _ _ | show Exit.inBlock _ _ _ _ _
        have c1_ := M2.part List.mem_cons_self 0 [.int .i64 (rnum b 0), .int .i64 (rnum b 1), .int .i64 (rnum b 2), .int .i64 (rnum b 3), .int .i64 (rnum b 4), .slice qb ((b.drop 11).length) (cap - 11)] rfl
        have hM := M2.below
        clear M2
        have hS := show Hid _ from (And.intro hpv hpe)
        clear hpv hpe hsb hcb hmb
        go_wp2
        refine bodyPost_ret (v := .agg (pcs (prs b) qb (cap - 11)).toArray) (by rw [hS.out.2]; exact retCell 2 24 ⟨B1, 0, none⟩ [.int .i64 (rnum b 0), .int .i64 (rnum b 1), .int .i64 (rnum b 2), .int .i64 (rnum b 3), .int .i64 (rnum b 4), .slice qb ((b.drop 11).length) (cap - 11)] rfl rfl (fun _ => by kernel_rfl) (fun _ => by kernel_rfl) c1_) rfl ?_
        exact ⟨⟨qb, cap - 11, rfl, hS.out.1⟩, hM⟩
  · go_upto_region 1 with fail
    refine wp_region_list ?_
    refine readL (.slice (some ad) b.length cap) rfl (by kernel_rfl) ?_
    simp only [aP, lI, l0, lS]
    refine readL (.pointer (some (ad.add 0))) rfl (idxSl 22 5 b.length cap .i64 ad 0 _ _ Tryd.underlying22 (fun _ => by kernel_rfl) (by omega) rfl rfl rfl _) ?_
    simp only [aP, lI, l0, lS]
    refine readL (.int .u8 (bl b 0)) rfl (load1 5 _ (ad.add 0) _ rfl rfl (fun _ => by kernel_rfl) ((hs.below M.below (Nat.le_refl _)).at 0 (by omega))) ?_
    simp only [aP, lI, l0, lS]
    refine readL (.bool true) rfl (neqI .u8 _ _ _ _ _ _ rfl rfl rfl true (by simpa using h3) _) ?_
    simp only [aP, lI, l0, lS]
    first | show Exit.then _ _ _ _ _ | show Exit.inBlock _ _ _ _ _
    obtain ⟨qb, hqb, hqs, hqn⟩ := cut_loA (P := Tryd.prog) (t := 22) (by kernel_rfl) (fun _ => by kernel_rfl) (some ad) b.length cap 1 (by omega) hcap (fun e => by cases e)
    have hdl : b.length - 1 = (b.drop 1).length := by rw [List.length_drop]
    have hsb : Src w0 qb (b.drop 1).length (bl (b.drop 1)) := by
      have h := (hqs [] _ _ ⟨hs0, fun _ _ _ h => by cases h⟩).1
      rw [hdl] at h
      exact h.congr fun j _ => (bl_drop b 1 j).symm
    rw [hdl] at hqb
    have hcb : (b.drop 1).length ≤ cap - 1 := by omega
    have hmb : (b.drop 1).length ≤ 140737488351232 := by omega
    clear hqs hdl
    have hpv : PV w0 (prs b) qb (cap - 1) := by rw [prs_other h3]; exact ⟨hsb, hcb, hqn, hmb, hb.drop 1, i64_byte hx0, i64_0, i64_0, i64_0, i64_0⟩
    have hpe : pcs (prs b) qb (cap - 1) = [.int .i64 (bl b 0), .int .i64 0, .int .i64 0, .int .i64 0, .int .i64 0, .slice qb (b.drop 1).length (cap - 1)] := by rw [prs_other h3]; rfl
    go_upto_region 2 with fail
    refine wp_region_held_drew (S := fun w' => ∃ cs, Mm w ((B1, cs) :: []) w') (by kernel_rfl) ⟨_, M.drew⟩ ?_
    intro _
    replace M := M.drew
    generalize w1.drew = wd at M ⊢
    refine readH (i := 0) (some 11) rfl (.slice (some ad) b.length cap) rfl rfl (fun _ _ => by kernel_rfl) (by kernel_rfl) (by kernel_rfl) (by kernel_rfl) (fun _ _ _ h => h) ⟨_, M⟩ ?_
    simp only [aP, lI, l0, lS]
    refine readH (i := 1) (some 12) rfl (.pointer (some (ad.add 0))) rfl rfl (fun w _ => idxSl 22 5 b.length cap .i64 ad 0 _ _ Tryd.underlying22 (fun _ => by kernel_rfl) (by omega) rfl rfl rfl w) (by kernel_rfl) (by kernel_rfl) (by kernel_rfl) (fun _ _ _ h => h) ⟨_, M⟩ ?_
    simp only [aP, lI, l0, lS]
    refine readH (i := 2) (some 13) rfl (.int .u8 (bl b 0)) rfl rfl (fun _ hS => by obtain ⟨cs, M⟩ := hS; exact load1 5 _ (ad.add 0) _ rfl rfl (fun _ => by kernel_rfl) ((hs.below M.below (Nat.le_refl _)).at 0 (by omega))) (by kernel_rfl) (by kernel_rfl) (by kernel_rfl) (fun _ _ _ h => h) ⟨_, M⟩ ?_
    simp only [aP, lI, l0, lS]
    refine readH (i := 3) (some 14) rfl (.int .i64 (bl b 0)) rfl rfl (fun w _ => convI .u8 .i64 _ _ _ _ _ rfl (by kernel_rfl) Tryd.underlying3 (by kernel_rfl) rfl (by rw [IntKind.wrap_i64]; omega) w) (by kernel_rfl) (by kernel_rfl) (by kernel_rfl) (fun _ _ _ h => h) ⟨_, M⟩ ?_
    simp only [aP, lI, l0, lS]
    refine readH (i := 4) (some 15) rfl (.slice (some ad) b.length cap) rfl rfl (fun _ _ => by kernel_rfl) (by kernel_rfl) (by kernel_rfl) (by kernel_rfl) (fun _ _ _ h => h) ⟨_, M⟩ ?_
    simp only [aP, lI, l0, lS]
    refine readH (i := 5) (some 16) rfl (.slice qb (b.drop 1).length (cap - 1)) rfl rfl (fun _ _ => cutOp _ _ _ _ _ _ rfl rfl rfl (hqb _)) (by kernel_rfl) (by kernel_rfl) (by kernel_rfl) (fun _ _ _ h => h) ⟨_, M⟩ ?_
    simp only [aP, lI, l0, lS]
    refine readH (i := 6) (some 17) rfl (.agg #[.int .i64 (bl b 0), .int .i64 0, .int .i64 0, .int .i64 0, .int .i64 0, .slice qb ((b.drop 1).length) (cap - 1)]) rfl rfl (fun _ _ => by kernel_rfl) (by kernel_rfl) (by kernel_rfl) (by kernel_rfl) (fun _ _ _ h => h) ⟨_, M⟩ ?_
    simp only [aP, lI, l0, lS]
    have M2 := M.setPart [.int .i64 (bl b 0), .int .i64 0, .int .i64 0, .int .i64 0, .int .i64 0, .slice qb ((b.drop 1).length) (cap - 1)] 0 (Nat.le_of_ble_eq_true rfl)
    refine doesH (i := 7) none rfl (by kernel_rfl) rfl rfl (storeP [.int .i64 (bl b 0), .int .i64 0, .int .i64 0, .int .i64 0, .int .i64 0, .slice qb ((b.drop 1).length) (cap - 1)] B1 0 24 _ _ rfl rfl rfl (M.thereP List.mem_cons_self 0 6 (Nat.le_of_ble_eq_true rfl)) (by kernel_rfl) (List.all_eq_true.1 (rfl : ([.int .i64 (bl b 0), .int .i64 0, .int .i64 0, .int .i64 0, .int .i64 0, .slice qb ((b.drop 1).length) (cap - 1)] : List Value).all (fun u => u.oneCell') = true))) ⟨_, M2⟩ ?_
    simp only [Act.put]
    clear M
    generalize wd.setCells B1 0 [.int .i64 (bl b 0), .int .i64 0, .int .i64 0, .int .i64 0, .int .i64 0, .slice qb ((b.drop 1).length) (cap - 1)] = we at M2 ⊢
    refine wpAnyH_done (by kernel_rfl) ?_ _
    first | show Exit.then _ _ _ _ _ | show Exit.inBlock _ _ _ _ _
    have c1_ := M2.part List.mem_cons_self 0 [.int .i64 (bl b 0), .int .i64 0, .int .i64 0, .int .i64 0, .int .i64 0, .slice qb ((b.drop 1).length) (cap - 1)] rfl
    have hM := M2.below
    clear M2
    have hS := show Hid _ from (And.intro hpv hpe)
    clear hpv hpe hsb hcb hmb
    go_wp2
    refine bodyPost_ret (v := .agg (pcs (prs b) qb (cap - 1)).toArray) (by rw [hS.out.2]; exact retCell 2 24 ⟨B1, 0, none⟩ [.int .i64 (bl b 0), .int .i64 0, .int .i64 0, .int .i64 0, .int .i64 0, .slice qb ((b.drop 1).length) (cap - 1)] rfl rfl (fun _ => by kernel_rfl) (fun _ => by kernel_rfl) c1_) rfl ?_
    exact ⟨⟨qb, cap - 1, rfl, hS.out.1⟩, hM⟩

set_option maxRecDepth 10000 in
set_option maxHeartbeats 32000000 in
theorem vparse_any : ParseOK := by
  intro sp cap b w hg hlen hcap hnil hb hs
  have M := Mm.init w
  go_enter Tryd.func15, Tryd.ntmps15
  go_upto_region 0 with fail
  refine wp_region_list ?_
  refine actL (w' := w.alloc (.cells #[.int .i64 0, .int .i64 0, .int .i64 0, .int .i64 0, .int .i64 0, .slice none 0 0] 24)) (.pointer (some ⟨w.heap.size, 0, none⟩)) rfl (by kernel_rfl) ?_
  simp only [aP, lI, l0, lS]
  have hB_B1 : w.heap.size ≤ w.heap.size := M.below.size
  replace M := M.box #[.int .i64 0, .int .i64 0, .int .i64 0, .int .i64 0, .int .i64 0, .slice none 0 0] 24 w.heap.size rfl
  generalize w.alloc (.cells #[.int .i64 0, .int .i64 0, .int .i64 0, .int .i64 0, .int .i64 0, .slice none 0 0] 24) = w1 at M  ⊢
  generalize eB : w.heap.size = B1 at M hB_B1  ⊢
  have hE_B1 : w.heap.size ≤ B1 := Nat.le_of_eq eB
  have hF_B1 : B1 ≤ w.heap.size := Nat.le_of_eq eB.symm
  clear eB
  replace M : Mm w ([(B1, [.int .i64 0, .int .i64 0, .int .i64 0, .int .i64 0, .int .i64 0, .slice none 0 0])]) w1 := M
  refine readL (.int .i64 0) rfl (by kernel_rfl) ?_
  simp only [aP, lI, l0, lS]
  first | show Exit.then _ _ _ _ _ | show Exit.inBlock _ _ _ _ _
  by_cases h0 : b.length = 0
  · have hQ := show Hid _ from ps_err (pps_short (b := b) (.inl h0))
    go_upto_region 1 with fail
    refine wp_region_list ?_
    refine readL (.slice sp b.length cap) rfl (by kernel_rfl) ?_
    simp only [aP, lI, l0, lS]
    refine readL (.int .i64 ((b.length : Nat) : Int)) rfl (lenS _ 22 5 sp b.length cap rfl Tryd.underlying22 rfl _) ?_
    simp only [aP, lI, l0, lS]
    refine readL (.bool true) rfl (eqlI .i64 _ _ _ _ _ _ rfl rfl rfl true (by rw [h0]; rfl) _) ?_
    simp only [aP, lI, l0, lS]
    refine readL (.bool true) rfl (by kernel_rfl) ?_
    simp only [aP, lI, l0, lS]
    with_reducible refine skipL ?_ ?_
    · rfl
    simp only [aP, lI, l0, lS]
    with_reducible refine skipL ?_ ?_
    · rfl
    simp only [aP, lI, l0, lS]
    with_reducible refine skipL ?_ ?_
    · rfl
    simp only [aP, lI, l0, lS]
    with_reducible refine skipL ?_ ?_
    · rfl
    simp only [aP, lI, l0, lS]
    with_reducible refine skipL ?_ ?_
    · rfl
    simp only [aP, lI, l0, lS]
    with_reducible refine skipL ?_ ?_
    · rfl
    simp only [aP, lI, l0, lS]
    with_reducible refine skipL ?_ ?_
    · rfl
    simp only [aP, lI, l0, lS]
    with_reducible refine skipL ?_ ?_
    · rfl
    simp only [aP, lI, l0, lS]
    with_reducible refine skipL ?_ ?_
    · rfl
    simp only [aP, lI, l0, lS]
    refine readL (.bool true) rfl (by kernel_rfl) ?_
    simp only [aP, lI, l0, lS]
    first | show Exit.then _ _ _ _ _ | show Exit.inBlock _ _ _ _ _
    go_upto_region 2 with fail
    refine wp_region_list ?_
    refine readL (.agg #[.int .i64 0, .int .i64 0, .int .i64 0, .int .i64 0, .int .i64 0, .slice none 0 0]) rfl (by kernel_rfl) ?_
    simp only [aP, lI, l0, lS]
    refine skipOpL rfl (storeP [.int .i64 0, .int .i64 0, .int .i64 0, .int .i64 0, .int .i64 0, .slice none 0 0] B1 0 24 _ _ rfl rfl rfl (M.thereP List.mem_cons_self 0 6 (Nat.le_of_ble_eq_true rfl)) (by kernel_rfl) (List.all_eq_true.1 (rfl : ([.int .i64 0, .int .i64 0, .int .i64 0, .int .i64 0, .int .i64 0, .slice none 0 0] : List Value).all (fun u => u.oneCell') = true))) ?_
    simp only [Act.put]
    replace M := M.setPart [.int .i64 0, .int .i64 0, .int .i64 0, .int .i64 0, .int .i64 0, .slice none 0 0] 0 (Nat.le_of_ble_eq_true rfl)
    generalize w1.setCells B1 0 [.int .i64 0, .int .i64 0, .int .i64 0, .int .i64 0, .int .i64 0, .slice none 0 0] = w2 at M  ⊢
    replace M : Mm w ([(B1, [.int .i64 0, .int .i64 0, .int .i64 0, .int .i64 0, .int .i64 0, .slice none 0 0])]) w2 := M
    refine readL (.int .i64 3) rfl (by kernel_rfl) ?_
    simp only [aP, lI, l0, lS]
    first | show Exit.then _ _ _ _ _ | show Exit.inBlock _ _ _ _ _
    have hpv := show Hid _ from (pv0 w2)
    have c1_ := M.part List.mem_cons_self 0 (pcs pk0 none 0) rfl
    have hM := M.below
    clear M
    go_wp2
    refine bodyPost_ret (v := .tuple #[.agg (pcs pk0 none 0).toArray, .int .i64 3]) (retCellTmp 2 3 24 ⟨B1, 0, none⟩ (pcs pk0 none 0) _ rfl rfl rfl (fun _ => by kernel_rfl) (fun _ => by kernel_rfl) c1_) rfl ?_
    exact ⟨⟨_, _, by rw [hQ.out.1, hQ.out.2], by rw [hQ.out.1]; exact hpv.out⟩, hM⟩
  · have hpos : 0 < b.length := by omega
    obtain ⟨ad, rfl, _⟩ := hs 0 hpos
    by_cases h3 : bl b 0 = 3 ∧ b.length < 27
    · have hQ := show Hid _ from ps_err (pps_short (b := b) (.inr h3))
      go_upto_region 1 with fail
      refine wp_region_list ?_
      refine readL (.slice (some ad) b.length cap) rfl (by kernel_rfl) ?_
      simp only [aP, lI, l0, lS]
      refine readL (.int .i64 ((b.length : Nat) : Int)) rfl (lenS _ 22 5 (some ad) b.length cap rfl Tryd.underlying22 rfl _) ?_
      simp only [aP, lI, l0, lS]
      refine readL (.bool false) rfl (eqlI .i64 _ _ _ _ _ _ rfl rfl rfl false (beq_eq_false_iff_ne.2 (by omega)) _) ?_
      simp only [aP, lI, l0, lS]
      refine readL (.bool false) rfl (by kernel_rfl) ?_
      simp only [aP, lI, l0, lS]
      refine readL (.slice (some ad) b.length cap) rfl (by kernel_rfl) ?_
      simp only [aP, lI, l0, lS]
      refine readL (.pointer (some (ad.add 0))) rfl (idxSl 22 5 b.length cap .i64 ad 0 _ _ Tryd.underlying22 (fun _ => by kernel_rfl) (by omega) rfl rfl rfl _) ?_
      simp only [aP, lI, l0, lS]
      refine readL (.int .u8 (bl b 0)) rfl (load1 5 _ (ad.add 0) _ rfl rfl (fun _ => by kernel_rfl) ((hs.below M.below (Nat.le_refl _)).at 0 (by omega))) ?_
      simp only [aP, lI, l0, lS]
      refine readL (.bool true) rfl (eqlI .u8 _ _ _ _ _ _ rfl rfl rfl true (by rw [h3.1]; rfl) _) ?_
      simp only [aP, lI, l0, lS]
      refine readL (.bool true) rfl (by kernel_rfl) ?_
      simp only [aP, lI, l0, lS]
      refine readL (.slice (some ad) b.length cap) rfl (by kernel_rfl) ?_
      simp only [aP, lI, l0, lS]
      refine readL (.int .i64 ((b.length : Nat) : Int)) rfl (lenS _ 22 5 (some ad) b.length cap rfl Tryd.underlying22 rfl _) ?_
      simp only [aP, lI, l0, lS]
      refine readL (.bool true) rfl (lssI .i64 _ _ _ _ _ _ rfl rfl rfl true (decide_eq_true (by omega)) _) ?_
      simp only [aP, lI, l0, lS]
      refine readL (.bool true) rfl (by kernel_rfl) ?_
      simp only [aP, lI, l0, lS]
      refine readL (.bool true) rfl (by kernel_rfl) ?_
      simp only [aP, lI, l0, lS]
      first | show Exit.then _ _ _ _ _ | show Exit.inBlock _ _ _ _ _
      go_upto_region 2 with fail
      refine wp_region_list ?_
      refine readL (.agg #[.int .i64 0, .int .i64 0, .int .i64 0, .int .i64 0, .int .i64 0, .slice none 0 0]) rfl (by kernel_rfl) ?_
      simp only [aP, lI, l0, lS]
      refine skipOpL rfl (storeP [.int .i64 0, .int .i64 0, .int .i64 0, .int .i64 0, .int .i64 0, .slice none 0 0] B1 0 24 _ _ rfl rfl rfl (M.thereP List.mem_cons_self 0 6 (Nat.le_of_ble_eq_true rfl)) (by kernel_rfl) (List.all_eq_true.1 (rfl : ([.int .i64 0, .int .i64 0, .int .i64 0, .int .i64 0, .int .i64 0, .slice none 0 0] : List Value).all (fun u => u.oneCell') = true))) ?_
      simp only [Act.put]
      replace M := M.setPart [.int .i64 0, .int .i64 0, .int .i64 0, .int .i64 0, .int .i64 0, .slice none 0 0] 0 (Nat.le_of_ble_eq_true rfl)
      generalize w1.setCells B1 0 [.int .i64 0, .int .i64 0, .int .i64 0, .int .i64 0, .int .i64 0, .slice none 0 0] = w3 at M  ⊢
      replace M : Mm w ([(B1, [.int .i64 0, .int .i64 0, .int .i64 0, .int .i64 0, .int .i64 0, .slice none 0 0])]) w3 := M
      refine readL (.int .i64 3) rfl (by kernel_rfl) ?_
      simp only [aP, lI, l0, lS]
      first | show Exit.then _ _ _ _ _ | show Exit.inBlock _ _ _ _ _
      have hpv := show Hid _ from (pv0 w3)
      have c1_ := M.part List.mem_cons_self 0 (pcs pk0 none 0) rfl
      have hM := M.below
      clear M
      go_wp2
      refine bodyPost_ret (v := .tuple #[.agg (pcs pk0 none 0).toArray, .int .i64 3]) (retCellTmp 2 3 24 ⟨B1, 0, none⟩ (pcs pk0 none 0) _ rfl rfl rfl (fun _ => by kernel_rfl) (fun _ => by kernel_rfl) c1_) rfl ?_
      exact ⟨⟨_, _, by rw [hQ.out.1, hQ.out.2], by rw [hQ.out.1]; exact hpv.out⟩, hM⟩
    · have h27 : bl b 0 = 3 → 27 ≤ b.length := fun h => by omega
      have hno : ¬ (b.length = 0 ∨ (bl b 0 = 3 ∧ b.length < 27)) := by omega
      by_cases h3' : bl b 0 = 3
      · go_upto_region 1 with fail
        refine wp_region_list ?_
        refine readL (.slice (some ad) b.length cap) rfl (by kernel_rfl) ?_
        simp only [aP, lI, l0, lS]
        refine readL (.int .i64 ((b.length : Nat) : Int)) rfl (lenS _ 22 5 (some ad) b.length cap rfl Tryd.underlying22 rfl _) ?_
        simp only [aP, lI, l0, lS]
        refine readL (.bool false) rfl (eqlI .i64 _ _ _ _ _ _ rfl rfl rfl false (beq_eq_false_iff_ne.2 (by omega)) _) ?_
        simp only [aP, lI, l0, lS]
        refine readL (.bool false) rfl (by kernel_rfl) ?_
        simp only [aP, lI, l0, lS]
        refine readL (.slice (some ad) b.length cap) rfl (by kernel_rfl) ?_
        simp only [aP, lI, l0, lS]
        refine readL (.pointer (some (ad.add 0))) rfl (idxSl 22 5 b.length cap .i64 ad 0 _ _ Tryd.underlying22 (fun _ => by kernel_rfl) (by omega) rfl rfl rfl _) ?_
        simp only [aP, lI, l0, lS]
        refine readL (.int .u8 (bl b 0)) rfl (load1 5 _ (ad.add 0) _ rfl rfl (fun _ => by kernel_rfl) ((hs.below M.below (Nat.le_refl _)).at 0 (by omega))) ?_
        simp only [aP, lI, l0, lS]
        refine readL (.bool true) rfl (eqlI .u8 _ _ _ _ _ _ rfl rfl rfl true (by rw [h3']; rfl) _) ?_
        simp only [aP, lI, l0, lS]
        refine readL (.bool true) rfl (by kernel_rfl) ?_
        simp only [aP, lI, l0, lS]
        refine readL (.slice (some ad) b.length cap) rfl (by kernel_rfl) ?_
        simp only [aP, lI, l0, lS]
        refine readL (.int .i64 ((b.length : Nat) : Int)) rfl (lenS _ 22 5 (some ad) b.length cap rfl Tryd.underlying22 rfl _) ?_
        simp only [aP, lI, l0, lS]
        refine readL (.bool false) rfl (lssI .i64 _ _ _ _ _ _ rfl rfl rfl false (decide_eq_false (by omega)) _) ?_
        simp only [aP, lI, l0, lS]
        refine readL (.bool false) rfl (by kernel_rfl) ?_
        simp only [aP, lI, l0, lS]
        refine readL (.bool false) rfl (by kernel_rfl) ?_
        simp only [aP, lI, l0, lS]
        first | show Exit.then _ _ _ _ _ | show Exit.inBlock _ _ _ _ _
        go_upto_region 3 with fail
        refine wp_region_list ?_
        refine readL (.slice (some ad) b.length cap) rfl (by kernel_rfl) ?_
        simp only [aP, lI, l0, lS]
        refine callL rfl (fun _ => by kernel_rfl) (pread_any (some ad) cap b w _ M.below (hg.mm M) hlen hcap hnil hb hs hpos h27) ?_
        rintro e w4 ⟨⟨bp, bc, rfl, F_1⟩, l⟩
        replace M := M.call l
        clear l
        refine ⟨_, rfl, ?_⟩
        rw [show (.agg (pcs (prs b) bp bc).toArray : Value) = .agg #[.int .i64 ((prs b).kind), .int .i64 ((prs b).role), .int .i64 ((prs b).path), .int .i64 ((prs b).epo), .int .i64 ((prs b).ctr), .slice bp ((prs b).body.length) bc] from rfl]
        simp only [aP, lI, l0, lS]
        refine actL (w' := w4.alloc (.cells #[.int .i64 0, .int .i64 0, .int .i64 0, .int .i64 0, .int .i64 0, .slice none 0 0] 24)) (.pointer (some ⟨w4.heap.size, 0, none⟩)) rfl (by kernel_rfl) ?_
        simp only [aP, lI, l0, lS]
        have hB_B5 : w.heap.size ≤ w4.heap.size := M.below.size
        replace M := M.box #[.int .i64 0, .int .i64 0, .int .i64 0, .int .i64 0, .int .i64 0, .slice none 0 0] 24 w4.heap.size rfl
        generalize w4.alloc (.cells #[.int .i64 0, .int .i64 0, .int .i64 0, .int .i64 0, .int .i64 0, .slice none 0 0] 24) = w5 at M  ⊢
        generalize eB : w4.heap.size = B5 at M hB_B5  ⊢
        have hE_B5 : w4.heap.size ≤ B5 := Nat.le_of_eq eB
        have hF_B5 : B5 ≤ w4.heap.size := Nat.le_of_eq eB.symm
        clear eB
        replace M : Mm w ([(B5, [.int .i64 0, .int .i64 0, .int .i64 0, .int .i64 0, .int .i64 0, .slice none 0 0]), (B1, [.int .i64 0, .int .i64 0, .int .i64 0, .int .i64 0, .int .i64 0, .slice none 0 0])]) w5 := M
        refine skipOpL rfl (storeP [.int .i64 ((prs b).kind), .int .i64 ((prs b).role), .int .i64 ((prs b).path), .int .i64 ((prs b).epo), .int .i64 ((prs b).ctr), .slice bp ((prs b).body.length) bc] B5 0 24 _ _ rfl rfl rfl (M.thereP List.mem_cons_self 0 6 (Nat.le_of_ble_eq_true rfl)) (by kernel_rfl) (List.all_eq_true.1 (rfl : ([.int .i64 ((prs b).kind), .int .i64 ((prs b).role), .int .i64 ((prs b).path), .int .i64 ((prs b).epo), .int .i64 ((prs b).ctr), .slice bp ((prs b).body.length) bc] : List Value).all (fun u => u.oneCell') = true))) ?_
        simp only [Act.put]
        replace M := M.setPart [.int .i64 ((prs b).kind), .int .i64 ((prs b).role), .int .i64 ((prs b).path), .int .i64 ((prs b).epo), .int .i64 ((prs b).ctr), .slice bp ((prs b).body.length) bc] 0 (Nat.le_of_ble_eq_true rfl)
        generalize w5.setCells B5 0 [.int .i64 ((prs b).kind), .int .i64 ((prs b).role), .int .i64 ((prs b).path), .int .i64 ((prs b).epo), .int .i64 ((prs b).ctr), .slice bp ((prs b).body.length) bc] = w6 at M  ⊢
        replace M : Mm w ([(B5, [.int .i64 ((prs b).kind), .int .i64 ((prs b).role), .int .i64 ((prs b).path), .int .i64 ((prs b).epo), .int .i64 ((prs b).ctr), .slice bp ((prs b).body.length) bc]), (B1, [.int .i64 0, .int .i64 0, .int .i64 0, .int .i64 0, .int .i64 0, .slice none 0 0])]) w6 := M
        first | show Exit.then _ _ _ _ _ | show Exit.inBlock _ _ _ _ _
        go_upto_region 4 with fail
        refine wp_region_list ?_
        refine readL (.agg #[.int .i64 ((prs b).kind), .int .i64 ((prs b).role), .int .i64 ((prs b).path), .int .i64 ((prs b).epo), .int .i64 ((prs b).ctr), .slice bp ((prs b).body.length) bc]) rfl (loadN 24 _ ⟨B5, 0, none⟩ [.int .i64 ((prs b).kind), .int .i64 ((prs b).role), .int .i64 ((prs b).path), .int .i64 ((prs b).epo), .int .i64 ((prs b).ctr), .slice bp ((prs b).body.length) bc] rfl rfl (fun _ => by kernel_rfl) (fun _ => by kernel_rfl) (M.rangeAt List.mem_cons_self)) ?_
        simp only [aP, lI, l0, lS]
        obtain ⟨b1, hb1⟩ : ∃ y_, y_ = (pok (prs b)) := ⟨_, rfl⟩
        have hC : Calls Tryd.prog 19 #[.agg #[.int .i64 ((prs b).kind), .int .i64 ((prs b).role), .int .i64 ((prs b).path), .int .i64 ((prs b).epo), .int .i64 ((prs b).ctr), .slice bp ((prs b).body.length) bc]] w6 (fun e w' => e = .returned (.bool b1) ∧ Below w6.heap.size w6 w') := (by rw [hb1]; exact pmay_any (prs b) bp bc _)
        refine callL rfl (fun _ => by kernel_rfl) (hC) ?_
        rintro e w7 ⟨rfl, l⟩
        replace M := M.call l
        refine ⟨_, rfl, ?_⟩
        clear l hC
        simp only [aP, lI, l0, lS]
        obtain ⟨b2, hb2⟩ : ∃ y_, y_ = (!b1) := ⟨_, rfl⟩
        refine readL (.bool b2) rfl (by subst hb2; cases b1 <;> rfl) ?_
        simp only [aP, lI, l0, lS]
        first | show Exit.then _ _ _ _ _ | show Exit.inBlock _ _ _ _ _
        have hbb : b2 = !pok (prs b) := by rw [hb2, hb1]
        try clear hb1
        try clear hb2
        cases b2 with
        | true =>
          have hQ := show Hid _ from ps_err (pps_bad hno (show pok (prs b) = false by simpa using hbb))
          clear hbb
          go_upto_region 5 with fail
          refine wp_region_list ?_
          refine readL (.agg #[.int .i64 0, .int .i64 0, .int .i64 0, .int .i64 0, .int .i64 0, .slice none 0 0]) rfl (by kernel_rfl) ?_
          simp only [aP, lI, l0, lS]
          replace M := M.swap
          refine skipOpL rfl (storeP [.int .i64 0, .int .i64 0, .int .i64 0, .int .i64 0, .int .i64 0, .slice none 0 0] B1 0 24 _ _ rfl rfl rfl (M.thereP List.mem_cons_self 0 6 (Nat.le_of_ble_eq_true rfl)) (by kernel_rfl) (List.all_eq_true.1 (rfl : ([.int .i64 0, .int .i64 0, .int .i64 0, .int .i64 0, .int .i64 0, .slice none 0 0] : List Value).all (fun u => u.oneCell') = true))) ?_
          simp only [Act.put]
          replace M := M.setPart [.int .i64 0, .int .i64 0, .int .i64 0, .int .i64 0, .int .i64 0, .slice none 0 0] 0 (Nat.le_of_ble_eq_true rfl)
          generalize w7.setCells B1 0 [.int .i64 0, .int .i64 0, .int .i64 0, .int .i64 0, .int .i64 0, .slice none 0 0] = w8 at M  ⊢
          replace M : Mm w ([(B1, [.int .i64 0, .int .i64 0, .int .i64 0, .int .i64 0, .int .i64 0, .slice none 0 0]), (B5, [.int .i64 ((prs b).kind), .int .i64 ((prs b).role), .int .i64 ((prs b).path), .int .i64 ((prs b).epo), .int .i64 ((prs b).ctr), .slice bp ((prs b).body.length) bc])]) w8 := M
          refine readL (.int .i64 110) rfl (by kernel_rfl) ?_
          simp only [aP, lI, l0, lS]
          first | show Exit.then _ _ _ _ _ | show Exit.inBlock _ _ _ _ _
          have hpv := show Hid _ from (pv0 w8)
          have c1_ := M.part List.mem_cons_self 0 (pcs pk0 none 0) rfl
          have hM := M.below
          clear M
          go_wp2
          refine bodyPost_ret (v := .tuple #[.agg (pcs pk0 none 0).toArray, .int .i64 110]) (retCellTmp 2 3 24 ⟨B1, 0, none⟩ (pcs pk0 none 0) _ rfl rfl rfl (fun _ => by kernel_rfl) (fun _ => by kernel_rfl) c1_) rfl ?_
          exact ⟨⟨_, _, by rw [hQ.out.1, hQ.out.2], by rw [hQ.out.1]; exact hpv.out⟩, hM⟩
        | false =>
          have hQ := show Hid _ from ps_ok (pps_good hno (show pok (prs b) = true by simpa using hbb))
          clear hbb
          go_upto_region 6 with fail
          refine wp_region_list ?_
          refine readL (.pointer (some ⟨B5, 5, none⟩)) rfl (by kernel_rfl) ?_
          simp only [aP, lI, l0, lS]
          refine readL (.slice bp ((prs b).body.length) bc) rfl (load1 22 _ ⟨B5, 5, none⟩ _ rfl rfl (fun _ => by kernel_rfl) (M.get List.mem_cons_self 5 _ rfl)) ?_
          simp only [aP, lI, l0, lS]
          have hB4 := M.lt List.mem_cons_self
          have hB1 := M.lt (List.mem_cons_of_mem _ List.mem_cons_self)
          refine callL rfl (fun _ => by kernel_rfl) (clone_any bp _ bc (Nat.le_trans F_1.max (by decide)) F_1.le F_1.nil (bl (prs b).body) _ (F_1.src.below M.below (Nat.le_refl _))) ?_
          rintro e w9 ⟨v, rfl, O_2, l⟩
          replace M := M.call l
          clear l
          obtain ⟨p5, c5, rfl, _, _⟩ := O_2.bytes
          refine ⟨_, rfl, ?_⟩
          simp only [aP, lI, l0, lS]
          refine readL (.pointer (some ⟨B5, 5, none⟩)) rfl (by kernel_rfl) ?_
          simp only [aP, lI, l0, lS]
          refine skipOpL rfl (storeAny (.slice p5 ((prs b).body.length) c5) B5 5 22 _ _ rfl rfl rfl rfl rfl (M.isSome List.mem_cons_self 5 (by simp)) (M.free List.mem_cons_self 5 (by simp)) (by kernel_rfl)) ?_
          simp only [Act.put]
          replace M := M.set 5 (by simp) (.slice p5 ((prs b).body.length) c5)
          replace O_2 := Own.off1 O_2 ((Off.refl [B5] _).set (b := B5) List.mem_cons_self 5 (.slice p5 ((prs b).body.length) c5)) (by omega)
          generalize w9.setCell ⟨B5, 5, none⟩ (.slice p5 ((prs b).body.length) c5) = w10 at M O_2 ⊢
          replace M : Mm w ([(B5, [.int .i64 ((prs b).kind), .int .i64 ((prs b).role), .int .i64 ((prs b).path), .int .i64 ((prs b).epo), .int .i64 ((prs b).ctr), .slice p5 ((prs b).body.length) c5]), (B1, [.int .i64 0, .int .i64 0, .int .i64 0, .int .i64 0, .int .i64 0, .slice none 0 0])]) w10 := M
          first | show Exit.then _ _ _ _ _ | show Exit.inBlock _ _ _ _ _
          go_upto_region 7 with fail
          refine wp_region_list ?_
          refine readL (.agg #[.int .i64 ((prs b).kind), .int .i64 ((prs b).role), .int .i64 ((prs b).path), .int .i64 ((prs b).epo), .int .i64 ((prs b).ctr), .slice p5 ((prs b).body.length) c5]) rfl (loadN 24 _ ⟨B5, 0, none⟩ [.int .i64 ((prs b).kind), .int .i64 ((prs b).role), .int .i64 ((prs b).path), .int .i64 ((prs b).epo), .int .i64 ((prs b).ctr), .slice p5 ((prs b).body.length) c5] rfl rfl (fun _ => by kernel_rfl) (fun _ => by kernel_rfl) (M.rangeAt List.mem_cons_self)) ?_
          simp only [aP, lI, l0, lS]
          replace M := M.swap
          refine skipOpL rfl (storeP [.int .i64 ((prs b).kind), .int .i64 ((prs b).role), .int .i64 ((prs b).path), .int .i64 ((prs b).epo), .int .i64 ((prs b).ctr), .slice p5 ((prs b).body.length) c5] B1 0 24 _ _ rfl rfl rfl (M.thereP List.mem_cons_self 0 6 (Nat.le_of_ble_eq_true rfl)) (by kernel_rfl) (List.all_eq_true.1 (rfl : ([.int .i64 ((prs b).kind), .int .i64 ((prs b).role), .int .i64 ((prs b).path), .int .i64 ((prs b).epo), .int .i64 ((prs b).ctr), .slice p5 ((prs b).body.length) c5] : List Value).all (fun u => u.oneCell') = true))) ?_
          simp only [Act.put]
          replace M := M.setPart [.int .i64 ((prs b).kind), .int .i64 ((prs b).role), .int .i64 ((prs b).path), .int .i64 ((prs b).epo), .int .i64 ((prs b).ctr), .slice p5 ((prs b).body.length) c5] 0 (Nat.le_of_ble_eq_true rfl)
          replace O_2 := Own.off1 O_2 ((Off.refl [B1] _).setAll (b := B1) List.mem_cons_self 0 [.int .i64 ((prs b).kind), .int .i64 ((prs b).role), .int .i64 ((prs b).path), .int .i64 ((prs b).epo), .int .i64 ((prs b).ctr), .slice p5 ((prs b).body.length) c5]) (by omega)
          generalize w10.setCells B1 0 [.int .i64 ((prs b).kind), .int .i64 ((prs b).role), .int .i64 ((prs b).path), .int .i64 ((prs b).epo), .int .i64 ((prs b).ctr), .slice p5 ((prs b).body.length) c5] = w11 at M O_2 ⊢
          replace M : Mm w ([(B1, [.int .i64 ((prs b).kind), .int .i64 ((prs b).role), .int .i64 ((prs b).path), .int .i64 ((prs b).epo), .int .i64 ((prs b).ctr), .slice p5 ((prs b).body.length) c5]), (B5, [.int .i64 ((prs b).kind), .int .i64 ((prs b).role), .int .i64 ((prs b).path), .int .i64 ((prs b).epo), .int .i64 ((prs b).ctr), .slice p5 ((prs b).body.length) c5])]) w11 := M
          refine readL (.int .i64 0) rfl (by kernel_rfl) ?_
          simp only [aP, lI, l0, lS]
          first | show Exit.then _ _ _ _ _ | show Exit.inBlock _ _ _ _ _
          have hpv := show Hid _ from ((⟨O_2.src, O_2.le, O_2.nilCap, F_1.max, F_1.byts, F_1.kind, F_1.role, F_1.path, F_1.epo, F_1.ctr⟩ : PV _ (prs b) p5 c5))
          have c1_ := M.part List.mem_cons_self 0 (pcs (prs b) p5 c5) rfl
          have hM := M.below
          clear M
          go_wp2
          refine bodyPost_ret (v := .tuple #[.agg (pcs (prs b) p5 c5).toArray, .int .i64 0]) (retCellTmp 2 3 24 ⟨B1, 0, none⟩ (pcs (prs b) p5 c5) _ rfl rfl rfl (fun _ => by kernel_rfl) (fun _ => by kernel_rfl) c1_) rfl ?_
          exact ⟨⟨_, _, by rw [hQ.out.1, hQ.out.2], by rw [hQ.out.1]; exact hpv.out⟩, hM⟩
      · go_upto_region 1 with fail
        refine wp_region_list ?_
        refine readL (.slice (some ad) b.length cap) rfl (by kernel_rfl) ?_
        simp only [aP, lI, l0, lS]
        refine readL (.int .i64 ((b.length : Nat) : Int)) rfl (lenS _ 22 5 (some ad) b.length cap rfl Tryd.underlying22 rfl _) ?_
        simp only [aP, lI, l0, lS]
        refine readL (.bool false) rfl (eqlI .i64 _ _ _ _ _ _ rfl rfl rfl false (beq_eq_false_iff_ne.2 (by omega)) _) ?_
        simp only [aP, lI, l0, lS]
        refine readL (.bool false) rfl (by kernel_rfl) ?_
        simp only [aP, lI, l0, lS]
        refine readL (.slice (some ad) b.length cap) rfl (by kernel_rfl) ?_
        simp only [aP, lI, l0, lS]
        refine readL (.pointer (some (ad.add 0))) rfl (idxSl 22 5 b.length cap .i64 ad 0 _ _ Tryd.underlying22 (fun _ => by kernel_rfl) (by omega) rfl rfl rfl _) ?_
        simp only [aP, lI, l0, lS]
        refine readL (.int .u8 (bl b 0)) rfl (load1 5 _ (ad.add 0) _ rfl rfl (fun _ => by kernel_rfl) ((hs.below M.below (Nat.le_refl _)).at 0 (by omega))) ?_
        simp only [aP, lI, l0, lS]
        refine readL (.bool false) rfl (eqlI .u8 _ _ _ _ _ _ rfl rfl rfl false (by simpa using h3') _) ?_
        simp only [aP, lI, l0, lS]
        refine readL (.bool false) rfl (by kernel_rfl) ?_
        simp only [aP, lI, l0, lS]
        with_reducible refine skipL ?_ ?_
        · rfl
        simp only [aP, lI, l0, lS]
        with_reducible refine skipL ?_ ?_
        · rfl
        simp only [aP, lI, l0, lS]
        with_reducible refine skipL ?_ ?_
        · rfl
        simp only [aP, lI, l0, lS]
        refine readL (.bool false) rfl (by kernel_rfl) ?_
        simp only [aP, lI, l0, lS]
        refine readL (.bool false) rfl (by kernel_rfl) ?_
        simp only [aP, lI, l0, lS]
        first | show Exit.then _ _ _ _ _ | show Exit.inBlock _ _ _ _ _
        go_upto_region 3 with fail
        refine wp_region_list ?_
        refine readL (.slice (some ad) b.length cap) rfl (by kernel_rfl) ?_
        simp only [aP, lI, l0, lS]
        refine callL rfl (fun _ => by kernel_rfl) (pread_any (some ad) cap b w _ M.below (hg.mm M) hlen hcap hnil hb hs hpos h27) ?_
        rintro e w12 ⟨⟨bp, bc, rfl, F_1⟩, l⟩
        replace M := M.call l
        clear l
        refine ⟨_, rfl, ?_⟩
        rw [show (.agg (pcs (prs b) bp bc).toArray : Value) = .agg #[.int .i64 ((prs b).kind), .int .i64 ((prs b).role), .int .i64 ((prs b).path), .int .i64 ((prs b).epo), .int .i64 ((prs b).ctr), .slice bp ((prs b).body.length) bc] from rfl]
        simp only [aP, lI, l0, lS]
        refine actL (w' := w12.alloc (.cells #[.int .i64 0, .int .i64 0, .int .i64 0, .int .i64 0, .int .i64 0, .slice none 0 0] 24)) (.pointer (some ⟨w12.heap.size, 0, none⟩)) rfl (by kernel_rfl) ?_
        simp only [aP, lI, l0, lS]
        have hB_B13 : w.heap.size ≤ w12.heap.size := M.below.size
        replace M := M.box #[.int .i64 0, .int .i64 0, .int .i64 0, .int .i64 0, .int .i64 0, .slice none 0 0] 24 w12.heap.size rfl
        generalize w12.alloc (.cells #[.int .i64 0, .int .i64 0, .int .i64 0, .int .i64 0, .int .i64 0, .slice none 0 0] 24) = w13 at M  ⊢
        generalize eB : w12.heap.size = B13 at M hB_B13  ⊢
        have hE_B13 : w12.heap.size ≤ B13 := Nat.le_of_eq eB
        have hF_B13 : B13 ≤ w12.heap.size := Nat.le_of_eq eB.symm
        clear eB
        replace M : Mm w ([(B13, [.int .i64 0, .int .i64 0, .int .i64 0, .int .i64 0, .int .i64 0, .slice none 0 0]), (B1, [.int .i64 0, .int .i64 0, .int .i64 0, .int .i64 0, .int .i64 0, .slice none 0 0])]) w13 := M
        refine skipOpL rfl (storeP [.int .i64 ((prs b).kind), .int .i64 ((prs b).role), .int .i64 ((prs b).path), .int .i64 ((prs b).epo), .int .i64 ((prs b).ctr), .slice bp ((prs b).body.length) bc] B13 0 24 _ _ rfl rfl rfl (M.thereP List.mem_cons_self 0 6 (Nat.le_of_ble_eq_true rfl)) (by kernel_rfl) (List.all_eq_true.1 (rfl : ([.int .i64 ((prs b).kind), .int .i64 ((prs b).role), .int .i64 ((prs b).path), .int .i64 ((prs b).epo), .int .i64 ((prs b).ctr), .slice bp ((prs b).body.length) bc] : List Value).all (fun u => u.oneCell') = true))) ?_
        simp only [Act.put]
        replace M := M.setPart [.int .i64 ((prs b).kind), .int .i64 ((prs b).role), .int .i64 ((prs b).path), .int .i64 ((prs b).epo), .int .i64 ((prs b).ctr), .slice bp ((prs b).body.length) bc] 0 (Nat.le_of_ble_eq_true rfl)
        generalize w13.setCells B13 0 [.int .i64 ((prs b).kind), .int .i64 ((prs b).role), .int .i64 ((prs b).path), .int .i64 ((prs b).epo), .int .i64 ((prs b).ctr), .slice bp ((prs b).body.length) bc] = w14 at M  ⊢
        replace M : Mm w ([(B13, [.int .i64 ((prs b).kind), .int .i64 ((prs b).role), .int .i64 ((prs b).path), .int .i64 ((prs b).epo), .int .i64 ((prs b).ctr), .slice bp ((prs b).body.length) bc]), (B1, [.int .i64 0, .int .i64 0, .int .i64 0, .int .i64 0, .int .i64 0, .slice none 0 0])]) w14 := M
        first | show Exit.then _ _ _ _ _ | show Exit.inBlock _ _ _ _ _
        go_upto_region 4 with fail
        refine wp_region_list ?_
        refine readL (.agg #[.int .i64 ((prs b).kind), .int .i64 ((prs b).role), .int .i64 ((prs b).path), .int .i64 ((prs b).epo), .int .i64 ((prs b).ctr), .slice bp ((prs b).body.length) bc]) rfl (loadN 24 _ ⟨B13, 0, none⟩ [.int .i64 ((prs b).kind), .int .i64 ((prs b).role), .int .i64 ((prs b).path), .int .i64 ((prs b).epo), .int .i64 ((prs b).ctr), .slice bp ((prs b).body.length) bc] rfl rfl (fun _ => by kernel_rfl) (fun _ => by kernel_rfl) (M.rangeAt List.mem_cons_self)) ?_
        simp only [aP, lI, l0, lS]
        obtain ⟨b3, hb3⟩ : ∃ y_, y_ = (pok (prs b)) := ⟨_, rfl⟩
        have hC : Calls Tryd.prog 19 #[.agg #[.int .i64 ((prs b).kind), .int .i64 ((prs b).role), .int .i64 ((prs b).path), .int .i64 ((prs b).epo), .int .i64 ((prs b).ctr), .slice bp ((prs b).body.length) bc]] w14 (fun e w' => e = .returned (.bool b3) ∧ Below w14.heap.size w14 w') := (by rw [hb3]; exact pmay_any (prs b) bp bc _)
        refine callL rfl (fun _ => by kernel_rfl) (hC) ?_
        rintro e w15 ⟨rfl, l⟩
        replace M := M.call l
        refine ⟨_, rfl, ?_⟩
        clear l hC
        simp only [aP, lI, l0, lS]
        obtain ⟨b4, hb4⟩ : ∃ y_, y_ = (!b3) := ⟨_, rfl⟩
        refine readL (.bool b4) rfl (by subst hb4; cases b3 <;> rfl) ?_
        simp only [aP, lI, l0, lS]
        first | show Exit.then _ _ _ _ _ | show Exit.inBlock _ _ _ _ _
        have hbb : b4 = !pok (prs b) := by rw [hb4, hb3]
        try clear hb3
        try clear hb4
        cases b4 with
        | true =>
          have hQ := show Hid _ from ps_err (pps_bad hno (show pok (prs b) = false by simpa using hbb))
          clear hbb
          go_upto_region 5 with fail
          refine wp_region_list ?_
          refine readL (.agg #[.int .i64 0, .int .i64 0, .int .i64 0, .int .i64 0, .int .i64 0, .slice none 0 0]) rfl (by kernel_rfl) ?_
          simp only [aP, lI, l0, lS]
          replace M := M.swap
          refine skipOpL rfl (storeP [.int .i64 0, .int .i64 0, .int .i64 0, .int .i64 0, .int .i64 0, .slice none 0 0] B1 0 24 _ _ rfl rfl rfl (M.thereP List.mem_cons_self 0 6 (Nat.le_of_ble_eq_true rfl)) (by kernel_rfl) (List.all_eq_true.1 (rfl : ([.int .i64 0, .int .i64 0, .int .i64 0, .int .i64 0, .int .i64 0, .slice none 0 0] : List Value).all (fun u => u.oneCell') = true))) ?_
          simp only [Act.put]
          replace M := M.setPart [.int .i64 0, .int .i64 0, .int .i64 0, .int .i64 0, .int .i64 0, .slice none 0 0] 0 (Nat.le_of_ble_eq_true rfl)
          generalize w15.setCells B1 0 [.int .i64 0, .int .i64 0, .int .i64 0, .int .i64 0, .int .i64 0, .slice none 0 0] = w16 at M  ⊢
          replace M : Mm w ([(B1, [.int .i64 0, .int .i64 0, .int .i64 0, .int .i64 0, .int .i64 0, .slice none 0 0]), (B13, [.int .i64 ((prs b).kind), .int .i64 ((prs b).role), .int .i64 ((prs b).path), .int .i64 ((prs b).epo), .int .i64 ((prs b).ctr), .slice bp ((prs b).body.length) bc])]) w16 := M
          refine readL (.int .i64 110) rfl (by kernel_rfl) ?_
          simp only [aP, lI, l0, lS]
          first | show Exit.then _ _ _ _ _ | show Exit.inBlock _ _ _ _ _
          have hpv := show Hid _ from (pv0 w16)
          have c1_ := M.part List.mem_cons_self 0 (pcs pk0 none 0) rfl
          have hM := M.below
          clear M
          go_wp2
          refine bodyPost_ret (v := .tuple #[.agg (pcs pk0 none 0).toArray, .int .i64 110]) (retCellTmp 2 3 24 ⟨B1, 0, none⟩ (pcs pk0 none 0) _ rfl rfl rfl (fun _ => by kernel_rfl) (fun _ => by kernel_rfl) c1_) rfl ?_
          exact ⟨⟨_, _, by rw [hQ.out.1, hQ.out.2], by rw [hQ.out.1]; exact hpv.out⟩, hM⟩
        | false =>
          have hQ := show Hid _ from ps_ok (pps_good hno (show pok (prs b) = true by simpa using hbb))
          clear hbb
          go_upto_region 6 with fail
          refine wp_region_list ?_
          refine readL (.pointer (some ⟨B13, 5, none⟩)) rfl (by kernel_rfl) ?_
          simp only [aP, lI, l0, lS]
          refine readL (.slice bp ((prs b).body.length) bc) rfl (load1 22 _ ⟨B13, 5, none⟩ _ rfl rfl (fun _ => by kernel_rfl) (M.get List.mem_cons_self 5 _ rfl)) ?_
          simp only [aP, lI, l0, lS]
          have hB4 := M.lt List.mem_cons_self
          have hB1 := M.lt (List.mem_cons_of_mem _ List.mem_cons_self)
          refine callL rfl (fun _ => by kernel_rfl) (clone_any bp _ bc (Nat.le_trans F_1.max (by decide)) F_1.le F_1.nil (bl (prs b).body) _ (F_1.src.below M.below (Nat.le_refl _))) ?_
          rintro e w17 ⟨v, rfl, O_2, l⟩
          replace M := M.call l
          clear l
          obtain ⟨p5, c5, rfl, _, _⟩ := O_2.bytes
          refine ⟨_, rfl, ?_⟩
          simp only [aP, lI, l0, lS]
          refine readL (.pointer (some ⟨B13, 5, none⟩)) rfl (by kernel_rfl) ?_
          simp only [aP, lI, l0, lS]
          refine skipOpL rfl (storeAny (.slice p5 ((prs b).body.length) c5) B13 5 22 _ _ rfl rfl rfl rfl rfl (M.isSome List.mem_cons_self 5 (by simp)) (M.free List.mem_cons_self 5 (by simp)) (by kernel_rfl)) ?_
          simp only [Act.put]
          replace M := M.set 5 (by simp) (.slice p5 ((prs b).body.length) c5)
          replace O_2 := Own.off1 O_2 ((Off.refl [B13] _).set (b := B13) List.mem_cons_self 5 (.slice p5 ((prs b).body.length) c5)) (by omega)
          generalize w17.setCell ⟨B13, 5, none⟩ (.slice p5 ((prs b).body.length) c5) = w18 at M O_2 ⊢
          replace M : Mm w ([(B13, [.int .i64 ((prs b).kind), .int .i64 ((prs b).role), .int .i64 ((prs b).path), .int .i64 ((prs b).epo), .int .i64 ((prs b).ctr), .slice p5 ((prs b).body.length) c5]), (B1, [.int .i64 0, .int .i64 0, .int .i64 0, .int .i64 0, .int .i64 0, .slice none 0 0])]) w18 := M
          first | show Exit.then _ _ _ _ _ | show Exit.inBlock _ _ _ _ _
          go_upto_region 7 with fail
          refine wp_region_list ?_
          refine readL (.agg #[.int .i64 ((prs b).kind), .int .i64 ((prs b).role), .int .i64 ((prs b).path), .int .i64 ((prs b).epo), .int .i64 ((prs b).ctr), .slice p5 ((prs b).body.length) c5]) rfl (loadN 24 _ ⟨B13, 0, none⟩ [.int .i64 ((prs b).kind), .int .i64 ((prs b).role), .int .i64 ((prs b).path), .int .i64 ((prs b).epo), .int .i64 ((prs b).ctr), .slice p5 ((prs b).body.length) c5] rfl rfl (fun _ => by kernel_rfl) (fun _ => by kernel_rfl) (M.rangeAt List.mem_cons_self)) ?_
          simp only [aP, lI, l0, lS]
          replace M := M.swap
          refine skipOpL rfl (storeP [.int .i64 ((prs b).kind), .int .i64 ((prs b).role), .int .i64 ((prs b).path), .int .i64 ((prs b).epo), .int .i64 ((prs b).ctr), .slice p5 ((prs b).body.length) c5] B1 0 24 _ _ rfl rfl rfl (M.thereP List.mem_cons_self 0 6 (Nat.le_of_ble_eq_true rfl)) (by kernel_rfl) (List.all_eq_true.1 (rfl : ([.int .i64 ((prs b).kind), .int .i64 ((prs b).role), .int .i64 ((prs b).path), .int .i64 ((prs b).epo), .int .i64 ((prs b).ctr), .slice p5 ((prs b).body.length) c5] : List Value).all (fun u => u.oneCell') = true))) ?_
          simp only [Act.put]
          replace M := M.setPart [.int .i64 ((prs b).kind), .int .i64 ((prs b).role), .int .i64 ((prs b).path), .int .i64 ((prs b).epo), .int .i64 ((prs b).ctr), .slice p5 ((prs b).body.length) c5] 0 (Nat.le_of_ble_eq_true rfl)
          replace O_2 := Own.off1 O_2 ((Off.refl [B1] _).setAll (b := B1) List.mem_cons_self 0 [.int .i64 ((prs b).kind), .int .i64 ((prs b).role), .int .i64 ((prs b).path), .int .i64 ((prs b).epo), .int .i64 ((prs b).ctr), .slice p5 ((prs b).body.length) c5]) (by omega)
          generalize w18.setCells B1 0 [.int .i64 ((prs b).kind), .int .i64 ((prs b).role), .int .i64 ((prs b).path), .int .i64 ((prs b).epo), .int .i64 ((prs b).ctr), .slice p5 ((prs b).body.length) c5] = w19 at M O_2 ⊢
          replace M : Mm w ([(B1, [.int .i64 ((prs b).kind), .int .i64 ((prs b).role), .int .i64 ((prs b).path), .int .i64 ((prs b).epo), .int .i64 ((prs b).ctr), .slice p5 ((prs b).body.length) c5]), (B13, [.int .i64 ((prs b).kind), .int .i64 ((prs b).role), .int .i64 ((prs b).path), .int .i64 ((prs b).epo), .int .i64 ((prs b).ctr), .slice p5 ((prs b).body.length) c5])]) w19 := M
          refine readL (.int .i64 0) rfl (by kernel_rfl) ?_
          simp only [aP, lI, l0, lS]
          first | show Exit.then _ _ _ _ _ | show Exit.inBlock _ _ _ _ _
          have hpv := show Hid _ from ((⟨O_2.src, O_2.le, O_2.nilCap, F_1.max, F_1.byts, F_1.kind, F_1.role, F_1.path, F_1.epo, F_1.ctr⟩ : PV _ (prs b) p5 c5))
          have c1_ := M.part List.mem_cons_self 0 (pcs (prs b) p5 c5) rfl
          have hM := M.below
          clear M
          go_wp2
          refine bodyPost_ret (v := .tuple #[.agg (pcs (prs b) p5 c5).toArray, .int .i64 0]) (retCellTmp 2 3 24 ⟨B1, 0, none⟩ (pcs (prs b) p5 c5) _ rfl rfl rfl (fun _ => by kernel_rfl) (fun _ => by kernel_rfl) c1_) rfl ?_
          exact ⟨⟨_, _, by rw [hQ.out.1, hQ.out.2], by rw [hQ.out.1]; exact hpv.out⟩, hM⟩
end Go.Proofs.YtbhhboiofepnhaaDoor

namespace Go.Proofs.YtbhhboiofepnhaaDoor
open Go.ChangeShapes Go.WideShapes Go.ChangeAt Go.WideMaps Go.WideElems Go.RowKit

/-- A number, if it is one. -/
def intAt : Option Value → Int
  | some (.int _ n) => n
  | _ => 0
/-- What a row of numbers reads as. -/
def litR {H : Type} (k : IntKind) (n : Nat) (f : Nat → Int) : DataW H := .agg ((List.range n).map fun j => .lit (.int k (f j)))
section
variable {H : Type} {enc : TypeId × Value → H} {P : Program} {w : World} {base : Nat} {sp : Nat → Bool} {held : Bool}
theorem open_row {t e : TypeId} {n : Nat} {k : IntKind} (hu : P.underlying t = some (.array n e)) (he : P.underlying e = some (.int k)) (hct : P.cellsOf t = n) (hce : P.cellsOf e = 1) {fuel : Nat} {cs : List Value} {x : DataW H × List MemPlace}
    (h : DataW.trod enc P w base sp held fuel t cs = some x) : ∃ f : Nat → Int, (∀ j, j < n → (Lit.int k (f j)).wf = true) ∧ cs = row k n f ∧ x = (litR k n f, []) := by
  obtain ⟨xs, m, _, hx, hl, hn, hel⟩ := DataW.trod_array hu h
  rw [hct] at hl
  have hcell : ∀ i, i < n → ∃ v, cs[i]? = some (.int k v) ∧ xs[i]? = some (.lit (.int k v), []) ∧ (Lit.int k v).wf = true := by
    intro i hi
    have e1 := hel i hi
    rw [hce, Nat.mul_one] at e1
    have hxi : i < xs.length := by omega
    rw [List.getElem?_eq_getElem hxi] at e1
    obtain ⟨v, e2, e3, e4⟩ := DataW.trod_int he e1
    refine ⟨v, ?_, by rw [List.getElem?_eq_getElem hxi, e3], e4⟩
    have hci : i < cs.length := by omega
    have e5 : (cs.drop i).take 1 = [cs[i]] := by rw [List.drop_eq_getElem_cons hci, List.take_succ_cons, List.take_zero]
    rw [e5] at e2
    rw [List.getElem?_eq_getElem hci]
    simpa using e2
  refine ⟨fun i => intAt cs[i]?, fun i hi => ?_, ?_, ?_⟩
  · obtain ⟨v, e1, _, e3⟩ := hcell i hi
    dsimp only
    rw [e1]; exact e3
  · refine List.ext_getElem? fun i => ?_
    by_cases hi : i < n
    · obtain ⟨v, e1, _, _⟩ := hcell i hi
      rw [row_get k n _ i hi, e1]; rfl
    · rw [List.getElem?_eq_none (by omega), List.getElem?_eq_none (by rw [row_length]; omega)]
  · rw [hx]
    congr 1
    · unfold litR
      congr 1
      refine List.ext_getElem? fun i => ?_
      by_cases hi : i < n
      · obtain ⟨v, e1, e2, _⟩ := hcell i hi
        rw [List.getElem?_map, e2, List.getElem?_map, List.getElem?_range hi]
        simp only [Option.map_some]
        rw [e1]
        rfl
      · rw [List.getElem?_eq_none (by simp [hn]; omega), List.getElem?_eq_none (by simp; omega)]
    · refine List.flatMap_eq_nil_iff.2 fun y hy => ?_
      obtain ⟨i, hi⟩ := List.mem_iff_getElem?.1 hy
      have hin : i < n := by have := (List.getElem?_eq_some_iff.1 hi).1; omega
      obtain ⟨v, _, e2, _⟩ := hcell i hin
      rw [e2] at hi
      rw [← Option.some.inj hi]
end
theorem wf_u8 {n : Int} : (Lit.int .u8 n).wf = true ↔ 0 ≤ n ∧ n < 256 := by
  simp [Lit.wf, IntKind.min, IntKind.max, IntKind.signed, IntKind.bits]
  omega
theorem litR_inj {H : Type} {k : IntKind} {n : Nat} {f g : Nat → Int} (h : (litR k n f : DataW H) = litR k n g) (j : Nat) (hj : j < n) : f j = g j := by
  unfold litR at h
  injection h with h
  have e := congrArg (fun l => l[j]?) h
  simp only [List.getElem?_map, List.getElem?_range hj, Option.map_some, Option.some.injEq] at e
  injection e with e
  injection e
end Go.Proofs.YtbhhboiofepnhaaDoor

namespace Go.Proofs.YtbhhboiofepnhaaDoor
open Go.ChangeShapes Go.WideShapes Go.ChangeAt Go.WideMaps Go.WideElems Go.RowKit

theorem own : ownKnob Tryd.prog.godebug = none := by kernel_rfl
theorem cellsByte : Tryd.prog.cellsOf 5 = 1 := by kernel_rfl
theorem laidOut : laidOutB Tryd.prog = true := by kernel_rfl
/-- What is asked of data that come in: their slices are not too long. -/
structure Fit (H : Type) (Q : TypeId → DataW H → Prop) : Prop where
  packet : ∀ l, Q 24 (.agg l) → ∀ d, l[5]? = some d → Q 22 d
  bytes : ∀ a b, Q 22 (.slice a b) → a.length ≤ 140737488351232
section
variable {H : Type} {enc : TypeId × Value → H} {W : World} {Q : TypeId → DataW H → Prop}
theorem open_octets (F : Fit H Q) {fuel : Nat} {cs : List Value} {x : DataW H × List MemPlace} (h : DataW.trod enc Tryd.prog W 0 (fun _ => true) true fuel 22 cs = some x) (hq : Q 22 x.1) :
    ∃ (sp : Option Addr) (cap : Nat) (bs : List Int), cs = [.slice sp bs.length cap] ∧ Src W sp bs.length (bl bs) ∧ bs.length ≤ cap ∧ (sp = none → cap = 0) ∧ bs.length ≤ 140737488351232 ∧ Byts bs := by
  rcases open_ints Tryd.underlying22 Tryd.underlying5 cellsByte h with ⟨rfl, rfl⟩ | ⟨ad, len, cap, zs, rfl, _, hle, hmax, hall, rfl, hcell, hwf⟩
  · exact ⟨none, 0, [], rfl, fun j hj => absurd hj (Nat.not_lt_zero j), Nat.le_refl _, fun _ => rfl, Nat.zero_le _, fun x hx => (by cases hx)⟩
  · simp only [if_true] at hall
    have hm := F.bytes _ _ hq
    simp only [lits, List.length_map, List.length_take] at hm
    have hl : (zs.take len).length = len := by rw [List.length_take]; omega
    refine ⟨some ad, cap, zs.take len, by rw [hl], fun j hj => ⟨ad, rfl, ?_⟩, by rw [hl]; exact hle, fun e => (by cases e), by rw [hl]; omega, fun y hy => wf_u8.1 (hwf y (List.mem_of_mem_take hy))⟩
    rw [hl] at hj
    rw [bl_take _ _ _ hj]
    exact hcell j (by omega)
end
/-- The first form's reach. -/
def Wok {H : Type} (t : TypeId) (d : DataW H) : Prop := ∀ n ∈ d.weights Tryd.prog t, n ≤ reachBytes
theorem fitWok (H : Type) : Fit H Wok where
  packet l h := by
    have hu : Tryd.prog.underlying 24 = some (.struct (Tryd.prog.fieldsOf 24)) := by kernel_rfl
    have ht : (Tryd.prog.fieldsOf 24).toList.map (·.type) = [3, 3, 3, 3, 3, 22] := by kernel_rfl
    have e : ∀ n ∈ DataW.weightsEach Tryd.prog [3, 3, 3, 3, 3, 22] l, n ≤ reachBytes := fun n hn => h n (by simp only [DataW.weights, hu, ht]; exact hn)
    exact fun d hd n hn => e n (DataW.weights_mem_each (j := 5) rfl hd n hn)
  bytes a b h := by
    have h1 := h ((a.length + b.length) * Tryd.prog.bytesOf 5) (by simp only [DataW.weights, Tryd.underlying22]; exact List.mem_cons_self)
    rw [show Tryd.prog.bytesOf 5 = 1 by kernel_rfl] at h1
    simp only [reachBytes] at h1
    omega
section
variable {H : Type} {enc : TypeId × Value → H} {W : World} {Q : TypeId → DataW H → Prop}
/-- What came in is read again, whatever was made beside it. -/
theorem again {t : TypeId} (hr : Tryd.prog.readableRec t = true) (hrow : t < Tryd.prog.types.size) {v : Value} {d : DataW H} {p : List MemPlace} (h : DataW.Trod enc Tryd.prog W 0 (fun _ => true) true t v d p) (W' : World) (hb : Below W.heap.size W W') : DataW.Trod enc Tryd.prog W' 0 (fun b => decide (b < W.heap.size)) true t v d p :=
  hb.trod laidOut hr hrow h (by obtain ⟨fuel, hf⟩ := h; exact fun x hx => DataW.trod_lt _ _ _ _ hf x hx)
theorem arg_bytes (F : Fit H Q) {r : Reach} {b0 : Nat} {v : Value} {d : DataW H} {p : List MemPlace} (hv : Value.okWide Tryd.prog W r b0 22 v) (h : DataW.Trod enc Tryd.prog W 0 (fun _ => true) true 22 v d p) (hq : Q 22 d) :
    ∃ (sp : Option Addr) (cap : Nat) (bs : List Int), v = .slice sp bs.length cap ∧ Src W sp bs.length (bl bs) ∧ bs.length ≤ cap ∧ (sp = none → cap = 0) ∧ bs.length ≤ 140737488351232 ∧ Byts bs := by
  obtain ⟨sp, len, cap, rfl⟩ := okWide_slice Tryd.underlying22 hv
  obtain ⟨fuel, hf⟩ := h
  obtain ⟨sp', cap', bs, h1, h2⟩ := open_octets F hf hq
  simp [Value.cells] at h1
  obtain ⟨rfl, rfl, rfl⟩ := h1
  exact ⟨_, _, bs, rfl, h2⟩
end
end Go.Proofs.YtbhhboiofepnhaaDoor

namespace Go.Proofs.YtbhhboiofepnhaaDoor
open Go.ChangeShapes Go.WideShapes Go.ChangeAt Go.WideMaps Go.WideElems Go.RowKit

theorem cellsInt : Tryd.prog.cellsOf 3 = 1 := by kernel_rfl
theorem cellsSz : Tryd.prog.cellsOf 50 = 5 := by kernel_rfl
theorem gSizes : Tryd.prog.globalNamed "sheave/packet.sizes" = some 0 := by kernel_rfl
theorem tSizes : (Tryd.prog.globals[0]?).map (·.type) = some 50 := by kernel_rfl
/-- What the cards' rows list. -/
def laidP {H : Type} : List (String × DataW H) := [("sheave/packet.sizes", Rows.laid_sheave_packet_sizes)]
theorem glob_of_laidP {W : World} (h : laidMetH Tryd.prog laidP W) : PG W := by
  rw [MakeChecks.laidMetH_plain _ _ _ (by kernel_rfl)] at h
  obtain ⟨ps, ⟨g0, t0, cs0, f0, p0, q0, hg0, ht0, hv0, hd0, _, _⟩, _, _⟩ := h
  obtain rfl := Option.some.inj (gSizes.symm.trans hg0)
  obtain rfl := Option.some.inj (tSizes.symm.trans ht0)
  obtain ⟨f, _, e1, e2⟩ := open_row Tryd.underlying50 Tryd.underlying3 cellsSz cellsInt hd0
  simp only [Prod.mk.injEq] at e2
  have ef := litR_inj (show (litR .i64 5 szs : DataW _) = litR .i64 5 f from e2.1)
  have c0 : ∀ j, j < 5 → W.cell? ⟨0, j, none⟩ = some (.int .i64 (szs j)) := fun j hj => by
    rw [World.var?_cell hg0 hv0 j, ef j hj]
    have := row_get .i64 5 f j hj
    rw [← e1] at this
    simpa using this
  have s0 := World.block_lt_of_cell? W _ (c0 0 (by omega))
  exact ⟨c0, by dsimp only at s0; omega⟩
/-- The door's own heap meets the condition: three closed facts. -/
theorem door_metP (os : Os) (args : Array Value) : laidMetH Tryd.prog laidP ((World.doorLaid Tryd.prog 10 os).forCall (fun _ _ => 0) ⟨#[], args, []⟩).memory :=
  laidMetH_of_parts3 (fuel := 8) (laidMet_of_run' 8 (by kernel_rfl) (by kernel_rfl)) (by kernel_rfl) (by kernel_rfl)
end Go.Proofs.YtbhhboiofepnhaaDoor
