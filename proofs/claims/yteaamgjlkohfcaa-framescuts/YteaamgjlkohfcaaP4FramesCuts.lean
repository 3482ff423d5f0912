/- Texts of Qq Qu Opn Open10, joined. -/
import Derived.Test.YteaamgjlkohfcaaP2FramesCuts
import Derived.Test.YteaamgjlkohfcaaP1FramesCuts
import Derived.Test.YteaamgjlkohfcaaP3FramesCuts
import Derived.ProofKit
import Derived.LaidMore
import Derived.OpenShut
import Derived.SizedLaws
import Derived.Deep.Strs
import Derived.Stop.Joined
import Derived.Test.YteaamgjlkohfcaaRows
import Derived.JoinedCond
import Derived.Carry
namespace Go.Proofs.Yteaamgjlkohfcaa
open Go.RowKit

/-- Numbers in a slice. -/
def SrcI (w : World) (sp : Option Addr) (n : Nat) (f : Nat → Int) : Prop := ∀ j, j < n → ∃ ad, sp = some ad ∧ w.cell? (ad.add j) = some (.int .i64 (f j))
theorem SrcI.below {w w' : World} {sp : Option Addr} {n : Nat} {f : Nat → Int} (h : SrcI w sp n f) {B : Nat} (b : Below B w w') (hB : w.heap.size ≤ B) : SrcI w' sp n f := fun j hj => by
  obtain ⟨ad, e, hc⟩ := h j hj
  exact ⟨ad, e, by rw [b.cell (Nat.lt_of_lt_of_le (World.block_lt_of_cell? w _ hc) hB)]; exact hc⟩
theorem SrcI.at {w : World} {ad : Addr} {n : Nat} {f : Nat → Int} (h : SrcI w (some ad) n f) (j : Nat) (hj : j < n) : w.cell? (ad.add j) = some (.int .i64 (f j)) := by
  obtain ⟨ad', e, hc⟩ := h j hj
  injection e with e
  subst e
  exact hc
abbrev OwnI (w : World) (base : Nat) (l : List Int) (v : Value) : Prop := Own w base 3 .i64 l.length (bl l) v
theorem OwnI.app {w : World} {base : Nat} {a b : List Int} {v : Value} (h : Own w base 3 .i64 (a.length + b.length) (Go.Proofs.Yteaamgjlkohfcaa.app (bl a) a.length (bl b)) v) : OwnI w base (a ++ b) v := by
  unfold OwnI
  rw [List.length_append]
  exact h.congr fun j _ => bl_app' a b j
theorem OwnI.slice {w : World} {base : Nat} {l : List Int} {v : Value} (h : OwnI w base l v) : ∃ sp c, v = .slice sp l.length c ∧ SrcI w sp l.length (bl l) := by
  obtain ⟨sp, c, e, _, hs⟩ := h.isSlice
  exact ⟨sp, c, e, hs⟩
theorem SrcI.lit (w : World) (l : List Int) (hl : l.length ≤ 16) : SrcI (w.alloc (.cells (row .i64 l.length (bl l)).toArray 3)) (some ⟨w.heap.size, 0, none⟩) l.length (bl l) := by
  have h := Own.lit w w.heap.size 3 .i64 l.length (bl l) (Nat.le_refl _) (by unfold maxLen; omega)
  obtain ⟨sp, c, e, _, hs⟩ := h.isSlice
  injection e with e _ _
  subst e
  exact hs
theorem one64 : One Try.prog 3 .i64 8 := ⟨by kernel_rfl⟩
/-- Numbers in their least bytes, one behind the other. -/
def vls : List Int → List Int
  | [] => []
  | n :: l => vlst n.toNat ++ vls l
theorem vls_app : ∀ a b : List Int, vls (a ++ b) = vls a ++ vls b
  | [], _ => rfl
  | n :: a, b => by show vlst n.toNat ++ vls (a ++ b) = vlst n.toNat ++ vls a ++ vls b; rw [vls_app a b, List.append_assoc]
theorem vls_take (ns : List Int) (j : Nat) (hj : j < ns.length) : vls (ns.take (j + 1)) = vls (ns.take j) ++ vlst (bl ns j).toNat := by
  rw [List.take_succ_eq_append_getElem hj, vls_app]
  congr 1
  unfold bl
  rw [List.getD_eq_getElem?_getD, List.getElem?_eq_getElem hj]
  show vlst (ns[j]).toNat ++ [] = _
  rw [List.append_nil]
  rfl
def Nsm (ns : List Int) : Prop := ∀ x ∈ ns, 0 ≤ x ∧ x < 4611686018427387904
theorem Nsm.at {ns : List Int} (h : Nsm ns) (j : Nat) (hj : j < ns.length) : 0 ≤ bl ns j ∧ bl ns j < 4611686018427387904 := by
  unfold bl
  rw [List.getD_eq_getElem?_getD, List.getElem?_eq_getElem hj]
  exact h _ (List.getElem_mem hj)
theorem Nsm.one {a : Int} (ha : 0 ≤ a ∧ a < 4611686018427387904) : Nsm [a] := fun x hx => by obtain rfl := List.mem_singleton.1 hx; exact ha
theorem Nsm.cons {a : Int} {l : List Int} (ha : 0 ≤ a ∧ a < 4611686018427387904) (h : Nsm l) : Nsm (a :: l) := fun x hx => by
  rcases List.mem_cons.1 hx with rfl | hx
  · exact ha
  · exact h x hx
theorem Nsm.take {ns : List Int} (h : Nsm ns) (j : Nat) : Nsm (ns.take j) := fun x hx => h x (List.mem_of_mem_take hx)
theorem Nsm.vls : ∀ {ns : List Int}, Nsm ns → Byts (vls ns)
  | [], _ => fun x hx => by cases hx
  | n :: l, h => (vlst_byts n.toNat (by have := h n List.mem_cons_self; omega)).app (Nsm.vls fun x hx => h x (List.mem_cons_of_mem _ hx))
theorem vls_len : ∀ ns : List Int, (vls ns).length ≤ 8 * ns.length
  | [] => Nat.le_refl _
  | n :: l => by
    have := vls_len l
    have := vsz_le n.toNat
    show (vlst n.toNat ++ vls l).length ≤ 8 * (l.length + 1)
    rw [List.length_append, vlst_length]
    omega
/-- The numbers that tell ranges. -/
def stq : List (Int × Int) → Int → List Int
  | [], _ => []
  | p :: l, fr => (p.1 - fr) :: (p.2 - p.1) :: stq l p.2
theorem vls_stq : ∀ (l : List (Int × Int)) (fr : Int), vls (stq l fr) = ren l fr
  | [], _ => rfl
  | p :: l, fr => by show vlst (p.1 - fr).toNat ++ (vlst (p.2 - p.1).toNat ++ vls (stq l p.2)) = _; rw [vls_stq l p.2]; rfl
theorem stq_len : ∀ (l : List (Int × Int)) (fr : Int), (stq l fr).length = 2 * l.length
  | [], _ => rfl
  | p :: l, fr => by show (stq l p.2).length + 1 + 1 = 2 * (l.length + 1); rw [stq_len l p.2]; omega
theorem stq_snoc : ∀ (l : List (Int × Int)) (p : Int × Int) (fr : Int), stq (l ++ [p]) fr = stq l fr ++ [p.1 - fr_ l fr l.length, p.2 - p.1]
  | [], _, _ => rfl
  | q :: l, p, fr => by
    show (q.1 - fr) :: (q.2 - q.1) :: stq (l ++ [p]) q.2 = (q.1 - fr) :: (q.2 - q.1) :: (stq l q.2 ++ _)
    rw [stq_snoc l p q.2]
    have e : fr_ (q :: l) fr (q :: l).length = fr_ l q.2 l.length := by
      rw [List.length_cons, fr_succ]
      cases l with
      | nil => rfl
      | cons x l =>
        rw [List.length_cons, fr_succ]
        rfl
    rw [e]
theorem stq_take (l : List (Int × Int)) (fr : Int) (j : Nat) (hj : j < l.length) : stq (l.take (j + 1)) fr = stq (l.take j) fr ++ [(rgz l j).1 - fr_ l fr j, (rgz l j).2 - (rgz l j).1] := by
  rw [take_rgz l j hj, stq_snoc, fr_take l fr j (by omega)]
theorem stq_in : ∀ (l : List (Int × Int)) (fr : Int) (ab : Bool) (up : Int), 0 ≤ fr → up ≤ MX → rok l fr ab up = true → Nsm (stq l fr)
  | [], _, _, _, _, _, _ => fun x hx => by cases hx
  | p :: l, fr, ab, up, h0, hu, h => by
    obtain ⟨h1, h2, h3, h4⟩ := rok_cons h
    unfold MX at hu
    exact Nsm.cons (by omega) (Nsm.cons (by omega) (stq_in l p.2 true up (by omega) (by unfold MX; omega) h4))
theorem vputvar_good (sp : Option Addr) (cap : Nat) (l : List Int) (hl : l.length ≤ 140737488351232) (hcap : l.length ≤ cap) (hnil : sp = none → cap = 0) (hb : Byts l) (n : Int) (hn : 0 ≤ n ∧ n < 4611686018427387904) (w : World) (hs : Src w sp l.length (bl l)) :
    Calls Try.prog 39 #[.slice sp l.length cap, .int .i64 n] w fun e w' => ∃ v, e = .returned (.tuple #[v, .int .i64 0]) ∧ OwnL w' w.heap.size (l ++ vlst n.toNat) v ∧ Below w.heap.size w w' :=
  (vputvar_any sp l.length cap hl hcap hnil (bl l) hb.bl n ⟨by omega, by omega⟩ w hs).mono fun e w' h => by
    obtain ⟨⟨v, he, hO⟩, hB⟩ := h
    have hnb : ¬ vbad n := by unfold vbad; omega
    unfold vE at he
    unfold vL vput at hO
    rw [if_neg hnb] at he hO
    exact ⟨v, he, OwnL.put hO, hB⟩
theorem vputbytes_good (sp : Option Addr) (cap : Nat) (l : List Int) (hcap : l.length ≤ cap) (hnil : sp = none → cap = 0) (hb : Byts l) (tp : Option Addr) (tc : Nat) (t : List Int) (ht : t.length ≤ tc) (htn : tp = none → tc = 0) (htb : Byts t) (hl : l.length + t.length ≤ 140737488351232) (w : World) (hs : Src w sp l.length (bl l)) (hs2 : Src w tp t.length (bl t)) :
    Calls Try.prog 31 #[.slice sp l.length cap, .slice tp t.length tc] w fun e w' => ∃ v, e = .returned (.tuple #[v, .int .i64 0]) ∧ OwnL w' w.heap.size (l ++ vlst t.length ++ t) v ∧ Below w.heap.size w w' :=
  (vputbytes_any sp l.length cap (by omega) hcap hnil (bl l) hb.bl tp t.length tc (by omega) ht htn (bl t) htb.bl hl w hs hs2).mono fun e w' h => by
    obtain ⟨⟨v, he, hO⟩, hB⟩ := h
    refine ⟨v, he, OwnL.app ?_, hB⟩
    rw [List.length_append, vlst_length]
    refine hO.congr fun j hj => ?_
    unfold app
    by_cases c : j < l.length + vsz t.length
    · rw [if_pos c, if_pos c, bl_app]
      by_cases c2 : j < l.length
      · rw [if_pos c2, if_pos c2]
      · rw [if_neg c2, if_neg c2, bl_vlst _ _ (by omega)]
    · rw [if_neg c, if_neg c]

set_option maxRecDepth 10000 in
set_option maxHeartbeats 32000000 in
theorem put_any (ns : List Int) (hN : Nsm ns) (hne : 0 < ns.length) (hns : ns.length ≤ 20) (sp : Option Addr) (cap : Nat) (l : List Int) (hl : l.length ≤ 1000) (hcap : l.length ≤ cap) (hnil : sp = none → cap = 0) (hb : Byts l) (ip : Option Addr) (ic : Nat) (w : World) (hs : Src w sp l.length (bl l)) (hi : SrcI w ip ns.length (bl ns)) :
    Calls Try.prog 30 #[.slice sp l.length cap, .slice ip ns.length ic] w fun e w' => ∃ v, e = .returned v ∧ OwnL w' w.heap.size (l ++ vls ns) v ∧ Below w.heap.size w w' := by
  have M := Mm.init w
  go_enter Try.func30, Try.ntmps30
  go_upto_region 0 with fail
  refine wp_region_list ?_
  refine readL (.slice none 0 0) rfl (by kernel_rfl) ?_
  simp only [aP, lI, l0, lS]
  first | show Exit.then _ _ _ _ _ | show Exit.inBlock _ _ _ _ _
  go_upto_region 1 with fail
  refine wp_region_list ?_
  refine readL (.slice ip ns.length ic) rfl (by kernel_rfl) ?_
  simp only [aP, lI, l0, lS]
  refine readL (.int .i64 ((ns.length : Nat) : Int)) rfl (lenS _ 57 3 ip ns.length ic rfl Try.underlying57 rfl _) ?_
  simp only [aP, lI, l0, lS]
  refine readL (.int .i64 0) rfl (by kernel_rfl) ?_
  simp only [aP, lI, l0, lS]
  first | show Exit.then _ _ _ _ _ | show Exit.inBlock _ _ _ _ _
  have HI := show Hid _ from (And.intro hs M)
  clear M
  go_wp2
  go_loopw [0, 9] (fun bw i w' => ∃ (j : Nat) (p : Option Addr) (c : Nat), j ≤ ns.length ∧ bw = .slice p (l ++ vls (ns.take j)).length c ∧ i = .int .i64 (j : Int) ∧ Src w' p (l ++ vls (ns.take j)).length (bl (l ++ vls (ns.take j))) ∧ (l ++ vls (ns.take j)).length ≤ c ∧ (p = none → c = 0) ∧ (0 < j → OwnL w' w.heap.size (l ++ vls (ns.take j)) (.slice p (l ++ vls (ns.take j)).length c)) ∧ Mm w [] w') (fun _ i _ => ns.length - (intOf i).toNat)
  case atStart =>
    have e0 : l ++ vls (ns.take 0) = l := List.append_nil _
    refine ⟨0, sp, cap, Nat.zero_le _, ?_, rfl, ?_, ?_, hnil, fun h => absurd h (Nat.not_lt_zero _), HI.out.2⟩
    · rw [e0]
    · rw [e0]; exact HI.out.1
    · rw [e0]; exact hcap
  case round =>
    clear HI
    obtain ⟨j, p, c, hj, rfl, rfl, hsr, hpc, hpn, hO, M⟩ := hrel
    by_cases hlt : j < ns.length
    · obtain ⟨ad, rfl, _⟩ := hi j hlt
      have g1 : (j : Int) < ((ns.length : Nat) : Int) := by omega
      have hx := hN.at j hlt
      have hvl := vls_len (ns.take j)
      have htl : (ns.take j).length = j := by rw [List.length_take]; omega
      have hL : (l ++ vls (ns.take j)).length ≤ 1160 := by rw [List.length_append]; omega
      go_upto_region 2 with fail
      refine wp_region_list ?_
      refine readL (.bool true) rfl (lssI .i64 _ _ _ _ _ _ rfl rfl rfl true (decide_eq_true g1) _) ?_
      simp only [aP, lI, l0, lS]
      first | show Exit.then _ _ _ _ _ | show Exit.inBlock _ _ _ _ _
      go_upto_region 3 with fail
      refine wp_region_list ?_
      refine readL (.pointer (some (ad.add j))) rfl (idxSl 57 3 ns.length ic .i64 ad j _ _ Try.underlying57 (fun _ => by kernel_rfl) hlt rfl rfl rfl _) ?_
      simp only [aP, lI, l0, lS]
      refine readL (.int .i64 (bl ns j)) rfl (load1 3 _ (ad.add j) _ rfl rfl (fun _ => by kernel_rfl) ((hi.below M.below (Nat.le_refl _)).at j hlt)) ?_
      simp only [aP, lI, l0, lS]
      refine readL (.int .i64 (bl ns j)) rfl (by kernel_rfl) ?_
      simp only [aP, lI, l0, lS]
      first | show Exit.then _ _ _ _ _ | show Exit.inBlock _ _ _ _ _
      go_upto_region 4 with fail
      refine wp_region_list ?_
      refine readL (.slice p ((l ++ vls (ns.take j)).length) c) rfl (by kernel_rfl) ?_
      simp only [aP, lI, l0, lS]
      refine readL (.int .i64 (bl ns j)) rfl (by kernel_rfl) ?_
      simp only [aP, lI, l0, lS]
      refine callL rfl (fun _ => by kernel_rfl) (vputvar_good p c (l ++ vls (ns.take j)) (by omega) hpc hpn (hb.app (hN.take j).vls) (bl ns j) hx _ hsr) ?_
      rintro e w1 ⟨v, rfl, O_1, l1⟩
      have hn2 : ((l ++ vls (ns.take j)) ++ vlst (bl ns j).toNat) = l ++ vls (ns.take (j + 1)) := by rw [vls_take ns j hlt, List.append_assoc]
      rw [hn2] at O_1
      replace O_1 := O_1.lower (base' := w.heap.size) M.below.size
      replace M := M.call l1
      obtain ⟨p1, c1, rfl, _, _⟩ := O_1.bytes
      clear l1 hn2
      refine ⟨_, rfl, ?_⟩
      simp only [aP, lI, l0, lS]
      refine readL (.tuple #[.slice p1 ((l ++ vls (ns.take (j + 1))).length) c1, .int .i64 0]) rfl (by kernel_rfl) ?_
      simp only [aP, lI, l0, lS]
      refine readL (.slice p1 ((l ++ vls (ns.take (j + 1))).length) c1) rfl (by kernel_rfl) ?_
      simp only [aP, lI, l0, lS]
      refine readL (.int .i64 0) rfl (by kernel_rfl) ?_
      simp only [aP, lI, l0, lS]
      refine readL (.slice p1 ((l ++ vls (ns.take (j + 1))).length) c1) rfl (by kernel_rfl) ?_
      simp only [aP, lI, l0]
      first | show Exit.then _ _ _ _ _ | show Exit.inBlock _ _ _ _ _
      have HS := show Hid _ from (And.intro O_1.src (And.intro O_1.le (And.intro O_1.nilCap (And.intro (fun _ : 0 < j + 1 => O_1) M))))
      clear O_1 M hsr hpc hpn hO
      go_wp2
      go_roundw
      case rel => first | exact ⟨j + 1, _, _, by omega, rfl, by go_num, HS.out⟩ | ((repeat apply Exists.intro); refine ⟨⟨j + 1, _, _, by omega, rfl, ?_, HS.out⟩, rfl⟩ <;> first | rfl | go_num)
      case measure => simp [intOf]; omega
    · have hjq : j = ns.length := by omega
      have g1 : ¬ (j : Int) < ((ns.length : Nat) : Int) := by omega
      have htk : ns.take j = ns := by rw [hjq, List.take_length]
      have O_1 := hO (by omega)
      rw [htk] at O_1 ⊢
      clear hO
      go_upto_region 2 with fail
      refine wp_region_list ?_
      refine readL (.bool false) rfl (lssI .i64 _ _ _ _ _ _ rfl rfl rfl false (decide_eq_false g1) _) ?_
      simp only [aP, lI, l0, lS]
      first | show Exit.then _ _ _ _ _ | show Exit.inBlock _ _ _ _ _
      go_upto_region 6 with fail
      refine wp_region_list ?_
      refine readL (.slice p ((l ++ vls ns).length) c) rfl (by kernel_rfl) ?_
      simp only [aP, lI, l0, lS]
      refine readL (.slice p ((l ++ vls ns).length) c) rfl (by kernel_rfl) ?_
      simp only [aP, lI, l0, lS]
      first | show Exit.then _ _ _ _ _ | show Exit.inBlock _ _ _ _ _
      have HS := show Hid _ from (And.intro O_1 M.below)
      clear O_1 M hsr hpc hpn
      go_wp2
      go_ret
      exact ⟨_, rfl, by show OwnL _ _ _ (.slice p (l.length + (vls ns).length) c); rw [← List.length_append]; exact HS.out.1, HS.out.2⟩

set_option maxRecDepth 10000 in
set_option maxHeartbeats 32000000 in
theorem steps_any (rs : List (Int × Int)) (fr : Int) (ab : Bool) (up : Int) (h0 : 0 ≤ fr) (hup : up ≤ MX) (hr : rok rs fr ab up = true) (h8 : rs.length ≤ 8) (rp : Option Addr) (rc : Nat) (w : World) (hR : Rg w rp rs) :
    Calls Try.prog 32 #[.slice rp rs.length rc, .int .i64 fr] w fun e w' => ∃ v, e = .returned v ∧ OwnI w' w.heap.size ((rs.length : Int) :: stq rs fr) v ∧ Below w.heap.size w w' := by
  have M := Mm.init w
  have M0 : w.heap.size ≤ w.heap.size := Nat.le_refl _
  have hrk := rok_at hr h0
  unfold MX at hup
  go_enter Try.func32, Try.ntmps32
  go_upto_region 0 with fail
  refine wp_region_list ?_
  refine readL (.slice none 0 0) rfl (by kernel_rfl) ?_
  simp only [aP, lI, l0, lS]
  first | show Exit.then _ _ _ _ _ | show Exit.inBlock _ _ _ _ _
  go_upto_region 1 with fail
  refine wp_region_list ?_
  refine readL (.slice rp rs.length rc) rfl (by kernel_rfl) ?_
  simp only [aP, lI, l0, lS]
  refine readL (.int .i64 ((rs.length : Nat) : Int)) rfl (lenS _ 22 43 rp rs.length rc rfl Try.underlying22 rfl _) ?_
  simp only [aP, lI, l0, lS]
  refine actL (w' := w.alloc (.cells #[.int .i64 ((rs.length : Nat) : Int)] 3)) (.slice (some ⟨w.heap.size, 0, none⟩) 1 1) rfl (by kernel_rfl) ?_
  simp only [aP, lI, l0, lS]
  have hlb := (Below.refl w.heap.size w).alloc (Nat.le_refl _) (.cells #[.int .i64 ((rs.length : Nat) : Int)] 3)
  replace M := M.call hlb
  have T_1 : OwnI (w.alloc (.cells #[.int .i64 ((rs.length : Nat) : Int)] 3)) w.heap.size [((rs.length : Nat) : Int)] (.slice (some ⟨w.heap.size, 0, none⟩) 1 1) := Own.lit w w.heap.size 3 .i64 1 (bl [((rs.length : Nat) : Int)]) M0 (by unfold maxLen; omega)
  have S_1 : SrcI (w.alloc (.cells #[.int .i64 ((rs.length : Nat) : Int)] 3)) (some ⟨w.heap.size, 0, none⟩) 1 (bl [((rs.length : Nat) : Int)]) := SrcI.lit w [((rs.length : Nat) : Int)] (Nat.le_of_ble_eq_true rfl)
  clear hlb
  generalize w.alloc (.cells #[.int .i64 ((rs.length : Nat) : Int)] 3) = w1 at M S_1 T_1  ⊢
  generalize (some ⟨w.heap.size, 0, none⟩ : Option Addr) = p1 at S_1 T_1 ⊢
  refine readL (.slice p1 1 1) rfl (by kernel_rfl) ?_
  simp only [aP, lI, l0, lS]
  first | show Exit.then _ _ _ _ _ | show Exit.inBlock _ _ _ _ _
  clear S_1
  go_upto_region 2 with fail
  refine wp_region_list ?_
  refine readL (.slice rp rs.length rc) rfl (by kernel_rfl) ?_
  simp only [aP, lI, l0, lS]
  refine readL (.int .i64 ((rs.length : Nat) : Int)) rfl (lenS _ 22 43 rp rs.length rc rfl Try.underlying22 rfl _) ?_
  simp only [aP, lI, l0, lS]
  refine readL (.int .i64 0) rfl (by kernel_rfl) ?_
  simp only [aP, lI, l0, lS]
  first | show Exit.then _ _ _ _ _ | show Exit.inBlock _ _ _ _ _
  have HI := show Hid _ from (And.intro T_1 M)
  clear M T_1 M0
  go_wp2
  go_loopw [1, 5, 13] (fun fw tw i w' => ∃ (j : Nat) (p : Option Addr) (c : Nat), j ≤ rs.length ∧ fw = .int .i64 (fr_ rs fr j) ∧ tw = .slice p ((rs.length : Int) :: stq (rs.take j) fr).length c ∧ i = .int .i64 (j : Int) ∧ OwnI w' w.heap.size ((rs.length : Int) :: stq (rs.take j) fr) (.slice p ((rs.length : Int) :: stq (rs.take j) fr).length c) ∧ Mm w [] w') (fun _ _ i _ => rs.length - (intOf i).toNat)
  case atStart => exact ⟨0, p1, 1, Nat.zero_le _, rfl, rfl, rfl, HI.out⟩
  case round =>
    clear HI
    obtain ⟨j, p, c, hj, rfl, rfl, rfl, V_0, M⟩ := hrel
    by_cases hlt : j < rs.length
    · obtain ⟨ad, rfl, _⟩ := hR j hlt
      have g1 : (j : Int) < ((rs.length : Nat) : Int) := by omega
      obtain ⟨q1, q2, q3, q4⟩ := hrk j hlt
      have hVlt := ob_lt V_0
      have hlen : ((rs.length : Int) :: stq (rs.take j) fr).length = 1 + 2 * j := by rw [List.length_cons, stq_len, List.length_take]; omega
      go_upto_region 3 with fail
      refine wp_region_list ?_
      refine readL (.bool true) rfl (lssI .i64 _ _ _ _ _ _ rfl rfl rfl true (decide_eq_true g1) _) ?_
      simp only [aP, lI, l0, lS]
      first | show Exit.then _ _ _ _ _ | show Exit.inBlock _ _ _ _ _
      go_upto_region 4 with fail
      refine wp_region_list ?_
      refine readL (.pointer (some (ad.add (j * 2)))) rfl (idxN 22 43 2 rs.length rc ad j _ _ Try.underlying22 (fun _ => by kernel_rfl) hlt rfl rfl rfl _) ?_
      simp only [aP, lI, l0, lS]
      refine readL (.agg #[.int .i64 ((rgz rs j).1), .int .i64 ((rgz rs j).2)]) rfl (loadN 43 _ (ad.add (j * 2)) [.int .i64 ((rgz rs j).1), .int .i64 ((rgz rs j).2)] rfl rfl (fun _ => by kernel_rfl) (fun _ => by kernel_rfl) (rg2 ((hR.below M.below (Nat.le_refl _)).at j hlt))) ?_
      simp only [aP, lI, l0, lS]
      refine actL (w' := wr.alloc (.cells #[.int .i64 0, .int .i64 0] 43)) (.pointer (some ⟨wr.heap.size, 0, none⟩)) rfl (by kernel_rfl) ?_
      simp only [aP, lI, l0, lS]
      have hlb := (Below.refl wr.heap.size wr).alloc (Nat.le_refl _) (.cells #[.int .i64 0, .int .i64 0] 43)
      replace V_0 := ownsRow_low (X := []) V_0 (Off.of_below hlb) (fun _ h => by cases h)
      clear hlb
      have hB_B2 : w.heap.size ≤ wr.heap.size := M.below.size
      replace M := M.box #[.int .i64 0, .int .i64 0] 43 wr.heap.size rfl
      generalize wr.alloc (.cells #[.int .i64 0, .int .i64 0] 43) = w2 at M V_0 ⊢
      generalize eB : wr.heap.size = B2 at M hB_B2 ⊢
      have hE_B2 : wr.heap.size ≤ B2 := Nat.le_of_eq eB
      have hF_B2 : B2 ≤ wr.heap.size := Nat.le_of_eq eB.symm
      clear eB
      replace M : Mm w ([(B2, [.int .i64 0, .int .i64 0])]) w2 := M
      refine skipOpL rfl (storeP [.int .i64 ((rgz rs j).1), .int .i64 ((rgz rs j).2)] B2 0 43 _ _ rfl rfl rfl (M.thereP List.mem_cons_self 0 2 (Nat.le_of_ble_eq_true rfl)) (by kernel_rfl) (List.all_eq_true.1 (rfl : ([.int .i64 ((rgz rs j).1), .int .i64 ((rgz rs j).2)] : List Value).all (fun u => u.oneCell') = true))) ?_
      simp only [Act.put]
      replace M := M.setPart [.int .i64 ((rgz rs j).1), .int .i64 ((rgz rs j).2)] 0 (Nat.le_of_ble_eq_true rfl)
      replace V_0 := ownsRow_off V_0 ((Off.refl [B2] _).setAll (b := B2) List.mem_cons_self 0 [.int .i64 ((rgz rs j).1), .int .i64 ((rgz rs j).2)]) (fun x hx e => by obtain rfl := List.mem_singleton.1 hx; have h1 := hVlt _ ((ob_own _ _ _ _).1 e); omega)
      generalize w2.setCells B2 0 [.int .i64 ((rgz rs j).1), .int .i64 ((rgz rs j).2)] = w3 at M V_0 ⊢
      replace M : Mm w ([(B2, [.int .i64 ((rgz rs j).1), .int .i64 ((rgz rs j).2)])]) w3 := M
      first | show Exit.then _ _ _ _ _ | show Exit.inBlock _ _ _ _ _
      go_upto_region 5 with fail
      refine wp_region_list ?_
      refine readL (.slice p (((rs.length : Int) :: stq (rs.take j) fr).length) c) rfl (by kernel_rfl) ?_
      simp only [aP, lI, l0, lS]
      refine readL (.pointer (some ⟨B2, 0, none⟩)) rfl (by kernel_rfl) ?_
      simp only [aP, lI, l0, lS]
      refine readL (.int .i64 ((rgz rs j).1)) rfl (load1 3 _ ⟨B2, 0, none⟩ _ rfl rfl (fun _ => by kernel_rfl) (M.get List.mem_cons_self 0 _ rfl)) ?_
      simp only [aP, lI, l0, lS]
      refine readL (.int .i64 (fr_ rs fr j)) rfl (by kernel_rfl) ?_
      simp only [aP, lI, l0, lS]
      refine readL (.int .i64 (((rgz rs j).1) - (fr_ rs fr j))) rfl (subI .i64 _ _ _ _ _ _ _ rfl rfl rfl (by rw [IntKind.wrap_i64]; omega) _) ?_
      simp only [aP, lI, l0, lS]
      refine readL (.pointer (some ⟨B2, 1, none⟩)) rfl (by kernel_rfl) ?_
      simp only [aP, lI, l0, lS]
      refine readL (.int .i64 ((rgz rs j).2)) rfl (load1 3 _ ⟨B2, 1, none⟩ _ rfl rfl (fun _ => by kernel_rfl) (M.get List.mem_cons_self 1 _ rfl)) ?_
      simp only [aP, lI, l0, lS]
      refine readL (.pointer (some ⟨B2, 0, none⟩)) rfl (by kernel_rfl) ?_
      simp only [aP, lI, l0, lS]
      refine readL (.int .i64 ((rgz rs j).1)) rfl (load1 3 _ ⟨B2, 0, none⟩ _ rfl rfl (fun _ => by kernel_rfl) (M.get List.mem_cons_self 0 _ rfl)) ?_
      simp only [aP, lI, l0, lS]
      refine readL (.int .i64 (((rgz rs j).2) - ((rgz rs j).1))) rfl (subI .i64 _ _ _ _ _ _ _ rfl rfl rfl (by rw [IntKind.wrap_i64]; omega) _) ?_
      simp only [aP, lI, l0, lS]
      refine actL (w' := w3.alloc (.cells #[.int .i64 (((rgz rs j).1) - (fr_ rs fr j)), .int .i64 (((rgz rs j).2) - ((rgz rs j).1))] 3)) (.slice (some ⟨w3.heap.size, 0, none⟩) 2 2) rfl (by kernel_rfl) ?_
      simp only [aP, lI, l0, lS]
      have hlb := (Below.refl w3.heap.size w3).alloc (Nat.le_refl _) (.cells #[.int .i64 (((rgz rs j).1) - (fr_ rs fr j)), .int .i64 (((rgz rs j).2) - ((rgz rs j).1))] 3)
      replace M := M.call hlb
      replace V_0 := ownsRow_low (X := []) V_0 (Off.of_below hlb) (fun _ h => by cases h)
      have S_4 : SrcI (w3.alloc (.cells #[.int .i64 (((rgz rs j).1) - (fr_ rs fr j)), .int .i64 (((rgz rs j).2) - ((rgz rs j).1))] 3)) (some ⟨w3.heap.size, 0, none⟩) 2 (bl [((rgz rs j).1) - (fr_ rs fr j), ((rgz rs j).2) - ((rgz rs j).1)]) := SrcI.lit w3 [((rgz rs j).1) - (fr_ rs fr j), ((rgz rs j).2) - ((rgz rs j).1)] (Nat.le_of_ble_eq_true rfl)
      clear hlb
      generalize w3.alloc (.cells #[.int .i64 (((rgz rs j).1) - (fr_ rs fr j)), .int .i64 (((rgz rs j).2) - ((rgz rs j).1))] 3) = w4 at M S_4  V_0 ⊢
      generalize (some ⟨w3.heap.size, 0, none⟩ : Option Addr) = p4 at S_4  ⊢
      obtain ⟨v, w5, hr1, V_1, hgr, _⟩ := run_append_Own (P := Try.prog) (ty := 57) Try.underlying57 one64 V_0 p4 2 2 (bl [((rgz rs j).1) - (fr_ rs fr j), ((rgz rs j).2) - ((rgz rs j).1)]) S_4 (fun e => by obtain ⟨_, e', _⟩ := S_4 0 (by decide); rw [e] at e'; cases e') (by unfold maxLen; omega) (by omega) M.below.size
      have hofM : Off (ob p) w4 w5 := (Off.refl _ _).grown hgr (fun b hb => .inl ((ob_own _ _ _ _).1 hb))
      replace M := M.off hofM (fun x hx => (hVlt x hx).1) (fun q hq hx => by have h1 := hVlt _ hx; obtain rfl := List.mem_singleton.1 hq; simp only at h1; omega) ⟨hgr.os, hgr.tape, hgr.output⟩
      replace V_1 : OwnI w5 w.heap.size ((rs.length : Int) :: stq (rs.take (j + 1)) fr) v := by rw [stq_take rs fr j hlt]; exact OwnI.app (b := [(rgz rs j).1 - fr_ rs fr j, (rgz rs j).2 - (rgz rs j).1]) V_1
      refine actL v rfl (appendOp _ _ 57 _ _ _ rfl rfl rfl hr1) ?_
      simp only [aP, lI, l0, lS]
      obtain ⟨p5, c5, rfl, _⟩ := OwnI.slice V_1
      clear hr1 hgr hofM V_0 S_4
      refine readL (.slice p5 (((rs.length : Int) :: stq (rs.take (j + 1)) fr).length) c5) rfl (by kernel_rfl) ?_
      simp only [aP, lI, l0, lS]
      first | show Exit.then _ _ _ _ _ | show Exit.inBlock _ _ _ _ _
      go_upto_region 6 with fail
      refine wp_region_list ?_
      refine readL (.pointer (some ⟨B2, 1, none⟩)) rfl (by kernel_rfl) ?_
      simp only [aP, lI, l0, lS]
      refine readL (.int .i64 ((rgz rs j).2)) rfl (load1 3 _ ⟨B2, 1, none⟩ _ rfl rfl (fun _ => by kernel_rfl) (M.get List.mem_cons_self 1 _ rfl)) ?_
      simp only [aP, lI, l0, lS]
      refine readL (.int .i64 ((rgz rs j).2)) rfl (by kernel_rfl) ?_
      simp only [aP, lI, l0, lS]
      first | show Exit.then _ _ _ _ _ | show Exit.inBlock _ _ _ _ _
      replace M := M.tail
      have e1 : (rgz rs j).2 = fr_ rs fr (j + 1) := (fr_succ rs fr j).symm
      rw [e1]
      have HS := show Hid _ from (And.intro V_1 M)
      clear M V_1 e1 hlen
      go_wp2
      go_roundw
      case rel => first | exact ⟨j + 1, _, _, by omega, rfl, rfl, by go_num, HS.out⟩ | ((repeat apply Exists.intro); refine ⟨⟨j + 1, _, _, by omega, rfl, rfl, ?_, HS.out⟩, rfl⟩ <;> first | rfl | go_num)
      case measure => simp [intOf]; omega
    · have hjq : j = rs.length := by omega
      have g1 : ¬ (j : Int) < ((rs.length : Nat) : Int) := by omega
      have htk : rs.take j = rs := by rw [hjq, List.take_length]
      rw [htk] at V_0 ⊢
      go_upto_region 3 with fail
      refine wp_region_list ?_
      refine readL (.bool false) rfl (lssI .i64 _ _ _ _ _ _ rfl rfl rfl false (decide_eq_false g1) _) ?_
      simp only [aP, lI, l0, lS]
      first | show Exit.then _ _ _ _ _ | show Exit.inBlock _ _ _ _ _
      go_upto_region 8 with fail
      refine wp_region_list ?_
      refine readL (.slice p (((rs.length : Int) :: stq rs fr).length) c) rfl (by kernel_rfl) ?_
      simp only [aP, lI, l0, lS]
      refine readL (.slice p (((rs.length : Int) :: stq rs fr).length) c) rfl (by kernel_rfl) ?_
      simp only [aP, lI, l0, lS]
      first | show Exit.then _ _ _ _ _ | show Exit.inBlock _ _ _ _ _
      have HS := show Hid _ from (And.intro V_0 M.below)
      clear V_0 M
      go_wp2
      go_ret
      exact ⟨_, rfl, HS.out⟩

set_option maxRecDepth 10000 in
set_option maxHeartbeats 32000000 in
theorem written_any (f : Frm) (hok : Ok f) (rp : Option Addr) (rc : Nat) (bp : Option Addr) (bc : Nat) (w : World) (hf : FV w f rp rc bp bc) :
    Calls Try.prog 22 #[.agg (fcs f rp rc bp bc).toArray] w fun e w' => ∃ v, e = .returned v ∧ OwnL w' w.heap.size (fen f) v ∧ Below w.heap.size w w' := by
  cases hok using Ok.elim with
  | data a t h h1 h2 =>
    show Calls Try.prog 22 #[.agg #[.int .i64 1, .int .i64 a, .int .i64 0, .slice rp 0 rc, .slice bp t.length bc, .int .u8 0, .int .u8 0, .int .u8 0, .int .u8 0, .int .u8 0, .int .u8 0, .int .u8 0, .int .u8 0]] w _
    have M := Mm.init w
    go_enter Try.func22, Try.ntmps22
    go_upto_region 0 with fail
    refine wp_region_list ?_
    refine actL (w' := w.alloc (.cells #[.int .i64 1, .int .i64 a, .int .i64 0, .slice rp 0 rc, .slice bp t.length bc, .int .u8 0, .int .u8 0, .int .u8 0, .int .u8 0, .int .u8 0, .int .u8 0, .int .u8 0, .int .u8 0] 26)) (.pointer (some ⟨w.heap.size, 0, none⟩)) rfl (by kernel_rfl) ?_
    simp only [aP, lI, l0, lS]
    have hB_B1 : w.heap.size ≤ w.heap.size := M.below.size
    replace M := M.box #[.int .i64 1, .int .i64 a, .int .i64 0, .slice rp 0 rc, .slice bp t.length bc, .int .u8 0, .int .u8 0, .int .u8 0, .int .u8 0, .int .u8 0, .int .u8 0, .int .u8 0, .int .u8 0] 26 w.heap.size rfl
    generalize w.alloc (.cells #[.int .i64 1, .int .i64 a, .int .i64 0, .slice rp 0 rc, .slice bp t.length bc, .int .u8 0, .int .u8 0, .int .u8 0, .int .u8 0, .int .u8 0, .int .u8 0, .int .u8 0, .int .u8 0] 26) = w1 at M  ⊢
    generalize eB : w.heap.size = B1 at M hB_B1 ⊢
    have hE_B1 : w.heap.size ≤ B1 := Nat.le_of_eq eB
    have hF_B1 : B1 ≤ w.heap.size := Nat.le_of_eq eB.symm
    clear eB
    replace M : Mm w ([(B1, [.int .i64 1, .int .i64 a, .int .i64 0, .slice rp 0 rc, .slice bp t.length bc, .int .u8 0, .int .u8 0, .int .u8 0, .int .u8 0, .int .u8 0, .int .u8 0, .int .u8 0, .int .u8 0])]) w1 := M
    refine readL (.slice none 0 0) rfl (by kernel_rfl) ?_
    simp only [aP, lI, l0, lS]
    first | show Exit.then _ _ _ _ _ | show Exit.inBlock _ _ _ _ _
    go_upto_region 1 with fail
    refine wp_region_list ?_
    refine readL (.pointer (some ⟨B1, 0, none⟩)) rfl (by kernel_rfl) ?_
    simp only [aP, lI, l0, lS]
    refine readL (.int .i64 1) rfl (load1 3 _ ⟨B1, 0, none⟩ _ rfl rfl (fun _ => by kernel_rfl) (M.get List.mem_cons_self 0 _ rfl)) ?_
    simp only [aP, lI, l0, lS]
    refine readL (.int .u8 1) rfl (convI .i64 .u8 _ _ _ _ _ rfl (by kernel_rfl) Try.underlying5 (by kernel_rfl) rfl (by rw [IntKind.wrap_u8']; rfl) _) ?_
    simp only [aP, lI, l0, lS]
    refine actL (w' := w1.alloc (.cells #[.int .u8 1] 5)) (.slice (some ⟨w1.heap.size, 0, none⟩) 1 1) rfl (by kernel_rfl) ?_
    simp only [aP, lI, l0, lS]
    have O_2 : OwnL (w1.alloc (.cells #[.int .u8 1] 5)) (B1 + 1) [1] (.slice (some ⟨w1.heap.size, 0, none⟩) 1 1) := Own.lit w1 (B1 + 1) 5 .u8 1 (bl [1]) (M.lt List.mem_cons_self) (by unfold maxLen; omega)
    replace M := M.call ((Below.refl w1.heap.size w1).alloc (Nat.le_refl _) (.cells #[.int .u8 1] 5))
    generalize w1.alloc (.cells #[.int .u8 1] 5) = w2 at M O_2 ⊢
    generalize hp2 : (some ⟨w1.heap.size, 0, none⟩ : Option Addr) = p2 at O_2 ⊢
    clear hp2
    have hL2 : ([1] : List Int).length ≤ 1 := Nat.le_refl _
    have Y_2 : Byts [1] := fun x hx => by obtain rfl := List.mem_singleton.1 hx; decide
    refine readL (.slice p2 1 1) rfl (by kernel_rfl) ?_
    simp only [aP, lI, l0, lS]
    first | show Exit.then _ _ _ _ _ | show Exit.inBlock _ _ _ _ _
    go_upto_region 2 with fail
    refine wp_region_list ?_
    refine readL (.pointer (some ⟨B1, 0, none⟩)) rfl (by kernel_rfl) ?_
    simp only [aP, lI, l0, lS]
    refine readL (.int .i64 1) rfl (load1 3 _ ⟨B1, 0, none⟩ _ rfl rfl (fun _ => by kernel_rfl) (M.get List.mem_cons_self 0 _ rfl)) ?_
    simp only [aP, lI, l0, lS]
    first | show Exit.then _ _ _ _ _ | show Exit.inBlock _ _ _ _ _
    go_upto_region 3 with fail
    refine wp_region_list ?_
    refine readL (.bool true) rfl (eqlI .i64 _ _ _ _ _ _ rfl rfl rfl true (by decide) _) ?_
    simp only [aP, lI, l0, lS]
    refine readL (.bool true) rfl (by kernel_rfl) ?_
    simp only [aP, lI, l0, lS]
    first | show Exit.then _ _ _ _ _ | show Exit.inBlock _ _ _ _ _
    go_upto_region 4 with fail
    refine wp_region_list ?_
    refine readL (.slice p2 1 1) rfl (by kernel_rfl) ?_
    simp only [aP, lI, l0, lS]
    refine readL (.pointer (some ⟨B1, 1, none⟩)) rfl (by kernel_rfl) ?_
    simp only [aP, lI, l0, lS]
    refine readL (.int .i64 a) rfl (load1 3 _ ⟨B1, 1, none⟩ _ rfl rfl (fun _ => by kernel_rfl) (M.get List.mem_cons_self 1 _ rfl)) ?_
    simp only [aP, lI, l0, lS]
    refine actL (w' := w2.alloc (.cells #[.int .i64 a] 3)) (.slice (some ⟨w2.heap.size, 0, none⟩) 1 1) rfl (by kernel_rfl) ?_
    simp only [aP, lI, l0, lS]
    have hlb := (Below.refl w2.heap.size w2).alloc (Nat.le_refl _) (.cells #[.int .i64 a] 3)
    replace M := M.call hlb
    replace O_2 := O_2.below hlb
    have S_3 : SrcI (w2.alloc (.cells #[.int .i64 a] 3)) (some ⟨w2.heap.size, 0, none⟩) 1 (bl [a]) := SrcI.lit w2 [a] (Nat.le_of_ble_eq_true rfl)
    clear hlb
    generalize w2.alloc (.cells #[.int .i64 a] 3) = w3 at M S_3  O_2 ⊢
    generalize (some ⟨w2.heap.size, 0, none⟩ : Option Addr) = p3 at S_3  ⊢
    have hN4 : Nsm ([a]) := (Nsm.one (by omega))
    have hnl4 : ([a]).length ≤ 1 := by exact Nat.le_of_ble_eq_true rfl
    have hne4 : 0 < ([a]).length := Nat.zero_lt_succ _
    have hvl4 := vls_len ([a])
    refine callL rfl (fun _ => by kernel_rfl) (put_any ([a]) hN4 hne4 (by omega) p2 1 ([1]) (by omega) O_2.le O_2.nilCap Y_2 p3 1 _ O_2.src S_3) ?_
    rintro e w4 ⟨v, rfl, O_4, l1⟩
    replace O_4 := O_4.lower (base' := (B1 + 1)) (M.lt List.mem_cons_self)
    replace M := M.call l1
    obtain ⟨p4, c4, rfl, _, _⟩ := O_4.bytes
    have Y_4 : Byts ([1] ++ vls ([a])) := Y_2.app hN4.vls
    have hL4 : ([1] ++ vls ([a])).length ≤ 9 := by rw [List.length_append]; omega
    clear l1 O_2 Y_2
    refine ⟨_, rfl, ?_⟩
    simp only [aP, lI, l0, lS]
    clear S_3 hvl4 hne4
    refine readL (.slice p4 (([1] ++ vls ([a])).length) c4) rfl (by kernel_rfl) ?_
    simp only [aP, lI, l0, lS]
    first | show Exit.then _ _ _ _ _ | show Exit.inBlock _ _ _ _ _
    go_upto_region 5 with fail
    refine wp_region_list ?_
    refine readL (.slice p4 (([1] ++ vls ([a])).length) c4) rfl (by kernel_rfl) ?_
    simp only [aP, lI, l0, lS]
    refine readL (.pointer (some ⟨B1, 4, none⟩)) rfl (by kernel_rfl) ?_
    simp only [aP, lI, l0, lS]
    refine readL (.slice bp t.length bc) rfl (load1 23 _ ⟨B1, 4, none⟩ _ rfl rfl (fun _ => by kernel_rfl) (M.get List.mem_cons_self 4 _ rfl)) ?_
    simp only [aP, lI, l0, lS]
    refine callL rfl (fun _ => by kernel_rfl) (vputbytes_good p4 c4 ([1] ++ vls ([a])) O_4.le O_4.nilCap Y_4 bp bc t hf.ble hf.bnil hf.wf.byt (by omega) _ O_4.src (hf.src.below M.below (Nat.le_refl _))) ?_
    rintro e w5 ⟨v, rfl, O_5, l1⟩
    have hvt := vsz_le t.length
    replace O_5 := O_5.lower (base' := (B1 + 1)) (M.lt List.mem_cons_self)
    replace M := M.call l1
    obtain ⟨p5, c5, rfl, _, _⟩ := O_5.bytes
    have Y_5 : Byts ([1] ++ vls ([a]) ++ vlst t.length ++ t) := (Y_4.app (vlst_byts _ (by omega))).app hf.wf.byt
    have hL5 : ([1] ++ vls ([a]) ++ vlst t.length ++ t).length ≤ 145 := by rw [List.length_append, List.length_append, vlst_length]; omega
    clear l1 O_4 Y_4
    refine ⟨_, rfl, ?_⟩
    simp only [aP, lI, l0, lS]
    refine readL (.tuple #[.slice p5 (([1] ++ vls ([a]) ++ vlst t.length ++ t).length) c5, .int .i64 0]) rfl (by kernel_rfl) ?_
    simp only [aP, lI, l0, lS]
    refine readL (.slice p5 (([1] ++ vls ([a]) ++ vlst t.length ++ t).length) c5) rfl (by kernel_rfl) ?_
    simp only [aP, lI, l0, lS]
    refine readL (.int .i64 0) rfl (by kernel_rfl) ?_
    simp only [aP, lI, l0, lS]
    refine readL (.slice p5 (([1] ++ vls ([a]) ++ vlst t.length ++ t).length) c5) rfl (by kernel_rfl) ?_
    simp only [aP, lI, l0, lS]
    first | show Exit.then _ _ _ _ _ | show Exit.inBlock _ _ _ _ _
    go_upto_region 18 with fail
    refine wp_region_list ?_
    refine readL (.slice p5 (([1] ++ vls ([a]) ++ vlst t.length ++ t).length) c5) rfl (by kernel_rfl) ?_
    simp only [aP, lI, l0, lS]
    refine readL (.slice p5 (([1] ++ vls ([a]) ++ vlst t.length ++ t).length) c5) rfl (by kernel_rfl) ?_
    simp only [aP, lI, l0, lS]
    first | show Exit.then _ _ _ _ _ | show Exit.inBlock _ _ _ _ _
    have hA := show Hid (([1] ++ vls ([a]) ++ vlst t.length ++ t) = fen ⟨1, a, 0, [], t, z8⟩) from (by show _ = 1 :: (vlst a.toNat ++ (vlst t.length ++ t)); simp only [vls, List.append_assoc, List.cons_append, List.nil_append, List.append_nil])
    have hS := show Hid _ from (And.intro (O_5.lower (Nat.le_succ_of_le (M.lo List.mem_cons_self))) M.below)
    clear O_5 M
    go_wp2
    go_ret
    exact ⟨_, rfl, by rw [← hA.out]; exact hS.out.1, hS.out.2⟩
  | tok k t hk =>
    rcases hk with rfl | rfl
    · show Calls Try.prog 22 #[.agg #[.int .i64 3, .int .i64 0, .int .i64 0, .slice rp 0 rc, .slice bp 0 bc, .int .u8 (bl t 0), .int .u8 (bl t 1), .int .u8 (bl t 2), .int .u8 (bl t 3), .int .u8 (bl t 4), .int .u8 (bl t 5), .int .u8 (bl t 6), .int .u8 (bl t 7)]] w _
      have M := Mm.init w
      go_enter Try.func22, Try.ntmps22
      go_upto_region 0 with fail
      refine wp_region_list ?_
      refine actL (w' := w.alloc (.cells #[.int .i64 3, .int .i64 0, .int .i64 0, .slice rp 0 rc, .slice bp 0 bc, .int .u8 (bl t 0), .int .u8 (bl t 1), .int .u8 (bl t 2), .int .u8 (bl t 3), .int .u8 (bl t 4), .int .u8 (bl t 5), .int .u8 (bl t 6), .int .u8 (bl t 7)] 26)) (.pointer (some ⟨w.heap.size, 0, none⟩)) rfl (by kernel_rfl) ?_
      simp only [aP, lI, l0, lS]
      have hB_B1 : w.heap.size ≤ w.heap.size := M.below.size
      replace M := M.box #[.int .i64 3, .int .i64 0, .int .i64 0, .slice rp 0 rc, .slice bp 0 bc, .int .u8 (bl t 0), .int .u8 (bl t 1), .int .u8 (bl t 2), .int .u8 (bl t 3), .int .u8 (bl t 4), .int .u8 (bl t 5), .int .u8 (bl t 6), .int .u8 (bl t 7)] 26 w.heap.size rfl
      generalize w.alloc (.cells #[.int .i64 3, .int .i64 0, .int .i64 0, .slice rp 0 rc, .slice bp 0 bc, .int .u8 (bl t 0), .int .u8 (bl t 1), .int .u8 (bl t 2), .int .u8 (bl t 3), .int .u8 (bl t 4), .int .u8 (bl t 5), .int .u8 (bl t 6), .int .u8 (bl t 7)] 26) = w1 at M  ⊢
      generalize eB : w.heap.size = B1 at M hB_B1 ⊢
      have hE_B1 : w.heap.size ≤ B1 := Nat.le_of_eq eB
      have hF_B1 : B1 ≤ w.heap.size := Nat.le_of_eq eB.symm
      clear eB
      replace M : Mm w ([(B1, [.int .i64 3, .int .i64 0, .int .i64 0, .slice rp 0 rc, .slice bp 0 bc, .int .u8 (bl t 0), .int .u8 (bl t 1), .int .u8 (bl t 2), .int .u8 (bl t 3), .int .u8 (bl t 4), .int .u8 (bl t 5), .int .u8 (bl t 6), .int .u8 (bl t 7)])]) w1 := M
      refine readL (.slice none 0 0) rfl (by kernel_rfl) ?_
      simp only [aP, lI, l0, lS]
      first | show Exit.then _ _ _ _ _ | show Exit.inBlock _ _ _ _ _
      go_upto_region 1 with fail
      refine wp_region_list ?_
      refine readL (.pointer (some ⟨B1, 0, none⟩)) rfl (by kernel_rfl) ?_
      simp only [aP, lI, l0, lS]
      refine readL (.int .i64 3) rfl (load1 3 _ ⟨B1, 0, none⟩ _ rfl rfl (fun _ => by kernel_rfl) (M.get List.mem_cons_self 0 _ rfl)) ?_
      simp only [aP, lI, l0, lS]
      refine readL (.int .u8 3) rfl (convI .i64 .u8 _ _ _ _ _ rfl (by kernel_rfl) Try.underlying5 (by kernel_rfl) rfl (by rw [IntKind.wrap_u8']; rfl) _) ?_
      simp only [aP, lI, l0, lS]
      refine actL (w' := w1.alloc (.cells #[.int .u8 3] 5)) (.slice (some ⟨w1.heap.size, 0, none⟩) 1 1) rfl (by kernel_rfl) ?_
      simp only [aP, lI, l0, lS]
      have O_2 : OwnL (w1.alloc (.cells #[.int .u8 3] 5)) (B1 + 1) [3] (.slice (some ⟨w1.heap.size, 0, none⟩) 1 1) := Own.lit w1 (B1 + 1) 5 .u8 1 (bl [3]) (M.lt List.mem_cons_self) (by unfold maxLen; omega)
      replace M := M.call ((Below.refl w1.heap.size w1).alloc (Nat.le_refl _) (.cells #[.int .u8 3] 5))
      generalize w1.alloc (.cells #[.int .u8 3] 5) = w2 at M O_2 ⊢
      generalize hp2 : (some ⟨w1.heap.size, 0, none⟩ : Option Addr) = p2 at O_2 ⊢
      clear hp2
      have hL2 : ([3] : List Int).length ≤ 1 := Nat.le_refl _
      have Y_2 : Byts [3] := fun x hx => by obtain rfl := List.mem_singleton.1 hx; decide
      refine readL (.slice p2 1 1) rfl (by kernel_rfl) ?_
      simp only [aP, lI, l0, lS]
      first | show Exit.then _ _ _ _ _ | show Exit.inBlock _ _ _ _ _
      go_upto_region 2 with fail
      refine wp_region_list ?_
      refine readL (.pointer (some ⟨B1, 0, none⟩)) rfl (by kernel_rfl) ?_
      simp only [aP, lI, l0, lS]
      refine readL (.int .i64 3) rfl (load1 3 _ ⟨B1, 0, none⟩ _ rfl rfl (fun _ => by kernel_rfl) (M.get List.mem_cons_self 0 _ rfl)) ?_
      simp only [aP, lI, l0, lS]
      first | show Exit.then _ _ _ _ _ | show Exit.inBlock _ _ _ _ _
      go_upto_region 3 with fail
      refine wp_region_list ?_
      refine readL (.bool false) rfl (eqlI .i64 _ _ _ _ _ _ rfl rfl rfl false (by decide) _) ?_
      simp only [aP, lI, l0, lS]
      refine readL (.bool false) rfl (by kernel_rfl) ?_
      simp only [aP, lI, l0, lS]
      first | show Exit.then _ _ _ _ _ | show Exit.inBlock _ _ _ _ _
      have tok_src : ∀ {w' : World}, Mm w [(B1, [.int .i64 3, .int .i64 0, .int .i64 0, .slice rp 0 rc, .slice bp 0 bc, .int .u8 (bl t 0), .int .u8 (bl t 1), .int .u8 (bl t 2), .int .u8 (bl t 3), .int .u8 (bl t 4), .int .u8 (bl t 5), .int .u8 (bl t 6), .int .u8 (bl t 7)])] w' → Src w' (some ⟨B1, 5, none⟩) 8 (bl t) := fun M j hj => ⟨_, rfl, by
        rw [Addr.add_mid]
        refine M.get List.mem_cons_self (5 + j) _ ?_
        have : j = 0 ∨ j = 1 ∨ j = 2 ∨ j = 3 ∨ j = 4 ∨ j = 5 ∨ j = 6 ∨ j = 7 := by omega
        rcases this with rfl | rfl | rfl | rfl | rfl | rfl | rfl | rfl <;> rfl⟩
      have h8 : t.length = 8 := hf.wf.eight
      go_upto_region 6 with fail
      refine wp_region_list ?_
      refine readL (.bool false) rfl (eqlI .i64 _ _ _ _ _ _ rfl rfl rfl false (by decide) _) ?_
      simp only [aP, lI, l0, lS]
      refine readL (.bool false) rfl (by kernel_rfl) ?_
      simp only [aP, lI, l0, lS]
      first | show Exit.then _ _ _ _ _ | show Exit.inBlock _ _ _ _ _
      go_upto_region 9 with fail
      refine wp_region_list ?_
      refine readL (.bool true) rfl (eqlI .i64 _ _ _ _ _ _ rfl rfl rfl true (by decide) _) ?_
      simp only [aP, lI, l0, lS]
      refine readL (.bool true) rfl (by kernel_rfl) ?_
      simp only [aP, lI, l0, lS]
      first | show Exit.then _ _ _ _ _ | show Exit.inBlock _ _ _ _ _
      go_upto_region 11 with fail
      refine wp_region_list ?_
      refine readL (.slice p2 1 1) rfl (by kernel_rfl) ?_
      simp only [aP, lI, l0, lS]
      refine readL (.pointer (some ⟨B1, 5, none⟩)) rfl (by kernel_rfl) ?_
      simp only [aP, lI, l0, lS]
      refine readL (.slice (some ⟨B1, 5, none⟩) 8 8) rfl (cutAll 24 _ _ _ rfl rfl (by kernel_rfl)) ?_
      simp only [aP, lI, l0, lS]
      obtain ⟨v, w3, hr, O_3, hgr, _⟩ := run_append_Own (P := Try.prog) (ty := 23) Try.underlying23 one8 O_2 (some ⟨B1, 5, none⟩) 8 8 (bl t) (tok_src M) (fun e => by cases e) (by unfold maxLen; omega) (by omega) (M.lt List.mem_cons_self)
      replace M := M.grown hgr (B1 + 1) (fun p hp => by obtain rfl := List.mem_singleton.1 hp; exact Nat.lt_succ_self _) (Nat.le_succ_of_le (M.lo List.mem_cons_self)) (M.lt List.mem_cons_self) (fun b hb => (World.ownsRow.lt O_2 b hb).1)
      rw [show (8 : Nat) = t.length from h8.symm] at O_3
      replace O_3 : OwnL w3 (B1 + 1) ([3] ++ t) v := OwnL.app O_3
      refine actL v rfl (appendOp _ _ 23 _ _ _ rfl rfl rfl hr) ?_
      simp only [aP, lI, l0, lS]
      clear hr hgr O_2
      obtain ⟨p3, c3, rfl, _, _⟩ := O_3.bytes
      refine readL (.slice p3 (([3] ++ t).length) c3) rfl (by kernel_rfl) ?_
      simp only [aP, lI, l0, lS]
      first | show Exit.then _ _ _ _ _ | show Exit.inBlock _ _ _ _ _
      go_upto_region 18 with fail
      refine wp_region_list ?_
      refine readL (.slice p3 (([3] ++ t).length) c3) rfl (by kernel_rfl) ?_
      simp only [aP, lI, l0, lS]
      refine readL (.slice p3 (([3] ++ t).length) c3) rfl (by kernel_rfl) ?_
      simp only [aP, lI, l0, lS]
      first | show Exit.then _ _ _ _ _ | show Exit.inBlock _ _ _ _ _
      have hA := show Hid (([3] ++ t) = fen ⟨3, 0, 0, [], [], t⟩) from (by show [3] ++ t = 3 :: t; rfl)
      have hS := show Hid _ from (And.intro (O_3.lower (Nat.le_succ_of_le (M.lo List.mem_cons_self))) M.below)
      clear O_3 M
      go_wp2
      go_ret
      exact ⟨_, rfl, by rw [← hA.out]; exact hS.out.1, hS.out.2⟩
    · show Calls Try.prog 22 #[.agg #[.int .i64 4, .int .i64 0, .int .i64 0, .slice rp 0 rc, .slice bp 0 bc, .int .u8 (bl t 0), .int .u8 (bl t 1), .int .u8 (bl t 2), .int .u8 (bl t 3), .int .u8 (bl t 4), .int .u8 (bl t 5), .int .u8 (bl t 6), .int .u8 (bl t 7)]] w _
      have M := Mm.init w
      go_enter Try.func22, Try.ntmps22
      go_upto_region 0 with fail
      refine wp_region_list ?_
      refine actL (w' := w.alloc (.cells #[.int .i64 4, .int .i64 0, .int .i64 0, .slice rp 0 rc, .slice bp 0 bc, .int .u8 (bl t 0), .int .u8 (bl t 1), .int .u8 (bl t 2), .int .u8 (bl t 3), .int .u8 (bl t 4), .int .u8 (bl t 5), .int .u8 (bl t 6), .int .u8 (bl t 7)] 26)) (.pointer (some ⟨w.heap.size, 0, none⟩)) rfl (by kernel_rfl) ?_
      simp only [aP, lI, l0, lS]
      have hB_B1 : w.heap.size ≤ w.heap.size := M.below.size
      replace M := M.box #[.int .i64 4, .int .i64 0, .int .i64 0, .slice rp 0 rc, .slice bp 0 bc, .int .u8 (bl t 0), .int .u8 (bl t 1), .int .u8 (bl t 2), .int .u8 (bl t 3), .int .u8 (bl t 4), .int .u8 (bl t 5), .int .u8 (bl t 6), .int .u8 (bl t 7)] 26 w.heap.size rfl
      generalize w.alloc (.cells #[.int .i64 4, .int .i64 0, .int .i64 0, .slice rp 0 rc, .slice bp 0 bc, .int .u8 (bl t 0), .int .u8 (bl t 1), .int .u8 (bl t 2), .int .u8 (bl t 3), .int .u8 (bl t 4), .int .u8 (bl t 5), .int .u8 (bl t 6), .int .u8 (bl t 7)] 26) = w1 at M  ⊢
      generalize eB : w.heap.size = B1 at M hB_B1 ⊢
      have hE_B1 : w.heap.size ≤ B1 := Nat.le_of_eq eB
      have hF_B1 : B1 ≤ w.heap.size := Nat.le_of_eq eB.symm
      clear eB
      replace M : Mm w ([(B1, [.int .i64 4, .int .i64 0, .int .i64 0, .slice rp 0 rc, .slice bp 0 bc, .int .u8 (bl t 0), .int .u8 (bl t 1), .int .u8 (bl t 2), .int .u8 (bl t 3), .int .u8 (bl t 4), .int .u8 (bl t 5), .int .u8 (bl t 6), .int .u8 (bl t 7)])]) w1 := M
      refine readL (.slice none 0 0) rfl (by kernel_rfl) ?_
      simp only [aP, lI, l0, lS]
      first | show Exit.then _ _ _ _ _ | show Exit.inBlock _ _ _ _ _
      go_upto_region 1 with fail
      refine wp_region_list ?_
      refine readL (.pointer (some ⟨B1, 0, none⟩)) rfl (by kernel_rfl) ?_
      simp only [aP, lI, l0, lS]
      refine readL (.int .i64 4) rfl (load1 3 _ ⟨B1, 0, none⟩ _ rfl rfl (fun _ => by kernel_rfl) (M.get List.mem_cons_self 0 _ rfl)) ?_
      simp only [aP, lI, l0, lS]
      refine readL (.int .u8 4) rfl (convI .i64 .u8 _ _ _ _ _ rfl (by kernel_rfl) Try.underlying5 (by kernel_rfl) rfl (by rw [IntKind.wrap_u8']; rfl) _) ?_
      simp only [aP, lI, l0, lS]
      refine actL (w' := w1.alloc (.cells #[.int .u8 4] 5)) (.slice (some ⟨w1.heap.size, 0, none⟩) 1 1) rfl (by kernel_rfl) ?_
      simp only [aP, lI, l0, lS]
      have O_2 : OwnL (w1.alloc (.cells #[.int .u8 4] 5)) (B1 + 1) [4] (.slice (some ⟨w1.heap.size, 0, none⟩) 1 1) := Own.lit w1 (B1 + 1) 5 .u8 1 (bl [4]) (M.lt List.mem_cons_self) (by unfold maxLen; omega)
      replace M := M.call ((Below.refl w1.heap.size w1).alloc (Nat.le_refl _) (.cells #[.int .u8 4] 5))
      generalize w1.alloc (.cells #[.int .u8 4] 5) = w2 at M O_2 ⊢
      generalize hp2 : (some ⟨w1.heap.size, 0, none⟩ : Option Addr) = p2 at O_2 ⊢
      clear hp2
      have hL2 : ([4] : List Int).length ≤ 1 := Nat.le_refl _
      have Y_2 : Byts [4] := fun x hx => by obtain rfl := List.mem_singleton.1 hx; decide
      refine readL (.slice p2 1 1) rfl (by kernel_rfl) ?_
      simp only [aP, lI, l0, lS]
      first | show Exit.then _ _ _ _ _ | show Exit.inBlock _ _ _ _ _
      go_upto_region 2 with fail
      refine wp_region_list ?_
      refine readL (.pointer (some ⟨B1, 0, none⟩)) rfl (by kernel_rfl) ?_
      simp only [aP, lI, l0, lS]
      refine readL (.int .i64 4) rfl (load1 3 _ ⟨B1, 0, none⟩ _ rfl rfl (fun _ => by kernel_rfl) (M.get List.mem_cons_self 0 _ rfl)) ?_
      simp only [aP, lI, l0, lS]
      first | show Exit.then _ _ _ _ _ | show Exit.inBlock _ _ _ _ _
      go_upto_region 3 with fail
      refine wp_region_list ?_
      refine readL (.bool false) rfl (eqlI .i64 _ _ _ _ _ _ rfl rfl rfl false (by decide) _) ?_
      simp only [aP, lI, l0, lS]
      refine readL (.bool false) rfl (by kernel_rfl) ?_
      simp only [aP, lI, l0, lS]
      first | show Exit.then _ _ _ _ _ | show Exit.inBlock _ _ _ _ _
      have tok_src : ∀ {w' : World}, Mm w [(B1, [.int .i64 4, .int .i64 0, .int .i64 0, .slice rp 0 rc, .slice bp 0 bc, .int .u8 (bl t 0), .int .u8 (bl t 1), .int .u8 (bl t 2), .int .u8 (bl t 3), .int .u8 (bl t 4), .int .u8 (bl t 5), .int .u8 (bl t 6), .int .u8 (bl t 7)])] w' → Src w' (some ⟨B1, 5, none⟩) 8 (bl t) := fun M j hj => ⟨_, rfl, by
        rw [Addr.add_mid]
        refine M.get List.mem_cons_self (5 + j) _ ?_
        have : j = 0 ∨ j = 1 ∨ j = 2 ∨ j = 3 ∨ j = 4 ∨ j = 5 ∨ j = 6 ∨ j = 7 := by omega
        rcases this with rfl | rfl | rfl | rfl | rfl | rfl | rfl | rfl <;> rfl⟩
      have h8 : t.length = 8 := hf.wf.eight
      go_upto_region 6 with fail
      refine wp_region_list ?_
      refine readL (.bool false) rfl (eqlI .i64 _ _ _ _ _ _ rfl rfl rfl false (by decide) _) ?_
      simp only [aP, lI, l0, lS]
      refine readL (.bool false) rfl (by kernel_rfl) ?_
      simp only [aP, lI, l0, lS]
      first | show Exit.then _ _ _ _ _ | show Exit.inBlock _ _ _ _ _
      go_upto_region 9 with fail
      refine wp_region_list ?_
      refine readL (.bool false) rfl (eqlI .i64 _ _ _ _ _ _ rfl rfl rfl false (by decide) _) ?_
      simp only [aP, lI, l0, lS]
      refine readL (.bool false) rfl (by kernel_rfl) ?_
      simp only [aP, lI, l0, lS]
      first | show Exit.then _ _ _ _ _ | show Exit.inBlock _ _ _ _ _
      go_upto_region 10 with fail
      refine wp_region_list ?_
      refine readL (.bool true) rfl (eqlI .i64 _ _ _ _ _ _ rfl rfl rfl true (by decide) _) ?_
      simp only [aP, lI, l0, lS]
      refine readL (.bool true) rfl (by kernel_rfl) ?_
      simp only [aP, lI, l0, lS]
      first | show Exit.then _ _ _ _ _ | show Exit.inBlock _ _ _ _ _
      go_upto_region 11 with fail
      refine wp_region_list ?_
      refine readL (.slice p2 1 1) rfl (by kernel_rfl) ?_
      simp only [aP, lI, l0, lS]
      refine readL (.pointer (some ⟨B1, 5, none⟩)) rfl (by kernel_rfl) ?_
      simp only [aP, lI, l0, lS]
      refine readL (.slice (some ⟨B1, 5, none⟩) 8 8) rfl (cutAll 24 _ _ _ rfl rfl (by kernel_rfl)) ?_
      simp only [aP, lI, l0, lS]
      obtain ⟨v, w3, hr, O_3, hgr, _⟩ := run_append_Own (P := Try.prog) (ty := 23) Try.underlying23 one8 O_2 (some ⟨B1, 5, none⟩) 8 8 (bl t) (tok_src M) (fun e => by cases e) (by unfold maxLen; omega) (by omega) (M.lt List.mem_cons_self)
      replace M := M.grown hgr (B1 + 1) (fun p hp => by obtain rfl := List.mem_singleton.1 hp; exact Nat.lt_succ_self _) (Nat.le_succ_of_le (M.lo List.mem_cons_self)) (M.lt List.mem_cons_self) (fun b hb => (World.ownsRow.lt O_2 b hb).1)
      rw [show (8 : Nat) = t.length from h8.symm] at O_3
      replace O_3 : OwnL w3 (B1 + 1) ([4] ++ t) v := OwnL.app O_3
      refine actL v rfl (appendOp _ _ 23 _ _ _ rfl rfl rfl hr) ?_
      simp only [aP, lI, l0, lS]
      clear hr hgr O_2
      obtain ⟨p3, c3, rfl, _, _⟩ := O_3.bytes
      refine readL (.slice p3 (([4] ++ t).length) c3) rfl (by kernel_rfl) ?_
      simp only [aP, lI, l0, lS]
      first | show Exit.then _ _ _ _ _ | show Exit.inBlock _ _ _ _ _
      go_upto_region 18 with fail
      refine wp_region_list ?_
      refine readL (.slice p3 (([4] ++ t).length) c3) rfl (by kernel_rfl) ?_
      simp only [aP, lI, l0, lS]
      refine readL (.slice p3 (([4] ++ t).length) c3) rfl (by kernel_rfl) ?_
      simp only [aP, lI, l0, lS]
      first | show Exit.then _ _ _ _ _ | show Exit.inBlock _ _ _ _ _
      have hA := show Hid (([4] ++ t) = fen ⟨4, 0, 0, [], [], t⟩) from (by show [4] ++ t = 4 :: t; rfl)
      have hS := show Hid _ from (And.intro (O_3.lower (Nat.le_succ_of_le (M.lo List.mem_cons_self))) M.below)
      clear O_3 M
      go_wp2
      go_ret
      exact ⟨_, rfl, by rw [← hA.out]; exact hS.out.1, hS.out.2⟩
  | upd a h =>
    show Calls Try.prog 22 #[.agg #[.int .i64 5, .int .i64 a, .int .i64 0, .slice rp 0 rc, .slice bp 0 bc, .int .u8 0, .int .u8 0, .int .u8 0, .int .u8 0, .int .u8 0, .int .u8 0, .int .u8 0, .int .u8 0]] w _
    have M := Mm.init w
    go_enter Try.func22, Try.ntmps22
    go_upto_region 0 with fail
    refine wp_region_list ?_
    refine actL (w' := w.alloc (.cells #[.int .i64 5, .int .i64 a, .int .i64 0, .slice rp 0 rc, .slice bp 0 bc, .int .u8 0, .int .u8 0, .int .u8 0, .int .u8 0, .int .u8 0, .int .u8 0, .int .u8 0, .int .u8 0] 26)) (.pointer (some ⟨w.heap.size, 0, none⟩)) rfl (by kernel_rfl) ?_
    simp only [aP, lI, l0, lS]
    have hB_B1 : w.heap.size ≤ w.heap.size := M.below.size
    replace M := M.box #[.int .i64 5, .int .i64 a, .int .i64 0, .slice rp 0 rc, .slice bp 0 bc, .int .u8 0, .int .u8 0, .int .u8 0, .int .u8 0, .int .u8 0, .int .u8 0, .int .u8 0, .int .u8 0] 26 w.heap.size rfl
    generalize w.alloc (.cells #[.int .i64 5, .int .i64 a, .int .i64 0, .slice rp 0 rc, .slice bp 0 bc, .int .u8 0, .int .u8 0, .int .u8 0, .int .u8 0, .int .u8 0, .int .u8 0, .int .u8 0, .int .u8 0] 26) = w1 at M  ⊢
    generalize eB : w.heap.size = B1 at M hB_B1 ⊢
    have hE_B1 : w.heap.size ≤ B1 := Nat.le_of_eq eB
    have hF_B1 : B1 ≤ w.heap.size := Nat.le_of_eq eB.symm
    clear eB
    replace M : Mm w ([(B1, [.int .i64 5, .int .i64 a, .int .i64 0, .slice rp 0 rc, .slice bp 0 bc, .int .u8 0, .int .u8 0, .int .u8 0, .int .u8 0, .int .u8 0, .int .u8 0, .int .u8 0, .int .u8 0])]) w1 := M
    refine readL (.slice none 0 0) rfl (by kernel_rfl) ?_
    simp only [aP, lI, l0, lS]
    first | show Exit.then _ _ _ _ _ | show Exit.inBlock _ _ _ _ _
    go_upto_region 1 with fail
    refine wp_region_list ?_
    refine readL (.pointer (some ⟨B1, 0, none⟩)) rfl (by kernel_rfl) ?_
    simp only [aP, lI, l0, lS]
    refine readL (.int .i64 5) rfl (load1 3 _ ⟨B1, 0, none⟩ _ rfl rfl (fun _ => by kernel_rfl) (M.get List.mem_cons_self 0 _ rfl)) ?_
    simp only [aP, lI, l0, lS]
    refine readL (.int .u8 5) rfl (convI .i64 .u8 _ _ _ _ _ rfl (by kernel_rfl) Try.underlying5 (by kernel_rfl) rfl (by rw [IntKind.wrap_u8']; rfl) _) ?_
    simp only [aP, lI, l0, lS]
    refine actL (w' := w1.alloc (.cells #[.int .u8 5] 5)) (.slice (some ⟨w1.heap.size, 0, none⟩) 1 1) rfl (by kernel_rfl) ?_
    simp only [aP, lI, l0, lS]
    have O_2 : OwnL (w1.alloc (.cells #[.int .u8 5] 5)) (B1 + 1) [5] (.slice (some ⟨w1.heap.size, 0, none⟩) 1 1) := Own.lit w1 (B1 + 1) 5 .u8 1 (bl [5]) (M.lt List.mem_cons_self) (by unfold maxLen; omega)
    replace M := M.call ((Below.refl w1.heap.size w1).alloc (Nat.le_refl _) (.cells #[.int .u8 5] 5))
    generalize w1.alloc (.cells #[.int .u8 5] 5) = w2 at M O_2 ⊢
    generalize hp2 : (some ⟨w1.heap.size, 0, none⟩ : Option Addr) = p2 at O_2 ⊢
    clear hp2
    have hL2 : ([5] : List Int).length ≤ 1 := Nat.le_refl _
    have Y_2 : Byts [5] := fun x hx => by obtain rfl := List.mem_singleton.1 hx; decide
    refine readL (.slice p2 1 1) rfl (by kernel_rfl) ?_
    simp only [aP, lI, l0, lS]
    first | show Exit.then _ _ _ _ _ | show Exit.inBlock _ _ _ _ _
    go_upto_region 2 with fail
    refine wp_region_list ?_
    refine readL (.pointer (some ⟨B1, 0, none⟩)) rfl (by kernel_rfl) ?_
    simp only [aP, lI, l0, lS]
    refine readL (.int .i64 5) rfl (load1 3 _ ⟨B1, 0, none⟩ _ rfl rfl (fun _ => by kernel_rfl) (M.get List.mem_cons_self 0 _ rfl)) ?_
    simp only [aP, lI, l0, lS]
    first | show Exit.then _ _ _ _ _ | show Exit.inBlock _ _ _ _ _
    go_upto_region 3 with fail
    refine wp_region_list ?_
    refine readL (.bool false) rfl (eqlI .i64 _ _ _ _ _ _ rfl rfl rfl false (by decide) _) ?_
    simp only [aP, lI, l0, lS]
    refine readL (.bool false) rfl (by kernel_rfl) ?_
    simp only [aP, lI, l0, lS]
    first | show Exit.then _ _ _ _ _ | show Exit.inBlock _ _ _ _ _
    go_upto_region 6 with fail
    refine wp_region_list ?_
    refine readL (.bool false) rfl (eqlI .i64 _ _ _ _ _ _ rfl rfl rfl false (by decide) _) ?_
    simp only [aP, lI, l0, lS]
    refine readL (.bool false) rfl (by kernel_rfl) ?_
    simp only [aP, lI, l0, lS]
    first | show Exit.then _ _ _ _ _ | show Exit.inBlock _ _ _ _ _
    go_upto_region 9 with fail
    refine wp_region_list ?_
    refine readL (.bool false) rfl (eqlI .i64 _ _ _ _ _ _ rfl rfl rfl false (by decide) _) ?_
    simp only [aP, lI, l0, lS]
    refine readL (.bool false) rfl (by kernel_rfl) ?_
    simp only [aP, lI, l0, lS]
    first | show Exit.then _ _ _ _ _ | show Exit.inBlock _ _ _ _ _
    go_upto_region 10 with fail
    refine wp_region_list ?_
    refine readL (.bool false) rfl (eqlI .i64 _ _ _ _ _ _ rfl rfl rfl false (by decide) _) ?_
    simp only [aP, lI, l0, lS]
    refine readL (.bool false) rfl (by kernel_rfl) ?_
    simp only [aP, lI, l0, lS]
    first | show Exit.then _ _ _ _ _ | show Exit.inBlock _ _ _ _ _
    go_upto_region 12 with fail
    refine wp_region_list ?_
    refine readL (.bool true) rfl (eqlI .i64 _ _ _ _ _ _ rfl rfl rfl true (by decide) _) ?_
    simp only [aP, lI, l0, lS]
    refine readL (.bool true) rfl (by kernel_rfl) ?_
    simp only [aP, lI, l0, lS]
    first | show Exit.then _ _ _ _ _ | show Exit.inBlock _ _ _ _ _
    go_upto_region 14 with fail
    refine wp_region_list ?_
    refine readL (.slice p2 1 1) rfl (by kernel_rfl) ?_
    simp only [aP, lI, l0, lS]
    refine readL (.pointer (some ⟨B1, 1, none⟩)) rfl (by kernel_rfl) ?_
    simp only [aP, lI, l0, lS]
    refine readL (.int .i64 a) rfl (load1 3 _ ⟨B1, 1, none⟩ _ rfl rfl (fun _ => by kernel_rfl) (M.get List.mem_cons_self 1 _ rfl)) ?_
    simp only [aP, lI, l0, lS]
    refine actL (w' := w2.alloc (.cells #[.int .i64 a] 3)) (.slice (some ⟨w2.heap.size, 0, none⟩) 1 1) rfl (by kernel_rfl) ?_
    simp only [aP, lI, l0, lS]
    have hlb := (Below.refl w2.heap.size w2).alloc (Nat.le_refl _) (.cells #[.int .i64 a] 3)
    replace M := M.call hlb
    replace O_2 := O_2.below hlb
    have S_3 : SrcI (w2.alloc (.cells #[.int .i64 a] 3)) (some ⟨w2.heap.size, 0, none⟩) 1 (bl [a]) := SrcI.lit w2 [a] (Nat.le_of_ble_eq_true rfl)
    clear hlb
    generalize w2.alloc (.cells #[.int .i64 a] 3) = w3 at M S_3  O_2 ⊢
    generalize (some ⟨w2.heap.size, 0, none⟩ : Option Addr) = p3 at S_3  ⊢
    have hN4 : Nsm ([a]) := (Nsm.one (by omega))
    have hnl4 : ([a]).length ≤ 1 := by exact Nat.le_of_ble_eq_true rfl
    have hne4 : 0 < ([a]).length := Nat.zero_lt_succ _
    have hvl4 := vls_len ([a])
    refine callL rfl (fun _ => by kernel_rfl) (put_any ([a]) hN4 hne4 (by omega) p2 1 ([5]) (by omega) O_2.le O_2.nilCap Y_2 p3 1 _ O_2.src S_3) ?_
    rintro e w4 ⟨v, rfl, O_4, l1⟩
    replace O_4 := O_4.lower (base' := (B1 + 1)) (M.lt List.mem_cons_self)
    replace M := M.call l1
    obtain ⟨p4, c4, rfl, _, _⟩ := O_4.bytes
    have Y_4 : Byts ([5] ++ vls ([a])) := Y_2.app hN4.vls
    have hL4 : ([5] ++ vls ([a])).length ≤ 9 := by rw [List.length_append]; omega
    clear l1 O_2 Y_2
    refine ⟨_, rfl, ?_⟩
    simp only [aP, lI, l0, lS]
    clear S_3 hvl4 hne4
    refine readL (.slice p4 (([5] ++ vls ([a])).length) c4) rfl (by kernel_rfl) ?_
    simp only [aP, lI, l0, lS]
    first | show Exit.then _ _ _ _ _ | show Exit.inBlock _ _ _ _ _
    go_upto_region 18 with fail
    refine wp_region_list ?_
    refine readL (.slice p4 (([5] ++ vls ([a])).length) c4) rfl (by kernel_rfl) ?_
    simp only [aP, lI, l0, lS]
    refine readL (.slice p4 (([5] ++ vls ([a])).length) c4) rfl (by kernel_rfl) ?_
    simp only [aP, lI, l0, lS]
    first | show Exit.then _ _ _ _ _ | show Exit.inBlock _ _ _ _ _
    have hA := show Hid (([5] ++ vls ([a])) = fen ⟨5, a, 0, [], [], z8⟩) from (by show _ = 5 :: (vlst a.toNat ++ []); simp only [vls, List.cons_append, List.nil_append, List.append_nil])
    have hS := show Hid _ from (And.intro (O_4.lower (Nat.le_succ_of_le (M.lo List.mem_cons_self))) M.below)
    clear O_4 M
    go_wp2
    go_ret
    exact ⟨_, rfl, by rw [← hA.out]; exact hS.out.1, hS.out.2⟩
  | close a h =>
    show Calls Try.prog 22 #[.agg #[.int .i64 6, .int .i64 a, .int .i64 0, .slice rp 0 rc, .slice bp 0 bc, .int .u8 0, .int .u8 0, .int .u8 0, .int .u8 0, .int .u8 0, .int .u8 0, .int .u8 0, .int .u8 0]] w _
    have M := Mm.init w
    go_enter Try.func22, Try.ntmps22
    go_upto_region 0 with fail
    refine wp_region_list ?_
    refine actL (w' := w.alloc (.cells #[.int .i64 6, .int .i64 a, .int .i64 0, .slice rp 0 rc, .slice bp 0 bc, .int .u8 0, .int .u8 0, .int .u8 0, .int .u8 0, .int .u8 0, .int .u8 0, .int .u8 0, .int .u8 0] 26)) (.pointer (some ⟨w.heap.size, 0, none⟩)) rfl (by kernel_rfl) ?_
    simp only [aP, lI, l0, lS]
    have hB_B1 : w.heap.size ≤ w.heap.size := M.below.size
    replace M := M.box #[.int .i64 6, .int .i64 a, .int .i64 0, .slice rp 0 rc, .slice bp 0 bc, .int .u8 0, .int .u8 0, .int .u8 0, .int .u8 0, .int .u8 0, .int .u8 0, .int .u8 0, .int .u8 0] 26 w.heap.size rfl
    generalize w.alloc (.cells #[.int .i64 6, .int .i64 a, .int .i64 0, .slice rp 0 rc, .slice bp 0 bc, .int .u8 0, .int .u8 0, .int .u8 0, .int .u8 0, .int .u8 0, .int .u8 0, .int .u8 0, .int .u8 0] 26) = w1 at M  ⊢
    generalize eB : w.heap.size = B1 at M hB_B1 ⊢
    have hE_B1 : w.heap.size ≤ B1 := Nat.le_of_eq eB
    have hF_B1 : B1 ≤ w.heap.size := Nat.le_of_eq eB.symm
    clear eB
    replace M : Mm w ([(B1, [.int .i64 6, .int .i64 a, .int .i64 0, .slice rp 0 rc, .slice bp 0 bc, .int .u8 0, .int .u8 0, .int .u8 0, .int .u8 0, .int .u8 0, .int .u8 0, .int .u8 0, .int .u8 0])]) w1 := M
    refine readL (.slice none 0 0) rfl (by kernel_rfl) ?_
    simp only [aP, lI, l0, lS]
    first | show Exit.then _ _ _ _ _ | show Exit.inBlock _ _ _ _ _
    go_upto_region 1 with fail
    refine wp_region_list ?_
    refine readL (.pointer (some ⟨B1, 0, none⟩)) rfl (by kernel_rfl) ?_
    simp only [aP, lI, l0, lS]
    refine readL (.int .i64 6) rfl (load1 3 _ ⟨B1, 0, none⟩ _ rfl rfl (fun _ => by kernel_rfl) (M.get List.mem_cons_self 0 _ rfl)) ?_
    simp only [aP, lI, l0, lS]
    refine readL (.int .u8 6) rfl (convI .i64 .u8 _ _ _ _ _ rfl (by kernel_rfl) Try.underlying5 (by kernel_rfl) rfl (by rw [IntKind.wrap_u8']; rfl) _) ?_
    simp only [aP, lI, l0, lS]
    refine actL (w' := w1.alloc (.cells #[.int .u8 6] 5)) (.slice (some ⟨w1.heap.size, 0, none⟩) 1 1) rfl (by kernel_rfl) ?_
    simp only [aP, lI, l0, lS]
    have O_2 : OwnL (w1.alloc (.cells #[.int .u8 6] 5)) (B1 + 1) [6] (.slice (some ⟨w1.heap.size, 0, none⟩) 1 1) := Own.lit w1 (B1 + 1) 5 .u8 1 (bl [6]) (M.lt List.mem_cons_self) (by unfold maxLen; omega)
    replace M := M.call ((Below.refl w1.heap.size w1).alloc (Nat.le_refl _) (.cells #[.int .u8 6] 5))
    generalize w1.alloc (.cells #[.int .u8 6] 5) = w2 at M O_2 ⊢
    generalize hp2 : (some ⟨w1.heap.size, 0, none⟩ : Option Addr) = p2 at O_2 ⊢
    clear hp2
    have hL2 : ([6] : List Int).length ≤ 1 := Nat.le_refl _
    have Y_2 : Byts [6] := fun x hx => by obtain rfl := List.mem_singleton.1 hx; decide
    refine readL (.slice p2 1 1) rfl (by kernel_rfl) ?_
    simp only [aP, lI, l0, lS]
    first | show Exit.then _ _ _ _ _ | show Exit.inBlock _ _ _ _ _
    go_upto_region 2 with fail
    refine wp_region_list ?_
    refine readL (.pointer (some ⟨B1, 0, none⟩)) rfl (by kernel_rfl) ?_
    simp only [aP, lI, l0, lS]
    refine readL (.int .i64 6) rfl (load1 3 _ ⟨B1, 0, none⟩ _ rfl rfl (fun _ => by kernel_rfl) (M.get List.mem_cons_self 0 _ rfl)) ?_
    simp only [aP, lI, l0, lS]
    first | show Exit.then _ _ _ _ _ | show Exit.inBlock _ _ _ _ _
    go_upto_region 3 with fail
    refine wp_region_list ?_
    refine readL (.bool false) rfl (eqlI .i64 _ _ _ _ _ _ rfl rfl rfl false (by decide) _) ?_
    simp only [aP, lI, l0, lS]
    refine readL (.bool false) rfl (by kernel_rfl) ?_
    simp only [aP, lI, l0, lS]
    first | show Exit.then _ _ _ _ _ | show Exit.inBlock _ _ _ _ _
    go_upto_region 6 with fail
    refine wp_region_list ?_
    refine readL (.bool false) rfl (eqlI .i64 _ _ _ _ _ _ rfl rfl rfl false (by decide) _) ?_
    simp only [aP, lI, l0, lS]
    refine readL (.bool false) rfl (by kernel_rfl) ?_
    simp only [aP, lI, l0, lS]
    first | show Exit.then _ _ _ _ _ | show Exit.inBlock _ _ _ _ _
    go_upto_region 9 with fail
    refine wp_region_list ?_
    refine readL (.bool false) rfl (eqlI .i64 _ _ _ _ _ _ rfl rfl rfl false (by decide) _) ?_
    simp only [aP, lI, l0, lS]
    refine readL (.bool false) rfl (by kernel_rfl) ?_
    simp only [aP, lI, l0, lS]
    first | show Exit.then _ _ _ _ _ | show Exit.inBlock _ _ _ _ _
    go_upto_region 10 with fail
    refine wp_region_list ?_
    refine readL (.bool false) rfl (eqlI .i64 _ _ _ _ _ _ rfl rfl rfl false (by decide) _) ?_
    simp only [aP, lI, l0, lS]
    refine readL (.bool false) rfl (by kernel_rfl) ?_
    simp only [aP, lI, l0, lS]
    first | show Exit.then _ _ _ _ _ | show Exit.inBlock _ _ _ _ _
    go_upto_region 12 with fail
    refine wp_region_list ?_
    refine readL (.bool false) rfl (eqlI .i64 _ _ _ _ _ _ rfl rfl rfl false (by decide) _) ?_
    simp only [aP, lI, l0, lS]
    refine readL (.bool false) rfl (by kernel_rfl) ?_
    simp only [aP, lI, l0, lS]
    first | show Exit.then _ _ _ _ _ | show Exit.inBlock _ _ _ _ _
    go_upto_region 13 with fail
    refine wp_region_list ?_
    refine readL (.bool true) rfl (eqlI .i64 _ _ _ _ _ _ rfl rfl rfl true (by decide) _) ?_
    simp only [aP, lI, l0, lS]
    refine readL (.bool true) rfl (by kernel_rfl) ?_
    simp only [aP, lI, l0, lS]
    first | show Exit.then _ _ _ _ _ | show Exit.inBlock _ _ _ _ _
    go_upto_region 14 with fail
    refine wp_region_list ?_
    refine readL (.slice p2 1 1) rfl (by kernel_rfl) ?_
    simp only [aP, lI, l0, lS]
    refine readL (.pointer (some ⟨B1, 1, none⟩)) rfl (by kernel_rfl) ?_
    simp only [aP, lI, l0, lS]
    refine readL (.int .i64 a) rfl (load1 3 _ ⟨B1, 1, none⟩ _ rfl rfl (fun _ => by kernel_rfl) (M.get List.mem_cons_self 1 _ rfl)) ?_
    simp only [aP, lI, l0, lS]
    refine actL (w' := w2.alloc (.cells #[.int .i64 a] 3)) (.slice (some ⟨w2.heap.size, 0, none⟩) 1 1) rfl (by kernel_rfl) ?_
    simp only [aP, lI, l0, lS]
    have hlb := (Below.refl w2.heap.size w2).alloc (Nat.le_refl _) (.cells #[.int .i64 a] 3)
    replace M := M.call hlb
    replace O_2 := O_2.below hlb
    have S_3 : SrcI (w2.alloc (.cells #[.int .i64 a] 3)) (some ⟨w2.heap.size, 0, none⟩) 1 (bl [a]) := SrcI.lit w2 [a] (Nat.le_of_ble_eq_true rfl)
    clear hlb
    generalize w2.alloc (.cells #[.int .i64 a] 3) = w3 at M S_3  O_2 ⊢
    generalize (some ⟨w2.heap.size, 0, none⟩ : Option Addr) = p3 at S_3  ⊢
    have hN4 : Nsm ([a]) := (Nsm.one (by omega))
    have hnl4 : ([a]).length ≤ 1 := by exact Nat.le_of_ble_eq_true rfl
    have hne4 : 0 < ([a]).length := Nat.zero_lt_succ _
    have hvl4 := vls_len ([a])
    refine callL rfl (fun _ => by kernel_rfl) (put_any ([a]) hN4 hne4 (by omega) p2 1 ([6]) (by omega) O_2.le O_2.nilCap Y_2 p3 1 _ O_2.src S_3) ?_
    rintro e w4 ⟨v, rfl, O_4, l1⟩
    replace O_4 := O_4.lower (base' := (B1 + 1)) (M.lt List.mem_cons_self)
    replace M := M.call l1
    obtain ⟨p4, c4, rfl, _, _⟩ := O_4.bytes
    have Y_4 : Byts ([6] ++ vls ([a])) := Y_2.app hN4.vls
    have hL4 : ([6] ++ vls ([a])).length ≤ 9 := by rw [List.length_append]; omega
    clear l1 O_2 Y_2
    refine ⟨_, rfl, ?_⟩
    simp only [aP, lI, l0, lS]
    clear S_3 hvl4 hne4
    refine readL (.slice p4 (([6] ++ vls ([a])).length) c4) rfl (by kernel_rfl) ?_
    simp only [aP, lI, l0, lS]
    first | show Exit.then _ _ _ _ _ | show Exit.inBlock _ _ _ _ _
    go_upto_region 18 with fail
    refine wp_region_list ?_
    refine readL (.slice p4 (([6] ++ vls ([a])).length) c4) rfl (by kernel_rfl) ?_
    simp only [aP, lI, l0, lS]
    refine readL (.slice p4 (([6] ++ vls ([a])).length) c4) rfl (by kernel_rfl) ?_
    simp only [aP, lI, l0, lS]
    first | show Exit.then _ _ _ _ _ | show Exit.inBlock _ _ _ _ _
    have hA := show Hid (([6] ++ vls ([a])) = fen ⟨6, a, 0, [], [], z8⟩) from (by show _ = 6 :: (vlst a.toNat ++ []); simp only [vls, List.cons_append, List.nil_append, List.append_nil])
    have hS := show Hid _ from (And.intro (O_4.lower (Nat.le_succ_of_le (M.lo List.mem_cons_self))) M.below)
    clear O_4 M
    go_wp2
    go_ret
    exact ⟨_, rfl, by rw [← hA.out]; exact hS.out.1, hS.out.2⟩
  | ack a l rs h hl hr h8 =>
    show Calls Try.prog 22 #[.agg #[.int .i64 2, .int .i64 a, .int .i64 l, .slice rp rs.length rc, .slice bp 0 bc, .int .u8 0, .int .u8 0, .int .u8 0, .int .u8 0, .int .u8 0, .int .u8 0, .int .u8 0, .int .u8 0]] w _
    have M := Mm.init w
    go_enter Try.func22, Try.ntmps22
    go_upto_region 0 with fail
    refine wp_region_list ?_
    refine actL (w' := w.alloc (.cells #[.int .i64 2, .int .i64 a, .int .i64 l, .slice rp rs.length rc, .slice bp 0 bc, .int .u8 0, .int .u8 0, .int .u8 0, .int .u8 0, .int .u8 0, .int .u8 0, .int .u8 0, .int .u8 0] 26)) (.pointer (some ⟨w.heap.size, 0, none⟩)) rfl (by kernel_rfl) ?_
    simp only [aP, lI, l0, lS]
    have hB_B1 : w.heap.size ≤ w.heap.size := M.below.size
    replace M := M.box #[.int .i64 2, .int .i64 a, .int .i64 l, .slice rp rs.length rc, .slice bp 0 bc, .int .u8 0, .int .u8 0, .int .u8 0, .int .u8 0, .int .u8 0, .int .u8 0, .int .u8 0, .int .u8 0] 26 w.heap.size rfl
    generalize w.alloc (.cells #[.int .i64 2, .int .i64 a, .int .i64 l, .slice rp rs.length rc, .slice bp 0 bc, .int .u8 0, .int .u8 0, .int .u8 0, .int .u8 0, .int .u8 0, .int .u8 0, .int .u8 0, .int .u8 0] 26) = w1 at M  ⊢
    generalize eB : w.heap.size = B1 at M hB_B1 ⊢
    have hE_B1 : w.heap.size ≤ B1 := Nat.le_of_eq eB
    have hF_B1 : B1 ≤ w.heap.size := Nat.le_of_eq eB.symm
    clear eB
    replace M : Mm w ([(B1, [.int .i64 2, .int .i64 a, .int .i64 l, .slice rp rs.length rc, .slice bp 0 bc, .int .u8 0, .int .u8 0, .int .u8 0, .int .u8 0, .int .u8 0, .int .u8 0, .int .u8 0, .int .u8 0])]) w1 := M
    refine readL (.slice none 0 0) rfl (by kernel_rfl) ?_
    simp only [aP, lI, l0, lS]
    first | show Exit.then _ _ _ _ _ | show Exit.inBlock _ _ _ _ _
    go_upto_region 1 with fail
    refine wp_region_list ?_
    refine readL (.pointer (some ⟨B1, 0, none⟩)) rfl (by kernel_rfl) ?_
    simp only [aP, lI, l0, lS]
    refine readL (.int .i64 2) rfl (load1 3 _ ⟨B1, 0, none⟩ _ rfl rfl (fun _ => by kernel_rfl) (M.get List.mem_cons_self 0 _ rfl)) ?_
    simp only [aP, lI, l0, lS]
    refine readL (.int .u8 2) rfl (convI .i64 .u8 _ _ _ _ _ rfl (by kernel_rfl) Try.underlying5 (by kernel_rfl) rfl (by rw [IntKind.wrap_u8']; rfl) _) ?_
    simp only [aP, lI, l0, lS]
    refine actL (w' := w1.alloc (.cells #[.int .u8 2] 5)) (.slice (some ⟨w1.heap.size, 0, none⟩) 1 1) rfl (by kernel_rfl) ?_
    simp only [aP, lI, l0, lS]
    have O_2 : OwnL (w1.alloc (.cells #[.int .u8 2] 5)) (B1 + 1) [2] (.slice (some ⟨w1.heap.size, 0, none⟩) 1 1) := Own.lit w1 (B1 + 1) 5 .u8 1 (bl [2]) (M.lt List.mem_cons_self) (by unfold maxLen; omega)
    replace M := M.call ((Below.refl w1.heap.size w1).alloc (Nat.le_refl _) (.cells #[.int .u8 2] 5))
    generalize w1.alloc (.cells #[.int .u8 2] 5) = w2 at M O_2 ⊢
    generalize hp2 : (some ⟨w1.heap.size, 0, none⟩ : Option Addr) = p2 at O_2 ⊢
    clear hp2
    have hL2 : ([2] : List Int).length ≤ 1 := Nat.le_refl _
    have Y_2 : Byts [2] := fun x hx => by obtain rfl := List.mem_singleton.1 hx; decide
    refine readL (.slice p2 1 1) rfl (by kernel_rfl) ?_
    simp only [aP, lI, l0, lS]
    first | show Exit.then _ _ _ _ _ | show Exit.inBlock _ _ _ _ _
    go_upto_region 2 with fail
    refine wp_region_list ?_
    refine readL (.pointer (some ⟨B1, 0, none⟩)) rfl (by kernel_rfl) ?_
    simp only [aP, lI, l0, lS]
    refine readL (.int .i64 2) rfl (load1 3 _ ⟨B1, 0, none⟩ _ rfl rfl (fun _ => by kernel_rfl) (M.get List.mem_cons_self 0 _ rfl)) ?_
    simp only [aP, lI, l0, lS]
    first | show Exit.then _ _ _ _ _ | show Exit.inBlock _ _ _ _ _
    go_upto_region 3 with fail
    refine wp_region_list ?_
    refine readL (.bool false) rfl (eqlI .i64 _ _ _ _ _ _ rfl rfl rfl false (by decide) _) ?_
    simp only [aP, lI, l0, lS]
    refine readL (.bool false) rfl (by kernel_rfl) ?_
    simp only [aP, lI, l0, lS]
    first | show Exit.then _ _ _ _ _ | show Exit.inBlock _ _ _ _ _
    go_upto_region 6 with fail
    refine wp_region_list ?_
    refine readL (.bool true) rfl (eqlI .i64 _ _ _ _ _ _ rfl rfl rfl true (by decide) _) ?_
    simp only [aP, lI, l0, lS]
    refine readL (.bool true) rfl (by kernel_rfl) ?_
    simp only [aP, lI, l0, lS]
    first | show Exit.then _ _ _ _ _ | show Exit.inBlock _ _ _ _ _
    go_upto_region 7 with fail
    refine wp_region_list ?_
    refine readL (.slice p2 1 1) rfl (by kernel_rfl) ?_
    simp only [aP, lI, l0, lS]
    refine readL (.pointer (some ⟨B1, 1, none⟩)) rfl (by kernel_rfl) ?_
    simp only [aP, lI, l0, lS]
    refine readL (.int .i64 a) rfl (load1 3 _ ⟨B1, 1, none⟩ _ rfl rfl (fun _ => by kernel_rfl) (M.get List.mem_cons_self 1 _ rfl)) ?_
    simp only [aP, lI, l0, lS]
    refine readL (.pointer (some ⟨B1, 2, none⟩)) rfl (by kernel_rfl) ?_
    simp only [aP, lI, l0, lS]
    refine readL (.int .i64 l) rfl (load1 3 _ ⟨B1, 2, none⟩ _ rfl rfl (fun _ => by kernel_rfl) (M.get List.mem_cons_self 2 _ rfl)) ?_
    simp only [aP, lI, l0, lS]
    refine actL (w' := w2.alloc (.cells #[.int .i64 a, .int .i64 l] 3)) (.slice (some ⟨w2.heap.size, 0, none⟩) 2 2) rfl (by kernel_rfl) ?_
    simp only [aP, lI, l0, lS]
    have hlb := (Below.refl w2.heap.size w2).alloc (Nat.le_refl _) (.cells #[.int .i64 a, .int .i64 l] 3)
    replace M := M.call hlb
    replace O_2 := O_2.below hlb
    have S_3 : SrcI (w2.alloc (.cells #[.int .i64 a, .int .i64 l] 3)) (some ⟨w2.heap.size, 0, none⟩) 2 (bl [a, l]) := SrcI.lit w2 [a, l] (Nat.le_of_ble_eq_true rfl)
    clear hlb
    generalize w2.alloc (.cells #[.int .i64 a, .int .i64 l] 3) = w3 at M S_3  O_2 ⊢
    generalize (some ⟨w2.heap.size, 0, none⟩ : Option Addr) = p3 at S_3  ⊢
    have hN4 : Nsm ([a, l]) := (Nsm.cons (by omega) (Nsm.one (by omega)))
    have hnl4 : ([a, l]).length ≤ 2 := by exact Nat.le_of_ble_eq_true rfl
    have hne4 : 0 < ([a, l]).length := Nat.zero_lt_succ _
    have hvl4 := vls_len ([a, l])
    refine callL rfl (fun _ => by kernel_rfl) (put_any ([a, l]) hN4 hne4 (by omega) p2 1 ([2]) (by omega) O_2.le O_2.nilCap Y_2 p3 2 _ O_2.src S_3) ?_
    rintro e w4 ⟨v, rfl, O_4, l1⟩
    replace O_4 := O_4.lower (base' := (B1 + 1)) (M.lt List.mem_cons_self)
    replace M := M.call l1
    obtain ⟨p4, c4, rfl, _, _⟩ := O_4.bytes
    have Y_4 : Byts ([2] ++ vls ([a, l])) := Y_2.app hN4.vls
    have hL4 : ([2] ++ vls ([a, l])).length ≤ 17 := by rw [List.length_append]; omega
    clear l1 O_2 Y_2
    refine ⟨_, rfl, ?_⟩
    simp only [aP, lI, l0, lS]
    clear S_3 hvl4 hne4
    refine readL (.slice p4 (([2] ++ vls ([a, l])).length) c4) rfl (by kernel_rfl) ?_
    simp only [aP, lI, l0, lS]
    first | show Exit.then _ _ _ _ _ | show Exit.inBlock _ _ _ _ _
    go_upto_region 8 with fail
    refine wp_region_list ?_
    refine readL (.slice p4 (([2] ++ vls ([a, l])).length) c4) rfl (by kernel_rfl) ?_
    simp only [aP, lI, l0, lS]
    refine readL (.pointer (some ⟨B1, 3, none⟩)) rfl (by kernel_rfl) ?_
    simp only [aP, lI, l0, lS]
    refine readL (.slice rp rs.length rc) rfl (load1 22 _ ⟨B1, 3, none⟩ _ rfl rfl (fun _ => by kernel_rfl) (M.get List.mem_cons_self 3 _ rfl)) ?_
    simp only [aP, lI, l0, lS]
    refine readL (.pointer (some ⟨B1, 1, none⟩)) rfl (by kernel_rfl) ?_
    simp only [aP, lI, l0, lS]
    refine readL (.int .i64 a) rfl (load1 3 _ ⟨B1, 1, none⟩ _ rfl rfl (fun _ => by kernel_rfl) (M.get List.mem_cons_self 1 _ rfl)) ?_
    simp only [aP, lI, l0, lS]
    refine callL rfl (fun _ => by kernel_rfl) (steps_any rs a true MX (by omega) (Int.le_refl _) hr h8 rp rc _ (hf.rg.below M.below (Nat.le_refl _))) ?_
    rintro e w5 ⟨v, rfl, T_5, l1⟩
    obtain ⟨p5, c5, rfl, S_5⟩ := OwnI.slice T_5
    replace M := M.call l1
    replace O_4 := O_4.below l1
    clear l1 T_5
    refine ⟨_, rfl, ?_⟩
    simp only [aP, lI, l0, lS]
    have hN6 : Nsm ((rs.length : Int) :: stq rs a) := Nsm.cons (by omega) (stq_in rs a true MX (by omega) (Int.le_refl _) hr)
    have hnl6 : ((rs.length : Int) :: stq rs a).length ≤ 17 := by rw [List.length_cons, stq_len]; omega
    have hne6 : 0 < ((rs.length : Int) :: stq rs a).length := Nat.zero_lt_succ _
    have hvl6 := vls_len ((rs.length : Int) :: stq rs a)
    refine callL rfl (fun _ => by kernel_rfl) (put_any ((rs.length : Int) :: stq rs a) hN6 hne6 (by omega) p4 c4 ([2] ++ vls ([a, l])) (by omega) O_4.le O_4.nilCap Y_4 p5 c5 _ O_4.src S_5) ?_
    rintro e w6 ⟨v, rfl, O_6, l1⟩
    replace O_6 := O_6.lower (base' := (B1 + 1)) (M.lt List.mem_cons_self)
    replace M := M.call l1
    obtain ⟨p6, c6, rfl, _, _⟩ := O_6.bytes
    have Y_6 : Byts ([2] ++ vls ([a, l]) ++ vls ((rs.length : Int) :: stq rs a)) := Y_4.app hN6.vls
    have hL6 : ([2] ++ vls ([a, l]) ++ vls ((rs.length : Int) :: stq rs a)).length ≤ 153 := by rw [List.length_append]; omega
    clear l1 O_4 Y_4
    refine ⟨_, rfl, ?_⟩
    simp only [aP, lI, l0, lS]
    clear S_5 hvl6 hne6
    refine readL (.slice p6 (([2] ++ vls ([a, l]) ++ vls ((rs.length : Int) :: stq rs a)).length) c6) rfl (by kernel_rfl) ?_
    simp only [aP, lI, l0, lS]
    first | show Exit.then _ _ _ _ _ | show Exit.inBlock _ _ _ _ _
    go_upto_region 18 with fail
    refine wp_region_list ?_
    refine readL (.slice p6 (([2] ++ vls ([a, l]) ++ vls ((rs.length : Int) :: stq rs a)).length) c6) rfl (by kernel_rfl) ?_
    simp only [aP, lI, l0, lS]
    refine readL (.slice p6 (([2] ++ vls ([a, l]) ++ vls ((rs.length : Int) :: stq rs a)).length) c6) rfl (by kernel_rfl) ?_
    simp only [aP, lI, l0, lS]
    first | show Exit.then _ _ _ _ _ | show Exit.inBlock _ _ _ _ _
    have hA := show Hid (([2] ++ vls ([a, l]) ++ vls ((rs.length : Int) :: stq rs a)) = fen ⟨2, a, l, rs, [], z8⟩) from (by show _ = 2 :: (vlst a.toNat ++ (vlst l.toNat ++ (vlst rs.length ++ ren rs a))); rw [show vls ((rs.length : Int) :: stq rs a) = vlst rs.length ++ ren rs a by show vlst ((rs.length : Int)).toNat ++ vls (stq rs a) = _; rw [vls_stq, Int.toNat_natCast]]; simp only [vls, List.append_assoc, List.cons_append, List.nil_append, List.append_nil])
    have hS := show Hid _ from (And.intro (O_6.lower (Nat.le_succ_of_le (M.lo List.mem_cons_self))) M.below)
    clear O_6 M
    go_wp2
    go_ret
    exact ⟨_, rfl, by rw [← hA.out]; exact hS.out.1, hS.out.2⟩
  | got a l rs h hl hr h8 =>
    show Calls Try.prog 22 #[.agg #[.int .i64 7, .int .i64 a, .int .i64 l, .slice rp rs.length rc, .slice bp 0 bc, .int .u8 0, .int .u8 0, .int .u8 0, .int .u8 0, .int .u8 0, .int .u8 0, .int .u8 0, .int .u8 0]] w _
    have M := Mm.init w
    go_enter Try.func22, Try.ntmps22
    go_upto_region 0 with fail
    refine wp_region_list ?_
    refine actL (w' := w.alloc (.cells #[.int .i64 7, .int .i64 a, .int .i64 l, .slice rp rs.length rc, .slice bp 0 bc, .int .u8 0, .int .u8 0, .int .u8 0, .int .u8 0, .int .u8 0, .int .u8 0, .int .u8 0, .int .u8 0] 26)) (.pointer (some ⟨w.heap.size, 0, none⟩)) rfl (by kernel_rfl) ?_
    simp only [aP, lI, l0, lS]
    have hB_B1 : w.heap.size ≤ w.heap.size := M.below.size
    replace M := M.box #[.int .i64 7, .int .i64 a, .int .i64 l, .slice rp rs.length rc, .slice bp 0 bc, .int .u8 0, .int .u8 0, .int .u8 0, .int .u8 0, .int .u8 0, .int .u8 0, .int .u8 0, .int .u8 0] 26 w.heap.size rfl
    generalize w.alloc (.cells #[.int .i64 7, .int .i64 a, .int .i64 l, .slice rp rs.length rc, .slice bp 0 bc, .int .u8 0, .int .u8 0, .int .u8 0, .int .u8 0, .int .u8 0, .int .u8 0, .int .u8 0, .int .u8 0] 26) = w1 at M  ⊢
    generalize eB : w.heap.size = B1 at M hB_B1 ⊢
    have hE_B1 : w.heap.size ≤ B1 := Nat.le_of_eq eB
    have hF_B1 : B1 ≤ w.heap.size := Nat.le_of_eq eB.symm
    clear eB
    replace M : Mm w ([(B1, [.int .i64 7, .int .i64 a, .int .i64 l, .slice rp rs.length rc, .slice bp 0 bc, .int .u8 0, .int .u8 0, .int .u8 0, .int .u8 0, .int .u8 0, .int .u8 0, .int .u8 0, .int .u8 0])]) w1 := M
    refine readL (.slice none 0 0) rfl (by kernel_rfl) ?_
    simp only [aP, lI, l0, lS]
    first | show Exit.then _ _ _ _ _ | show Exit.inBlock _ _ _ _ _
    go_upto_region 1 with fail
    refine wp_region_list ?_
    refine readL (.pointer (some ⟨B1, 0, none⟩)) rfl (by kernel_rfl) ?_
    simp only [aP, lI, l0, lS]
    refine readL (.int .i64 7) rfl (load1 3 _ ⟨B1, 0, none⟩ _ rfl rfl (fun _ => by kernel_rfl) (M.get List.mem_cons_self 0 _ rfl)) ?_
    simp only [aP, lI, l0, lS]
    refine readL (.int .u8 7) rfl (convI .i64 .u8 _ _ _ _ _ rfl (by kernel_rfl) Try.underlying5 (by kernel_rfl) rfl (by rw [IntKind.wrap_u8']; rfl) _) ?_
    simp only [aP, lI, l0, lS]
    refine actL (w' := w1.alloc (.cells #[.int .u8 7] 5)) (.slice (some ⟨w1.heap.size, 0, none⟩) 1 1) rfl (by kernel_rfl) ?_
    simp only [aP, lI, l0, lS]
    have O_2 : OwnL (w1.alloc (.cells #[.int .u8 7] 5)) (B1 + 1) [7] (.slice (some ⟨w1.heap.size, 0, none⟩) 1 1) := Own.lit w1 (B1 + 1) 5 .u8 1 (bl [7]) (M.lt List.mem_cons_self) (by unfold maxLen; omega)
    replace M := M.call ((Below.refl w1.heap.size w1).alloc (Nat.le_refl _) (.cells #[.int .u8 7] 5))
    generalize w1.alloc (.cells #[.int .u8 7] 5) = w2 at M O_2 ⊢
    generalize hp2 : (some ⟨w1.heap.size, 0, none⟩ : Option Addr) = p2 at O_2 ⊢
    clear hp2
    have hL2 : ([7] : List Int).length ≤ 1 := Nat.le_refl _
    have Y_2 : Byts [7] := fun x hx => by obtain rfl := List.mem_singleton.1 hx; decide
    refine readL (.slice p2 1 1) rfl (by kernel_rfl) ?_
    simp only [aP, lI, l0, lS]
    first | show Exit.then _ _ _ _ _ | show Exit.inBlock _ _ _ _ _
    go_upto_region 2 with fail
    refine wp_region_list ?_
    refine readL (.pointer (some ⟨B1, 0, none⟩)) rfl (by kernel_rfl) ?_
    simp only [aP, lI, l0, lS]
    refine readL (.int .i64 7) rfl (load1 3 _ ⟨B1, 0, none⟩ _ rfl rfl (fun _ => by kernel_rfl) (M.get List.mem_cons_self 0 _ rfl)) ?_
    simp only [aP, lI, l0, lS]
    first | show Exit.then _ _ _ _ _ | show Exit.inBlock _ _ _ _ _
    go_upto_region 3 with fail
    refine wp_region_list ?_
    refine readL (.bool false) rfl (eqlI .i64 _ _ _ _ _ _ rfl rfl rfl false (by decide) _) ?_
    simp only [aP, lI, l0, lS]
    refine readL (.bool false) rfl (by kernel_rfl) ?_
    simp only [aP, lI, l0, lS]
    first | show Exit.then _ _ _ _ _ | show Exit.inBlock _ _ _ _ _
    go_upto_region 6 with fail
    refine wp_region_list ?_
    refine readL (.bool false) rfl (eqlI .i64 _ _ _ _ _ _ rfl rfl rfl false (by decide) _) ?_
    simp only [aP, lI, l0, lS]
    refine readL (.bool false) rfl (by kernel_rfl) ?_
    simp only [aP, lI, l0, lS]
    first | show Exit.then _ _ _ _ _ | show Exit.inBlock _ _ _ _ _
    go_upto_region 9 with fail
    refine wp_region_list ?_
    refine readL (.bool false) rfl (eqlI .i64 _ _ _ _ _ _ rfl rfl rfl false (by decide) _) ?_
    simp only [aP, lI, l0, lS]
    refine readL (.bool false) rfl (by kernel_rfl) ?_
    simp only [aP, lI, l0, lS]
    first | show Exit.then _ _ _ _ _ | show Exit.inBlock _ _ _ _ _
    go_upto_region 10 with fail
    refine wp_region_list ?_
    refine readL (.bool false) rfl (eqlI .i64 _ _ _ _ _ _ rfl rfl rfl false (by decide) _) ?_
    simp only [aP, lI, l0, lS]
    refine readL (.bool false) rfl (by kernel_rfl) ?_
    simp only [aP, lI, l0, lS]
    first | show Exit.then _ _ _ _ _ | show Exit.inBlock _ _ _ _ _
    go_upto_region 12 with fail
    refine wp_region_list ?_
    refine readL (.bool false) rfl (eqlI .i64 _ _ _ _ _ _ rfl rfl rfl false (by decide) _) ?_
    simp only [aP, lI, l0, lS]
    refine readL (.bool false) rfl (by kernel_rfl) ?_
    simp only [aP, lI, l0, lS]
    first | show Exit.then _ _ _ _ _ | show Exit.inBlock _ _ _ _ _
    go_upto_region 13 with fail
    refine wp_region_list ?_
    refine readL (.bool false) rfl (eqlI .i64 _ _ _ _ _ _ rfl rfl rfl false (by decide) _) ?_
    simp only [aP, lI, l0, lS]
    refine readL (.bool false) rfl (by kernel_rfl) ?_
    simp only [aP, lI, l0, lS]
    first | show Exit.then _ _ _ _ _ | show Exit.inBlock _ _ _ _ _
    go_upto_region 15 with fail
    refine wp_region_list ?_
    refine readL (.bool true) rfl (eqlI .i64 _ _ _ _ _ _ rfl rfl rfl true (by decide) _) ?_
    simp only [aP, lI, l0, lS]
    refine readL (.bool true) rfl (by kernel_rfl) ?_
    simp only [aP, lI, l0, lS]
    first | show Exit.then _ _ _ _ _ | show Exit.inBlock _ _ _ _ _
    go_upto_region 16 with fail
    refine wp_region_list ?_
    refine readL (.slice p2 1 1) rfl (by kernel_rfl) ?_
    simp only [aP, lI, l0, lS]
    refine readL (.pointer (some ⟨B1, 1, none⟩)) rfl (by kernel_rfl) ?_
    simp only [aP, lI, l0, lS]
    refine readL (.int .i64 a) rfl (load1 3 _ ⟨B1, 1, none⟩ _ rfl rfl (fun _ => by kernel_rfl) (M.get List.mem_cons_self 1 _ rfl)) ?_
    simp only [aP, lI, l0, lS]
    refine readL (.pointer (some ⟨B1, 2, none⟩)) rfl (by kernel_rfl) ?_
    simp only [aP, lI, l0, lS]
    refine readL (.int .i64 l) rfl (load1 3 _ ⟨B1, 2, none⟩ _ rfl rfl (fun _ => by kernel_rfl) (M.get List.mem_cons_self 2 _ rfl)) ?_
    simp only [aP, lI, l0, lS]
    refine actL (w' := w2.alloc (.cells #[.int .i64 a, .int .i64 l] 3)) (.slice (some ⟨w2.heap.size, 0, none⟩) 2 2) rfl (by kernel_rfl) ?_
    simp only [aP, lI, l0, lS]
    have hlb := (Below.refl w2.heap.size w2).alloc (Nat.le_refl _) (.cells #[.int .i64 a, .int .i64 l] 3)
    replace M := M.call hlb
    replace O_2 := O_2.below hlb
    have S_3 : SrcI (w2.alloc (.cells #[.int .i64 a, .int .i64 l] 3)) (some ⟨w2.heap.size, 0, none⟩) 2 (bl [a, l]) := SrcI.lit w2 [a, l] (Nat.le_of_ble_eq_true rfl)
    clear hlb
    generalize w2.alloc (.cells #[.int .i64 a, .int .i64 l] 3) = w3 at M S_3  O_2 ⊢
    generalize (some ⟨w2.heap.size, 0, none⟩ : Option Addr) = p3 at S_3  ⊢
    have hN4 : Nsm ([a, l]) := (Nsm.cons (by omega) (Nsm.one (by omega)))
    have hnl4 : ([a, l]).length ≤ 2 := by exact Nat.le_of_ble_eq_true rfl
    have hne4 : 0 < ([a, l]).length := Nat.zero_lt_succ _
    have hvl4 := vls_len ([a, l])
    refine callL rfl (fun _ => by kernel_rfl) (put_any ([a, l]) hN4 hne4 (by omega) p2 1 ([7]) (by omega) O_2.le O_2.nilCap Y_2 p3 2 _ O_2.src S_3) ?_
    rintro e w4 ⟨v, rfl, O_4, l1⟩
    replace O_4 := O_4.lower (base' := (B1 + 1)) (M.lt List.mem_cons_self)
    replace M := M.call l1
    obtain ⟨p4, c4, rfl, _, _⟩ := O_4.bytes
    have Y_4 : Byts ([7] ++ vls ([a, l])) := Y_2.app hN4.vls
    have hL4 : ([7] ++ vls ([a, l])).length ≤ 17 := by rw [List.length_append]; omega
    clear l1 O_2 Y_2
    refine ⟨_, rfl, ?_⟩
    simp only [aP, lI, l0, lS]
    clear S_3 hvl4 hne4
    refine readL (.slice p4 (([7] ++ vls ([a, l])).length) c4) rfl (by kernel_rfl) ?_
    simp only [aP, lI, l0, lS]
    first | show Exit.then _ _ _ _ _ | show Exit.inBlock _ _ _ _ _
    go_upto_region 17 with fail
    refine wp_region_list ?_
    refine readL (.slice p4 (([7] ++ vls ([a, l])).length) c4) rfl (by kernel_rfl) ?_
    simp only [aP, lI, l0, lS]
    refine readL (.pointer (some ⟨B1, 3, none⟩)) rfl (by kernel_rfl) ?_
    simp only [aP, lI, l0, lS]
    refine readL (.slice rp rs.length rc) rfl (load1 22 _ ⟨B1, 3, none⟩ _ rfl rfl (fun _ => by kernel_rfl) (M.get List.mem_cons_self 3 _ rfl)) ?_
    simp only [aP, lI, l0, lS]
    refine callL rfl (fun _ => by kernel_rfl) (steps_any rs 0 false a (by omega) (by unfold MX; omega) hr h8 rp rc _ (hf.rg.below M.below (Nat.le_refl _))) ?_
    rintro e w5 ⟨v, rfl, T_5, l1⟩
    obtain ⟨p5, c5, rfl, S_5⟩ := OwnI.slice T_5
    replace M := M.call l1
    replace O_4 := O_4.below l1
    clear l1 T_5
    refine ⟨_, rfl, ?_⟩
    simp only [aP, lI, l0, lS]
    have hN6 : Nsm ((rs.length : Int) :: stq rs 0) := Nsm.cons (by omega) (stq_in rs 0 false a (by omega) (by unfold MX; omega) hr)
    have hnl6 : ((rs.length : Int) :: stq rs 0).length ≤ 17 := by rw [List.length_cons, stq_len]; omega
    have hne6 : 0 < ((rs.length : Int) :: stq rs 0).length := Nat.zero_lt_succ _
    have hvl6 := vls_len ((rs.length : Int) :: stq rs 0)
    refine callL rfl (fun _ => by kernel_rfl) (put_any ((rs.length : Int) :: stq rs 0) hN6 hne6 (by omega) p4 c4 ([7] ++ vls ([a, l])) (by omega) O_4.le O_4.nilCap Y_4 p5 c5 _ O_4.src S_5) ?_
    rintro e w6 ⟨v, rfl, O_6, l1⟩
    replace O_6 := O_6.lower (base' := (B1 + 1)) (M.lt List.mem_cons_self)
    replace M := M.call l1
    obtain ⟨p6, c6, rfl, _, _⟩ := O_6.bytes
    have Y_6 : Byts ([7] ++ vls ([a, l]) ++ vls ((rs.length : Int) :: stq rs 0)) := Y_4.app hN6.vls
    have hL6 : ([7] ++ vls ([a, l]) ++ vls ((rs.length : Int) :: stq rs 0)).length ≤ 153 := by rw [List.length_append]; omega
    clear l1 O_4 Y_4
    refine ⟨_, rfl, ?_⟩
    simp only [aP, lI, l0, lS]
    clear S_5 hvl6 hne6
    refine readL (.slice p6 (([7] ++ vls ([a, l]) ++ vls ((rs.length : Int) :: stq rs 0)).length) c6) rfl (by kernel_rfl) ?_
    simp only [aP, lI, l0, lS]
    first | show Exit.then _ _ _ _ _ | show Exit.inBlock _ _ _ _ _
    go_upto_region 18 with fail
    refine wp_region_list ?_
    refine readL (.slice p6 (([7] ++ vls ([a, l]) ++ vls ((rs.length : Int) :: stq rs 0)).length) c6) rfl (by kernel_rfl) ?_
    simp only [aP, lI, l0, lS]
    refine readL (.slice p6 (([7] ++ vls ([a, l]) ++ vls ((rs.length : Int) :: stq rs 0)).length) c6) rfl (by kernel_rfl) ?_
    simp only [aP, lI, l0, lS]
    first | show Exit.then _ _ _ _ _ | show Exit.inBlock _ _ _ _ _
    have hA := show Hid (([7] ++ vls ([a, l]) ++ vls ((rs.length : Int) :: stq rs 0)) = fen ⟨7, a, l, rs, [], z8⟩) from (by show _ = 7 :: (vlst a.toNat ++ (vlst l.toNat ++ (vlst rs.length ++ ren rs 0))); rw [show vls ((rs.length : Int) :: stq rs 0) = vlst rs.length ++ ren rs 0 by show vlst ((rs.length : Int)).toNat ++ vls (stq rs 0) = _; rw [vls_stq, Int.toNat_natCast]]; simp only [vls, List.append_assoc, List.cons_append, List.nil_append, List.append_nil])
    have hS := show Hid _ from (And.intro (O_6.lower (Nat.le_succ_of_le (M.lo List.mem_cons_self))) M.below)
    clear O_6 M
    go_wp2
    go_ret
    exact ⟨_, rfl, by rw [← hA.out]; exact hS.out.1, hS.out.2⟩

set_option maxRecDepth 10000 in
set_option maxHeartbeats 32000000 in
theorem vsize_any : SizeOK := by
  intro f rp rc bp bc w hf
  have M := Mm.init w
  have fold : (.agg #[.int .i64 f.kind, .int .i64 f.pos, .int .i64 f.lim, .slice rp f.rg.length rc, .slice bp f.byt.length bc, .int .u8 (bl f.tok 0), .int .u8 (bl f.tok 1), .int .u8 (bl f.tok 2), .int .u8 (bl f.tok 3), .int .u8 (bl f.tok 4), .int .u8 (bl f.tok 5), .int .u8 (bl f.tok 6), .int .u8 (bl f.tok 7)] : Value) = .agg (fcs f rp rc bp bc).toArray := rfl
  rw [← fold]
  go_enter Try.func12, Try.ntmps12
  go_upto_region 0 with fail
  refine wp_region_list ?_
  refine actL (w' := w.alloc (.cells #[.int .i64 f.kind, .int .i64 f.pos, .int .i64 f.lim, .slice rp f.rg.length rc, .slice bp f.byt.length bc, .int .u8 (bl f.tok 0), .int .u8 (bl f.tok 1), .int .u8 (bl f.tok 2), .int .u8 (bl f.tok 3), .int .u8 (bl f.tok 4), .int .u8 (bl f.tok 5), .int .u8 (bl f.tok 6), .int .u8 (bl f.tok 7)] 26)) (.pointer (some ⟨w.heap.size, 0, none⟩)) rfl (by kernel_rfl) ?_
  simp only [aP, lI, l0, lS]
  have hB_B1 : w.heap.size ≤ w.heap.size := M.below.size
  replace M := M.box #[.int .i64 f.kind, .int .i64 f.pos, .int .i64 f.lim, .slice rp f.rg.length rc, .slice bp f.byt.length bc, .int .u8 (bl f.tok 0), .int .u8 (bl f.tok 1), .int .u8 (bl f.tok 2), .int .u8 (bl f.tok 3), .int .u8 (bl f.tok 4), .int .u8 (bl f.tok 5), .int .u8 (bl f.tok 6), .int .u8 (bl f.tok 7)] 26 w.heap.size rfl
  generalize w.alloc (.cells #[.int .i64 f.kind, .int .i64 f.pos, .int .i64 f.lim, .slice rp f.rg.length rc, .slice bp f.byt.length bc, .int .u8 (bl f.tok 0), .int .u8 (bl f.tok 1), .int .u8 (bl f.tok 2), .int .u8 (bl f.tok 3), .int .u8 (bl f.tok 4), .int .u8 (bl f.tok 5), .int .u8 (bl f.tok 6), .int .u8 (bl f.tok 7)] 26) = w1 at M  ⊢
  generalize eB : w.heap.size = B1 at M hB_B1 ⊢
  have hE_B1 : w.heap.size ≤ B1 := Nat.le_of_eq eB
  have hF_B1 : B1 ≤ w.heap.size := Nat.le_of_eq eB.symm
  clear eB
  replace M : Mm w ([(B1, [.int .i64 f.kind, .int .i64 f.pos, .int .i64 f.lim, .slice rp f.rg.length rc, .slice bp f.byt.length bc, .int .u8 (bl f.tok 0), .int .u8 (bl f.tok 1), .int .u8 (bl f.tok 2), .int .u8 (bl f.tok 3), .int .u8 (bl f.tok 4), .int .u8 (bl f.tok 5), .int .u8 (bl f.tok 6), .int .u8 (bl f.tok 7)])]) w1 := M
  refine readL (.int .i64 0) rfl (by kernel_rfl) ?_
  simp only [aP, lI, l0, lS]
  first | show Exit.then _ _ _ _ _ | show Exit.inBlock _ _ _ _ _
  cases hok : fok f with
  | true =>
    go_upto_region 1 with fail
    refine wp_region_list ?_
    refine readL (.agg #[.int .i64 f.kind, .int .i64 f.pos, .int .i64 f.lim, .slice rp f.rg.length rc, .slice bp f.byt.length bc, .int .u8 (bl f.tok 0), .int .u8 (bl f.tok 1), .int .u8 (bl f.tok 2), .int .u8 (bl f.tok 3), .int .u8 (bl f.tok 4), .int .u8 (bl f.tok 5), .int .u8 (bl f.tok 6), .int .u8 (bl f.tok 7)]) rfl (loadN 26 _ ⟨B1, 0, none⟩ [.int .i64 f.kind, .int .i64 f.pos, .int .i64 f.lim, .slice rp f.rg.length rc, .slice bp f.byt.length bc, .int .u8 (bl f.tok 0), .int .u8 (bl f.tok 1), .int .u8 (bl f.tok 2), .int .u8 (bl f.tok 3), .int .u8 (bl f.tok 4), .int .u8 (bl f.tok 5), .int .u8 (bl f.tok 6), .int .u8 (bl f.tok 7)] rfl rfl (fun _ => by kernel_rfl) (fun _ => by kernel_rfl) (M.rangeAt List.mem_cons_self)) ?_
    simp only [aP, lI, l0, lS]
    have hC : Calls Try.prog 19 #[.agg #[.int .i64 f.kind, .int .i64 f.pos, .int .i64 f.lim, .slice rp f.rg.length rc, .slice bp f.byt.length bc, .int .u8 (bl f.tok 0), .int .u8 (bl f.tok 1), .int .u8 (bl f.tok 2), .int .u8 (bl f.tok 3), .int .u8 (bl f.tok 4), .int .u8 (bl f.tok 5), .int .u8 (bl f.tok 6), .int .u8 (bl f.tok 7)]] w1 (fun e w' => e = .returned (.bool true) ∧ Below w1.heap.size w1 w') := (by rw [← hok]; exact maybe_any f rp rc bp bc _ (hf.below M.below (Nat.le_refl _)))
    refine callL rfl (fun _ => by kernel_rfl) (hC) ?_
    rintro e w2 ⟨rfl, l⟩
    replace M := M.call l
    refine ⟨_, rfl, ?_⟩
    clear l hC
    simp only [aP, lI, l0, lS]
    refine readL (.bool false) rfl (by kernel_rfl) ?_
    simp only [aP, lI, l0, lS]
    first | show Exit.then _ _ _ _ _ | show Exit.inBlock _ _ _ _ _
    go_upto_region 3 with fail
    refine wp_region_list ?_
    refine readL (.agg #[.int .i64 f.kind, .int .i64 f.pos, .int .i64 f.lim, .slice rp f.rg.length rc, .slice bp f.byt.length bc, .int .u8 (bl f.tok 0), .int .u8 (bl f.tok 1), .int .u8 (bl f.tok 2), .int .u8 (bl f.tok 3), .int .u8 (bl f.tok 4), .int .u8 (bl f.tok 5), .int .u8 (bl f.tok 6), .int .u8 (bl f.tok 7)]) rfl (loadN 26 _ ⟨B1, 0, none⟩ [.int .i64 f.kind, .int .i64 f.pos, .int .i64 f.lim, .slice rp f.rg.length rc, .slice bp f.byt.length bc, .int .u8 (bl f.tok 0), .int .u8 (bl f.tok 1), .int .u8 (bl f.tok 2), .int .u8 (bl f.tok 3), .int .u8 (bl f.tok 4), .int .u8 (bl f.tok 5), .int .u8 (bl f.tok 6), .int .u8 (bl f.tok 7)] rfl rfl (fun _ => by kernel_rfl) (fun _ => by kernel_rfl) (M.rangeAt List.mem_cons_self)) ?_
    simp only [aP, lI, l0, lS]
    refine callL rfl (fun _ => by kernel_rfl) (written_any f ((fok_iff f).1 hok) rp rc bp bc _ (hf.below M.below (Nat.le_refl _))) ?_
    rintro e w3 ⟨v, rfl, O_2, l⟩
    replace M := M.call l
    clear l
    obtain ⟨p2, c2, rfl, _, _⟩ := O_2.bytes
    refine ⟨_, rfl, ?_⟩
    simp only [aP, lI, l0, lS]
    refine readL (.int .i64 (((fen f).length : Nat) : Int)) rfl (lenS _ 23 5 p2 ((fen f).length) c2 rfl Try.underlying23 rfl _) ?_
    simp only [aP, lI, l0, lS]
    refine readL (.int .i64 (((fen f).length : Nat) : Int)) rfl (by kernel_rfl) ?_
    simp only [aP, lI, l0, lS]
    first | show Exit.then _ _ _ _ _ | show Exit.inBlock _ _ _ _ _
    have hA : fsz f = ((fen f).length : Int) := by unfold fsz; rw [if_pos hok]
    replace hA := show Hid _ from hA
    clear hok
    go_wp2
    go_ret
    exact ⟨by rw [hA.out] <;> rfl, M.below⟩
  | false =>
    go_upto_region 1 with fail
    refine wp_region_list ?_
    refine readL (.agg #[.int .i64 f.kind, .int .i64 f.pos, .int .i64 f.lim, .slice rp f.rg.length rc, .slice bp f.byt.length bc, .int .u8 (bl f.tok 0), .int .u8 (bl f.tok 1), .int .u8 (bl f.tok 2), .int .u8 (bl f.tok 3), .int .u8 (bl f.tok 4), .int .u8 (bl f.tok 5), .int .u8 (bl f.tok 6), .int .u8 (bl f.tok 7)]) rfl (loadN 26 _ ⟨B1, 0, none⟩ [.int .i64 f.kind, .int .i64 f.pos, .int .i64 f.lim, .slice rp f.rg.length rc, .slice bp f.byt.length bc, .int .u8 (bl f.tok 0), .int .u8 (bl f.tok 1), .int .u8 (bl f.tok 2), .int .u8 (bl f.tok 3), .int .u8 (bl f.tok 4), .int .u8 (bl f.tok 5), .int .u8 (bl f.tok 6), .int .u8 (bl f.tok 7)] rfl rfl (fun _ => by kernel_rfl) (fun _ => by kernel_rfl) (M.rangeAt List.mem_cons_self)) ?_
    simp only [aP, lI, l0, lS]
    have hC : Calls Try.prog 19 #[.agg #[.int .i64 f.kind, .int .i64 f.pos, .int .i64 f.lim, .slice rp f.rg.length rc, .slice bp f.byt.length bc, .int .u8 (bl f.tok 0), .int .u8 (bl f.tok 1), .int .u8 (bl f.tok 2), .int .u8 (bl f.tok 3), .int .u8 (bl f.tok 4), .int .u8 (bl f.tok 5), .int .u8 (bl f.tok 6), .int .u8 (bl f.tok 7)]] w1 (fun e w' => e = .returned (.bool false) ∧ Below w1.heap.size w1 w') := (by rw [← hok]; exact maybe_any f rp rc bp bc _ (hf.below M.below (Nat.le_refl _)))
    refine callL rfl (fun _ => by kernel_rfl) (hC) ?_
    rintro e w4 ⟨rfl, l⟩
    replace M := M.call l
    refine ⟨_, rfl, ?_⟩
    clear l hC
    simp only [aP, lI, l0, lS]
    refine readL (.bool true) rfl (by kernel_rfl) ?_
    simp only [aP, lI, l0, lS]
    first | show Exit.then _ _ _ _ _ | show Exit.inBlock _ _ _ _ _
    go_upto_region 2 with fail
    refine wp_region_list ?_
    refine readL (.int .i64 0) rfl (by kernel_rfl) ?_
    simp only [aP, lI, l0, lS]
    first | show Exit.then _ _ _ _ _ | show Exit.inBlock _ _ _ _ _
    have hA : fsz f = 0 := by unfold fsz; rw [hok]; rfl
    replace hA := show Hid _ from hA
    clear hok
    go_wp2
    go_ret
    exact ⟨by rw [hA.out] <;> rfl, M.below⟩

set_option maxRecDepth 10000 in
set_option maxHeartbeats 32000000 in
theorem vencode_any : EncodeOK := by
  intro sp cap fs w hn hle hnil hfs
  have M := Mm.init w
  go_enter Try.func14, Try.ntmps14
  go_upto_region 0 with fail
  refine wp_region_list ?_
  refine readL (.slice none 0 0) rfl (by kernel_rfl) ?_
  simp only [aP, lI, l0, lS]
  refine readL (.int .i64 0) rfl (by kernel_rfl) ?_
  simp only [aP, lI, l0, lS]
  first | show Exit.then _ _ _ _ _ | show Exit.inBlock _ _ _ _ _
  by_cases h16 : 16 < fs.length
  · go_upto_region 1 with fail
    refine wp_region_list ?_
    refine readL (.slice sp fs.length cap) rfl (by kernel_rfl) ?_
    simp only [aP, lI, l0, lS]
    refine readL (.int .i64 ((fs.length : Nat) : Int)) rfl (lenS _ 32 26 sp fs.length cap rfl Try.underlying32 rfl _) ?_
    simp only [aP, lI, l0, lS]
    refine readL (.bool true) rfl (gtrI .i64 _ _ _ _ _ _ rfl rfl rfl true (decide_eq_true (by omega)) _) ?_
    simp only [aP, lI, l0, lS]
    first | show Exit.then _ _ _ _ _ | show Exit.inBlock _ _ _ _ _
    go_upto_region 2 with fail
    refine wp_region_list ?_
    refine readL (.slice none 0 0) rfl (by kernel_rfl) ?_
    simp only [aP, lI, l0, lS]
    refine readL (.int .i64 2) rfl (by kernel_rfl) ?_
    simp only [aP, lI, l0, lS]
    first | show Exit.then _ _ _ _ _ | show Exit.inBlock _ _ _ _ _
    have hA : en fs = .error 2 := by unfold en; rw [if_pos h16]
    replace hA := show Hid _ from hA
    clear h16
    go_wp2
    go_ret2
    exact ⟨⟨_, by rw [hA.out]; rfl, by rw [hA.out]; exact World.ownsRow_nil _ _ _ 1⟩, M.below⟩
  · go_upto_region 1 with fail
    refine wp_region_list ?_
    refine readL (.slice sp fs.length cap) rfl (by kernel_rfl) ?_
    simp only [aP, lI, l0, lS]
    refine readL (.int .i64 ((fs.length : Nat) : Int)) rfl (lenS _ 32 26 sp fs.length cap rfl Try.underlying32 rfl _) ?_
    simp only [aP, lI, l0, lS]
    refine readL (.bool false) rfl (gtrI .i64 _ _ _ _ _ _ rfl rfl rfl false (decide_eq_false (by omega)) _) ?_
    simp only [aP, lI, l0, lS]
    first | show Exit.then _ _ _ _ _ | show Exit.inBlock _ _ _ _ _
    go_upto_region 3 with fail
    refine wp_region_list ?_
    refine readL (.slice none 0 0) rfl (by kernel_rfl) ?_
    simp only [aP, lI, l0, lS]
    first | show Exit.then _ _ _ _ _ | show Exit.inBlock _ _ _ _ _
    go_upto_region 4 with fail
    refine wp_region_list ?_
    refine readL (.slice sp fs.length cap) rfl (by kernel_rfl) ?_
    simp only [aP, lI, l0, lS]
    refine readL (.int .i64 ((fs.length : Nat) : Int)) rfl (lenS _ 32 26 sp fs.length cap rfl Try.underlying32 rfl _) ?_
    simp only [aP, lI, l0, lS]
    refine readL (.int .i64 0) rfl (by kernel_rfl) ?_
    simp only [aP, lI, l0, lS]
    first | show Exit.then _ _ _ _ _ | show Exit.inBlock _ _ _ _ _
    have HI := show Hid _ from M
    clear M
    go_wp2
    go_loopw [4, 12] (fun bw i w' => ∃ (j : Nat) (p : Option Addr) (c : Nat), j ≤ fs.length ∧ bw = .slice p (enb (fs.take j)).length c ∧ i = .int .i64 (j : Int) ∧ OwnL w' w.heap.size (enb (fs.take j)) (.slice p (enb (fs.take j)).length c) ∧ Mm w [] w' ∧ (fs.take j).all fok = true ∧ (enb (fs.take j)).length ≤ 160 * j) (fun _ i _ => fs.length - (intOf i).toNat)
    case atStart => exact ⟨0, none, 0, Nat.zero_le _, rfl, rfl, World.ownsRow_nil _ _ _ 1, HI.out, rfl, Nat.zero_le _⟩
    case round =>
      clear HI
      obtain ⟨j, p, c, hj, rfl, rfl, O_1, M, hall, hL⟩ := hrel
      by_cases hlt : j < fs.length
      · obtain ⟨f, hfj⟩ : ∃ f, fs[j]? = some f := ⟨_, List.getElem?_eq_getElem hlt⟩
        obtain ⟨ad, rp, rc, bp, bc, rfl, hF, hf⟩ := hfs j f hfj
        replace hF : ∀ {w' : World}, Below w.heap.size w w' → ∀ k v, (fcs f rp rc bp bc)[k]? = some v → w'.cell? ((ad.add (j * 13)).add k) = some v := fun b k v hv => by rw [b.cell (World.block_lt_of_cell? w _ (hF k v hv))]; exact hF k v hv
        have hVlt : ∀ b, (Value.slice p (enb (fs.take j)).length c).ownBlock = some b → w.heap.size ≤ b ∧ b < wr.heap.size := fun b hb => World.ownsRow.lt O_1 b hb
        have g1 : (j : Int) < ((fs.length : Nat) : Int) := by omega
        go_upto_region 5 with fail
        refine wp_region_list ?_
        refine readL (.bool true) rfl (lssI .i64 _ _ _ _ _ _ rfl rfl rfl true (decide_eq_true g1) _) ?_
        simp only [aP, lI, l0, lS]
        first | show Exit.then _ _ _ _ _ | show Exit.inBlock _ _ _ _ _
        go_upto_region 6 with fail
        refine wp_region_list ?_
        refine readL (.pointer (some (ad.add (j * 13)))) rfl (idxN 32 26 13 fs.length cap ad j _ _ Try.underlying32 (fun _ => by kernel_rfl) hlt rfl rfl rfl _) ?_
        simp only [aP, lI, l0, lS]
        refine readL (.agg #[.int .i64 f.kind, .int .i64 f.pos, .int .i64 f.lim, .slice rp f.rg.length rc, .slice bp f.byt.length bc, .int .u8 (bl f.tok 0), .int .u8 (bl f.tok 1), .int .u8 (bl f.tok 2), .int .u8 (bl f.tok 3), .int .u8 (bl f.tok 4), .int .u8 (bl f.tok 5), .int .u8 (bl f.tok 6), .int .u8 (bl f.tok 7)]) rfl (loadN 26 _ (ad.add (j * 13)) [.int .i64 f.kind, .int .i64 f.pos, .int .i64 f.lim, .slice rp f.rg.length rc, .slice bp f.byt.length bc, .int .u8 (bl f.tok 0), .int .u8 (bl f.tok 1), .int .u8 (bl f.tok 2), .int .u8 (bl f.tok 3), .int .u8 (bl f.tok 4), .int .u8 (bl f.tok 5), .int .u8 (bl f.tok 6), .int .u8 (bl f.tok 7)] rfl rfl (fun _ => by kernel_rfl) (fun _ => by kernel_rfl) (hF M.below)) ?_
        simp only [aP, lI, l0, lS]
        refine actL (w' := wr.alloc (.cells #[.int .i64 0, .int .i64 0, .int .i64 0, .slice none 0 0, .slice none 0 0, .int .u8 0, .int .u8 0, .int .u8 0, .int .u8 0, .int .u8 0, .int .u8 0, .int .u8 0, .int .u8 0] 26)) (.pointer (some ⟨wr.heap.size, 0, none⟩)) rfl (by kernel_rfl) ?_
        simp only [aP, lI, l0, lS]
        have hlb := (Below.refl wr.heap.size wr).alloc (Nat.le_refl _) (.cells #[.int .i64 0, .int .i64 0, .int .i64 0, .slice none 0 0, .slice none 0 0, .int .u8 0, .int .u8 0, .int .u8 0, .int .u8 0, .int .u8 0, .int .u8 0, .int .u8 0, .int .u8 0] 26)
        replace O_1 := O_1.below hlb
        clear hlb
        have hB_B1 : w.heap.size ≤ wr.heap.size := M.below.size
        replace M := M.box #[.int .i64 0, .int .i64 0, .int .i64 0, .slice none 0 0, .slice none 0 0, .int .u8 0, .int .u8 0, .int .u8 0, .int .u8 0, .int .u8 0, .int .u8 0, .int .u8 0, .int .u8 0] 26 wr.heap.size rfl
        generalize wr.alloc (.cells #[.int .i64 0, .int .i64 0, .int .i64 0, .slice none 0 0, .slice none 0 0, .int .u8 0, .int .u8 0, .int .u8 0, .int .u8 0, .int .u8 0, .int .u8 0, .int .u8 0, .int .u8 0] 26) = w1 at M O_1 ⊢
        generalize eB : wr.heap.size = B1 at M hB_B1 ⊢
        have hE_B1 : wr.heap.size ≤ B1 := Nat.le_of_eq eB
        have hF_B1 : B1 ≤ wr.heap.size := Nat.le_of_eq eB.symm
        clear eB
        replace M : Mm w ([(B1, [.int .i64 0, .int .i64 0, .int .i64 0, .slice none 0 0, .slice none 0 0, .int .u8 0, .int .u8 0, .int .u8 0, .int .u8 0, .int .u8 0, .int .u8 0, .int .u8 0, .int .u8 0])]) w1 := M
        refine skipOpL rfl (storeP [.int .i64 f.kind, .int .i64 f.pos, .int .i64 f.lim, .slice rp f.rg.length rc, .slice bp f.byt.length bc, .int .u8 (bl f.tok 0), .int .u8 (bl f.tok 1), .int .u8 (bl f.tok 2), .int .u8 (bl f.tok 3), .int .u8 (bl f.tok 4), .int .u8 (bl f.tok 5), .int .u8 (bl f.tok 6), .int .u8 (bl f.tok 7)] B1 0 26 _ _ rfl rfl rfl (M.thereP List.mem_cons_self 0 13 (Nat.le_of_ble_eq_true rfl)) (by kernel_rfl) (List.all_eq_true.1 (rfl : ([.int .i64 f.kind, .int .i64 f.pos, .int .i64 f.lim, .slice rp f.rg.length rc, .slice bp f.byt.length bc, .int .u8 (bl f.tok 0), .int .u8 (bl f.tok 1), .int .u8 (bl f.tok 2), .int .u8 (bl f.tok 3), .int .u8 (bl f.tok 4), .int .u8 (bl f.tok 5), .int .u8 (bl f.tok 6), .int .u8 (bl f.tok 7)] : List Value).all (fun u => u.oneCell') = true))) ?_
        simp only [Act.put]
        replace M := M.setPart [.int .i64 f.kind, .int .i64 f.pos, .int .i64 f.lim, .slice rp f.rg.length rc, .slice bp f.byt.length bc, .int .u8 (bl f.tok 0), .int .u8 (bl f.tok 1), .int .u8 (bl f.tok 2), .int .u8 (bl f.tok 3), .int .u8 (bl f.tok 4), .int .u8 (bl f.tok 5), .int .u8 (bl f.tok 6), .int .u8 (bl f.tok 7)] 0 (Nat.le_of_ble_eq_true rfl)
        replace O_1 : OwnL _ w.heap.size (enb (fs.take j)) _ := ownsRow_off O_1 ((Off.refl [B1] _).setAll (b := B1) List.mem_cons_self 0 [.int .i64 f.kind, .int .i64 f.pos, .int .i64 f.lim, .slice rp f.rg.length rc, .slice bp f.byt.length bc, .int .u8 (bl f.tok 0), .int .u8 (bl f.tok 1), .int .u8 (bl f.tok 2), .int .u8 (bl f.tok 3), .int .u8 (bl f.tok 4), .int .u8 (bl f.tok 5), .int .u8 (bl f.tok 6), .int .u8 (bl f.tok 7)]) (fun x hx e => by obtain rfl := List.mem_singleton.1 hx; have h1 := hVlt _ e; omega)
        generalize w1.setCells B1 0 [.int .i64 f.kind, .int .i64 f.pos, .int .i64 f.lim, .slice rp f.rg.length rc, .slice bp f.byt.length bc, .int .u8 (bl f.tok 0), .int .u8 (bl f.tok 1), .int .u8 (bl f.tok 2), .int .u8 (bl f.tok 3), .int .u8 (bl f.tok 4), .int .u8 (bl f.tok 5), .int .u8 (bl f.tok 6), .int .u8 (bl f.tok 7)] = w2 at M O_1 ⊢
        replace M : Mm w ([(B1, [.int .i64 f.kind, .int .i64 f.pos, .int .i64 f.lim, .slice rp f.rg.length rc, .slice bp f.byt.length bc, .int .u8 (bl f.tok 0), .int .u8 (bl f.tok 1), .int .u8 (bl f.tok 2), .int .u8 (bl f.tok 3), .int .u8 (bl f.tok 4), .int .u8 (bl f.tok 5), .int .u8 (bl f.tok 6), .int .u8 (bl f.tok 7)])]) w2 := M
        first | show Exit.then _ _ _ _ _ | show Exit.inBlock _ _ _ _ _
        cases hok : fok f with
        | true =>
          have hfl := fen_len f ((fok_iff f).1 hok) hf.wf.eight
          go_upto_region 7 with fail
          refine wp_region_list ?_
          refine readL (.agg #[.int .i64 f.kind, .int .i64 f.pos, .int .i64 f.lim, .slice rp f.rg.length rc, .slice bp f.byt.length bc, .int .u8 (bl f.tok 0), .int .u8 (bl f.tok 1), .int .u8 (bl f.tok 2), .int .u8 (bl f.tok 3), .int .u8 (bl f.tok 4), .int .u8 (bl f.tok 5), .int .u8 (bl f.tok 6), .int .u8 (bl f.tok 7)]) rfl (loadN 26 _ ⟨B1, 0, none⟩ [.int .i64 f.kind, .int .i64 f.pos, .int .i64 f.lim, .slice rp f.rg.length rc, .slice bp f.byt.length bc, .int .u8 (bl f.tok 0), .int .u8 (bl f.tok 1), .int .u8 (bl f.tok 2), .int .u8 (bl f.tok 3), .int .u8 (bl f.tok 4), .int .u8 (bl f.tok 5), .int .u8 (bl f.tok 6), .int .u8 (bl f.tok 7)] rfl rfl (fun _ => by kernel_rfl) (fun _ => by kernel_rfl) (M.rangeAt List.mem_cons_self)) ?_
          simp only [aP, lI, l0, lS]
          have hC : Calls Try.prog 19 #[.agg #[.int .i64 f.kind, .int .i64 f.pos, .int .i64 f.lim, .slice rp f.rg.length rc, .slice bp f.byt.length bc, .int .u8 (bl f.tok 0), .int .u8 (bl f.tok 1), .int .u8 (bl f.tok 2), .int .u8 (bl f.tok 3), .int .u8 (bl f.tok 4), .int .u8 (bl f.tok 5), .int .u8 (bl f.tok 6), .int .u8 (bl f.tok 7)]] w2 (fun e w' => e = .returned (.bool true) ∧ Below w2.heap.size w2 w') := (by rw [← hok]; exact maybe_any f rp rc bp bc _ (hf.below M.below (Nat.le_refl _)))
          refine callL rfl (fun _ => by kernel_rfl) (hC) ?_
          rintro e w3 ⟨rfl, l⟩
          replace M := M.call l
          refine ⟨_, rfl, ?_⟩
          replace O_1 := O_1.below l
          clear l hC
          simp only [aP, lI, l0, lS]
          refine readL (.bool false) rfl (by kernel_rfl) ?_
          simp only [aP, lI, l0, lS]
          first | show Exit.then _ _ _ _ _ | show Exit.inBlock _ _ _ _ _
          go_upto_region 9 with fail
          refine wp_region_list ?_
          refine readL (.slice p ((enb (fs.take j)).length) c) rfl (by kernel_rfl) ?_
          simp only [aP, lI, l0, lS]
          refine readL (.agg #[.int .i64 f.kind, .int .i64 f.pos, .int .i64 f.lim, .slice rp f.rg.length rc, .slice bp f.byt.length bc, .int .u8 (bl f.tok 0), .int .u8 (bl f.tok 1), .int .u8 (bl f.tok 2), .int .u8 (bl f.tok 3), .int .u8 (bl f.tok 4), .int .u8 (bl f.tok 5), .int .u8 (bl f.tok 6), .int .u8 (bl f.tok 7)]) rfl (loadN 26 _ ⟨B1, 0, none⟩ [.int .i64 f.kind, .int .i64 f.pos, .int .i64 f.lim, .slice rp f.rg.length rc, .slice bp f.byt.length bc, .int .u8 (bl f.tok 0), .int .u8 (bl f.tok 1), .int .u8 (bl f.tok 2), .int .u8 (bl f.tok 3), .int .u8 (bl f.tok 4), .int .u8 (bl f.tok 5), .int .u8 (bl f.tok 6), .int .u8 (bl f.tok 7)] rfl rfl (fun _ => by kernel_rfl) (fun _ => by kernel_rfl) (M.rangeAt List.mem_cons_self)) ?_
          simp only [aP, lI, l0, lS]
          refine callL rfl (fun _ => by kernel_rfl) (written_any f ((fok_iff f).1 hok) rp rc bp bc _ (hf.below M.below (Nat.le_refl _))) ?_
          rintro e w4 ⟨v, rfl, O_2, l⟩
          replace M := M.call l
          replace O_1 := O_1.below l
          clear l
          obtain ⟨p2, c2, rfl, _, _⟩ := O_2.bytes
          refine ⟨_, rfl, ?_⟩
          simp only [aP, lI, l0, lS]
          replace M := M.tail
          obtain ⟨v, w5, hr, O_5, hgr, _⟩ := run_append_Own (P := Try.prog) (ty := 23) Try.underlying23 one8 O_1 p2 ((fen f).length) c2 (bl (fen f)) O_2.src O_2.nilCap (by unfold maxLen; omega) (by omega) M.below.size
          replace M := M.grown hgr w.heap.size (fun p hp => by cases hp) (Nat.le_refl _) M.below.size (fun b hb => (World.ownsRow.lt O_1 b hb).1)
          replace O_5 : OwnL w5 w.heap.size (enb (fs.take j) ++ fen f) v := OwnL.app O_5
          refine actL v rfl (appendOp _ _ 23 _ _ _ rfl rfl rfl hr) ?_
          simp only [aP, lI, l0, lS]
          clear hr hgr O_1
          obtain ⟨p5, c5, rfl, _, _⟩ := O_5.bytes
          refine readL (.slice p5 ((enb (fs.take j) ++ fen f).length) c5) rfl (by kernel_rfl) ?_
          simp only [aP, lI, l0, lS]
          first | show Exit.then _ _ _ _ _ | show Exit.inBlock _ _ _ _ _
          have hn2 : (enb (fs.take j) ++ fen f) = enb (fs.take (j + 1)) := (enb_take fs j f hfj).symm
          have HS := show Hid _ from (And.intro O_5 (And.intro M (And.intro (show (fs.take (j + 1)).all fok = true by rw [List.take_add_one, hfj, List.all_append, hall]; simp [hok]) (show (enb (fs.take (j + 1))).length ≤ 160 * (j + 1) by rw [← hn2, List.length_append]; omega))))
          rw [hn2] at HS ⊢
          clear O_5 M hall hL hfl hn2 hVlt
          go_wp2
          go_roundw
          case rel => first | exact ⟨j + 1, _, _, by omega, rfl, by go_num, HS.out⟩ | ((repeat apply Exists.intro); refine ⟨⟨j + 1, _, _, by omega, rfl, ?_, HS.out⟩, rfl⟩ <;> first | rfl | go_num)
          case measure => simp [intOf]; omega
        | false =>
          go_upto_region 7 with fail
          refine wp_region_list ?_
          refine readL (.agg #[.int .i64 f.kind, .int .i64 f.pos, .int .i64 f.lim, .slice rp f.rg.length rc, .slice bp f.byt.length bc, .int .u8 (bl f.tok 0), .int .u8 (bl f.tok 1), .int .u8 (bl f.tok 2), .int .u8 (bl f.tok 3), .int .u8 (bl f.tok 4), .int .u8 (bl f.tok 5), .int .u8 (bl f.tok 6), .int .u8 (bl f.tok 7)]) rfl (loadN 26 _ ⟨B1, 0, none⟩ [.int .i64 f.kind, .int .i64 f.pos, .int .i64 f.lim, .slice rp f.rg.length rc, .slice bp f.byt.length bc, .int .u8 (bl f.tok 0), .int .u8 (bl f.tok 1), .int .u8 (bl f.tok 2), .int .u8 (bl f.tok 3), .int .u8 (bl f.tok 4), .int .u8 (bl f.tok 5), .int .u8 (bl f.tok 6), .int .u8 (bl f.tok 7)] rfl rfl (fun _ => by kernel_rfl) (fun _ => by kernel_rfl) (M.rangeAt List.mem_cons_self)) ?_
          simp only [aP, lI, l0, lS]
          have hC : Calls Try.prog 19 #[.agg #[.int .i64 f.kind, .int .i64 f.pos, .int .i64 f.lim, .slice rp f.rg.length rc, .slice bp f.byt.length bc, .int .u8 (bl f.tok 0), .int .u8 (bl f.tok 1), .int .u8 (bl f.tok 2), .int .u8 (bl f.tok 3), .int .u8 (bl f.tok 4), .int .u8 (bl f.tok 5), .int .u8 (bl f.tok 6), .int .u8 (bl f.tok 7)]] w2 (fun e w' => e = .returned (.bool false) ∧ Below w2.heap.size w2 w') := (by rw [← hok]; exact maybe_any f rp rc bp bc _ (hf.below M.below (Nat.le_refl _)))
          refine callL rfl (fun _ => by kernel_rfl) (hC) ?_
          rintro e w6 ⟨rfl, l⟩
          replace M := M.call l
          refine ⟨_, rfl, ?_⟩
          replace O_1 := O_1.below l
          clear l hC
          simp only [aP, lI, l0, lS]
          refine readL (.bool true) rfl (by kernel_rfl) ?_
          simp only [aP, lI, l0, lS]
          first | show Exit.then _ _ _ _ _ | show Exit.inBlock _ _ _ _ _
          go_upto_region 8 with fail
          refine wp_region_list ?_
          refine readL (.slice none 0 0) rfl (by kernel_rfl) ?_
          simp only [aP, lI, l0, lS]
          refine readL (.int .i64 100) rfl (by kernel_rfl) ?_
          simp only [aP, lI, l0, lS]
          first | show Exit.then _ _ _ _ _ | show Exit.inBlock _ _ _ _ _
          have hA : en fs = .error 100 := by unfold en; rw [if_neg h16, if_pos]; cases ha : fs.all fok with | false => rfl | true => exact absurd (List.all_eq_true.1 ha f (List.mem_of_getElem? hfj)) (by rw [hok]; decide)
          replace hA := show Hid _ from hA
          clear O_1 hall hL hVlt
          go_wp2
          go_ret2
          exact ⟨⟨_, by rw [hA.out]; rfl, by rw [hA.out]; exact World.ownsRow_nil _ _ _ 1⟩, M.below⟩
      · have hjq : j = fs.length := by omega
        have g1 : ¬ (j : Int) < ((fs.length : Nat) : Int) := by omega
        have htk : fs.take j = fs := by rw [hjq, List.take_length]
        go_upto_region 5 with fail
        refine wp_region_list ?_
        refine readL (.bool false) rfl (lssI .i64 _ _ _ _ _ _ rfl rfl rfl false (decide_eq_false g1) _) ?_
        simp only [aP, lI, l0, lS]
        first | show Exit.then _ _ _ _ _ | show Exit.inBlock _ _ _ _ _
        by_cases h256 : 256 < (enb (fs.take j)).length
        · go_upto_region 11 with fail
          refine wp_region_list ?_
          refine readL (.slice p ((enb (fs.take j)).length) c) rfl (by kernel_rfl) ?_
          simp only [aP, lI, l0, lS]
          refine readL (.int .i64 (((enb (fs.take j)).length : Nat) : Int)) rfl (lenS _ 23 5 p ((enb (fs.take j)).length) c rfl Try.underlying23 rfl _) ?_
          simp only [aP, lI, l0, lS]
          refine readL (.bool true) rfl (gtrI .i64 _ _ _ _ _ _ rfl rfl rfl true (decide_eq_true (by omega)) _) ?_
          simp only [aP, lI, l0, lS]
          first | show Exit.then _ _ _ _ _ | show Exit.inBlock _ _ _ _ _
          go_upto_region 12 with fail
          refine wp_region_list ?_
          refine readL (.slice none 0 0) rfl (by kernel_rfl) ?_
          simp only [aP, lI, l0, lS]
          refine readL (.int .i64 2) rfl (by kernel_rfl) ?_
          simp only [aP, lI, l0, lS]
          first | show Exit.then _ _ _ _ _ | show Exit.inBlock _ _ _ _ _
          have hA : en fs = .error 2 := by unfold en; rw [htk] at hall h256; rw [if_neg h16, hall, if_neg (by decide), if_pos h256]
          replace hA := show Hid _ from hA
          clear hall hL htk hjq g1 h256 O_1
          go_wp2
          go_ret2
          exact ⟨⟨_, by rw [hA.out]; rfl, by rw [hA.out]; exact World.ownsRow_nil _ _ _ 1⟩, M.below⟩
        · go_upto_region 11 with fail
          refine wp_region_list ?_
          refine readL (.slice p ((enb (fs.take j)).length) c) rfl (by kernel_rfl) ?_
          simp only [aP, lI, l0, lS]
          refine readL (.int .i64 (((enb (fs.take j)).length : Nat) : Int)) rfl (lenS _ 23 5 p ((enb (fs.take j)).length) c rfl Try.underlying23 rfl _) ?_
          simp only [aP, lI, l0, lS]
          refine readL (.bool false) rfl (gtrI .i64 _ _ _ _ _ _ rfl rfl rfl false (decide_eq_false (by omega)) _) ?_
          simp only [aP, lI, l0, lS]
          first | show Exit.then _ _ _ _ _ | show Exit.inBlock _ _ _ _ _
          go_upto_region 13 with fail
          refine wp_region_list ?_
          refine readL (.slice p ((enb (fs.take j)).length) c) rfl (by kernel_rfl) ?_
          simp only [aP, lI, l0, lS]
          refine readL (.slice p ((enb (fs.take j)).length) c) rfl (by kernel_rfl) ?_
          simp only [aP, lI, l0, lS]
          refine readL (.int .i64 0) rfl (by kernel_rfl) ?_
          simp only [aP, lI, l0, lS]
          first | show Exit.then _ _ _ _ _ | show Exit.inBlock _ _ _ _ _
          have hA : en fs = .ok (enb (fs.take j)) := by rw [htk] at hall h256 ⊢; unfold en; rw [if_neg h16, hall, if_neg (by decide), if_neg h256]
          replace hA := show Hid _ from hA
          clear hall hL htk hjq g1 h256
          go_wp2
          go_ret2
          exact ⟨⟨_, by rw [hA.out]; rfl, by rw [hA.out]; exact O_1⟩, M.below⟩
end Go.Proofs.Yteaamgjlkohfcaa

namespace Go.Proofs.Yteaamgjlkohfcaa
open Go.RowKit

set_option maxRecDepth 10000 in
set_option maxHeartbeats 32000000 in
theorem told_any (c : Int) (w : World) : Calls Try.prog 35 #[.iface 28 (.int .i64 c)] w fun e w' => e = .returned (.int .i64 c) ∧ w' = w := by
  go_enter Try.func35, Try.ntmps35
  go_upto_region 0 with fail
  refine wp_region_list ?_
  refine readL (.int .i64 0) rfl (by kernel_rfl) ?_
  simp only [aP, lI, l0, lS]
  first | show Exit.then _ _ _ _ _ | show Exit.inBlock _ _ _ _ _
  go_upto_region 1 with fail
  refine wp_region_list ?_
  refine readL (.iface 28 (.int .i64 c)) rfl (by kernel_rfl) ?_
  simp only [aP, lI, l0, lS]
  first | show Exit.then _ _ _ _ _ | show Exit.inBlock _ _ _ _ _
  go_upto_region 4 with fail
  refine wp_region_list ?_
  refine readL (.tuple #[.int .i64 c, .bool true]) rfl (by kernel_rfl) ?_
  simp only [aP, lI, l0, lS]
  refine readL (.bool true) rfl (by kernel_rfl) ?_
  simp only [aP, lI, l0, lS]
  refine readL (.int .i64 c) rfl (by kernel_rfl) ?_
  simp only [aP, lI, l0, lS]
  first | show Exit.then _ _ _ _ _ | show Exit.inBlock _ _ _ _ _
  go_upto_region 5 with fail
  refine wp_region_list ?_
  refine readL (.int .i64 c) rfl (by kernel_rfl) ?_
  simp only [aP, lI, l0, lS]
  first | show Exit.then _ _ _ _ _ | show Exit.inBlock _ _ _ _ _
  go_upto_region 6 with fail
  refine wp_region_list ?_
  refine readL (.int .i64 c) rfl (by kernel_rfl) ?_
  simp only [aP, lI, l0, lS]
  refine readL (.int .i64 c) rfl (by kernel_rfl) ?_
  simp only [aP, lI, l0, lS]
  first | show Exit.then _ _ _ _ _ | show Exit.inBlock _ _ _ _ _
  go_wp2
  go_ret
  exact ⟨rfl, rfl⟩

set_option maxRecDepth 10000 in
set_option maxHeartbeats 32000000 in
theorem rescue_idle (p q : Addr) (w : World) :
    CallsD Try.prog 34 #[.pointer (some p), .pointer (some q)] .returning w fun e u' w' => e = .returned (.tuple #[]) ∧ u' = .returning ∧ w' = w := by
  refine callsD_of_wpS Try.func34 rfl fun c₀ cs hu => ?_
  apply wpS_seq
  apply wpS_region
  simp [wpOpsS, go_sem, recoverD, hu, Try.ntmps34, Exit.thenS]
  refine wpS_of_wp ?_
  go_wp2
  cases c₀
  simp_all [bodyPostS, results, Try.results34]

set_option maxRecDepth 10000 in
set_option maxHeartbeats 32000000 in
theorem rescue_panic (B C : Nat) (code : Int) (older : List PanicEntry) (w0 w : World) (u v : Value) (l : List (Nat × List Value)) (M : Mm w0 ((B, [u]) :: (C, [v]) :: l) w) :
    CallsD Try.prog 34 #[.pointer (some ⟨B, 0, none⟩), .pointer (some ⟨C, 0, none⟩)] (.panicking ({ v := .iface 28 (.int .i64 code), recovered := false } :: older)) w fun e u' w' => e = .returned (.tuple #[]) ∧ u' = .panicking ({ v := .iface 28 (.int .i64 code), recovered := true } :: older) ∧ Mm w0 ((B, [.slice none 0 0]) :: (C, [.int .i64 code]) :: l) w' := by
  refine callsD_of_wpS Try.func34 rfl fun c₀ cs hu => ?_
  apply wpS_seq
  apply wpS_region
  simp [wpOpsS, go_sem, recoverD, hu, Try.ntmps34, Exit.thenS]
  refine wpS_of_wp ?_
  simp only [Array.replicate_succ, Array.replicate_zero, List.push_toArray, List.append_toArray, List.nil_append, List.cons_append, List.setIfInBounds_toArray, List.set_cons_zero, List.set_cons_succ]
  go_upto_region 2 with fail
  refine wp_region_list ?_
  refine readL (.iface 28 (.int .i64 code)) rfl (by kernel_rfl) ?_
  simp only [aP, lI, l0, lS]
  refine callL rfl (fun _ => by kernel_rfl) (told_any code _) ?_
  rintro e w1 ⟨rfl, hw⟩
  subst hw
  refine ⟨_, rfl, ?_⟩
  simp only [aP, lI, l0, lS]
  refine skipOpL rfl (storeAny (.slice none 0 0) B 0 32 _ _ rfl rfl rfl rfl rfl (M.isSome List.mem_cons_self 0 (by simp)) (M.free List.mem_cons_self 0 (by simp)) (by kernel_rfl)) ?_
  simp only [Act.put]
  replace M := M.set 0 (by simp) (.slice none 0 0)
  generalize w1.setCell ⟨B, 0, none⟩ (.slice none 0 0) = w2 at M  ⊢
  replace M : Mm w0 ((B, [.slice none 0 0]) :: (C, [v]) :: l) w2 := M
  replace M := M.swap
  refine skipOpL rfl (storeAny (.int .i64 code) C 0 28 _ _ rfl rfl rfl rfl rfl (M.isSome List.mem_cons_self 0 (by simp)) (M.free List.mem_cons_self 0 (by simp)) (by kernel_rfl)) ?_
  simp only [Act.put]
  replace M := M.set 0 (by simp) (.int .i64 code)
  generalize w2.setCell ⟨C, 0, none⟩ (.int .i64 code) = w3 at M  ⊢
  replace M : Mm w0 ((C, [.int .i64 code]) :: (B, [.slice none 0 0]) :: l) w3 := M
  replace M := M.swap
  exact ⟨rfl, _, rfl, _, results_none rfl _ _ _, rfl, rfl, M⟩

/-- How read's body leaves its door: the two results lie in variables of its own; what is wrong is what panics. -/
def DecK (w : World) (b : List Int) (o : Option (List PanicEntry)) (a : Act) (w' : World) : Prop := ∃ (B C : Nat) (u x : Value), a.defers = [{ target := .fn (.func 34) #[.pointer (some ⟨B, 0, none⟩), .pointer (some ⟨C, 0, none⟩)], args := #[] }] ∧ a.tmps[2]? = some (.pointer (some ⟨B, 0, none⟩)) ∧ a.tmps[3]? = some (.pointer (some ⟨C, 0, none⟩)) ∧ Mm w [(B, [u]), (C, [x])] w' ∧
  match o with
  | none => x = .int .i64 (exE (dc 16 b)) ∧ ∃ sp cap, u = .slice sp (exL (dc 16 b)).length cap ∧ (exL (dc 16 b)).length ≤ cap ∧ (sp = none → cap = 0) ∧ Frs w' sp (exL (dc 16 b))
  | some c => ∃ code, c = [{ v := .iface 28 (.int .i64 code), recovered := false }] ∧ dc 16 b = .error code
def RedR (b : List Int) (e : Ending) (w' : World) : Prop := ∃ sp cap, e = .returned (.tuple #[.slice sp (exL (dc 16 b)).length cap, .int .i64 (exE (dc 16 b))]) ∧ (exL (dc 16 b)).length ≤ cap ∧ (sp = none → cap = 0) ∧ Frs w' sp (exL (dc 16 b))
theorem dec_door (w : World) (b : List Int) (o : Option (List PanicEntry)) (a : Act) (w' : World) (h : DecK w b o a w') : Leaves Try.prog Try.f24 a.tmps (fun e w' => RedR b e w' ∧ Below w.heap.size w w') a.defers (modeOf o) w' := by
  obtain ⟨B, C, u, x, hd, e2, e3, M, r⟩ := h
  rw [hd]
  have hres : ∀ (u x : Value) (w2 : World), Mm w [(B, [u]), (C, [x])] w2 → (results Try.f24 a.tmps).run Try.prog w2 = .ok (.tuple #[u, x]) w2 := fun u x w2 M => by
    have c1 := M.get List.mem_cons_self 0 _ rfl
    have c2 := M.get (List.mem_cons_of_mem _ List.mem_cons_self) 0 _ rfl
    simp [results, Try.results24, e2, e3, go_sem, c1, c2]
  cases o with
  | none =>
    refine leaves_one (o := none) (f := 34) (args := #[.pointer (some ⟨B, 0, none⟩), .pointer (some ⟨C, 0, none⟩)]) (T := fun w2 => w2 = w') (by kernel_rfl) ((rescue_idle _ _ _).mono fun e u' w2 h => ⟨h.1, by rw [h.2.1]; rfl, h.2.2⟩) ?_
    rintro w2 rfl
    obtain ⟨rfl, sp, cap, rfl, h1, h2, h3⟩ := r
    exact ⟨_, hres _ _ _ M, ⟨sp, cap, rfl, h1, h2, h3⟩, M.below⟩
  | some c =>
    obtain ⟨code, rfl, he⟩ := r
    refine leaves_one (f := 34) (args := #[.pointer (some ⟨B, 0, none⟩), .pointer (some ⟨C, 0, none⟩)]) (T := fun w2 => Mm w [(B, [.slice none 0 0]), (C, [.int .i64 code])] w2) (by kernel_rfl) ((rescue_panic B C code [] w w' u x [] M).mono fun e u' w2 h => ⟨h.1, by rw [h.2.1]; rfl, h.2.2⟩) ?_
    intro w2 M2
    exact ⟨_, hres _ _ _ M2, ⟨none, 0, by rw [he]; rfl, by rw [he]; exact Nat.le_refl _, fun _ => rfl, by rw [he]; exact Frs.nil _ _⟩, M2.below⟩
/-- What stands behind some frames read. -/
structure DcJ (w : World) (R A E : Nat) (b : List Int) (bb : List Int) (ds : List Dt) (p : Option Addr) (c : Nat) (vp : Option Addr) (vc : Nat) (w' : World) : Prop where
  dc : dc 16 b = dck (ds.map (·.f)) (dc (16 - ds.length) bb)
  len : ds.length ≤ 16
  mem : Mm w [(R, [.slice p bb.length c]), (A, [.slice vp ds.length vc]), (E, [.int .i64 0])] w'
  src : SrcA (R :: A :: E :: ob vp) w' p bb.length (bl bb)
  cap : bb.length ≤ c
  nil : p = none → c = 0
  byts : Byts bb
  max : bb.length ≤ 256
  own : w'.ownsRow (R + 1) 26 13 (.slice vp ds.length vc) ds.length (dcl ds)
  frm : ∀ d ∈ ds, FA (R :: A :: E :: ob vp) w' d.f d.rp d.rc d.bp d.bc
def cel (w : World) (b : Nat) : Value := (w.cell? ⟨b, 0, none⟩).getD undef
theorem DcJ.slen {w w' : World} {R A E : Nat} {b bb : List Int} {ds : List Dt} {p vp : Option Addr} {c vc : Nat} (h : DcJ w R A E b bb ds p c vp vc w') : slen (cel w' A) = ds.length := by
  unfold cel
  rw [h.mem.get (List.mem_cons_of_mem _ List.mem_cons_self) 0 _ rfl]
  rfl

set_option maxRecDepth 10000 in
set_option maxHeartbeats 32000000 in
theorem read_any (sp : Option Addr) (cap : Nat) (b : List Int) (w : World) (hlen : b.length ≤ 256) (hcap : b.length ≤ cap) (hnil : sp = none → cap = 0) (hb : Byts b) (hs : Src w sp b.length (bl b)) :
    Calls Try.prog 24 #[.slice sp b.length cap] w fun e w' => RedR b e w' ∧ Below w.heap.size w w' := by
  have M := Mm.init w
  refine calls_door (DecK w b) Try.func24 rfl (dec_door w b) ?_
  simp only [Try.ntmps24, List.size_toArray, List.length_cons, List.length_nil, Nat.reduceAdd, Nat.reduceSub, Array.replicate_succ, Array.replicate_zero, List.push_toArray, List.append_toArray, List.nil_append, List.cons_append]
  go_upto_region 0 with fail
  refine wp_region_list ?_
  refine actL (w' := w.alloc (.cells #[.slice none 0 0] 32)) (.pointer (some ⟨w.heap.size, 0, none⟩)) rfl (by kernel_rfl) ?_
  simp only [aP, lI, l0, lS]
  have hB_B1 : w.heap.size ≤ w.heap.size := M.below.size
  replace M := M.box #[.slice none 0 0] 32 w.heap.size rfl
  generalize w.alloc (.cells #[.slice none 0 0] 32) = w1 at M  ⊢
  generalize eB : w.heap.size = B1 at M hB_B1  ⊢
  have hE_B1 : w.heap.size ≤ B1 := Nat.le_of_eq eB
  have hF_B1 : B1 ≤ w.heap.size := Nat.le_of_eq eB.symm
  clear eB
  replace M : Mm w ([(B1, [.slice none 0 0])]) w1 := M
  have hlt_B1 := M.lt List.mem_cons_self
  refine actL (w' := w1.alloc (.cells #[.int .i64 0] 28)) (.pointer (some ⟨w1.heap.size, 0, none⟩)) rfl (by kernel_rfl) ?_
  simp only [aP, lI, l0, lS]
  have hB_B2 : w.heap.size ≤ w1.heap.size := M.below.size
  replace M := M.box #[.int .i64 0] 28 w1.heap.size rfl
  generalize w1.alloc (.cells #[.int .i64 0] 28) = w2 at M  ⊢
  generalize eB : w1.heap.size = B2 at M hB_B2  ⊢
  have hE_B2 : w1.heap.size ≤ B2 := Nat.le_of_eq eB
  have hF_B2 : B2 ≤ w1.heap.size := Nat.le_of_eq eB.symm
  clear eB
  replace M : Mm w ([(B2, [.int .i64 0]), (B1, [.slice none 0 0])]) w2 := M
  have hlt_B2 := M.lt List.mem_cons_self
  first | show Exit.then _ _ _ _ _ | show Exit.inBlock _ _ _ _ _
  go_upto_region 1 with fail
  refine wp_region_list ?_
  refine readL (.func (.func 34) #[] #[.pointer (some ⟨B1, 0, none⟩), .pointer (some ⟨B2, 0, none⟩)]) rfl (by kernel_rfl) ?_
  simp only [aP, lI, l0, lS]
  refine deferL { target := .fn (.func 34) #[.pointer (some ⟨B1, 0, none⟩), .pointer (some ⟨B2, 0, none⟩)], args := #[] } rfl (by kernel_rfl) ?_
  simp only [Act.put]
  first | show Exit.then _ _ _ _ _ | show Exit.inBlock _ _ _ _ _
  go_upto_region 2 with fail
  refine wp_region_list ?_
  refine readL (.slice sp b.length cap) rfl (by kernel_rfl) ?_
  simp only [aP, lI, l0, lS]
  refine readL (.agg #[.slice sp b.length cap]) rfl (by kernel_rfl) ?_
  simp only [aP, lI, l0, lS]
  refine actL (w' := w2.alloc (.cells #[.slice none 0 0] 62)) (.pointer (some ⟨w2.heap.size, 0, none⟩)) rfl (by kernel_rfl) ?_
  simp only [aP, lI, l0, lS]
  have hB_B3 : w.heap.size ≤ w2.heap.size := M.below.size
  replace M := M.box #[.slice none 0 0] 62 w2.heap.size rfl
  generalize w2.alloc (.cells #[.slice none 0 0] 62) = w3 at M  ⊢
  generalize eB : w2.heap.size = B3 at M hB_B3  ⊢
  have hE_B3 : w2.heap.size ≤ B3 := Nat.le_of_eq eB
  have hF_B3 : B3 ≤ w2.heap.size := Nat.le_of_eq eB.symm
  clear eB
  replace M : Mm w ([(B3, [.slice none 0 0]), (B2, [.int .i64 0]), (B1, [.slice none 0 0])]) w3 := M
  have hlt_B3 := M.lt List.mem_cons_self
  refine skipOpL rfl (storeP [.slice sp b.length cap] B3 0 62 _ _ rfl rfl rfl (M.thereP List.mem_cons_self 0 1 (Nat.le_of_ble_eq_true rfl)) (by kernel_rfl) (List.all_eq_true.1 (rfl : ([.slice sp b.length cap] : List Value).all (fun u => u.oneCell') = true))) ?_
  simp only [Act.put]
  replace M := M.setPart [.slice sp b.length cap] 0 (Nat.le_of_ble_eq_true rfl)
  generalize w3.setCells B3 0 [.slice sp b.length cap] = w4 at M  ⊢
  replace M : Mm w ([(B3, [.slice sp b.length cap]), (B2, [.int .i64 0]), (B1, [.slice none 0 0])]) w4 := M
  first | show Exit.then _ _ _ _ _ | show Exit.inBlock _ _ _ _ _
  replace M := M.rot3
  replace M := M.swap
  have hI : DcJ w B3 B1 B2 b b [] sp cap none 0 w4 := ⟨(dck_nil _).symm, by decide, M, (SrcA.of_old hs (fun x hx => by
    rcases List.mem_cons.1 hx with rfl | hx
    · exact M.lo List.mem_cons_self
    · rcases List.mem_cons.1 hx with rfl | hx
      · exact M.lo (List.mem_cons_of_mem _ List.mem_cons_self)
      · obtain rfl := List.mem_singleton.1 hx
        exact M.lo (List.mem_cons_of_mem _ (List.mem_cons_of_mem _ List.mem_cons_self)))).off (Off.of_below M.below), hcap, hnil, hb, hlen, World.ownsRow_nil _ _ _ 13, fun _ h => (by cases h)⟩
  have hAR : B1 < B3 := by omega
  have hER : B2 < B3 := by omega
  have HI := show Hid _ from hI
  clear M hI
  go_wp2
  go_loopw [9] (fun _ w' => ∃ (bb : List Int) (ds : List Dt) (p : Option Addr) (c : Nat) (vp : Option Addr) (vc : Nat), DcJ w B3 B1 B2 b bb ds p c vp vc w') (fun _ w' => 17 - slen (cel w' B1))
  case atStart => exact ⟨b, [], sp, cap, none, 0, HI.out⟩
  case round =>
    clear HI
    obtain ⟨bb, ds, p, c, vp, vc, I⟩ := hrel
    have M := I.mem
    cases bb with
    | nil =>
      go_upto_region 3 with fail
      refine wp_region_list ?_
      refine readL (.pointer (some ⟨B3, 0, none⟩)) rfl (by kernel_rfl) ?_
      simp only [aP, lI, l0, lS]
      refine readL (.slice p 0 c) rfl (load1 23 _ ⟨B3, 0, none⟩ _ rfl rfl (fun _ => by kernel_rfl) (M.get List.mem_cons_self 0 _ rfl)) ?_
      simp only [aP, lI, l0, lS]
      refine readL (.int .i64 ((0 : Nat) : Int)) rfl (lenS _ 23 5 p 0 c rfl Try.underlying23 rfl _) ?_
      simp only [aP, lI, l0, lS]
      refine readL (.bool false) rfl (gtrI .i64 _ _ _ _ _ _ rfl rfl rfl false (by decide) _) ?_
      simp only [aP, lI, l0, lS]
      first | show Exit.then _ _ _ _ _ | show Exit.inBlock _ _ _ _ _
      have hA : dc 16 b = .ok (ds.map (·.f)) := by rw [I.dc, dc_end]; show Except.ok (ds.map (·.f) ++ []) = _; rw [List.append_nil]
      have hV := I.own
      have hD := I.frm
      have hc := own_nil_le I.own
      clear I
      go_upto_region 7 with fail
      refine wp_region_list ?_
      refine readL (.slice vp ds.length vc) rfl (load1 32 _ ⟨B1, 0, none⟩ _ rfl rfl (fun _ => by kernel_rfl) (M.get (List.mem_cons_of_mem _ List.mem_cons_self) 0 _ rfl)) ?_
      simp only [aP, lI, l0, lS]
      replace M := M.swap
      refine skipOpL rfl (storeAny (.slice vp ds.length vc) B1 0 32 _ _ rfl rfl rfl rfl rfl (M.isSome List.mem_cons_self 0 (by simp)) (M.free List.mem_cons_self 0 (by simp)) (by kernel_rfl)) ?_
      simp only [Act.put]
      replace M := M.set 0 (by simp) (.slice vp ds.length vc)
      have hof := (Off.refl [B1] wr).set (b := B1) List.mem_cons_self 0 (.slice vp ds.length vc)
      replace hV := ownsRow_off hV hof (fun x hx e => by obtain rfl := List.mem_singleton.1 hx; have h1 := (World.ownsRow.lt hV _ e).1; omega)
      replace hD : ∀ d ∈ ds, FA (B3 :: B1 :: B2 :: ob vp) _ d.f d.rp d.rc d.bp d.bc := fun d hd => (hD d hd).off (hof.mono (fun y hy => by obtain rfl := List.mem_singleton.1 hy; simp))
      clear hof
      generalize wr.setCell ⟨B1, 0, none⟩ (.slice vp ds.length vc) = w5 at M hV hD ⊢
      replace M : Mm w ([(B1, [.slice vp ds.length vc]), (B3, [.slice p 0 c]), (B2, [.int .i64 0])]) w5 := M
      replace M := M.rot3
      refine skipOpL rfl (storeAny (.int .i64 0) B2 0 28 _ _ rfl rfl rfl rfl rfl (M.isSome List.mem_cons_self 0 (by simp)) (M.free List.mem_cons_self 0 (by simp)) (by kernel_rfl)) ?_
      simp only [Act.put]
      replace M := M.set 0 (by simp) (.int .i64 0)
      have hof := (Off.refl [B2] w5).set (b := B2) List.mem_cons_self 0 (.int .i64 0)
      replace hV := ownsRow_off hV hof (fun x hx e => by obtain rfl := List.mem_singleton.1 hx; have h1 := (World.ownsRow.lt hV _ e).1; omega)
      replace hD : ∀ d ∈ ds, FA (B3 :: B1 :: B2 :: ob vp) _ d.f d.rp d.rc d.bp d.bc := fun d hd => (hD d hd).off (hof.mono (fun y hy => by obtain rfl := List.mem_singleton.1 hy; simp))
      clear hof
      generalize w5.setCell ⟨B2, 0, none⟩ (.int .i64 0) = w6 at M hV hD ⊢
      replace M : Mm w ([(B2, [.int .i64 0]), (B1, [.slice vp ds.length vc]), (B3, [.slice p 0 c])]) w6 := M
      first | show Exit.then _ _ _ _ _ | show Exit.inBlock _ _ _ _ _
      replace M := M.swap
      replace M := M.swap
      replace M := M.swap
      replace M := M.sub [(B1, [.slice vp ds.length vc]), (B2, [.int .i64 0])] (List.cons_sublist_cons.2 (List.cons_sublist_cons.2 (List.nil_sublist _)))
      have hF := Frs.of_own hV (fun d hd => (hD d hd).fv)
      have hlm : (ds.map (·.f)).length = ds.length := List.length_map _
      have HS := show Hid _ from (And.intro hA (And.intro hF (And.intro hc (And.intro hlm M))))
      clear hA hF hc hlm M hV hD
      go_wp2
      exact ⟨B1, B2, _, _, rfl, rfl, rfl, HS.out.2.2.2.2, by rw [HS.out.1]; rfl, vp, vc, by rw [HS.out.1]; show _ = Value.slice vp (ds.map (·.f)).length vc; rw [HS.out.2.2.2.1], by rw [HS.out.1]; show (ds.map (·.f)).length ≤ vc; rw [HS.out.2.2.2.1]; exact HS.out.2.2.1.1, HS.out.2.2.1.2.1, by rw [HS.out.1]; exact HS.out.2.1⟩
    | cons x bt =>
      obtain ⟨ad, rfl, _⟩ := I.src.1 0 (by simp)
      have hx := I.byts x List.mem_cons_self
      have hbt := I.byts.tail
      have hmx : bt.length + 1 ≤ 256 := I.max
      have hcc : bt.length + 1 ≤ c := I.cap
      replace M : Mm w [(B3, [.slice (some ad) (bt.length + 1) c]), (B1, [.slice vp ds.length vc]), (B2, [.int .i64 0])] wr := M
      go_upto_region 3 with fail
      refine wp_region_list ?_
      refine readL (.pointer (some ⟨B3, 0, none⟩)) rfl (by kernel_rfl) ?_
      simp only [aP, lI, l0, lS]
      refine readL (.slice (some ad) (bt.length + 1) c) rfl (load1 23 _ ⟨B3, 0, none⟩ _ rfl rfl (fun _ => by kernel_rfl) (M.get List.mem_cons_self 0 _ rfl)) ?_
      simp only [aP, lI, l0, lS]
      refine readL (.int .i64 (((bt.length + 1) : Nat) : Int)) rfl (lenS _ 23 5 (some ad) (bt.length + 1) c rfl Try.underlying23 rfl _) ?_
      simp only [aP, lI, l0, lS]
      refine readL (.bool true) rfl (gtrI .i64 _ _ _ _ _ _ rfl rfl rfl true (decide_eq_true (by omega)) _) ?_
      simp only [aP, lI, l0, lS]
      first | show Exit.then _ _ _ _ _ | show Exit.inBlock _ _ _ _ _
      by_cases h16 : ds.length = 16
      · go_upto_region 4 with fail
        refine wp_region_list ?_
        refine readL (.slice vp ds.length vc) rfl (load1 32 _ ⟨B1, 0, none⟩ _ rfl rfl (fun _ => by kernel_rfl) (M.get (List.mem_cons_of_mem _ List.mem_cons_self) 0 _ rfl)) ?_
        simp only [aP, lI, l0, lS]
        refine readL (.int .i64 ((ds.length : Nat) : Int)) rfl (lenS _ 32 26 vp ds.length vc rfl Try.underlying32 rfl _) ?_
        simp only [aP, lI, l0, lS]
        refine readL (.bool true) rfl (eqlI .i64 _ _ _ _ _ _ rfl rfl rfl true (by rw [h16]; rfl) _) ?_
        simp only [aP, lI, l0, lS]
        first | show Exit.then _ _ _ _ _ | show Exit.inBlock _ _ _ _ _
        go_upto_region 5 with fail
        refine wp_region_list ?_
        refine readL (.iface 28 (.int .i64 2)) rfl (by kernel_rfl) ?_
        simp only [aP, lI, l0, lS]
        refine panicL (.iface 28 (.int .i64 2)) rfl (by kernel_rfl) ?_
        have hA : dc 16 b = .error 2 := by rw [I.dc, h16]; rfl
        exact ⟨B1, B2, _, _, rfl, rfl, rfl, M.tail, 2, rfl, hA⟩
      · go_upto_region 4 with fail
        refine wp_region_list ?_
        refine readL (.slice vp ds.length vc) rfl (load1 32 _ ⟨B1, 0, none⟩ _ rfl rfl (fun _ => by kernel_rfl) (M.get (List.mem_cons_of_mem _ List.mem_cons_self) 0 _ rfl)) ?_
        simp only [aP, lI, l0, lS]
        refine readL (.int .i64 ((ds.length : Nat) : Int)) rfl (lenS _ 32 26 vp ds.length vc rfl Try.underlying32 rfl _) ?_
        simp only [aP, lI, l0, lS]
        refine readL (.bool false) rfl (eqlI .i64 _ _ _ _ _ _ rfl rfl rfl false (by simp; omega) _) ?_
        simp only [aP, lI, l0, lS]
        first | show Exit.then _ _ _ _ _ | show Exit.inBlock _ _ _ _ _
        obtain ⟨m, hm⟩ : ∃ m, 16 - ds.length = m + 1 := ⟨15 - ds.length, by have := I.len; omega⟩
        have hdc := I.dc
        rw [hm] at hdc
        have hslen := I.slen
        have hS := I.src
        have V_0 := I.own
        have hD := I.frm
        have hVlt := ob_lt V_0
        have hlen2 := I.len
        clear I
        go_upto_region 6 with fail
        refine wp_region_held_drew (S := fun w' => Below w.heap.size w w') (by kernel_rfl) M.drew.below ?_
        intro _
        replace M := M.drew
        have hdr := (Below.refl wr.heap.size wr).drew
        replace hS := hS.off (Off.of_below hdr)
        replace V_0 := ownsRow_low (X := []) V_0 (Off.of_below hdr) (fun _ h => by cases h)
        replace hD : ∀ d ∈ ds, FA (B3 :: B1 :: B2 :: ob vp) _ d.f d.rp d.rc d.bp d.bc := fun d hd => (hD d hd).off (Off.of_below hdr)
        replace hVlt : ∀ x ∈ ob vp, B3 + 1 ≤ x ∧ x < wr.drew.heap.size := fun x hx => ob_lt V_0 x hx
        clear hdr
        generalize wr.drew = w5 at M hS V_0 hD hVlt ⊢
        have hR5 := M.lt List.mem_cons_self
        have hRlo := M.lo List.mem_cons_self
        have hX5 : ∀ y ∈ B1 :: B2 :: ob vp, y < w5.heap.size := fun y hy => by
          rcases List.mem_cons.1 hy with rfl | hy
          · omega
          · rcases List.mem_cons.1 hy with rfl | hy
            · omega
            · exact (hVlt y hy).2
        have hC := fframe_any (B1 :: B2 :: ob vp) w w5 B3 _ ad c bt hX5 (by omega) hcc x hx hbt M hS
        refine twoH 0 1 (by kernel_rfl) ?_ ?_
        · refine actO (i := 0) (some 16) rfl (.slice vp ds.length vc) rfl rfl (load1 32 _ ⟨B1, 0, none⟩ _ rfl rfl (fun _ => by kernel_rfl) (M.get (List.mem_cons_of_mem _ List.mem_cons_self) 0 _ rfl)) ?_
          refine ⟨M.below, ?_⟩
          simp only [aP, lI, l0, lS]
          refine callPH (i := 1) (some 17) rfl (by kernel_rfl) rfl rfl (fun _ => by kernel_rfl) hC ?_
          rintro e w6 hR
          rcases hR with ⟨f, r, p2, c2, rp, rc, bp, bc, hkd, hfp, hfo, hrl, hrb, rfl, M', hof, hc2, hn2, hS', hFA⟩ | ⟨code, hcode, rfl, s6, M'⟩
          rotate_left
          · right
            refine ⟨_, rfl, ?_⟩
            have hA : dc 16 b = .error code := by rw [hdc, hcode m]; rfl
            exact ⟨B1, B2, _, _, rfl, rfl, rfl, M'.tail, code, rfl, hA⟩
          left
          clear M hS
          have M := M'
          have hS := hS'
          clear M' hS'
          replace V_0 := ownsRow_off V_0 hof (fun x hx e => by obtain rfl := List.mem_singleton.1 hx; have h1 := hVlt _ ((ob_own _ _ _ _).1 e); omega)
          replace hD : ∀ d ∈ ds, FA (B3 :: B1 :: B2 :: ob vp) w6 d.f d.rp d.rc d.bp d.bc := fun d hd => (hD d hd).off (hof.mono (fun y hy => by obtain rfl := List.mem_singleton.1 hy; simp))
          have hsz6 := hof.size
          clear hof
          refine ⟨_, rfl, M.below, ?_⟩
          simp only [aP, lI, l0, lS]
          have hlb := (Below.refl w6.heap.size w6).alloc (Nat.le_refl _) (.cells #[.int .i64 f.kind, .int .i64 f.pos, .int .i64 f.lim, .slice rp f.rg.length rc, .slice bp f.byt.length bc, .int .u8 (bl f.tok 0), .int .u8 (bl f.tok 1), .int .u8 (bl f.tok 2), .int .u8 (bl f.tok 3), .int .u8 (bl f.tok 4), .int .u8 (bl f.tok 5), .int .u8 (bl f.tok 6), .int .u8 (bl f.tok 7)] 26)
          refine onlyH (i := 2) (some 18) rfl (.slice (some ⟨w6.heap.size, 0, none⟩) 1 1) (by kernel_rfl) rfl rfl (by kernel_rfl) (M.call hlb).below ?_
          simp only [aP, lI, l0, lS]
          replace M := M.call hlb
          replace V_0 := ownsRow_low (X := []) V_0 (Off.of_below hlb) (fun _ h => by cases h)
          replace hD : ∀ d ∈ ds, FA (B3 :: B1 :: B2 :: ob vp) _ d.f d.rp d.rc d.bp d.bc := fun d hd => (hD d hd).off (Off.of_below hlb)
          replace hFA := hFA.off (Off.of_below hlb)
          replace hS := hS.off (Off.of_below hlb)
          have hsz7 := hlb.size
          have hcl : ∀ j u, (fcs f rp rc bp bc)[j]? = some u → (w6.alloc (.cells #[.int .i64 f.kind, .int .i64 f.pos, .int .i64 f.lim, .slice rp f.rg.length rc, .slice bp f.byt.length bc, .int .u8 (bl f.tok 0), .int .u8 (bl f.tok 1), .int .u8 (bl f.tok 2), .int .u8 (bl f.tok 3), .int .u8 (bl f.tok 4), .int .u8 (bl f.tok 5), .int .u8 (bl f.tok 6), .int .u8 (bl f.tok 7)] 26)).cell? ((⟨w6.heap.size, 0, none⟩ : Addr).add j) = some u := fun j u hu => by unfold fcs at hu; rw [Addr.add_mid, Nat.zero_add, World.cell?_alloc_at _ _ _ _ rfl]; simpa using hu
          clear hlb
          generalize w6.alloc (.cells #[.int .i64 f.kind, .int .i64 f.pos, .int .i64 f.lim, .slice rp f.rg.length rc, .slice bp f.byt.length bc, .int .u8 (bl f.tok 0), .int .u8 (bl f.tok 1), .int .u8 (bl f.tok 2), .int .u8 (bl f.tok 3), .int .u8 (bl f.tok 4), .int .u8 (bl f.tok 5), .int .u8 (bl f.tok 6), .int .u8 (bl f.tok 7)] 26) = w7 at M V_0 hD hFA hS hcl hsz7 ⊢
          generalize (⟨w6.heap.size, 0, none⟩ : Addr) = an at hcl ⊢
          obtain ⟨v, w8, hr, V_1, hgr, hob⟩ := run_append_OwnV (P := Try.prog) (ty := 32) Try.underlying32 frames_many rfl (by decide) V_0 an 1 1 (fcs f rp rc bp bc) rfl hcl (List.all_eq_true.1 (rfl : (fcs f rp rc bp bc).all (fun u => u.oneCell') = true)) (by unfold maxLen; omega) (by omega) (by omega)
          have hofA : Off (w7.heap.size :: B3 :: B1 :: B2 :: ob vp) w7 w8 := (Off.refl _ _).grown hgr (fun b hb => .inl (List.mem_cons_of_mem _ (List.mem_cons_of_mem _ (List.mem_cons_of_mem _ (List.mem_cons_of_mem _ ((ob_own _ _ _ _).1 hb))))))
          have hofM : Off (ob vp) w7 w8 := (Off.refl _ _).grown hgr (fun b hb => .inl ((ob_own _ _ _ _).1 hb))
          replace M := M.off hofM (fun x hx => by have h1 := hVlt x hx; omega) (fun q hq hx => by
            have h1 := hVlt _ hx
            rcases List.mem_cons.1 hq with rfl | hq
            · simp only at h1; omega
            · rcases List.mem_cons.1 hq with rfl | hq
              · simp only at h1; omega
              · obtain rfl := List.mem_singleton.1 hq
                simp only at h1; omega) ⟨hgr.os, hgr.tape, hgr.output⟩
          replace hD : ∀ d ∈ ds, FA (w7.heap.size :: B3 :: B1 :: B2 :: ob vp) w8 d.f d.rp d.rc d.bp d.bc := fun d hd => ((hD d hd).more w7.heap.size (Nat.le_refl _)).off hofA
          replace hFA := (hFA.more w7.heap.size (Nat.le_refl _)).off hofA
          replace hS := (hS.more w7.heap.size (Nat.le_refl _)).off hofA
          refine onlyH (i := 3) (some 19) rfl v (by kernel_rfl) rfl rfl (appendOp _ _ 32 _ _ _ rfl rfl rfl hr) M.below ?_
          simp only [aP, lI, l0, lS]
          obtain ⟨vp1, vc1, rfl⟩ := own_slice V_1
          have hsub : ∀ b ∈ B3 :: B1 :: B2 :: ob vp1, b ∈ w7.heap.size :: B3 :: B1 :: B2 :: ob vp := fun b hb => by
            rcases List.mem_cons.1 hb with rfl | hb
            · simp
            · rcases List.mem_cons.1 hb with rfl | hb
              · simp
              · rcases List.mem_cons.1 hb with rfl | hb
                · simp
                · rcases hob b ((ob_own _ _ _ _).2 hb) with h | h
                  · simp [(ob_own _ _ _ _).1 h]
                  · subst h; exact List.mem_cons_self
          clear hr hgr hob hofA hofM V_0 hcl
          replace M := M.swap
          refine doesH (i := 4) none rfl (by kernel_rfl) rfl rfl (storeAny (.slice vp1 (ds.length + 1) vc1) B1 0 32 _ _ rfl rfl rfl rfl rfl (M.isSome List.mem_cons_self 0 (by simp)) (M.free List.mem_cons_self 0 (by simp)) (by kernel_rfl)) (M.set 0 (by simp) _).below ?_
          simp only [Act.put]
          replace M := (M.set 0 (by simp) (.slice vp1 (ds.length + 1) vc1)).swap
          have hof := (Off.refl [B1] w8).set (b := B1) List.mem_cons_self 0 (.slice vp1 (ds.length + 1) vc1)
          replace V_1 := ownsRow_off V_1 hof (fun x hx e => by obtain rfl := List.mem_singleton.1 hx; have h1 := (World.ownsRow.lt V_1 _ e).1; omega)
          have hof2 : Off (w7.heap.size :: B3 :: B1 :: B2 :: ob vp) w8 _ := hof.mono (fun y hy => by obtain rfl := List.mem_singleton.1 hy; simp)
          replace hD : ∀ d ∈ ds, FA (w7.heap.size :: B3 :: B1 :: B2 :: ob vp) _ d.f d.rp d.rc d.bp d.bc := fun d hd => (hD d hd).off hof2
          replace hFA := hFA.off hof2
          replace hS := hS.off hof2
          clear hof hof2
          generalize w8.setCell ⟨B1, 0, none⟩ (.slice vp1 (ds.length + 1) vc1) = w9 at M V_1 hD hFA hS ⊢
          refine wpAnyH_done (by kernel_rfl) ?_ _
          first | show Exit.then _ _ _ _ _ | show Exit.inBlock _ _ _ _ _
          have e1 : (ds ++ [(⟨f, rp, rc, bp, bc⟩ : Dt)]).length = ds.length + 1 := by rw [List.length_append]; rfl
          have hI : DcJ w B3 B1 B2 b r (ds ++ [⟨f, rp, rc, bp, bc⟩]) p2 c2 vp1 vc1 w9 := by
            refine ⟨?_, by rw [e1]; omega, by rw [e1]; exact M, hS.less hsub, hc2, hn2, hrb, by omega, ?_, fun d hd => ?_⟩
            · rw [hdc, dc_one hkd hfp hfo, dck_one, e1, show 16 - (ds.length + 1) = m by omega, List.map_append]
              rfl
            · rw [e1, dcl_app]
              show World.ownsRow _ _ _ _ _ _ (dcl ds ++ (fcs f rp rc bp bc ++ []))
              rw [List.append_nil]
              exact V_1
            · rcases List.mem_append.1 hd with hd | hd
              · exact (hD d hd).less hsub
              · obtain rfl := List.mem_singleton.1 hd
                exact hFA.less hsub
          have HS := show Hid _ from (And.intro hI (show slen (cel w9 B1) = ds.length + 1 by rw [hI.slen, e1]))
          clear hI M V_1 hS hD hFA hsub hdc hfp hfo hkd hVlt hrb hc2 hn2 e1 hC
          go_wp2
          go_roundw
          case rel => first | exact ⟨r, ds ++ [⟨f, rp, rc, bp, bc⟩], p2, c2, vp1, vc1, HS.out.1⟩ | ((repeat apply Exists.intro); exact ⟨⟨r, ds ++ [⟨f, rp, rc, bp, bc⟩], p2, c2, vp1, vc1, HS.out.1⟩, rfl⟩)
          case measure => rw [HS.out.2, hslen]; omega
        · refine callPO (i := 1) (some 17) rfl rfl rfl (fun _ => by kernel_rfl) hC ?_
          rintro e w6 hR
          rcases hR with ⟨f, r, p2, c2, rp, rc, bp, bc, hkd, hfp, hfo, hrl, hrb, rfl, M', hof, hc2, hn2, hS', hFA⟩ | ⟨code, hcode, rfl, s6, M'⟩
          rotate_left
          · right
            refine ⟨_, rfl, ?_⟩
            have hA : dc 16 b = .error code := by rw [hdc, hcode m]; rfl
            exact ⟨B1, B2, _, _, rfl, rfl, rfl, M'.tail, code, rfl, hA⟩
          left
          clear M hS
          have M := M'
          have hS := hS'
          clear M' hS'
          replace V_0 := ownsRow_off V_0 hof (fun x hx e => by obtain rfl := List.mem_singleton.1 hx; have h1 := hVlt _ ((ob_own _ _ _ _).1 e); omega)
          replace hD : ∀ d ∈ ds, FA (B3 :: B1 :: B2 :: ob vp) w6 d.f d.rp d.rc d.bp d.bc := fun d hd => (hD d hd).off (hof.mono (fun y hy => by obtain rfl := List.mem_singleton.1 hy; simp))
          have hsz6 := hof.size
          clear hof
          refine ⟨_, rfl, ⟨M.below, ?_⟩⟩
          simp only [aP, lI, l0, lS]
          refine twoH 0 2 (by kernel_rfl) ?_ ?_
          · refine actO (i := 0) (some 16) rfl (.slice vp ds.length vc) rfl rfl (load1 32 _ ⟨B1, 0, none⟩ _ rfl rfl (fun _ => by kernel_rfl) (M.get (List.mem_cons_of_mem _ List.mem_cons_self) 0 _ rfl)) ?_
            refine ⟨M.below, ?_⟩
            simp only [aP, lI, l0, lS]
            have hlb := (Below.refl w6.heap.size w6).alloc (Nat.le_refl _) (.cells #[.int .i64 f.kind, .int .i64 f.pos, .int .i64 f.lim, .slice rp f.rg.length rc, .slice bp f.byt.length bc, .int .u8 (bl f.tok 0), .int .u8 (bl f.tok 1), .int .u8 (bl f.tok 2), .int .u8 (bl f.tok 3), .int .u8 (bl f.tok 4), .int .u8 (bl f.tok 5), .int .u8 (bl f.tok 6), .int .u8 (bl f.tok 7)] 26)
            refine onlyH (i := 2) (some 18) rfl (.slice (some ⟨w6.heap.size, 0, none⟩) 1 1) (by kernel_rfl) rfl rfl (by kernel_rfl) (M.call hlb).below ?_
            simp only [aP, lI, l0, lS]
            replace M := M.call hlb
            replace V_0 := ownsRow_low (X := []) V_0 (Off.of_below hlb) (fun _ h => by cases h)
            replace hD : ∀ d ∈ ds, FA (B3 :: B1 :: B2 :: ob vp) _ d.f d.rp d.rc d.bp d.bc := fun d hd => (hD d hd).off (Off.of_below hlb)
            replace hFA := hFA.off (Off.of_below hlb)
            replace hS := hS.off (Off.of_below hlb)
            have hsz7 := hlb.size
            have hcl : ∀ j u, (fcs f rp rc bp bc)[j]? = some u → (w6.alloc (.cells #[.int .i64 f.kind, .int .i64 f.pos, .int .i64 f.lim, .slice rp f.rg.length rc, .slice bp f.byt.length bc, .int .u8 (bl f.tok 0), .int .u8 (bl f.tok 1), .int .u8 (bl f.tok 2), .int .u8 (bl f.tok 3), .int .u8 (bl f.tok 4), .int .u8 (bl f.tok 5), .int .u8 (bl f.tok 6), .int .u8 (bl f.tok 7)] 26)).cell? ((⟨w6.heap.size, 0, none⟩ : Addr).add j) = some u := fun j u hu => by unfold fcs at hu; rw [Addr.add_mid, Nat.zero_add, World.cell?_alloc_at _ _ _ _ rfl]; simpa using hu
            clear hlb
            generalize w6.alloc (.cells #[.int .i64 f.kind, .int .i64 f.pos, .int .i64 f.lim, .slice rp f.rg.length rc, .slice bp f.byt.length bc, .int .u8 (bl f.tok 0), .int .u8 (bl f.tok 1), .int .u8 (bl f.tok 2), .int .u8 (bl f.tok 3), .int .u8 (bl f.tok 4), .int .u8 (bl f.tok 5), .int .u8 (bl f.tok 6), .int .u8 (bl f.tok 7)] 26) = w7 at M V_0 hD hFA hS hcl hsz7 ⊢
            generalize (⟨w6.heap.size, 0, none⟩ : Addr) = an at hcl ⊢
            obtain ⟨v, w8, hr, V_1, hgr, hob⟩ := run_append_OwnV (P := Try.prog) (ty := 32) Try.underlying32 frames_many rfl (by decide) V_0 an 1 1 (fcs f rp rc bp bc) rfl hcl (List.all_eq_true.1 (rfl : (fcs f rp rc bp bc).all (fun u => u.oneCell') = true)) (by unfold maxLen; omega) (by omega) (by omega)
            have hofA : Off (w7.heap.size :: B3 :: B1 :: B2 :: ob vp) w7 w8 := (Off.refl _ _).grown hgr (fun b hb => .inl (List.mem_cons_of_mem _ (List.mem_cons_of_mem _ (List.mem_cons_of_mem _ (List.mem_cons_of_mem _ ((ob_own _ _ _ _).1 hb))))))
            have hofM : Off (ob vp) w7 w8 := (Off.refl _ _).grown hgr (fun b hb => .inl ((ob_own _ _ _ _).1 hb))
            replace M := M.off hofM (fun x hx => by have h1 := hVlt x hx; omega) (fun q hq hx => by
              have h1 := hVlt _ hx
              rcases List.mem_cons.1 hq with rfl | hq
              · simp only at h1; omega
              · rcases List.mem_cons.1 hq with rfl | hq
                · simp only at h1; omega
                · obtain rfl := List.mem_singleton.1 hq
                  simp only at h1; omega) ⟨hgr.os, hgr.tape, hgr.output⟩
            replace hD : ∀ d ∈ ds, FA (w7.heap.size :: B3 :: B1 :: B2 :: ob vp) w8 d.f d.rp d.rc d.bp d.bc := fun d hd => ((hD d hd).more w7.heap.size (Nat.le_refl _)).off hofA
            replace hFA := (hFA.more w7.heap.size (Nat.le_refl _)).off hofA
            replace hS := (hS.more w7.heap.size (Nat.le_refl _)).off hofA
            refine onlyH (i := 3) (some 19) rfl v (by kernel_rfl) rfl rfl (appendOp _ _ 32 _ _ _ rfl rfl rfl hr) M.below ?_
            simp only [aP, lI, l0, lS]
            obtain ⟨vp1, vc1, rfl⟩ := own_slice V_1
            have hsub : ∀ b ∈ B3 :: B1 :: B2 :: ob vp1, b ∈ w7.heap.size :: B3 :: B1 :: B2 :: ob vp := fun b hb => by
              rcases List.mem_cons.1 hb with rfl | hb
              · simp
              · rcases List.mem_cons.1 hb with rfl | hb
                · simp
                · rcases List.mem_cons.1 hb with rfl | hb
                  · simp
                  · rcases hob b ((ob_own _ _ _ _).2 hb) with h | h
                    · simp [(ob_own _ _ _ _).1 h]
                    · subst h; exact List.mem_cons_self
            clear hr hgr hob hofA hofM V_0 hcl
            replace M := M.swap
            refine doesH (i := 4) none rfl (by kernel_rfl) rfl rfl (storeAny (.slice vp1 (ds.length + 1) vc1) B1 0 32 _ _ rfl rfl rfl rfl rfl (M.isSome List.mem_cons_self 0 (by simp)) (M.free List.mem_cons_self 0 (by simp)) (by kernel_rfl)) (M.set 0 (by simp) _).below ?_
            simp only [Act.put]
            replace M := (M.set 0 (by simp) (.slice vp1 (ds.length + 1) vc1)).swap
            have hof := (Off.refl [B1] w8).set (b := B1) List.mem_cons_self 0 (.slice vp1 (ds.length + 1) vc1)
            replace V_1 := ownsRow_off V_1 hof (fun x hx e => by obtain rfl := List.mem_singleton.1 hx; have h1 := (World.ownsRow.lt V_1 _ e).1; omega)
            have hof2 : Off (w7.heap.size :: B3 :: B1 :: B2 :: ob vp) w8 _ := hof.mono (fun y hy => by obtain rfl := List.mem_singleton.1 hy; simp)
            replace hD : ∀ d ∈ ds, FA (w7.heap.size :: B3 :: B1 :: B2 :: ob vp) _ d.f d.rp d.rc d.bp d.bc := fun d hd => (hD d hd).off hof2
            replace hFA := hFA.off hof2
            replace hS := hS.off hof2
            clear hof hof2
            generalize w8.setCell ⟨B1, 0, none⟩ (.slice vp1 (ds.length + 1) vc1) = w9 at M V_1 hD hFA hS ⊢
            refine wpAnyH_done (by kernel_rfl) ?_ _
            first | show Exit.then _ _ _ _ _ | show Exit.inBlock _ _ _ _ _
            have e1 : (ds ++ [(⟨f, rp, rc, bp, bc⟩ : Dt)]).length = ds.length + 1 := by rw [List.length_append]; rfl
            have hI : DcJ w B3 B1 B2 b r (ds ++ [⟨f, rp, rc, bp, bc⟩]) p2 c2 vp1 vc1 w9 := by
              refine ⟨?_, by rw [e1]; omega, by rw [e1]; exact M, hS.less hsub, hc2, hn2, hrb, by omega, ?_, fun d hd => ?_⟩
              · rw [hdc, dc_one hkd hfp hfo, dck_one, e1, show 16 - (ds.length + 1) = m by omega, List.map_append]
                rfl
              · rw [e1, dcl_app]
                show World.ownsRow _ _ _ _ _ _ (dcl ds ++ (fcs f rp rc bp bc ++ []))
                rw [List.append_nil]
                exact V_1
              · rcases List.mem_append.1 hd with hd | hd
                · exact (hD d hd).less hsub
                · obtain rfl := List.mem_singleton.1 hd
                  exact hFA.less hsub
            have HS := show Hid _ from (And.intro hI (show slen (cel w9 B1) = ds.length + 1 by rw [hI.slen, e1]))
            clear hI M V_1 hS hD hFA hsub hdc hfp hfo hkd hVlt hrb hc2 hn2 e1 hC
            go_wp2
            go_roundw
            case rel => first | exact ⟨r, ds ++ [⟨f, rp, rc, bp, bc⟩], p2, c2, vp1, vc1, HS.out.1⟩ | ((repeat apply Exists.intro); exact ⟨⟨r, ds ++ [⟨f, rp, rc, bp, bc⟩], p2, c2, vp1, vc1, HS.out.1⟩, rfl⟩)
            case measure => rw [HS.out.2, hslen]; omega
          · have hlb := (Below.refl w6.heap.size w6).alloc (Nat.le_refl _) (.cells #[.int .i64 f.kind, .int .i64 f.pos, .int .i64 f.lim, .slice rp f.rg.length rc, .slice bp f.byt.length bc, .int .u8 (bl f.tok 0), .int .u8 (bl f.tok 1), .int .u8 (bl f.tok 2), .int .u8 (bl f.tok 3), .int .u8 (bl f.tok 4), .int .u8 (bl f.tok 5), .int .u8 (bl f.tok 6), .int .u8 (bl f.tok 7)] 26)
            refine actO (w' := w6.alloc (.cells #[.int .i64 f.kind, .int .i64 f.pos, .int .i64 f.lim, .slice rp f.rg.length rc, .slice bp f.byt.length bc, .int .u8 (bl f.tok 0), .int .u8 (bl f.tok 1), .int .u8 (bl f.tok 2), .int .u8 (bl f.tok 3), .int .u8 (bl f.tok 4), .int .u8 (bl f.tok 5), .int .u8 (bl f.tok 6), .int .u8 (bl f.tok 7)] 26)) (i := 2) (some 18) rfl (.slice (some ⟨w6.heap.size, 0, none⟩) 1 1) rfl rfl (by kernel_rfl) ?_
            refine ⟨(M.call hlb).below, ?_⟩
            simp only [aP, lI, l0, lS]
            replace M := M.call hlb
            replace V_0 := ownsRow_low (X := []) V_0 (Off.of_below hlb) (fun _ h => by cases h)
            replace hD : ∀ d ∈ ds, FA (B3 :: B1 :: B2 :: ob vp) _ d.f d.rp d.rc d.bp d.bc := fun d hd => (hD d hd).off (Off.of_below hlb)
            replace hFA := hFA.off (Off.of_below hlb)
            replace hS := hS.off (Off.of_below hlb)
            have hsz7 := hlb.size
            have hcl : ∀ j u, (fcs f rp rc bp bc)[j]? = some u → (w6.alloc (.cells #[.int .i64 f.kind, .int .i64 f.pos, .int .i64 f.lim, .slice rp f.rg.length rc, .slice bp f.byt.length bc, .int .u8 (bl f.tok 0), .int .u8 (bl f.tok 1), .int .u8 (bl f.tok 2), .int .u8 (bl f.tok 3), .int .u8 (bl f.tok 4), .int .u8 (bl f.tok 5), .int .u8 (bl f.tok 6), .int .u8 (bl f.tok 7)] 26)).cell? ((⟨w6.heap.size, 0, none⟩ : Addr).add j) = some u := fun j u hu => by unfold fcs at hu; rw [Addr.add_mid, Nat.zero_add, World.cell?_alloc_at _ _ _ _ rfl]; simpa using hu
            clear hlb
            generalize w6.alloc (.cells #[.int .i64 f.kind, .int .i64 f.pos, .int .i64 f.lim, .slice rp f.rg.length rc, .slice bp f.byt.length bc, .int .u8 (bl f.tok 0), .int .u8 (bl f.tok 1), .int .u8 (bl f.tok 2), .int .u8 (bl f.tok 3), .int .u8 (bl f.tok 4), .int .u8 (bl f.tok 5), .int .u8 (bl f.tok 6), .int .u8 (bl f.tok 7)] 26) = w7 at M V_0 hD hFA hS hcl hsz7 ⊢
            generalize (⟨w6.heap.size, 0, none⟩ : Addr) = an at hcl ⊢
            refine onlyH (i := 0) (some 16) rfl (.slice vp ds.length vc) (by kernel_rfl) rfl rfl (load1 32 _ ⟨B1, 0, none⟩ _ rfl rfl (fun _ => by kernel_rfl) (M.get (List.mem_cons_of_mem _ List.mem_cons_self) 0 _ rfl)) M.below ?_
            simp only [aP, lI, l0, lS]
            obtain ⟨v, w8, hr, V_1, hgr, hob⟩ := run_append_OwnV (P := Try.prog) (ty := 32) Try.underlying32 frames_many rfl (by decide) V_0 an 1 1 (fcs f rp rc bp bc) rfl hcl (List.all_eq_true.1 (rfl : (fcs f rp rc bp bc).all (fun u => u.oneCell') = true)) (by unfold maxLen; omega) (by omega) (by omega)
            have hofA : Off (w7.heap.size :: B3 :: B1 :: B2 :: ob vp) w7 w8 := (Off.refl _ _).grown hgr (fun b hb => .inl (List.mem_cons_of_mem _ (List.mem_cons_of_mem _ (List.mem_cons_of_mem _ (List.mem_cons_of_mem _ ((ob_own _ _ _ _).1 hb))))))
            have hofM : Off (ob vp) w7 w8 := (Off.refl _ _).grown hgr (fun b hb => .inl ((ob_own _ _ _ _).1 hb))
            replace M := M.off hofM (fun x hx => by have h1 := hVlt x hx; omega) (fun q hq hx => by
              have h1 := hVlt _ hx
              rcases List.mem_cons.1 hq with rfl | hq
              · simp only at h1; omega
              · rcases List.mem_cons.1 hq with rfl | hq
                · simp only at h1; omega
                · obtain rfl := List.mem_singleton.1 hq
                  simp only at h1; omega) ⟨hgr.os, hgr.tape, hgr.output⟩
            replace hD : ∀ d ∈ ds, FA (w7.heap.size :: B3 :: B1 :: B2 :: ob vp) w8 d.f d.rp d.rc d.bp d.bc := fun d hd => ((hD d hd).more w7.heap.size (Nat.le_refl _)).off hofA
            replace hFA := (hFA.more w7.heap.size (Nat.le_refl _)).off hofA
            replace hS := (hS.more w7.heap.size (Nat.le_refl _)).off hofA
            refine onlyH (i := 3) (some 19) rfl v (by kernel_rfl) rfl rfl (appendOp _ _ 32 _ _ _ rfl rfl rfl hr) M.below ?_
            simp only [aP, lI, l0, lS]
            obtain ⟨vp1, vc1, rfl⟩ := own_slice V_1
            have hsub : ∀ b ∈ B3 :: B1 :: B2 :: ob vp1, b ∈ w7.heap.size :: B3 :: B1 :: B2 :: ob vp := fun b hb => by
              rcases List.mem_cons.1 hb with rfl | hb
              · simp
              · rcases List.mem_cons.1 hb with rfl | hb
                · simp
                · rcases List.mem_cons.1 hb with rfl | hb
                  · simp
                  · rcases hob b ((ob_own _ _ _ _).2 hb) with h | h
                    · simp [(ob_own _ _ _ _).1 h]
                    · subst h; exact List.mem_cons_self
            clear hr hgr hob hofA hofM V_0 hcl
            replace M := M.swap
            refine doesH (i := 4) none rfl (by kernel_rfl) rfl rfl (storeAny (.slice vp1 (ds.length + 1) vc1) B1 0 32 _ _ rfl rfl rfl rfl rfl (M.isSome List.mem_cons_self 0 (by simp)) (M.free List.mem_cons_self 0 (by simp)) (by kernel_rfl)) (M.set 0 (by simp) _).below ?_
            simp only [Act.put]
            replace M := (M.set 0 (by simp) (.slice vp1 (ds.length + 1) vc1)).swap
            have hof := (Off.refl [B1] w8).set (b := B1) List.mem_cons_self 0 (.slice vp1 (ds.length + 1) vc1)
            replace V_1 := ownsRow_off V_1 hof (fun x hx e => by obtain rfl := List.mem_singleton.1 hx; have h1 := (World.ownsRow.lt V_1 _ e).1; omega)
            have hof2 : Off (w7.heap.size :: B3 :: B1 :: B2 :: ob vp) w8 _ := hof.mono (fun y hy => by obtain rfl := List.mem_singleton.1 hy; simp)
            replace hD : ∀ d ∈ ds, FA (w7.heap.size :: B3 :: B1 :: B2 :: ob vp) _ d.f d.rp d.rc d.bp d.bc := fun d hd => (hD d hd).off hof2
            replace hFA := hFA.off hof2
            replace hS := hS.off hof2
            clear hof hof2
            generalize w8.setCell ⟨B1, 0, none⟩ (.slice vp1 (ds.length + 1) vc1) = w9 at M V_1 hD hFA hS ⊢
            refine wpAnyH_done (by kernel_rfl) ?_ _
            first | show Exit.then _ _ _ _ _ | show Exit.inBlock _ _ _ _ _
            have e1 : (ds ++ [(⟨f, rp, rc, bp, bc⟩ : Dt)]).length = ds.length + 1 := by rw [List.length_append]; rfl
            have hI : DcJ w B3 B1 B2 b r (ds ++ [⟨f, rp, rc, bp, bc⟩]) p2 c2 vp1 vc1 w9 := by
              refine ⟨?_, by rw [e1]; omega, by rw [e1]; exact M, hS.less hsub, hc2, hn2, hrb, by omega, ?_, fun d hd => ?_⟩
              · rw [hdc, dc_one hkd hfp hfo, dck_one, e1, show 16 - (ds.length + 1) = m by omega, List.map_append]
                rfl
              · rw [e1, dcl_app]
                show World.ownsRow _ _ _ _ _ _ (dcl ds ++ (fcs f rp rc bp bc ++ []))
                rw [List.append_nil]
                exact V_1
              · rcases List.mem_append.1 hd with hd | hd
                · exact (hD d hd).less hsub
                · obtain rfl := List.mem_singleton.1 hd
                  exact hFA.less hsub
            have HS := show Hid _ from (And.intro hI (show slen (cel w9 B1) = ds.length + 1 by rw [hI.slen, e1]))
            clear hI M V_1 hS hD hFA hsub hdc hfp hfo hkd hVlt hrb hc2 hn2 e1 hC
            go_wp2
            go_roundw
            case rel => first | exact ⟨r, ds ++ [⟨f, rp, rc, bp, bc⟩], p2, c2, vp1, vc1, HS.out.1⟩ | ((repeat apply Exists.intro); exact ⟨⟨r, ds ++ [⟨f, rp, rc, bp, bc⟩], p2, c2, vp1, vc1, HS.out.1⟩, rfl⟩)
            case measure => rw [HS.out.2, hslen]; omega

set_option maxRecDepth 10000 in
set_option maxHeartbeats 32000000 in
theorem vdecode_any : DecodeOK := by
  intro sp cap b w hlen hcap hnil hb hs
  have M := Mm.init w
  go_enter Try.func16, Try.ntmps16
  go_upto_region 0 with fail
  refine wp_region_list ?_
  refine readL (.slice none 0 0) rfl (by kernel_rfl) ?_
  simp only [aP, lI, l0, lS]
  refine readL (.int .i64 0) rfl (by kernel_rfl) ?_
  simp only [aP, lI, l0, lS]
  first | show Exit.then _ _ _ _ _ | show Exit.inBlock _ _ _ _ _
  by_cases h256 : 256 < b.length
  · go_upto_region 1 with fail
    refine wp_region_list ?_
    refine readL (.slice sp b.length cap) rfl (by kernel_rfl) ?_
    simp only [aP, lI, l0, lS]
    refine readL (.int .i64 ((b.length : Nat) : Int)) rfl (lenS _ 23 5 sp b.length cap rfl Try.underlying23 rfl _) ?_
    simp only [aP, lI, l0, lS]
    refine readL (.bool true) rfl (gtrI .i64 _ _ _ _ _ _ rfl rfl rfl true (decide_eq_true (by omega)) _) ?_
    simp only [aP, lI, l0, lS]
    first | show Exit.then _ _ _ _ _ | show Exit.inBlock _ _ _ _ _
    go_upto_region 2 with fail
    refine wp_region_list ?_
    refine readL (.slice none 0 0) rfl (by kernel_rfl) ?_
    simp only [aP, lI, l0, lS]
    refine readL (.int .i64 2) rfl (by kernel_rfl) ?_
    simp only [aP, lI, l0, lS]
    first | show Exit.then _ _ _ _ _ | show Exit.inBlock _ _ _ _ _
    have hA : de b = .error 2 := by unfold de; rw [if_pos h256]
    replace hA := show Hid _ from hA
    clear h256
    go_wp2
    go_ret2
    exact ⟨⟨none, 0, by rw [hA.out]; rfl, by rw [hA.out]; exact Nat.le_refl _, fun _ => rfl, by rw [hA.out]; exact Frs.nil _ _⟩, M.below⟩
  · go_upto_region 1 with fail
    refine wp_region_list ?_
    refine readL (.slice sp b.length cap) rfl (by kernel_rfl) ?_
    simp only [aP, lI, l0, lS]
    refine readL (.int .i64 ((b.length : Nat) : Int)) rfl (lenS _ 23 5 sp b.length cap rfl Try.underlying23 rfl _) ?_
    simp only [aP, lI, l0, lS]
    refine readL (.bool false) rfl (gtrI .i64 _ _ _ _ _ _ rfl rfl rfl false (decide_eq_false (by omega)) _) ?_
    simp only [aP, lI, l0, lS]
    first | show Exit.then _ _ _ _ _ | show Exit.inBlock _ _ _ _ _
    go_upto_region 3 with fail
    refine wp_region_list ?_
    refine readL (.slice sp b.length cap) rfl (by kernel_rfl) ?_
    simp only [aP, lI, l0, lS]
    refine callL rfl (fun _ => by kernel_rfl) (read_any sp cap b _ (by omega) hcap hnil hb hs) ?_
    rintro e w1 ⟨⟨p1, c1, rfl, h1, h2, h3⟩, l1⟩
    replace M := M.call l1
    clear l1
    refine ⟨_, rfl, ?_⟩
    simp only [aP, lI, l0, lS]
    refine readL (.slice p1 ((exL (dc 16 b)).length) c1) rfl (by kernel_rfl) ?_
    simp only [aP, lI, l0, lS]
    refine readL (.int .i64 (exE (dc 16 b))) rfl (by kernel_rfl) ?_
    simp only [aP, lI, l0, lS]
    refine readL (.slice p1 ((exL (dc 16 b)).length) c1) rfl (by kernel_rfl) ?_
    simp only [aP, lI, l0, lS]
    refine readL (.int .i64 (exE (dc 16 b))) rfl (by kernel_rfl) ?_
    simp only [aP, lI, l0, lS]
    first | show Exit.then _ _ _ _ _ | show Exit.inBlock _ _ _ _ _
    have hA : de b = dc 16 b := by unfold de; rw [if_neg h256]
    replace hA := show Hid _ from hA
    clear h256
    go_wp2
    go_ret2
    exact ⟨⟨p1, c1, by rw [hA.out]; rfl, by rw [hA.out]; exact h1, h2, by rw [hA.out]; exact h3⟩, M.below⟩
end Go.Proofs.Yteaamgjlkohfcaa

namespace Go.Proofs.Yteaamgjlkohfcaa
open Go.ChangeShapes Go.WideShapes Go.ChangeAt Go.WideMaps Go.WideElems Go.RowKit

/-- A number, if it is one. -/
def intAt : Option Value → Int
  | some (.int _ n) => n
  | _ => 0
/-- What a row of numbers reads as. -/
def litR {H : Type} (k : IntKind) (n : Nat) (f : Nat → Int) : DataW H := .agg ((List.range n).map fun j => .lit (.int k (f j)))
section
variable {H : Type} {enc : TypeId × Value → H} {P : Program} {w : World} {base : Nat} {sp : Nat → Bool} {held : Bool}
theorem open_row {t e : TypeId} {n : Nat} {k : IntKind} (hu : P.underlying t = some (.array n e)) (he : P.underlying e = some (.int k)) (hct : P.cellsOf t = n) (hce : P.cellsOf e = 1) {fuel : Nat} {cs : List Value} {x : DataW H × List MemPlace}
    (h : DataW.trod enc P w base sp held fuel t cs = some x) : ∃ f : Nat → Int, (∀ j, j < n → (Lit.int k (f j)).wf = true) ∧ cs = row k n f ∧ x = (litR k n f, []) := by
  obtain ⟨xs, m, _, hx, hl, hn, hel⟩ := DataW.trod_array hu h
  rw [hct] at hl
  have hcell : ∀ i, i < n → ∃ v, cs[i]? = some (.int k v) ∧ xs[i]? = some (.lit (.int k v), []) ∧ (Lit.int k v).wf = true := by
    intro i hi
    have e1 := hel i hi
    rw [hce, Nat.mul_one] at e1
    have hxi : i < xs.length := by omega
    rw [List.getElem?_eq_getElem hxi] at e1
    obtain ⟨v, e2, e3, e4⟩ := DataW.trod_int he e1
    refine ⟨v, ?_, by rw [List.getElem?_eq_getElem hxi, e3], e4⟩
    have hci : i < cs.length := by omega
    have e5 : (cs.drop i).take 1 = [cs[i]] := by rw [List.drop_eq_getElem_cons hci, List.take_succ_cons, List.take_zero]
    rw [e5] at e2
    rw [List.getElem?_eq_getElem hci]
    simpa using e2
  refine ⟨fun i => intAt cs[i]?, fun i hi => ?_, ?_, ?_⟩
  · obtain ⟨v, e1, _, e3⟩ := hcell i hi
    dsimp only
    rw [e1]; exact e3
  · refine List.ext_getElem? fun i => ?_
    by_cases hi : i < n
    · obtain ⟨v, e1, _, _⟩ := hcell i hi
      rw [row_get k n _ i hi, e1]; rfl
    · rw [List.getElem?_eq_none (by omega), List.getElem?_eq_none (by rw [row_length]; omega)]
  · rw [hx]
    congr 1
    · unfold litR
      congr 1
      refine List.ext_getElem? fun i => ?_
      by_cases hi : i < n
      · obtain ⟨v, e1, e2, _⟩ := hcell i hi
        rw [List.getElem?_map, e2, List.getElem?_map, List.getElem?_range hi]
        simp only [Option.map_some]
        rw [e1]
        rfl
      · rw [List.getElem?_eq_none (by simp [hn]; omega), List.getElem?_eq_none (by simp; omega)]
    · refine List.flatMap_eq_nil_iff.2 fun y hy => ?_
      obtain ⟨i, hi⟩ := List.mem_iff_getElem?.1 hy
      have hin : i < n := by have := (List.getElem?_eq_some_iff.1 hi).1; omega
      obtain ⟨v, _, e2, _⟩ := hcell i hin
      rw [e2] at hi
      rw [← Option.some.inj hi]
end
theorem wf_u8 {n : Int} : (Lit.int .u8 n).wf = true ↔ 0 ≤ n ∧ n < 256 := by
  simp [Lit.wf, IntKind.min, IntKind.max, IntKind.signed, IntKind.bits]
  omega
theorem wf_i64 {n : Int} : (Lit.int .i64 n).wf = true ↔ -9223372036854775808 ≤ n ∧ n ≤ 9223372036854775807 := by
  simp [Lit.wf, IntKind.min, IntKind.max, IntKind.signed, IntKind.bits]

end Go.Proofs.Yteaamgjlkohfcaa

namespace Go.Proofs.Yteaamgjlkohfcaa
open Go.ChangeShapes Go.WideShapes Go.ChangeAt Go.WideMaps Go.WideElems Go.RowKit

theorem own : ownKnob Try.prog.godebug = none := by kernel_rfl
theorem cellsByte : Try.prog.cellsOf 5 = 1 := by kernel_rfl
theorem laidOut : laidOutB Try.prog = true := by kernel_rfl
/-- What is asked of data that come in: their slices are not too long. -/
structure Fit (H : Type) (Q : TypeId → DataW H → Prop) : Prop where
  frame : ∀ l, Q 26 (.agg l) → (∀ d, l[3]? = some d → Q 22 d) ∧ ∀ d, l[4]? = some d → Q 23 d
  ranges : ∀ a b, Q 22 (.slice a b) → a.length ≤ 140737488351232
  bytes : ∀ a b, Q 23 (.slice a b) → a.length ≤ 140737488351232
  frames : ∀ a b, Q 32 (.slice a b) → a.length ≤ 140737488351232 ∧ ∀ d ∈ a, Q 26 d
section
variable {H : Type} {enc : TypeId × Value → H} {W : World} {Q : TypeId → DataW H → Prop}
theorem fieldsRange : (Try.prog.fieldsOf 43).toList.map (fun f => (f.type, f.offset)) = [(3, 0), (3, 1)] := by kernel_rfl
theorem fieldsFrame : (Try.prog.fieldsOf 26).toList.map (fun f => (f.type, f.offset)) = [(3, 0), (3, 1), (3, 2), (22, 3), (23, 4), (24, 5)] := by kernel_rfl
theorem field_of {fs : Array Field} {l : List (TypeId × Nat)} (h : fs.toList.map (fun f => (f.type, f.offset)) = l) (i : Nat) (t : TypeId) (o : Nat) (hi : l[i]? = some (t, o)) : ∃ f, fs[i]? = some f ∧ f.type = t ∧ f.offset = o := by
  rw [← h, List.getElem?_map] at hi
  obtain ⟨f, h1, h2⟩ := Option.map_eq_some_iff.1 hi
  injection h2 with h2 h3
  exact ⟨f, by simpa using h1, h2, h3⟩
theorem open_range {fuel : Nat} {cs : List Value} {x : DataW H × List MemPlace} (h : DataW.trod enc Try.prog W 0 (fun _ => true) true fuel 43 cs = some x) : ∃ a b : Int, cs = [.int .i64 a, .int .i64 b] := by
  obtain ⟨xs, n, _, _, hl, hlen, hf⟩ := DataW.trod_struct (fs := Try.prog.fieldsOf 43) (by kernel_rfl) h
  have h13 : Try.prog.cellsOf 43 = 2 := by kernel_rfl
  have hc1 : Try.prog.cellsOf 3 = 1 := by kernel_rfl
  have hs : xs.length = 2 := by rw [hlen]; kernel_rfl
  rw [h13] at hl
  match cs, hl with
  | [c0, c1], _ =>
    obtain ⟨f0, e0, t0, o0⟩ := field_of fieldsRange 0 3 0 rfl
    obtain ⟨f1, e1, t1, o1⟩ := field_of fieldsRange 1 3 1 rfl
    have g0 := hf 0 f0 e0
    have g1 := hf 1 f1 e1
    rw [t0, o0, hc1, List.getElem?_eq_getElem (by omega)] at g0
    rw [t1, o1, hc1, List.getElem?_eq_getElem (by omega)] at g1
    obtain ⟨a, q0, _, _⟩ := DataW.trod_int Try.underlying3 g0
    obtain ⟨b, q1, _, _⟩ := DataW.trod_int Try.underlying3 g1
    simp at q0 q1
    exact ⟨a, b, by rw [q0, q1]⟩
theorem open_ranges (F : Fit H Q) {fuel : Nat} {cs : List Value} {x : DataW H × List MemPlace} (h : DataW.trod enc Try.prog W 0 (fun _ => true) true fuel 22 cs = some x) (hq : Q 22 x.1) :
    ∃ (sp : Option Addr) (cap : Nat) (rs : List (Int × Int)), cs = [.slice sp rs.length cap] ∧ Rg W sp rs ∧ rs.length ≤ cap ∧ (sp = none → cap = 0) ∧ rs.length ≤ 140737488351232 := by
  rcases DataW.trod_slice Try.underlying22 h with ⟨rfl, rfl⟩ | ⟨a, len, cap, elems, rest, n, _, rfl, rfl, hb, hl, hm, hlen, hel, _, _⟩
  · exact ⟨none, 0, [], rfl, fun j hj => absurd hj (Nat.not_lt_zero j), Nat.le_refl _, fun _ => rfl, Nat.zero_le _⟩
  · have hc2 : Try.prog.cellsOf 43 = 2 := by kernel_rfl
    have hmax := F.ranges _ _ hq
    rw [List.length_map] at hmax
    have hcell : ∀ i, i < len → ∃ u v : Int, W.cell? (a.add (i * 2)) = some (.int .i64 u) ∧ W.cell? ((a.add (i * 2)).add 1) = some (.int .i64 v) := fun i hi => by
      have h1 := hel i hi
      rw [hc2, List.getElem?_eq_getElem (by omega)] at h1
      obtain ⟨cs, h2, h3⟩ := Option.bind_eq_some_iff.1 h1
      obtain ⟨u, v, rfl⟩ := open_range h3
      obtain ⟨_, _, h5⟩ := World.cells?_some h2
      have h6 := h5 0 (by decide)
      have h7 := h5 1 (by decide)
      exact ⟨u, v, by simpa [Addr.add] using h6, h7⟩
    refine ⟨some a, cap, (List.range len).map fun i => (intAt (W.cell? (a.add (i * 2))), intAt (W.cell? ((a.add (i * 2)).add 1))), by rw [List.length_map, List.length_range], fun j hj => ?_, by rw [List.length_map, List.length_range]; exact hl, fun e => (by cases e), by rw [List.length_map, List.length_range]; omega⟩
    rw [List.length_map, List.length_range] at hj
    obtain ⟨u, v, h1, h2⟩ := hcell j hj
    refine ⟨a, rfl, ?_, ?_⟩
    · unfold rgz
      rw [List.getD_eq_getElem?_getD, List.getElem?_map, List.getElem?_range hj]
      simp only [Option.map_some, Option.getD_some]
      rw [h1]
      rfl
    · unfold rgz
      rw [List.getD_eq_getElem?_getD, List.getElem?_map, List.getElem?_range hj]
      simp only [Option.map_some, Option.getD_some]
      rw [h2]
      rfl
theorem open_octets (F : Fit H Q) {fuel : Nat} {cs : List Value} {x : DataW H × List MemPlace} (h : DataW.trod enc Try.prog W 0 (fun _ => true) true fuel 23 cs = some x) (hq : Q 23 x.1) :
    ∃ (sp : Option Addr) (cap : Nat) (bs : List Int), cs = [.slice sp bs.length cap] ∧ Src W sp bs.length (bl bs) ∧ bs.length ≤ cap ∧ (sp = none → cap = 0) ∧ bs.length ≤ 140737488351232 ∧ Byts bs := by
  rcases open_ints Try.underlying23 Try.underlying5 cellsByte h with ⟨rfl, rfl⟩ | ⟨ad, len, cap, zs, rfl, _, hle, hmax, hall, rfl, hcell, hwf⟩
  · exact ⟨none, 0, [], rfl, fun j hj => absurd hj (Nat.not_lt_zero j), Nat.le_refl _, fun _ => rfl, Nat.zero_le _, fun x hx => (by cases hx)⟩
  · simp only [if_true] at hall
    have hm := F.bytes _ _ hq
    simp only [lits, List.length_map, List.length_take] at hm
    have hl : (zs.take len).length = len := by rw [List.length_take]; omega
    refine ⟨some ad, cap, zs.take len, by rw [hl], fun j hj => ⟨ad, rfl, ?_⟩, by rw [hl]; exact hle, fun e => (by cases e), by rw [hl]; omega, fun y hy => wf_u8.1 (hwf y (List.mem_of_mem_take hy))⟩
    rw [hl] at hj
    rw [bl_take _ _ _ hj]
    exact hcell j (by omega)
theorem i64_of {n : Int} (h : (Lit.int .i64 n).wf = true) : i64 n := by have := wf_i64.1 h; unfold i64; omega
theorem open_frame (F : Fit H Q) {fuel : Nat} {cs : List Value} {x : DataW H × List MemPlace} (h : DataW.trod enc Try.prog W 0 (fun _ => true) true fuel 26 cs = some x) (hq : Q 26 x.1) :
    ∃ (f : Frm) (rp : Option Addr) (rc : Nat) (bp : Option Addr) (bc : Nat), cs = fcs f rp rc bp bc ∧ FV W f rp rc bp bc := by
  obtain ⟨xs, n, _, hx, hl, hlen, hf⟩ := DataW.trod_struct (fs := Try.prog.fieldsOf 26) (by kernel_rfl) h
  have h13 : Try.prog.cellsOf 26 = 13 := by kernel_rfl
  have hc1 : Try.prog.cellsOf 3 = 1 := by kernel_rfl
  have hc2 : Try.prog.cellsOf 22 = 1 := by kernel_rfl
  have hc3 : Try.prog.cellsOf 23 = 1 := by kernel_rfl
  have hc8 : Try.prog.cellsOf 24 = 8 := by kernel_rfl
  have hs : xs.length = 6 := by rw [hlen]; kernel_rfl
  rw [h13] at hl
  rw [hx] at hq
  have hq2 := F.frame _ hq
  match cs, hl with
  | [c0, c1, c2, c3, c4, c5, c6, c7, c8, c9, c10, c11, c12], _ =>
    obtain ⟨f0, e0, t0, o0⟩ := field_of fieldsFrame 0 3 0 rfl
    obtain ⟨f1, e1, t1, o1⟩ := field_of fieldsFrame 1 3 1 rfl
    obtain ⟨f2, e2, t2, o2⟩ := field_of fieldsFrame 2 3 2 rfl
    obtain ⟨f3, e3, t3, o3⟩ := field_of fieldsFrame 3 22 3 rfl
    obtain ⟨f4, e4, t4, o4⟩ := field_of fieldsFrame 4 23 4 rfl
    obtain ⟨f5, e5, t5, o5⟩ := field_of fieldsFrame 5 24 5 rfl
    have g0 := hf 0 f0 e0
    have g1 := hf 1 f1 e1
    have g2 := hf 2 f2 e2
    have g3 := hf 3 f3 e3
    have g4 := hf 4 f4 e4
    have g5 := hf 5 f5 e5
    rw [t0, o0, hc1, List.getElem?_eq_getElem (by omega)] at g0
    rw [t1, o1, hc1, List.getElem?_eq_getElem (by omega)] at g1
    rw [t2, o2, hc1, List.getElem?_eq_getElem (by omega)] at g2
    rw [t3, o3, hc2, List.getElem?_eq_getElem (by omega)] at g3
    rw [t4, o4, hc3, List.getElem?_eq_getElem (by omega)] at g4
    rw [t5, o5, hc8, List.getElem?_eq_getElem (by omega)] at g5
    obtain ⟨k, q0, _, w0⟩ := DataW.trod_int Try.underlying3 g0
    obtain ⟨p, q1, _, w1⟩ := DataW.trod_int Try.underlying3 g1
    obtain ⟨l, q2, _, w2⟩ := DataW.trod_int Try.underlying3 g2
    obtain ⟨rp, rc, rs, q3, r1, r2, r3, r4⟩ := open_ranges F g3 (hq2.1 _ (by rw [List.getElem?_map, List.getElem?_eq_getElem (show 3 < xs.length by omega)]; rfl))
    obtain ⟨bp, bc, bs, q4, b1, b2, b3, b4, b5⟩ := open_octets F g4 (hq2.2 _ (by rw [List.getElem?_map, List.getElem?_eq_getElem (show 4 < xs.length by omega)]; rfl))
    obtain ⟨z, wz, q5, _⟩ := open_row Try.underlying24 Try.underlying5 hc8 cellsByte g5
    simp at q0 q1 q2 q3 q4
    have q6 : [c5, c6, c7, c8, c9, c10, c11, c12] = [.int .u8 (z 0), .int .u8 (z 1), .int .u8 (z 2), .int .u8 (z 3), .int .u8 (z 4), .int .u8 (z 5), .int .u8 (z 6), .int .u8 (z 7)] := q5
    simp only [List.cons.injEq, and_true] at q6
    obtain ⟨s0, s1, s2, s3, s4, s5, s6, s7⟩ := q6
    refine ⟨⟨k, p, l, rs, bs, [z 0, z 1, z 2, z 3, z 4, z 5, z 6, z 7]⟩, rp, rc, bp, bc, ?_, ⟨r1, r2, r3, r4, b1, b2, b3, b4, ⟨b5, fun y hy => ?_, rfl⟩, i64_of w0, i64_of w1, i64_of w2⟩⟩
    · rw [q0, q1, q2, q3, q4, s0, s1, s2, s3, s4, s5, s6, s7]
      rfl
    · have hz : ∀ j, j < 8 → 0 ≤ z j ∧ z j < 256 := fun j hj => wf_u8.1 (wz j hj)
      simp at hy
      rcases hy with rfl | rfl | rfl | rfl | rfl | rfl | rfl | rfl
      · exact hz 0 (by decide)
      · exact hz 1 (by decide)
      · exact hz 2 (by decide)
      · exact hz 3 (by decide)
      · exact hz 4 (by decide)
      · exact hz 5 (by decide)
      · exact hz 6 (by decide)
      · exact hz 7 (by decide)
end
/-- The first form's reach, the second form's bound. -/
def Wok {H : Type} (t : TypeId) (d : DataW H) : Prop := ∀ n ∈ d.weights Try.prog t, n ≤ reachBytes
theorem weights_all {H : Type} {P : Program} {e : TypeId} {d : DataW H} {n : Nat} (hn : n ∈ d.weights P e) : ∀ {l : List (DataW H)}, d ∈ l → n ∈ DataW.weightsAll P e l
  | x :: l, h => by
    simp only [DataW.weightsAll, List.mem_append]
    rcases List.mem_cons.1 h with rfl | h
    · exact .inl hn
    · exact .inr (weights_all hn h)
theorem fitWok (H : Type) : Fit H Wok where
  frame l h := by
    have hu : Try.prog.underlying 26 = some (.struct (Try.prog.fieldsOf 26)) := by kernel_rfl
    have ht : (Try.prog.fieldsOf 26).toList.map (·.type) = [3, 3, 3, 22, 23, 24] := by kernel_rfl
    have e : ∀ n ∈ DataW.weightsEach Try.prog [3, 3, 3, 22, 23, 24] l, n ≤ reachBytes := fun n hn => h n (by simp only [DataW.weights, hu, ht]; exact hn)
    exact ⟨fun d hd n hn => e n (DataW.weights_mem_each (j := 3) rfl hd n hn), fun d hd n hn => e n (DataW.weights_mem_each (j := 4) rfl hd n hn)⟩
  ranges a b h := by
    have h1 := h ((a.length + b.length) * Try.prog.bytesOf 43) (by simp only [DataW.weights, Try.underlying22]; exact List.mem_cons_self)
    rw [show Try.prog.bytesOf 43 = 16 by kernel_rfl] at h1
    simp only [reachBytes] at h1
    omega
  bytes a b h := by
    have h1 := h ((a.length + b.length) * Try.prog.bytesOf 5) (by simp only [DataW.weights, Try.underlying23]; exact List.mem_cons_self)
    rw [show Try.prog.bytesOf 5 = 1 by kernel_rfl] at h1
    simp only [reachBytes] at h1
    omega
  frames a b h := by
    have h1 := h ((a.length + b.length) * Try.prog.bytesOf 26) (by simp only [DataW.weights, Try.underlying32]; exact List.mem_cons_self)
    rw [show Try.prog.bytesOf 26 = 80 by kernel_rfl] at h1
    simp only [reachBytes] at h1
    refine ⟨by omega, fun d hd n hn => h n ?_⟩
    simp only [DataW.weights, Try.underlying32]
    exact List.mem_cons_of_mem _ (List.mem_append_left _ (weights_all hn hd))
section
variable {H : Type} {enc : TypeId × Value → H} {W : World} {Q : TypeId → DataW H → Prop}
/-- What came in is read again, whatever was made beside it. -/
theorem again {t : TypeId} (hr : Try.prog.readableRec t = true) (hrow : t < Try.prog.types.size) {v : Value} {d : DataW H} {p : List MemPlace} (h : DataW.Trod enc Try.prog W 0 (fun _ => true) true t v d p) (W' : World) (hb : Below W.heap.size W W') : DataW.Trod enc Try.prog W' 0 (fun b => decide (b < W.heap.size)) true t v d p :=
  hb.trod laidOut hr hrow h (by obtain ⟨fuel, hf⟩ := h; exact fun x hx => DataW.trod_lt _ _ _ _ hf x hx)
theorem arg_frame (F : Fit H Q) {r : Reach} {b0 : Nat} {v : Value} {d : DataW H} {p : List MemPlace} (hv : Value.okWide Try.prog W r b0 26 v) (h : DataW.Trod enc Try.prog W 0 (fun _ => true) true 26 v d p) (hq : Q 26 d) :
    ∃ (f : Frm) (rp : Option Addr) (rc : Nat) (bp : Option Addr) (bc : Nat), v = .agg (fcs f rp rc bp bc).toArray ∧ FV W f rp rc bp bc := by
  have hu : Try.prog.underlying 26 = some (.struct (Try.prog.fieldsOf 26)) := by kernel_rfl
  simp only [Value.okWide, hu] at hv
  obtain ⟨cs, rfl, _⟩ := hv
  obtain ⟨fuel, hf⟩ := h
  obtain ⟨f, rp, rc, bp, bc, h1, h2⟩ := open_frame F hf hq
  exact ⟨f, rp, rc, bp, bc, congrArg Value.agg (Array.toList_inj.1 h1), h2⟩
end
end Go.Proofs.Yteaamgjlkohfcaa
