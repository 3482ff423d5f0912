/- Texts of Qd Qe Qg My Zr Gw Gx Vx Vy Vz Vo Qf Qh Ob Qj Qm Qn, joined. -/
import Derived.Test.YteaamgjlkohfcaaP1FramesWrites
import Derived.Lib.AppendZerosOnto
import Derived.Deep.DeepAppendWide
import Derived.Deep.Cut
import Derived.Laws.BitsAllLaws
import Derived.Lib.SliceRun
namespace Go.Proofs.Yteaamgjlkohfcaa
open Go.RowKit

set_option maxRecDepth 10000 in
set_option maxHeartbeats 32000000 in
theorem rput_any (sp : Option Addr) (cap : Nat) (l : List Int) (hl : l.length ≤ 140737488351232) (hnil : sp = none → cap = 0) (n : Nat) (hn : n < 4611686018427387904) (w : World) (hs : Src w sp l.length (bl l)) :
    Calls Try.prog 33 #[.slice sp l.length cap, .int .i64 (n : Int)] w fun e w' => ∃ v, e = .returned v ∧ OwnL w' w.heap.size (l ++ vlst n) v ∧ Below w.heap.size w w' := by
  go_enter Try.func33, Try.ntmps33
  go_upto_region 1 with fail
  refine wp_region_list ?_
  refine readL (.slice sp l.length cap) rfl (by kernel_rfl) ?_
  simp only [aP, lI, l0, lS]
  refine readL (.int .i64 (n : Int)) rfl (by kernel_rfl) ?_
  simp only [aP, lI, l0, lS]
  refine callL rfl (fun _ => by kernel_rfl) (rputvar_good sp l.length cap hl hnil (bl l) n hn _ hs) ?_
  rintro e w1 ⟨v, rfl, hO, hB⟩
  have hO2 : OwnL w1 w.heap.size (l ++ vlst n) v := OwnL.put hO
  clear hO
  refine ⟨_, rfl, ?_⟩
  simp only [aP, lI, l0, lS]
  refine readL (.tuple #[v, .int .i64 0]) rfl (by kernel_rfl) ?_
  simp only [aP, lI, l0, lS]
  refine readL (v) rfl (by kernel_rfl) ?_
  simp only [aP, lI, l0, lS]
  refine readL (.int .i64 0) rfl (by kernel_rfl) ?_
  simp only [aP, lI, l0, lS]
  refine readL (v) rfl (by kernel_rfl) ?_
  simp only [aP, lI, l0, lS]
  refine readL (.int .i64 0) rfl (by kernel_rfl) ?_
  simp only [aP, lI, l0, lS]
  show Exit.then _ _ _ _ _
  go_upto_region 2 with fail
  refine wp_region_list ?_
  refine readL (v) rfl (by kernel_rfl) ?_
  simp only [aP, lI, l0, lS]
  refine readL (v) rfl (by kernel_rfl) ?_
  simp only [aP, lI, l0, lS]
  show Exit.then _ _ _ _ _
  go_wp2
  go_ret
  exact ⟨v, rfl, hO2, hB⟩

theorem fr_succ (l : List (Int × Int)) (fr : Int) (j : Nat) : fr_ l fr (j + 1) = (rgz l j).2 := by unfold fr_; rw [if_neg (by omega), Nat.add_sub_cancel]
theorem rok_drop (l : List (Int × Int)) (fr : Int) (ab : Bool) (up : Int) (h : rok l fr ab up = true) : ∀ j, j ≤ l.length → ∃ b, rok (l.drop j) (fr_ l fr j) b up = true
  | 0, _ => ⟨ab, h⟩
  | j + 1, hj => by
    obtain ⟨b, hb⟩ := rok_drop l fr ab up h j (by omega)
    rw [drop_rgz l j (by omega)] at hb
    rw [fr_succ]
    exact ⟨true, (rok_cons hb).2.2.2⟩
theorem rok_at {l : List (Int × Int)} {fr : Int} {ab : Bool} {up : Int} (h : rok l fr ab up = true) (h0 : 0 ≤ fr) : ∀ j, j < l.length → 0 ≤ fr_ l fr j ∧ fr_ l fr j ≤ (rgz l j).1 ∧ (rgz l j).1 < (rgz l j).2 ∧ (rgz l j).2 ≤ up
  | 0, hj => by
    obtain ⟨b, hb⟩ := rok_drop l fr ab up h 0 (by omega)
    rw [drop_rgz l 0 hj] at hb
    obtain ⟨q1, q2, q3, _⟩ := rok_cons hb
    exact ⟨h0, q1, q2, q3⟩
  | j + 1, hj => by
    obtain ⟨p1, p2, p3, p4⟩ := rok_at h h0 j (by omega)
    obtain ⟨b, hb⟩ := rok_drop l fr ab up h (j + 1) (by omega)
    rw [drop_rgz l (j + 1) hj] at hb
    obtain ⟨q1, q2, q3, _⟩ := rok_cons hb
    rw [fr_succ] at q1 ⊢
    exact ⟨by omega, q1, q2, q3⟩
theorem ren_snoc : ∀ (l : List (Int × Int)) (p : Int × Int) (fr : Int), ren (l ++ [p]) fr = ren l fr ++ (vlst (p.1 - fr_ l fr l.length).toNat ++ vlst (p.2 - p.1).toNat)
  | [], p, fr => by
    show vlst (p.1 - fr).toNat ++ (vlst (p.2 - p.1).toNat ++ []) = [] ++ (vlst (p.1 - fr).toNat ++ _)
    rw [List.append_nil, List.nil_append]
  | q :: l, p, fr => by
    show vlst (q.1 - fr).toNat ++ (vlst (q.2 - q.1).toNat ++ ren (l ++ [p]) q.2) = vlst (q.1 - fr).toNat ++ (vlst (q.2 - q.1).toNat ++ ren l q.2) ++ _
    rw [ren_snoc l p q.2]
    have e : fr_ (q :: l) fr (q :: l).length = fr_ l q.2 l.length := by
      rw [List.length_cons, fr_succ]
      cases l with
      | nil => rfl
      | cons x l =>
        rw [List.length_cons, fr_succ]
        rfl
    rw [e]
    simp only [List.append_assoc]
theorem take_rgz (l : List (Int × Int)) (j : Nat) (hj : j < l.length) : l.take (j + 1) = l.take j ++ [rgz l j] := by
  rw [List.take_succ_eq_append_getElem hj]
  unfold rgz
  rw [List.getD_eq_getElem?_getD, List.getElem?_eq_getElem hj]
  rfl
theorem fr_take (l : List (Int × Int)) (fr : Int) (j : Nat) (hj : j ≤ l.length) : fr_ (l.take j) fr (l.take j).length = fr_ l fr j := by
  rw [List.length_take, Nat.min_eq_left hj]
  unfold fr_
  split
  · rfl
  · unfold rgz
    rw [List.getD_eq_getElem?_getD, List.getD_eq_getElem?_getD, List.getElem?_take, if_pos (by omega)]
theorem ren_take (l : List (Int × Int)) (fr : Int) (j : Nat) (hj : j < l.length) : ren (l.take (j + 1)) fr = ren (l.take j) fr ++ (vlst ((rgz l j).1 - fr_ l fr j).toNat ++ vlst ((rgz l j).2 - (rgz l j).1).toNat) := by
  rw [take_rgz l j hj, ren_snoc, fr_take l fr j (by omega)]

set_option maxRecDepth 10000 in
set_option maxHeartbeats 32000000 in
theorem rone_any (f : Frm) (hok : Ok f) (rp : Option Addr) (rc : Nat) (bp : Option Addr) (bc : Nat) (w : World) (hf : FV w f rp rc bp bc) :
    Calls Try.prog 23 #[.agg (fcs f rp rc bp bc).toArray] w fun e w' => ∃ v, e = .returned v ∧ OwnL w' w.heap.size (fen f) v ∧ Below w.heap.size w w' := by
  cases hok using Ok.elim with
  | data a t h h1 h2 =>
    obtain ⟨n, rfl⟩ := Int.eq_ofNat_of_zero_le h.1
    show Calls Try.prog 23 #[.agg #[.int .i64 1, .int .i64 (n : Int), .int .i64 0, .slice rp 0 rc, .slice bp t.length bc, .int .u8 0, .int .u8 0, .int .u8 0, .int .u8 0, .int .u8 0, .int .u8 0, .int .u8 0, .int .u8 0]] w _
    have M := Mm.init w
    go_enter Try.func23, Try.ntmps23
    go_upto_region 0 with fail
    refine wp_region_list ?_
    refine actL (w' := w.alloc (.cells #[.int .i64 1, .int .i64 (n : Int), .int .i64 0, .slice rp 0 rc, .slice bp t.length bc, .int .u8 0, .int .u8 0, .int .u8 0, .int .u8 0, .int .u8 0, .int .u8 0, .int .u8 0, .int .u8 0] 26)) (.pointer (some ⟨w.heap.size, 0, none⟩)) rfl (by kernel_rfl) ?_
    simp only [aP, lI, l0, lS]
    replace M := M.box #[.int .i64 1, .int .i64 (n : Int), .int .i64 0, .slice rp 0 rc, .slice bp t.length bc, .int .u8 0, .int .u8 0, .int .u8 0, .int .u8 0, .int .u8 0, .int .u8 0, .int .u8 0, .int .u8 0] 26 w.heap.size rfl
    generalize w.alloc (.cells #[.int .i64 1, .int .i64 (n : Int), .int .i64 0, .slice rp 0 rc, .slice bp t.length bc, .int .u8 0, .int .u8 0, .int .u8 0, .int .u8 0, .int .u8 0, .int .u8 0, .int .u8 0, .int .u8 0] 26) = w1 at M ⊢
    generalize w.heap.size = B1 at *
    replace M : Mm w [(B1, [.int .i64 1, .int .i64 (n : Int), .int .i64 0, .slice rp 0 rc, .slice bp t.length bc, .int .u8 0, .int .u8 0, .int .u8 0, .int .u8 0, .int .u8 0, .int .u8 0, .int .u8 0, .int .u8 0])] w1 := M
    refine readL (.slice none 0 0) rfl (by kernel_rfl) ?_
    simp only [aP, lI, l0, lS]
    first | show Exit.then _ _ _ _ _ | show Exit.inBlock _ _ _ _ _
    go_upto_region 1 with fail
    refine wp_region_list ?_
    refine readL (.pointer (some ⟨B1, 0, none⟩)) rfl (by kernel_rfl) ?_
    simp only [aP, lI, l0, lS]
    refine readL (.int .i64 1) rfl (load1 3 _ ⟨B1, 0, none⟩ _ rfl rfl (fun _ => by kernel_rfl) (M.get List.mem_cons_self 0 _ rfl)) ?_
    simp only [aP, lI, l0, lS]
    refine readL (.int .u8 1) rfl (convI .i64 .u8 _ _ _ _ _ rfl (by kernel_rfl) Try.underlying5 (by kernel_rfl) rfl (by rw [IntKind.wrap_u8']; rfl) _) ?_
    simp only [aP, lI, l0, lS]
    refine actL (w' := w1.alloc (.cells #[.int .u8 1] 5)) (.slice (some ⟨w1.heap.size, 0, none⟩) 1 1) rfl (by kernel_rfl) ?_
    simp only [aP, lI, l0, lS]
    have O_2 : OwnL (w1.alloc (.cells #[.int .u8 1] 5)) (B1 + 1) [1] (.slice (some ⟨w1.heap.size, 0, none⟩) 1 1) := Own.lit w1 (B1 + 1) 5 .u8 1 (bl [1]) (M.lt List.mem_cons_self) (by unfold maxLen; omega)
    replace M := M.call ((Below.refl w1.heap.size w1).alloc (Nat.le_refl _) (.cells #[.int .u8 1] 5))
    generalize w1.alloc (.cells #[.int .u8 1] 5) = w2 at M O_2 ⊢
    generalize hp2 : (some ⟨w1.heap.size, 0, none⟩ : Option Addr) = p2 at O_2 ⊢
    clear hp2
    have hL2 : ([1] : List Int).length ≤ 1 := Nat.le_refl _
    refine readL (.slice p2 1 1) rfl (by kernel_rfl) ?_
    simp only [aP, lI, l0, lS]
    first | show Exit.then _ _ _ _ _ | show Exit.inBlock _ _ _ _ _
    go_upto_region 2 with fail
    refine wp_region_list ?_
    refine readL (.pointer (some ⟨B1, 0, none⟩)) rfl (by kernel_rfl) ?_
    simp only [aP, lI, l0, lS]
    refine readL (.int .i64 1) rfl (load1 3 _ ⟨B1, 0, none⟩ _ rfl rfl (fun _ => by kernel_rfl) (M.get List.mem_cons_self 0 _ rfl)) ?_
    simp only [aP, lI, l0, lS]
    refine readL (.bool false) rfl (eqlI .i64 _ _ _ _ _ _ rfl rfl rfl false (by decide) _) ?_
    simp only [aP, lI, l0, lS]
    refine readL (.bool false) rfl (by kernel_rfl) ?_
    simp only [aP, lI, l0, lS]
    refine readL (.pointer (some ⟨B1, 0, none⟩)) rfl (by kernel_rfl) ?_
    simp only [aP, lI, l0, lS]
    refine readL (.int .i64 1) rfl (load1 3 _ ⟨B1, 0, none⟩ _ rfl rfl (fun _ => by kernel_rfl) (M.get List.mem_cons_self 0 _ rfl)) ?_
    simp only [aP, lI, l0, lS]
    refine readL (.bool false) rfl (eqlI .i64 _ _ _ _ _ _ rfl rfl rfl false (by decide) _) ?_
    simp only [aP, lI, l0, lS]
    refine readL (.bool false) rfl (by kernel_rfl) ?_
    simp only [aP, lI, l0, lS]
    first | show Exit.then _ _ _ _ _ | show Exit.inBlock _ _ _ _ _
    go_upto_region 4 with fail
    refine wp_region_list ?_
    refine readL (.slice p2 1 1) rfl (by kernel_rfl) ?_
    simp only [aP, lI, l0, lS]
    refine readL (.pointer (some ⟨B1, 1, none⟩)) rfl (by kernel_rfl) ?_
    simp only [aP, lI, l0, lS]
    refine readL (.int .i64 (n : Int)) rfl (load1 3 _ ⟨B1, 1, none⟩ _ rfl rfl (fun _ => by kernel_rfl) (M.get List.mem_cons_self 1 _ rfl)) ?_
    simp only [aP, lI, l0, lS]
    refine callL rfl (fun _ => by kernel_rfl) (rput_any p2 1 ([1]) (by omega) O_2.nilCap n (by omega) _ O_2.src) ?_
    rintro e w3 ⟨v, rfl, O_3, l⟩
    replace O_3 := O_3.lower (base' := (B1 + 1)) (M.lt List.mem_cons_self)
    replace M := M.call l
    obtain ⟨p3, c3, rfl, _, _⟩ := O_3.bytes
    have hL3 : ([1] ++ vlst n).length ≤ 1 + 8 := by rw [List.length_append, vlst_length]; have := vsz_le n; omega
    clear l O_2
    refine ⟨_, rfl, ?_⟩
    simp only [aP, lI, l0, lS]
    refine readL (.slice p3 (([1] ++ vlst n).length) c3) rfl (by kernel_rfl) ?_
    simp only [aP, lI, l0, lS]
    first | show Exit.then _ _ _ _ _ | show Exit.inBlock _ _ _ _ _
    go_upto_region 5 with fail
    refine wp_region_list ?_
    refine readL (.pointer (some ⟨B1, 0, none⟩)) rfl (by kernel_rfl) ?_
    simp only [aP, lI, l0, lS]
    refine readL (.int .i64 1) rfl (load1 3 _ ⟨B1, 0, none⟩ _ rfl rfl (fun _ => by kernel_rfl) (M.get List.mem_cons_self 0 _ rfl)) ?_
    simp only [aP, lI, l0, lS]
    first | show Exit.then _ _ _ _ _ | show Exit.inBlock _ _ _ _ _
    go_upto_region 7 with fail
    refine wp_region_list ?_
    refine readL (.bool true) rfl (eqlI .i64 _ _ _ _ _ _ rfl rfl rfl true (by decide) _) ?_
    simp only [aP, lI, l0, lS]
    refine readL (.bool true) rfl (by kernel_rfl) ?_
    simp only [aP, lI, l0, lS]
    first | show Exit.then _ _ _ _ _ | show Exit.inBlock _ _ _ _ _
    go_upto_region 8 with fail
    refine wp_region_held_drew (S := fun w' => Mm w [(B1, [.int .i64 1, .int .i64 (n : Int), .int .i64 0, .slice rp 0 rc, .slice bp t.length bc, .int .u8 0, .int .u8 0, .int .u8 0, .int .u8 0, .int .u8 0, .int .u8 0, .int .u8 0, .int .u8 0])] w') (by kernel_rfl) M.drew ?_
    clear M
    intro M
    replace O_3 := O_3.drew
    generalize w3.drew = w4 at M O_3 ⊢
    refine readH (i := 0) (some 31) rfl (.slice p3 (([1] ++ vlst n).length) c3) rfl rfl (fun _ M => (by kernel_rfl)) (by kernel_rfl) (by kernel_rfl) (by kernel_rfl) (fun _ _ _ h => h) M ?_
    simp only [aP, lI, l0, lS]
    refine readH (i := 1) (some 32) rfl (.pointer (some ⟨B1, 4, none⟩)) rfl rfl (fun _ M => (by kernel_rfl)) (by kernel_rfl) (by kernel_rfl) (by kernel_rfl) (fun _ _ _ h => h) M ?_
    simp only [aP, lI, l0, lS]
    refine readH (i := 2) (some 33) rfl (.slice bp t.length bc) rfl rfl (fun _ M => load1 23 _ ⟨B1, 4, none⟩ _ rfl rfl (fun _ => by kernel_rfl) (M.get List.mem_cons_self 4 _ rfl)) (by kernel_rfl) (by kernel_rfl) (by kernel_rfl) (fun _ _ _ h => h) M ?_
    simp only [aP, lI, l0, lS]
    refine readH (i := 3) (some 34) rfl (.int .i64 ((t.length : Nat) : Int)) rfl rfl (fun _ M => lenS _ 23 5 bp t.length bc rfl Try.underlying23 rfl _) (by kernel_rfl) (by kernel_rfl) (by kernel_rfl) (fun _ _ _ h => h) M ?_
    simp only [aP, lI, l0, lS]
    refine readH (i := 5) (some 36) rfl (.pointer (some ⟨B1, 4, none⟩)) rfl rfl (fun _ M => (by kernel_rfl)) (by kernel_rfl) (by kernel_rfl) (by kernel_rfl) (fun _ _ _ h => h) M ?_
    simp only [aP, lI, l0, lS]
    refine readH (i := 6) (some 37) rfl (.slice bp t.length bc) rfl rfl (fun _ M => load1 23 _ ⟨B1, 4, none⟩ _ rfl rfl (fun _ => by kernel_rfl) (M.get List.mem_cons_self 4 _ rfl)) (by kernel_rfl) (by kernel_rfl) (by kernel_rfl) (fun _ _ _ h => h) M ?_
    simp only [aP, lI, l0, lS]
    refine callH (i := 4) (some 35) rfl (by kernel_rfl) rfl rfl (fun _ => by kernel_rfl) (rput_any p3 c3 ([1] ++ vlst n) (by omega) O_3.nilCap t.length (by omega) _ O_3.src) ?_
    rintro e w5 ⟨v, rfl, O_5, l⟩
    replace O_5 := O_5.lower (base' := (B1 + 1)) (M.lt List.mem_cons_self)
    replace M := M.call l
    obtain ⟨p5, c5, rfl, _, _⟩ := O_5.bytes
    have hL5 : ([1] ++ vlst n ++ vlst t.length).length ≤ 1 + 8 + 8 := by rw [List.length_append, vlst_length]; have := vsz_le t.length; omega
    clear l O_3
    refine ⟨_, rfl, M, ?_⟩
    simp only [aP, lI, l0, lS]
    obtain ⟨v, w6, hr, O_6, hgr, _⟩ := run_append_Own (P := Try.prog) (ty := 23) Try.underlying23 one8 O_5 bp t.length bc (bl t) (hf.src.below M.below (Nat.le_refl _)) hf.bnil (by unfold maxLen; omega) (by omega) (M.lt List.mem_cons_self)
    replace M := M.grown hgr (B1 + 1) (fun p hp => by obtain rfl := List.mem_singleton.1 hp; exact Nat.lt_succ_self _) (Nat.le_succ_of_le (M.lo List.mem_cons_self)) (M.lt List.mem_cons_self) (fun b hb => (World.ownsRow.lt O_5 b hb).1)
    replace O_6 : OwnL w6 (B1 + 1) ([1] ++ vlst n ++ vlst t.length ++ t) v := OwnL.app O_6
    refine actH (i := 7) (some 38) rfl v (by kernel_rfl) rfl rfl (appendOp _ _ 23 _ _ _ rfl rfl rfl hr) M ?_
    simp only [aP, lI, l0, lS]
    clear hr hgr O_5
    obtain ⟨p6, c6, rfl, _, _⟩ := O_6.bytes
    refine readH (i := 8) (some 2) rfl (.slice p6 (([1] ++ vlst n ++ vlst t.length ++ t).length) c6) rfl rfl (fun _ M => (by kernel_rfl)) (by kernel_rfl) (by kernel_rfl) (by kernel_rfl) (fun _ _ _ h => h) M ?_
    simp only [aP, lI, l0, lS]
    refine wpAnyH_done (by kernel_rfl) ?_ _
    first | show Exit.then _ _ _ _ _ | show Exit.inBlock _ _ _ _ _
    have hA := show Hid (([1] ++ vlst n ++ vlst t.length ++ t) = fen ⟨1, (n : Int), 0, [], t, z8⟩) from (by show [1] ++ vlst n ++ vlst t.length ++ t = 1 :: (vlst n ++ (vlst t.length ++ t)); simp only [List.append_assoc, List.cons_append, List.nil_append])
    go_wp2
    go_ret
    exact ⟨_, rfl, by rw [← hA.out]; exact O_6.lower (Nat.le_succ_of_le (M.lo List.mem_cons_self)), M.below⟩
  | tok k t hk =>
    rcases hk with rfl | rfl
    · show Calls Try.prog 23 #[.agg #[.int .i64 3, .int .i64 0, .int .i64 0, .slice rp 0 rc, .slice bp 0 bc, .int .u8 (bl t 0), .int .u8 (bl t 1), .int .u8 (bl t 2), .int .u8 (bl t 3), .int .u8 (bl t 4), .int .u8 (bl t 5), .int .u8 (bl t 6), .int .u8 (bl t 7)]] w _
      have M := Mm.init w
      go_enter Try.func23, Try.ntmps23
      go_upto_region 0 with fail
      refine wp_region_list ?_
      refine actL (w' := w.alloc (.cells #[.int .i64 3, .int .i64 0, .int .i64 0, .slice rp 0 rc, .slice bp 0 bc, .int .u8 (bl t 0), .int .u8 (bl t 1), .int .u8 (bl t 2), .int .u8 (bl t 3), .int .u8 (bl t 4), .int .u8 (bl t 5), .int .u8 (bl t 6), .int .u8 (bl t 7)] 26)) (.pointer (some ⟨w.heap.size, 0, none⟩)) rfl (by kernel_rfl) ?_
      simp only [aP, lI, l0, lS]
      replace M := M.box #[.int .i64 3, .int .i64 0, .int .i64 0, .slice rp 0 rc, .slice bp 0 bc, .int .u8 (bl t 0), .int .u8 (bl t 1), .int .u8 (bl t 2), .int .u8 (bl t 3), .int .u8 (bl t 4), .int .u8 (bl t 5), .int .u8 (bl t 6), .int .u8 (bl t 7)] 26 w.heap.size rfl
      generalize w.alloc (.cells #[.int .i64 3, .int .i64 0, .int .i64 0, .slice rp 0 rc, .slice bp 0 bc, .int .u8 (bl t 0), .int .u8 (bl t 1), .int .u8 (bl t 2), .int .u8 (bl t 3), .int .u8 (bl t 4), .int .u8 (bl t 5), .int .u8 (bl t 6), .int .u8 (bl t 7)] 26) = w1 at M ⊢
      generalize w.heap.size = B1 at *
      replace M : Mm w [(B1, [.int .i64 3, .int .i64 0, .int .i64 0, .slice rp 0 rc, .slice bp 0 bc, .int .u8 (bl t 0), .int .u8 (bl t 1), .int .u8 (bl t 2), .int .u8 (bl t 3), .int .u8 (bl t 4), .int .u8 (bl t 5), .int .u8 (bl t 6), .int .u8 (bl t 7)])] w1 := M
      refine readL (.slice none 0 0) rfl (by kernel_rfl) ?_
      simp only [aP, lI, l0, lS]
      first | show Exit.then _ _ _ _ _ | show Exit.inBlock _ _ _ _ _
      go_upto_region 1 with fail
      refine wp_region_list ?_
      refine readL (.pointer (some ⟨B1, 0, none⟩)) rfl (by kernel_rfl) ?_
      simp only [aP, lI, l0, lS]
      refine readL (.int .i64 3) rfl (load1 3 _ ⟨B1, 0, none⟩ _ rfl rfl (fun _ => by kernel_rfl) (M.get List.mem_cons_self 0 _ rfl)) ?_
      simp only [aP, lI, l0, lS]
      refine readL (.int .u8 3) rfl (convI .i64 .u8 _ _ _ _ _ rfl (by kernel_rfl) Try.underlying5 (by kernel_rfl) rfl (by rw [IntKind.wrap_u8']; rfl) _) ?_
      simp only [aP, lI, l0, lS]
      refine actL (w' := w1.alloc (.cells #[.int .u8 3] 5)) (.slice (some ⟨w1.heap.size, 0, none⟩) 1 1) rfl (by kernel_rfl) ?_
      simp only [aP, lI, l0, lS]
      have O_2 : OwnL (w1.alloc (.cells #[.int .u8 3] 5)) (B1 + 1) [3] (.slice (some ⟨w1.heap.size, 0, none⟩) 1 1) := Own.lit w1 (B1 + 1) 5 .u8 1 (bl [3]) (M.lt List.mem_cons_self) (by unfold maxLen; omega)
      replace M := M.call ((Below.refl w1.heap.size w1).alloc (Nat.le_refl _) (.cells #[.int .u8 3] 5))
      generalize w1.alloc (.cells #[.int .u8 3] 5) = w2 at M O_2 ⊢
      generalize hp2 : (some ⟨w1.heap.size, 0, none⟩ : Option Addr) = p2 at O_2 ⊢
      clear hp2
      have hL2 : ([3] : List Int).length ≤ 1 := Nat.le_refl _
      refine readL (.slice p2 1 1) rfl (by kernel_rfl) ?_
      simp only [aP, lI, l0, lS]
      first | show Exit.then _ _ _ _ _ | show Exit.inBlock _ _ _ _ _
      go_upto_region 2 with fail
      refine wp_region_list ?_
      refine readL (.pointer (some ⟨B1, 0, none⟩)) rfl (by kernel_rfl) ?_
      simp only [aP, lI, l0, lS]
      refine readL (.int .i64 3) rfl (load1 3 _ ⟨B1, 0, none⟩ _ rfl rfl (fun _ => by kernel_rfl) (M.get List.mem_cons_self 0 _ rfl)) ?_
      simp only [aP, lI, l0, lS]
      refine readL (.bool true) rfl (eqlI .i64 _ _ _ _ _ _ rfl rfl rfl true (by decide) _) ?_
      simp only [aP, lI, l0, lS]
      refine readL (.bool true) rfl (by kernel_rfl) ?_
      simp only [aP, lI, l0, lS]
      with_reducible refine skipL ?_ ?_
      · rfl
      simp only [aP, lI, l0, lS]
      with_reducible refine skipL ?_ ?_
      · rfl
      simp only [aP, lI, l0, lS]
      with_reducible refine skipL ?_ ?_
      · rfl
      simp only [aP, lI, l0, lS]
      refine readL (.bool true) rfl (by kernel_rfl) ?_
      simp only [aP, lI, l0, lS]
      first | show Exit.then _ _ _ _ _ | show Exit.inBlock _ _ _ _ _
      have tok_src : ∀ {w' : World}, Mm w [(B1, [.int .i64 3, .int .i64 0, .int .i64 0, .slice rp 0 rc, .slice bp 0 bc, .int .u8 (bl t 0), .int .u8 (bl t 1), .int .u8 (bl t 2), .int .u8 (bl t 3), .int .u8 (bl t 4), .int .u8 (bl t 5), .int .u8 (bl t 6), .int .u8 (bl t 7)])] w' → Src w' (some ⟨B1, 5, none⟩) 8 (bl t) := fun M j hj => ⟨_, rfl, by
        rw [Addr.add_mid]
        refine M.get List.mem_cons_self (5 + j) _ ?_
        have : j = 0 ∨ j = 1 ∨ j = 2 ∨ j = 3 ∨ j = 4 ∨ j = 5 ∨ j = 6 ∨ j = 7 := by omega
        rcases this with rfl | rfl | rfl | rfl | rfl | rfl | rfl | rfl <;> rfl⟩
      have h8 : t.length = 8 := hf.wf.eight
      go_upto_region 3 with fail
      go_upto_region 3 with fail
      refine wp_region_list ?_
      refine readL (.slice p2 1 1) rfl (by kernel_rfl) ?_
      simp only [aP, lI, l0, lS]
      refine readL (.pointer (some ⟨B1, 5, none⟩)) rfl (by kernel_rfl) ?_
      simp only [aP, lI, l0, lS]
      refine readL (.slice (some ⟨B1, 5, none⟩) 8 8) rfl (cutAll 24 _ _ _ rfl rfl (by kernel_rfl)) ?_
      simp only [aP, lI, l0, lS]
      obtain ⟨v, w3, hr, O_3, hgr, _⟩ := run_append_Own (P := Try.prog) (ty := 23) Try.underlying23 one8 O_2 (some ⟨B1, 5, none⟩) 8 8 (bl t) (tok_src M) (fun e => by cases e) (by unfold maxLen; omega) (by omega) (M.lt List.mem_cons_self)
      replace M := M.grown hgr (B1 + 1) (fun p hp => by obtain rfl := List.mem_singleton.1 hp; exact Nat.lt_succ_self _) (Nat.le_succ_of_le (M.lo List.mem_cons_self)) (M.lt List.mem_cons_self) (fun b hb => (World.ownsRow.lt O_2 b hb).1)
      rw [show (8 : Nat) = t.length from h8.symm] at O_3
      replace O_3 : OwnL w3 (B1 + 1) ([3] ++ t) v := OwnL.app O_3
      refine actL v rfl (appendOp _ _ 23 _ _ _ rfl rfl rfl hr) ?_
      simp only [aP, lI, l0, lS]
      clear hr hgr O_2
      obtain ⟨p3, c3, rfl, _, _⟩ := O_3.bytes
      refine readL (.slice p3 (([3] ++ t).length) c3) rfl (by kernel_rfl) ?_
      simp only [aP, lI, l0, lS]
      first | show Exit.then _ _ _ _ _ | show Exit.inBlock _ _ _ _ _
      have hA := show Hid (([3] ++ t) = fen ⟨3, 0, 0, [], [], t⟩) from (by show [3] ++ t = 3 :: t; rfl)
      go_wp2
      go_ret
      exact ⟨_, rfl, by rw [← hA.out]; exact O_3.lower (Nat.le_succ_of_le (M.lo List.mem_cons_self)), M.below⟩
    · show Calls Try.prog 23 #[.agg #[.int .i64 4, .int .i64 0, .int .i64 0, .slice rp 0 rc, .slice bp 0 bc, .int .u8 (bl t 0), .int .u8 (bl t 1), .int .u8 (bl t 2), .int .u8 (bl t 3), .int .u8 (bl t 4), .int .u8 (bl t 5), .int .u8 (bl t 6), .int .u8 (bl t 7)]] w _
      have M := Mm.init w
      go_enter Try.func23, Try.ntmps23
      go_upto_region 0 with fail
      refine wp_region_list ?_
      refine actL (w' := w.alloc (.cells #[.int .i64 4, .int .i64 0, .int .i64 0, .slice rp 0 rc, .slice bp 0 bc, .int .u8 (bl t 0), .int .u8 (bl t 1), .int .u8 (bl t 2), .int .u8 (bl t 3), .int .u8 (bl t 4), .int .u8 (bl t 5), .int .u8 (bl t 6), .int .u8 (bl t 7)] 26)) (.pointer (some ⟨w.heap.size, 0, none⟩)) rfl (by kernel_rfl) ?_
      simp only [aP, lI, l0, lS]
      replace M := M.box #[.int .i64 4, .int .i64 0, .int .i64 0, .slice rp 0 rc, .slice bp 0 bc, .int .u8 (bl t 0), .int .u8 (bl t 1), .int .u8 (bl t 2), .int .u8 (bl t 3), .int .u8 (bl t 4), .int .u8 (bl t 5), .int .u8 (bl t 6), .int .u8 (bl t 7)] 26 w.heap.size rfl
      generalize w.alloc (.cells #[.int .i64 4, .int .i64 0, .int .i64 0, .slice rp 0 rc, .slice bp 0 bc, .int .u8 (bl t 0), .int .u8 (bl t 1), .int .u8 (bl t 2), .int .u8 (bl t 3), .int .u8 (bl t 4), .int .u8 (bl t 5), .int .u8 (bl t 6), .int .u8 (bl t 7)] 26) = w1 at M ⊢
      generalize w.heap.size = B1 at *
      replace M : Mm w [(B1, [.int .i64 4, .int .i64 0, .int .i64 0, .slice rp 0 rc, .slice bp 0 bc, .int .u8 (bl t 0), .int .u8 (bl t 1), .int .u8 (bl t 2), .int .u8 (bl t 3), .int .u8 (bl t 4), .int .u8 (bl t 5), .int .u8 (bl t 6), .int .u8 (bl t 7)])] w1 := M
      refine readL (.slice none 0 0) rfl (by kernel_rfl) ?_
      simp only [aP, lI, l0, lS]
      first | show Exit.then _ _ _ _ _ | show Exit.inBlock _ _ _ _ _
      go_upto_region 1 with fail
      refine wp_region_list ?_
      refine readL (.pointer (some ⟨B1, 0, none⟩)) rfl (by kernel_rfl) ?_
      simp only [aP, lI, l0, lS]
      refine readL (.int .i64 4) rfl (load1 3 _ ⟨B1, 0, none⟩ _ rfl rfl (fun _ => by kernel_rfl) (M.get List.mem_cons_self 0 _ rfl)) ?_
      simp only [aP, lI, l0, lS]
      refine readL (.int .u8 4) rfl (convI .i64 .u8 _ _ _ _ _ rfl (by kernel_rfl) Try.underlying5 (by kernel_rfl) rfl (by rw [IntKind.wrap_u8']; rfl) _) ?_
      simp only [aP, lI, l0, lS]
      refine actL (w' := w1.alloc (.cells #[.int .u8 4] 5)) (.slice (some ⟨w1.heap.size, 0, none⟩) 1 1) rfl (by kernel_rfl) ?_
      simp only [aP, lI, l0, lS]
      have O_2 : OwnL (w1.alloc (.cells #[.int .u8 4] 5)) (B1 + 1) [4] (.slice (some ⟨w1.heap.size, 0, none⟩) 1 1) := Own.lit w1 (B1 + 1) 5 .u8 1 (bl [4]) (M.lt List.mem_cons_self) (by unfold maxLen; omega)
      replace M := M.call ((Below.refl w1.heap.size w1).alloc (Nat.le_refl _) (.cells #[.int .u8 4] 5))
      generalize w1.alloc (.cells #[.int .u8 4] 5) = w2 at M O_2 ⊢
      generalize hp2 : (some ⟨w1.heap.size, 0, none⟩ : Option Addr) = p2 at O_2 ⊢
      clear hp2
      have hL2 : ([4] : List Int).length ≤ 1 := Nat.le_refl _
      refine readL (.slice p2 1 1) rfl (by kernel_rfl) ?_
      simp only [aP, lI, l0, lS]
      first | show Exit.then _ _ _ _ _ | show Exit.inBlock _ _ _ _ _
      go_upto_region 2 with fail
      refine wp_region_list ?_
      refine readL (.pointer (some ⟨B1, 0, none⟩)) rfl (by kernel_rfl) ?_
      simp only [aP, lI, l0, lS]
      refine readL (.int .i64 4) rfl (load1 3 _ ⟨B1, 0, none⟩ _ rfl rfl (fun _ => by kernel_rfl) (M.get List.mem_cons_self 0 _ rfl)) ?_
      simp only [aP, lI, l0, lS]
      refine readL (.bool false) rfl (eqlI .i64 _ _ _ _ _ _ rfl rfl rfl false (by decide) _) ?_
      simp only [aP, lI, l0, lS]
      refine readL (.bool false) rfl (by kernel_rfl) ?_
      simp only [aP, lI, l0, lS]
      refine readL (.pointer (some ⟨B1, 0, none⟩)) rfl (by kernel_rfl) ?_
      simp only [aP, lI, l0, lS]
      refine readL (.int .i64 4) rfl (load1 3 _ ⟨B1, 0, none⟩ _ rfl rfl (fun _ => by kernel_rfl) (M.get List.mem_cons_self 0 _ rfl)) ?_
      simp only [aP, lI, l0, lS]
      refine readL (.bool true) rfl (eqlI .i64 _ _ _ _ _ _ rfl rfl rfl true (by decide) _) ?_
      simp only [aP, lI, l0, lS]
      refine readL (.bool true) rfl (by kernel_rfl) ?_
      simp only [aP, lI, l0, lS]
      first | show Exit.then _ _ _ _ _ | show Exit.inBlock _ _ _ _ _
      have tok_src : ∀ {w' : World}, Mm w [(B1, [.int .i64 4, .int .i64 0, .int .i64 0, .slice rp 0 rc, .slice bp 0 bc, .int .u8 (bl t 0), .int .u8 (bl t 1), .int .u8 (bl t 2), .int .u8 (bl t 3), .int .u8 (bl t 4), .int .u8 (bl t 5), .int .u8 (bl t 6), .int .u8 (bl t 7)])] w' → Src w' (some ⟨B1, 5, none⟩) 8 (bl t) := fun M j hj => ⟨_, rfl, by
        rw [Addr.add_mid]
        refine M.get List.mem_cons_self (5 + j) _ ?_
        have : j = 0 ∨ j = 1 ∨ j = 2 ∨ j = 3 ∨ j = 4 ∨ j = 5 ∨ j = 6 ∨ j = 7 := by omega
        rcases this with rfl | rfl | rfl | rfl | rfl | rfl | rfl | rfl <;> rfl⟩
      have h8 : t.length = 8 := hf.wf.eight
      go_upto_region 3 with fail
      go_upto_region 3 with fail
      refine wp_region_list ?_
      refine readL (.slice p2 1 1) rfl (by kernel_rfl) ?_
      simp only [aP, lI, l0, lS]
      refine readL (.pointer (some ⟨B1, 5, none⟩)) rfl (by kernel_rfl) ?_
      simp only [aP, lI, l0, lS]
      refine readL (.slice (some ⟨B1, 5, none⟩) 8 8) rfl (cutAll 24 _ _ _ rfl rfl (by kernel_rfl)) ?_
      simp only [aP, lI, l0, lS]
      obtain ⟨v, w3, hr, O_3, hgr, _⟩ := run_append_Own (P := Try.prog) (ty := 23) Try.underlying23 one8 O_2 (some ⟨B1, 5, none⟩) 8 8 (bl t) (tok_src M) (fun e => by cases e) (by unfold maxLen; omega) (by omega) (M.lt List.mem_cons_self)
      replace M := M.grown hgr (B1 + 1) (fun p hp => by obtain rfl := List.mem_singleton.1 hp; exact Nat.lt_succ_self _) (Nat.le_succ_of_le (M.lo List.mem_cons_self)) (M.lt List.mem_cons_self) (fun b hb => (World.ownsRow.lt O_2 b hb).1)
      rw [show (8 : Nat) = t.length from h8.symm] at O_3
      replace O_3 : OwnL w3 (B1 + 1) ([4] ++ t) v := OwnL.app O_3
      refine actL v rfl (appendOp _ _ 23 _ _ _ rfl rfl rfl hr) ?_
      simp only [aP, lI, l0, lS]
      clear hr hgr O_2
      obtain ⟨p3, c3, rfl, _, _⟩ := O_3.bytes
      refine readL (.slice p3 (([4] ++ t).length) c3) rfl (by kernel_rfl) ?_
      simp only [aP, lI, l0, lS]
      first | show Exit.then _ _ _ _ _ | show Exit.inBlock _ _ _ _ _
      have hA := show Hid (([4] ++ t) = fen ⟨4, 0, 0, [], [], t⟩) from (by show [4] ++ t = 4 :: t; rfl)
      go_wp2
      go_ret
      exact ⟨_, rfl, by rw [← hA.out]; exact O_3.lower (Nat.le_succ_of_le (M.lo List.mem_cons_self)), M.below⟩
  | upd a h =>
    obtain ⟨n, rfl⟩ := Int.eq_ofNat_of_zero_le h.1
    show Calls Try.prog 23 #[.agg #[.int .i64 5, .int .i64 (n : Int), .int .i64 0, .slice rp 0 rc, .slice bp 0 bc, .int .u8 0, .int .u8 0, .int .u8 0, .int .u8 0, .int .u8 0, .int .u8 0, .int .u8 0, .int .u8 0]] w _
    have M := Mm.init w
    go_enter Try.func23, Try.ntmps23
    go_upto_region 0 with fail
    refine wp_region_list ?_
    refine actL (w' := w.alloc (.cells #[.int .i64 5, .int .i64 (n : Int), .int .i64 0, .slice rp 0 rc, .slice bp 0 bc, .int .u8 0, .int .u8 0, .int .u8 0, .int .u8 0, .int .u8 0, .int .u8 0, .int .u8 0, .int .u8 0] 26)) (.pointer (some ⟨w.heap.size, 0, none⟩)) rfl (by kernel_rfl) ?_
    simp only [aP, lI, l0, lS]
    replace M := M.box #[.int .i64 5, .int .i64 (n : Int), .int .i64 0, .slice rp 0 rc, .slice bp 0 bc, .int .u8 0, .int .u8 0, .int .u8 0, .int .u8 0, .int .u8 0, .int .u8 0, .int .u8 0, .int .u8 0] 26 w.heap.size rfl
    generalize w.alloc (.cells #[.int .i64 5, .int .i64 (n : Int), .int .i64 0, .slice rp 0 rc, .slice bp 0 bc, .int .u8 0, .int .u8 0, .int .u8 0, .int .u8 0, .int .u8 0, .int .u8 0, .int .u8 0, .int .u8 0] 26) = w1 at M ⊢
    generalize w.heap.size = B1 at *
    replace M : Mm w [(B1, [.int .i64 5, .int .i64 (n : Int), .int .i64 0, .slice rp 0 rc, .slice bp 0 bc, .int .u8 0, .int .u8 0, .int .u8 0, .int .u8 0, .int .u8 0, .int .u8 0, .int .u8 0, .int .u8 0])] w1 := M
    refine readL (.slice none 0 0) rfl (by kernel_rfl) ?_
    simp only [aP, lI, l0, lS]
    first | show Exit.then _ _ _ _ _ | show Exit.inBlock _ _ _ _ _
    go_upto_region 1 with fail
    refine wp_region_list ?_
    refine readL (.pointer (some ⟨B1, 0, none⟩)) rfl (by kernel_rfl) ?_
    simp only [aP, lI, l0, lS]
    refine readL (.int .i64 5) rfl (load1 3 _ ⟨B1, 0, none⟩ _ rfl rfl (fun _ => by kernel_rfl) (M.get List.mem_cons_self 0 _ rfl)) ?_
    simp only [aP, lI, l0, lS]
    refine readL (.int .u8 5) rfl (convI .i64 .u8 _ _ _ _ _ rfl (by kernel_rfl) Try.underlying5 (by kernel_rfl) rfl (by rw [IntKind.wrap_u8']; rfl) _) ?_
    simp only [aP, lI, l0, lS]
    refine actL (w' := w1.alloc (.cells #[.int .u8 5] 5)) (.slice (some ⟨w1.heap.size, 0, none⟩) 1 1) rfl (by kernel_rfl) ?_
    simp only [aP, lI, l0, lS]
    have O_2 : OwnL (w1.alloc (.cells #[.int .u8 5] 5)) (B1 + 1) [5] (.slice (some ⟨w1.heap.size, 0, none⟩) 1 1) := Own.lit w1 (B1 + 1) 5 .u8 1 (bl [5]) (M.lt List.mem_cons_self) (by unfold maxLen; omega)
    replace M := M.call ((Below.refl w1.heap.size w1).alloc (Nat.le_refl _) (.cells #[.int .u8 5] 5))
    generalize w1.alloc (.cells #[.int .u8 5] 5) = w2 at M O_2 ⊢
    generalize hp2 : (some ⟨w1.heap.size, 0, none⟩ : Option Addr) = p2 at O_2 ⊢
    clear hp2
    have hL2 : ([5] : List Int).length ≤ 1 := Nat.le_refl _
    refine readL (.slice p2 1 1) rfl (by kernel_rfl) ?_
    simp only [aP, lI, l0, lS]
    first | show Exit.then _ _ _ _ _ | show Exit.inBlock _ _ _ _ _
    go_upto_region 2 with fail
    refine wp_region_list ?_
    refine readL (.pointer (some ⟨B1, 0, none⟩)) rfl (by kernel_rfl) ?_
    simp only [aP, lI, l0, lS]
    refine readL (.int .i64 5) rfl (load1 3 _ ⟨B1, 0, none⟩ _ rfl rfl (fun _ => by kernel_rfl) (M.get List.mem_cons_self 0 _ rfl)) ?_
    simp only [aP, lI, l0, lS]
    refine readL (.bool false) rfl (eqlI .i64 _ _ _ _ _ _ rfl rfl rfl false (by decide) _) ?_
    simp only [aP, lI, l0, lS]
    refine readL (.bool false) rfl (by kernel_rfl) ?_
    simp only [aP, lI, l0, lS]
    refine readL (.pointer (some ⟨B1, 0, none⟩)) rfl (by kernel_rfl) ?_
    simp only [aP, lI, l0, lS]
    refine readL (.int .i64 5) rfl (load1 3 _ ⟨B1, 0, none⟩ _ rfl rfl (fun _ => by kernel_rfl) (M.get List.mem_cons_self 0 _ rfl)) ?_
    simp only [aP, lI, l0, lS]
    refine readL (.bool false) rfl (eqlI .i64 _ _ _ _ _ _ rfl rfl rfl false (by decide) _) ?_
    simp only [aP, lI, l0, lS]
    refine readL (.bool false) rfl (by kernel_rfl) ?_
    simp only [aP, lI, l0, lS]
    first | show Exit.then _ _ _ _ _ | show Exit.inBlock _ _ _ _ _
    go_upto_region 4 with fail
    refine wp_region_list ?_
    refine readL (.slice p2 1 1) rfl (by kernel_rfl) ?_
    simp only [aP, lI, l0, lS]
    refine readL (.pointer (some ⟨B1, 1, none⟩)) rfl (by kernel_rfl) ?_
    simp only [aP, lI, l0, lS]
    refine readL (.int .i64 (n : Int)) rfl (load1 3 _ ⟨B1, 1, none⟩ _ rfl rfl (fun _ => by kernel_rfl) (M.get List.mem_cons_self 1 _ rfl)) ?_
    simp only [aP, lI, l0, lS]
    refine callL rfl (fun _ => by kernel_rfl) (rput_any p2 1 ([5]) (by omega) O_2.nilCap n (by omega) _ O_2.src) ?_
    rintro e w3 ⟨v, rfl, O_3, l⟩
    replace O_3 := O_3.lower (base' := (B1 + 1)) (M.lt List.mem_cons_self)
    replace M := M.call l
    obtain ⟨p3, c3, rfl, _, _⟩ := O_3.bytes
    have hL3 : ([5] ++ vlst n).length ≤ 1 + 8 := by rw [List.length_append, vlst_length]; have := vsz_le n; omega
    clear l O_2
    refine ⟨_, rfl, ?_⟩
    simp only [aP, lI, l0, lS]
    refine readL (.slice p3 (([5] ++ vlst n).length) c3) rfl (by kernel_rfl) ?_
    simp only [aP, lI, l0, lS]
    first | show Exit.then _ _ _ _ _ | show Exit.inBlock _ _ _ _ _
    go_upto_region 5 with fail
    refine wp_region_list ?_
    refine readL (.pointer (some ⟨B1, 0, none⟩)) rfl (by kernel_rfl) ?_
    simp only [aP, lI, l0, lS]
    refine readL (.int .i64 5) rfl (load1 3 _ ⟨B1, 0, none⟩ _ rfl rfl (fun _ => by kernel_rfl) (M.get List.mem_cons_self 0 _ rfl)) ?_
    simp only [aP, lI, l0, lS]
    first | show Exit.then _ _ _ _ _ | show Exit.inBlock _ _ _ _ _
    go_upto_region 7 with fail
    refine wp_region_list ?_
    refine readL (.bool false) rfl (eqlI .i64 _ _ _ _ _ _ rfl rfl rfl false (by decide) _) ?_
    simp only [aP, lI, l0, lS]
    refine readL (.bool false) rfl (by kernel_rfl) ?_
    simp only [aP, lI, l0, lS]
    first | show Exit.then _ _ _ _ _ | show Exit.inBlock _ _ _ _ _
    go_upto_region 9 with fail
    refine wp_region_list ?_
    refine readL (.bool false) rfl (eqlI .i64 _ _ _ _ _ _ rfl rfl rfl false (by decide) _) ?_
    simp only [aP, lI, l0, lS]
    refine readL (.bool false) rfl (by kernel_rfl) ?_
    simp only [aP, lI, l0, lS]
    first | show Exit.then _ _ _ _ _ | show Exit.inBlock _ _ _ _ _
    go_upto_region 10 with fail
    refine wp_region_list ?_
    refine readL (.bool false) rfl (eqlI .i64 _ _ _ _ _ _ rfl rfl rfl false (by decide) _) ?_
    simp only [aP, lI, l0, lS]
    refine readL (.bool false) rfl (by kernel_rfl) ?_
    simp only [aP, lI, l0, lS]
    first | show Exit.then _ _ _ _ _ | show Exit.inBlock _ _ _ _ _
    go_upto_region 6 with fail
    refine wp_region_list ?_
    refine readL (.slice p3 (([5] ++ vlst n).length) c3) rfl (by kernel_rfl) ?_
    simp only [aP, lI, l0, lS]
    refine readL (.slice p3 (([5] ++ vlst n).length) c3) rfl (by kernel_rfl) ?_
    simp only [aP, lI, l0, lS]
    first | show Exit.then _ _ _ _ _ | show Exit.inBlock _ _ _ _ _
    have hA := show Hid (([5] ++ vlst n) = fen ⟨5, (n : Int), 0, [], [], z8⟩) from (by show [5] ++ vlst n = 5 :: (vlst n ++ []); rw [List.append_nil]; rfl)
    go_wp2
    go_ret
    exact ⟨_, rfl, by rw [← hA.out]; exact O_3.lower (Nat.le_succ_of_le (M.lo List.mem_cons_self)), M.below⟩
  | close a h =>
    obtain ⟨n, rfl⟩ := Int.eq_ofNat_of_zero_le h.1
    show Calls Try.prog 23 #[.agg #[.int .i64 6, .int .i64 (n : Int), .int .i64 0, .slice rp 0 rc, .slice bp 0 bc, .int .u8 0, .int .u8 0, .int .u8 0, .int .u8 0, .int .u8 0, .int .u8 0, .int .u8 0, .int .u8 0]] w _
    have M := Mm.init w
    go_enter Try.func23, Try.ntmps23
    go_upto_region 0 with fail
    refine wp_region_list ?_
    refine actL (w' := w.alloc (.cells #[.int .i64 6, .int .i64 (n : Int), .int .i64 0, .slice rp 0 rc, .slice bp 0 bc, .int .u8 0, .int .u8 0, .int .u8 0, .int .u8 0, .int .u8 0, .int .u8 0, .int .u8 0, .int .u8 0] 26)) (.pointer (some ⟨w.heap.size, 0, none⟩)) rfl (by kernel_rfl) ?_
    simp only [aP, lI, l0, lS]
    replace M := M.box #[.int .i64 6, .int .i64 (n : Int), .int .i64 0, .slice rp 0 rc, .slice bp 0 bc, .int .u8 0, .int .u8 0, .int .u8 0, .int .u8 0, .int .u8 0, .int .u8 0, .int .u8 0, .int .u8 0] 26 w.heap.size rfl
    generalize w.alloc (.cells #[.int .i64 6, .int .i64 (n : Int), .int .i64 0, .slice rp 0 rc, .slice bp 0 bc, .int .u8 0, .int .u8 0, .int .u8 0, .int .u8 0, .int .u8 0, .int .u8 0, .int .u8 0, .int .u8 0] 26) = w1 at M ⊢
    generalize w.heap.size = B1 at *
    replace M : Mm w [(B1, [.int .i64 6, .int .i64 (n : Int), .int .i64 0, .slice rp 0 rc, .slice bp 0 bc, .int .u8 0, .int .u8 0, .int .u8 0, .int .u8 0, .int .u8 0, .int .u8 0, .int .u8 0, .int .u8 0])] w1 := M
    refine readL (.slice none 0 0) rfl (by kernel_rfl) ?_
    simp only [aP, lI, l0, lS]
    first | show Exit.then _ _ _ _ _ | show Exit.inBlock _ _ _ _ _
    go_upto_region 1 with fail
    refine wp_region_list ?_
    refine readL (.pointer (some ⟨B1, 0, none⟩)) rfl (by kernel_rfl) ?_
    simp only [aP, lI, l0, lS]
    refine readL (.int .i64 6) rfl (load1 3 _ ⟨B1, 0, none⟩ _ rfl rfl (fun _ => by kernel_rfl) (M.get List.mem_cons_self 0 _ rfl)) ?_
    simp only [aP, lI, l0, lS]
    refine readL (.int .u8 6) rfl (convI .i64 .u8 _ _ _ _ _ rfl (by kernel_rfl) Try.underlying5 (by kernel_rfl) rfl (by rw [IntKind.wrap_u8']; rfl) _) ?_
    simp only [aP, lI, l0, lS]
    refine actL (w' := w1.alloc (.cells #[.int .u8 6] 5)) (.slice (some ⟨w1.heap.size, 0, none⟩) 1 1) rfl (by kernel_rfl) ?_
    simp only [aP, lI, l0, lS]
    have O_2 : OwnL (w1.alloc (.cells #[.int .u8 6] 5)) (B1 + 1) [6] (.slice (some ⟨w1.heap.size, 0, none⟩) 1 1) := Own.lit w1 (B1 + 1) 5 .u8 1 (bl [6]) (M.lt List.mem_cons_self) (by unfold maxLen; omega)
    replace M := M.call ((Below.refl w1.heap.size w1).alloc (Nat.le_refl _) (.cells #[.int .u8 6] 5))
    generalize w1.alloc (.cells #[.int .u8 6] 5) = w2 at M O_2 ⊢
    generalize hp2 : (some ⟨w1.heap.size, 0, none⟩ : Option Addr) = p2 at O_2 ⊢
    clear hp2
    have hL2 : ([6] : List Int).length ≤ 1 := Nat.le_refl _
    refine readL (.slice p2 1 1) rfl (by kernel_rfl) ?_
    simp only [aP, lI, l0, lS]
    first | show Exit.then _ _ _ _ _ | show Exit.inBlock _ _ _ _ _
    go_upto_region 2 with fail
    refine wp_region_list ?_
    refine readL (.pointer (some ⟨B1, 0, none⟩)) rfl (by kernel_rfl) ?_
    simp only [aP, lI, l0, lS]
    refine readL (.int .i64 6) rfl (load1 3 _ ⟨B1, 0, none⟩ _ rfl rfl (fun _ => by kernel_rfl) (M.get List.mem_cons_self 0 _ rfl)) ?_
    simp only [aP, lI, l0, lS]
    refine readL (.bool false) rfl (eqlI .i64 _ _ _ _ _ _ rfl rfl rfl false (by decide) _) ?_
    simp only [aP, lI, l0, lS]
    refine readL (.bool false) rfl (by kernel_rfl) ?_
    simp only [aP, lI, l0, lS]
    refine readL (.pointer (some ⟨B1, 0, none⟩)) rfl (by kernel_rfl) ?_
    simp only [aP, lI, l0, lS]
    refine readL (.int .i64 6) rfl (load1 3 _ ⟨B1, 0, none⟩ _ rfl rfl (fun _ => by kernel_rfl) (M.get List.mem_cons_self 0 _ rfl)) ?_
    simp only [aP, lI, l0, lS]
    refine readL (.bool false) rfl (eqlI .i64 _ _ _ _ _ _ rfl rfl rfl false (by decide) _) ?_
    simp only [aP, lI, l0, lS]
    refine readL (.bool false) rfl (by kernel_rfl) ?_
    simp only [aP, lI, l0, lS]
    first | show Exit.then _ _ _ _ _ | show Exit.inBlock _ _ _ _ _
    go_upto_region 4 with fail
    refine wp_region_list ?_
    refine readL (.slice p2 1 1) rfl (by kernel_rfl) ?_
    simp only [aP, lI, l0, lS]
    refine readL (.pointer (some ⟨B1, 1, none⟩)) rfl (by kernel_rfl) ?_
    simp only [aP, lI, l0, lS]
    refine readL (.int .i64 (n : Int)) rfl (load1 3 _ ⟨B1, 1, none⟩ _ rfl rfl (fun _ => by kernel_rfl) (M.get List.mem_cons_self 1 _ rfl)) ?_
    simp only [aP, lI, l0, lS]
    refine callL rfl (fun _ => by kernel_rfl) (rput_any p2 1 ([6]) (by omega) O_2.nilCap n (by omega) _ O_2.src) ?_
    rintro e w3 ⟨v, rfl, O_3, l⟩
    replace O_3 := O_3.lower (base' := (B1 + 1)) (M.lt List.mem_cons_self)
    replace M := M.call l
    obtain ⟨p3, c3, rfl, _, _⟩ := O_3.bytes
    have hL3 : ([6] ++ vlst n).length ≤ 1 + 8 := by rw [List.length_append, vlst_length]; have := vsz_le n; omega
    clear l O_2
    refine ⟨_, rfl, ?_⟩
    simp only [aP, lI, l0, lS]
    refine readL (.slice p3 (([6] ++ vlst n).length) c3) rfl (by kernel_rfl) ?_
    simp only [aP, lI, l0, lS]
    first | show Exit.then _ _ _ _ _ | show Exit.inBlock _ _ _ _ _
    go_upto_region 5 with fail
    refine wp_region_list ?_
    refine readL (.pointer (some ⟨B1, 0, none⟩)) rfl (by kernel_rfl) ?_
    simp only [aP, lI, l0, lS]
    refine readL (.int .i64 6) rfl (load1 3 _ ⟨B1, 0, none⟩ _ rfl rfl (fun _ => by kernel_rfl) (M.get List.mem_cons_self 0 _ rfl)) ?_
    simp only [aP, lI, l0, lS]
    first | show Exit.then _ _ _ _ _ | show Exit.inBlock _ _ _ _ _
    go_upto_region 7 with fail
    refine wp_region_list ?_
    refine readL (.bool false) rfl (eqlI .i64 _ _ _ _ _ _ rfl rfl rfl false (by decide) _) ?_
    simp only [aP, lI, l0, lS]
    refine readL (.bool false) rfl (by kernel_rfl) ?_
    simp only [aP, lI, l0, lS]
    first | show Exit.then _ _ _ _ _ | show Exit.inBlock _ _ _ _ _
    go_upto_region 9 with fail
    refine wp_region_list ?_
    refine readL (.bool false) rfl (eqlI .i64 _ _ _ _ _ _ rfl rfl rfl false (by decide) _) ?_
    simp only [aP, lI, l0, lS]
    refine readL (.bool false) rfl (by kernel_rfl) ?_
    simp only [aP, lI, l0, lS]
    first | show Exit.then _ _ _ _ _ | show Exit.inBlock _ _ _ _ _
    go_upto_region 10 with fail
    refine wp_region_list ?_
    refine readL (.bool false) rfl (eqlI .i64 _ _ _ _ _ _ rfl rfl rfl false (by decide) _) ?_
    simp only [aP, lI, l0, lS]
    refine readL (.bool false) rfl (by kernel_rfl) ?_
    simp only [aP, lI, l0, lS]
    first | show Exit.then _ _ _ _ _ | show Exit.inBlock _ _ _ _ _
    go_upto_region 6 with fail
    refine wp_region_list ?_
    refine readL (.slice p3 (([6] ++ vlst n).length) c3) rfl (by kernel_rfl) ?_
    simp only [aP, lI, l0, lS]
    refine readL (.slice p3 (([6] ++ vlst n).length) c3) rfl (by kernel_rfl) ?_
    simp only [aP, lI, l0, lS]
    first | show Exit.then _ _ _ _ _ | show Exit.inBlock _ _ _ _ _
    have hA := show Hid (([6] ++ vlst n) = fen ⟨6, (n : Int), 0, [], [], z8⟩) from (by show [6] ++ vlst n = 6 :: (vlst n ++ []); rw [List.append_nil]; rfl)
    go_wp2
    go_ret
    exact ⟨_, rfl, by rw [← hA.out]; exact O_3.lower (Nat.le_succ_of_le (M.lo List.mem_cons_self)), M.below⟩
  | ack a l rs h hl hr h8 =>
    obtain ⟨n, rfl⟩ := Int.eq_ofNat_of_zero_le h.1
    obtain ⟨m, rfl⟩ := Int.eq_ofNat_of_zero_le hl.1
    show Calls Try.prog 23 #[.agg #[.int .i64 2, .int .i64 (n : Int), .int .i64 (m : Int), .slice rp rs.length rc, .slice bp 0 bc, .int .u8 0, .int .u8 0, .int .u8 0, .int .u8 0, .int .u8 0, .int .u8 0, .int .u8 0, .int .u8 0]] w _
    have M := Mm.init w
    go_enter Try.func23, Try.ntmps23
    go_upto_region 0 with fail
    refine wp_region_list ?_
    refine actL (w' := w.alloc (.cells #[.int .i64 2, .int .i64 (n : Int), .int .i64 (m : Int), .slice rp rs.length rc, .slice bp 0 bc, .int .u8 0, .int .u8 0, .int .u8 0, .int .u8 0, .int .u8 0, .int .u8 0, .int .u8 0, .int .u8 0] 26)) (.pointer (some ⟨w.heap.size, 0, none⟩)) rfl (by kernel_rfl) ?_
    simp only [aP, lI, l0, lS]
    replace M := M.box #[.int .i64 2, .int .i64 (n : Int), .int .i64 (m : Int), .slice rp rs.length rc, .slice bp 0 bc, .int .u8 0, .int .u8 0, .int .u8 0, .int .u8 0, .int .u8 0, .int .u8 0, .int .u8 0, .int .u8 0] 26 w.heap.size rfl
    generalize w.alloc (.cells #[.int .i64 2, .int .i64 (n : Int), .int .i64 (m : Int), .slice rp rs.length rc, .slice bp 0 bc, .int .u8 0, .int .u8 0, .int .u8 0, .int .u8 0, .int .u8 0, .int .u8 0, .int .u8 0, .int .u8 0] 26) = w1 at M ⊢
    generalize w.heap.size = B1 at *
    replace M : Mm w [(B1, [.int .i64 2, .int .i64 (n : Int), .int .i64 (m : Int), .slice rp rs.length rc, .slice bp 0 bc, .int .u8 0, .int .u8 0, .int .u8 0, .int .u8 0, .int .u8 0, .int .u8 0, .int .u8 0, .int .u8 0])] w1 := M
    refine readL (.slice none 0 0) rfl (by kernel_rfl) ?_
    simp only [aP, lI, l0, lS]
    first | show Exit.then _ _ _ _ _ | show Exit.inBlock _ _ _ _ _
    go_upto_region 1 with fail
    refine wp_region_list ?_
    refine readL (.pointer (some ⟨B1, 0, none⟩)) rfl (by kernel_rfl) ?_
    simp only [aP, lI, l0, lS]
    refine readL (.int .i64 2) rfl (load1 3 _ ⟨B1, 0, none⟩ _ rfl rfl (fun _ => by kernel_rfl) (M.get List.mem_cons_self 0 _ rfl)) ?_
    simp only [aP, lI, l0, lS]
    refine readL (.int .u8 2) rfl (convI .i64 .u8 _ _ _ _ _ rfl (by kernel_rfl) Try.underlying5 (by kernel_rfl) rfl (by rw [IntKind.wrap_u8']; rfl) _) ?_
    simp only [aP, lI, l0, lS]
    refine actL (w' := w1.alloc (.cells #[.int .u8 2] 5)) (.slice (some ⟨w1.heap.size, 0, none⟩) 1 1) rfl (by kernel_rfl) ?_
    simp only [aP, lI, l0, lS]
    have O_2 : OwnL (w1.alloc (.cells #[.int .u8 2] 5)) (B1 + 1) [2] (.slice (some ⟨w1.heap.size, 0, none⟩) 1 1) := Own.lit w1 (B1 + 1) 5 .u8 1 (bl [2]) (M.lt List.mem_cons_self) (by unfold maxLen; omega)
    replace M := M.call ((Below.refl w1.heap.size w1).alloc (Nat.le_refl _) (.cells #[.int .u8 2] 5))
    generalize w1.alloc (.cells #[.int .u8 2] 5) = w2 at M O_2 ⊢
    generalize hp2 : (some ⟨w1.heap.size, 0, none⟩ : Option Addr) = p2 at O_2 ⊢
    clear hp2
    have hL2 : ([2] : List Int).length ≤ 1 := Nat.le_refl _
    refine readL (.slice p2 1 1) rfl (by kernel_rfl) ?_
    simp only [aP, lI, l0, lS]
    first | show Exit.then _ _ _ _ _ | show Exit.inBlock _ _ _ _ _
    go_upto_region 2 with fail
    refine wp_region_list ?_
    refine readL (.pointer (some ⟨B1, 0, none⟩)) rfl (by kernel_rfl) ?_
    simp only [aP, lI, l0, lS]
    refine readL (.int .i64 2) rfl (load1 3 _ ⟨B1, 0, none⟩ _ rfl rfl (fun _ => by kernel_rfl) (M.get List.mem_cons_self 0 _ rfl)) ?_
    simp only [aP, lI, l0, lS]
    refine readL (.bool false) rfl (eqlI .i64 _ _ _ _ _ _ rfl rfl rfl false (by decide) _) ?_
    simp only [aP, lI, l0, lS]
    refine readL (.bool false) rfl (by kernel_rfl) ?_
    simp only [aP, lI, l0, lS]
    refine readL (.pointer (some ⟨B1, 0, none⟩)) rfl (by kernel_rfl) ?_
    simp only [aP, lI, l0, lS]
    refine readL (.int .i64 2) rfl (load1 3 _ ⟨B1, 0, none⟩ _ rfl rfl (fun _ => by kernel_rfl) (M.get List.mem_cons_self 0 _ rfl)) ?_
    simp only [aP, lI, l0, lS]
    refine readL (.bool false) rfl (eqlI .i64 _ _ _ _ _ _ rfl rfl rfl false (by decide) _) ?_
    simp only [aP, lI, l0, lS]
    refine readL (.bool false) rfl (by kernel_rfl) ?_
    simp only [aP, lI, l0, lS]
    first | show Exit.then _ _ _ _ _ | show Exit.inBlock _ _ _ _ _
    go_upto_region 4 with fail
    refine wp_region_list ?_
    refine readL (.slice p2 1 1) rfl (by kernel_rfl) ?_
    simp only [aP, lI, l0, lS]
    refine readL (.pointer (some ⟨B1, 1, none⟩)) rfl (by kernel_rfl) ?_
    simp only [aP, lI, l0, lS]
    refine readL (.int .i64 (n : Int)) rfl (load1 3 _ ⟨B1, 1, none⟩ _ rfl rfl (fun _ => by kernel_rfl) (M.get List.mem_cons_self 1 _ rfl)) ?_
    simp only [aP, lI, l0, lS]
    refine callL rfl (fun _ => by kernel_rfl) (rput_any p2 1 ([2]) (by omega) O_2.nilCap n (by omega) _ O_2.src) ?_
    rintro e w3 ⟨v, rfl, O_3, l⟩
    replace O_3 := O_3.lower (base' := (B1 + 1)) (M.lt List.mem_cons_self)
    replace M := M.call l
    obtain ⟨p3, c3, rfl, _, _⟩ := O_3.bytes
    have hL3 : ([2] ++ vlst n).length ≤ 1 + 8 := by rw [List.length_append, vlst_length]; have := vsz_le n; omega
    clear l O_2
    refine ⟨_, rfl, ?_⟩
    simp only [aP, lI, l0, lS]
    refine readL (.slice p3 (([2] ++ vlst n).length) c3) rfl (by kernel_rfl) ?_
    simp only [aP, lI, l0, lS]
    first | show Exit.then _ _ _ _ _ | show Exit.inBlock _ _ _ _ _
    go_upto_region 5 with fail
    refine wp_region_list ?_
    refine readL (.pointer (some ⟨B1, 0, none⟩)) rfl (by kernel_rfl) ?_
    simp only [aP, lI, l0, lS]
    refine readL (.int .i64 2) rfl (load1 3 _ ⟨B1, 0, none⟩ _ rfl rfl (fun _ => by kernel_rfl) (M.get List.mem_cons_self 0 _ rfl)) ?_
    simp only [aP, lI, l0, lS]
    first | show Exit.then _ _ _ _ _ | show Exit.inBlock _ _ _ _ _
    go_upto_region 7 with fail
    refine wp_region_list ?_
    refine readL (.bool false) rfl (eqlI .i64 _ _ _ _ _ _ rfl rfl rfl false (by decide) _) ?_
    simp only [aP, lI, l0, lS]
    refine readL (.bool false) rfl (by kernel_rfl) ?_
    simp only [aP, lI, l0, lS]
    first | show Exit.then _ _ _ _ _ | show Exit.inBlock _ _ _ _ _
    go_upto_region 9 with fail
    refine wp_region_list ?_
    refine readL (.bool true) rfl (eqlI .i64 _ _ _ _ _ _ rfl rfl rfl true (by decide) _) ?_
    simp only [aP, lI, l0, lS]
    refine readL (.bool true) rfl (by kernel_rfl) ?_
    simp only [aP, lI, l0, lS]
    first | show Exit.then _ _ _ _ _ | show Exit.inBlock _ _ _ _ _
    go_upto_region 11 with fail
    refine wp_region_list ?_
    refine readL (.slice p3 (([2] ++ vlst n).length) c3) rfl (by kernel_rfl) ?_
    simp only [aP, lI, l0, lS]
    refine readL (.pointer (some ⟨B1, 2, none⟩)) rfl (by kernel_rfl) ?_
    simp only [aP, lI, l0, lS]
    refine readL (.int .i64 (m : Int)) rfl (load1 3 _ ⟨B1, 2, none⟩ _ rfl rfl (fun _ => by kernel_rfl) (M.get List.mem_cons_self 2 _ rfl)) ?_
    simp only [aP, lI, l0, lS]
    refine callL rfl (fun _ => by kernel_rfl) (rput_any p3 c3 ([2] ++ vlst n) (by omega) O_3.nilCap m (by omega) _ O_3.src) ?_
    rintro e w4 ⟨v, rfl, O_4, l⟩
    replace O_4 := O_4.lower (base' := (B1 + 1)) (M.lt List.mem_cons_self)
    replace M := M.call l
    obtain ⟨p4, c4, rfl, _, _⟩ := O_4.bytes
    have hL4 : ([2] ++ vlst n ++ vlst m).length ≤ 1 + 8 + 8 := by rw [List.length_append, vlst_length]; have := vsz_le m; omega
    clear l O_3
    refine ⟨_, rfl, ?_⟩
    simp only [aP, lI, l0, lS]
    refine readL (.slice p4 (([2] ++ vlst n ++ vlst m).length) c4) rfl (by kernel_rfl) ?_
    simp only [aP, lI, l0, lS]
    first | show Exit.then _ _ _ _ _ | show Exit.inBlock _ _ _ _ _
    go_upto_region 12 with fail
    refine wp_region_list ?_
    refine readL (.slice p4 (([2] ++ vlst n ++ vlst m).length) c4) rfl (by kernel_rfl) ?_
    simp only [aP, lI, l0, lS]
    refine readL (.pointer (some ⟨B1, 3, none⟩)) rfl (by kernel_rfl) ?_
    simp only [aP, lI, l0, lS]
    refine readL (.slice rp rs.length rc) rfl (load1 22 _ ⟨B1, 3, none⟩ _ rfl rfl (fun _ => by kernel_rfl) (M.get List.mem_cons_self 3 _ rfl)) ?_
    simp only [aP, lI, l0, lS]
    refine readL (.int .i64 ((rs.length : Nat) : Int)) rfl (lenS _ 22 43 rp rs.length rc rfl Try.underlying22 rfl _) ?_
    simp only [aP, lI, l0, lS]
    refine callL rfl (fun _ => by kernel_rfl) (rput_any p4 c4 ([2] ++ vlst n ++ vlst m) (by omega) O_4.nilCap rs.length (by omega) _ O_4.src) ?_
    rintro e w5 ⟨v, rfl, O_5, l⟩
    replace O_5 := O_5.lower (base' := (B1 + 1)) (M.lt List.mem_cons_self)
    replace M := M.call l
    obtain ⟨p5, c5, rfl, _, _⟩ := O_5.bytes
    have hL5 : ([2] ++ vlst n ++ vlst m ++ vlst rs.length).length ≤ 1 + 8 + 8 + 8 := by rw [List.length_append, vlst_length]; have := vsz_le rs.length; omega
    clear l O_4
    refine ⟨_, rfl, ?_⟩
    simp only [aP, lI, l0, lS]
    refine readL (.slice p5 (([2] ++ vlst n ++ vlst m ++ vlst rs.length).length) c5) rfl (by kernel_rfl) ?_
    simp only [aP, lI, l0, lS]
    first | show Exit.then _ _ _ _ _ | show Exit.inBlock _ _ _ _ _
    go_upto_region 13 with fail
    refine wp_region_list ?_
    refine readL (.int .i64 0) rfl (by kernel_rfl) ?_
    simp only [aP, lI, l0, lS]
    first | show Exit.then _ _ _ _ _ | show Exit.inBlock _ _ _ _ _
    go_upto_region 14 with fail
    refine wp_region_list ?_
    refine readL (.pointer (some ⟨B1, 0, none⟩)) rfl (by kernel_rfl) ?_
    simp only [aP, lI, l0, lS]
    refine readL (.int .i64 2) rfl (load1 3 _ ⟨B1, 0, none⟩ _ rfl rfl (fun _ => by kernel_rfl) (M.get List.mem_cons_self 0 _ rfl)) ?_
    simp only [aP, lI, l0, lS]
    refine readL (.bool true) rfl (eqlI .i64 _ _ _ _ _ _ rfl rfl rfl true (by decide) _) ?_
    simp only [aP, lI, l0, lS]
    first | show Exit.then _ _ _ _ _ | show Exit.inBlock _ _ _ _ _
    go_upto_region 15 with fail
    refine wp_region_list ?_
    refine readL (.pointer (some ⟨B1, 1, none⟩)) rfl (by kernel_rfl) ?_
    simp only [aP, lI, l0, lS]
    refine readL (.int .i64 (n : Int)) rfl (load1 3 _ ⟨B1, 1, none⟩ _ rfl rfl (fun _ => by kernel_rfl) (M.get List.mem_cons_self 1 _ rfl)) ?_
    simp only [aP, lI, l0, lS]
    refine readL (.int .i64 (n : Int)) rfl (by kernel_rfl) ?_
    simp only [aP, lI, l0, lS]
    first | show Exit.then _ _ _ _ _ | show Exit.inBlock _ _ _ _ _
    have hrk := rok_at hr (by omega)
    obtain ⟨pre, hpre⟩ : ∃ p, p = ([2] ++ vlst n ++ vlst m ++ vlst rs.length) := ⟨_, rfl⟩
    rw [← hpre] at O_5 hL5
    have hfin : fen ⟨2, (n : Int), (m : Int), rs, [], z8⟩ = pre ++ ren rs (n : Int) := by
      rw [hpre]
      show 2 :: (vlst n ++ (vlst m ++ (vlst rs.length ++ ren rs (n : Int)))) = [2] ++ vlst n ++ vlst m ++ vlst rs.length ++ ren rs (n : Int)
      simp only [List.append_assoc, List.cons_append, List.nil_append]
    have hpl : ([2] ++ vlst n ++ vlst m ++ vlst rs.length).length = pre.length := by rw [hpre]
    rw [hpl]
    clear hpl hpre
    have HI := show Hid _ from (And.intro O_5 M)
    clear O_5 M
    go_wp2
    go_loopw [3, 4, 5] (fun bw lw i w' => ∃ (j : Nat) (sp : Option Addr) (cap : Nat), j ≤ rs.length ∧ bw = .slice sp (pre ++ ren (rs.take j) (n : Int)).length cap ∧ lw = .int .i64 (fr_ rs (n : Int) j) ∧ i = .int .i64 (j : Int) ∧ OwnL w' (B1 + 1) (pre ++ ren (rs.take j) (n : Int)) (.slice sp (pre ++ ren (rs.take j) (n : Int)).length cap) ∧ Mm w [(B1, [.int .i64 2, .int .i64 (n : Int), .int .i64 (m : Int), .slice rp rs.length rc, .slice bp 0 bc, .int .u8 0, .int .u8 0, .int .u8 0, .int .u8 0, .int .u8 0, .int .u8 0, .int .u8 0, .int .u8 0])] w' ∧ (pre ++ ren (rs.take j) (n : Int)).length ≤ 25 + 16 * j) (fun _ _ i _ => rs.length - (intOf i).toNat)
    case atStart =>
      have e0 : pre ++ ren (rs.take 0) (n : Int) = pre := List.append_nil _
      refine ⟨0, p5, c5, Nat.zero_le _, ?_, rfl, rfl, ?_, HI.out.2, ?_⟩
      · rw [e0]
      · rw [e0]; exact HI.out.1
      · rw [e0]; omega
    case round =>
      clear HI
      obtain ⟨j, sp, cap, hj, rfl, rfl, rfl, O_0, M, hL0⟩ := hrel
      by_cases hlt : j < rs.length
      · have g1 : (j : Int) < ((rs.length : Nat) : Int) := by omega
        obtain ⟨ad, e0, _⟩ := hf.rg j hlt
        subst e0
        obtain ⟨q1, q2, q3, q4⟩ := hrk j hlt
        have q5 : MX ≤ 4611686018427387903 := by unfold MX; omega
        obtain ⟨x, hx⟩ := Int.eq_ofNat_of_zero_le (show 0 ≤ (rgz rs j).1 - fr_ rs (n : Int) j by omega)
        obtain ⟨y, hy⟩ := Int.eq_ofNat_of_zero_le (show 0 ≤ (rgz rs j).2 - (rgz rs j).1 by omega)
        go_upto_region 17 with fail
        refine wp_region_list ?_
        refine readL (.int .i64 (j : Int)) rfl (by kernel_rfl) ?_
        simp only [aP, lI, l0, lS]
        refine readL (.pointer (some ⟨B1, 3, none⟩)) rfl (by kernel_rfl) ?_
        simp only [aP, lI, l0, lS]
        refine readL (.slice (some ad) rs.length rc) rfl (load1 22 _ ⟨B1, 3, none⟩ _ rfl rfl (fun _ => by kernel_rfl) (M.get List.mem_cons_self 3 _ rfl)) ?_
        simp only [aP, lI, l0, lS]
        refine readL (.int .i64 ((rs.length : Nat) : Int)) rfl (lenS _ 22 43 (some ad) rs.length rc rfl Try.underlying22 rfl _) ?_
        simp only [aP, lI, l0, lS]
        refine readL (.bool true) rfl (lssI .i64 _ _ _ _ _ _ rfl rfl rfl true (decide_eq_true g1) _) ?_
        simp only [aP, lI, l0, lS]
        first | show Exit.then _ _ _ _ _ | show Exit.inBlock _ _ _ _ _
        go_upto_region 19 with fail
        refine wp_region_list ?_
        refine readL (.slice sp ((pre ++ ren (rs.take j) (n : Int)).length) cap) rfl (by kernel_rfl) ?_
        simp only [aP, lI, l0, lS]
        refine readL (.pointer (some ⟨B1, 3, none⟩)) rfl (by kernel_rfl) ?_
        simp only [aP, lI, l0, lS]
        refine readL (.slice (some ad) rs.length rc) rfl (load1 22 _ ⟨B1, 3, none⟩ _ rfl rfl (fun _ => by kernel_rfl) (M.get List.mem_cons_self 3 _ rfl)) ?_
        simp only [aP, lI, l0, lS]
        refine readL (.int .i64 (j : Int)) rfl (by kernel_rfl) ?_
        simp only [aP, lI, l0, lS]
        refine readL (.pointer (some (ad.add (j * 2)))) rfl (idxN 22 43 2 rs.length rc ad j _ _ Try.underlying22 (fun _ => by kernel_rfl) hlt rfl rfl rfl _) ?_
        simp only [aP, lI, l0, lS]
        refine readL (.pointer (some (ad.add (j * 2)))) rfl (by kernel_rfl) ?_
        simp only [aP, lI, l0, lS]
        refine readL (.int .i64 ((rgz rs j).1)) rfl (load1 3 _ (ad.add (j * 2)) _ rfl rfl (fun _ => by kernel_rfl) (((hf.rg.below M.below (Nat.le_refl _)).at j hlt).1)) ?_
        simp only [aP, lI, l0, lS]
        refine readL (.int .i64 (fr_ rs (n : Int) j)) rfl (by kernel_rfl) ?_
        simp only [aP, lI, l0, lS]
        refine readL (.int .i64 (x : Int)) rfl (subI .i64 _ _ _ _ _ _ _ rfl rfl rfl (by rw [IntKind.wrap_i64]; omega) _) ?_
        simp only [aP, lI, l0, lS]
        refine callL rfl (fun _ => by kernel_rfl) (rput_any sp cap (pre ++ ren (rs.take j) (n : Int)) (by omega) O_0.nilCap x (by omega) _ O_0.src) ?_
        rintro e w6 ⟨v, rfl, O_6, l⟩
        replace O_6 := O_6.lower (base' := (B1 + 1)) (M.lt List.mem_cons_self)
        replace M := M.call l
        obtain ⟨p6, c6, rfl, _, _⟩ := O_6.bytes
        have hL6 : ((pre ++ ren (rs.take j) (n : Int)) ++ vlst x).length ≤ 25 + 16 * j + 8 := by rw [List.length_append, vlst_length]; have := vsz_le x; omega
        clear l O_0
        refine ⟨_, rfl, ?_⟩
        simp only [aP, lI, l0, lS]
        refine readL (.slice p6 (((pre ++ ren (rs.take j) (n : Int)) ++ vlst x).length) c6) rfl (by kernel_rfl) ?_
        simp only [aP, lI, l0, lS]
        first | show Exit.then _ _ _ _ _ | show Exit.inBlock _ _ _ _ _
        go_upto_region 20 with fail
        refine wp_region_held_drew (S := fun w' => Mm w [(B1, [.int .i64 2, .int .i64 (n : Int), .int .i64 (m : Int), .slice (some ad) rs.length rc, .slice bp 0 bc, .int .u8 0, .int .u8 0, .int .u8 0, .int .u8 0, .int .u8 0, .int .u8 0, .int .u8 0, .int .u8 0])] w') (by kernel_rfl) M.drew ?_
        clear M
        intro M
        replace O_6 := O_6.drew
        generalize w6.drew = w7 at M O_6 ⊢
        refine readH (i := 0) (some 73) rfl (.slice p6 (((pre ++ ren (rs.take j) (n : Int)) ++ vlst x).length) c6) rfl rfl (fun _ M => (by kernel_rfl)) (by kernel_rfl) (by kernel_rfl) (by kernel_rfl) (fun _ _ _ h => h) M ?_
        simp only [aP, lI, l0, lS]
        refine readH (i := 1) (some 74) rfl (.pointer (some ⟨B1, 3, none⟩)) rfl rfl (fun _ M => (by kernel_rfl)) (by kernel_rfl) (by kernel_rfl) (by kernel_rfl) (fun _ _ _ h => h) M ?_
        simp only [aP, lI, l0, lS]
        refine readH (i := 2) (some 75) rfl (.slice (some ad) rs.length rc) rfl rfl (fun _ M => load1 22 _ ⟨B1, 3, none⟩ _ rfl rfl (fun _ => by kernel_rfl) (M.get List.mem_cons_self 3 _ rfl)) (by kernel_rfl) (by kernel_rfl) (by kernel_rfl) (fun _ _ _ h => h) M ?_
        simp only [aP, lI, l0, lS]
        refine readH (i := 3) (some 76) rfl (.int .i64 (j : Int)) rfl rfl (fun _ M => (by kernel_rfl)) (by kernel_rfl) (by kernel_rfl) (by kernel_rfl) (fun _ _ _ h => h) M ?_
        simp only [aP, lI, l0, lS]
        refine readH (i := 4) (some 77) rfl (.pointer (some (ad.add (j * 2)))) rfl rfl (fun _ M => idxN 22 43 2 rs.length rc ad j _ _ Try.underlying22 (fun _ => by kernel_rfl) hlt rfl rfl rfl _) (by kernel_rfl) (by kernel_rfl) (by kernel_rfl) (fun _ _ _ h => h) M ?_
        simp only [aP, lI, l0, lS]
        refine readH (i := 5) (some 78) rfl (.pointer (some ((ad.add (j * 2)).add 1))) rfl rfl (fun _ M => (by kernel_rfl)) (by kernel_rfl) (by kernel_rfl) (by kernel_rfl) (fun _ _ _ h => h) M ?_
        simp only [aP, lI, l0, lS]
        refine readH (i := 6) (some 79) rfl (.int .i64 ((rgz rs j).2)) rfl rfl (fun _ M => load1 3 _ ((ad.add (j * 2)).add 1) _ rfl rfl (fun _ => by kernel_rfl) (((hf.rg.below M.below (Nat.le_refl _)).at j hlt).2)) (by kernel_rfl) (by kernel_rfl) (by kernel_rfl) (fun _ _ _ h => h) M ?_
        simp only [aP, lI, l0, lS]
        refine readH (i := 7) (some 80) rfl (.pointer (some ⟨B1, 3, none⟩)) rfl rfl (fun _ M => (by kernel_rfl)) (by kernel_rfl) (by kernel_rfl) (by kernel_rfl) (fun _ _ _ h => h) M ?_
        simp only [aP, lI, l0, lS]
        refine readH (i := 8) (some 81) rfl (.slice (some ad) rs.length rc) rfl rfl (fun _ M => load1 22 _ ⟨B1, 3, none⟩ _ rfl rfl (fun _ => by kernel_rfl) (M.get List.mem_cons_self 3 _ rfl)) (by kernel_rfl) (by kernel_rfl) (by kernel_rfl) (fun _ _ _ h => h) M ?_
        simp only [aP, lI, l0, lS]
        refine readH (i := 9) (some 82) rfl (.int .i64 (j : Int)) rfl rfl (fun _ M => (by kernel_rfl)) (by kernel_rfl) (by kernel_rfl) (by kernel_rfl) (fun _ _ _ h => h) M ?_
        simp only [aP, lI, l0, lS]
        refine readH (i := 10) (some 83) rfl (.pointer (some (ad.add (j * 2)))) rfl rfl (fun _ M => idxN 22 43 2 rs.length rc ad j _ _ Try.underlying22 (fun _ => by kernel_rfl) hlt rfl rfl rfl _) (by kernel_rfl) (by kernel_rfl) (by kernel_rfl) (fun _ _ _ h => h) M ?_
        simp only [aP, lI, l0, lS]
        refine readH (i := 11) (some 84) rfl (.pointer (some (ad.add (j * 2)))) rfl rfl (fun _ M => (by kernel_rfl)) (by kernel_rfl) (by kernel_rfl) (by kernel_rfl) (fun _ _ _ h => h) M ?_
        simp only [aP, lI, l0, lS]
        refine readH (i := 12) (some 85) rfl (.int .i64 ((rgz rs j).1)) rfl rfl (fun _ M => load1 3 _ (ad.add (j * 2)) _ rfl rfl (fun _ => by kernel_rfl) (((hf.rg.below M.below (Nat.le_refl _)).at j hlt).1)) (by kernel_rfl) (by kernel_rfl) (by kernel_rfl) (fun _ _ _ h => h) M ?_
        simp only [aP, lI, l0, lS]
        refine readH (i := 13) (some 86) rfl (.int .i64 (y : Int)) rfl rfl (fun _ M => subI .i64 _ _ _ _ _ _ _ rfl rfl rfl (by rw [IntKind.wrap_i64]; omega) _) (by kernel_rfl) (by kernel_rfl) (by kernel_rfl) (fun _ _ _ h => h) M ?_
        simp only [aP, lI, l0, lS]
        refine callH (i := 14) (some 87) rfl (by kernel_rfl) rfl rfl (fun _ => by kernel_rfl) (rput_any p6 c6 ((pre ++ ren (rs.take j) (n : Int)) ++ vlst x) (by omega) O_6.nilCap y (by omega) _ O_6.src) ?_
        rintro e w8 ⟨v, rfl, O_8, l⟩
        replace O_8 := O_8.lower (base' := (B1 + 1)) (M.lt List.mem_cons_self)
        replace M := M.call l
        obtain ⟨p8, c8, rfl, _, _⟩ := O_8.bytes
        have hL8 : ((pre ++ ren (rs.take j) (n : Int)) ++ vlst x ++ vlst y).length ≤ 25 + 16 * j + 8 + 8 := by rw [List.length_append, vlst_length]; have := vsz_le y; omega
        clear l O_6
        refine ⟨_, rfl, M, ?_⟩
        simp only [aP, lI, l0, lS]
        refine readH (i := 15) (some 3) rfl (.slice p8 (((pre ++ ren (rs.take j) (n : Int)) ++ vlst x ++ vlst y).length) c8) rfl rfl (fun _ M => (by kernel_rfl)) (by kernel_rfl) (by kernel_rfl) (by kernel_rfl) (fun _ _ _ h => h) M ?_
        simp only [aP, lI, l0, lS]
        refine wpAnyH_done (by kernel_rfl) ?_ _
        first | show Exit.then _ _ _ _ _ | show Exit.inBlock _ _ _ _ _
        go_upto_region 21 with fail
        refine wp_region_list ?_
        refine readL (.pointer (some ⟨B1, 3, none⟩)) rfl (by kernel_rfl) ?_
        simp only [aP, lI, l0, lS]
        refine readL (.slice (some ad) rs.length rc) rfl (load1 22 _ ⟨B1, 3, none⟩ _ rfl rfl (fun _ => by kernel_rfl) (M.get List.mem_cons_self 3 _ rfl)) ?_
        simp only [aP, lI, l0, lS]
        refine readL (.int .i64 (j : Int)) rfl (by kernel_rfl) ?_
        simp only [aP, lI, l0, lS]
        refine readL (.pointer (some (ad.add (j * 2)))) rfl (idxN 22 43 2 rs.length rc ad j _ _ Try.underlying22 (fun _ => by kernel_rfl) hlt rfl rfl rfl _) ?_
        simp only [aP, lI, l0, lS]
        refine readL (.pointer (some ((ad.add (j * 2)).add 1))) rfl (by kernel_rfl) ?_
        simp only [aP, lI, l0, lS]
        refine readL (.int .i64 ((rgz rs j).2)) rfl (load1 3 _ ((ad.add (j * 2)).add 1) _ rfl rfl (fun _ => by kernel_rfl) (((hf.rg.below M.below (Nat.le_refl _)).at j hlt).2)) ?_
        simp only [aP, lI, l0, lS]
        refine readL (.int .i64 ((rgz rs j).2)) rfl (by kernel_rfl) ?_
        simp only [aP, lI, l0, lS]
        first | show Exit.then _ _ _ _ _ | show Exit.inBlock _ _ _ _ _
        have hn : ((pre ++ ren (rs.take j) (n : Int)) ++ vlst x ++ vlst y) = pre ++ ren (rs.take (j + 1)) (n : Int) := by
          rw [ren_take rs (n : Int) j hlt, hx, hy, Int.toNat_natCast, Int.toNat_natCast]
          simp only [List.append_assoc]
        rw [hn] at O_8 hL8
        rw [show (((pre ++ ren (rs.take j) (n : Int)) ++ vlst x ++ vlst y).length) = (pre ++ ren (rs.take (j + 1)) (n : Int)).length by rw [hn]]
        rw [show (rgz rs j).2 = fr_ rs (n : Int) (j + 1) from (fr_succ rs (n : Int) j).symm]
        have HS := show Hid _ from (And.intro O_8 (And.intro M (show (pre ++ ren (rs.take (j + 1)) (n : Int)).length ≤ 25 + 16 * (j + 1) by omega)))
        clear O_8 M hn hL8 hx hy
        go_wp2
        go_roundw
        case rel => first | exact ⟨j + 1, _, _, by omega, rfl, rfl, by go_num, HS.out⟩ | ((repeat apply Exists.intro); refine ⟨⟨j + 1, _, _, by omega, rfl, rfl, ?_, HS.out⟩, rfl⟩ <;> first | rfl | go_num)
        case measure => simp [intOf]; omega
      · have hjq : j = rs.length := by omega
        have g1 : ¬ (j : Int) < ((rs.length : Nat) : Int) := by omega
        go_upto_region 17 with fail
        refine wp_region_list ?_
        refine readL (.int .i64 (j : Int)) rfl (by kernel_rfl) ?_
        simp only [aP, lI, l0, lS]
        refine readL (.pointer (some ⟨B1, 3, none⟩)) rfl (by kernel_rfl) ?_
        simp only [aP, lI, l0, lS]
        refine readL (.slice rp rs.length rc) rfl (load1 22 _ ⟨B1, 3, none⟩ _ rfl rfl (fun _ => by kernel_rfl) (M.get List.mem_cons_self 3 _ rfl)) ?_
        simp only [aP, lI, l0, lS]
        refine readL (.int .i64 ((rs.length : Nat) : Int)) rfl (lenS _ 22 43 rp rs.length rc rfl Try.underlying22 rfl _) ?_
        simp only [aP, lI, l0, lS]
        refine readL (.bool false) rfl (lssI .i64 _ _ _ _ _ _ rfl rfl rfl false (decide_eq_false g1) _) ?_
        simp only [aP, lI, l0, lS]
        first | show Exit.then _ _ _ _ _ | show Exit.inBlock _ _ _ _ _
        have HS := show Hid _ from (And.intro (O_0.lower (base' := w.heap.size) (Nat.le_succ_of_le (M.lo List.mem_cons_self))) (And.intro M.below (show fen ⟨2, (n : Int), (m : Int), rs, [], z8⟩ = pre ++ ren (rs.take j) (n : Int) by rw [hjq, List.take_length]; exact hfin)))
        clear O_0 M hL0 hfin hjq g1
        go_wp2
        go_ret
        exact ⟨_, rfl, by rw [HS.out.2.2]; exact HS.out.1, HS.out.2.1⟩
  | got a l rs h hl hr h8 =>
    obtain ⟨n, rfl⟩ := Int.eq_ofNat_of_zero_le h.1
    obtain ⟨m, rfl⟩ := Int.eq_ofNat_of_zero_le hl.1
    show Calls Try.prog 23 #[.agg #[.int .i64 7, .int .i64 (n : Int), .int .i64 (m : Int), .slice rp rs.length rc, .slice bp 0 bc, .int .u8 0, .int .u8 0, .int .u8 0, .int .u8 0, .int .u8 0, .int .u8 0, .int .u8 0, .int .u8 0]] w _
    have M := Mm.init w
    go_enter Try.func23, Try.ntmps23
    go_upto_region 0 with fail
    refine wp_region_list ?_
    refine actL (w' := w.alloc (.cells #[.int .i64 7, .int .i64 (n : Int), .int .i64 (m : Int), .slice rp rs.length rc, .slice bp 0 bc, .int .u8 0, .int .u8 0, .int .u8 0, .int .u8 0, .int .u8 0, .int .u8 0, .int .u8 0, .int .u8 0] 26)) (.pointer (some ⟨w.heap.size, 0, none⟩)) rfl (by kernel_rfl) ?_
    simp only [aP, lI, l0, lS]
    replace M := M.box #[.int .i64 7, .int .i64 (n : Int), .int .i64 (m : Int), .slice rp rs.length rc, .slice bp 0 bc, .int .u8 0, .int .u8 0, .int .u8 0, .int .u8 0, .int .u8 0, .int .u8 0, .int .u8 0, .int .u8 0] 26 w.heap.size rfl
    generalize w.alloc (.cells #[.int .i64 7, .int .i64 (n : Int), .int .i64 (m : Int), .slice rp rs.length rc, .slice bp 0 bc, .int .u8 0, .int .u8 0, .int .u8 0, .int .u8 0, .int .u8 0, .int .u8 0, .int .u8 0, .int .u8 0] 26) = w1 at M ⊢
    generalize w.heap.size = B1 at *
    replace M : Mm w [(B1, [.int .i64 7, .int .i64 (n : Int), .int .i64 (m : Int), .slice rp rs.length rc, .slice bp 0 bc, .int .u8 0, .int .u8 0, .int .u8 0, .int .u8 0, .int .u8 0, .int .u8 0, .int .u8 0, .int .u8 0])] w1 := M
    refine readL (.slice none 0 0) rfl (by kernel_rfl) ?_
    simp only [aP, lI, l0, lS]
    first | show Exit.then _ _ _ _ _ | show Exit.inBlock _ _ _ _ _
    go_upto_region 1 with fail
    refine wp_region_list ?_
    refine readL (.pointer (some ⟨B1, 0, none⟩)) rfl (by kernel_rfl) ?_
    simp only [aP, lI, l0, lS]
    refine readL (.int .i64 7) rfl (load1 3 _ ⟨B1, 0, none⟩ _ rfl rfl (fun _ => by kernel_rfl) (M.get List.mem_cons_self 0 _ rfl)) ?_
    simp only [aP, lI, l0, lS]
    refine readL (.int .u8 7) rfl (convI .i64 .u8 _ _ _ _ _ rfl (by kernel_rfl) Try.underlying5 (by kernel_rfl) rfl (by rw [IntKind.wrap_u8']; rfl) _) ?_
    simp only [aP, lI, l0, lS]
    refine actL (w' := w1.alloc (.cells #[.int .u8 7] 5)) (.slice (some ⟨w1.heap.size, 0, none⟩) 1 1) rfl (by kernel_rfl) ?_
    simp only [aP, lI, l0, lS]
    have O_2 : OwnL (w1.alloc (.cells #[.int .u8 7] 5)) (B1 + 1) [7] (.slice (some ⟨w1.heap.size, 0, none⟩) 1 1) := Own.lit w1 (B1 + 1) 5 .u8 1 (bl [7]) (M.lt List.mem_cons_self) (by unfold maxLen; omega)
    replace M := M.call ((Below.refl w1.heap.size w1).alloc (Nat.le_refl _) (.cells #[.int .u8 7] 5))
    generalize w1.alloc (.cells #[.int .u8 7] 5) = w2 at M O_2 ⊢
    generalize hp2 : (some ⟨w1.heap.size, 0, none⟩ : Option Addr) = p2 at O_2 ⊢
    clear hp2
    have hL2 : ([7] : List Int).length ≤ 1 := Nat.le_refl _
    refine readL (.slice p2 1 1) rfl (by kernel_rfl) ?_
    simp only [aP, lI, l0, lS]
    first | show Exit.then _ _ _ _ _ | show Exit.inBlock _ _ _ _ _
    go_upto_region 2 with fail
    refine wp_region_list ?_
    refine readL (.pointer (some ⟨B1, 0, none⟩)) rfl (by kernel_rfl) ?_
    simp only [aP, lI, l0, lS]
    refine readL (.int .i64 7) rfl (load1 3 _ ⟨B1, 0, none⟩ _ rfl rfl (fun _ => by kernel_rfl) (M.get List.mem_cons_self 0 _ rfl)) ?_
    simp only [aP, lI, l0, lS]
    refine readL (.bool false) rfl (eqlI .i64 _ _ _ _ _ _ rfl rfl rfl false (by decide) _) ?_
    simp only [aP, lI, l0, lS]
    refine readL (.bool false) rfl (by kernel_rfl) ?_
    simp only [aP, lI, l0, lS]
    refine readL (.pointer (some ⟨B1, 0, none⟩)) rfl (by kernel_rfl) ?_
    simp only [aP, lI, l0, lS]
    refine readL (.int .i64 7) rfl (load1 3 _ ⟨B1, 0, none⟩ _ rfl rfl (fun _ => by kernel_rfl) (M.get List.mem_cons_self 0 _ rfl)) ?_
    simp only [aP, lI, l0, lS]
    refine readL (.bool false) rfl (eqlI .i64 _ _ _ _ _ _ rfl rfl rfl false (by decide) _) ?_
    simp only [aP, lI, l0, lS]
    refine readL (.bool false) rfl (by kernel_rfl) ?_
    simp only [aP, lI, l0, lS]
    first | show Exit.then _ _ _ _ _ | show Exit.inBlock _ _ _ _ _
    go_upto_region 4 with fail
    refine wp_region_list ?_
    refine readL (.slice p2 1 1) rfl (by kernel_rfl) ?_
    simp only [aP, lI, l0, lS]
    refine readL (.pointer (some ⟨B1, 1, none⟩)) rfl (by kernel_rfl) ?_
    simp only [aP, lI, l0, lS]
    refine readL (.int .i64 (n : Int)) rfl (load1 3 _ ⟨B1, 1, none⟩ _ rfl rfl (fun _ => by kernel_rfl) (M.get List.mem_cons_self 1 _ rfl)) ?_
    simp only [aP, lI, l0, lS]
    refine callL rfl (fun _ => by kernel_rfl) (rput_any p2 1 ([7]) (by omega) O_2.nilCap n (by omega) _ O_2.src) ?_
    rintro e w3 ⟨v, rfl, O_3, l⟩
    replace O_3 := O_3.lower (base' := (B1 + 1)) (M.lt List.mem_cons_self)
    replace M := M.call l
    obtain ⟨p3, c3, rfl, _, _⟩ := O_3.bytes
    have hL3 : ([7] ++ vlst n).length ≤ 1 + 8 := by rw [List.length_append, vlst_length]; have := vsz_le n; omega
    clear l O_2
    refine ⟨_, rfl, ?_⟩
    simp only [aP, lI, l0, lS]
    refine readL (.slice p3 (([7] ++ vlst n).length) c3) rfl (by kernel_rfl) ?_
    simp only [aP, lI, l0, lS]
    first | show Exit.then _ _ _ _ _ | show Exit.inBlock _ _ _ _ _
    go_upto_region 5 with fail
    refine wp_region_list ?_
    refine readL (.pointer (some ⟨B1, 0, none⟩)) rfl (by kernel_rfl) ?_
    simp only [aP, lI, l0, lS]
    refine readL (.int .i64 7) rfl (load1 3 _ ⟨B1, 0, none⟩ _ rfl rfl (fun _ => by kernel_rfl) (M.get List.mem_cons_self 0 _ rfl)) ?_
    simp only [aP, lI, l0, lS]
    first | show Exit.then _ _ _ _ _ | show Exit.inBlock _ _ _ _ _
    go_upto_region 7 with fail
    refine wp_region_list ?_
    refine readL (.bool false) rfl (eqlI .i64 _ _ _ _ _ _ rfl rfl rfl false (by decide) _) ?_
    simp only [aP, lI, l0, lS]
    refine readL (.bool false) rfl (by kernel_rfl) ?_
    simp only [aP, lI, l0, lS]
    first | show Exit.then _ _ _ _ _ | show Exit.inBlock _ _ _ _ _
    go_upto_region 9 with fail
    refine wp_region_list ?_
    refine readL (.bool false) rfl (eqlI .i64 _ _ _ _ _ _ rfl rfl rfl false (by decide) _) ?_
    simp only [aP, lI, l0, lS]
    refine readL (.bool false) rfl (by kernel_rfl) ?_
    simp only [aP, lI, l0, lS]
    first | show Exit.then _ _ _ _ _ | show Exit.inBlock _ _ _ _ _
    go_upto_region 10 with fail
    refine wp_region_list ?_
    refine readL (.bool true) rfl (eqlI .i64 _ _ _ _ _ _ rfl rfl rfl true (by decide) _) ?_
    simp only [aP, lI, l0, lS]
    refine readL (.bool true) rfl (by kernel_rfl) ?_
    simp only [aP, lI, l0, lS]
    first | show Exit.then _ _ _ _ _ | show Exit.inBlock _ _ _ _ _
    go_upto_region 11 with fail
    refine wp_region_list ?_
    refine readL (.slice p3 (([7] ++ vlst n).length) c3) rfl (by kernel_rfl) ?_
    simp only [aP, lI, l0, lS]
    refine readL (.pointer (some ⟨B1, 2, none⟩)) rfl (by kernel_rfl) ?_
    simp only [aP, lI, l0, lS]
    refine readL (.int .i64 (m : Int)) rfl (load1 3 _ ⟨B1, 2, none⟩ _ rfl rfl (fun _ => by kernel_rfl) (M.get List.mem_cons_self 2 _ rfl)) ?_
    simp only [aP, lI, l0, lS]
    refine callL rfl (fun _ => by kernel_rfl) (rput_any p3 c3 ([7] ++ vlst n) (by omega) O_3.nilCap m (by omega) _ O_3.src) ?_
    rintro e w4 ⟨v, rfl, O_4, l⟩
    replace O_4 := O_4.lower (base' := (B1 + 1)) (M.lt List.mem_cons_self)
    replace M := M.call l
    obtain ⟨p4, c4, rfl, _, _⟩ := O_4.bytes
    have hL4 : ([7] ++ vlst n ++ vlst m).length ≤ 1 + 8 + 8 := by rw [List.length_append, vlst_length]; have := vsz_le m; omega
    clear l O_3
    refine ⟨_, rfl, ?_⟩
    simp only [aP, lI, l0, lS]
    refine readL (.slice p4 (([7] ++ vlst n ++ vlst m).length) c4) rfl (by kernel_rfl) ?_
    simp only [aP, lI, l0, lS]
    first | show Exit.then _ _ _ _ _ | show Exit.inBlock _ _ _ _ _
    go_upto_region 12 with fail
    refine wp_region_list ?_
    refine readL (.slice p4 (([7] ++ vlst n ++ vlst m).length) c4) rfl (by kernel_rfl) ?_
    simp only [aP, lI, l0, lS]
    refine readL (.pointer (some ⟨B1, 3, none⟩)) rfl (by kernel_rfl) ?_
    simp only [aP, lI, l0, lS]
    refine readL (.slice rp rs.length rc) rfl (load1 22 _ ⟨B1, 3, none⟩ _ rfl rfl (fun _ => by kernel_rfl) (M.get List.mem_cons_self 3 _ rfl)) ?_
    simp only [aP, lI, l0, lS]
    refine readL (.int .i64 ((rs.length : Nat) : Int)) rfl (lenS _ 22 43 rp rs.length rc rfl Try.underlying22 rfl _) ?_
    simp only [aP, lI, l0, lS]
    refine callL rfl (fun _ => by kernel_rfl) (rput_any p4 c4 ([7] ++ vlst n ++ vlst m) (by omega) O_4.nilCap rs.length (by omega) _ O_4.src) ?_
    rintro e w5 ⟨v, rfl, O_5, l⟩
    replace O_5 := O_5.lower (base' := (B1 + 1)) (M.lt List.mem_cons_self)
    replace M := M.call l
    obtain ⟨p5, c5, rfl, _, _⟩ := O_5.bytes
    have hL5 : ([7] ++ vlst n ++ vlst m ++ vlst rs.length).length ≤ 1 + 8 + 8 + 8 := by rw [List.length_append, vlst_length]; have := vsz_le rs.length; omega
    clear l O_4
    refine ⟨_, rfl, ?_⟩
    simp only [aP, lI, l0, lS]
    refine readL (.slice p5 (([7] ++ vlst n ++ vlst m ++ vlst rs.length).length) c5) rfl (by kernel_rfl) ?_
    simp only [aP, lI, l0, lS]
    first | show Exit.then _ _ _ _ _ | show Exit.inBlock _ _ _ _ _
    go_upto_region 13 with fail
    refine wp_region_list ?_
    refine readL (.int .i64 0) rfl (by kernel_rfl) ?_
    simp only [aP, lI, l0, lS]
    first | show Exit.then _ _ _ _ _ | show Exit.inBlock _ _ _ _ _
    go_upto_region 14 with fail
    refine wp_region_list ?_
    refine readL (.pointer (some ⟨B1, 0, none⟩)) rfl (by kernel_rfl) ?_
    simp only [aP, lI, l0, lS]
    refine readL (.int .i64 7) rfl (load1 3 _ ⟨B1, 0, none⟩ _ rfl rfl (fun _ => by kernel_rfl) (M.get List.mem_cons_self 0 _ rfl)) ?_
    simp only [aP, lI, l0, lS]
    refine readL (.bool false) rfl (eqlI .i64 _ _ _ _ _ _ rfl rfl rfl false (by decide) _) ?_
    simp only [aP, lI, l0, lS]
    first | show Exit.then _ _ _ _ _ | show Exit.inBlock _ _ _ _ _
    have hrk := rok_at hr (by omega)
    obtain ⟨pre, hpre⟩ : ∃ p, p = ([7] ++ vlst n ++ vlst m ++ vlst rs.length) := ⟨_, rfl⟩
    rw [← hpre] at O_5 hL5
    have hfin : fen ⟨7, (n : Int), (m : Int), rs, [], z8⟩ = pre ++ ren rs 0 := by
      rw [hpre]
      show 7 :: (vlst n ++ (vlst m ++ (vlst rs.length ++ ren rs 0))) = [7] ++ vlst n ++ vlst m ++ vlst rs.length ++ ren rs 0
      simp only [List.append_assoc, List.cons_append, List.nil_append]
    have hpl : ([7] ++ vlst n ++ vlst m ++ vlst rs.length).length = pre.length := by rw [hpre]
    rw [hpl]
    clear hpl hpre
    have HI := show Hid _ from (And.intro O_5 M)
    clear O_5 M
    go_wp2
    go_loopw [3, 4, 5] (fun bw lw i w' => ∃ (j : Nat) (sp : Option Addr) (cap : Nat), j ≤ rs.length ∧ bw = .slice sp (pre ++ ren (rs.take j) 0).length cap ∧ lw = .int .i64 (fr_ rs 0 j) ∧ i = .int .i64 (j : Int) ∧ OwnL w' (B1 + 1) (pre ++ ren (rs.take j) 0) (.slice sp (pre ++ ren (rs.take j) 0).length cap) ∧ Mm w [(B1, [.int .i64 7, .int .i64 (n : Int), .int .i64 (m : Int), .slice rp rs.length rc, .slice bp 0 bc, .int .u8 0, .int .u8 0, .int .u8 0, .int .u8 0, .int .u8 0, .int .u8 0, .int .u8 0, .int .u8 0])] w' ∧ (pre ++ ren (rs.take j) 0).length ≤ 25 + 16 * j) (fun _ _ i _ => rs.length - (intOf i).toNat)
    case atStart =>
      have e0 : pre ++ ren (rs.take 0) 0 = pre := List.append_nil _
      refine ⟨0, p5, c5, Nat.zero_le _, ?_, rfl, rfl, ?_, HI.out.2, ?_⟩
      · rw [e0]
      · rw [e0]; exact HI.out.1
      · rw [e0]; omega
    case round =>
      clear HI
      obtain ⟨j, sp, cap, hj, rfl, rfl, rfl, O_0, M, hL0⟩ := hrel
      by_cases hlt : j < rs.length
      · have g1 : (j : Int) < ((rs.length : Nat) : Int) := by omega
        obtain ⟨ad, e0, _⟩ := hf.rg j hlt
        subst e0
        obtain ⟨q1, q2, q3, q4⟩ := hrk j hlt
        have q5 : (n : Int) ≤ 4611686018427387903 := by omega
        obtain ⟨x, hx⟩ := Int.eq_ofNat_of_zero_le (show 0 ≤ (rgz rs j).1 - fr_ rs 0 j by omega)
        obtain ⟨y, hy⟩ := Int.eq_ofNat_of_zero_le (show 0 ≤ (rgz rs j).2 - (rgz rs j).1 by omega)
        go_upto_region 17 with fail
        refine wp_region_list ?_
        refine readL (.int .i64 (j : Int)) rfl (by kernel_rfl) ?_
        simp only [aP, lI, l0, lS]
        refine readL (.pointer (some ⟨B1, 3, none⟩)) rfl (by kernel_rfl) ?_
        simp only [aP, lI, l0, lS]
        refine readL (.slice (some ad) rs.length rc) rfl (load1 22 _ ⟨B1, 3, none⟩ _ rfl rfl (fun _ => by kernel_rfl) (M.get List.mem_cons_self 3 _ rfl)) ?_
        simp only [aP, lI, l0, lS]
        refine readL (.int .i64 ((rs.length : Nat) : Int)) rfl (lenS _ 22 43 (some ad) rs.length rc rfl Try.underlying22 rfl _) ?_
        simp only [aP, lI, l0, lS]
        refine readL (.bool true) rfl (lssI .i64 _ _ _ _ _ _ rfl rfl rfl true (decide_eq_true g1) _) ?_
        simp only [aP, lI, l0, lS]
        first | show Exit.then _ _ _ _ _ | show Exit.inBlock _ _ _ _ _
        go_upto_region 19 with fail
        refine wp_region_list ?_
        refine readL (.slice sp ((pre ++ ren (rs.take j) 0).length) cap) rfl (by kernel_rfl) ?_
        simp only [aP, lI, l0, lS]
        refine readL (.pointer (some ⟨B1, 3, none⟩)) rfl (by kernel_rfl) ?_
        simp only [aP, lI, l0, lS]
        refine readL (.slice (some ad) rs.length rc) rfl (load1 22 _ ⟨B1, 3, none⟩ _ rfl rfl (fun _ => by kernel_rfl) (M.get List.mem_cons_self 3 _ rfl)) ?_
        simp only [aP, lI, l0, lS]
        refine readL (.int .i64 (j : Int)) rfl (by kernel_rfl) ?_
        simp only [aP, lI, l0, lS]
        refine readL (.pointer (some (ad.add (j * 2)))) rfl (idxN 22 43 2 rs.length rc ad j _ _ Try.underlying22 (fun _ => by kernel_rfl) hlt rfl rfl rfl _) ?_
        simp only [aP, lI, l0, lS]
        refine readL (.pointer (some (ad.add (j * 2)))) rfl (by kernel_rfl) ?_
        simp only [aP, lI, l0, lS]
        refine readL (.int .i64 ((rgz rs j).1)) rfl (load1 3 _ (ad.add (j * 2)) _ rfl rfl (fun _ => by kernel_rfl) (((hf.rg.below M.below (Nat.le_refl _)).at j hlt).1)) ?_
        simp only [aP, lI, l0, lS]
        refine readL (.int .i64 (fr_ rs 0 j)) rfl (by kernel_rfl) ?_
        simp only [aP, lI, l0, lS]
        refine readL (.int .i64 (x : Int)) rfl (subI .i64 _ _ _ _ _ _ _ rfl rfl rfl (by rw [IntKind.wrap_i64]; omega) _) ?_
        simp only [aP, lI, l0, lS]
        refine callL rfl (fun _ => by kernel_rfl) (rput_any sp cap (pre ++ ren (rs.take j) 0) (by omega) O_0.nilCap x (by omega) _ O_0.src) ?_
        rintro e w6 ⟨v, rfl, O_6, l⟩
        replace O_6 := O_6.lower (base' := (B1 + 1)) (M.lt List.mem_cons_self)
        replace M := M.call l
        obtain ⟨p6, c6, rfl, _, _⟩ := O_6.bytes
        have hL6 : ((pre ++ ren (rs.take j) 0) ++ vlst x).length ≤ 25 + 16 * j + 8 := by rw [List.length_append, vlst_length]; have := vsz_le x; omega
        clear l O_0
        refine ⟨_, rfl, ?_⟩
        simp only [aP, lI, l0, lS]
        refine readL (.slice p6 (((pre ++ ren (rs.take j) 0) ++ vlst x).length) c6) rfl (by kernel_rfl) ?_
        simp only [aP, lI, l0, lS]
        first | show Exit.then _ _ _ _ _ | show Exit.inBlock _ _ _ _ _
        go_upto_region 20 with fail
        refine wp_region_held_drew (S := fun w' => Mm w [(B1, [.int .i64 7, .int .i64 (n : Int), .int .i64 (m : Int), .slice (some ad) rs.length rc, .slice bp 0 bc, .int .u8 0, .int .u8 0, .int .u8 0, .int .u8 0, .int .u8 0, .int .u8 0, .int .u8 0, .int .u8 0])] w') (by kernel_rfl) M.drew ?_
        clear M
        intro M
        replace O_6 := O_6.drew
        generalize w6.drew = w7 at M O_6 ⊢
        refine readH (i := 0) (some 73) rfl (.slice p6 (((pre ++ ren (rs.take j) 0) ++ vlst x).length) c6) rfl rfl (fun _ M => (by kernel_rfl)) (by kernel_rfl) (by kernel_rfl) (by kernel_rfl) (fun _ _ _ h => h) M ?_
        simp only [aP, lI, l0, lS]
        refine readH (i := 1) (some 74) rfl (.pointer (some ⟨B1, 3, none⟩)) rfl rfl (fun _ M => (by kernel_rfl)) (by kernel_rfl) (by kernel_rfl) (by kernel_rfl) (fun _ _ _ h => h) M ?_
        simp only [aP, lI, l0, lS]
        refine readH (i := 2) (some 75) rfl (.slice (some ad) rs.length rc) rfl rfl (fun _ M => load1 22 _ ⟨B1, 3, none⟩ _ rfl rfl (fun _ => by kernel_rfl) (M.get List.mem_cons_self 3 _ rfl)) (by kernel_rfl) (by kernel_rfl) (by kernel_rfl) (fun _ _ _ h => h) M ?_
        simp only [aP, lI, l0, lS]
        refine readH (i := 3) (some 76) rfl (.int .i64 (j : Int)) rfl rfl (fun _ M => (by kernel_rfl)) (by kernel_rfl) (by kernel_rfl) (by kernel_rfl) (fun _ _ _ h => h) M ?_
        simp only [aP, lI, l0, lS]
        refine readH (i := 4) (some 77) rfl (.pointer (some (ad.add (j * 2)))) rfl rfl (fun _ M => idxN 22 43 2 rs.length rc ad j _ _ Try.underlying22 (fun _ => by kernel_rfl) hlt rfl rfl rfl _) (by kernel_rfl) (by kernel_rfl) (by kernel_rfl) (fun _ _ _ h => h) M ?_
        simp only [aP, lI, l0, lS]
        refine readH (i := 5) (some 78) rfl (.pointer (some ((ad.add (j * 2)).add 1))) rfl rfl (fun _ M => (by kernel_rfl)) (by kernel_rfl) (by kernel_rfl) (by kernel_rfl) (fun _ _ _ h => h) M ?_
        simp only [aP, lI, l0, lS]
        refine readH (i := 6) (some 79) rfl (.int .i64 ((rgz rs j).2)) rfl rfl (fun _ M => load1 3 _ ((ad.add (j * 2)).add 1) _ rfl rfl (fun _ => by kernel_rfl) (((hf.rg.below M.below (Nat.le_refl _)).at j hlt).2)) (by kernel_rfl) (by kernel_rfl) (by kernel_rfl) (fun _ _ _ h => h) M ?_
        simp only [aP, lI, l0, lS]
        refine readH (i := 7) (some 80) rfl (.pointer (some ⟨B1, 3, none⟩)) rfl rfl (fun _ M => (by kernel_rfl)) (by kernel_rfl) (by kernel_rfl) (by kernel_rfl) (fun _ _ _ h => h) M ?_
        simp only [aP, lI, l0, lS]
        refine readH (i := 8) (some 81) rfl (.slice (some ad) rs.length rc) rfl rfl (fun _ M => load1 22 _ ⟨B1, 3, none⟩ _ rfl rfl (fun _ => by kernel_rfl) (M.get List.mem_cons_self 3 _ rfl)) (by kernel_rfl) (by kernel_rfl) (by kernel_rfl) (fun _ _ _ h => h) M ?_
        simp only [aP, lI, l0, lS]
        refine readH (i := 9) (some 82) rfl (.int .i64 (j : Int)) rfl rfl (fun _ M => (by kernel_rfl)) (by kernel_rfl) (by kernel_rfl) (by kernel_rfl) (fun _ _ _ h => h) M ?_
        simp only [aP, lI, l0, lS]
        refine readH (i := 10) (some 83) rfl (.pointer (some (ad.add (j * 2)))) rfl rfl (fun _ M => idxN 22 43 2 rs.length rc ad j _ _ Try.underlying22 (fun _ => by kernel_rfl) hlt rfl rfl rfl _) (by kernel_rfl) (by kernel_rfl) (by kernel_rfl) (fun _ _ _ h => h) M ?_
        simp only [aP, lI, l0, lS]
        refine readH (i := 11) (some 84) rfl (.pointer (some (ad.add (j * 2)))) rfl rfl (fun _ M => (by kernel_rfl)) (by kernel_rfl) (by kernel_rfl) (by kernel_rfl) (fun _ _ _ h => h) M ?_
        simp only [aP, lI, l0, lS]
        refine readH (i := 12) (some 85) rfl (.int .i64 ((rgz rs j).1)) rfl rfl (fun _ M => load1 3 _ (ad.add (j * 2)) _ rfl rfl (fun _ => by kernel_rfl) (((hf.rg.below M.below (Nat.le_refl _)).at j hlt).1)) (by kernel_rfl) (by kernel_rfl) (by kernel_rfl) (fun _ _ _ h => h) M ?_
        simp only [aP, lI, l0, lS]
        refine readH (i := 13) (some 86) rfl (.int .i64 (y : Int)) rfl rfl (fun _ M => subI .i64 _ _ _ _ _ _ _ rfl rfl rfl (by rw [IntKind.wrap_i64]; omega) _) (by kernel_rfl) (by kernel_rfl) (by kernel_rfl) (fun _ _ _ h => h) M ?_
        simp only [aP, lI, l0, lS]
        refine callH (i := 14) (some 87) rfl (by kernel_rfl) rfl rfl (fun _ => by kernel_rfl) (rput_any p6 c6 ((pre ++ ren (rs.take j) 0) ++ vlst x) (by omega) O_6.nilCap y (by omega) _ O_6.src) ?_
        rintro e w8 ⟨v, rfl, O_8, l⟩
        replace O_8 := O_8.lower (base' := (B1 + 1)) (M.lt List.mem_cons_self)
        replace M := M.call l
        obtain ⟨p8, c8, rfl, _, _⟩ := O_8.bytes
        have hL8 : ((pre ++ ren (rs.take j) 0) ++ vlst x ++ vlst y).length ≤ 25 + 16 * j + 8 + 8 := by rw [List.length_append, vlst_length]; have := vsz_le y; omega
        clear l O_6
        refine ⟨_, rfl, M, ?_⟩
        simp only [aP, lI, l0, lS]
        refine readH (i := 15) (some 3) rfl (.slice p8 (((pre ++ ren (rs.take j) 0) ++ vlst x ++ vlst y).length) c8) rfl rfl (fun _ M => (by kernel_rfl)) (by kernel_rfl) (by kernel_rfl) (by kernel_rfl) (fun _ _ _ h => h) M ?_
        simp only [aP, lI, l0, lS]
        refine wpAnyH_done (by kernel_rfl) ?_ _
        first | show Exit.then _ _ _ _ _ | show Exit.inBlock _ _ _ _ _
        go_upto_region 21 with fail
        refine wp_region_list ?_
        refine readL (.pointer (some ⟨B1, 3, none⟩)) rfl (by kernel_rfl) ?_
        simp only [aP, lI, l0, lS]
        refine readL (.slice (some ad) rs.length rc) rfl (load1 22 _ ⟨B1, 3, none⟩ _ rfl rfl (fun _ => by kernel_rfl) (M.get List.mem_cons_self 3 _ rfl)) ?_
        simp only [aP, lI, l0, lS]
        refine readL (.int .i64 (j : Int)) rfl (by kernel_rfl) ?_
        simp only [aP, lI, l0, lS]
        refine readL (.pointer (some (ad.add (j * 2)))) rfl (idxN 22 43 2 rs.length rc ad j _ _ Try.underlying22 (fun _ => by kernel_rfl) hlt rfl rfl rfl _) ?_
        simp only [aP, lI, l0, lS]
        refine readL (.pointer (some ((ad.add (j * 2)).add 1))) rfl (by kernel_rfl) ?_
        simp only [aP, lI, l0, lS]
        refine readL (.int .i64 ((rgz rs j).2)) rfl (load1 3 _ ((ad.add (j * 2)).add 1) _ rfl rfl (fun _ => by kernel_rfl) (((hf.rg.below M.below (Nat.le_refl _)).at j hlt).2)) ?_
        simp only [aP, lI, l0, lS]
        refine readL (.int .i64 ((rgz rs j).2)) rfl (by kernel_rfl) ?_
        simp only [aP, lI, l0, lS]
        first | show Exit.then _ _ _ _ _ | show Exit.inBlock _ _ _ _ _
        have hn : ((pre ++ ren (rs.take j) 0) ++ vlst x ++ vlst y) = pre ++ ren (rs.take (j + 1)) 0 := by
          rw [ren_take rs 0 j hlt, hx, hy, Int.toNat_natCast, Int.toNat_natCast]
          simp only [List.append_assoc]
        rw [hn] at O_8 hL8
        rw [show (((pre ++ ren (rs.take j) 0) ++ vlst x ++ vlst y).length) = (pre ++ ren (rs.take (j + 1)) 0).length by rw [hn]]
        rw [show (rgz rs j).2 = fr_ rs 0 (j + 1) from (fr_succ rs 0 j).symm]
        have HS := show Hid _ from (And.intro O_8 (And.intro M (show (pre ++ ren (rs.take (j + 1)) 0).length ≤ 25 + 16 * (j + 1) by omega)))
        clear O_8 M hn hL8 hx hy
        go_wp2
        go_roundw
        case rel => first | exact ⟨j + 1, _, _, by omega, rfl, rfl, by go_num, HS.out⟩ | ((repeat apply Exists.intro); refine ⟨⟨j + 1, _, _, by omega, rfl, rfl, ?_, HS.out⟩, rfl⟩ <;> first | rfl | go_num)
        case measure => simp [intOf]; omega
      · have hjq : j = rs.length := by omega
        have g1 : ¬ (j : Int) < ((rs.length : Nat) : Int) := by omega
        go_upto_region 17 with fail
        refine wp_region_list ?_
        refine readL (.int .i64 (j : Int)) rfl (by kernel_rfl) ?_
        simp only [aP, lI, l0, lS]
        refine readL (.pointer (some ⟨B1, 3, none⟩)) rfl (by kernel_rfl) ?_
        simp only [aP, lI, l0, lS]
        refine readL (.slice rp rs.length rc) rfl (load1 22 _ ⟨B1, 3, none⟩ _ rfl rfl (fun _ => by kernel_rfl) (M.get List.mem_cons_self 3 _ rfl)) ?_
        simp only [aP, lI, l0, lS]
        refine readL (.int .i64 ((rs.length : Nat) : Int)) rfl (lenS _ 22 43 rp rs.length rc rfl Try.underlying22 rfl _) ?_
        simp only [aP, lI, l0, lS]
        refine readL (.bool false) rfl (lssI .i64 _ _ _ _ _ _ rfl rfl rfl false (decide_eq_false g1) _) ?_
        simp only [aP, lI, l0, lS]
        first | show Exit.then _ _ _ _ _ | show Exit.inBlock _ _ _ _ _
        have HS := show Hid _ from (And.intro (O_0.lower (base' := w.heap.size) (Nat.le_succ_of_le (M.lo List.mem_cons_self))) (And.intro M.below (show fen ⟨7, (n : Int), (m : Int), rs, [], z8⟩ = pre ++ ren (rs.take j) 0 by rw [hjq, List.take_length]; exact hfin)))
        clear O_0 M hL0 hfin hjq g1
        go_wp2
        go_ret
        exact ⟨_, rfl, by rw [HS.out.2.2]; exact HS.out.1, HS.out.2.1⟩
end Go.Proofs.Yteaamgjlkohfcaa

namespace Go.Proofs.Yteaamgjlkohfcaa
open Go.RowKit

/-- Frames, one behind the other. -/
def Frs (w : World) (sp : Option Addr) (fs : List Frm) : Prop := ∀ j f, fs[j]? = some f → ∃ ad rp rc bp bc, sp = some ad ∧ (∀ k v, (fcs f rp rc bp bc)[k]? = some v → w.cell? ((ad.add (j * 13)).add k) = some v) ∧ FV w f rp rc bp bc
theorem Frs.below {w w' : World} {sp : Option Addr} {fs : List Frm} (h : Frs w sp fs) {B : Nat} (b : Below B w w') (hB : w.heap.size ≤ B) : Frs w' sp fs := fun j f hj => by
  obtain ⟨ad, rp, rc, bp, bc, rfl, h1, h2⟩ := h j f hj
  exact ⟨ad, rp, rc, bp, bc, rfl, fun k v hv => by rw [b.cell (Nat.lt_of_lt_of_le (World.block_lt_of_cell? w _ (h1 k v hv)) hB)]; exact h1 k v hv, h2.below b hB⟩
theorem Frs.wf {w : World} {sp : Option Addr} {fs : List Frm} (h : Frs w sp fs) : ∀ f ∈ fs, FrW f := fun f hf => by
  obtain ⟨j, hj⟩ := List.getElem?_of_mem hf
  obtain ⟨_, _, _, _, _, _, _, h2⟩ := h j f hj
  exact h2.wf
theorem Frs.nil (w : World) (sp : Option Addr) : Frs w sp [] := fun j f hj => by simp at hj
def exE {α : Type} : Except Int α → Int
  | .ok _ => 0
  | .error e => e
def exL {α : Type} : Except Int (List α) → List α
  | .ok l => l
  | .error _ => []
def EncR (fs : List Frm) (B : Nat) (e : Ending) (w' : World) : Prop := ∃ v, e = .returned (.tuple #[v, .int .i64 (exE (en fs))]) ∧ OwnL w' B (exL (en fs)) v
def DecR (b : List Int) (e : Ending) (w' : World) : Prop := ∃ sp cap, e = .returned (.tuple #[.slice sp (exL (de b)).length cap, .int .i64 (exE (de b))]) ∧ (exL (de b)).length ≤ cap ∧ (sp = none → cap = 0) ∧ Frs w' sp (exL (de b))
def fsz (f : Frm) : Int := if fok f = true then ((fen f).length : Int) else 0
def CheckOK : Prop := ∀ f rp rc bp bc (w : World), FV w f rp rc bp bc → Calls Try.prog 10 #[.agg (fcs f rp rc bp bc).toArray] w fun e w' => e = .returned (.int .i64 (fchk f)) ∧ Below w.heap.size w w'
def SizeOK : Prop := ∀ f rp rc bp bc (w : World), FV w f rp rc bp bc → Calls Try.prog 12 #[.agg (fcs f rp rc bp bc).toArray] w fun e w' => e = .returned (.int .i64 (fsz f)) ∧ Below w.heap.size w w'
def EncodeOK : Prop := ∀ (sp : Option Addr) (cap : Nat) (fs : List Frm) (w : World), fs.length ≤ 140737488351232 → fs.length ≤ cap → (sp = none → cap = 0) → Frs w sp fs → Calls Try.prog 14 #[.slice sp fs.length cap] w fun e w' => EncR fs w.heap.size e w' ∧ Below w.heap.size w w'
def DecodeOK : Prop := ∀ (sp : Option Addr) (cap : Nat) (b : List Int) (w : World), b.length ≤ 140737488351232 → b.length ≤ cap → (sp = none → cap = 0) → Byts b → Src w sp b.length (bl b) → Calls Try.prog 16 #[.slice sp b.length cap] w fun e w' => DecR b e w' ∧ Below w.heap.size w w'
theorem ren_len : ∀ (l : List (Int × Int)) (fr : Int), (ren l fr).length ≤ 16 * l.length
  | [], _ => Nat.le_refl _
  | p :: l, fr => by
    have := ren_len l p.2
    have := vsz_le (p.1 - fr).toNat
    have := vsz_le (p.2 - p.1).toNat
    show (vlst (p.1 - fr).toNat ++ (vlst (p.2 - p.1).toNat ++ ren l p.2)).length ≤ 16 * (l.length + 1)
    rw [List.length_append, List.length_append, vlst_length, vlst_length]
    omega
theorem fen_len (f : Frm) (h : Ok f) (h8 : f.tok.length = 8) : (fen f).length ≤ 160 := by
  unfold fen
  rw [List.length_cons]
  cases h using Ok.elim with
  | tok k t hk =>
    have e : fbo ⟨k, 0, 0, [], [], t⟩ = t := by unfold fbo; rw [if_pos hk]
    rw [e]
    simp only at h8
    omega
  | data a t h h1 h2 =>
    show (vlst a.toNat ++ (vlst t.length ++ t)).length + 1 ≤ 160
    have := vsz_le a.toNat
    have := vsz_le t.length
    rw [List.length_append, List.length_append, vlst_length, vlst_length]
    omega
  | upd a h =>
    show (vlst a.toNat ++ []).length + 1 ≤ 160
    have := vsz_le a.toNat
    rw [List.append_nil, vlst_length]
    omega
  | close a h =>
    show (vlst a.toNat ++ []).length + 1 ≤ 160
    have := vsz_le a.toNat
    rw [List.append_nil, vlst_length]
    omega
  | ack a l rs h hl hr h8 =>
    show (vlst a.toNat ++ (vlst l.toNat ++ (vlst rs.length ++ ren rs a))).length + 1 ≤ 160
    have := vsz_le a.toNat
    have := vsz_le l.toNat
    have := vsz_le rs.length
    have := ren_len rs a
    simp only [List.length_append, vlst_length]
    omega
  | got a l rs h hl hr h8 =>
    show (vlst a.toNat ++ (vlst l.toNat ++ (vlst rs.length ++ ren rs 0))).length + 1 ≤ 160
    have := vsz_le a.toNat
    have := vsz_le l.toNat
    have := vsz_le rs.length
    have := ren_len rs 0
    simp only [List.length_append, vlst_length]
    omega
theorem enb_take (fs : List Frm) (j : Nat) (f : Frm) (hf : fs[j]? = some f) : enb (fs.take (j + 1)) = enb (fs.take j) ++ fen f := by
  have hj : j < fs.length := by
    rcases Nat.lt_or_ge j fs.length with h | h
    · exact h
    · rw [List.getElem?_eq_none h] at hf; cases hf
  rw [List.take_add_one, hf, enb_app]
  show _ ++ (fen f ++ []) = _
  rw [List.append_nil]
theorem fchk_ok {f : Frm} (h : fok f = true) : fchk f = 0 := by unfold fchk; rw [if_pos h]
theorem fchk_bad {f : Frm} (h : fok f = false) : fchk f = 100 := by unfold fchk; rw [h]; rfl

set_option maxRecDepth 10000 in
set_option maxHeartbeats 32000000 in
theorem rencode_any (sp : Option Addr) (cap : Nat) (fs : List Frm) (w : World) (hn : fs.length ≤ 140737488351232) (hfs : Frs w sp fs) :
    Calls Try.prog 15 #[.slice sp fs.length cap] w fun e w' => EncR fs w.heap.size e w' ∧ Below w.heap.size w w' := by
  have M := Mm.init w
  go_enter Try.func15, Try.ntmps15
  by_cases h16 : 16 < fs.length
  · go_upto_region 1 with fail
    refine wp_region_list ?_
    refine readL (.slice sp fs.length cap) rfl (by kernel_rfl) ?_
    simp only [aP, lI, l0, lS]
    refine readL (.int .i64 ((fs.length : Nat) : Int)) rfl (lenS _ 32 26 sp fs.length cap rfl Try.underlying32 rfl _) ?_
    simp only [aP, lI, l0, lS]
    refine readL (.bool true) rfl (gtrI .i64 _ _ _ _ _ _ rfl rfl rfl true (decide_eq_true (by omega)) _) ?_
    simp only [aP, lI, l0, lS]
    first | show Exit.then _ _ _ _ _ | show Exit.inBlock _ _ _ _ _
    have hA : en fs = .error 2 := by unfold en; rw [if_pos h16]
    replace hA := show Hid _ from hA
    clear h16
    go_wp2
    go_ret2
    exact ⟨⟨_, by rw [hA.out]; rfl, by rw [hA.out]; exact World.ownsRow_nil _ _ _ 1⟩, M.below⟩
  · go_upto_region 1 with fail
    refine wp_region_list ?_
    refine readL (.slice sp fs.length cap) rfl (by kernel_rfl) ?_
    simp only [aP, lI, l0, lS]
    refine readL (.int .i64 ((fs.length : Nat) : Int)) rfl (lenS _ 32 26 sp fs.length cap rfl Try.underlying32 rfl _) ?_
    simp only [aP, lI, l0, lS]
    refine readL (.bool false) rfl (gtrI .i64 _ _ _ _ _ _ rfl rfl rfl false (decide_eq_false (by omega)) _) ?_
    simp only [aP, lI, l0, lS]
    first | show Exit.then _ _ _ _ _ | show Exit.inBlock _ _ _ _ _
    go_upto_region 3 with fail
    refine wp_region_list ?_
    refine actL (w' := w.alloc (.cells #[] 5)) (.slice (some ⟨w.heap.size, 0, none⟩) 0 0) rfl (by kernel_rfl) ?_
    simp only [aP, lI, l0, lS]
    have O_1 : OwnL (w.alloc (.cells #[] 5)) w.heap.size [] (.slice (some ⟨w.heap.size, 0, none⟩) 0 0) := Own.lit w w.heap.size 5 .u8 0 (bl []) M.below.size (by unfold maxLen; omega)
    replace M := M.call ((Below.refl w.heap.size w).alloc (Nat.le_refl _) (.cells #[] 5))
    generalize w.alloc (.cells #[] 5) = w1 at M O_1 ⊢
    generalize hp1 : (some ⟨w.heap.size, 0, none⟩ : Option Addr) = p1 at O_1 ⊢
    clear hp1
    refine readL (.slice p1 0 0) rfl (by kernel_rfl) ?_
    simp only [aP, lI, l0, lS]
    first | show Exit.then _ _ _ _ _ | show Exit.inBlock _ _ _ _ _
    have HI := show Hid _ from (And.intro O_1 M)
    clear O_1 M
    go_wp2
    go_loopw [4, 5] (fun bw i w' => ∃ (j : Nat) (p : Option Addr) (c : Nat), j ≤ fs.length ∧ bw = .slice p (enb (fs.take j)).length c ∧ i = .int .i64 (j : Int) ∧ OwnL w' w.heap.size (enb (fs.take j)) (.slice p (enb (fs.take j)).length c) ∧ Mm w [] w' ∧ (fs.take j).all fok = true ∧ (enb (fs.take j)).length ≤ 160 * j) (fun _ i _ => fs.length - (intOf i).toNat)
    case atStart => exact ⟨0, p1, 0, Nat.zero_le _, rfl, rfl, HI.out.1, HI.out.2, rfl, Nat.zero_le _⟩
    case round =>
      clear HI
      obtain ⟨j, p, c, hj, rfl, rfl, O_1, M, hall, hL⟩ := hrel
      by_cases hlt : j < fs.length
      · obtain ⟨f, hfj⟩ : ∃ f, fs[j]? = some f := ⟨_, List.getElem?_eq_getElem hlt⟩
        obtain ⟨ad, rp, rc, bp, bc, rfl, hF, hf⟩ := hfs j f hfj
        replace hF : ∀ {w' : World}, Below w.heap.size w w' → ∀ k v, (fcs f rp rc bp bc)[k]? = some v → w'.cell? ((ad.add (j * 13)).add k) = some v := fun b k v hv => by rw [b.cell (World.block_lt_of_cell? w _ (hF k v hv))]; exact hF k v hv
        have g1 : (j : Int) < ((fs.length : Nat) : Int) := by omega
        go_upto_region 5 with fail
        refine wp_region_list ?_
        refine readL (.int .i64 (j : Int)) rfl (by kernel_rfl) ?_
        simp only [aP, lI, l0, lS]
        refine readL (.slice (some ad) fs.length cap) rfl (by kernel_rfl) ?_
        simp only [aP, lI, l0, lS]
        refine readL (.int .i64 ((fs.length : Nat) : Int)) rfl (lenS _ 32 26 (some ad) fs.length cap rfl Try.underlying32 rfl _) ?_
        simp only [aP, lI, l0, lS]
        refine readL (.bool true) rfl (lssI .i64 _ _ _ _ _ _ rfl rfl rfl true (decide_eq_true g1) _) ?_
        simp only [aP, lI, l0, lS]
        first | show Exit.then _ _ _ _ _ | show Exit.inBlock _ _ _ _ _
        cases hok : fok f with
        | true =>
          have e1 := fchk_ok hok
          have hfl := fen_len f ((fok_iff f).1 hok) hf.wf.eight
          go_upto_region 7 with fail
          refine wp_region_list ?_
          refine readL (.slice (some ad) fs.length cap) rfl (by kernel_rfl) ?_
          simp only [aP, lI, l0, lS]
          refine readL (.int .i64 (j : Int)) rfl (by kernel_rfl) ?_
          simp only [aP, lI, l0, lS]
          refine readL (.pointer (some (ad.add (j * 13)))) rfl (idxN 32 26 13 fs.length cap ad j _ _ Try.underlying32 (fun _ => by kernel_rfl) hlt rfl rfl rfl _) ?_
          simp only [aP, lI, l0, lS]
          refine readL (.agg #[.int .i64 f.kind, .int .i64 f.pos, .int .i64 f.lim, .slice rp f.rg.length rc, .slice bp f.byt.length bc, .int .u8 (bl f.tok 0), .int .u8 (bl f.tok 1), .int .u8 (bl f.tok 2), .int .u8 (bl f.tok 3), .int .u8 (bl f.tok 4), .int .u8 (bl f.tok 5), .int .u8 (bl f.tok 6), .int .u8 (bl f.tok 7)]) rfl (loadN 26 _ (ad.add (j * 13)) [.int .i64 f.kind, .int .i64 f.pos, .int .i64 f.lim, .slice rp f.rg.length rc, .slice bp f.byt.length bc, .int .u8 (bl f.tok 0), .int .u8 (bl f.tok 1), .int .u8 (bl f.tok 2), .int .u8 (bl f.tok 3), .int .u8 (bl f.tok 4), .int .u8 (bl f.tok 5), .int .u8 (bl f.tok 6), .int .u8 (bl f.tok 7)] rfl rfl (fun _ => by kernel_rfl) (fun _ => by kernel_rfl) (hF M.below)) ?_
          simp only [aP, lI, l0, lS]
          have hC : Calls Try.prog 11 #[.agg #[.int .i64 f.kind, .int .i64 f.pos, .int .i64 f.lim, .slice rp f.rg.length rc, .slice bp f.byt.length bc, .int .u8 (bl f.tok 0), .int .u8 (bl f.tok 1), .int .u8 (bl f.tok 2), .int .u8 (bl f.tok 3), .int .u8 (bl f.tok 4), .int .u8 (bl f.tok 5), .int .u8 (bl f.tok 6), .int .u8 (bl f.tok 7)]] wr (fun e w' => e = .returned (.int .i64 (fchk f)) ∧ Below wr.heap.size wr w') := rcheck_any f rp rc bp bc _ (hf.below M.below (Nat.le_refl _))
          refine callL rfl (fun _ => by kernel_rfl) (hC) ?_
          rintro e w2 ⟨rfl, l⟩
          replace M := M.call l
          refine ⟨_, rfl, ?_⟩
          replace O_1 := O_1.below l
          clear l hC
          simp only [aP, lI, l0, lS]
          refine readL (.bool false) rfl (neqI .i64 _ _ _ _ _ _ rfl rfl rfl false (by rw [e1]; rfl) _) ?_
          simp only [aP, lI, l0, lS]
          first | show Exit.then _ _ _ _ _ | show Exit.inBlock _ _ _ _ _
          go_upto_region 9 with fail
          refine wp_region_list ?_
          refine readL (.slice p ((enb (fs.take j)).length) c) rfl (by kernel_rfl) ?_
          simp only [aP, lI, l0, lS]
          refine readL (.slice (some ad) fs.length cap) rfl (by kernel_rfl) ?_
          simp only [aP, lI, l0, lS]
          refine readL (.int .i64 (j : Int)) rfl (by kernel_rfl) ?_
          simp only [aP, lI, l0, lS]
          refine readL (.pointer (some (ad.add (j * 13)))) rfl (idxN 32 26 13 fs.length cap ad j _ _ Try.underlying32 (fun _ => by kernel_rfl) hlt rfl rfl rfl _) ?_
          simp only [aP, lI, l0, lS]
          refine readL (.agg #[.int .i64 f.kind, .int .i64 f.pos, .int .i64 f.lim, .slice rp f.rg.length rc, .slice bp f.byt.length bc, .int .u8 (bl f.tok 0), .int .u8 (bl f.tok 1), .int .u8 (bl f.tok 2), .int .u8 (bl f.tok 3), .int .u8 (bl f.tok 4), .int .u8 (bl f.tok 5), .int .u8 (bl f.tok 6), .int .u8 (bl f.tok 7)]) rfl (loadN 26 _ (ad.add (j * 13)) [.int .i64 f.kind, .int .i64 f.pos, .int .i64 f.lim, .slice rp f.rg.length rc, .slice bp f.byt.length bc, .int .u8 (bl f.tok 0), .int .u8 (bl f.tok 1), .int .u8 (bl f.tok 2), .int .u8 (bl f.tok 3), .int .u8 (bl f.tok 4), .int .u8 (bl f.tok 5), .int .u8 (bl f.tok 6), .int .u8 (bl f.tok 7)] rfl rfl (fun _ => by kernel_rfl) (fun _ => by kernel_rfl) (hF M.below)) ?_
          simp only [aP, lI, l0, lS]
          refine callL rfl (fun _ => by kernel_rfl) (rone_any f ((fok_iff f).1 hok) rp rc bp bc _ (hf.below M.below (Nat.le_refl _))) ?_
          rintro e w3 ⟨v, rfl, O_2, l⟩
          replace M := M.call l
          replace O_1 := O_1.below l
          clear l
          obtain ⟨p2, c2, rfl, _, _⟩ := O_2.bytes
          refine ⟨_, rfl, ?_⟩
          simp only [aP, lI, l0, lS]
          obtain ⟨v, w4, hr, O_4, hgr, _⟩ := run_append_Own (P := Try.prog) (ty := 23) Try.underlying23 one8 O_1 p2 ((fen f).length) c2 (bl (fen f)) O_2.src O_2.nilCap (by unfold maxLen; omega) (by omega) M.below.size
          replace M := M.grown hgr w.heap.size (fun p hp => by cases hp) (Nat.le_refl _) M.below.size (fun b hb => (World.ownsRow.lt O_1 b hb).1)
          replace O_4 : OwnL w4 w.heap.size (enb (fs.take j) ++ fen f) v := OwnL.app O_4
          refine actL v rfl (appendOp _ _ 23 _ _ _ rfl rfl rfl hr) ?_
          simp only [aP, lI, l0, lS]
          clear hr hgr O_1
          obtain ⟨p4, c4, rfl, _, _⟩ := O_4.bytes
          refine readL (.slice p4 ((enb (fs.take j) ++ fen f).length) c4) rfl (by kernel_rfl) ?_
          simp only [aP, lI, l0, lS]
          first | show Exit.then _ _ _ _ _ | show Exit.inBlock _ _ _ _ _
          have hn2 : (enb (fs.take j) ++ fen f) = enb (fs.take (j + 1)) := (enb_take fs j f hfj).symm
          have HS := show Hid _ from (And.intro O_4 (And.intro M (And.intro (show (fs.take (j + 1)).all fok = true by rw [List.take_add_one, hfj, List.all_append, hall]; simp [hok]) (show (enb (fs.take (j + 1))).length ≤ 160 * (j + 1) by rw [← hn2, List.length_append]; omega))))
          rw [hn2] at HS ⊢
          clear O_4 M hall hL hfl e1 hn2
          go_wp2
          go_roundw
          case rel => first | exact ⟨j + 1, _, _, by omega, rfl, by go_num, HS.out⟩ | ((repeat apply Exists.intro); refine ⟨⟨j + 1, _, _, by omega, rfl, ?_, HS.out⟩, rfl⟩ <;> first | rfl | go_num)
          case measure => simp [intOf]; omega
        | false =>
          have e1 := fchk_bad hok
          go_upto_region 7 with fail
          refine wp_region_list ?_
          refine readL (.slice (some ad) fs.length cap) rfl (by kernel_rfl) ?_
          simp only [aP, lI, l0, lS]
          refine readL (.int .i64 (j : Int)) rfl (by kernel_rfl) ?_
          simp only [aP, lI, l0, lS]
          refine readL (.pointer (some (ad.add (j * 13)))) rfl (idxN 32 26 13 fs.length cap ad j _ _ Try.underlying32 (fun _ => by kernel_rfl) hlt rfl rfl rfl _) ?_
          simp only [aP, lI, l0, lS]
          refine readL (.agg #[.int .i64 f.kind, .int .i64 f.pos, .int .i64 f.lim, .slice rp f.rg.length rc, .slice bp f.byt.length bc, .int .u8 (bl f.tok 0), .int .u8 (bl f.tok 1), .int .u8 (bl f.tok 2), .int .u8 (bl f.tok 3), .int .u8 (bl f.tok 4), .int .u8 (bl f.tok 5), .int .u8 (bl f.tok 6), .int .u8 (bl f.tok 7)]) rfl (loadN 26 _ (ad.add (j * 13)) [.int .i64 f.kind, .int .i64 f.pos, .int .i64 f.lim, .slice rp f.rg.length rc, .slice bp f.byt.length bc, .int .u8 (bl f.tok 0), .int .u8 (bl f.tok 1), .int .u8 (bl f.tok 2), .int .u8 (bl f.tok 3), .int .u8 (bl f.tok 4), .int .u8 (bl f.tok 5), .int .u8 (bl f.tok 6), .int .u8 (bl f.tok 7)] rfl rfl (fun _ => by kernel_rfl) (fun _ => by kernel_rfl) (hF M.below)) ?_
          simp only [aP, lI, l0, lS]
          have hC : Calls Try.prog 11 #[.agg #[.int .i64 f.kind, .int .i64 f.pos, .int .i64 f.lim, .slice rp f.rg.length rc, .slice bp f.byt.length bc, .int .u8 (bl f.tok 0), .int .u8 (bl f.tok 1), .int .u8 (bl f.tok 2), .int .u8 (bl f.tok 3), .int .u8 (bl f.tok 4), .int .u8 (bl f.tok 5), .int .u8 (bl f.tok 6), .int .u8 (bl f.tok 7)]] wr (fun e w' => e = .returned (.int .i64 (fchk f)) ∧ Below wr.heap.size wr w') := rcheck_any f rp rc bp bc _ (hf.below M.below (Nat.le_refl _))
          refine callL rfl (fun _ => by kernel_rfl) (hC) ?_
          rintro e w5 ⟨rfl, l⟩
          replace M := M.call l
          refine ⟨_, rfl, ?_⟩
          replace O_1 := O_1.below l
          clear l hC
          simp only [aP, lI, l0, lS]
          refine readL (.bool true) rfl (neqI .i64 _ _ _ _ _ _ rfl rfl rfl true (by rw [e1]; rfl) _) ?_
          simp only [aP, lI, l0, lS]
          first | show Exit.then _ _ _ _ _ | show Exit.inBlock _ _ _ _ _
          have hA : en fs = .error 100 := by unfold en; rw [if_neg h16, if_pos]; cases ha : fs.all fok with | false => rfl | true => exact absurd (List.all_eq_true.1 ha f (List.mem_of_getElem? hfj)) (by rw [hok]; decide)
          replace hA := show Hid _ from hA
          clear O_1 hall hL e1
          go_wp2
          go_ret2
          exact ⟨⟨_, by rw [hA.out]; rfl, by rw [hA.out]; exact World.ownsRow_nil _ _ _ 1⟩, M.below⟩
      · have hjq : j = fs.length := by omega
        have g1 : ¬ (j : Int) < ((fs.length : Nat) : Int) := by omega
        have htk : fs.take j = fs := by rw [hjq, List.take_length]
        go_upto_region 5 with fail
        refine wp_region_list ?_
        refine readL (.int .i64 (j : Int)) rfl (by kernel_rfl) ?_
        simp only [aP, lI, l0, lS]
        refine readL (.slice sp fs.length cap) rfl (by kernel_rfl) ?_
        simp only [aP, lI, l0, lS]
        refine readL (.int .i64 ((fs.length : Nat) : Int)) rfl (lenS _ 32 26 sp fs.length cap rfl Try.underlying32 rfl _) ?_
        simp only [aP, lI, l0, lS]
        refine readL (.bool false) rfl (lssI .i64 _ _ _ _ _ _ rfl rfl rfl false (decide_eq_false g1) _) ?_
        simp only [aP, lI, l0, lS]
        first | show Exit.then _ _ _ _ _ | show Exit.inBlock _ _ _ _ _
        by_cases h256 : 256 < (enb (fs.take j)).length
        · go_upto_region 10 with fail
          refine wp_region_list ?_
          refine readL (.slice p ((enb (fs.take j)).length) c) rfl (by kernel_rfl) ?_
          simp only [aP, lI, l0, lS]
          refine readL (.int .i64 (((enb (fs.take j)).length : Nat) : Int)) rfl (lenS _ 23 5 p ((enb (fs.take j)).length) c rfl Try.underlying23 rfl _) ?_
          simp only [aP, lI, l0, lS]
          refine readL (.bool true) rfl (gtrI .i64 _ _ _ _ _ _ rfl rfl rfl true (decide_eq_true (by omega)) _) ?_
          simp only [aP, lI, l0, lS]
          first | show Exit.then _ _ _ _ _ | show Exit.inBlock _ _ _ _ _
          have hA : en fs = .error 2 := by unfold en; rw [htk] at hall h256; rw [if_neg h16, hall, if_neg (by decide), if_pos h256]
          replace hA := show Hid _ from hA
          clear hall hL htk hjq g1 h256 O_1
          go_wp2
          go_ret2
          exact ⟨⟨_, by rw [hA.out]; rfl, by rw [hA.out]; exact World.ownsRow_nil _ _ _ 1⟩, M.below⟩
        · go_upto_region 10 with fail
          refine wp_region_list ?_
          refine readL (.slice p ((enb (fs.take j)).length) c) rfl (by kernel_rfl) ?_
          simp only [aP, lI, l0, lS]
          refine readL (.int .i64 (((enb (fs.take j)).length : Nat) : Int)) rfl (lenS _ 23 5 p ((enb (fs.take j)).length) c rfl Try.underlying23 rfl _) ?_
          simp only [aP, lI, l0, lS]
          refine readL (.bool false) rfl (gtrI .i64 _ _ _ _ _ _ rfl rfl rfl false (decide_eq_false (by omega)) _) ?_
          simp only [aP, lI, l0, lS]
          first | show Exit.then _ _ _ _ _ | show Exit.inBlock _ _ _ _ _
          go_upto_region 12 with fail
          refine wp_region_list ?_
          refine readL (.slice p ((enb (fs.take j)).length) c) rfl (by kernel_rfl) ?_
          simp only [aP, lI, l0, lS]
          refine readL (.slice p ((enb (fs.take j)).length) c) rfl (by kernel_rfl) ?_
          simp only [aP, lI, l0, lS]
          refine readL (.int .i64 0) rfl (by kernel_rfl) ?_
          simp only [aP, lI, l0, lS]
          first | show Exit.then _ _ _ _ _ | show Exit.inBlock _ _ _ _ _
          have hA : en fs = .ok (enb (fs.take j)) := by rw [htk] at hall h256 ⊢; unfold en; rw [if_neg h16, hall, if_neg (by decide), if_neg h256]
          replace hA := show Hid _ from hA
          clear hall hL htk hjq g1 h256
          go_wp2
          go_ret2
          exact ⟨⟨_, by rw [hA.out]; rfl, by rw [hA.out]; exact O_1⟩, M.below⟩
end Go.Proofs.Yteaamgjlkohfcaa

namespace Go.Proofs.Yteaamgjlkohfcaa
open Go.RowKit

theorem rg2 {w : World} {p : Addr} {x y : Int} (h : w.cell? p = some (.int .i64 x) ∧ w.cell? (p.add 1) = some (.int .i64 y)) : ∀ k v, ([.int .i64 x, .int .i64 y] : List Value)[k]? = some v → w.cell? (p.add k) = some v
  | 0, v, hv => by injection hv with hv; subst hv; exact h.1
  | 1, v, hv => by injection hv with hv; subst hv; exact h.2
  | k + 2, v, hv => by simp at hv
end Go.Proofs.Yteaamgjlkohfcaa

namespace Go.Proofs.Yteaamgjlkohfcaa
open Go.RowKit

/-- Nothing that stood is changed but in the blocks X. -/
structure Off (X : List Nat) (w w' : World) : Prop where
  size : w.heap.size ≤ w'.heap.size
  blk : ∀ b, b < w.heap.size → b ∉ X → w'.heap[b]? = w.heap[b]?
section
variable {X Y : List Nat} {w w1 w2 : World}
theorem Off.refl (X : List Nat) (w : World) : Off X w w := ⟨Nat.le_refl _, fun _ _ _ => rfl⟩
theorem Off.trans (h : Off X w w1) (g : Off X w1 w2) : Off X w w2 := ⟨Nat.le_trans h.size g.size, fun b hb hX => (g.blk b (Nat.lt_of_lt_of_le hb h.size) hX).trans (h.blk b hb hX)⟩
theorem Off.mono (h : Off X w w1) (hX : ∀ b ∈ X, b ∈ Y) : Off Y w w1 := ⟨h.size, fun b hb hY => h.blk b hb fun e => hY (hX b e)⟩
theorem Off.of_below (l : Below w.heap.size w w1) : Off X w w1 := ⟨l.size, fun b hb _ => l.block b hb⟩
theorem Off.below (h : Off X w w1) (l : Below w1.heap.size w1 w2) : Off X w w2 := h.trans (.of_below l)
theorem Off.set (h : Off X w w1) {b : Nat} (hb : b ∈ X) (j : Nat) (v : Value) : Off X w (w1.setCell ⟨b, j, none⟩ v) :=
  h.trans ⟨by simp, fun c _ hX => by
    have : c ≠ b := fun e => hX (e ▸ hb)
    simp [World.setCell, Array.getElem?_modify, Ne.symm this]⟩
theorem Off.grown (h : Off X w w1) {r : Option Nat} (g : w1.grownBy w2 r) (hr : ∀ b, r = some b → b ∈ X ∨ w.heap.size ≤ b) : Off X w w2 :=
  ⟨Nat.le_trans h.size g.size, fun b hb hX => by
    rw [g.block b (Nat.lt_of_lt_of_le hb h.size) (fun e => by
      rcases hr b e.symm with h' | h'
      · exact hX h'
      · omega)]
    exact h.blk b hb hX⟩
theorem Off.cell (h : Off X w w1) {p : Addr} {v : Value} (hc : w.cell? p = some v) (hX : p.block ∉ X) : w1.cell? p = some v := by
  rw [World.cell?_of_block (h.blk p.block (World.block_lt_of_cell? w p hc) hX)]
  exact hc
end
/-- Bytes that lie in none of the blocks X. -/
def SrcA (X : List Nat) (w : World) (sp : Option Addr) (n : Nat) (z : Nat → Int) : Prop := Src w sp n z ∧ ∀ ad, sp = some ad → 0 < n → ad.block ∉ X
theorem add_block (p : Addr) (j : Nat) : (p.add j).block = p.block := by unfold Addr.add; split <;> rfl
theorem SrcA.off {X : List Nat} {w w' : World} {sp : Option Addr} {n : Nat} {z : Nat → Int} (h : SrcA X w sp n z) (o : Off X w w') : SrcA X w' sp n z :=
  ⟨fun j hj => by
    obtain ⟨ad, rfl, hc⟩ := h.1 j hj
    exact ⟨ad, rfl, o.cell hc (by rw [add_block]; exact h.2 ad rfl (by omega))⟩, h.2⟩
theorem SrcA.more {X : List Nat} {w : World} {sp : Option Addr} {n : Nat} {z : Nat → Int} (h : SrcA X w sp n z) (b : Nat) (hb : w.heap.size ≤ b) : SrcA (b :: X) w sp n z :=
  ⟨h.1, fun ad e hn hm => by
    obtain ⟨ad', e', hc⟩ := h.1 0 hn
    rw [e] at e'
    injection e' with e'
    subst e'
    have := World.block_lt_of_cell? w _ hc
    rw [add_block] at this
    rcases List.mem_cons.1 hm with rfl | hm
    · omega
    · exact h.2 ad e hn hm⟩
theorem SrcA.less {X Y : List Nat} {w : World} {sp : Option Addr} {n : Nat} {z : Nat → Int} (h : SrcA X w sp n z) (hY : ∀ b ∈ Y, b ∈ X) : SrcA Y w sp n z := ⟨h.1, fun ad e hn hm => h.2 ad e hn (hY _ hm)⟩
theorem SrcA.of_old {X : List Nat} {w : World} {sp : Option Addr} {n : Nat} {z : Nat → Int} (h : Src w sp n z) (hX : ∀ b ∈ X, w.heap.size ≤ b) : SrcA X w sp n z :=
  ⟨h, fun ad e hn hm => by
    obtain ⟨ad', e', hc⟩ := h 0 hn
    rw [e] at e'
    injection e' with e'
    subst e'
    have := World.block_lt_of_cell? w _ hc
    rw [add_block] at this
    have := hX _ hm
    omega⟩
theorem SrcA.of_own {X : List Nat} {w : World} {base : Nat} {e : TypeId} {n : Nat} {z : Nat → Int} {sp : Option Addr} {c : Nat} (h : Own w base e .u8 n z (.slice sp n c)) (hX : ∀ b ∈ X, b < base) : SrcA X w sp n z :=
  ⟨h.src, fun ad e' _ hm => by
    subst e'
    have h1 := (World.ownsRow.lt h ad.block rfl).1
    have h2 := hX ad.block hm
    omega⟩
theorem ownsRow_off {X : List Nat} {w w' : World} {base size n : Nat} {e : TypeId} {v : Value} {xs : List Value} (h : w.ownsRow base e size v n xs) (o : Off X w w') (hX : ∀ b ∈ X, v.ownBlock ≠ some b) : w'.ownsRow base e size v n xs := by
  refine ⟨h.1, ?_⟩
  rcases h.2 with h0 | ⟨g, cap, cur, hv, hb, hg, h5, h6, h7, h8⟩
  · exact .inl h0
  · refine .inr ⟨g, cap, cur, hv, hb, ?_, h5, h6, h7, h8⟩
    have hlt : g < w.heap.size := by
      rcases Nat.lt_or_ge g w.heap.size with h' | h'
      · exact h'
      · rw [Array.getElem?_eq_none h'] at hg; cases hg
    rw [o.blk g hlt (fun hm => hX g hm (by rw [hv]; rfl))]
    exact hg

theorem ownsRow_low {X : List Nat} {w w' : World} {base size n : Nat} {e : TypeId} {v : Value} {xs : List Value} (h : w.ownsRow base e size v n xs) (o : Off X w w') (hX : ∀ b ∈ X, b < base) : w'.ownsRow base e size v n xs :=
  ownsRow_off h o fun b hb e => by
    have h1 := (World.ownsRow.lt h b e).1
    have h2 := hX b hb
    omega
section
variable {P : Program}
/-- A type whose values have several cells. -/
structure Many (P : Program) (e : TypeId) (z : Value) (bytes size : Nat) : Prop where
  info : (P.info? e).map (fun i => (i.zero, i.bytes, i.size)) = some (some z, bytes, size)
theorem run_append_OwnV {w : World} {base : Nat} {t ty e : TypeId} {z : Value} {bytes size n : Nat} {xs : List Value} {v : Value} (ht : P.underlying t = some (.slice e)) (he : Many P e z bytes size) (hzs : z.cells.size = size) (hs0 : 0 < size) (h : w.ownsRow base e size v n xs)
    (ad : Addr) (m c : Nat) (news : List Value) (hl : news.length = m * size) (hnews : ∀ j u, news[j]? = some u → w.cell? (ad.add j) = some u) (h1c : ∀ u ∈ news, u.oneCell' = true) (h63 : n + m ≤ maxLen) (hb : (n + m) * bytes ≤ 140737488355328) (hbase : base ≤ w.heap.size) :
    ∃ v' w', (Builtin.append_ #[t, t] ty #[v, .slice (some ad) m c]).run P w = .ok v' w' ∧ w'.ownsRow base e size v' (n + m) (xs ++ news) ∧ w.grownBy w' v.ownBlock ∧ (∀ g, v'.ownBlock = some g → v.ownBlock = some g ∨ g = w.heap.size) := by
  obtain ⟨i, hi, hq⟩ := Option.map_eq_some_iff.1 he.info
  simp only [Prod.mk.injEq] at hq
  obtain ⟨h1, h2, h3⟩ := hq
  obtain ⟨v', w', hr, ho, hg, _⟩ := run_append_own (P := P) w base t ty e i z size bytes ht hi h1 h3 h2 hzs hs0 v n _ h ad m c news hl hnews h1c h63 hb hbase
  refine ⟨v', w', hr, ho, hg, ?_⟩
  have hml : news.length = m * i.size := by rw [h3]; exact hl
  rcases h.2 with ⟨rfl, rfl⟩ | ⟨g, cap, cur, rfl, hbg, hgg, hnc, hcm, hcs, htake⟩
  · by_cases hm : m = 0
    · subst hm
      have hr2 : (Builtin.append_ #[t, t] ty #[.slice none 0 0, .slice (some ad) 0 c]).run P w = .ok (.slice none 0 0) w := by
        simp [Builtin.append_, run_underlying ht, sizeOf, typeInfo, hi, Builtin.lenOf, Builtin.firstCells, loadCells, loadCellsFrom]
      rw [hr] at hr2
      injection hr2 with hv' _
      rw [hv']
      intro g hg'
      cases hg'
    · have hr2 := run_append_nil (P := P) w t ty e i z ht hi h1 ad m c news hml hnews (by omega) (by unfold maxLen at h63; omega) (by rw [h2]; have := hb; simp only [Nat.zero_add] at this; omega)
      rw [hr] at hr2
      injection hr2 with hv' _
      rw [hv']
      intro g hg'
      injection hg' with hg'
      exact .inr hg'.symm
  · by_cases hroom : n + m ≤ cap
    · have hr2 := run_append_room (P := P) w t ty e i ht hi g n cap cur hgg ad m c news hml hnews h1c hroom (by rw [hml, hcs, h3]; exact (by rw [← Nat.add_mul]; exact Nat.mul_le_mul_right size hroom))
      rw [hr] at hr2
      injection hr2 with hv' _
      rw [hv']
      intro g' hg'
      exact .inl hg'
    · have hr2 := run_append_grow (P := P) w t ty e i z ht hi h1 ⟨g, 0, none⟩ n cap xs (by rw [h.1, h3]) (World.ownsRow.cells h (g := g) rfl) ad m c news hml hnews (by omega) (by unfold maxLen at h63; omega) (by rw [h2]; exact growslice_fits (by omega) hb)
      rw [hr] at hr2
      injection hr2 with hv' _
      rw [hv']
      intro g' hg'
      injection hg' with hg'
      exact .inr hg'.symm
end
theorem Mm.off {w0 w w' : World} {l : List (Nat × List Value)} (h : Mm w0 l w) {X : List Nat} (o : Off X w w') (hX : ∀ b ∈ X, w0.heap.size ≤ b) (hl : ∀ p ∈ l, p.1 ∉ X) (hos : w'.os = w.os ∧ w'.tape = w.tape ∧ w'.output = w.output) : Mm w0 l w' :=
  ⟨fun p hp => ⟨fun j hj => by
    have e := o.blk p.1 (h.rows p hp).2.2 (hl p hp)
    rw [World.cell?_of_block (a := ⟨p.1, j, none⟩) e, World.frozen?_of_block (a := ⟨p.1, j, none⟩) e]
    exact (h.rows p hp).1 j hj, (h.rows p hp).2.1, Nat.lt_of_lt_of_le (h.rows p hp).2.2 o.size⟩, h.apart,
   ⟨hos.1.trans h.below.os, hos.2.1.trans h.below.tape, hos.2.2.trans h.below.output, Nat.le_trans h.below.size o.size, fun b hb => (o.blk b (Nat.lt_of_lt_of_le hb h.below.size) (fun hm => by have := hX b hm; omega)).trans (h.below.block b hb)⟩⟩
end Go.Proofs.Yteaamgjlkohfcaa

namespace Go.Proofs.Yteaamgjlkohfcaa
open Go.RowKit

def vcap : Value → Nat
  | .slice _ _ c => c
  | _ => 0

section
variable {P : Program}
theorem run_append_Room {w : World} {base : Nat} {t ty e : TypeId} {k : IntKind} {bytes n : Nat} {f : Nat → Int} {v : Value} (ht : P.underlying t = some (.slice e)) (he : One P e k bytes) (h : Own w base e k n f v)
    (sp : Option Addr) (m c : Nat) (hv : Nat → Int) (hs : ∀ j, j < m → ∃ ad, sp = some ad ∧ w.cell? (ad.add j) = some (.int k (hv j))) (hz : sp = none → c = 0) (hroom : n + m ≤ vcap v) :
    ∃ v' w', (Builtin.append_ #[t, t] ty #[v, .slice sp m c]).run P w = .ok v' w' ∧ Own w' base e k (n + m) (app f n hv) v' ∧ w.grownBy w' v.ownBlock ∧ vcap v' = vcap v ∧ v'.ownBlock = v.ownBlock := by
  obtain ⟨i, hi, hq⟩ := Option.map_eq_some_iff.1 he.info
  simp only [Prod.mk.injEq] at hq
  obtain ⟨_, _, h3⟩ := hq
  cases sp with
  | none =>
    have hm : m = 0 := by
      rcases Nat.eq_zero_or_pos m with h0 | h0
      · exact h0
      · obtain ⟨ad, e, _⟩ := hs 0 h0; cases e
    subst hm
    obtain rfl := hz rfl
    exact ⟨v, w, run_append_owned_none (P := P) (w := w) base t ty e i 1 ht hi v n _ h, h.congr fun j hj => by unfold app; rw [if_pos hj], ⟨rfl, rfl, rfl, Nat.le_refl _, fun _ _ _ => rfl⟩, rfl, rfl⟩
  | some ad =>
    have hnews : ∀ j u, (row k m hv)[j]? = some u → w.cell? (ad.add j) = some u := fun j u hu => by
      obtain ⟨hj, rfl⟩ := row_get_some hu
      obtain ⟨ad', e', hc⟩ := hs j hj
      injection e' with e'
      subst e'
      exact hc
    have hml : (row k m hv).length = m * i.size := by rw [row_length, h3, Nat.mul_one]
    have hlen : (row k n f ++ row k m hv).length = (n + m) * 1 := by rw [List.length_append, row_length, row_length, Nat.mul_one]
    rcases h.2 with ⟨rfl, rfl⟩ | ⟨g, cap, cur, rfl, hbg, hgg, hnc, hcm, hcs, htake⟩
    · have hm : m = 0 := by simp only [vcap] at hroom; omega
      subst hm
      refine ⟨.slice none 0 0, w, ?_, h.congr fun j hj => absurd hj (Nat.not_lt_zero j), ⟨rfl, rfl, rfl, Nat.le_refl _, fun _ _ _ => rfl⟩, rfl, rfl⟩
      simp [Builtin.append_, run_underlying ht, sizeOf, typeInfo, hi, Builtin.lenOf, Builtin.firstCells, loadCells, loadCellsFrom]
    · have hroom' : n + m ≤ cap := hroom
      have hr2 := run_append_room (P := P) w t ty e i ht hi g n cap cur hgg ad m c (row k m hv) hml hnews (row_one k m hv) hroom' (by rw [hml, hcs, h3]; omega)
      refine ⟨_, _, hr2, ?_, ⟨rfl, rfl, rfl, by simp, fun q _ hq => setRow_other w g q _ (fun e => hq (by simp [Value.ownBlock, e]))⟩, rfl, rfl⟩
      unfold Own
      rw [← row_app]
      rw [Nat.mul_one] at htake hcs
      refine ⟨hlen, .inr ⟨g, cap, _, rfl, hbg, setRow_heap w g cur _ e _ hgg, hroom', hcm, ?_, ?_⟩⟩
      · simp only [List.size_toArray, List.length_append, List.length_take, List.length_drop, Array.length_toList, row_length, h3, Nat.mul_one]
        omega
      · simp only [h3, Nat.mul_one, htake]
        have e2 : n + m = (row k n f ++ row k m hv).length := by rw [hlen, Nat.mul_one]
        rw [e2]
        exact List.take_left
end
section
variable {P : Program} {o : Oper} {a : Act}
theorem appendNOp {w w' : World} (s x : Operand) (t u : TypeId) (v n r : Value) (ho : o.op = .call { callee := .builtin .append, args := #[s, x], argTypes := #[t, u] }) (hs : a.eval s = v) (hx : a.eval x = n) (hr : (Builtin.append_ #[t, u] o.type #[v, n]).run P w = .ok r w') :
    (execOp a.eval o).run P w = .ok (.value r) w' := by
  unfold execOp
  simp only [ho, resolve, invoke, builtin, Sem.run_bind, Sem.run_pure, Result.andThen_ok, List.map_toArray, List.map_cons, List.map_nil, hs, hx, hr]
end
end Go.Proofs.Yteaamgjlkohfcaa

namespace Go.Proofs.Yteaamgjlkohfcaa
open Go.RowKit

/-- How many bytes the first slices have together, and which. -/
def tot (ln : Nat → Nat) : Nat → Nat
  | 0 => 0
  | j + 1 => tot ln j + ln j
def catz (ln : Nat → Nat) (zz : Nat → Nat → Int) : Nat → Nat → Int
  | 0 => fun _ => 0
  | j + 1 => app (catz ln zz j) (tot ln j) (zz j)
theorem tot_mono (ln : Nat → Nat) {i : Nat} : ∀ {j : Nat}, i ≤ j → tot ln i ≤ tot ln j
  | 0, h => by obtain rfl : i = 0 := by omega
               exact Nat.le_refl _
  | j + 1, h => by
    rcases Nat.lt_or_ge j i with h' | h'
    · obtain rfl : i = j + 1 := by omega
      exact Nat.le_refl _
    · have := tot_mono ln h'
      show _ ≤ tot ln j + ln j
      omega
theorem loadSl {P : Program} {o : Oper} {a : Act} {w : World} (ty e : TypeId) (x : Operand) (p : Addr) (v : Value) (ho : o.op = .load ty x) (hx : a.eval x = .pointer (some p)) (hu : P.underlying ty = some (.slice e)) (hc : w.cell? p = some v) : (execOp a.eval o).run P w = .ok (.value v) w := by
  have hagg : (isAgg ty).run P w = .ok false w := by
    unfold isAgg
    rw [Sem.run_bind, run_underlying hu w]
    rfl
  have e : (loadVar ty p).run P w = .ok v w := by simp [loadVar, Sem.run_bind, hagg, hc]
  unfold execOp
  simp only [ho, hx, Instr.loadAt, Instr.sureAddr, Sem.run_bind, Sem.run_pure, Result.andThen_ok, e]
theorem cut_none (g n cap : Nat) (w : World) : (Instr.sliceAt 23 (.slice (some ⟨g, 0, none⟩) n cap) none (some (.int .i64 0)) none).run Try.prog w = .ok (.slice (some ⟨g, 0, none⟩) 0 cap) w := by
  rw [run_sliceAt_slice w 23 _ _ _ _ (by kernel_rfl), run_slice_h w 23 _ n cap (by kernel_rfl) .i64 0 (by omega) (by omega), show (sizeOf (Try.prog.elem 23)).run Try.prog w = .ok 1 w by kernel_rfl]
  simp [Result.andThen, sliced, Addr.add_mid]

set_option maxRecDepth 10000 in
set_option maxHeartbeats 4000000 in
theorem grow_any (n : Nat) (hn : n ≤ 281474976710656) (w : World) :
    Calls Try.prog 50 #[.slice none 0 0, .int .i64 (n : Int)] w fun e w' => ∃ v, e = .returned v ∧ Own w' w.heap.size 5 .u8 0 (fun _ => 0) v ∧ n ≤ vcap v ∧ Below w.heap.size w w' := by
  have h0 : ¬ (n : Int) < 0 := by omega
  go_enter Try.func50, Try.ntmps50
  go_upto_region 3 with fail
  clear h0
  refine wp_region_list ?_
  refine pureL (.int .i64 (n : Int)) rfl (fun _ => by kernel_rfl) ?_
  simp only [aP, lI, l0, lS]
  refine pureL (.slice none 0 0) rfl (fun _ => by kernel_rfl) ?_
  simp only [aP, lI, l0, lS]
  refine pureL (.int .i64 0) rfl (fun _ => by kernel_rfl) ?_
  simp only [aP, lI, l0, lS]
  refine pureL (.slice none 0 0) rfl (fun _ => by kernel_rfl) ?_
  simp only [aP, lI, l0, lS]
  refine pureL (.int .i64 0) rfl (fun _ => by kernel_rfl) ?_
  simp only [aP, lI, l0, lS]
  refine pureL (.int .i64 0) rfl (fun _ => by kernel_rfl) ?_
  simp only [aP, lI, l0, lS]
  refine pureL (.int .i64 (n : Int)) rfl (fun w => subI .i64 _ _ _ _ _ _ _ rfl rfl rfl (by rw [IntKind.wrap_i64]; omega) w) ?_
  simp only [aP, lI, l0, lS]
  refine pureL (.int .i64 (n : Int)) rfl (fun _ => by kernel_rfl) ?_
  simp only [aP, lI, l0, lS]
  show Exit.then _ _ _ _ _
  rcases Nat.eq_zero_or_pos n with hz | hz
  · subst hz
    go_wp2
    go_ret
    exact ⟨.slice none 0 0, rfl, World.ownsRow_nil w _ _ 1, Nat.le_refl _, Below.refl _ _⟩
  · have g1 : (0 : Int) < (n : Int) := by omega
    go_upto_region 5 with fail
    refine wp_region_list ?_
    refine pureL (.slice none 0 0) rfl (fun _ => by kernel_rfl) ?_
    simp only [aP, lI, l0, lS]
    refine pureL (.slice none 0 0) rfl (fun _ => by kernel_rfl) ?_
    simp only [aP, lI, l0, lS]
    refine pureL (.int .i64 0) rfl (fun _ => by kernel_rfl) ?_
    simp only [aP, lI, l0, lS]
    refine pureL (.slice none 0 0) rfl (fun _ => by kernel_rfl) ?_
    simp only [aP, lI, l0, lS]
    refine pureL (.int .i64 (n : Int)) rfl (fun _ => by kernel_rfl) ?_
    simp only [aP, lI, l0, lS]
    have h1 : (Try.prog.info? 5).map (fun i => (i.zero, i.bytes, i.size)) = some (some (.int .u8 0), 1, 1) := by kernel_rfl
    obtain ⟨i, hi, he⟩ := Option.map_eq_some_iff.1 h1
    simp only [Prod.mk.injEq] at he
    obtain ⟨e1, e2, e3⟩ := he
    have hr : ∀ ty, _ := fun ty => Lib.run_append_nil_zeros (P := Try.prog) w 23 3 ty 5 i (.int .u8 0) .i64 .i64 Try.underlying23 Try.underlying3 hi e1 n (by omega) (by rw [e3]; decide) (by omega) (by rw [e2]; omega)
    refine actL _ rfl (appendNOp _ _ 23 3 _ _ _ rfl rfl rfl (hr _)) ?_
    clear hr
    have hge := grownCap_ge w n 0 5
    have hle := grownCap_le_maxLen w n 0 5 (by unfold maxLen; omega)
    have hz1 : (Value.int .u8 0).cells.size = 1 := rfl
    have hsz : (Builtin.zeroCells (Value.int .u8 0).cells n ++ Builtin.zeroCells (Value.int .u8 0).cells (grownCap w n 0 5 - n)).size = grownCap w n 0 5 * 1 := by
      rw [Array.size_append, size_zeroCells, size_zeroCells, hz1]
      omega
    have O : Own (w.drew.alloc (.cells (Builtin.zeroCells (Value.int .u8 0).cells n ++ Builtin.zeroCells (Value.int .u8 0).cells (grownCap w n 0 5 - n)) 5)) w.heap.size 5 .u8 0 (fun _ => 0) (.slice (some ⟨w.heap.size, 0, none⟩) 0 (grownCap w n 0 5)) :=
      ⟨rfl, .inr ⟨w.heap.size, _, _, rfl, Nat.le_refl _, heap_alloc_new w.drew _, Nat.zero_le _, hle, hsz, by rw [Nat.zero_mul, List.take_zero]; rfl⟩⟩
    have hB : Below w.heap.size w (w.drew.alloc (.cells (Builtin.zeroCells (Value.int .u8 0).cells n ++ Builtin.zeroCells (Value.int .u8 0).cells (grownCap w n 0 5 - n)) 5)) := (Below.refl _ _).drew.alloc (Nat.le_refl _) _
    generalize (w.drew.alloc (.cells (Builtin.zeroCells (Value.int .u8 0).cells n ++ Builtin.zeroCells (Value.int .u8 0).cells (grownCap w n 0 5 - n)) 5)) = w1 at O hB ⊢
    clear hle hsz hz1 h1 hi e1 e2 e3
    generalize grownCap w n 0 5 = cp at O hge ⊢
    generalize hg : w.heap.size = g at O hB ⊢
    simp only [aP, lI, l0, lS]
    refine pureL (.slice none 0 0) rfl (fun _ => by kernel_rfl) ?_
    simp only [aP, lI, l0, lS]
    refine pureL (.int .i64 0) rfl (fun _ => by kernel_rfl) ?_
    simp only [aP, lI, l0, lS]
    refine pureL (.slice (some ⟨g, 0, none⟩) 0 cp) rfl (fun w' => cutHi _ _ _ _ _ _ rfl rfl rfl (cut_none g n cp w')) ?_
    simp only [aP, lI, l0, lS]
    refine pureL (.slice (some ⟨g, 0, none⟩) 0 cp) rfl (fun _ => by kernel_rfl) ?_
    simp only [aP, lI, l0]
    subst hg
    show Exit.then _ _ _ _ _
    go_wp2
    go_ret
    exact ⟨_, rfl, O, hge, hB⟩

/-- The slices that stand one behind the other. -/
structure CatIn (w : World) (p : Addr) (c : Nat) (sp : Nat → Option Addr) (ln cp : Nat → Nat) (zz : Nat → Nat → Int) : Prop where
  cell : ∀ j, j < c → w.cell? (p.add j) = some (.slice (sp j) (ln j) (cp j))
  src : ∀ j, j < c → Src w (sp j) (ln j) (zz j)
  nil : ∀ j, j < c → sp j = none → cp j = 0
theorem CatIn.below {w w' : World} {p : Addr} {c : Nat} {sp : Nat → Option Addr} {ln cp : Nat → Nat} {zz : Nat → Nat → Int} (h : CatIn w p c sp ln cp zz) (l : Below w.heap.size w w') : CatIn w' p c sp ln cp zz :=
  ⟨fun j hj => by rw [l.cell (World.block_lt_of_cell? w _ (h.cell j hj))]; exact h.cell j hj, fun j hj => (h.src j hj).below l (Nat.le_refl _), h.nil⟩
/-- What is joined so far. -/
structure CatI (w : World) (ln : Nat → Nat) (zz : Nat → Nat → Int) (c j : Nat) (s : Value) (w' : World) : Prop where
  own : Own w' w.heap.size 5 .u8 (tot ln j) (catz ln zz j) s
  room : tot ln c ≤ vcap s
  below : Below w.heap.size w w'

set_option maxRecDepth 10000 in
set_option maxHeartbeats 4000000 in
theorem concat_any (p : Addr) (c c' : Nat) (sp : Nat → Option Addr) (ln cp : Nat → Nat) (zz : Nat → Nat → Int) (hc : c < 1000000) (ht : tot ln c ≤ 281474976710656) (w : World) (hin : CatIn w p c sp ln cp zz) :
    Calls Try.prog 40 #[.slice (some p) c c'] w fun e w' => ∃ v, e = .returned v ∧ Own w' w.heap.size 5 .u8 (tot ln c) (catz ln zz c) v ∧ Below w.heap.size w w' := by
  go_enter Try.func40, Try.ntmps40
  go_wp2
  go_loopw [3, 11] (fun s i w' => ∃ j : Nat, j ≤ c ∧ s = .int .i64 ((tot ln j : Nat) : Int) ∧ i = .int .i64 (j : Int) ∧ w = w') (fun _ i _ => c - (intOf i).toNat)
  case atStart => exact ⟨0, Nat.zero_le _, rfl, rfl, rfl⟩
  case round =>
    obtain ⟨j, hj, rfl, rfl, rfl⟩ := hrel
    by_cases hlt : j < c
    · have g1 : (j : Int) < (c : Int) := by omega
      have hm : tot ln j + ln j ≤ tot ln c := tot_mono ln (show j + 1 ≤ c by omega)
      go_upto_region 4 with fail
      refine wp_region_list ?_
      refine pureL (.pointer (some (p.add j))) rfl (fun w => idxSl 77 23 c c' .i64 p j _ _ Try.underlying77 (fun _ => by kernel_rfl) hlt rfl rfl rfl w) ?_
      simp only [aP, lI, l0, lS]
      refine readL (.slice (sp j) (ln j) (cp j)) rfl (loadSl 23 5 _ (p.add j) _ rfl rfl Try.underlying23 (hin.cell j hlt)) ?_
      simp only [aP, lI, l0, lS]
      refine pureL (.slice (sp j) (ln j) (cp j)) rfl (fun _ => by kernel_rfl) ?_
      simp only [aP, lI, l0, lS]
      show Exit.then _ _ _ _ _
      go_upto_region 5 with fail
      refine wp_region_list ?_
      refine pureL (.int .i64 ((tot ln j : Nat) : Int)) rfl (fun _ => by kernel_rfl) ?_
      simp only [aP, lI, l0, lS]
      refine pureL (.slice (sp j) (ln j) (cp j)) rfl (fun _ => by kernel_rfl) ?_
      simp only [aP, lI, l0, lS]
      refine pureL (.int .i64 ((ln j : Nat) : Int)) rfl (fun w => lenS _ 23 5 (sp j) (ln j) (cp j) rfl Try.underlying23 rfl w) ?_
      simp only [aP, lI, l0, lS]
      refine pureL (.int .i64 ((tot ln (j + 1) : Nat) : Int)) rfl (fun w => addI .i64 _ _ _ _ _ _ _ rfl rfl rfl (by rw [IntKind.wrap_i64]; show _ = ((tot ln j + ln j : Nat) : Int); omega) w) ?_
      simp only [aP, lI, l0, lS]
      refine pureL (.int .i64 ((tot ln (j + 1) : Nat) : Int)) rfl (fun _ => by kernel_rfl) ?_
      simp only [aP, lI, l0, lS]
      show Exit.then _ _ _ _ _
      have g2 : ¬ ((tot ln (j + 1) : Nat) : Int) < 0 := by omega
      clear hm
      go_wp2
      go_roundw
      case rel => exact ⟨j + 1, by omega, rfl, by go_num, trivial⟩
      case measure => simp [intOf]; omega
    · obtain rfl : j = c := by omega
      have g1 : ¬ (j : Int) < (j : Int) := by omega
      clear hlt hj
      go_upto_region 9 with fail
      refine wp_region_list ?_
      refine pureL (.int .i64 ((tot ln j : Nat) : Int)) rfl (fun _ => by kernel_rfl) ?_
      simp only [aP, lI, l0, lS]
      refine callL rfl (fun _ => by kernel_rfl) (grow_any (tot ln j) ht _) ?_
      rintro e w1 ⟨v, rfl, O, hro, hB⟩
      refine ⟨_, rfl, ?_⟩
      simp only [aP, lI, l0, lS]
      refine pureL v rfl (fun _ => by kernel_rfl) ?_
      simp only [aP, lI, l0, lS]
      have HI : CatI w ln zz j 0 v w1 := ⟨O, hro, hB⟩
      clear O hro hB
      show Exit.then _ _ _ _ _
      go_wp2
      go_loopw [6, 27] (fun s i w' => ∃ q : Nat, q ≤ j ∧ i = .int .i64 (q : Int) ∧ CatI w ln zz j q s w') (fun _ i _ => j - (intOf i).toNat)
      case atStart => exact ⟨0, Nat.zero_le _, rfl, HI⟩
      case round =>
        clear HI
        obtain ⟨q, hq, rfl, HI⟩ := hrel
        by_cases hlt : q < j
        · have g2 : (q : Int) < (j : Int) := by omega
          have hm : tot ln q + ln q ≤ tot ln j := tot_mono ln (show q + 1 ≤ j by omega)
          go_upto_region 12 with fail
          refine wp_region_list ?_
          refine pureL (.pointer (some (p.add q))) rfl (fun w => idxSl 77 23 j c' .i64 p q _ _ Try.underlying77 (fun _ => by kernel_rfl) hlt rfl rfl rfl w) ?_
          simp only [aP, lI, l0, lS]
          refine readL (.slice (sp q) (ln q) (cp q)) rfl (loadSl 23 5 _ (p.add q) _ rfl rfl Try.underlying23 ((hin.below HI.below).cell q hlt)) ?_
          simp only [aP, lI, l0, lS]
          refine pureL (.slice (sp q) (ln q) (cp q)) rfl (fun _ => by kernel_rfl) ?_
          simp only [aP, lI, l0, lS]
          show Exit.then _ _ _ _ _
          go_upto_region 13 with fail
          refine wp_region_list ?_
          refine pureL u6 rfl (fun _ => by kernel_rfl) ?_
          simp only [aP, lI, l0, lS]
          refine pureL (.slice (sp q) (ln q) (cp q)) rfl (fun _ => by kernel_rfl) ?_
          simp only [aP, lI, l0, lS]
          obtain ⟨v', w2, hr, O, hg, hv, _⟩ := run_append_Room (P := Try.prog) (ty := 23) Try.underlying23 one8 HI.own (sp q) (ln q) (cp q) (zz q) ((hin.below HI.below).src q hlt) (hin.nil q hlt) (Nat.le_trans hm HI.room)
          refine actL _ rfl (appendOp _ _ 23 _ _ _ rfl rfl rfl hr) ?_
          simp only [aP, lI, l0, lS]
          refine pureL v' rfl (fun _ => by kernel_rfl) ?_
          simp only [aP, lI, l0, lS]
          have HS := show Hid _ from (show CatI w ln zz j (q + 1) v' w2 from ⟨O, by rw [hv]; exact HI.room, Below.grown HI.below hg HI.below.size (fun b hb => (World.ownsRow.lt HI.own b hb).1)⟩)
          clear O hg hv hr HI hm
          show Exit.inBlock _ _ _ _ _
          go_wp2
          go_roundw
          case rel => first | exact ⟨q + 1, by omega, by go_num, HS.out⟩ | ((repeat apply Exists.intro); refine ⟨⟨q + 1, by omega, ?_, HS.out⟩, rfl⟩ <;> first | rfl | go_num)
          case measure => simp [intOf]; omega
        · obtain rfl : q = j := by omega
          have g2 : ¬ (q : Int) < (q : Int) := by omega
          have HS := show Hid _ from HI
          clear HI hlt hq
          go_wp2
          go_ret
          exact ⟨_, rfl, HS.out.own, HS.out.below⟩
end Go.Proofs.Yteaamgjlkohfcaa

namespace Go.Proofs.Yteaamgjlkohfcaa
open Go.RowKit

/-- Part of a row is written anew. -/
theorem Kr.part {w w' : World} {m : Nat} {l : List (Nat × IntKind × Nat × (Nat → Int))} {R : List (Nat × Nat)} (h : Kr w m l R w') (l' : List (Nat × IntKind × Nat × (Nat → Int))) (b : Nat) (k : IntKind) (n : Nat) (f : Nat → Int) (o q : Nat) (ho : o + q ≤ n) (g : Nat → Int) (hp : (b, k, n, f) ∈ l) (hl : ∀ p ∈ l', p ∈ l) (hne : ∀ p ∈ l', p.1 ≠ b) (hlo : w.heap.size ≤ b) :
    Kr w m ((b, k, n, over f o q g) :: l') R (w'.setCells b o (row k q g)) :=
  ((h.loose l' b k n f hp hl hne hlo).poke b n List.mem_cons_self o _).settle R b k n _ List.mem_cons_self (fun _ hq => List.mem_cons_of_mem _ hq) (fun q hq => (h.apart _ hp q hq).symm) ((h.get _ _ _ _ hp).part o q ho g)
theorem Kr.headC {w w' : World} {m : Nat} {l : List (Nat × IntKind × Nat × (Nat → Int))} {R : List (Nat × Nat)} {b : Nat} {k : IntKind} {n : Nat} {f : Nat → Int} (h : Kr w m ((b, k, n, f) :: l) R w') (g : Nat → Int) (e : ∀ j, j < n → f j = g j) : Kr w m ((b, k, n, g) :: l) R w' :=
  ⟨fun p hp => by
    rcases List.mem_cons.1 hp with rfl | hp
    · exact ⟨(h.rows _ List.mem_cons_self).1.congr e, (h.rows _ List.mem_cons_self).2⟩
    · exact h.rows p (List.mem_cons_of_mem _ hp), h.room, fun p hp q hq => by
    rcases List.mem_cons.1 hp with rfl | hp
    · exact h.apart _ List.mem_cons_self q hq
    · exact h.apart p (List.mem_cons_of_mem _ hp) q hq, h.size, h.base, h.below⟩
/-- One of three. -/
def pk3 {α : Type} (a b c : α) : Nat → α
  | 0 => a
  | 1 => b
  | _ => c
theorem tot3 (a b c : Nat) : tot (pk3 a b c) 3 = a + b + c := by show 0 + a + b + c = _; omega
theorem catIn3 {w : World} (C : Nat) (p1 p2 p3 : Option Addr) (l1 l2 l3 c1 c2 c3 : Nat) (z1 z2 z3 : Nat → Int) (t : TypeId) (hC : C = w.heap.size) (h1 : Src w p1 l1 z1) (h2 : Src w p2 l2 z2) (h3 : Src w p3 l3 z3) (n1 : p1 = none → c1 = 0) (n2 : p2 = none → c2 = 0) (n3 : p3 = none → c3 = 0) :
    CatIn (w.alloc (.cells #[.slice p1 l1 c1, .slice p2 l2 c2, .slice p3 l3 c3] t)) ⟨C, 0, none⟩ 3 (pk3 p1 p2 p3) (pk3 l1 l2 l3) (pk3 c1 c2 c3) (pk3 z1 z2 z3) := by
  have hb := (Below.refl w.heap.size w).alloc (Nat.le_refl _) (.cells #[.slice p1 l1 c1, .slice p2 l2 c2, .slice p3 l3 c3] t)
  refine ⟨fun j hj => ?_, fun j hj => ?_, fun j hj => ?_⟩
  · rw [Addr.add_mid, World.cell?_alloc_at _ _ _ _ hC]
    match j, hj with
    | 0, _ | 1, _ | 2, _ => rfl
    | _ + 3, h => omega
  · match j, hj with
    | 0, _ => exact h1.below hb (Nat.le_refl _)
    | 1, _ => exact h2.below hb (Nat.le_refl _)
    | 2, _ => exact h3.below hb (Nat.le_refl _)
    | _ + 3, h => omega
  · match j, hj with
    | 0, _ => exact n1
    | 1, _ => exact n2
    | 2, _ => exact n3
    | _ + 3, h => omega
end Go.Proofs.Yteaamgjlkohfcaa

namespace Go.Proofs.Yteaamgjlkohfcaa
open Go.RowKit

theorem or_low (x d : Nat) (hd : d < 256) (hx : x * 256 < 9223372036854775808) : bits .or .i64 ((x * 256 : Nat) : Int) (d : Int) = ((x * 256 + d : Nat) : Int) := by
  have h1 : (BitVec.ofInt 64 ((x * 256 : Nat) : Int)).toNat = x * 256 := by rw [BitVec.toNat_ofInt]; omega
  have h2 : (BitVec.ofInt 64 ((d : Nat) : Int)).toNat = d := by rw [BitVec.toNat_ofInt]; omega
  have h3 : x * 256 ||| d = x * 256 + d := by
    have := Nat.two_pow_add_eq_or_of_lt (i := 8) (b := d) (by omega) x
    rw [show (2 : Nat) ^ 8 = 256 from rfl, Nat.mul_comm] at this
    exact this.symm
  show IntKind.i64.wrap ((BitVec.ofInt 64 ((x * 256 : Nat) : Int) ||| BitVec.ofInt 64 ((d : Nat) : Int)).toNat : Nat) = _
  rw [BitVec.toNat_or, h1, h2, h3, IntKind.wrap_i64]
  omega
theorem or_high (x k : Nat) (hx : x < 64) (hk : k ≤ 3) : bits .or .u8 (x : Int) ((k * 64 : Nat) : Int) = ((x + k * 64 : Nat) : Int) := by
  rw [u8_or_nat x (k * 64) (by omega) (by omega)]
  have := Nat.two_pow_add_eq_or_of_lt (i := 6) (b := x) (by omega) k
  rw [show (2 : Nat) ^ 6 = 64 from rfl, Nat.mul_comm] at this
  rw [Nat.or_comm, ← this, Nat.add_comm]
theorem i64_and63 (n : Int) : bits .and .i64 n 63 = n % 64 := by
  have h63 : (BitVec.ofInt 64 63).toNat = 2 ^ 6 - 1 := by decide
  have key : (BitVec.ofInt 64 n &&& BitVec.ofInt 64 63).toNat = (n % ((2 ^ 64 : Nat) : Int)).toNat % 2 ^ 6 := by
    rw [BitVec.toNat_and, BitVec.toNat_ofInt, h63, Nat.and_two_pow_sub_one_eq_mod]
  show IntKind.i64.wrap ((BitVec.ofInt 64 n &&& BitVec.ofInt 64 63).toNat : Nat) = n % 64
  rw [key, IntKind.wrap_i64]
  omega
theorem eqlNil {P : Program} {o : Oper} {a : Act} (t e t' : TypeId) (x y : Operand) (sp : Option Addr) (n c : Nat) (b : Bool) (ho : o.op = .binOp .eql t x y t') (hx : a.eval x = .slice sp n c) (hy : a.eval y = .slice none 0 0) (hu : P.underlying t = some (.slice e)) (hb : sp.isNone = b) (w : World) :
    (execOp a.eval o).run P w = .ok (.value (.bool b)) w := by
  subst hb
  unfold execOp
  have e1 : (eqGuard .eql t x y (.slice sp n c) (.slice none 0 0)).run P w = .ok () w := rfl
  simp only [ho, hx, hy, Sem.run_bind, e1, Lib.run_eql_slice_nil w t e sp n c 0 0 hu, Sem.run_pure, Result.andThen_ok]
theorem fby_tail (n s j : Nat) (hs : s ≤ 8) (hj : j < s) : fby n 8 (8 - s + j) = fby n s j := by
  unfold fby
  rw [show 8 - 1 - (8 - s + j) = s - 1 - j by omega]
theorem idx8 (b i : Nat) (hi : i < 8) (w : World) {o : Oper} {a : Act} (x y : Operand) (ho : o.op = .indexAddr 24 x y) (hx : a.eval x = .pointer (some ⟨b, 0, none⟩)) (hy : a.eval y = .int .i64 (i : Int)) :
    (execOp a.eval o).run Try.prog w = .ok (.value (.pointer (some ⟨b, i, none⟩))) w := by
  have h := idxArr (P := Try.prog) 24 5 8 .i64 b 0 i x y Try.underlying24 (fun _ => by kernel_rfl) hi ho hx hy w
  rw [Nat.zero_add] at h
  exact h
theorem cut8 (b s : Nat) (hs : 1 ≤ s ∧ s ≤ 8) (w : World) : (Instr.sliceAt 24 (.pointer (some ⟨b, 0, none⟩)) (some (.int .i64 ((8 - s : Nat) : Int))) none none).run Try.prog w = .ok (.slice (some ⟨b, 8 - s, none⟩) s s) w := by
  have hl : Try.prog.arrayLen 24 = 8 := by kernel_rfl
  have hz : ∀ w, (sizeOf (Try.prog.elem 24)).run Try.prog w = .ok 1 w := fun w => by kernel_rfl
  rw [run_sliceAt_array_l w 24 ⟨b, 0, none⟩ (by kernel_rfl) .i64 _ (by omega) (by rw [hl]; omega), hz, hl]
  simp only [Result.andThen, slicedAt]
  rw [Int.toNat_natCast, if_neg (by omega), Addr.add_mid, Nat.zero_add, Nat.mul_one, show 8 - (8 - s) = s by omega]

set_option maxRecDepth 10000 in
set_option maxHeartbeats 8000000 in
theorem tell_any (n : Nat) (w : World) : Calls Try.prog 51 #[.int .i64 (n : Int)] w fun e w' => e = .returned (.int .i64 ((vkd (vsz n) : Nat) : Int)) ∧ Below w.heap.size w w' := by
  have hB := Below.refl w.heap.size w
  rcases vsz_cases n with ⟨e, h1⟩ | ⟨e, h1, h2⟩ | ⟨e, h1, h2⟩ | ⟨e, h1⟩ <;> rw [e]
  · have g1 : (n : Int) < 64 := by omega
    go_enter Try.func51, Try.ntmps51
    go_wp2
    go_ret
    exact ⟨rfl, hB⟩
  · have g1 : ¬ (n : Int) < 64 := by omega
    have g2 : (n : Int) < 16384 := by omega
    go_enter Try.func51, Try.ntmps51
    go_wp2
    go_ret
    exact ⟨rfl, hB⟩
  · have g1 : ¬ (n : Int) < 64 := by omega
    have g2 : ¬ (n : Int) < 16384 := by omega
    have g3 : (n : Int) < 1073741824 := by omega
    go_enter Try.func51, Try.ntmps51
    go_wp2
    go_ret
    exact ⟨rfl, hB⟩
  · have g1 : ¬ (n : Int) < 64 := by omega
    have g2 : ¬ (n : Int) < 16384 := by omega
    have g3 : ¬ (n : Int) < 1073741824 := by omega
    go_enter Try.func51, Try.ntmps51
    go_wp2
    go_ret
    exact ⟨rfl, hB⟩

set_option maxRecDepth 10000 in
set_option maxHeartbeats 8000000 in
theorem lowest_any (n s : Nat) (hs : 1 ≤ s ∧ s ≤ 8) (w : World) :
    Calls Try.prog 52 #[.int .i64 (n : Int), .int .i64 (s : Int)] w fun e w' => e = .returned (.slice (some ⟨w.heap.size, 8 - s, none⟩) s s) ∧ Kr w (w.heap.size + 1) [(w.heap.size, .u8, 8, fby n 8)] [] w' := by
  go_enter Try.func52, Try.ntmps52
  go_upto_region 1 with fail
  refine wp_region_list ?_
  refine allocL (row .u8 8 (fun _ => 0)).toArray 24 rfl (fun _ => by kernel_rfl) ?_
  simp only [aP, lI, l0, lS]
  have K := (Kr.init w).box .u8 8 (fun _ => 0) 24 w.heap.size rfl
  generalize w.alloc (.cells (row .u8 8 (fun _ => 0)).toArray 24) = w1 at K ⊢
  show Exit.then _ _ _ _ _
  go_wp2
  go_loopw [7] (fun i w' => ∃ (m : Nat) (f : Nat → Int), m ≤ 8 ∧ i = .int .i64 (m : Int) ∧ Kr w (w.heap.size + 1) [(w.heap.size, .u8, 8, f)] [] w' ∧ ∀ j, 8 - m ≤ j → j < 8 → f j = fby n 8 j) (fun i _ => 8 - (intOf i).toNat)
  case atStart => exact ⟨0, _, by omega, rfl, K, fun j h1 h2 => by omega⟩
  case round =>
    clear K
    obtain ⟨m, f, hm, rfl, K, hd⟩ := hrel
    have g1 : (0 : Int) ≤ (m : Int) := by omega
    by_cases hlt : m < 8
    · have g2 : (m : Int) < 8 := by omega
      have h7 : 7 - m < 8 := by omega
      go_upto_region 5 with fail
      refine wp_region_list ?_
      refine pureL (.int .i64 (m : Int)) rfl (fun _ => by kernel_rfl) ?_
      simp only [aP, lI, l0, lS]
      refine pureL (.int .i64 ((7 - m : Nat) : Int)) rfl (fun w => subI .i64 _ _ _ _ _ _ _ rfl rfl rfl (by rw [IntKind.wrap_i64]; omega) w) ?_
      simp only [aP, lI, l0, lS]
      refine pureL (.int .i64 (n : Int)) rfl (fun _ => by kernel_rfl) ?_
      simp only [aP, lI, l0, lS]
      refine pureL (.int .i64 (m : Int)) rfl (fun _ => by kernel_rfl) ?_
      simp only [aP, lI, l0, lS]
      refine pureL (.int .i64 ((8 * m : Nat) : Int)) rfl (fun w => mulI .i64 _ _ _ _ _ _ _ rfl rfl rfl (by rw [IntKind.wrap_i64]; omega) w) ?_
      simp only [aP, lI, l0, lS]
      refine pureL (.int .i64 ((n / 256 ^ m : Nat) : Int)) rfl (fun w => shrI .i64 .i64 _ _ _ _ _ _ _ rfl rfl rfl (by omega) (shr_byte n m (by omega)) w) ?_
      simp only [aP, lI, l0, lS]
      refine pureL (.int .u8 (fby n 8 (7 - m))) rfl (fun w => convI .i64 .u8 _ _ _ _ _ rfl (by kernel_rfl) Try.underlying5 (by kernel_rfl) rfl (by rw [IntKind.wrap_u8']; unfold fby; rw [show 8 - 1 - (7 - m) = m by omega]; omega) w) ?_
      simp only [aP, lI, l0, lS]
      refine pureL (.pointer (some ⟨w.heap.size, 7 - m, none⟩)) rfl (fun w' => idx8 (w.heap.size) (7 - m) h7 w' _ _ rfl rfl rfl) ?_
      simp only [aP, lI, l0, lS]
      refine storeL .u8 (fby n 8 (7 - m)) (w.heap.size) (7 - m) 5 _ _ rfl rfl rfl rfl (by rw [(K.get _ _ _ _ List.mem_cons_self).cell (7 - m) h7]; rfl) ((K.get _ _ _ _ List.mem_cons_self).free (7 - m) h7) (by kernel_rfl) ?_
      simp only [Act.put]
      replace K := K.setCell [] (w.heap.size) .u8 8 f (7 - m) h7 (fby n 8 (7 - m)) List.mem_cons_self (fun _ hp => by cases hp) (fun _ hp => by cases hp) (Nat.le_refl _)
      have HS := show Hid _ from (And.intro K (show ∀ j, 8 - (m + 1) ≤ j → j < 8 → upd f (7 - m) (fby n 8 (7 - m)) j = fby n 8 j from fun j h1 h2 => by
        by_cases e : j = 7 - m
        · subst e; rw [upd_same]
        · rw [upd_other _ _ _ _ e]; exact hd j (by omega) h2))
      clear K hd
      generalize wr.setCell ⟨w.heap.size, 7 - m, none⟩ (.int .u8 (fby n 8 (7 - m))) = w4 at HS ⊢
      generalize upd f (7 - m) (fby n 8 (7 - m)) = f' at HS
      show Exit.inBlock _ _ _ _ _
      go_wp2
      go_roundw
      case rel => first | exact ⟨m + 1, f', by omega, by go_num, HS.out⟩ | ((repeat apply Exists.intro); refine ⟨⟨m + 1, f', by omega, by go_num, HS.out⟩, rfl⟩)
      case measure => simp [intOf]; omega
    · obtain rfl : m = 8 := by omega
      replace K := K.headC (fby n 8) (fun j hj => hd j (by omega) hj)
      clear hd hlt hm g1
      go_upto_region 7 with fail
      refine wp_region_list ?_
      refine pureL (.int .i64 (s : Int)) rfl (fun _ => by kernel_rfl) ?_
      simp only [aP, lI, l0, lS]
      refine pureL (.int .i64 ((8 - s : Nat) : Int)) rfl (fun w => subI .i64 _ _ _ _ _ _ _ rfl rfl rfl (by rw [IntKind.wrap_i64]; omega) w) ?_
      simp only [aP, lI, l0, lS]
      refine pureL (.slice (some ⟨w.heap.size, 8 - s, none⟩) s s) rfl (fun w' => cutOp _ _ _ _ _ _ rfl rfl rfl (cut8 (w.heap.size) s hs w')) ?_
      simp only [aP, lI, l0, lS]
      refine pureL (.slice (some ⟨w.heap.size, 8 - s, none⟩) s s) rfl (fun _ => by kernel_rfl) ?_
      simp only [aP, lI, l0, lS]
      show Exit.then _ _ _ _ _
      go_wp2
      go_ret
      exact ⟨rfl, K⟩

set_option maxRecDepth 10000 in
set_option maxHeartbeats 8000000 in
theorem least_any (n : Nat) (hn : n < 4611686018427387904) (w : World) :
    Calls Try.prog 41 #[.int .i64 (n : Int)] w fun e w' => ∃ B, e = .returned (.slice (some ⟨B, 8 - vsz n, none⟩) (vsz n) (vsz n)) ∧ Src w' (some ⟨B, 8 - vsz n, none⟩) (vsz n) (vby n) ∧ Below w.heap.size w w' := by
  have h4 := vsz_four n
  have hp := vkd_pow _ h4
  have hK8 := vsz_le n
  have ht := vtop n hn
  have hv0 := vby_first n hn
  have hvj : ∀ j, j ≠ 0 → vby n j = fby n (vsz n) j := fun j hj => by unfold vby; rw [if_neg hj, Int.add_zero]
  go_enter Try.func41, Try.ntmps41
  go_upto_region 1 with fail
  refine wp_region_list ?_
  refine pureL (.int .i64 (n : Int)) rfl (fun _ => by kernel_rfl) ?_
  simp only [aP, lI, l0, lS]
  refine callL rfl (fun _ => by kernel_rfl) (tell_any n _) ?_
  rintro e w1 ⟨rfl, hB⟩
  refine ⟨_, rfl, ?_⟩
  simp only [aP, lI, l0, lS]
  generalize hKe : vsz n = K at *
  refine pureL (.int .i64 (((vkd K) : Nat) : Int)) rfl (fun _ => by kernel_rfl) ?_
  simp only [aP, lI, l0, lS]
  show Exit.then _ _ _ _ _
  go_upto_region 2 with fail
  refine wp_region_list ?_
  refine pureL (.int .i64 (n : Int)) rfl (fun _ => by kernel_rfl) ?_
  simp only [aP, lI, l0, lS]
  refine pureL (.int .i64 (((vkd K) : Nat) : Int)) rfl (fun _ => by kernel_rfl) ?_
  simp only [aP, lI, l0, lS]
  refine pureL (.int .i64 ((K : Nat) : Int)) rfl (fun w => shlI .i64 .i64 _ _ _ _ _ _ _ rfl rfl rfl (by omega) (by rw [shl_one (vkd K) hp.2, hp.1]) w) ?_
  simp only [aP, lI, l0, lS]
  refine callL rfl (fun _ => by kernel_rfl) (lowest_any n K hK8 _) ?_
  rintro e w2 ⟨rfl, R⟩
  refine ⟨_, rfl, ?_⟩
  simp only [aP, lI, l0, lS]
  refine pureL (.slice (some ⟨w1.heap.size, 8 - K, none⟩) K K) rfl (fun _ => by kernel_rfl) ?_
  simp only [aP, lI, l0, lS]
  show Exit.then _ _ _ _ _
  have h8 : 8 - K < 8 := by omega
  have hx0 : fby n 8 (8 - K) = (((n / 256 ^ (K - 1)) : Nat) : Int) := by
    unfold fby
    rw [show 8 - 1 - (8 - K) = K - 1 by omega, Nat.mod_eq_of_lt (by omega)]
  go_upto_region 3 with fail
  refine wp_region_list ?_
  refine pureL (.slice (some ⟨w1.heap.size, 8 - K, none⟩) K K) rfl (fun _ => by kernel_rfl) ?_
  simp only [aP, lI, l0, lS]
  refine pureL (.pointer (some ⟨w1.heap.size, 8 - K, none⟩)) rfl (fun w => idxSl 23 5 K K .i64 ⟨w1.heap.size, 8 - K, none⟩ 0 _ _ Try.underlying23 (fun _ => by kernel_rfl) (by omega) rfl rfl rfl w) ?_
  simp only [aP, lI, l0, lS]
  refine cellL .u8 (.int .u8 (((n / 256 ^ (K - 1)) : Nat) : Int)) w1.heap.size (8 - K) 5 _ rfl rfl rfl Try.underlying5 (by rw [← hx0]; exact (R.get _ _ _ _ List.mem_cons_self).cell (8 - K) h8) ?_
  simp only [aP, lI, l0, lS]
  refine pureL (.int .i64 (((vkd K) : Nat) : Int)) rfl (fun _ => by kernel_rfl) ?_
  simp only [aP, lI, l0, lS]
  refine pureL (.int .i64 (((vkd K) * 64 : Nat) : Int)) rfl (fun w => shlI .i64 .u64 _ _ _ _ _ _ _ rfl rfl rfl (by omega) (by rw [IntKind.wrap_i64, show min (6 : Int).toNat IntKind.i64.bits = 6 from rfl]; omega) w) ?_
  simp only [aP, lI, l0, lS]
  refine pureL (.int .u8 (((vkd K) * 64 : Nat) : Int)) rfl (fun w => convI .i64 .u8 _ _ _ _ _ rfl (by kernel_rfl) Try.underlying5 (by kernel_rfl) rfl (by rw [IntKind.wrap_u8']; omega) w) ?_
  simp only [aP, lI, l0, lS]
  refine pureL (.int .u8 (((n / 256 ^ (K - 1)) + (vkd K) * 64 : Nat) : Int)) rfl (fun w => vorI .u8 _ _ _ _ _ _ _ rfl rfl rfl (or_high (n / 256 ^ (K - 1)) (vkd K) ht hp.2) w) ?_
  simp only [aP, lI, l0, lS]
  refine pureL (.pointer (some ⟨w1.heap.size, 8 - K, none⟩)) rfl (fun w => idxSl 23 5 K K .i64 ⟨w1.heap.size, 8 - K, none⟩ 0 _ _ Try.underlying23 (fun _ => by kernel_rfl) (by omega) rfl rfl rfl w) ?_
  simp only [aP, lI, l0, lS]
  refine storeL .u8 (((n / 256 ^ (K - 1)) + (vkd K) * 64 : Nat) : Int) w1.heap.size (8 - K) 5 _ _ rfl rfl rfl rfl (by rw [(R.get _ _ _ _ List.mem_cons_self).cell (8 - K) h8]; rfl) ((R.get _ _ _ _ List.mem_cons_self).free (8 - K) h8) (by kernel_rfl) ?_
  simp only [Act.put]
  replace R := R.setCell [] w1.heap.size .u8 8 (fby n 8) (8 - K) h8 (((n / 256 ^ (K - 1)) + (vkd K) * 64 : Nat) : Int) List.mem_cons_self (fun _ hp => by cases hp) (fun _ hp => by cases hp) (Nat.le_refl _)
  generalize w2.setCell ⟨w1.heap.size, 8 - K, none⟩ (.int .u8 (((n / 256 ^ (K - 1)) + (vkd K) * 64 : Nat) : Int)) = w3 at R ⊢
  have hS : Src w3 (some ⟨w1.heap.size, 8 - K, none⟩) K (vby n) := ((R.get _ _ _ _ List.mem_cons_self).src (8 - K) K (by omega)).congr fun j hj => by
    by_cases e : j = 0
    · subst e; rw [Nat.add_zero, upd_same, hv0, Nat.mul_comm 64]
    · rw [upd_other _ _ _ _ (by omega), hvj j e, fby_tail n K j (by omega) hj]
  replace hB := hB.trans (R.below.mono hB.size)
  clear R hx0 hv0 hvj ht hp h4
  show Exit.then _ _ _ _ _
  go_upto_region 4 with fail
  refine wp_region_list ?_
  refine pureL (.slice (some ⟨w1.heap.size, 8 - K, none⟩) K K) rfl (fun _ => by kernel_rfl) ?_
  simp only [aP, lI, l0, lS]
  refine pureL (.slice (some ⟨w1.heap.size, 8 - K, none⟩) K K) rfl (fun _ => by kernel_rfl) ?_
  simp only [aP, lI, l0, lS]
  show Exit.then _ _ _ _ _
  go_wp2
  go_ret
  exact ⟨w1.heap.size, by rw [hKe]; rfl, by rw [hKe]; exact hS, hB⟩

/-- The number of the bytes h and, behind it, the first of z. -/
def jV (h : Int) (z : Nat → Int) : Nat → Int
  | 0 => h
  | i + 1 => jV h z i * 256 + z i
theorem jV_in (h : Int) (hh : 0 ≤ h ∧ h < 64) (z : Nat → Int) (m : Nat) (hz : In 256 m z) : ∀ i, i ≤ m → 0 ≤ jV h z i ∧ jV h z i < 64 * 256 ^ i
  | 0, _ => by show 0 ≤ h ∧ h < 64 * 256 ^ 0; omega
  | i + 1, hi => by
    have h1 := jV_in h hh z m hz i (by omega)
    have h2 := hz i (by omega)
    show 0 ≤ jV h z i * 256 + z i ∧ jV h z i * 256 + z i < 64 * 256 ^ (i + 1)
    rw [Int.pow_succ]
    omega
theorem jV_one (z : Nat → Int) : ∀ i, jV (z 0 % 64) (fun j => z (1 + j)) i = tV z i
  | 0 => rfl
  | i + 1 => by
    show jV (z 0 % 64) (fun j => z (1 + j)) i * 256 + z (1 + i) = tV z (i + 1)
    rw [jV_one z i, Nat.add_comm 1 i]
    rfl

set_option maxRecDepth 10000 in
set_option maxHeartbeats 8000000 in
theorem join_any (h : Int) (hh : 0 ≤ h ∧ h < 64) (sp : Option Addr) (len cap : Nat) (hl : len ≤ 7) (z : Nat → Int) (hz : In 256 len z) (w : World) (hs : Src w sp len z) :
    Calls Try.prog 62 #[.int .i64 h, .slice sp len cap] w fun e w' => e = .returned (.int .i64 (jV h z len)) ∧ Below w.heap.size w w' := by
  have hB := Below.refl w.heap.size w
  go_enter Try.func62, Try.ntmps62
  go_upto_region 1 with fail
  refine wp_region_list ?_
  refine pureL (.slice sp len cap) rfl (fun _ => by kernel_rfl) ?_
  simp only [aP, lI, l0, lS]
  refine pureL (.int .i64 (len : Int)) rfl (fun w => lenS _ 23 5 (sp) (len) (cap) rfl Try.underlying23 rfl w) ?_
  simp only [aP, lI, l0, lS]
  refine pureL (.int .i64 0) rfl (fun _ => by kernel_rfl) ?_
  simp only [aP, lI, l0, lS]
  show Exit.then _ _ _ _ _
  go_wp2
  go_loopw [0, 9] (fun hw i w' => ∃ m : Nat, m ≤ len ∧ hw = .int .i64 (jV h z m) ∧ i = .int .i64 (m : Int) ∧ w = w') (fun _ i _ => len - (intOf i).toNat)
  case atStart => exact ⟨0, Nat.zero_le _, rfl, rfl, rfl⟩
  case round =>
    obtain ⟨m, hm, rfl, rfl, rfl⟩ := hrel
    by_cases hlt : m < len
    · have g1 : (m : Int) < (len : Int) := by omega
      obtain ⟨ad, rfl, hc⟩ := hs m hlt
      have hzm := hz m hlt
      have hj := jV_in h hh z len hz m hm
      have hj2 : jV h z m < 18014398509481984 := by
        have h6 : (256 : Nat) ^ m ≤ 256 ^ 6 := Nat.pow_le_pow_right (by decide) (by omega)
        have e6 : (256 : Nat) ^ 6 = 281474976710656 := by decide
        have e7 : ((256 ^ m : Nat) : Int) = (256 : Int) ^ m := by norm_cast
        omega
      obtain ⟨x, hx⟩ := Int.eq_ofNat_of_zero_le hj.1
      obtain ⟨d, hd⟩ := Int.eq_ofNat_of_zero_le hzm.1
      have hor : bits .or .i64 (jV h z m * 256) (z m) = jV h z (m + 1) := by
        show _ = jV h z m * 256 + z m
        rw [hx, hd, show ((x : Nat) : Int) * 256 = ((x * 256 : Nat) : Int) by omega, or_low x d (by omega) (by omega)]
        omega
      go_upto_region 3 with fail
      refine wp_region_list ?_
      refine pureL (.pointer (some (ad.add m))) rfl (fun w => idxSl 23 5 len cap .i64 ad m _ _ Try.underlying23 (fun _ => by kernel_rfl) hlt rfl rfl rfl w) ?_
      simp only [aP, lI, l0, lS]
      refine readL (.int .u8 (z m)) rfl (loadAny 5 .u8 _ (ad.add m) _ rfl rfl Try.underlying5 hc) ?_
      simp only [aP, lI, l0, lS]
      refine pureL (.int .u8 (z m)) rfl (fun _ => by kernel_rfl) ?_
      simp only [aP, lI, l0, lS]
      show Exit.then _ _ _ _ _
      go_upto_region 4 with fail
      refine wp_region_list ?_
      refine pureL (.int .i64 (jV h z m)) rfl (fun _ => by kernel_rfl) ?_
      simp only [aP, lI, l0, lS]
      refine pureL (.int .i64 (jV h z m * 256)) rfl (fun w => shlI .i64 .u64 _ _ _ _ _ _ _ rfl rfl rfl (by omega) (by rw [IntKind.wrap_i64, show min (8 : Int).toNat IntKind.i64.bits = 8 from rfl]; omega) w) ?_
      simp only [aP, lI, l0, lS]
      refine pureL (.int .u8 (z m)) rfl (fun _ => by kernel_rfl) ?_
      simp only [aP, lI, l0, lS]
      refine pureL (.int .i64 (z m)) rfl (fun w => convI .u8 .i64 _ _ _ _ _ rfl (by kernel_rfl) Try.underlying3 (by kernel_rfl) rfl (by rw [IntKind.wrap_i64]; omega) w) ?_
      simp only [aP, lI, l0, lS]
      refine pureL (.int .i64 (jV h z (m + 1))) rfl (fun w => vorI .i64 _ _ _ _ _ _ _ rfl rfl rfl hor w) ?_
      simp only [aP, lI, l0, lS]
      refine pureL (.int .i64 (jV h z (m + 1))) rfl (fun _ => by kernel_rfl) ?_
      simp only [aP, lI, l0]
      clear hor hx hd hj hj2
      show Exit.inBlock _ _ _ _ _
      go_wp2
      go_roundw
      case rel => first | exact ⟨m + 1, by omega, rfl, by go_num, trivial⟩ | ((repeat apply Exists.intro); refine ⟨⟨m + 1, by omega, rfl, by go_num, trivial⟩, rfl⟩)
      case measure => simp [intOf]; omega
    · obtain rfl : m = len := by omega
      have g1 : ¬ (m : Int) < (m : Int) := by omega
      clear hlt hm
      go_wp2
      go_ret
      exact ⟨rfl, hB⟩

set_option maxRecDepth 10000 in
set_option maxHeartbeats 8000000 in
theorem clone_any (sp : Option Addr) (len cap : Nat) (hlen : len ≤ 140737488351240) (hc : len ≤ cap) (hnil : sp = none → cap = 0) (z : Nat → Int) (w : World) (hs : Src w sp len z) :
    Calls Try.prog 59 #[.slice sp len cap] w fun e w' => ∃ v, e = .returned v ∧ Own w' w.heap.size 5 .u8 len z v ∧ Below w.heap.size w w' := by
  have hB := Below.refl w.heap.size w
  cases sp with
  | none =>
    obtain rfl : len = 0 := by have := hnil rfl; omega
    obtain rfl := hnil rfl
    go_enter Try.func59, Try.ntmps59
    go_upto_region 1 with fail
    refine wp_region_list ?_
    refine pureL (.slice none 0 0) rfl (fun _ => by kernel_rfl) ?_
    simp only [aP, lI, l0, lS]
    refine pureL (.bool true) rfl (fun w => eqlNil 23 5 _ _ _ none 0 0 true rfl rfl rfl Try.underlying23 rfl w) ?_
    simp only [aP, lI, l0, lS]
    show Exit.then _ _ _ _ _
    go_wp2
    go_ret
    exact ⟨_, rfl, World.ownsRow_nil w _ _ 1, hB⟩
  | some ad =>
    go_enter Try.func59, Try.ntmps59
    go_upto_region 1 with fail
    refine wp_region_list ?_
    refine pureL (.slice (some ad) len cap) rfl (fun _ => by kernel_rfl) ?_
    simp only [aP, lI, l0, lS]
    refine pureL (.bool false) rfl (fun w => eqlNil 23 5 _ _ _ (some ad) len cap false rfl rfl rfl Try.underlying23 rfl w) ?_
    simp only [aP, lI, l0, lS]
    show Exit.then _ _ _ _ _
    go_upto_region 3 with fail
    refine wp_region_list ?_
    refine actL (w' := w.alloc (.cells #[] 5)) (.slice (some ⟨w.heap.size, 0, none⟩) 0 0) rfl (by kernel_rfl) ?_
    simp only [aP, lI, l0, lS]
    refine pureL (.slice (some ad) len cap) rfl (fun _ => by kernel_rfl) ?_
    simp only [aP, lI, l0, lS]
    have hb1 := (Below.refl w.heap.size w).alloc (Nat.le_refl _) (.cells #[] 5)
    obtain ⟨v, w2, hr, ho, hgr, _⟩ := run_append_Own (P := Try.prog) (ty := 23) Try.underlying23 one8 (Own.lit w w.heap.size 5 .u8 0 (fun _ => 0) (Nat.le_refl _) (by unfold maxLen; omega)) (some ad) (len) (cap) (z) ((hs).below hb1 (Nat.le_refl _)) (fun e => by cases e) (by unfold maxLen; omega) (by omega) hb1.size
    have hb2 := hb1.grown hgr hb1.size (fun b hb => by injection hb with hb; simp only at hb; omega)
    refine actL v rfl (appendOp _ _ 23 _ _ _ rfl rfl rfl hr) ?_
    simp only [aP, lI, l0, lS]
    have hO : Own w2 w.heap.size 5 .u8 (len) (z) v := by
      rw [Nat.zero_add] at ho
      exact ho.congr fun j _ => by unfold app; rw [if_neg (Nat.not_lt_zero j), Nat.sub_zero]
    clear hr ho hgr hb1
    refine pureL v rfl (fun _ => by kernel_rfl) ?_
    simp only [aP, lI, l0, lS]
    show Exit.then _ _ _ _ _
    go_wp2
    go_ret
    exact ⟨_, rfl, hO, hb2⟩
end Go.Proofs.Yteaamgjlkohfcaa

namespace Go.Proofs.Yteaamgjlkohfcaa
open Go.RowKit

/-- What is left of a text, in a place of its own. -/
structure Tp (w0 : World) (B len : Nat) (z : Nat → Int) (w : World) : Prop where
  lo : w0.heap.size ≤ B
  hi : B < w.heap.size
  cell : ∃ sp cap, w.cell? ⟨B, 0, none⟩ = some (.slice sp len cap) ∧ len ≤ cap ∧ (sp = none → cap = 0) ∧ Src w0 sp len z
  free : w.frozen? ⟨B, 0, none⟩ = false
  below : Below w0.heap.size w0 w
theorem Tp.call {w0 w w' : World} {B len : Nat} {z : Nat → Int} (h : Tp w0 B len z w) (l : Below w.heap.size w w') : Tp w0 B len z w' := by
  obtain ⟨lo, hi, ⟨sp, cap, h1, h2⟩, hf, hb⟩ := h
  exact ⟨lo, Nat.lt_of_lt_of_le hi l.size, ⟨sp, cap, by rw [l.cell (p := ⟨B, 0, none⟩) hi]; exact h1, h2⟩, by rw [l.frozen (p := ⟨B, 0, none⟩) hi]; exact hf, hb.trans (l.mono hb.size)⟩
theorem Tp.set {w0 w : World} {B len : Nat} {z : Nat → Int} (h : Tp w0 B len z w) (sp : Option Addr) (len' cap : Nat) (z' : Nat → Int) (hc : len' ≤ cap) (hn : sp = none → cap = 0) (hs : Src w0 sp len' z') : Tp w0 B len' z' (w.setCell ⟨B, 0, none⟩ (.slice sp len' cap)) := by
  obtain ⟨lo, hi, ⟨sp', cap', h1, h2⟩, hf, hb⟩ := h
  exact ⟨lo, by have e := size_setAll B 0 [.slice sp len' cap] w; simp only [World.setCells] at e; omega, ⟨sp, cap, World.cell?_setCell_same' _ _ _ (by rw [h1]; rfl), hc, hn, hs⟩, by rw [World.frozen?_setCell]; exact hf, below_setAll hb B lo 0 [.slice sp len' cap]⟩
theorem Tp.nil {w0 w : World} {B : Nat} {z z' : Nat → Int} (h : Tp w0 B 0 z w) : Tp w0 B 0 z' w := by
  obtain ⟨lo, hi, ⟨sp, cap, h1, h2, h3, _⟩, hf, hb⟩ := h
  exact ⟨lo, hi, ⟨sp, cap, h1, h2, h3, fun j hj => absurd hj (Nat.not_lt_zero j)⟩, hf, hb⟩
/-- A slice is stored. -/
theorem storeSl {P : Program} {ops : Array Oper} {Q : Exit → Act → World → Prop} {o' : Oper} {rest : List Oper} {a : Act} {w : World} (sp : Option Addr) (n c : Nat) (b : Nat) (ty : TypeId) (x y : Operand) (hw : Region.wanted o' (yielded ops a.tmps) = true) (ho : o'.op = .store ty x y) (hx : a.eval x = .pointer (some ⟨b, 0, none⟩)) (hy : a.eval y = .slice sp n c)
    (hc : (w.cell? ⟨b, 0, none⟩).isSome = true) (hf : w.frozen? ⟨b, 0, none⟩ = false) (hz : (P.info? ty).map (·.size) = some 1)
    (h : wpList P ops Q rest (a.put o'.dst undef) (w.setCell ⟨b, 0, none⟩ (.slice sp n c))) : wpList P ops Q (o' :: rest) a w := by
  have h0 : ∀ j : Nat, j < [Value.slice sp n c].length → j = 0 := fun j hj => by simpa using hj
  have hst := run_storeCells_cells (P := P) b 0 [.slice sp n c] 0 w (fun j hj => by rw [h0 j hj]; simpa using hc) (fun j hj => by rw [h0 j hj]; simpa using hf) (fun v hv => by simp at hv; subst hv; rfl)
  have he : (execOp a.eval o').run P w = .ok .skip (w.setCell ⟨b, 0, none⟩ (.slice sp n c)) := by
    cases hq : P.info? ty with
    | none => simp [hq] at hz
    | some i =>
      have hs : i.size = 1 := by simp [hq] at hz; omega
      simp only [Nat.add_zero] at hst
      have e : (storeVar ty ⟨b, 0, none⟩ (.slice sp n c)).run P w = .ok () (w.setCell ⟨b, 0, none⟩ (.slice sp n c)) := by
        simp [storeVar, sizeOf, typeInfo, hq, Value.cells, hs, hst, World.setCells]
      unfold execOp
      simp only [ho, hx, hy, Instr.storeAt, Instr.sureAddr, Sem.run_bind, Sem.run_pure, Result.andThen_ok, e]
  unfold wpList
  rw [if_pos hw]
  refine .inl ?_
  unfold Oper.wp
  rw [he]
  exact h

set_option maxRecDepth 10000 in
set_option maxHeartbeats 8000000 in
theorem along_any (sp : Option Addr) (len cap : Nat) (hc : len ≤ cap) (hnil : sp = none → cap = 0) (z : Nat → Int) (w : World) (hs : Src w sp len z) :
    Calls Try.prog 57 #[.slice sp len cap] w fun e w' => ∃ B, e = .returned (.tuple #[(.func (.func 60) #[] #[.pointer (some ⟨B, 0, none⟩)]), (.func (.func 61) #[] #[.pointer (some ⟨B, 0, none⟩)])]) ∧ Tp w B len z w' := by
  go_enter Try.func57, Try.ntmps57
  go_upto_region 0 with fail
  refine wp_region_list ?_
  refine actL (w' := w.alloc (.cells #[.slice sp len cap] 23)) (.pointer (some ⟨w.heap.size, 0, none⟩)) rfl (by kernel_rfl) ?_
  simp only [aP, lI, l0, lS]
  refine pureL .nilFunc rfl (fun _ => by kernel_rfl) ?_
  simp only [aP, lI, l0, lS]
  refine pureL .nilFunc rfl (fun _ => by kernel_rfl) ?_
  simp only [aP, lI, l0, lS]
  have T : Tp w w.heap.size len z (w.alloc (.cells #[.slice sp len cap] 23)) := ⟨Nat.le_refl _, by simp, ⟨sp, cap, by rw [World.cell?_alloc_at _ _ _ _ rfl]; rfl, hc, hnil, hs⟩, by first | exact World.frozen?_alloc_new _ _ _ _ | (simp [World.frozen?, World.alloc]), (Below.refl _ _).alloc (Nat.le_refl _) _⟩
  generalize w.alloc (.cells #[.slice sp len cap] 23) = w1 at T ⊢
  generalize w.heap.size = B at *
  show Exit.then _ _ _ _ _
  go_upto_region 1 with fail
  refine wp_region_list ?_
  refine pureL (.func (.func 60) #[] #[.pointer (some ⟨B, 0, none⟩)]) rfl (fun _ => by kernel_rfl) ?_
  simp only [aP, lI, l0, lS]
  refine pureL (.func (.func 60) #[] #[.pointer (some ⟨B, 0, none⟩)]) rfl (fun _ => by kernel_rfl) ?_
  simp only [aP, lI, l0, lS]
  show Exit.then _ _ _ _ _
  go_upto_region 2 with fail
  refine wp_region_list ?_
  refine pureL (.func (.func 61) #[] #[.pointer (some ⟨B, 0, none⟩)]) rfl (fun _ => by kernel_rfl) ?_
  simp only [aP, lI, l0, lS]
  refine pureL (.func (.func 61) #[] #[.pointer (some ⟨B, 0, none⟩)]) rfl (fun _ => by kernel_rfl) ?_
  simp only [aP, lI, l0, lS]
  show Exit.then _ _ _ _ _
  go_upto_region 3 with fail
  refine wp_region_list ?_
  refine pureL (.func (.func 60) #[] #[.pointer (some ⟨B, 0, none⟩)]) rfl (fun _ => by kernel_rfl) ?_
  simp only [aP, lI, l0, lS]
  refine pureL (.func (.func 61) #[] #[.pointer (some ⟨B, 0, none⟩)]) rfl (fun _ => by kernel_rfl) ?_
  simp only [aP, lI, l0, lS]
  refine pureL (.func (.func 60) #[] #[.pointer (some ⟨B, 0, none⟩)]) rfl (fun _ => by kernel_rfl) ?_
  simp only [aP, lI, l0, lS]
  refine pureL (.func (.func 61) #[] #[.pointer (some ⟨B, 0, none⟩)]) rfl (fun _ => by kernel_rfl) ?_
  simp only [aP, lI, l0, lS]
  show Exit.then _ _ _ _ _
  go_wp2
  go_ret2
  exact ⟨B, rfl, T⟩

set_option maxRecDepth 10000 in
set_option maxHeartbeats 8000000 in
theorem next_any (w0 : World) (B len : Nat) (z : Nat → Int) (m : Nat) (w : World) (T : Tp w0 B len z w) :
    Calls Try.prog 60 #[.int .i64 (m : Int), .pointer (some ⟨B, 0, none⟩)] w fun e w' =>
      (len < m ∧ e = .returned (.tuple #[.slice none 0 0, .bool false]) ∧ Tp w0 B len z w') ∨
      (m ≤ len ∧ ∃ sp cap, e = .returned (.tuple #[.slice sp m cap, .bool true]) ∧ m ≤ cap ∧ (sp = none → cap = 0) ∧ Src w0 sp m z ∧ Tp w0 B (len - m) (fun j => z (m + j)) w') := by
  obtain ⟨sp, cap, hcell, hc, hnil, hs⟩ := T.cell
  by_cases h1 : len < m
  · go_enter Try.func60, Try.ntmps60
    go_upto_region 1 with fail
    refine wp_region_list ?_
    refine pureL (.int .i64 (m : Int)) rfl (fun _ => by kernel_rfl) ?_
    simp only [aP, lI, l0, lS]
    refine readL (.slice sp len cap) rfl (loadSl 23 5 _ ⟨B, 0, none⟩ _ rfl rfl Try.underlying23 hcell) ?_
    simp only [aP, lI, l0, lS]
    refine pureL (.int .i64 (len : Int)) rfl (fun w => lenS _ 23 5 (sp) (len) (cap) rfl Try.underlying23 rfl w) ?_
    simp only [aP, lI, l0, lS]
    refine pureL (.bool true) rfl (fun w => gtrI .i64 _ _ _ _ _ _ rfl rfl rfl true (decide_eq_true (by omega)) w) ?_
    simp only [aP, lI, l0, lS]
    show Exit.then _ _ _ _ _
    go_wp2
    go_ret2
    exact .inl ⟨h1, rfl, T⟩
  · obtain ⟨cp, hcut1, hcs1, hcn1⟩ := cut_hiN (P := Try.prog) (t := 23) (by kernel_rfl) (fun _ => by kernel_rfl) sp len cap m (by omega) hc hnil
    obtain ⟨cq, hcut2, hcs2, hcn2⟩ := cut_loN (P := Try.prog) (t := 23) (by kernel_rfl) (fun _ => by kernel_rfl) sp len cap m (by omega) hc hnil
    go_enter Try.func60, Try.ntmps60
    go_upto_region 1 with fail
    refine wp_region_list ?_
    refine pureL (.int .i64 (m : Int)) rfl (fun _ => by kernel_rfl) ?_
    simp only [aP, lI, l0, lS]
    refine readL (.slice sp len cap) rfl (loadSl 23 5 _ ⟨B, 0, none⟩ _ rfl rfl Try.underlying23 hcell) ?_
    simp only [aP, lI, l0, lS]
    refine pureL (.int .i64 (len : Int)) rfl (fun w => lenS _ 23 5 (sp) (len) (cap) rfl Try.underlying23 rfl w) ?_
    simp only [aP, lI, l0, lS]
    refine pureL (.bool false) rfl (fun w => gtrI .i64 _ _ _ _ _ _ rfl rfl rfl false (decide_eq_false (by omega)) w) ?_
    simp only [aP, lI, l0, lS]
    show Exit.then _ _ _ _ _
    go_upto_region 3 with fail
    refine wp_region_list ?_
    refine readL (.slice sp len cap) rfl (loadSl 23 5 _ ⟨B, 0, none⟩ _ rfl rfl Try.underlying23 hcell) ?_
    simp only [aP, lI, l0, lS]
    refine pureL (.int .i64 (m : Int)) rfl (fun _ => by kernel_rfl) ?_
    simp only [aP, lI, l0, lS]
    refine pureL (.slice cp m cap) rfl (fun w => cutHi _ _ _ _ _ _ rfl rfl rfl (hcut1 w)) ?_
    simp only [aP, lI, l0, lS]
    refine pureL (.slice cp m cap) rfl (fun _ => by kernel_rfl) ?_
    simp only [aP, lI, l0, lS]
    show Exit.then _ _ _ _ _
    go_upto_region 4 with fail
    refine wp_region_list ?_
    refine readL (.slice sp len cap) rfl (loadSl 23 5 _ ⟨B, 0, none⟩ _ rfl rfl Try.underlying23 hcell) ?_
    simp only [aP, lI, l0, lS]
    refine pureL (.int .i64 (m : Int)) rfl (fun _ => by kernel_rfl) ?_
    simp only [aP, lI, l0, lS]
    refine pureL (.slice cq (len - m) (cap - m)) rfl (fun w => cutOp _ _ _ _ _ _ rfl rfl rfl (hcut2 w)) ?_
    simp only [aP, lI, l0, lS]
    refine storeSl cq (len - m) (cap - m) B 23 _ _ rfl rfl rfl rfl (by rw [hcell]; rfl) T.free (by kernel_rfl) ?_
    simp only [Act.put]
    replace T := T.set cq (len - m) (cap - m) (fun j => z (m + j)) (by omega) hcn2 (hcs2 _ _ hs)
    replace hs := hcs1 _ _ hs
    generalize w.setCell ⟨B, 0, none⟩ (.slice cq (len - m) (cap - m)) = w1 at T ⊢
    clear hcut1 hcut2 hcs1 hcs2 hcn2 hcell
    show Exit.then _ _ _ _ _
    go_upto_region 5 with fail
    refine wp_region_list ?_
    refine pureL (.slice cp m cap) rfl (fun _ => by kernel_rfl) ?_
    simp only [aP, lI, l0, lS]
    refine pureL (.slice cp m cap) rfl (fun _ => by kernel_rfl) ?_
    simp only [aP, lI, l0, lS]
    refine pureL (.bool true) rfl (fun _ => by kernel_rfl) ?_
    simp only [aP, lI, l0, lS]
    show Exit.then _ _ _ _ _
    go_wp2
    go_ret2
    exact .inr ⟨by omega, cp, cap, rfl, by omega, hcn1, hs, T⟩

set_option maxRecDepth 10000 in
set_option maxHeartbeats 8000000 in
theorem left_any (w0 : World) (B len : Nat) (hlen : len ≤ 140737488351240) (z : Nat → Int) (w : World) (T : Tp w0 B len z w) :
    Calls Try.prog 61 #[.pointer (some ⟨B, 0, none⟩)] w fun e w' => ∃ v, e = .returned v ∧ Own w' w.heap.size 5 .u8 len z v ∧ Below w.heap.size w w' := by
  obtain ⟨sp, cap, hcell, hc, hnil, hs⟩ := T.cell
  go_enter Try.func61, Try.ntmps61
  go_upto_region 1 with fail
  refine wp_region_list ?_
  refine readL (.slice sp len cap) rfl (loadSl 23 5 _ ⟨B, 0, none⟩ _ rfl rfl Try.underlying23 hcell) ?_
  simp only [aP, lI, l0, lS]
  refine callL rfl (fun _ => by kernel_rfl) (clone_any sp len cap hlen hc hnil z _ (hs.below T.below (Nat.le_refl _))) ?_
  rintro e w1 ⟨v, rfl, hO, hB⟩
  refine ⟨_, rfl, ?_⟩
  simp only [aP, lI, l0, lS]
  refine pureL v rfl (fun _ => by kernel_rfl) ?_
  simp only [aP, lI, l0, lS]
  show Exit.then _ _ _ _ _
  go_wp2
  go_ret
  exact ⟨v, rfl, hO, hB⟩

theorem vkd_told (b : Int) (h : 0 ≤ b ∧ b < 256) : b / 64 = ((vkd (tK b) : Nat) : Int) ∧ vkd (tK b) ≤ 3 := by
  rcases tK_four b h with ⟨e, e2⟩ | ⟨e, e2⟩ | ⟨e, e2⟩ | ⟨e, e2⟩ <;> rw [e, e2] <;> decide
theorem vkd_inj (a b : Nat) (ha : a = 1 ∨ a = 2 ∨ a = 4 ∨ a = 8) (hb : b = 1 ∨ b = 2 ∨ b = 4 ∨ b = 8) (h : vkd a = vkd b) : a = b := by
  rw [← (vkd_pow a ha).1, ← (vkd_pow b hb).1, h]

set_option maxRecDepth 10000 in
set_option maxHeartbeats 8000000 in
theorem number_any (w0 : World) (B len : Nat) (z : Nat → Int) (hz : In 256 len z) (w : World) (T : Tp w0 B len z w) :
    Calls Try.prog 58 #[(.func (.func 60) #[] #[.pointer (some ⟨B, 0, none⟩)])] w fun e w' => e = .returned (.tuple #[.int .i64 (tN len z), .int .i64 (tE len z)]) ∧ Below w0.heap.size w0 w' ∧ (tE len z = 0 → Tp w0 B (tL len z) (tR z) w') := by
  go_enter Try.func58, Try.ntmps58
  go_upto_region 1 with fail
  refine wp_region_list ?_
  refine pureL (.func (.func 60) #[] #[.pointer (some ⟨B, 0, none⟩)]) rfl (fun _ => by kernel_rfl) ?_
  simp only [aP, lI, l0, lS]
  refine callL rfl (fun _ => by kernel_rfl) (next_any w0 B _ _ 1 _ T) ?_
  intro e w1 h
  clear T
  rcases h with ⟨h1, rfl, T⟩ | ⟨h1, sp, cap, rfl, hc1, hn1, hs1, T⟩
  · refine ⟨_, rfl, ?_⟩
    simp only [aP, lI, l0, lS]
    refine pureL (.tuple #[(.slice none 0 0), .bool false]) rfl (fun _ => by kernel_rfl) ?_
    simp only [aP, lI, l0, lS]
    refine pureL (.slice none 0 0) rfl (fun _ => by kernel_rfl) ?_
    simp only [aP, lI, l0, lS]
    refine pureL (.bool false) rfl (fun _ => by kernel_rfl) ?_
    simp only [aP, lI, l0, lS]
    refine pureL (.slice none 0 0) rfl (fun _ => by kernel_rfl) ?_
    simp only [aP, lI, l0, lS]
    refine pureL (.bool false) rfl (fun _ => by kernel_rfl) ?_
    simp only [aP, lI, l0, lS]
    show Exit.then _ _ _ _ _
    have hE : tE len z = 3 := by unfold tE; rw [if_pos (by omega)]
    go_upto_region 2 with fail
    refine wp_region_list ?_
    refine pureL (.bool false) rfl (fun _ => by kernel_rfl) ?_
    simp only [aP, lI, l0, lS]
    refine pureL (.bool true) rfl (fun _ => by kernel_rfl) ?_
    simp only [aP, lI, l0, lS]
    show Exit.then _ _ _ _ _
    have hN : tN len z = 0 := by unfold tN; rw [hE]; rfl
    have hA := show Hid _ from (And.intro hN hE)
    clear hN hE
    go_wp2
    go_ret2
    exact ⟨by rw [hA.out.1, hA.out.2]; rfl, T.below, fun h => by rw [hA.out.2] at h; omega⟩
  · obtain ⟨ad, rfl, hc0⟩ := hs1 0 (by omega)
    have hz0 := hz 0 (by omega)
    have hto := vkd_told (z 0) hz0
    have hK4 := tK_four (z 0) hz0
    have hKp := vkd_pow (tK (z 0)) (by omega)
    have hcz : w1.cell? (ad.add 0) = some (.int .u8 (z 0)) := by
      have hb : (ad.add 0).block < w0.heap.size := World.block_lt_of_cell? w0 _ hc0
      rw [T.below.cell hb]
      exact hc0
    refine ⟨_, rfl, ?_⟩
    simp only [aP, lI, l0, lS]
    refine pureL (.tuple #[(.slice (some ad) 1 cap), .bool true]) rfl (fun _ => by kernel_rfl) ?_
    simp only [aP, lI, l0, lS]
    refine pureL (.slice (some ad) 1 cap) rfl (fun _ => by kernel_rfl) ?_
    simp only [aP, lI, l0, lS]
    refine pureL (.bool true) rfl (fun _ => by kernel_rfl) ?_
    simp only [aP, lI, l0, lS]
    refine pureL (.slice (some ad) 1 cap) rfl (fun _ => by kernel_rfl) ?_
    simp only [aP, lI, l0, lS]
    refine pureL (.bool true) rfl (fun _ => by kernel_rfl) ?_
    simp only [aP, lI, l0, lS]
    show Exit.then _ _ _ _ _
    go_upto_region 2 with fail
    refine wp_region_list ?_
    refine pureL (.bool true) rfl (fun _ => by kernel_rfl) ?_
    simp only [aP, lI, l0, lS]
    refine pureL (.bool false) rfl (fun _ => by kernel_rfl) ?_
    simp only [aP, lI, l0, lS]
    show Exit.then _ _ _ _ _
    go_upto_region 4 with fail
    refine wp_region_list ?_
    refine pureL (.slice (some ad) 1 cap) rfl (fun _ => by kernel_rfl) ?_
    simp only [aP, lI, l0, lS]
    refine pureL (.pointer (some (ad.add 0))) rfl (fun w => idxSl 23 5 1 cap .i64 ad 0 _ _ Try.underlying23 (fun _ => by kernel_rfl) (by omega) rfl rfl rfl w) ?_
    simp only [aP, lI, l0, lS]
    refine readL (.int .u8 (z 0)) rfl (loadAny 5 .u8 _ (ad.add 0) _ rfl rfl Try.underlying5 hcz) ?_
    simp only [aP, lI, l0, lS]
    refine pureL (.int .u8 (((vkd (tK (z 0))) : Nat) : Int)) rfl (fun w => shrI .u8 .u64 _ _ _ _ _ _ _ rfl rfl rfl (by omega) (by rw [show min (6 : Int).toNat IntKind.u8.bits = 6 from rfl, ← hto.1]; omega) w) ?_
    simp only [aP, lI, l0, lS]
    refine pureL (.int .i64 (((vkd (tK (z 0))) : Nat) : Int)) rfl (fun w => convI .u8 .i64 _ _ _ _ _ rfl (by kernel_rfl) Try.underlying3 (by kernel_rfl) rfl (by rw [IntKind.wrap_i64]; omega) w) ?_
    simp only [aP, lI, l0, lS]
    refine pureL (.int .i64 (((vkd (tK (z 0))) : Nat) : Int)) rfl (fun _ => by kernel_rfl) ?_
    simp only [aP, lI, l0, lS]
    show Exit.then _ _ _ _ _
    obtain ⟨m, hm⟩ : ∃ m, tK (z 0) = m + 1 := ⟨tK (z 0) - 1, by omega⟩
    go_upto_region 5 with fail
    refine wp_region_list ?_
    refine pureL (.func (.func 60) #[] #[.pointer (some ⟨B, 0, none⟩)]) rfl (fun _ => by kernel_rfl) ?_
    simp only [aP, lI, l0, lS]
    refine pureL (.int .i64 (((vkd (tK (z 0))) : Nat) : Int)) rfl (fun _ => by kernel_rfl) ?_
    simp only [aP, lI, l0, lS]
    refine pureL (.int .i64 ((m + 1 : Nat) : Int)) rfl (fun w => shlI .i64 .i64 _ _ _ _ _ _ _ rfl rfl rfl (by omega) (by rw [shl_one (vkd (tK (z 0))) hto.2, hKp.1, hm]) w) ?_
    simp only [aP, lI, l0, lS]
    refine pureL (.int .i64 (m : Int)) rfl (fun w => subI .i64 _ _ _ _ _ _ _ rfl rfl rfl (by rw [IntKind.wrap_i64]; omega) w) ?_
    simp only [aP, lI, l0, lS]
    refine callL rfl (fun _ => by kernel_rfl) (next_any w0 B _ _ m _ T) ?_
    intro e w2 h
    clear T hcz
    rcases h with ⟨h2, rfl, T⟩ | ⟨h2, tp, tc, rfl, hc2, hn2, hs2, T⟩
    · refine ⟨_, rfl, ?_⟩
      simp only [aP, lI, l0, lS]
      refine pureL (.tuple #[(.slice none 0 0), .bool false]) rfl (fun _ => by kernel_rfl) ?_
      simp only [aP, lI, l0, lS]
      refine pureL (.slice none 0 0) rfl (fun _ => by kernel_rfl) ?_
      simp only [aP, lI, l0, lS]
      refine pureL (.bool false) rfl (fun _ => by kernel_rfl) ?_
      simp only [aP, lI, l0, lS]
      refine pureL (.slice none 0 0) rfl (fun _ => by kernel_rfl) ?_
      simp only [aP, lI, l0, lS]
      refine pureL (.bool false) rfl (fun _ => by kernel_rfl) ?_
      simp only [aP, lI, l0, lS]
      show Exit.then _ _ _ _ _
      have hE : tE len z = 3 := by unfold tE; rw [if_neg (by omega), if_pos (by omega)]
      go_upto_region 6 with fail
      refine wp_region_list ?_
      refine pureL (.bool false) rfl (fun _ => by kernel_rfl) ?_
      simp only [aP, lI, l0, lS]
      refine pureL (.bool true) rfl (fun _ => by kernel_rfl) ?_
      simp only [aP, lI, l0, lS]
      show Exit.then _ _ _ _ _
      have hN : tN len z = 0 := by unfold tN; rw [hE]; rfl
      have hA := show Hid _ from (And.intro hN hE)
      clear hN hE
      go_wp2
      go_ret2
      exact ⟨by rw [hA.out.1, hA.out.2]; rfl, T.below, fun h => by rw [hA.out.2] at h; omega⟩
    · have hcz : w2.cell? (ad.add 0) = some (.int .u8 (z 0)) := by
        have hb : (ad.add 0).block < w0.heap.size := World.block_lt_of_cell? w0 _ hc0
        rw [T.below.cell hb]
        exact hc0
      have hnn := tV_nonneg z len hz m (by omega)
      refine ⟨_, rfl, ?_⟩
      simp only [aP, lI, l0, lS]
      refine pureL (.tuple #[(.slice tp m tc), .bool true]) rfl (fun _ => by kernel_rfl) ?_
      simp only [aP, lI, l0, lS]
      refine pureL (.slice tp m tc) rfl (fun _ => by kernel_rfl) ?_
      simp only [aP, lI, l0, lS]
      refine pureL (.bool true) rfl (fun _ => by kernel_rfl) ?_
      simp only [aP, lI, l0, lS]
      refine pureL (.slice tp m tc) rfl (fun _ => by kernel_rfl) ?_
      simp only [aP, lI, l0, lS]
      refine pureL (.bool true) rfl (fun _ => by kernel_rfl) ?_
      simp only [aP, lI, l0, lS]
      show Exit.then _ _ _ _ _
      go_upto_region 6 with fail
      refine wp_region_list ?_
      refine pureL (.bool true) rfl (fun _ => by kernel_rfl) ?_
      simp only [aP, lI, l0, lS]
      refine pureL (.bool false) rfl (fun _ => by kernel_rfl) ?_
      simp only [aP, lI, l0, lS]
      show Exit.then _ _ _ _ _
      go_upto_region 8 with fail
      refine wp_region_list ?_
      refine pureL (.slice (some ad) 1 cap) rfl (fun _ => by kernel_rfl) ?_
      simp only [aP, lI, l0, lS]
      refine pureL (.pointer (some (ad.add 0))) rfl (fun w => idxSl 23 5 1 cap .i64 ad 0 _ _ Try.underlying23 (fun _ => by kernel_rfl) (by omega) rfl rfl rfl w) ?_
      simp only [aP, lI, l0, lS]
      refine readL (.int .u8 (z 0)) rfl (loadAny 5 .u8 _ (ad.add 0) _ rfl rfl Try.underlying5 hcz) ?_
      simp only [aP, lI, l0, lS]
      refine pureL (.int .i64 (z 0)) rfl (fun w => convI .u8 .i64 _ _ _ _ _ rfl (by kernel_rfl) Try.underlying3 (by kernel_rfl) rfl (by rw [IntKind.wrap_i64]; omega) w) ?_
      simp only [aP, lI, l0, lS]
      refine pureL (.int .i64 ((z 0) % 64)) rfl (fun w => vandI .i64 _ _ _ _ _ _ _ rfl rfl rfl (i64_and63 _) w) ?_
      simp only [aP, lI, l0, lS]
      refine pureL (.slice tp m tc) rfl (fun _ => by kernel_rfl) ?_
      simp only [aP, lI, l0, lS]
      refine callL rfl (fun _ => by kernel_rfl) (join_any (z 0 % 64) (by omega) tp m tc (by omega) (fun j => z (1 + j)) (fun j hj => hz (1 + j) (by omega)) _ (hs2.below T.below (Nat.le_refl _))) ?_
      rintro e w3 ⟨rfl, l⟩
      refine ⟨_, rfl, ?_⟩
      simp only [aP, lI, l0, lS]
      rw [jV_one z m]
      replace T := T.call l
      clear l hcz
      obtain ⟨q, hq⟩ := Int.eq_ofNat_of_zero_le hnn.1
      rw [hq]
      refine pureL (.int .i64 (q : Int)) rfl (fun _ => by kernel_rfl) ?_
      simp only [aP, lI, l0, lS]
      show Exit.then _ _ _ _ _
      have hv4 := vsz_four q
      have htE : tE len z = if vsz q ≠ tK (z 0) then 90 else 0 := by
        unfold tE
        rw [if_neg (by omega), if_neg (by omega), hm, Nat.add_sub_cancel, hq, Int.toNat_natCast]
      by_cases h3 : vsz q ≠ tK (z 0)
      · have hE : tE len z = 90 := by rw [htE, if_pos h3]
        have hd : vkd (tK (z 0)) ≠ vkd (vsz q) := fun e => h3 (vkd_inj _ _ (by omega) (by omega) e).symm
        go_upto_region 9 with fail
        refine wp_region_list ?_
        refine pureL (.int .i64 (((vkd (tK (z 0))) : Nat) : Int)) rfl (fun _ => by kernel_rfl) ?_
        simp only [aP, lI, l0, lS]
        refine pureL (.int .i64 (q : Int)) rfl (fun _ => by kernel_rfl) ?_
        simp only [aP, lI, l0, lS]
        refine callL rfl (fun _ => by kernel_rfl) (tell_any q _) ?_
        rintro e w4 ⟨rfl, l⟩
        refine ⟨_, rfl, ?_⟩
        simp only [aP, lI, l0, lS]
        replace T := T.call l
        clear l
        refine pureL (.bool true) rfl (fun w => neqI .i64 _ _ _ _ _ _ rfl rfl rfl true (by simp; omega) w) ?_
        simp only [aP, lI, l0, lS]
        show Exit.then _ _ _ _ _
        have hN : tN len z = 0 := by unfold tN; rw [hE]; rfl
        have hA := show Hid _ from (And.intro hN hE)
        clear hN hE
        go_wp2
        go_ret2
        exact ⟨by rw [hA.out.1, hA.out.2]; rfl, T.below, fun h => by rw [hA.out.2] at h; omega⟩
      · have h3' : vsz q = tK (z 0) := by omega
        have hE : tE len z = 0 := by rw [htE, if_neg h3]
        have hN : tN len z = (q : Int) := by unfold tN; rw [if_pos hE, hm, Nat.add_sub_cancel, hq]
        have hL : tL len z = len - 1 - m := by unfold tL; rw [if_pos hE, hm]; omega
        have hR : (fun j => (fun j => z (1 + j)) (m + j)) = tR z := by unfold tR; funext j; rw [hm]; show z (1 + (m + j)) = z (m + 1 + j); rw [show 1 + (m + j) = m + 1 + j by omega]
        go_upto_region 9 with fail
        refine wp_region_list ?_
        refine pureL (.int .i64 (((vkd (tK (z 0))) : Nat) : Int)) rfl (fun _ => by kernel_rfl) ?_
        simp only [aP, lI, l0, lS]
        refine pureL (.int .i64 (q : Int)) rfl (fun _ => by kernel_rfl) ?_
        simp only [aP, lI, l0, lS]
        refine callL rfl (fun _ => by kernel_rfl) (tell_any q _) ?_
        rintro e w4 ⟨rfl, l⟩
        refine ⟨_, rfl, ?_⟩
        simp only [aP, lI, l0, lS]
        replace T := T.call l
        clear l
        refine pureL (.bool false) rfl (fun w => neqI .i64 _ _ _ _ _ _ rfl rfl rfl false (by rw [h3']; simp) w) ?_
        simp only [aP, lI, l0, lS]
        show Exit.then _ _ _ _ _
        rw [hR] at T
        have hA := show Hid _ from (And.intro hN (And.intro hE hL))
        clear hN hE hL hR htE
        go_upto_region 11 with fail
        refine wp_region_list ?_
        refine pureL (.int .i64 (q : Int)) rfl (fun _ => by kernel_rfl) ?_
        simp only [aP, lI, l0, lS]
        refine pureL (.int .i64 (q : Int)) rfl (fun _ => by kernel_rfl) ?_
        simp only [aP, lI, l0, lS]
        refine pureL (.int .i64 0) rfl (fun _ => by kernel_rfl) ?_
        simp only [aP, lI, l0, lS]
        show Exit.then _ _ _ _ _
        go_wp2
        go_ret2
        exact ⟨by rw [hA.out.1, hA.out.2.1]; rfl, T.below, fun _ => by rw [hA.out.2.2]; exact T⟩

end Go.Proofs.Yteaamgjlkohfcaa

namespace Go.Proofs.Yteaamgjlkohfcaa
open Go.RowKit

/-- One of two. -/
def pk2 {α : Type} (a b : α) : Nat → α
  | 0 => a
  | _ => b
theorem tot2 (a b : Nat) : tot (pk2 a b) 2 = a + b := by show 0 + a + b = _; omega
theorem catIn2 {w : World} (C : Nat) (p1 p2 : Option Addr) (l1 l2 c1 c2 : Nat) (z1 z2 : Nat → Int) (t : TypeId) (hC : C = w.heap.size) (h1 : Src w p1 l1 z1) (h2 : Src w p2 l2 z2) (n1 : p1 = none → c1 = 0) (n2 : p2 = none → c2 = 0) :
    CatIn (w.alloc (.cells #[.slice p1 l1 c1, .slice p2 l2 c2] t)) ⟨C, 0, none⟩ 2 (pk2 p1 p2) (pk2 l1 l2) (pk2 c1 c2) (pk2 z1 z2) := by
  have hb := (Below.refl w.heap.size w).alloc (Nat.le_refl _) (.cells #[.slice p1 l1 c1, .slice p2 l2 c2] t)
  refine ⟨fun j hj => ?_, fun j hj => ?_, fun j hj => ?_⟩
  · rw [Addr.add_mid, World.cell?_alloc_at _ _ _ _ hC]
    match j, hj with
    | 0, _ | 1, _ => rfl
    | _ + 2, h => omega
  · match j, hj with
    | 0, _ => exact h1.below hb (Nat.le_refl _)
    | 1, _ => exact h2.below hb (Nat.le_refl _)
    | _ + 2, h => omega
  · match j, hj with
    | 0, _ => exact n1
    | 1, _ => exact n2
    | _ + 2, h => omega
theorem catz2 (a b : Nat) (z1 z2 : Nat → Int) (j : Nat) : catz (pk2 a b) (pk2 z1 z2) 2 j = app z1 a z2 j := by
  show app (app (fun _ => 0) 0 z1) (0 + a) z2 j = app z1 a z2 j
  unfold app
  rw [Nat.zero_add]
  by_cases h : j < a
  · rw [if_pos h, if_pos h, if_neg (Nat.not_lt_zero j), Nat.sub_zero]
  · rw [if_neg h, if_neg h]
theorem catz3 (a b c : Nat) (z1 z2 z3 : Nat → Int) (j : Nat) : catz (pk3 a b c) (pk3 z1 z2 z3) 3 j = app (app z1 a z2) (a + b) z3 j := by
  show app (app (app (fun _ => 0) 0 z1) (0 + a) z2) (0 + a + b) z3 j = app (app z1 a z2) (a + b) z3 j
  rw [Nat.zero_add]
  unfold app
  by_cases h : j < a + b
  · rw [if_pos h, if_pos h]
    by_cases h' : j < a
    · rw [if_pos h', if_pos h', if_neg (Nat.not_lt_zero j), Nat.sub_zero]
    · rw [if_neg h', if_neg h']
  · rw [if_neg h, if_neg h]

set_option maxRecDepth 10000 in
set_option maxHeartbeats 8000000 in
theorem vputvar_any : PutVarOK := by
  intro sp len cap hlen hcap hnil z hz n hn w hs
  have hB := Below.refl w.heap.size w
  by_cases hb : vbad n
  · have e1 : vE n = 1 := by unfold vE; rw [if_pos hb]
    have e2 : vL len n = 0 := by unfold vL; rw [if_pos hb]
    unfold vbad at hb
    have fin : PutV len z n w.heap.size (.returned (.tuple #[.slice none 0 0, .int .i64 1])) w := ⟨_, by rw [e1], by rw [e2]; exact World.ownsRow_nil w _ _ 1⟩
    by_cases h1 : n < 0
    · clear hb hn
      go_enter Try.func39, Try.ntmps39
      go_wp2
      go_ret2
      exact ⟨fin, hB⟩
    · have h2 : 4611686018427387903 < n := by omega
      have h2' : 4611686018427387904 ≤ n := by omega
      clear hb hn
      go_enter Try.func39, Try.ntmps39
      go_wp2
      go_ret2
      exact ⟨fin, hB⟩
  · have e1 : vE n = 0 := by unfold vE; rw [if_neg hb]
    have e2 : vL len n = len + vsz n.toNat := by unfold vL; rw [if_neg hb]
    have e3 : vput len z n = app z len (vby n.toNat) := rfl
    unfold vbad at hb
    obtain ⟨n, rfl⟩ := Int.eq_ofNat_of_zero_le (show 0 ≤ n by omega)
    rw [Int.toNat_natCast] at e2 e3
    have h1 : ¬ (n : Int) < 0 := by omega
    have h2 : ¬ 4611686018427387903 < (n : Int) := by omega
    have h2' : ¬ 4611686018427387904 ≤ (n : Int) := by omega
    have hv8 := vsz_le n
    go_enter Try.func39, Try.ntmps39
    go_upto_region 3 with fail
    clear h1 h2 h2'
    refine wp_region_list ?_
    refine pureL (.slice sp len cap) rfl (fun _ => by kernel_rfl) ?_
    simp only [aP, lI, l0, lS]
    refine pureL (.int .i64 (n : Int)) rfl (fun _ => by kernel_rfl) ?_
    simp only [aP, lI, l0, lS]
    refine callL rfl (fun _ => by kernel_rfl) (least_any n (by omega) _) ?_
    rintro e w1 ⟨B, rfl, hS, hB⟩
    refine ⟨_, rfl, ?_⟩
    simp only [aP, lI, l0, lS]
    refine actL (w' := w1.alloc (.cells #[.slice sp len cap, .slice (some ⟨B, 8 - vsz n, none⟩) (vsz n) (vsz n)] 23)) (.slice (some ⟨w1.heap.size, 0, none⟩) 2 2) rfl (by kernel_rfl) ?_
    simp only [aP, lI, l0, lS]
    have HC := catIn2 w1.heap.size sp (some ⟨B, 8 - vsz n, none⟩) len (vsz n) cap (vsz n) z (vby n) 23 rfl (hs.below hB (Nat.le_refl _)) hS hnil (fun e => by cases e)
    replace hB := hB.alloc hB.size (.cells #[.slice sp len cap, .slice (some ⟨B, 8 - vsz n, none⟩) (vsz n) (vsz n)] 23)
    refine callL rfl (fun _ => by kernel_rfl) (concat_any ⟨w1.heap.size, 0, none⟩ 2 2 _ _ _ _ (by decide) (by rw [tot2]; omega) _ HC) ?_
    rintro e w2 ⟨v, rfl, hO, hb⟩
    rw [tot2] at hO
    have hO2 : Own w2 w.heap.size 5 .u8 (len + vsz n) (app z len (vby n)) v := (hO.congr fun j _ => catz2 _ _ _ _ j).lower hB.size
    replace hB := hB.trans (hb.mono hB.size)
    clear hO hb HC hS
    refine ⟨_, rfl, ?_⟩
    simp only [aP, lI, l0, lS]
    refine pureL v rfl (fun _ => by kernel_rfl) ?_
    simp only [aP, lI, l0, lS]
    refine pureL (.int .i64 0) rfl (fun _ => by kernel_rfl) ?_
    simp only [aP, lI, l0, lS]
    show Exit.then _ _ _ _ _
    go_wp2
    go_ret2
    exact ⟨⟨v, by rw [e1]; rfl, by rw [e2, e3]; exact hO2⟩, hB⟩

set_option maxRecDepth 10000 in
set_option maxHeartbeats 8000000 in
theorem vputbytes_any : PutBytesOK := by
  intro sp len cap hlen hcap hnil z hz tp tl tc htl htc htn x hx hsum w hs ht
  have hv8 := vsz_le tl
  go_enter Try.func31, Try.ntmps31
  go_upto_region 1 with fail
  refine wp_region_list ?_
  refine pureL (.slice sp len cap) rfl (fun _ => by kernel_rfl) ?_
  simp only [aP, lI, l0, lS]
  refine pureL (.slice tp tl tc) rfl (fun _ => by kernel_rfl) ?_
  simp only [aP, lI, l0, lS]
  refine pureL (.int .i64 (tl : Int)) rfl (fun w => lenS _ 23 5 (tp) (tl) (tc) rfl Try.underlying23 rfl w) ?_
  simp only [aP, lI, l0, lS]
  refine callL rfl (fun _ => by kernel_rfl) (least_any tl (by omega) _) ?_
  rintro e w1 ⟨B, rfl, hS, hB⟩
  refine ⟨_, rfl, ?_⟩
  simp only [aP, lI, l0, lS]
  refine pureL (.slice tp tl tc) rfl (fun _ => by kernel_rfl) ?_
  simp only [aP, lI, l0, lS]
  refine actL (w' := w1.alloc (.cells #[.slice sp len cap, .slice (some ⟨B, 8 - vsz tl, none⟩) (vsz tl) (vsz tl), .slice tp tl tc] 23)) (.slice (some ⟨w1.heap.size, 0, none⟩) 3 3) rfl (by kernel_rfl) ?_
  simp only [aP, lI, l0, lS]
  have HC := catIn3 w1.heap.size sp (some ⟨B, 8 - vsz tl, none⟩) tp len (vsz tl) tl cap (vsz tl) tc z (vby tl) x 23 rfl (hs.below hB (Nat.le_refl _)) hS (ht.below hB (Nat.le_refl _)) hnil (fun e => by cases e) htn
  replace hB := hB.alloc hB.size (.cells #[.slice sp len cap, .slice (some ⟨B, 8 - vsz tl, none⟩) (vsz tl) (vsz tl), .slice tp tl tc] 23)
  refine callL rfl (fun _ => by kernel_rfl) (concat_any ⟨w1.heap.size, 0, none⟩ 3 3 _ _ _ _ (by decide) (by rw [tot3]; omega) _ HC) ?_
  rintro e w2 ⟨v, rfl, hO, hb⟩
  rw [tot3] at hO
  have hO2 : Own w2 w.heap.size 5 .u8 (len + vsz tl + tl) (app (app z len (vby tl)) (len + vsz tl) x) v := (hO.congr fun j _ => catz3 _ _ _ _ _ _ j).lower hB.size
  replace hB := hB.trans (hb.mono hB.size)
  clear hO hb HC hS
  refine ⟨_, rfl, ?_⟩
  simp only [aP, lI, l0, lS]
  refine pureL v rfl (fun _ => by kernel_rfl) ?_
  simp only [aP, lI, l0, lS]
  refine pureL (.int .i64 0) rfl (fun _ => by kernel_rfl) ?_
  simp only [aP, lI, l0, lS]
  show Exit.then _ _ _ _ _
  go_wp2
  go_ret2
  exact ⟨⟨v, rfl, hO2⟩, hB⟩

end Go.Proofs.Yteaamgjlkohfcaa

namespace Go.Proofs.Yteaamgjlkohfcaa
open Go.RowKit

def TakeVO (len : Nat) (z : Nat → Int) (B : Nat) (e : Ending) (w' : World) : Prop := ∃ v, e = .returned (.tuple #[.int .i64 (tN len z), v, .int .i64 (tE len z)]) ∧ Own w' B 5 .u8 (tL len z) (tR z) v
def TakeBO (len : Nat) (z : Nat → Int) (most : Int) (B : Nat) (e : Ending) (w' : World) : Prop := ∃ t v, e = .returned (.tuple #[t, v, .int .i64 (xE len z most)]) ∧ Own w' B 5 .u8 (xL len z most) (tR z) t ∧ Own w' B 5 .u8 (yL len z most) (yR len z) v
def TakeVarOw : Prop := ∀ (sp : Option Addr) (len cap : Nat), len ≤ 140737488351240 → len ≤ cap → (sp = none → cap = 0) → ∀ z : Nat → Int, In 256 len z → ∀ w : World, Src w sp len z → Calls Try.prog 54 #[.slice sp len cap] w fun e w' => TakeVO len z w.heap.size e w' ∧ Below w.heap.size w w'
def TakeBytesOw : Prop := ∀ (sp : Option Addr) (len cap : Nat), len ≤ 140737488351240 → len ≤ cap → (sp = none → cap = 0) → ∀ z : Nat → Int, In 256 len z → ∀ most : Int, (-9223372036854775808 ≤ most ∧ most < 9223372036854775808) → ∀ w : World, Src w sp len z → Calls Try.prog 55 #[.slice sp len cap, .int .i64 most] w fun e w' => TakeBO len z most w.heap.size e w' ∧ Below w.heap.size w w'
set_option maxRecDepth 10000 in
set_option maxHeartbeats 8000000 in
theorem vtakevar_own : TakeVarOw := by
  intro sp len cap hlen hcap hnil z hz w hs
  have hle : tL len z ≤ len := by unfold tL; split <;> omega
  go_enter Try.func54, Try.ntmps54
  go_upto_region 1 with fail
  refine wp_region_list ?_
  refine pureL (.slice sp len cap) rfl (fun _ => by kernel_rfl) ?_
  simp only [aP, lI, l0, lS]
  refine callL rfl (fun _ => by kernel_rfl) (along_any sp len cap hcap hnil z _ hs) ?_
  rintro e w1 ⟨B, rfl, T⟩
  refine ⟨_, rfl, ?_⟩
  simp only [aP, lI, l0, lS]
  refine pureL (.tuple #[(.func (.func 60) #[] #[.pointer (some ⟨B, 0, none⟩)]), (.func (.func 61) #[] #[.pointer (some ⟨B, 0, none⟩)])]) rfl (fun _ => by kernel_rfl) ?_
  simp only [aP, lI, l0, lS]
  refine pureL (.func (.func 60) #[] #[.pointer (some ⟨B, 0, none⟩)]) rfl (fun _ => by kernel_rfl) ?_
  simp only [aP, lI, l0, lS]
  refine pureL (.func (.func 61) #[] #[.pointer (some ⟨B, 0, none⟩)]) rfl (fun _ => by kernel_rfl) ?_
  simp only [aP, lI, l0, lS]
  refine pureL (.func (.func 60) #[] #[.pointer (some ⟨B, 0, none⟩)]) rfl (fun _ => by kernel_rfl) ?_
  simp only [aP, lI, l0, lS]
  refine pureL (.func (.func 61) #[] #[.pointer (some ⟨B, 0, none⟩)]) rfl (fun _ => by kernel_rfl) ?_
  simp only [aP, lI, l0, lS]
  show Exit.then _ _ _ _ _
  go_upto_region 2 with fail
  refine wp_region_list ?_
  refine pureL (.func (.func 60) #[] #[.pointer (some ⟨B, 0, none⟩)]) rfl (fun _ => by kernel_rfl) ?_
  simp only [aP, lI, l0, lS]
  refine callL rfl (fun _ => by kernel_rfl) (number_any w B len z hz _ T) ?_
  rintro e w2 ⟨rfl, hB, T2⟩
  clear T
  refine ⟨_, rfl, ?_⟩
  simp only [aP, lI, l0, lS]
  refine pureL (.tuple #[(.int .i64 (tN len z)), (.int .i64 (tE len z))]) rfl (fun _ => by kernel_rfl) ?_
  simp only [aP, lI, l0, lS]
  refine pureL (.int .i64 (tN len z)) rfl (fun _ => by kernel_rfl) ?_
  simp only [aP, lI, l0, lS]
  refine pureL (.int .i64 (tE len z)) rfl (fun _ => by kernel_rfl) ?_
  simp only [aP, lI, l0, lS]
  refine pureL (.int .i64 (tN len z)) rfl (fun _ => by kernel_rfl) ?_
  simp only [aP, lI, l0, lS]
  refine pureL (.int .i64 (tE len z)) rfl (fun _ => by kernel_rfl) ?_
  simp only [aP, lI, l0, lS]
  show Exit.then _ _ _ _ _
  by_cases h1 : tE len z = 0
  · go_upto_region 3 with fail
    refine wp_region_list ?_
    refine pureL (.int .i64 (tE len z)) rfl (fun _ => by kernel_rfl) ?_
    simp only [aP, lI, l0, lS]
    refine pureL (.bool false) rfl (fun w => neqI .i64 _ _ _ _ _ _ rfl rfl rfl false (by simp [h1]) w) ?_
    simp only [aP, lI, l0, lS]
    show Exit.then _ _ _ _ _
    replace T2 := T2 h1
    go_upto_region 5 with fail
    refine wp_region_list ?_
    refine pureL (.int .i64 (tN len z)) rfl (fun _ => by kernel_rfl) ?_
    simp only [aP, lI, l0, lS]
    refine pureL (.func (.func 61) #[] #[.pointer (some ⟨B, 0, none⟩)]) rfl (fun _ => by kernel_rfl) ?_
    simp only [aP, lI, l0, lS]
    refine callL rfl (fun _ => by kernel_rfl) (left_any w B _ (by omega) _ _ T2) ?_
    rintro e w3 ⟨v, rfl, hO, l⟩
    obtain ⟨rp, rc, rfl, _, _⟩ := hO.bytes
    replace hO := hO.lower hB.size
    replace hB := hB.trans (l.mono hB.size)
    clear T2 l
    refine ⟨_, rfl, ?_⟩
    simp only [aP, lI, l0, lS]
    refine pureL (.int .i64 (tN len z)) rfl (fun _ => by kernel_rfl) ?_
    simp only [aP, lI, l0, lS]
    refine pureL (.slice rp (tL len z) rc) rfl (fun _ => by kernel_rfl) ?_
    simp only [aP, lI, l0, lS]
    refine pureL (.int .i64 0) rfl (fun _ => by kernel_rfl) ?_
    simp only [aP, lI, l0, lS]
    show Exit.then _ _ _ _ _
    have h1' := show Hid _ from h1
    clear h1
    go_wp2
    refine bodyPost_ret (results_tmp3 Try.results54 _ _ _) rfl ?_
    exact ⟨⟨_, by rw [h1'.out]; rfl, hO⟩, hB⟩
  · have hN : tN len z = 0 := by unfold tN; rw [if_neg h1]
    have hL : tL len z = 0 := by unfold tL; rw [if_neg h1]
    clear T2
    go_upto_region 3 with fail
    refine wp_region_list ?_
    refine pureL (.int .i64 (tE len z)) rfl (fun _ => by kernel_rfl) ?_
    simp only [aP, lI, l0, lS]
    refine pureL (.bool true) rfl (fun w => neqI .i64 _ _ _ _ _ _ rfl rfl rfl true (by simp [h1]) w) ?_
    simp only [aP, lI, l0, lS]
    show Exit.then _ _ _ _ _
    have hA := show Hid _ from (And.intro hN hL)
    clear hN hL
    go_wp2
    refine bodyPost_ret (results_tmp3 Try.results54 _ _ _) rfl ?_
    exact ⟨⟨.slice none 0 0, by rw [hA.out.1]; rfl, by rw [hA.out.2]; exact World.ownsRow_nil _ _ _ 1⟩, hB⟩

set_option maxRecDepth 10000 in
set_option maxHeartbeats 8000000 in
theorem vtakebytes_own : TakeBytesOw := by
  intro sp len cap hlen hcap hnil z hz most hm w hs
  go_enter Try.func55, Try.ntmps55
  go_upto_region 1 with fail
  refine wp_region_list ?_
  refine pureL (.slice sp len cap) rfl (fun _ => by kernel_rfl) ?_
  simp only [aP, lI, l0, lS]
  refine callL rfl (fun _ => by kernel_rfl) (along_any sp len cap hcap hnil z _ hs) ?_
  rintro e w1 ⟨B, rfl, T⟩
  refine ⟨_, rfl, ?_⟩
  simp only [aP, lI, l0, lS]
  refine pureL (.tuple #[(.func (.func 60) #[] #[.pointer (some ⟨B, 0, none⟩)]), (.func (.func 61) #[] #[.pointer (some ⟨B, 0, none⟩)])]) rfl (fun _ => by kernel_rfl) ?_
  simp only [aP, lI, l0, lS]
  refine pureL (.func (.func 60) #[] #[.pointer (some ⟨B, 0, none⟩)]) rfl (fun _ => by kernel_rfl) ?_
  simp only [aP, lI, l0, lS]
  refine pureL (.func (.func 61) #[] #[.pointer (some ⟨B, 0, none⟩)]) rfl (fun _ => by kernel_rfl) ?_
  simp only [aP, lI, l0, lS]
  refine pureL (.func (.func 60) #[] #[.pointer (some ⟨B, 0, none⟩)]) rfl (fun _ => by kernel_rfl) ?_
  simp only [aP, lI, l0, lS]
  refine pureL (.func (.func 61) #[] #[.pointer (some ⟨B, 0, none⟩)]) rfl (fun _ => by kernel_rfl) ?_
  simp only [aP, lI, l0, lS]
  show Exit.then _ _ _ _ _
  go_upto_region 2 with fail
  refine wp_region_list ?_
  refine pureL (.func (.func 60) #[] #[.pointer (some ⟨B, 0, none⟩)]) rfl (fun _ => by kernel_rfl) ?_
  simp only [aP, lI, l0, lS]
  refine callL rfl (fun _ => by kernel_rfl) (number_any w B len z hz _ T) ?_
  rintro e w2 ⟨rfl, hB, T2⟩
  clear T
  refine ⟨_, rfl, ?_⟩
  simp only [aP, lI, l0, lS]
  refine pureL (.tuple #[(.int .i64 (tN len z)), (.int .i64 (tE len z))]) rfl (fun _ => by kernel_rfl) ?_
  simp only [aP, lI, l0, lS]
  refine pureL (.int .i64 (tN len z)) rfl (fun _ => by kernel_rfl) ?_
  simp only [aP, lI, l0, lS]
  refine pureL (.int .i64 (tE len z)) rfl (fun _ => by kernel_rfl) ?_
  simp only [aP, lI, l0, lS]
  refine pureL (.int .i64 (tN len z)) rfl (fun _ => by kernel_rfl) ?_
  simp only [aP, lI, l0, lS]
  refine pureL (.int .i64 (tE len z)) rfl (fun _ => by kernel_rfl) ?_
  simp only [aP, lI, l0, lS]
  show Exit.then _ _ _ _ _
  by_cases h1 : tE len z = 0
  · have hN0 : 0 ≤ tN len z := by
      obtain ⟨q1, q2, q3⟩ := tE_ok h1
      unfold tN
      rw [if_pos h1]
      have hk := tK_four (z 0) (hz 0 q1)
      exact (tV_nonneg z len hz _ (by omega)).1
    have hxe : xE len z most = if most < tN len z then 2 else if ((tL len z : Nat) : Int) < tN len z then 3 else 0 := by unfold xE; rw [if_neg (fun h => h h1)]
    have hle : tL len z ≤ len := by unfold tL; rw [if_pos h1]; omega
    replace T2 := T2 h1
    go_upto_region 3 with fail
    refine wp_region_list ?_
    refine pureL (.int .i64 (tE len z)) rfl (fun _ => by kernel_rfl) ?_
    simp only [aP, lI, l0, lS]
    refine pureL (.bool false) rfl (fun w => neqI .i64 _ _ _ _ _ _ rfl rfl rfl false (by simp [h1]) w) ?_
    simp only [aP, lI, l0, lS]
    show Exit.then _ _ _ _ _
    obtain ⟨nn, hnn⟩ := Int.eq_ofNat_of_zero_le hN0
    have hyr : yR len z = fun j => tR z (nn + j) := by unfold yR; rw [hnn, Int.toNat_natCast]
    have hxl : xE len z most = 0 → xL len z most = nn ∧ yL len z most = tL len z - nn := fun h => by
      unfold xL yL
      rw [if_pos h, if_pos h, hnn, Int.toNat_natCast]
      exact ⟨rfl, rfl⟩
    rw [hnn] at hxe ⊢
    clear hnn hN0
    generalize tL len z = tl at *
    by_cases h2 : most < (nn : Int)
    · have hX : xE len z most = 2 := by rw [hxe, if_pos h2]
      clear hxl hxe hyr
      have hL : xL len z most = 0 := by unfold xL; rw [if_neg (by rw [hX]; decide)]
      have hY : yL len z most = 0 := by unfold yL; rw [if_neg (by rw [hX]; decide)]
      have hA := show Hid _ from (And.intro hL (And.intro hY hX))
      clear hL hY hX
      go_upto_region 5 with fail
      refine wp_region_list ?_
      refine pureL (.int .i64 (nn : Int)) rfl (fun _ => by kernel_rfl) ?_
      simp only [aP, lI, l0, lS]
      refine pureL (.int .i64 most) rfl (fun _ => by kernel_rfl) ?_
      simp only [aP, lI, l0, lS]
      refine pureL (.bool true) rfl (fun w => gtrI .i64 _ _ _ _ _ _ rfl rfl rfl true (decide_eq_true (by omega)) w) ?_
      simp only [aP, lI, l0, lS]
      show Exit.then _ _ _ _ _
      go_wp2
      refine bodyPost_ret (results_tmp3 Try.results55 _ _ _) rfl ?_
      exact ⟨⟨.slice none 0 0, .slice none 0 0, by rw [hA.out.2.2]; rfl, by rw [hA.out.1, hA.out.2.1]; exact ⟨World.ownsRow_nil _ _ _ 1, World.ownsRow_nil _ _ _ 1⟩⟩, hB⟩
    · go_upto_region 5 with fail
      refine wp_region_list ?_
      refine pureL (.int .i64 (nn : Int)) rfl (fun _ => by kernel_rfl) ?_
      simp only [aP, lI, l0, lS]
      refine pureL (.int .i64 most) rfl (fun _ => by kernel_rfl) ?_
      simp only [aP, lI, l0, lS]
      refine pureL (.bool false) rfl (fun w => gtrI .i64 _ _ _ _ _ _ rfl rfl rfl false (decide_eq_false (by omega)) w) ?_
      simp only [aP, lI, l0, lS]
      show Exit.then _ _ _ _ _
      go_upto_region 7 with fail
      refine wp_region_list ?_
      refine pureL (.func (.func 60) #[] #[.pointer (some ⟨B, 0, none⟩)]) rfl (fun _ => by kernel_rfl) ?_
      simp only [aP, lI, l0, lS]
      refine pureL (.int .i64 (nn : Int)) rfl (fun _ => by kernel_rfl) ?_
      simp only [aP, lI, l0, lS]
      refine callL rfl (fun _ => by kernel_rfl) (next_any w B tl (tR z) nn _ T2) ?_
      intro e w3 h
      clear T2
      rcases h with ⟨h3, rfl, T⟩ | ⟨h3, dp, dc, rfl, hdc, hdn, hds, T⟩
      · have hX : xE len z most = 3 := by rw [hxe, if_neg h2, if_pos (by omega)]
        clear hxl hxe hyr
        have hL : xL len z most = 0 := by unfold xL; rw [if_neg (by rw [hX]; decide)]
        have hY : yL len z most = 0 := by unfold yL; rw [if_neg (by rw [hX]; decide)]
        have hA := show Hid _ from (And.intro hL (And.intro hY hX))
        clear hL hY hX
        replace hB := T.below
        refine ⟨_, rfl, ?_⟩
        simp only [aP, lI, l0, lS]
        refine pureL (.tuple #[(.slice none 0 0), .bool false]) rfl (fun _ => by kernel_rfl) ?_
        simp only [aP, lI, l0, lS]
        refine pureL (.slice none 0 0) rfl (fun _ => by kernel_rfl) ?_
        simp only [aP, lI, l0, lS]
        refine pureL (.bool false) rfl (fun _ => by kernel_rfl) ?_
        simp only [aP, lI, l0, lS]
        refine pureL (.slice none 0 0) rfl (fun _ => by kernel_rfl) ?_
        simp only [aP, lI, l0, lS]
        refine pureL (.bool false) rfl (fun _ => by kernel_rfl) ?_
        simp only [aP, lI, l0, lS]
        show Exit.then _ _ _ _ _
        go_upto_region 8 with fail
        refine wp_region_list ?_
        refine pureL (.bool false) rfl (fun _ => by kernel_rfl) ?_
        simp only [aP, lI, l0, lS]
        refine pureL (.bool true) rfl (fun _ => by kernel_rfl) ?_
        simp only [aP, lI, l0, lS]
        show Exit.then _ _ _ _ _
        go_wp2
        refine bodyPost_ret (results_tmp3 Try.results55 _ _ _) rfl ?_
        exact ⟨⟨.slice none 0 0, .slice none 0 0, by rw [hA.out.2.2]; rfl, by rw [hA.out.1, hA.out.2.1]; exact ⟨World.ownsRow_nil _ _ _ 1, World.ownsRow_nil _ _ _ 1⟩⟩, hB⟩
      · have hX : xE len z most = 0 := by rw [hxe, if_neg h2, if_neg (by omega)]
        have hA := show Hid _ from (And.intro (hxl hX).1 (And.intro (hxl hX).2 (And.intro hX hyr)))
        clear hxl hxe hX hyr
        refine ⟨_, rfl, ?_⟩
        simp only [aP, lI, l0, lS]
        refine pureL (.tuple #[(.slice dp nn dc), .bool true]) rfl (fun _ => by kernel_rfl) ?_
        simp only [aP, lI, l0, lS]
        refine pureL (.slice dp nn dc) rfl (fun _ => by kernel_rfl) ?_
        simp only [aP, lI, l0, lS]
        refine pureL (.bool true) rfl (fun _ => by kernel_rfl) ?_
        simp only [aP, lI, l0, lS]
        refine pureL (.slice dp nn dc) rfl (fun _ => by kernel_rfl) ?_
        simp only [aP, lI, l0, lS]
        refine pureL (.bool true) rfl (fun _ => by kernel_rfl) ?_
        simp only [aP, lI, l0, lS]
        show Exit.then _ _ _ _ _
        go_upto_region 8 with fail
        refine wp_region_list ?_
        refine pureL (.bool true) rfl (fun _ => by kernel_rfl) ?_
        simp only [aP, lI, l0, lS]
        refine pureL (.bool false) rfl (fun _ => by kernel_rfl) ?_
        simp only [aP, lI, l0, lS]
        show Exit.then _ _ _ _ _
        go_upto_region 10 with fail
        refine wp_region_list ?_
        refine pureL (.slice dp nn dc) rfl (fun _ => by kernel_rfl) ?_
        simp only [aP, lI, l0, lS]
        refine callL rfl (fun _ => by kernel_rfl) (clone_any dp nn dc (by omega) hdc hdn (tR z) _ (hds.below T.below (Nat.le_refl _))) ?_
        rintro e w4 ⟨u, rfl, hP, l⟩
        obtain ⟨tp, tc, rfl, _, _⟩ := hP.bytes
        replace hP := hP.lower T.below.size
        replace T := T.call l
        replace hB := T.below
        refine ⟨_, rfl, ?_⟩
        simp only [aP, lI, l0, lS]
        refine pureL (.func (.func 61) #[] #[.pointer (some ⟨B, 0, none⟩)]) rfl (fun _ => by kernel_rfl) ?_
        simp only [aP, lI, l0, lS]
        refine callL rfl (fun _ => by kernel_rfl) (left_any w B _ (by omega) _ _ T) ?_
        rintro e w5 ⟨v, rfl, hO, l⟩
        obtain ⟨rp, rc, rfl, _, _⟩ := hO.bytes
        replace hO := hO.lower hB.size
        replace hB := hB.trans (l.mono hB.size)
        replace hP := hP.below l
        refine ⟨_, rfl, ?_⟩
        simp only [aP, lI, l0, lS]
        refine pureL (.slice tp nn tc) rfl (fun _ => by kernel_rfl) ?_
        simp only [aP, lI, l0, lS]
        refine pureL (.slice rp (tl - nn) rc) rfl (fun _ => by kernel_rfl) ?_
        simp only [aP, lI, l0, lS]
        refine pureL (.int .i64 0) rfl (fun _ => by kernel_rfl) ?_
        simp only [aP, lI, l0, lS]
        clear T l
        show Exit.then _ _ _ _ _
        go_wp2
        refine bodyPost_ret (results_tmp3 Try.results55 _ _ _) rfl ?_
        exact ⟨⟨_, _, by rw [hA.out.2.2.1]; rfl, by rw [hA.out.1, hA.out.2.1, hA.out.2.2.2]; exact ⟨hP, hO⟩⟩, hB⟩
  · have hX : xE len z most = tE len z := by unfold xE; rw [if_pos h1]
    clear T2
    have hL : xL len z most = 0 := by unfold xL; rw [if_neg (by rw [hX]; exact h1)]
    have hY : yL len z most = 0 := by unfold yL; rw [if_neg (by rw [hX]; exact h1)]
    have hA := show Hid _ from (And.intro hL (And.intro hY hX))
    clear hL hY hX
    go_upto_region 3 with fail
    refine wp_region_list ?_
    refine pureL (.int .i64 (tE len z)) rfl (fun _ => by kernel_rfl) ?_
    simp only [aP, lI, l0, lS]
    refine pureL (.bool true) rfl (fun w => neqI .i64 _ _ _ _ _ _ rfl rfl rfl true (by simp [h1]) w) ?_
    simp only [aP, lI, l0, lS]
    show Exit.then _ _ _ _ _
    go_wp2
    refine bodyPost_ret (results_tmp3 Try.results55 _ _ _) rfl ?_
    exact ⟨⟨.slice none 0 0, .slice none 0 0, by rw [hA.out.2.2]; rfl, by rw [hA.out.1, hA.out.2.1]; exact ⟨World.ownsRow_nil _ _ _ 1, World.ownsRow_nil _ _ _ 1⟩⟩, hB⟩
end Go.Proofs.Yteaamgjlkohfcaa

namespace Go.Proofs.Yteaamgjlkohfcaa
open Go.RowKit

/-- What a number taken leaves: the error, the number, the rest. -/
def lE (b : List Int) : Int := tE b.length (bl b)
def lN (b : List Int) : Int := tN b.length (bl b)
def lR (b : List Int) : List Int := if lE b = 0 then b.drop (tK (bl b 0)) else []
theorem nm_ok {b : List Int} (h : lE b = 0) : nm b = .ok (lN b, lR b) := by unfold nm lR; rw [h]; unfold lE at h; rw [h]; rfl
theorem nm_err {b : List Int} (h : lE b ≠ 0) : nm b = .error (lE b) := by unfold nm; unfold lE at h ⊢; rw [if_neg h]
theorem lR_len (b : List Int) : (lR b).length = tL b.length (bl b) := by
  unfold lR tL
  by_cases h : lE b = 0
  · rw [if_pos h, if_pos (show tE b.length (bl b) = 0 from h), List.length_drop]
  · rw [if_neg h, if_neg (show ¬ tE b.length (bl b) = 0 from h)]
    rfl
theorem lR_bl (b : List Int) (j : Nat) (hj : j < tL b.length (bl b)) : tR (bl b) j = bl (lR b) j := by
  have h : lE b = 0 := by
    by_cases h : lE b = 0
    · exact h
    · unfold tL at hj; rw [if_neg (show ¬ tE b.length (bl b) = 0 from h)] at hj; omega
  unfold lR
  rw [if_pos h, bl_drop]
  rfl
theorem lR_le (b : List Int) : (lR b).length ≤ b.length := by rw [lR_len]; unfold tL; split <;> omega
theorem lR_byts {b : List Int} (h : Byts b) : Byts (lR b) := by
  unfold lR
  split
  · exact h.drop _
  · intro x hx; cases hx
theorem lN_pos {b : List Int} (hb : Byts b) (h : lE b = 0) : 0 ≤ lN b ∧ lN b < 4611686018427387904 := by
  have := nm_back hb (nm_ok h)
  exact ⟨this.1, this.2.1⟩
theorem fp_err {k : Int} {b : List Int} (hk : ¬ (k = 3 ∨ k = 4)) (h : lE b ≠ 0) : fp k b = .error (lE b) := by unfold fp; rw [if_neg hk, nm_err h]
theorem fp_plain {k : Int} {b : List Int} (hk : ¬ (k = 3 ∨ k = 4)) (h1 : ¬ k = 1) (h2 : ¬ (k = 2 ∨ k = 7)) (h : lE b = 0) : fp k b = .ok (⟨k, lN b, 0, [], [], z8⟩, lR b) := by unfold fp; rw [if_neg hk, nm_ok h]; simp only; rw [if_neg h1, if_neg h2]
theorem fp_data {b : List Int} (h : lE b = 0) : fp 1 b = match tx (lR b) with
    | .error e => .error e
    | .ok (t, r) => .ok (⟨1, lN b, 0, [], t, z8⟩, r) := by unfold fp; rw [if_neg (by decide), nm_ok h]; rfl
theorem fp_lim {k : Int} {b : List Int} (hk : ¬ (k = 3 ∨ k = 4)) (h1 : ¬ k = 1) (h2 : k = 2 ∨ k = 7) (h : lE b = 0) (h' : lE (lR b) ≠ 0) : fp k b = .error (lE (lR b)) := by unfold fp; rw [if_neg hk, nm_ok h]; simp only; rw [if_neg h1, if_pos h2, nm_err h']
theorem rd_gap {n : Nat} {last : Int} {b : List Int} (h : lE b ≠ 0) : rd (n + 1) last b = .error (lE b) := by unfold rd; rw [nm_err h]
theorem rd_len {n : Nat} {last : Int} {b : List Int} (h : lE b = 0) (h' : lE (lR b) ≠ 0) : rd (n + 1) last b = .error (lE (lR b)) := by unfold rd; rw [nm_ok h]; simp only; rw [nm_err h']
theorem rd_far {n : Nat} {last : Int} {b : List Int} (h : lE b = 0) (h' : lE (lR b) = 0) (hf : MX - last < lN b ∨ MX - last - lN b < lN (lR b)) : rd (n + 1) last b = .error 100 := by unfold rd; rw [nm_ok h]; simp only; rw [nm_ok h']; simp only; rw [if_pos hf]
def rcons (p : Int × Int) : Except Int (List (Int × Int) × List Int) → Except Int (List (Int × Int) × List Int)
  | .error e => .error e
  | .ok (q, r) => .ok (p :: q, r)
theorem rd_one {n : Nat} {last : Int} {b : List Int} (h : lE b = 0) (h' : lE (lR b) = 0) (hf : ¬ (MX - last < lN b ∨ MX - last - lN b < lN (lR b))) : rd (n + 1) last b = rcons (last + lN b, last + lN b + lN (lR b)) (rd n (last + lN b + lN (lR b)) (lR (lR b))) := by
  show (match nm b with | .error e => _ | .ok (g, b1) => _) = _
  rw [nm_ok h]; simp only; rw [nm_ok h']; simp only; rw [if_neg hf]; rcases rd n (last + lN b + lN (lR b)) (lR (lR b)) with e | ⟨rs, r⟩ <;> rfl
end Go.Proofs.Yteaamgjlkohfcaa

namespace Go.Proofs.Yteaamgjlkohfcaa
open Go.RowKit

/-- A frame whose bytes and ranges lie in none of the blocks X. -/
structure FA (X : List Nat) (w : World) (f : Frm) (rp : Option Addr) (rc : Nat) (bp : Option Addr) (bc : Nat) : Prop where
  fv : FV w f rp rc bp bc
  roff : ∀ ad, rp = some ad → 0 < f.rg.length → ad.block ∉ X
  boff : ∀ ad, bp = some ad → 0 < f.byt.length → ad.block ∉ X
theorem FA.off {X : List Nat} {w w' : World} {f : Frm} {rp bp : Option Addr} {rc bc : Nat} (h : FA X w f rp rc bp bc) (o : Off X w w') : FA X w' f rp rc bp bc :=
  ⟨{ h.fv with
      rg := fun j hj => by
        obtain ⟨ad, rfl, h1, h2⟩ := h.fv.rg j hj
        have hX := h.roff ad rfl (by omega)
        exact ⟨ad, rfl, o.cell h1 (by rw [add_block]; exact hX), o.cell h2 (by rw [add_block, add_block]; exact hX)⟩
      src := (SrcA.off ⟨h.fv.src, h.boff⟩ o).1 }, h.roff, h.boff⟩
theorem FA.more {X : List Nat} {w : World} {f : Frm} {rp bp : Option Addr} {rc bc : Nat} (h : FA X w f rp rc bp bc) (b : Nat) (hb : w.heap.size ≤ b) : FA (b :: X) w f rp rc bp bc :=
  ⟨h.fv, fun ad e hn hm => by
    subst e
    obtain ⟨ad', e', hc, _⟩ := h.fv.rg 0 hn
    injection e' with e'
    subst e'
    have := World.block_lt_of_cell? w _ hc
    rw [add_block] at this
    rcases List.mem_cons.1 hm with h' | hm
    · omega
    · exact h.roff ad rfl hn hm, (SrcA.more ⟨h.fv.src, h.boff⟩ b hb).2⟩
theorem FA.less {X Y : List Nat} {w : World} {f : Frm} {rp bp : Option Addr} {rc bc : Nat} (h : FA X w f rp rc bp bc) (hY : ∀ b ∈ Y, b ∈ X) : FA Y w f rp rc bp bc := ⟨h.fv, fun ad e hn hm => h.roff ad e hn (hY _ hm), fun ad e hn hm => h.boff ad e hn (hY _ hm)⟩
theorem z8_w : Byts z8 := by intro x hx; simp [z8] at hx; omega
theorem i64_lN {b : List Int} (hb : Byts b) (h : lE b = 0) : i64 (lN b) := by have := lN_pos hb h; unfold i64; omega
/-- A text, as TakeBytes takes it. -/
def qE (b : List Int) : Int := xE b.length (bl b) 128
def qT (b : List Int) : List Int := if qE b = 0 then (lR b).take (lN b).toNat else []
def qR (b : List Int) : List Int := if qE b = 0 then (lR b).drop (lN b).toNat else []
theorem qE_cases (b : List Int) : (lE b ≠ 0 ∧ qE b = lE b ∧ tx b = .error (lE b)) ∨ (lE b = 0 ∧ 128 < lN b ∧ qE b = 2 ∧ tx b = .error 2) ∨ (lE b = 0 ∧ ¬ 128 < lN b ∧ ((lR b).length : Int) < lN b ∧ qE b = 3 ∧ tx b = .error 3) ∨ (lE b = 0 ∧ ¬ 128 < lN b ∧ ¬ ((lR b).length : Int) < lN b ∧ qE b = 0 ∧ tx b = .ok ((lR b).take (lN b).toNat, (lR b).drop (lN b).toNat)) := by
  by_cases h : lE b = 0
  · have hq : qE b = if 128 < lN b then 2 else if ((tL b.length (bl b) : Nat) : Int) < lN b then 3 else 0 := by
      unfold qE xE
      rw [if_neg (fun h' => h' h)]
      rfl
    rw [← lR_len] at hq
    have ht : tx b = if 128 < lN b then .error 2 else if ((lR b).length : Int) < lN b then .error 3 else .ok ((lR b).take (lN b).toNat, (lR b).drop (lN b).toNat) := by unfold tx; rw [nm_ok h]
    by_cases c1 : 128 < lN b
    · rw [if_pos c1] at hq ht
      exact .inr (.inl ⟨h, c1, hq, ht⟩)
    · rw [if_neg c1] at hq ht
      by_cases c2 : ((lR b).length : Int) < lN b
      · rw [if_pos c2] at hq ht
        exact .inr (.inr (.inl ⟨h, c1, c2, hq, ht⟩))
      · rw [if_neg c2] at hq ht
        exact .inr (.inr (.inr ⟨h, c1, c2, hq, ht⟩))
  · refine .inl ⟨h, ?_, by unfold tx; rw [nm_err h]⟩
    unfold qE xE
    rw [if_pos (show tE b.length (bl b) ≠ 0 from h)]
    rfl
theorem tx_ok {b : List Int} (h : qE b = 0) : tx b = .ok (qT b, qR b) := by
  rcases qE_cases b with ⟨h1, h2, _⟩ | ⟨_, _, h2, _⟩ | ⟨_, _, _, h2, _⟩ | ⟨_, _, _, h2, h3⟩
  · omega
  · omega
  · omega
  · rw [h3]; unfold qT qR; rw [if_pos h, if_pos h]
theorem tx_err {b : List Int} (h : qE b ≠ 0) : tx b = .error (qE b) := by
  rcases qE_cases b with ⟨h1, h2, h3⟩ | ⟨_, _, h2, h3⟩ | ⟨_, _, _, h2, h3⟩ | ⟨_, _, _, h2, h3⟩
  · rw [h2, h3]
  · rw [h2, h3]
  · rw [h2, h3]
  · omega
theorem q_len (b : List Int) (hb : Byts b) : (qT b).length = xL b.length (bl b) 128 ∧ (qR b).length = yL b.length (bl b) 128 ∧ (∀ j, j < xL b.length (bl b) 128 → tR (bl b) j = bl (qT b) j) ∧ ∀ j, j < yL b.length (bl b) 128 → yR b.length (bl b) j = bl (qR b) j := by
  by_cases h : qE b = 0
  · have hx : xL b.length (bl b) 128 = (lN b).toNat := by unfold xL; rw [if_pos (show xE b.length (bl b) 128 = 0 from h)]; rfl
    have hy : yL b.length (bl b) 128 = (lR b).length - (lN b).toNat := by unfold yL; rw [if_pos (show xE b.length (bl b) 128 = 0 from h), lR_len]; rfl
    rcases qE_cases b with ⟨h1, h2, _⟩ | ⟨_, _, h2, _⟩ | ⟨_, _, _, h2, _⟩ | ⟨h0, _, h4, _, _⟩
    · omega
    · omega
    · omega
    · have hp := lN_pos hb h0
      have hln : (lN b).toNat ≤ (lR b).length := by omega
      have hl : ∀ j, j < (lR b).length → tR (bl b) j = bl (lR b) j := fun j hj => lR_bl b j (by rw [← lR_len]; exact hj)
      rw [hx, hy]
      unfold qT qR
      rw [if_pos h, if_pos h]
      refine ⟨by rw [List.length_take]; omega, by rw [List.length_drop], fun j hj => ?_, fun j hj => ?_⟩
      · rw [bl_take _ _ _ hj]; exact hl j (by omega)
      · rw [bl_drop]; exact hl ((lN b).toNat + j) (by omega)
  · have hx : xL b.length (bl b) 128 = 0 := by unfold xL; rw [if_neg (show ¬ xE b.length (bl b) 128 = 0 from h)]
    have hy : yL b.length (bl b) 128 = 0 := by unfold yL; rw [if_neg (show ¬ xE b.length (bl b) 128 = 0 from h)]
    rw [hx, hy]
    unfold qT qR
    rw [if_neg h, if_neg h]
    exact ⟨rfl, rfl, fun j hj => by omega, fun j hj => by omega⟩
theorem qT_le (b : List Int) : (qT b).length ≤ 128 := by
  unfold qT
  split
  · rename_i h
    rcases qE_cases b with ⟨h1, h2, _⟩ | ⟨_, _, h2, _⟩ | ⟨_, _, _, h2, _⟩ | ⟨_, h3, _, _, _⟩
    · omega
    · omega
    · omega
    · rw [List.length_take]; omega
  · exact Nat.zero_le _
theorem qR_le (b : List Int) : (qR b).length ≤ b.length := by
  have := lR_le b
  unfold qR
  split
  · rw [List.length_drop]; omega
  · exact Nat.zero_le _
theorem qT_byts {b : List Int} (h : Byts b) : Byts (qT b) := by
  unfold qT
  split
  · exact (lR_byts h).take _
  · intro x hx; cases hx
theorem qR_byts {b : List Int} (h : Byts b) : Byts (qR b) := by
  unfold qR
  split
  · exact (lR_byts h).drop _
  · intro x hx; cases hx
theorem fv_nil (w : World) (k a : Int) (tk : List Int) (hk : i64 k) (ha : i64 a) (ht : Byts tk) (h8 : tk.length = 8) : FV w ⟨k, a, 0, [], [], tk⟩ none 0 none 0 :=
  ⟨fun j hj => absurd hj (Nat.not_lt_zero j), Nat.le_refl _, fun _ => rfl, Nat.zero_le _, fun j hj => absurd hj (Nat.not_lt_zero j), Nat.le_refl _, fun _ => rfl, Nat.zero_le _, ⟨fun x hx => (by cases hx), ht, h8⟩, hk, ha, show i64 0 by unfold i64; decide⟩
theorem fa_nil (X : List Nat) (w : World) (k a : Int) (tk : List Int) (hk : i64 k) (ha : i64 a) (ht : Byts tk) (h8 : tk.length = 8) : FA X w ⟨k, a, 0, [], [], tk⟩ none 0 none 0 :=
  ⟨fv_nil w k a tk hk ha ht h8, fun _ e => (by cases e), fun _ e => (by cases e)⟩

end Go.Proofs.Yteaamgjlkohfcaa

namespace Go.Proofs.Yteaamgjlkohfcaa
open Go.RowKit

theorem Mm.there {w0 w : World} {l : List (Nat × List Value)} (h : Mm w0 l w) {b : Nat} {cs : List Value} (hp : (b, cs) ∈ l) (n : Nat) (hn : n = cs.length) : w.there b 0 n := fun j hj => by
  rw [Nat.zero_add]
  exact ⟨h.isSome hp j (by omega), h.free hp j (by omega)⟩
theorem Mm.setAll {w0 w : World} {l : List (Nat × List Value)} {b : Nat} {cs : List Value} (h : Mm w0 ((b, cs) :: l) w) (ds : List Value) (hd : ds.length = cs.length) : Mm w0 ((b, ds) :: l) (w.setCells b 0 ds) := by
  have hb := h.rows _ List.mem_cons_self
  have hne := (List.pairwise_cons.1 h.apart).1
  have hall : ∀ j, j < ds.length → (w.cell? ⟨b, 0 + j, none⟩).isSome = true := fun j hj => by rw [Nat.zero_add]; exact h.isSome List.mem_cons_self j (by omega)
  refine ⟨fun p hp => ?_, List.pairwise_cons.2 ⟨hne, (List.pairwise_cons.1 h.apart).2⟩, below_setAll h.below b hb.2.1 0 ds⟩
  rcases List.mem_cons.1 hp with rfl | hp
  · refine ⟨fun j hj => ⟨?_, by rw [World.frozen?_setCells]; exact (hb.1 j (by have hj' : j < ds.length := hj; show j < cs.length; omega)).2⟩, hb.2.1, by rw [size_setAll]; exact hb.2.2⟩
    simp only at hj ⊢
    have e := World.cell?_setCells_in b ds 0 w hall j hj
    rw [Nat.zero_add] at e
    rw [e, List.getElem?_eq_getElem hj]
  · have h2 := h.rows p (List.mem_cons_of_mem _ hp)
    refine ⟨fun j hj => ⟨?_, by rw [World.frozen?_setCells]; exact (h2.1 j hj).2⟩, h2.2.1, by rw [size_setAll]; exact h2.2.2⟩
    rw [World.cell?_setCells_out b ds 0 w ⟨p.1, j, none⟩ (fun e _ => absurd e.symm (hne p hp))]
    exact (h2.1 j hj).1
theorem Off.setAll {X : List Nat} {w w1 : World} (h : Off X w w1) {b : Nat} (hb : b ∈ X) : ∀ (o : Nat) (vs : List Value), Off X w (w1.setCells b o vs)
  | _, [] => h
  | o, v :: vs => (h.set hb o v).setAll hb (o + 1) vs
theorem Src.at {w : World} {ad : Addr} {n : Nat} {z : Nat → Int} (h : Src w (some ad) n z) (j : Nat) (hj : j < n) : w.cell? (ad.add j) = some (.int .u8 (z j)) := by
  obtain ⟨ad', e, hc⟩ := h j hj
  injection e with e
  subst e
  exact hc
theorem cut_loA {P : Program} {t : TypeId} (ht : P.underlying t = some (.slice (P.elem t))) (hsz : ∀ w, (sizeOf (P.elem t)).run P w = .ok 1 w) (sp : Option Addr) (len cap m : Nat) (hm : m ≤ len) (hc : len ≤ cap) (hn : sp = none → cap = 0) :
    ∃ sp', (∀ w, (Instr.sliceAt t (.slice sp len cap) (some (.int .i64 (m : Int))) none none).run P w = .ok (.slice sp' (len - m) (cap - m)) w) ∧ (∀ X w z, SrcA X w sp len z → SrcA X w sp' (len - m) (fun j => z (m + j))) ∧ (sp' = none → cap - m = 0) := by
  refine ⟨if cap = m then sp else sp.map (·.add (m * 1)), fun w => ?_, fun X w z h => ⟨fun j hj => ?_, fun ad e hp => ?_⟩, fun e => ?_⟩
  · rw [run_sliceAt_slice w t _ _ _ _ ht, run_slice_l w t sp len cap ht .i64 (m : Int) (by omega) (by omega), hsz]
    simp only [Result.andThen, sliced, Int.toNat_natCast]
  · obtain ⟨ad, rfl, hc'⟩ := h.1 (m + j) (by omega)
    rw [if_neg (by omega)]
    exact ⟨ad.add (m * 1), rfl, by rw [Nat.mul_one, Addr.add_add]; exact hc'⟩
  · rw [if_neg (by omega)] at e
    cases sp with
    | none => cases e
    | some a =>
      injection e with e
      subst e
      rw [add_block]
      exact h.2 a rfl (by omega)
  · by_cases hm : cap = m
    · omega
    · rw [if_neg hm] at e
      cases sp with
      | none => have := hn rfl; omega
      | some ad => cases e
end Go.Proofs.Yteaamgjlkohfcaa

namespace Go.Proofs.Yteaamgjlkohfcaa
open Go.RowKit

/-- Ranges as cells. -/
def rcl : List (Int × Int) → List Value
  | [] => []
  | p :: l => .int .i64 p.1 :: .int .i64 p.2 :: rcl l
theorem rcl_app (a b : List (Int × Int)) : rcl (a ++ b) = rcl a ++ rcl b := by
  induction a with
  | nil => rfl
  | cons p a ih => show _ :: _ :: rcl (a ++ b) = _ :: _ :: (rcl a ++ rcl b); rw [ih]
theorem rcl_at : ∀ (l : List (Int × Int)) (j : Nat), j < l.length → (rcl l)[j * 2]? = some (.int .i64 (rgz l j).1) ∧ (rcl l)[j * 2 + 1]? = some (.int .i64 (rgz l j).2)
  | [], j, h => absurd h (Nat.not_lt_zero j)
  | p :: l, 0, _ => ⟨rfl, rfl⟩
  | p :: l, j + 1, h => by
    have ih := rcl_at l j (by simpa using h)
    have e1 : (j + 1) * 2 = j * 2 + 1 + 1 := by omega
    rw [e1]
    show (rcl l)[j * 2]? = some (.int .i64 (rgz l j).1) ∧ (rcl l)[j * 2 + 1]? = some (.int .i64 (rgz l j).2)
    exact ih
theorem Rg.of_own {w : World} {base : Nat} {e : TypeId} {rs : List (Int × Int)} {sp : Option Addr} {n c : Nat} (h : w.ownsRow base e 2 (.slice sp n c) n (rcl rs)) : Rg w sp rs := fun j hj => by
  have h1 := rcl_at rs j hj
  rcases h.2 with ⟨hv, h0⟩ | ⟨g, cap, cur, hv, _⟩
  · have hl := h.1
    rw [h0] at hl
    have : rcl rs = [] := List.eq_nil_of_length_eq_zero (by omega)
    rw [this] at h1
    cases h1.1
  · injection hv with e1 e2 e3
    subst e1
    refine ⟨_, rfl, World.ownsRow.cells h (g := g) rfl _ _ h1.1, ?_⟩
    rw [Addr.add_add]
    exact World.ownsRow.cells h (g := g) rfl _ _ h1.2
theorem ranges_many : Many Try.prog 43 (.agg #[.int .i64 0, .int .i64 0]) 16 2 := ⟨by kernel_rfl⟩
theorem own_nil_le {w : World} {base size n : Nat} {e : TypeId} {sp : Option Addr} {c : Nat} {xs : List Value} (h : w.ownsRow base e size (.slice sp n c) n xs) : n ≤ c ∧ (sp = none → c = 0) ∧ ∀ ad, sp = some ad → base ≤ ad.block := by
  rcases h.2 with ⟨hv, h0⟩ | ⟨g, cap, cur, hv, hb, _, h5, _⟩
  · injection hv with e1 e2 e3
    subst e1 e3
    exact ⟨by omega, fun _ => rfl, fun _ e => by cases e⟩
  · injection hv with e1 e2 e3
    subst e1 e3
    exact ⟨h5, fun e => (by cases e), fun ad e => by injection e with e; subst e; exact hb⟩
theorem own_slice {w : World} {base size n : Nat} {e : TypeId} {v : Value} {xs : List Value} (h : w.ownsRow base e size v n xs) : ∃ sp c, v = .slice sp n c := by
  rcases h.2 with ⟨hv, h0⟩ | ⟨g, cap, cur, hv, _⟩
  · subst h0; exact ⟨_, _, hv⟩
  · exact ⟨_, _, hv⟩
def rdk (rs : List (Int × Int)) : Except Int (List (Int × Int) × List Int) → Except Int (List (Int × Int) × List Int)
  | .error e => .error e
  | .ok (q, r) => .ok (rs ++ q, r)
theorem rdk_nil (x : Except Int (List (Int × Int) × List Int)) : rdk [] x = x := by
  rcases x with e | ⟨q, r⟩ <;> rfl
theorem rdk_one (rs : List (Int × Int)) (p : Int × Int) (x : Except Int (List (Int × Int) × List Int)) : rdk rs (rcons p x) = rdk (rs ++ [p]) x := by
  rcases x with e | ⟨q, r⟩
  · rfl
  · show Except.ok (rs ++ p :: q, r) = Except.ok (rs ++ [p] ++ q, r)
    rw [List.append_assoc]
    rfl
end Go.Proofs.Yteaamgjlkohfcaa

namespace Go.Proofs.Yteaamgjlkohfcaa
open Go.RowKit

/-- A frame with where its ranges and its bytes lie. -/
structure Dt where
  f : Frm
  rp : Option Addr
  rc : Nat
  bp : Option Addr
  bc : Nat
def dcl : List Dt → List Value
  | [] => []
  | d :: l => fcs d.f d.rp d.rc d.bp d.bc ++ dcl l
theorem dcl_app (a b : List Dt) : dcl (a ++ b) = dcl a ++ dcl b := by
  induction a with
  | nil => rfl
  | cons d a ih => show fcs _ _ _ _ _ ++ dcl (a ++ b) = _; rw [ih, ← List.append_assoc]; rfl
theorem dcl_at : ∀ (l : List Dt) (j : Nat) (d : Dt) (k : Nat) (v : Value), l[j]? = some d → (fcs d.f d.rp d.rc d.bp d.bc)[k]? = some v → (dcl l)[j * 13 + k]? = some v
  | [], j, d, k, v, h, _ => by simp at h
  | e :: l, 0, d, k, v, h, hv => by
    injection h with h
    subst h
    have hk : k < 13 := by
      rcases Nat.lt_or_ge k 13 with h' | h'
      · exact h'
      · rw [List.getElem?_eq_none (by exact h')] at hv; cases hv
    rw [Nat.zero_mul, Nat.zero_add]
    show (fcs _ _ _ _ _ ++ dcl l)[k]? = some v
    rw [List.getElem?_append_left (by exact hk)]
    exact hv
  | e :: l, j + 1, d, k, v, h, hv => by
    have ih := dcl_at l j d k v h hv
    show (fcs _ _ _ _ _ ++ dcl l)[(j + 1) * 13 + k]? = some v
    rw [List.getElem?_append_right (by show 13 ≤ _; omega), show (j + 1) * 13 + k - (fcs e.f e.rp e.rc e.bp e.bc).length = j * 13 + k by show (j + 1) * 13 + k - 13 = _; omega]
    exact ih
theorem Frs.of_own {w : World} {base : Nat} {e : TypeId} {ds : List Dt} {sp : Option Addr} {n c : Nat} (h : w.ownsRow base e 13 (.slice sp n c) n (dcl ds)) (hd : ∀ d ∈ ds, FV w d.f d.rp d.rc d.bp d.bc) : Frs w sp (ds.map (·.f)) := fun j f hj => by
  rw [List.getElem?_map] at hj
  obtain ⟨d, hd1, rfl⟩ := Option.map_eq_some_iff.1 hj
  have h0 := dcl_at ds j d 0 _ hd1 rfl
  rcases h.2 with ⟨hv, h0'⟩ | ⟨g, cap, cur, hv, _⟩
  · have hl := h.1
    rw [h0'] at hl
    have : dcl ds = [] := List.eq_nil_of_length_eq_zero (by omega)
    rw [this] at h0
    cases h0
  · injection hv with e1 e2 e3
    subst e1
    refine ⟨_, d.rp, d.rc, d.bp, d.bc, rfl, fun k v hk => ?_, hd d (List.mem_of_getElem? hd1)⟩
    rw [Addr.add_add]
    exact World.ownsRow.cells h (g := g) rfl _ _ (dcl_at ds j d k v hd1 hk)
theorem frames_many : Many Try.prog 26 (.agg #[.int .i64 0, .int .i64 0, .int .i64 0, .slice none 0 0, .slice none 0 0, .int .u8 0, .int .u8 0, .int .u8 0, .int .u8 0, .int .u8 0, .int .u8 0, .int .u8 0, .int .u8 0]) 80 13 := ⟨by kernel_rfl⟩
def ob : Option Addr → List Nat
  | some a => [a.block]
  | none => []
theorem ob_own (sp : Option Addr) (n c : Nat) (b : Nat) : (Value.slice sp n c).ownBlock = some b ↔ b ∈ ob sp := by
  cases sp with
  | none => exact ⟨fun h => (by cases h), fun h => (by cases h)⟩
  | some a =>
    constructor
    · intro h; injection h with h; subst h; exact List.mem_cons_self
    · intro h; obtain rfl := List.mem_singleton.1 h; rfl
def dck (fs : List Frm) : Except Int (List Frm) → Except Int (List Frm)
  | .error e => .error e
  | .ok q => .ok (fs ++ q)
def dcons (f : Frm) : Except Int (List Frm) → Except Int (List Frm)
  | .error e => .error e
  | .ok q => .ok (f :: q)
theorem dck_nil (x : Except Int (List Frm)) : dck [] x = x := by cases x <;> rfl
theorem dck_one (fs : List Frm) (f : Frm) (x : Except Int (List Frm)) : dck fs (dcons f x) = dck (fs ++ [f]) x := by
  cases x with
  | error e => rfl
  | ok q => show Except.ok (fs ++ f :: q) = Except.ok (fs ++ [f] ++ q); rw [List.append_assoc]; rfl
theorem dc_kind {n : Nat} {k : Int} {b : List Int} (h : k < 1 ∨ 7 < k) : dc (n + 1) (k :: b) = .error 100 := by unfold dc; rw [if_pos h]
theorem dc_err {n : Nat} {k : Int} {b : List Int} {e : Int} (h : ¬ (k < 1 ∨ 7 < k)) (h2 : fp k b = .error e) : dc (n + 1) (k :: b) = .error e := by unfold dc; rw [if_neg h, h2]
theorem dc_bad {n : Nat} {k : Int} {b r : List Int} {f : Frm} (h : ¬ (k < 1 ∨ 7 < k)) (h2 : fp k b = .ok (f, r)) (h3 : fok f = false) : dc (n + 1) (k :: b) = .error 100 := by unfold dc; rw [if_neg h, h2]; simp only; rw [if_pos h3]
theorem dc_one {n : Nat} {k : Int} {b r : List Int} {f : Frm} (h : ¬ (k < 1 ∨ 7 < k)) (h2 : fp k b = .ok (f, r)) (h3 : fok f = true) : dc (n + 1) (k :: b) = dcons f (dc n r) := by
  generalize hx : dc n r = x
  unfold dc
  rw [if_neg h, h2]
  simp only
  rw [h3, if_neg (by decide), hx]
  cases x <;> rfl
theorem dc_end (n : Nat) : dc n [] = .ok [] := by cases n <;> rfl
end Go.Proofs.Yteaamgjlkohfcaa

namespace Go.Proofs.Yteaamgjlkohfcaa
open Go.RowKit

theorem bl_tail (x : Int) (t : List Int) (j : Nat) : bl (x :: t) (1 + j) = bl t j := by rw [Nat.add_comm]; rfl
theorem ob_lt {w : World} {base size n : Nat} {e : TypeId} {vp : Option Addr} {vc : Nat} {xs : List Value} (h : w.ownsRow base e size (.slice vp n vc) n xs) : ∀ x ∈ ob vp, base ≤ x ∧ x < w.heap.size := fun x hx => World.ownsRow.lt h x ((ob_own vp n vc x).2 hx)

end Go.Proofs.Yteaamgjlkohfcaa
