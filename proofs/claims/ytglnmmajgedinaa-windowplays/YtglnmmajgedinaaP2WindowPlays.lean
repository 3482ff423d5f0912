/- Texts of Fd Fe, joined. -/
import Derived.Test.YtglnmmajgedinaaP1WindowPlays
set_option maxRecDepth 20000
set_option maxHeartbeats 64000000
namespace Go.Proofs.Ytglnmmajgedinaa
open Go.RowKit
def wcj (L : List Int) (j : Nat) : Nat := ((L.take j).filter (fun x => decide (wtop L - 1024 < x))).length
theorem wcj_in {L : List Int} {j : Nat} (h : j < L.length) (hi : wtop L - 1024 < bl L j) : wcj L (j + 1) = wcj L j + 1 := by
  unfold wcj
  rw [take_bl h, List.filter_append, List.length_append, List.filter_cons_of_pos (by simpa using hi)]
  rfl
theorem wcj_out {L : List Int} {j : Nat} (h : j < L.length) (hi : ¬ wtop L - 1024 < bl L j) : wcj L (j + 1) = wcj L j := by
  unfold wcj
  rw [take_bl h, List.filter_append, List.length_append, List.filter_cons_of_neg (by simpa using hi)]
  rfl
theorem wcj_le (L : List Int) (j : Nat) : wcj L j ≤ L.length := Nat.le_trans (List.length_filter_le _ _) (by rw [List.length_take]; omega)
theorem wcj_all (L : List Int) : wcj L L.length = wcnt L := by unfold wcj wcnt; rw [List.take_length]
theorem rcount_any (w0 w : World) (R : Nat) (l : List (Nat × List Value)) (L : List Int) (sp : Option Addr) (cap : Nat) (hI : WinI w sp L) (M : Mm w0 ((R, [.slice sp L.length cap]) :: l) w) :
    Calls Try.prog 18 #[.pointer (some ⟨R, 0, none⟩)] w fun e w' => e = .returned (.int .i64 ((wcnt L : Nat) : Int)) ∧ Below w.heap.size w w' := by
  have hB := Below.refl w.heap.size w
  have hLn := hI.len
  go_enter Try.func18, Try.ntmps18
  have hT1 := wtop_ge L
  have hT2 := wtop_max hI.win
  have hc := wcj_le L
  go_upto_region 0 with fail
  refine wp_region_list ?_
  refine readL (.int .i64 0) rfl (by kernel_rfl) ?_
  simp only [aP, lI, l0, lS]
  first | show Exit.then _ _ _ _ _ | show Exit.inBlock _ _ _ _ _
  go_upto_region 1 with fail
  refine wp_region_list ?_
  refine readL (.int .i64 0) rfl (by kernel_rfl) ?_
  simp only [aP, lI, l0, lS]
  first | show Exit.then _ _ _ _ _ | show Exit.inBlock _ _ _ _ _
  go_upto_region 2 with fail
  refine wp_region_list ?_
  refine readL (.int .i64 0) rfl (by kernel_rfl) ?_
  simp only [aP, lI, l0, lS]
  first | show Exit.then _ _ _ _ _ | show Exit.inBlock _ _ _ _ _
  have HI := show Hid _ from M
  clear M hB
  go_wp2
  go_loopw [3, 4] (fun k i w' => ∃ j : Nat, j ≤ L.length ∧ k = .int .i64 ((wcj L j : Nat) : Int) ∧ i = .int .i64 (j : Int) ∧ Below w.heap.size w w') (fun _ i _ => L.length - (intOf i).toNat)
  case atStart => exact ⟨0, Nat.zero_le _, rfl, rfl, Below.refl _ _⟩
  case round =>
    obtain ⟨j, hj, rfl, rfl, hB⟩ := hrel
    have M := HI.out.call hB
    clear HI
    by_cases hlt : j < L.length
    · obtain ⟨ad, rfl, _⟩ := hI.src j hlt
      have hcj := hc j
      have hx0 := hI.win.ge _ (bl_mem hlt)
      have hx1 := hI.win.le _ (bl_mem hlt)
      by_cases hin : wtop L - 1024 < bl L j
      · go_upto_region 3 with fail
        refine wp_region_list ?_
        refine readL (.int .i64 (j : Int)) rfl (by kernel_rfl) ?_
        simp only [aP, lI, l0, lS]
        refine readL (.pointer (some ⟨R, 0, none⟩)) rfl (by kernel_rfl) ?_
        simp only [aP, lI, l0, lS]
        refine readL (.pointer (some ⟨R, 0, none⟩)) rfl (by kernel_rfl) ?_
        simp only [aP, lI, l0, lS]
        refine readL (.pointer (some ⟨R, 0, none⟩)) rfl (by kernel_rfl) ?_
        simp only [aP, lI, l0, lS]
        refine readL (.slice (some ad) L.length cap) rfl (load1 22 _ ⟨R, 0, none⟩ _ rfl rfl (fun _ => by kernel_rfl) (M.get mS 0 _ rfl)) ?_
        simp only [aP, lI, l0, lS]
        refine readL (.int .i64 ((L.length : Nat) : Int)) rfl (lenS _ 22 3 (some ad) L.length cap rfl Try.underlying22 rfl _) ?_
        simp only [aP, lI, l0, lS]
        refine readL (.bool true) rfl (lssI .i64 _ _ _ _ _ _ rfl rfl rfl true (decide_eq_true (by omega)) _) ?_
        simp only [aP, lI, l0, lS]
        first | show Exit.then _ _ _ _ _ | show Exit.inBlock _ _ _ _ _
        go_upto_region 5 with fail
        refine wp_region_held_drew (S := fun w' => Mm w0 ((R, [.slice (some ad) L.length cap]) :: l) w' ∧ Below w.heap.size w w') (by kernel_rfl) ⟨M.drew, hB.trans ((Below.refl wr.heap.size wr).drew.mono hB.size)⟩ ?_
        clear M hB
        intro hS_
        obtain ⟨M, hB⟩ := hS_
        generalize wr.drew = w1 at M hB ⊢
        refine readHg (i := 0) (some 14) rfl (.pointer (some ⟨R, 0, none⟩)) rfl rfl (fun _ ⟨M, hB⟩ => (by kernel_rfl)) ⟨M, hB⟩ ?_
        simp only [aP, lI, l0, lS]
        refine readHg (i := 1) (some 15) rfl (.pointer (some ⟨R, 0, none⟩)) rfl rfl (fun _ ⟨M, hB⟩ => (by kernel_rfl)) ⟨M, hB⟩ ?_
        simp only [aP, lI, l0, lS]
        refine readHg (i := 2) (some 16) rfl (.pointer (some ⟨R, 0, none⟩)) rfl rfl (fun _ ⟨M, hB⟩ => (by kernel_rfl)) ⟨M, hB⟩ ?_
        simp only [aP, lI, l0, lS]
        refine readHg (i := 3) (some 17) rfl (.slice (some ad) L.length cap) rfl rfl (fun _ ⟨M, hB⟩ => load1 22 _ ⟨R, 0, none⟩ _ rfl rfl (fun _ => by kernel_rfl) (M.get mS 0 _ rfl)) ⟨M, hB⟩ ?_
        simp only [aP, lI, l0, lS]
        refine readHg (i := 4) (some 18) rfl (.int .i64 (j : Int)) rfl rfl (fun _ ⟨M, hB⟩ => (by kernel_rfl)) ⟨M, hB⟩ ?_
        simp only [aP, lI, l0, lS]
        refine readHg (i := 5) (some 19) rfl (.pointer (some (ad.add j))) rfl rfl (fun _ ⟨M, hB⟩ => idxSl 22 3 L.length cap .i64 ad j _ _ Try.underlying22 (fun _ => by kernel_rfl) hlt rfl rfl rfl _) ⟨M, hB⟩ ?_
        simp only [aP, lI, l0, lS]
        refine readHg (i := 6) (some 20) rfl (.int .i64 (bl L j)) rfl rfl (fun _ ⟨M, hB⟩ => load1 3 _ (ad.add j) _ rfl rfl (fun _ => by kernel_rfl) (((hI.below hB).src.at j hlt))) ⟨M, hB⟩ ?_
        simp only [aP, lI, l0, lS]
        refine readHg (i := 7) (some 21) rfl (.pointer (some ⟨R, 0, none⟩)) rfl rfl (fun _ ⟨M, hB⟩ => (by kernel_rfl)) ⟨M, hB⟩ ?_
        simp only [aP, lI, l0, lS]
        refine callH (i := 8) (some 22) rfl (by kernel_rfl) rfl rfl (fun _ => by kernel_rfl) (rtop_any w0 _ R _ L (some ad) cap (hI.below hB) M) ?_
        rintro e w2 ⟨rfl, l⟩
        replace M := M.call l
        replace hB := hB.trans (l.mono hB.size)
        clear l
        refine ⟨_, rfl, ⟨M, hB⟩, ?_⟩
        simp only [aP, lI, l0, lS]
        refine readHg (i := 9) (some 23) rfl (.int .i64 ((wtop L) - 1024)) rfl rfl (fun _ ⟨M, hB⟩ => subI .i64 _ _ _ _ _ _ _ rfl rfl rfl (by rw [IntKind.wrap_i64]; omega) _) ⟨M, hB⟩ ?_
        simp only [aP, lI, l0, lS]
        refine readHg (i := 10) (some 24) rfl (.bool true) rfl rfl (fun _ ⟨M, hB⟩ => gtrI .i64 _ _ _ _ _ _ rfl rfl rfl true (decide_eq_true (by omega)) _) ⟨M, hB⟩ ?_
        simp only [aP, lI, l0, lS]
        refine wpAnyH_done (by kernel_rfl) ?_ _
        first | show Exit.then _ _ _ _ _ | show Exit.inBlock _ _ _ _ _
        go_upto_region 6 with fail
        refine wp_region_list ?_
        refine readL (.int .i64 ((wcj L j : Nat) : Int)) rfl (by kernel_rfl) ?_
        simp only [aP, lI, l0, lS]
        refine readL (.int .i64 (((wcj L j : Nat) : Int) + 1)) rfl (addI .i64 _ _ _ _ _ _ _ rfl rfl rfl (by rw [IntKind.wrap_i64]; omega) _) ?_
        simp only [aP, lI, l0, lS]
        refine readL (.int .i64 (((wcj L j : Nat) : Int) + 1)) rfl (by kernel_rfl) ?_
        simp only [aP, lI, l0, lS]
        first | show Exit.then _ _ _ _ _ | show Exit.inBlock _ _ _ _ _
        have HS := show Hid _ from hB
        have hk := show Hid _ from wcj_in hlt hin
        clear M hB hI
        go_wp2
        go_roundw
        case rel => exact ⟨j + 1, by omega, by rw [hk.out]; (try push_cast); go_num, by go_num, HS.out⟩
        case measure => simp [intOf]; omega
      · go_upto_region 3 with fail
        refine wp_region_list ?_
        refine readL (.int .i64 (j : Int)) rfl (by kernel_rfl) ?_
        simp only [aP, lI, l0, lS]
        refine readL (.pointer (some ⟨R, 0, none⟩)) rfl (by kernel_rfl) ?_
        simp only [aP, lI, l0, lS]
        refine readL (.pointer (some ⟨R, 0, none⟩)) rfl (by kernel_rfl) ?_
        simp only [aP, lI, l0, lS]
        refine readL (.pointer (some ⟨R, 0, none⟩)) rfl (by kernel_rfl) ?_
        simp only [aP, lI, l0, lS]
        refine readL (.slice (some ad) L.length cap) rfl (load1 22 _ ⟨R, 0, none⟩ _ rfl rfl (fun _ => by kernel_rfl) (M.get mS 0 _ rfl)) ?_
        simp only [aP, lI, l0, lS]
        refine readL (.int .i64 ((L.length : Nat) : Int)) rfl (lenS _ 22 3 (some ad) L.length cap rfl Try.underlying22 rfl _) ?_
        simp only [aP, lI, l0, lS]
        refine readL (.bool true) rfl (lssI .i64 _ _ _ _ _ _ rfl rfl rfl true (decide_eq_true (by omega)) _) ?_
        simp only [aP, lI, l0, lS]
        first | show Exit.then _ _ _ _ _ | show Exit.inBlock _ _ _ _ _
        go_upto_region 5 with fail
        refine wp_region_held_drew (S := fun w' => Mm w0 ((R, [.slice (some ad) L.length cap]) :: l) w' ∧ Below w.heap.size w w') (by kernel_rfl) ⟨M.drew, hB.trans ((Below.refl wr.heap.size wr).drew.mono hB.size)⟩ ?_
        clear M hB
        intro hS_
        obtain ⟨M, hB⟩ := hS_
        generalize wr.drew = w3 at M hB ⊢
        refine readHg (i := 0) (some 14) rfl (.pointer (some ⟨R, 0, none⟩)) rfl rfl (fun _ ⟨M, hB⟩ => (by kernel_rfl)) ⟨M, hB⟩ ?_
        simp only [aP, lI, l0, lS]
        refine readHg (i := 1) (some 15) rfl (.pointer (some ⟨R, 0, none⟩)) rfl rfl (fun _ ⟨M, hB⟩ => (by kernel_rfl)) ⟨M, hB⟩ ?_
        simp only [aP, lI, l0, lS]
        refine readHg (i := 2) (some 16) rfl (.pointer (some ⟨R, 0, none⟩)) rfl rfl (fun _ ⟨M, hB⟩ => (by kernel_rfl)) ⟨M, hB⟩ ?_
        simp only [aP, lI, l0, lS]
        refine readHg (i := 3) (some 17) rfl (.slice (some ad) L.length cap) rfl rfl (fun _ ⟨M, hB⟩ => load1 22 _ ⟨R, 0, none⟩ _ rfl rfl (fun _ => by kernel_rfl) (M.get mS 0 _ rfl)) ⟨M, hB⟩ ?_
        simp only [aP, lI, l0, lS]
        refine readHg (i := 4) (some 18) rfl (.int .i64 (j : Int)) rfl rfl (fun _ ⟨M, hB⟩ => (by kernel_rfl)) ⟨M, hB⟩ ?_
        simp only [aP, lI, l0, lS]
        refine readHg (i := 5) (some 19) rfl (.pointer (some (ad.add j))) rfl rfl (fun _ ⟨M, hB⟩ => idxSl 22 3 L.length cap .i64 ad j _ _ Try.underlying22 (fun _ => by kernel_rfl) hlt rfl rfl rfl _) ⟨M, hB⟩ ?_
        simp only [aP, lI, l0, lS]
        refine readHg (i := 6) (some 20) rfl (.int .i64 (bl L j)) rfl rfl (fun _ ⟨M, hB⟩ => load1 3 _ (ad.add j) _ rfl rfl (fun _ => by kernel_rfl) (((hI.below hB).src.at j hlt))) ⟨M, hB⟩ ?_
        simp only [aP, lI, l0, lS]
        refine readHg (i := 7) (some 21) rfl (.pointer (some ⟨R, 0, none⟩)) rfl rfl (fun _ ⟨M, hB⟩ => (by kernel_rfl)) ⟨M, hB⟩ ?_
        simp only [aP, lI, l0, lS]
        refine callH (i := 8) (some 22) rfl (by kernel_rfl) rfl rfl (fun _ => by kernel_rfl) (rtop_any w0 _ R _ L (some ad) cap (hI.below hB) M) ?_
        rintro e w4 ⟨rfl, l⟩
        replace M := M.call l
        replace hB := hB.trans (l.mono hB.size)
        clear l
        refine ⟨_, rfl, ⟨M, hB⟩, ?_⟩
        simp only [aP, lI, l0, lS]
        refine readHg (i := 9) (some 23) rfl (.int .i64 ((wtop L) - 1024)) rfl rfl (fun _ ⟨M, hB⟩ => subI .i64 _ _ _ _ _ _ _ rfl rfl rfl (by rw [IntKind.wrap_i64]; omega) _) ⟨M, hB⟩ ?_
        simp only [aP, lI, l0, lS]
        refine readHg (i := 10) (some 24) rfl (.bool false) rfl rfl (fun _ ⟨M, hB⟩ => gtrI .i64 _ _ _ _ _ _ rfl rfl rfl false (decide_eq_false (by omega)) _) ⟨M, hB⟩ ?_
        simp only [aP, lI, l0, lS]
        refine wpAnyH_done (by kernel_rfl) ?_ _
        first | show Exit.then _ _ _ _ _ | show Exit.inBlock _ _ _ _ _
        have HS := show Hid _ from hB
        have hk := show Hid _ from wcj_out hlt hin
        clear M hB hI
        go_wp2
        go_roundw
        case rel => exact ⟨j + 1, by omega, by rw [hk.out]; skip, by go_num, HS.out⟩
        case measure => simp [intOf]; omega
    · obtain rfl : j = L.length := by omega
      go_upto_region 3 with fail
      refine wp_region_list ?_
      refine readL (.int .i64 (L.length : Int)) rfl (by kernel_rfl) ?_
      simp only [aP, lI, l0, lS]
      refine readL (.pointer (some ⟨R, 0, none⟩)) rfl (by kernel_rfl) ?_
      simp only [aP, lI, l0, lS]
      refine readL (.pointer (some ⟨R, 0, none⟩)) rfl (by kernel_rfl) ?_
      simp only [aP, lI, l0, lS]
      refine readL (.pointer (some ⟨R, 0, none⟩)) rfl (by kernel_rfl) ?_
      simp only [aP, lI, l0, lS]
      refine readL (.slice sp L.length cap) rfl (load1 22 _ ⟨R, 0, none⟩ _ rfl rfl (fun _ => by kernel_rfl) (M.get mS 0 _ rfl)) ?_
      simp only [aP, lI, l0, lS]
      refine readL (.int .i64 ((L.length : Nat) : Int)) rfl (lenS _ 22 3 sp L.length cap rfl Try.underlying22 rfl _) ?_
      simp only [aP, lI, l0, lS]
      refine readL (.bool false) rfl (lssI .i64 _ _ _ _ _ _ rfl rfl rfl false (decide_eq_false (by omega)) _) ?_
      simp only [aP, lI, l0, lS]
      first | show Exit.then _ _ _ _ _ | show Exit.inBlock _ _ _ _ _
      go_upto_region 7 with fail
      refine wp_region_list ?_
      refine readL (.int .i64 ((wcj L L.length : Nat) : Int)) rfl (by kernel_rfl) ?_
      simp only [aP, lI, l0, lS]
      refine readL (.int .i64 ((wcj L L.length : Nat) : Int)) rfl (by kernel_rfl) ?_
      simp only [aP, lI, l0, lS]
      first | show Exit.then _ _ _ _ _ | show Exit.inBlock _ _ _ _ _
      have HS := show Hid _ from hB
      have hk := show Hid _ from (wcj_all L)
      clear M hB hI
      go_wp2
      go_ret
      exact ⟨by rw [← hk.out]; rfl, HS.out⟩
def obk (v : Value) : List Nat := match v.ownBlock with
  | some g => [g]
  | none => []
theorem obk_mem {v : Value} {g : Nat} (h : v.ownBlock = some g) : g ∈ obk v := by unfold obk; rw [h]; exact mS
theorem Off.grownO {X : List Nat} {w w1 w2 : World} {v : Value} (h : Off X w w1) (g : w1.grownBy w2 v.ownBlock) (hX : ∀ b ∈ obk v, b ∈ X) : Off X w w2 := h.grown g fun b hb => .inl (hX b (obk_mem hb))
theorem Own.bel {w w' : World} {base : Nat} {e : TypeId} {k : IntKind} {n : Nat} {f : Nat → Int} {v : Value} (h : Own w base e k n f v) (l : Below w.heap.size w w') : Own w' base e k n f v := h.below l
def MkP (w0 w : World) (R : Nat) (l : List (Nat × List Value)) (L : List Int) (v : Value) (base : Nat) (n : Int) (e : Ending) (w' : World) : Prop :=
  e = .returned (.int .i64 (wchk L n)) ∧ ∃ sp cap, Mm w0 ((R, [.slice sp (wmk L n).length cap]) :: l) w' ∧ OwnI w' base (wmk L n) (.slice sp (wmk L n).length cap) ∧ (∀ g, (Value.slice sp (wmk L n).length cap).ownBlock = some g → v.ownBlock = some g ∨ w.heap.size ≤ g) ∧ Off (R :: obk v) w w'
theorem rmark14_any (w0 w : World) (R : Nat) (l : List (Nat × List Value)) (L : List Int) (sp : Option Addr) (cap : Nat) (n : Int) (base : Nat) (hbase : base ≤ w.heap.size) (hw0 : w0.heap.size ≤ base) (hlen : L.length < 1099511627776) (hI : WinI w sp L) (O : OwnI w base L (.slice sp L.length cap)) (hsep : ∀ g, (Value.slice sp L.length cap).ownBlock = some g → ∀ p ∈ ((R, [Value.slice sp L.length cap]) :: l), p.1 ≠ g) (M : Mm w0 ((R, [.slice sp L.length cap]) :: l) w) :
    Calls Try.prog 12 #[.pointer (some ⟨R, 0, none⟩), .int .i64 n] w (MkP w0 w R l L (.slice sp L.length cap) base n) := by
  have hB := Below.refl w.heap.size w
  have hLn := hI.len
  go_enter Try.func12, Try.ntmps12
  have hR0 := M.lt mS
  go_upto_region 0 with fail
  refine wp_region_list ?_
  refine readL (.int .i64 0) rfl (by kernel_rfl) ?_
  simp only [aP, lI, l0, lS]
  first | show Exit.then _ _ _ _ _ | show Exit.inBlock _ _ _ _ _
  go_upto_region 1 with fail
  refine wp_region_list ?_
  refine readL (.pointer (some ⟨R, 0, none⟩)) rfl (by kernel_rfl) ?_
  simp only [aP, lI, l0, lS]
  refine readL (.int .i64 n) rfl (by kernel_rfl) ?_
  simp only [aP, lI, l0, lS]
  refine callL rfl (fun _ => by kernel_rfl) (rcheck14_any w0 _ R _ L sp cap n (hI.below hB) M) ?_
  rintro e w1 ⟨rfl, l1⟩
  replace M := M.call l1
  replace hB := hB.trans (l1.mono hB.size)
  clear l1
  refine ⟨_, rfl, ?_⟩
  simp only [aP, lI, l0, lS]
  refine readL (.int .i64 (wchk L n)) rfl (by kernel_rfl) ?_
  simp only [aP, lI, l0, lS]
  first | show Exit.then _ _ _ _ _ | show Exit.inBlock _ _ _ _ _
  by_cases hc : wchk L n = 0
  · replace hc := show Hid _ from hc
    go_upto_region 2 with fail
    refine wp_region_list ?_
    refine readL (.int .i64 (wchk L n)) rfl (by kernel_rfl) ?_
    simp only [aP, lI, l0, lS]
    refine readL (.bool true) rfl (eqlI .i64 _ _ _ _ _ _ rfl rfl rfl true (by rw [hc.out]; rfl) _) ?_
    simp only [aP, lI, l0, lS]
    first | show Exit.then _ _ _ _ _ | show Exit.inBlock _ _ _ _ _
    have hR2 : R < w1.heap.size := M.lt mS
    go_upto_region 3 with fail
    refine wp_region_list ?_
    refine readL (.pointer (some ⟨R, 0, none⟩)) rfl (by kernel_rfl) ?_
    simp only [aP, lI, l0, lS]
    refine readL (.pointer (some ⟨R, 0, none⟩)) rfl (by kernel_rfl) ?_
    simp only [aP, lI, l0, lS]
    refine readL (.pointer (some ⟨R, 0, none⟩)) rfl (by kernel_rfl) ?_
    simp only [aP, lI, l0, lS]
    refine readL (.pointer (some ⟨R, 0, none⟩)) rfl (by kernel_rfl) ?_
    simp only [aP, lI, l0, lS]
    refine readL (.slice sp L.length cap) rfl (load1 22 _ ⟨R, 0, none⟩ _ rfl rfl (fun _ => by kernel_rfl) (M.get mS 0 _ rfl)) ?_
    simp only [aP, lI, l0, lS]
    refine readL (.int .i64 n) rfl (by kernel_rfl) ?_
    simp only [aP, lI, l0, lS]
    have S_n := SrcI.lit w1 [n] (Nat.le_of_ble_eq_true rfl)
    have hlb := (Below.refl w1.heap.size w1).alloc (Nat.le_refl _) (.cells (row .i64 [n].length (bl [n])).toArray 3)
    refine actL (w' := w1.alloc (.cells (row .i64 [n].length (bl [n])).toArray 3)) (.slice (some ⟨w1.heap.size, 0, none⟩) 1 1) rfl (by kernel_rfl) ?_
    simp only [aP, lI, l0, lS]
    replace M := M.call hlb
    replace hB := hB.trans (hlb.mono hB.size)
    clear hlb
    generalize w1.alloc (.cells (row .i64 [n].length (bl [n])).toArray 3) = w2 at M hB S_n ⊢
    generalize (some ⟨w1.heap.size, 0, none⟩ : Option Addr) = pn at S_n ⊢
    have hzb := hB.size
    replace hR2 := M.lt mS
    obtain ⟨v, w3, hr, O2, hgr, hg2⟩ := run_append_Own (P := Try.prog) (ty := 22) Try.underlying22 one64 (O.bel hB) pn 1 1 (bl [n]) S_n (fun e => by obtain ⟨_, h, _⟩ := S_n 0 Nat.zero_lt_one; rw [e] at h; cases h) (by unfold maxLen; omega) (by omega) (Nat.le_trans hbase hzb)
    replace M := M.grownN hgr (fun b hb => ⟨Nat.le_trans hw0 (World.ownsRow.lt O b hb).1, hsep b hb⟩)
    have OF : Off (R :: obk (.slice sp L.length cap)) w w3 := (Off.of_below hB).grownO hgr (fun b hb => mT _ hb)
    refine actL v rfl (appendOp _ _ 22 _ _ _ rfl rfl rfl hr) ?_
    simp only [aP, lI, l0, lS]
    replace O2 : OwnI w3 base (L ++ [n]) v := OwnI.app O2
    clear hr hgr
    obtain ⟨sp', cap', rfl, _⟩ := O2.isSlice
    refine readL (.pointer (some ⟨R, 0, none⟩)) rfl (by kernel_rfl) ?_
    simp only [aP, lI, l0, lS]
    refine readL (.pointer (some ⟨R, 0, none⟩)) rfl (by kernel_rfl) ?_
    simp only [aP, lI, l0, lS]
    refine skipOpL rfl (storeAny (.slice sp' ((L ++ [n]).length) cap') R 0 22 _ _ rfl rfl rfl rfl rfl (M.isSome mS 0 (by simp)) (M.free mS 0 (by simp)) (by kernel_rfl)) ?_
    simp only [Act.put]
    have hRlt := M.lt mS
    replace M := M.set 0 (by simp) (.slice sp' ((L ++ [n]).length) cap')
    replace OF := OF.set (b := R) mS 0 (.slice sp' ((L ++ [n]).length) cap')
    have oR := (Off.refl [R] w3).set (b := R) mS 0 (.slice sp' ((L ++ [n]).length) cap')
    replace O2 : OwnI _ base (L ++ [n]) (.slice sp' ((L ++ [n]).length) cap') := ownsRow_off O2 oR (fun b hb e => by
      obtain rfl := List.mem_singleton.1 hb
      rcases hg2 _ e with h | h
      · exact hsep _ h _ mS rfl
      · have := hR2; omega)
    generalize w3.setCell ⟨R, 0, none⟩ (.slice sp' ((L ++ [n]).length) cap') = w4 at M OF O2 ⊢
    replace M : Mm w0 ((R, [.slice sp' ((L ++ [n]).length) cap']) :: l) w4 := M
    first | show Exit.then _ _ _ _ _ | show Exit.inBlock _ _ _ _ _
    go_upto_region 4 with fail
    refine wp_region_list ?_
    refine readL (.int .i64 (wchk L n)) rfl (by kernel_rfl) ?_
    simp only [aP, lI, l0, lS]
    refine readL (.int .i64 (wchk L n)) rfl (by kernel_rfl) ?_
    simp only [aP, lI, l0, lS]
    first | show Exit.then _ _ _ _ _ | show Exit.inBlock _ _ _ _ _
    have hk := show Hid _ from (wmk_ok hc.out)
    have HS := show Hid _ from (And.intro M (And.intro O2 (And.intro hg2 OF)))
    have hz2 := hzb
    clear M O2 hg2 OF hI O hB
    go_wp2
    go_ret
    exact ⟨rfl, sp', cap', by rw [hk.out]; exact HS.out.1, by rw [hk.out]; exact HS.out.2.1, fun g hg => by
      rw [hk.out] at hg
      rcases HS.out.2.2.1 g hg with h | h
      · exact .inl h
      · exact .inr (by omega), HS.out.2.2.2⟩
  · replace hc := show Hid _ from hc
    go_upto_region 2 with fail
    refine wp_region_list ?_
    refine readL (.int .i64 (wchk L n)) rfl (by kernel_rfl) ?_
    simp only [aP, lI, l0, lS]
    refine readL (.bool false) rfl (eqlI .i64 _ _ _ _ _ _ rfl rfl rfl false (by rw [beq_eq_false_iff_ne]; exact hc.out) _) ?_
    simp only [aP, lI, l0, lS]
    first | show Exit.then _ _ _ _ _ | show Exit.inBlock _ _ _ _ _
    go_upto_region 4 with fail
    refine wp_region_list ?_
    refine readL (.int .i64 (wchk L n)) rfl (by kernel_rfl) ?_
    simp only [aP, lI, l0, lS]
    refine readL (.int .i64 (wchk L n)) rfl (by kernel_rfl) ?_
    simp only [aP, lI, l0, lS]
    first | show Exit.then _ _ _ _ _ | show Exit.inBlock _ _ _ _ _
    have hk := show Hid _ from (wmk_err hc.out)
    have HS := show Hid _ from (And.intro M (And.intro (O.bel hB) (Off.of_below (X := R :: obk (.slice sp L.length cap)) hB)))
    clear M O hI hB
    go_wp2
    go_ret
    exact ⟨rfl, sp, cap, by rw [hk.out]; exact HS.out.1, by rw [hk.out]; exact HS.out.2.1, fun g hg => .inl (by rw [hk.out] at hg; exact hg), HS.out.2.2⟩
theorem rclone14_any (w0 w : World) (R : Nat) (l : List (Nat × List Value)) (L : List Int) (sp : Option Addr) (cap : Nat) (hnil : sp = none → cap = 0) (hI : WinI w sp L) (M : Mm w0 ((R, [.slice sp L.length cap]) :: l) w) :
    Calls Try.prog 10 #[.pointer (some ⟨R, 0, none⟩)] w fun e w' => ∃ Q sp' cap', e = .returned (.pointer (some ⟨Q, 0, none⟩)) ∧ w.heap.size ≤ Q ∧ Mm w0 ((Q, [.slice sp' L.length cap']) :: (R, [.slice sp L.length cap]) :: l) w' ∧ OwnI w' w.heap.size L (.slice sp' L.length cap') ∧ (∀ g, (Value.slice sp' L.length cap').ownBlock = some g → g ≠ Q) ∧ Below w.heap.size w w' := by
  have hB := Below.refl w.heap.size w
  have hLn := hI.len
  go_enter Try.func10, Try.ntmps10
  have hML0 : ∀ p ∈ ((R, [Value.slice sp L.length cap]) :: l), p.1 < w.heap.size := fun p hp => (M.rows p hp).2.2
  have hM0 := M.below.size
  go_upto_region 0 with fail
  refine wp_region_list ?_
  refine readL (.pointer none) rfl (by kernel_rfl) ?_
  simp only [aP, lI, l0, lS]
  first | show Exit.then _ _ _ _ _ | show Exit.inBlock _ _ _ _ _
  go_upto_region 1 with fail
  refine wp_region_list ?_
  have O_1 : OwnI (w.alloc (.cells #[] 3)) w.heap.size [] (.slice (some ⟨w.heap.size, 0, none⟩) 0 0) := Own.lit w w.heap.size 3 .i64 0 (bl []) hB.size (by unfold maxLen; omega)
  have hlb := (Below.refl w.heap.size w).alloc (Nat.le_refl _) (.cells #[] 3)
  refine actL (w' := w.alloc (.cells #[] 3)) (.slice (some ⟨w.heap.size, 0, none⟩) 0 0) rfl (by kernel_rfl) ?_
  simp only [aP, lI, l0, lS]
  replace M := M.call hlb
  replace hB := hB.trans (hlb.mono hB.size)
  clear hlb
  generalize w.alloc (.cells #[] 3) = w1 at M hB O_1 ⊢
  generalize (some ⟨w.heap.size, 0, none⟩ : Option Addr) = p1 at O_1 ⊢
  refine readL (.pointer (some ⟨R, 0, none⟩)) rfl (by kernel_rfl) ?_
  simp only [aP, lI, l0, lS]
  refine readL (.pointer (some ⟨R, 0, none⟩)) rfl (by kernel_rfl) ?_
  simp only [aP, lI, l0, lS]
  refine readL (.pointer (some ⟨R, 0, none⟩)) rfl (by kernel_rfl) ?_
  simp only [aP, lI, l0, lS]
  refine readL (.slice sp L.length cap) rfl (load1 22 _ ⟨R, 0, none⟩ _ rfl rfl (fun _ => by kernel_rfl) (M.get mS 0 _ rfl)) ?_
  simp only [aP, lI, l0, lS]
  have hML : ∀ p ∈ ((R, [Value.slice sp L.length cap]) :: l), p.1 < w.heap.size := hML0
  have hzb := hB.size
  obtain ⟨v, w2, hr, O2, hgr, hg2⟩ := run_append_Own (P := Try.prog) (ty := 22) Try.underlying22 one64 O_1 sp L.length cap (bl L) (hI.below hB).src hnil (by rw [List.length_nil]; unfold maxLen; omega) (by rw [List.length_nil]; omega) hzb
  have hw0 := hM0
  replace M := M.grown hgr w.heap.size hML hw0 hzb (fun b hb => (World.ownsRow.lt O_1 b hb).1)
  replace hB : Below w.heap.size w w2 := (((Mm.init w).call hB).grown hgr w.heap.size (fun p hp => by cases hp) (Nat.le_refl _) hzb (fun b hb => (World.ownsRow.lt O_1 b hb).1)).below
  refine actL v rfl (appendOp _ _ 22 _ _ _ rfl rfl rfl hr) ?_
  simp only [aP, lI, l0, lS]
  replace O2 : OwnI w2 w.heap.size L v := OwnI.app (a := []) O2
  clear hr hgr O_1
  obtain ⟨sp', cap', rfl, _⟩ := O2.isSlice
  refine readL (.agg #[.slice sp' L.length cap']) rfl (by kernel_rfl) ?_
  simp only [aP, lI, l0, lS]
  have hQ0 := hB.size
  have hlb := (Below.refl w2.heap.size w2).alloc (Nat.le_refl _) (.cells #[.slice sp' L.length cap'] 28)
  refine actL (w' := w2.alloc (.cells #[.slice sp' L.length cap'] 28)) (.pointer (some ⟨w2.heap.size, 0, none⟩)) rfl (by kernel_rfl) ?_
  simp only [aP, lI, l0, lS]
  have hgQ : ∀ g, (Value.slice sp' L.length cap').ownBlock = some g → g ≠ w2.heap.size := fun g hg => by have := (World.ownsRow.lt O2 g hg).2; omega
  replace M := M.box #[.slice sp' L.length cap'] 28 w2.heap.size rfl
  replace O2 := O2.bel hlb
  replace hB := hB.trans (hlb.mono hB.size)
  clear hlb
  generalize w2.alloc (.cells #[.slice sp' L.length cap'] 28) = w3 at M hB O2 ⊢
  generalize w2.heap.size = Q at M hQ0 hgQ ⊢
  replace M : Mm w0 ((Q, [.slice sp' L.length cap']) :: (R, [.slice sp L.length cap]) :: l) w3 := M
  refine readL (.pointer (some ⟨Q, 0, none⟩)) rfl (by kernel_rfl) ?_
  simp only [aP, lI, l0, lS]
  first | show Exit.then _ _ _ _ _ | show Exit.inBlock _ _ _ _ _
  have HS := show Hid _ from (And.intro hQ0 (And.intro M (And.intro O2 (And.intro hgQ hB))))
  clear M O2 hB hI hgQ
  go_wp2
  go_ret
  first | exact ⟨Q, sp', cap', rfl, HS.out⟩ | exact ⟨Q, rfl, HS.out.1, sp', cap', HS.out.2⟩ | exact ⟨Q, rfl, HS.out.1, sp', ⟨cap', HS.out.2⟩⟩
end Go.Proofs.Ytglnmmajgedinaa
