/- Texts of Fo Fp Fr, joined. -/
import Derived.Test.YtglnmmajgedinaaP2WindowOrder
import Derived.Test.YtglnmmajgedinaaP1WindowOrder
import Derived.Deep.Cut
set_option maxRecDepth 20000
set_option maxHeartbeats 64000000
namespace Go.Proofs.Ytglnmmajgedinaa
open Go.RowKit
section
section
variable {P : Program} {ops : Array Oper} {Q : Exit → Act → World → Prop} {md : Region.Mode} {S S2 : World → Prop} {c : Nat}
theorem readC {i : Nat} {oi oc : Oper} (dst : Option Tmp) (hdst : oi.dst = dst) {n : Nat} {l : Array Bool} {a : Act} {w : World} (v : Value) (hi : ops[i]? = some oi) (hc : ops[c]? = some oc) (hwait : (oc.after.any fun e => Region.binds md e && e.on == i) = true)
    (hw : Region.wanted oi (yielded ops a.tmps) = true) (hv : ∀ w, S w → (execOp a.eval oi).run P w = .ok (.value v) w)
    (hs : Region.noSelect ops = true) (hf : Region.free md ops l i = true) (hl : l.getD c true = false) (hr : (Region.ready md ops l).contains i = true)
    (hQ : ∀ p a w, Q (.panic p) (a.put dst v) w → Q (.panic p) a w) (hS : S w)
    (h : wpAnyC P md ops Q S c n (l.setIfInBounds i true) (a.put dst v) w) : wpAnyC P md ops Q S c (n + 1) l a w := by
  subst hdst
  exact wpAnyC_take hi hc hwait hs hf hl hr hQ (.inl ⟨hw, hv⟩) hS h
theorem skipC (dst : Option Tmp) {oc : Oper} (hdst : oc.dst = dst) {n : Nat} {l : Array Bool} {a : Act} {w w' : World} (hr : Region.ready md ops l = [c]) (hi : ops[c]? = some oc)
    (hw : Region.wanted oc (yielded ops a.tmps) = true) (he : (execOp a.eval oc).run P w = .ok .skip w') (hl : (l.setIfInBounds c true).getD c true = true)
    (h : wpAnyH P md ops Q S2 n (l.setIfInBounds c true) (a.put dst undef) w') : wpAnyC P md ops Q S c (n + 1) l a w :=
  ⟨fun h0 => (by rw [h0] at hr; cases hr), fun j hj => by
    rw [hr] at hj
    obtain rfl := List.mem_singleton.1 hj
    unfold wpOp
    simp only [hi, hw, if_true]
    refine .inl ?_
    unfold Oper.wp
    rw [he]
    subst hdst
    exact ⟨fun hf => (by rw [hl] at hf; cases hf), wpAnyC_rest n _ _ _ hl (wpAny_of_held n _ _ _ h)⟩⟩
end
def wcv (T : Int) (W : Nat → Nat) : List Value := .int .i64 (T + 1) :: row .u64 16 (fun i => (W i : Int))
theorem wcv_len (T : Int) (W : Nat → Nat) : (wcv T W).length = 17 := by unfold wcv; rw [List.length_cons, row_length]
theorem wcv_get (T : Int) (W : Nat → Nat) (i : Nat) (h : i < 16) : (wcv T W)[1 + i]? = some (.int .u64 (W i : Int)) := by
  unfold wcv
  rw [Nat.add_comm, List.getElem?_cons_succ]
  exact row_get .u64 16 _ i h
theorem wcv_arr (T : Int) (W : Nat → Nat) : ((wcv T W).drop 1).take (row .u64 16 (fun i => (W i : Int))).length = row .u64 16 (fun i => (W i : Int)) := List.take_length
theorem row_put (k : IntKind) (n : Nat) (f : Nat → Int) (i : Nat) (v : Int) : (row k n f).set i (.int k v) = row k n (fun j => if j = i then v else f j) := by
  refine List.ext_getElem? fun j => ?_
  rw [List.getElem?_set]
  by_cases hj : j < n
  · rw [row_get k n _ j hj, row_get k n _ j hj, row_length]
    by_cases e : i = j
    · rw [if_pos e, if_pos (by omega), if_pos e.symm]
    · rw [if_neg e, if_neg (fun h => e h.symm)]
  · rw [List.getElem?_eq_none (by rw [row_length]; omega), List.getElem?_eq_none (by rw [row_length]; omega), row_length]
    split
    · rw [if_neg (by omega)]
    · rfl
theorem row_nat (n : Nat) (W : Nat → Nat) (i v : Nat) : row .u64 n (fun j => if j = i then ((v : Nat) : Int) else (W j : Int)) = row .u64 n (fun j => ((if j = i then v else W j : Nat) : Int)) := row_congr _ _ fun j _ => by split <;> rfl
theorem wcv_set (T : Int) (W : Nat → Nat) (i v : Nat) : (wcv T W).set (1 + i) (.int .u64 (v : Int)) = wcv T (fun j => if j = i then v else W j) := by
  unfold wcv
  rw [Nat.add_comm, List.set_cons_succ, row_put, row_nat]
theorem wcv_setA (T : Int) (W V : Nat → Nat) : setL (wcv T W) 1 (row .u64 16 (fun i => (V i : Int))) = wcv T V := by
  have h := setL_pre [.int .i64 (T + 1)] (row .u64 16 (fun i => (V i : Int))) (row .u64 16 (fun i => (W i : Int))) 0
  have h2 := setL_left (row .u64 16 (fun i => (V i : Int))) (row .u64 16 (fun i => (W i : Int))) [] (by rw [row_length, row_length])
  rw [List.append_nil, List.append_nil] at h2
  rw [h2] at h
  exact h
theorem wcv_congr {T : Int} {W V : Nat → Nat} (h : ∀ i, i < 16 → W i = V i) : wcv T W = wcv T V := by
  unfold wcv
  rw [row_congr .u64 16 (fun j hj => by rw [h j hj])]
theorem quo64 (k : Nat) (hk : k ≤ 562949953421312) : IntKind.i64.wrap ((k : Int).tdiv 64) = ((k / 64 : Nat) : Int) := by
  rw [Int.tdiv_eq_ediv_of_nonneg (by omega), IntKind.wrap_i64]
  omega
theorem rem64 (k : Nat) : (k : Int).tmod 64 = ((k % 64 : Nat) : Int) := by
  rw [Int.tmod_eq_emod_of_nonneg (by omega)]
  omega
def ib (b : Bool) : Int := if b then 1 else 0
theorem ib_eq (b : Bool) : (ib b == 1) = b := by cases b <;> rfl
theorem ib64 (x e : Nat) (hx : x < 2 ^ 64) : bits .and .u64 ((x / 2 ^ e : Nat) : Int) 1 = ib (x.testBit e) := bit64 x e hx
theorem vtop14_any (w0 w : World) (R : Nat) (l : List (Nat × List Value)) (T : Int) (W : Nat → Nat) (hT1 : -1 ≤ T) (hT2 : T ≤ 281474976710655) (M : Mm w0 ((R, wcv T W) :: l) w) :
    Calls Try.prog 15 #[.pointer (some ⟨R, 0, none⟩)] w fun e w' => e = .returned (.int .i64 T) ∧ Below w.heap.size w w' := by
  have hB := Below.refl w.heap.size w
  go_enter Try.func15, Try.ntmps15
  go_upto_region 0 with fail
  refine wp_region_list ?_
  refine readL (.int .i64 0) rfl (by kernel_rfl) ?_
  simp only [aP, lI, l0, lS]
  first | show Exit.then _ _ _ _ _ | show Exit.inBlock _ _ _ _ _
  go_upto_region 1 with fail
  refine wp_region_list ?_
  refine readL (.pointer (some ⟨R, 0, none⟩)) rfl (by kernel_rfl) ?_
  simp only [aP, lI, l0, lS]
  refine readL (.pointer (some ⟨R, 0, none⟩)) rfl (by kernel_rfl) ?_
  simp only [aP, lI, l0, lS]
  refine readL (.pointer (some ⟨R, 0, none⟩)) rfl (by kernel_rfl) ?_
  simp only [aP, lI, l0, lS]
  refine readL (.int .i64 (T + 1)) rfl (load1 3 _ ⟨R, 0, none⟩ _ rfl rfl (fun _ => by kernel_rfl) (M.get mS 0 _ rfl)) ?_
  simp only [aP, lI, l0, lS]
  refine readL (.int .i64 T) rfl (subI .i64 _ _ _ _ _ _ _ rfl rfl rfl (by rw [IntKind.wrap_i64]; omega) _) ?_
  simp only [aP, lI, l0, lS]
  refine readL (.int .i64 T) rfl (by kernel_rfl) ?_
  simp only [aP, lI, l0, lS]
  first | show Exit.then _ _ _ _ _ | show Exit.inBlock _ _ _ _ _
  have HS := show Hid _ from hB
  clear M hB
  go_wp2
  go_ret
  exact ⟨rfl, HS.out⟩
theorem vplace_any (w0 w : World) (R : Nat) (l : List (Nat × List Value)) (T : Int) (W : Nat → Nat) (hT1 : -1 ≤ T) (hT2 : T ≤ 281474976710655) (n : Int) (k : Nat) (hk : T - n = (k : Int)) (hk2 : k < 1024) (M : Mm w0 ((R, wcv T W) :: l) w) :
    Calls Try.prog 22 #[.pointer (some ⟨R, 0, none⟩), .int .i64 n] w fun e w' => e = .returned (.tuple #[.int .i64 ((k / 64 : Nat) : Int), .int .i64 ((k % 64 : Nat) : Int)]) ∧ Below w.heap.size w w' := by
  have hB := Below.refl w.heap.size w
  go_enter Try.func22, Try.ntmps22
  go_upto_region 0 with fail
  refine wp_region_list ?_
  refine readL (.int .i64 0) rfl (by kernel_rfl) ?_
  simp only [aP, lI, l0, lS]
  refine readL (.int .i64 0) rfl (by kernel_rfl) ?_
  simp only [aP, lI, l0, lS]
  first | show Exit.then _ _ _ _ _ | show Exit.inBlock _ _ _ _ _
  go_upto_region 1 with fail
  refine wp_region_list ?_
  refine readL (.pointer (some ⟨R, 0, none⟩)) rfl (by kernel_rfl) ?_
  simp only [aP, lI, l0, lS]
  refine callL rfl (fun _ => by kernel_rfl) (vtop14_any w0 _ R _ T W hT1 hT2 M) ?_
  rintro e w1 ⟨rfl, l1⟩
  replace M := M.call l1
  replace hB := hB.trans (l1.mono hB.size)
  clear l1
  refine ⟨_, rfl, ?_⟩
  simp only [aP, lI, l0, lS]
  refine readL (.int .i64 n) rfl (by kernel_rfl) ?_
  simp only [aP, lI, l0, lS]
  refine readL (.int .i64 ((k : Nat) : Int)) rfl (subI .i64 _ _ _ _ _ _ _ rfl rfl rfl (by rw [hk, IntKind.wrap_i64]; omega) _) ?_
  simp only [aP, lI, l0, lS]
  refine readL (.int .i64 ((k : Nat) : Int)) rfl (by kernel_rfl) ?_
  simp only [aP, lI, l0, lS]
  first | show Exit.then _ _ _ _ _ | show Exit.inBlock _ _ _ _ _
  go_upto_region 2 with fail
  refine wp_region_list ?_
  refine readL (.int .i64 ((k : Nat) : Int)) rfl (by kernel_rfl) ?_
  simp only [aP, lI, l0, lS]
  refine readL (.int .i64 ((k / 64 : Nat) : Int)) rfl (quoI .i64 _ _ _ _ _ _ _ rfl rfl rfl (by decide) (quo64 k (by omega)) _) ?_
  simp only [aP, lI, l0, lS]
  refine readL (.int .i64 ((k : Nat) : Int)) rfl (by kernel_rfl) ?_
  simp only [aP, lI, l0, lS]
  refine readL (.int .i64 ((k % 64 : Nat) : Int)) rfl (remI .i64 _ _ _ _ _ _ _ rfl rfl rfl (by decide) (rem64 k) _) ?_
  simp only [aP, lI, l0, lS]
  refine readL (.int .i64 ((k / 64 : Nat) : Int)) rfl (by kernel_rfl) ?_
  simp only [aP, lI, l0, lS]
  refine readL (.int .i64 ((k % 64 : Nat) : Int)) rfl (by kernel_rfl) ?_
  simp only [aP, lI, l0, lS]
  first | show Exit.then _ _ _ _ _ | show Exit.inBlock _ _ _ _ _
  have HS := show Hid _ from hB
  clear M hB
  go_wp2
  go_ret2
  exact ⟨rfl, HS.out⟩
theorem vmarked_any (w0 w : World) (R : Nat) (l : List (Nat × List Value)) (T : Int) (W : Nat → Nat) (hT1 : -1 ≤ T) (hT2 : T ≤ 281474976710655) (hW : ∀ i, i < 16 → W i < 2 ^ 64) (n : Int) (k : Nat) (hk : T - n = (k : Int)) (hk2 : k < 1024) (b : Bool) (hb : (W (k / 64)).testBit (k % 64) = b) (M : Mm w0 ((R, wcv T W) :: l) w) :
    Calls Try.prog 23 #[.pointer (some ⟨R, 0, none⟩), .int .i64 n] w fun e w' => e = .returned (.bool b) ∧ Below w.heap.size w w' := by
  have hB := Below.refl w.heap.size w
  go_enter Try.func23, Try.ntmps23
  go_upto_region 0 with fail
  refine wp_region_list ?_
  refine readL (.bool false) rfl (by kernel_rfl) ?_
  simp only [aP, lI, l0, lS]
  first | show Exit.then _ _ _ _ _ | show Exit.inBlock _ _ _ _ _
  go_upto_region 1 with fail
  refine wp_region_list ?_
  refine readL (.pointer (some ⟨R, 0, none⟩)) rfl (by kernel_rfl) ?_
  simp only [aP, lI, l0, lS]
  refine readL (.int .i64 n) rfl (by kernel_rfl) ?_
  simp only [aP, lI, l0, lS]
  refine callL rfl (fun _ => by kernel_rfl) (vplace_any w0 _ R _ T W hT1 hT2 n k hk hk2 M) ?_
  rintro e w1 ⟨rfl, l1⟩
  replace M := M.call l1
  replace hB := hB.trans (l1.mono hB.size)
  clear l1
  refine ⟨_, rfl, ?_⟩
  simp only [aP, lI, l0, lS]
  refine readL (.tuple #[.int .i64 ((k / 64 : Nat) : Int), .int .i64 ((k % 64 : Nat) : Int)]) rfl (by kernel_rfl) ?_
  simp only [aP, lI, l0, lS]
  refine readL (.int .i64 ((k / 64 : Nat) : Int)) rfl (by kernel_rfl) ?_
  simp only [aP, lI, l0, lS]
  refine readL (.int .i64 ((k % 64 : Nat) : Int)) rfl (by kernel_rfl) ?_
  simp only [aP, lI, l0, lS]
  refine readL (.int .i64 ((k / 64 : Nat) : Int)) rfl (by kernel_rfl) ?_
  simp only [aP, lI, l0, lS]
  refine readL (.int .i64 ((k % 64 : Nat) : Int)) rfl (by kernel_rfl) ?_
  simp only [aP, lI, l0, lS]
  first | show Exit.then _ _ _ _ _ | show Exit.inBlock _ _ _ _ _
  go_upto_region 2 with fail
  refine wp_region_list ?_
  refine readL (.pointer (some ⟨R, 0, none⟩)) rfl (by kernel_rfl) ?_
  simp only [aP, lI, l0, lS]
  refine readL (.int .i64 ((k / 64 : Nat) : Int)) rfl (by kernel_rfl) ?_
  simp only [aP, lI, l0, lS]
  refine readL (.pointer (some ⟨R, 0, none⟩)) rfl (by kernel_rfl) ?_
  simp only [aP, lI, l0, lS]
  refine readL (.pointer (some ⟨R, 1, none⟩)) rfl (by kernel_rfl) ?_
  simp only [aP, lI, l0, lS]
  refine readL (.pointer (some ⟨R, 1 + (k / 64), none⟩)) rfl (idxArr 43 42 16 .i64 R 1 (k / 64) _ _ Try.underlying43 (fun _ => by kernel_rfl) (by omega) rfl rfl rfl _) ?_
  simp only [aP, lI, l0, lS]
  refine readL (.int .u64 ((W (k / 64) : Nat) : Int)) rfl (load1 42 _ ⟨R, 1 + (k / 64), none⟩ _ rfl rfl (fun _ => by kernel_rfl) (M.get mS _ _ (wcv_get T W (k / 64) (by omega)))) ?_
  simp only [aP, lI, l0, lS]
  refine readL (.int .i64 ((k % 64 : Nat) : Int)) rfl (by kernel_rfl) ?_
  simp only [aP, lI, l0, lS]
  refine readL (.int .u64 ((W (k / 64) / 2 ^ (k % 64) : Nat) : Int)) rfl (shrI .u64 .i64 _ _ _ _ _ _ _ rfl rfl rfl (by omega) (shr64 _ _ (by omega)) _) ?_
  simp only [aP, lI, l0, lS]
  refine readL (.int .u64 (ib ((W (k / 64)).testBit (k % 64)))) rfl (vandI .u64 _ _ _ _ _ _ _ rfl rfl rfl (ib64 _ _ (hW _ (by omega))) _) ?_
  simp only [aP, lI, l0, lS]
  refine readL (.bool b) rfl (eqlI .u64 _ _ _ _ _ _ rfl rfl rfl b (by rw [ib_eq]; exact hb) _) ?_
  simp only [aP, lI, l0, lS]
  refine readL (.bool b) rfl (by kernel_rfl) ?_
  simp only [aP, lI, l0, lS]
  first | show Exit.then _ _ _ _ _ | show Exit.inBlock _ _ _ _ _
  have HS := show Hid _ from hB
  clear M hB
  go_wp2
  go_ret
  exact ⟨rfl, HS.out⟩
theorem wck_arg {L : List Int} {n : Int} (h : n < 0 ∨ 281474976710655 < n) : wchk L n = 1 := if_pos h
theorem wck_old {L : List Int} {n : Int} (h : ¬ (n < 0 ∨ 281474976710655 < n)) (h2 : n ≤ wtop L - 1024 ∨ n ∈ L) : wchk L n = 140 := by unfold wchk; rw [if_neg h, if_pos h2]
theorem wck_new {L : List Int} {n : Int} (h : ¬ (n < 0 ∨ 281474976710655 < n)) (h2 : ¬ (n ≤ wtop L - 1024 ∨ n ∈ L)) : wchk L n = 0 := by unfold wchk; rw [if_neg h, if_neg h2]
theorem vcheck14_any (w0 w : World) (R : Nat) (l : List (Nat × List Value)) (L : List Int) (W : Nat → Nat) (hL : WinL L) (hW : Wds W L) (n : Int) (hn : i64 n) (M : Mm w0 ((R, wcv (wtop L) W) :: l) w) :
    Calls Try.prog 13 #[.pointer (some ⟨R, 0, none⟩), .int .i64 n] w fun e w' => e = .returned (.int .i64 (wchk L n)) ∧ Below w.heap.size w w' := by
  have hB := Below.refl w.heap.size w
  go_enter Try.func13, Try.ntmps13
  have hT1 := wtop_ge L
  have hT2 := wtop_max hL
  unfold i64 at hn
  go_upto_region 0 with fail
  refine wp_region_list ?_
  refine readL (.int .i64 0) rfl (by kernel_rfl) ?_
  simp only [aP, lI, l0, lS]
  first | show Exit.then _ _ _ _ _ | show Exit.inBlock _ _ _ _ _
  by_cases h1 : n < 0
  · go_upto_region 1 with fail
    refine wp_region_list ?_
    refine readL (.int .i64 n) rfl (by kernel_rfl) ?_
    simp only [aP, lI, l0, lS]
    refine readL (.bool true) rfl (lssI .i64 _ _ _ _ _ _ rfl rfl rfl true (decide_eq_true (by omega)) _) ?_
    simp only [aP, lI, l0, lS]
    refine readL (.bool true) rfl (by kernel_rfl) ?_
    simp only [aP, lI, l0, lS]
    with_reducible refine skipL ?_ ?_
    · rfl
    simp only [aP, lI, l0, lS]
    with_reducible refine skipL ?_ ?_
    · rfl
    simp only [aP, lI, l0, lS]
    refine readL (.bool true) rfl (by kernel_rfl) ?_
    simp only [aP, lI, l0, lS]
    refine readL (.bool true) rfl (by kernel_rfl) ?_
    simp only [aP, lI, l0, lS]
    first | show Exit.then _ _ _ _ _ | show Exit.inBlock _ _ _ _ _
    go_upto_region 2 with fail
    refine wp_region_list ?_
    refine readL (.int .i64 1) rfl (by kernel_rfl) ?_
    simp only [aP, lI, l0, lS]
    first | show Exit.then _ _ _ _ _ | show Exit.inBlock _ _ _ _ _
    have hk_ := show Hid _ from (wck_arg (L := L) (.inl h1))
    have HS := show Hid _ from hB
    clear M hB hW hL
    go_wp2
    go_ret
    exact ⟨by rw [hk_.out]; rfl, HS.out⟩
  · by_cases h2 : 281474976710655 < n
    · go_upto_region 1 with fail
      refine wp_region_list ?_
      refine readL (.int .i64 n) rfl (by kernel_rfl) ?_
      simp only [aP, lI, l0, lS]
      refine readL (.bool false) rfl (lssI .i64 _ _ _ _ _ _ rfl rfl rfl false (decide_eq_false (by omega)) _) ?_
      simp only [aP, lI, l0, lS]
      refine readL (.bool false) rfl (by kernel_rfl) ?_
      simp only [aP, lI, l0, lS]
      refine readL (.int .i64 n) rfl (by kernel_rfl) ?_
      simp only [aP, lI, l0, lS]
      refine readL (.bool true) rfl (gtrI .i64 _ _ _ _ _ _ rfl rfl rfl true (decide_eq_true (by omega)) _) ?_
      simp only [aP, lI, l0, lS]
      refine readL (.bool true) rfl (by kernel_rfl) ?_
      simp only [aP, lI, l0, lS]
      refine readL (.bool true) rfl (by kernel_rfl) ?_
      simp only [aP, lI, l0, lS]
      first | show Exit.then _ _ _ _ _ | show Exit.inBlock _ _ _ _ _
      go_upto_region 2 with fail
      refine wp_region_list ?_
      refine readL (.int .i64 1) rfl (by kernel_rfl) ?_
      simp only [aP, lI, l0, lS]
      first | show Exit.then _ _ _ _ _ | show Exit.inBlock _ _ _ _ _
      have hk_ := show Hid _ from (wck_arg (L := L) (.inr h2))
      have HS := show Hid _ from hB
      clear M hB hW hL
      go_wp2
      go_ret
      exact ⟨by rw [hk_.out]; rfl, HS.out⟩
    · go_upto_region 1 with fail
      refine wp_region_list ?_
      refine readL (.int .i64 n) rfl (by kernel_rfl) ?_
      simp only [aP, lI, l0, lS]
      refine readL (.bool false) rfl (lssI .i64 _ _ _ _ _ _ rfl rfl rfl false (decide_eq_false (by omega)) _) ?_
      simp only [aP, lI, l0, lS]
      refine readL (.bool false) rfl (by kernel_rfl) ?_
      simp only [aP, lI, l0, lS]
      refine readL (.int .i64 n) rfl (by kernel_rfl) ?_
      simp only [aP, lI, l0, lS]
      refine readL (.bool false) rfl (gtrI .i64 _ _ _ _ _ _ rfl rfl rfl false (decide_eq_false (by omega)) _) ?_
      simp only [aP, lI, l0, lS]
      refine readL (.bool false) rfl (by kernel_rfl) ?_
      simp only [aP, lI, l0, lS]
      refine readL (.bool false) rfl (by kernel_rfl) ?_
      simp only [aP, lI, l0, lS]
      first | show Exit.then _ _ _ _ _ | show Exit.inBlock _ _ _ _ _
      by_cases h3 : n > wtop L
      · go_upto_region 3 with fail
        refine wp_region_list ?_
        refine readL (.int .i64 n) rfl (by kernel_rfl) ?_
        simp only [aP, lI, l0, lS]
        refine readL (.pointer (some ⟨R, 0, none⟩)) rfl (by kernel_rfl) ?_
        simp only [aP, lI, l0, lS]
        refine callL rfl (fun _ => by kernel_rfl) (vtop14_any w0 _ R _ (wtop L) W hT1 hT2 M) ?_
        rintro e w1 ⟨rfl, l1⟩
        replace M := M.call l1
        replace hB := hB.trans (l1.mono hB.size)
        clear l1
        refine ⟨_, rfl, ?_⟩
        simp only [aP, lI, l0, lS]
        refine readL (.bool true) rfl (gtrI .i64 _ _ _ _ _ _ rfl rfl rfl true (decide_eq_true (by omega)) _) ?_
        simp only [aP, lI, l0, lS]
        refine readL (.bool true) rfl (by kernel_rfl) ?_
        simp only [aP, lI, l0, lS]
        first | show Exit.then _ _ _ _ _ | show Exit.inBlock _ _ _ _ _
        go_upto_region 4 with fail
        refine wp_region_list ?_
        refine readL (.int .i64 0) rfl (by kernel_rfl) ?_
        simp only [aP, lI, l0, lS]
        first | show Exit.then _ _ _ _ _ | show Exit.inBlock _ _ _ _ _
        have hk_ := show Hid _ from (wck_new (L := L) (n := n) (by omega) (fun h => h.elim (fun h => by omega) (fun h => by have := wtop_le h; omega)))
        have HS := show Hid _ from hB
        clear M hB hW hL
        go_wp2
        go_ret
        exact ⟨by rw [hk_.out]; rfl, HS.out⟩
      · go_upto_region 3 with fail
        refine wp_region_list ?_
        refine readL (.int .i64 n) rfl (by kernel_rfl) ?_
        simp only [aP, lI, l0, lS]
        refine readL (.pointer (some ⟨R, 0, none⟩)) rfl (by kernel_rfl) ?_
        simp only [aP, lI, l0, lS]
        refine callL rfl (fun _ => by kernel_rfl) (vtop14_any w0 _ R _ (wtop L) W hT1 hT2 M) ?_
        rintro e w2 ⟨rfl, l1⟩
        replace M := M.call l1
        replace hB := hB.trans (l1.mono hB.size)
        clear l1
        refine ⟨_, rfl, ?_⟩
        simp only [aP, lI, l0, lS]
        refine readL (.bool false) rfl (gtrI .i64 _ _ _ _ _ _ rfl rfl rfl false (decide_eq_false (by omega)) _) ?_
        simp only [aP, lI, l0, lS]
        refine readL (.bool false) rfl (by kernel_rfl) ?_
        simp only [aP, lI, l0, lS]
        first | show Exit.then _ _ _ _ _ | show Exit.inBlock _ _ _ _ _
        by_cases h4 : n ≤ wtop L - 1024
        · go_upto_region 5 with fail
          refine wp_region_list ?_
          refine readL (.int .i64 n) rfl (by kernel_rfl) ?_
          simp only [aP, lI, l0, lS]
          refine readL (.pointer (some ⟨R, 0, none⟩)) rfl (by kernel_rfl) ?_
          simp only [aP, lI, l0, lS]
          refine callL rfl (fun _ => by kernel_rfl) (vtop14_any w0 _ R _ (wtop L) W hT1 hT2 M) ?_
          rintro e w3 ⟨rfl, l1⟩
          replace M := M.call l1
          replace hB := hB.trans (l1.mono hB.size)
          clear l1
          refine ⟨_, rfl, ?_⟩
          simp only [aP, lI, l0, lS]
          refine readL (.int .i64 ((wtop L) - 1024)) rfl (subI .i64 _ _ _ _ _ _ _ rfl rfl rfl (by rw [IntKind.wrap_i64]; omega) _) ?_
          simp only [aP, lI, l0, lS]
          refine readL (.bool true) rfl (leqI .i64 _ _ _ _ _ _ rfl rfl rfl true (decide_eq_true (by omega)) _) ?_
          simp only [aP, lI, l0, lS]
          refine readL (.bool true) rfl (by kernel_rfl) ?_
          simp only [aP, lI, l0, lS]
          with_reducible refine skipL ?_ ?_
          · rfl
          simp only [aP, lI, l0, lS]
          with_reducible refine skipL ?_ ?_
          · rfl
          simp only [aP, lI, l0, lS]
          with_reducible refine skipL ?_ ?_
          · rfl
          simp only [aP, lI, l0, lS]
          refine readL (.bool true) rfl (by kernel_rfl) ?_
          simp only [aP, lI, l0, lS]
          refine readL (.bool true) rfl (by kernel_rfl) ?_
          simp only [aP, lI, l0, lS]
          first | show Exit.then _ _ _ _ _ | show Exit.inBlock _ _ _ _ _
          go_upto_region 6 with fail
          refine wp_region_list ?_
          refine readL (.int .i64 140) rfl (by kernel_rfl) ?_
          simp only [aP, lI, l0, lS]
          first | show Exit.then _ _ _ _ _ | show Exit.inBlock _ _ _ _ _
          have hk_ := show Hid _ from (wck_old (L := L) (n := n) (by omega) (.inl h4))
          have HS := show Hid _ from hB
          clear M hB hW hL
          go_wp2
          go_ret
          exact ⟨by rw [hk_.out]; rfl, HS.out⟩
        · have hk : wtop L - n = ((wtop L - n).toNat : Int) := by omega
          by_cases hm : n ∈ L
          · go_upto_region 5 with fail
            refine wp_region_list ?_
            refine readL (.int .i64 n) rfl (by kernel_rfl) ?_
            simp only [aP, lI, l0, lS]
            refine readL (.pointer (some ⟨R, 0, none⟩)) rfl (by kernel_rfl) ?_
            simp only [aP, lI, l0, lS]
            refine callL rfl (fun _ => by kernel_rfl) (vtop14_any w0 _ R _ (wtop L) W hT1 hT2 M) ?_
            rintro e w4 ⟨rfl, l1⟩
            replace M := M.call l1
            replace hB := hB.trans (l1.mono hB.size)
            clear l1
            refine ⟨_, rfl, ?_⟩
            simp only [aP, lI, l0, lS]
            refine readL (.int .i64 ((wtop L) - 1024)) rfl (subI .i64 _ _ _ _ _ _ _ rfl rfl rfl (by rw [IntKind.wrap_i64]; omega) _) ?_
            simp only [aP, lI, l0, lS]
            refine readL (.bool false) rfl (leqI .i64 _ _ _ _ _ _ rfl rfl rfl false (decide_eq_false (by omega)) _) ?_
            simp only [aP, lI, l0, lS]
            refine readL (.bool false) rfl (by kernel_rfl) ?_
            simp only [aP, lI, l0, lS]
            refine readL (.pointer (some ⟨R, 0, none⟩)) rfl (by kernel_rfl) ?_
            simp only [aP, lI, l0, lS]
            refine readL (.int .i64 n) rfl (by kernel_rfl) ?_
            simp only [aP, lI, l0, lS]
            refine callL rfl (fun _ => by kernel_rfl) (vmarked_any w0 _ R _ (wtop L) W hT1 hT2 hW.lt n (wtop L - n).toNat hk (by omega) true ((hW.at hk (by omega)).trans (decide_eq_true hm)) M) ?_
            rintro e w5 ⟨rfl, l1⟩
            replace M := M.call l1
            replace hB := hB.trans (l1.mono hB.size)
            clear l1
            refine ⟨_, rfl, ?_⟩
            simp only [aP, lI, l0, lS]
            refine readL (.bool true) rfl (by kernel_rfl) ?_
            simp only [aP, lI, l0, lS]
            refine readL (.bool true) rfl (by kernel_rfl) ?_
            simp only [aP, lI, l0, lS]
            first | show Exit.then _ _ _ _ _ | show Exit.inBlock _ _ _ _ _
            go_upto_region 6 with fail
            refine wp_region_list ?_
            refine readL (.int .i64 140) rfl (by kernel_rfl) ?_
            simp only [aP, lI, l0, lS]
            first | show Exit.then _ _ _ _ _ | show Exit.inBlock _ _ _ _ _
            have hk_ := show Hid _ from (wck_old (L := L) (n := n) (by omega) (.inr hm))
            have HS := show Hid _ from hB
            clear M hB hW hL
            go_wp2
            go_ret
            exact ⟨by rw [hk_.out]; rfl, HS.out⟩
          · go_upto_region 5 with fail
            refine wp_region_list ?_
            refine readL (.int .i64 n) rfl (by kernel_rfl) ?_
            simp only [aP, lI, l0, lS]
            refine readL (.pointer (some ⟨R, 0, none⟩)) rfl (by kernel_rfl) ?_
            simp only [aP, lI, l0, lS]
            refine callL rfl (fun _ => by kernel_rfl) (vtop14_any w0 _ R _ (wtop L) W hT1 hT2 M) ?_
            rintro e w6 ⟨rfl, l1⟩
            replace M := M.call l1
            replace hB := hB.trans (l1.mono hB.size)
            clear l1
            refine ⟨_, rfl, ?_⟩
            simp only [aP, lI, l0, lS]
            refine readL (.int .i64 ((wtop L) - 1024)) rfl (subI .i64 _ _ _ _ _ _ _ rfl rfl rfl (by rw [IntKind.wrap_i64]; omega) _) ?_
            simp only [aP, lI, l0, lS]
            refine readL (.bool false) rfl (leqI .i64 _ _ _ _ _ _ rfl rfl rfl false (decide_eq_false (by omega)) _) ?_
            simp only [aP, lI, l0, lS]
            refine readL (.bool false) rfl (by kernel_rfl) ?_
            simp only [aP, lI, l0, lS]
            refine readL (.pointer (some ⟨R, 0, none⟩)) rfl (by kernel_rfl) ?_
            simp only [aP, lI, l0, lS]
            refine readL (.int .i64 n) rfl (by kernel_rfl) ?_
            simp only [aP, lI, l0, lS]
            refine callL rfl (fun _ => by kernel_rfl) (vmarked_any w0 _ R _ (wtop L) W hT1 hT2 hW.lt n (wtop L - n).toNat hk (by omega) false ((hW.at hk (by omega)).trans (decide_eq_false hm)) M) ?_
            rintro e w7 ⟨rfl, l1⟩
            replace M := M.call l1
            replace hB := hB.trans (l1.mono hB.size)
            clear l1
            refine ⟨_, rfl, ?_⟩
            simp only [aP, lI, l0, lS]
            refine readL (.bool false) rfl (by kernel_rfl) ?_
            simp only [aP, lI, l0, lS]
            refine readL (.bool false) rfl (by kernel_rfl) ?_
            simp only [aP, lI, l0, lS]
            first | show Exit.then _ _ _ _ _ | show Exit.inBlock _ _ _ _ _
            go_upto_region 7 with fail
            refine wp_region_list ?_
            refine readL (.int .i64 0) rfl (by kernel_rfl) ?_
            simp only [aP, lI, l0, lS]
            first | show Exit.then _ _ _ _ _ | show Exit.inBlock _ _ _ _ _
            have hk_ := show Hid _ from (wck_new (L := L) (n := n) (by omega) (fun h => h.elim h4 hm))
            have HS := show Hid _ from hB
            clear M hB hW hL
            go_wp2
            go_ret
            exact ⟨by rw [hk_.out]; rfl, HS.out⟩
theorem vones_any (w : World) (x : Nat) (hx : x < 2 ^ 64) :
    Calls Try.prog 25 #[.int .u64 (x : Int)] w fun e w' => e = .returned (.int .i64 ((pc64 x : Nat) : Int)) ∧ Below w.heap.size w w' := by
  have hpc := oc_pc x hx
  have l1 := oc1_lt x
  generalize e1 : oc1 x 6148914691236517205 = x1 at l1 hpc
  have l2 := oc2_lt x1
  generalize e2 : oc2 x1 3689348814741910323 = x2 at l2 hpc
  have l3 := oc3_lt x2
  generalize e3 : oc3 x2 1085102592571150095 = x3 at l3 hpc
  generalize e4 : oc4 x3 = x4 at hpc
  generalize e5 : oc5 x4 = x5 at hpc
  generalize e6 : oc6 x5 = x6 at hpc
  unfold oc1 at e1
  unfold oc2 at e2
  unfold oc3 at e3
  unfold oc4 at e4
  unfold oc5 at e5
  unfold oc6 at e6
  go_enter Try.func25, Try.ntmps25
  go_upto_region 0 with fail
  refine wp_region_list ?_
  refine readL (.int .i64 0) rfl (by kernel_rfl) ?_
  simp only [aP, lI, l0, lS]
  first | show Exit.then _ _ _ _ _ | show Exit.inBlock _ _ _ _ _
  go_upto_region 1 with fail
  refine wp_region_list ?_
  refine readL (.int .u64 (x : Int)) rfl (by kernel_rfl) ?_
  simp only [aP, lI, l0, lS]
  refine readL (.int .u64 ((x / 2 : Nat) : Int)) rfl (shrI .u64 .u64 _ _ _ _ _ _ _ rfl rfl rfl (by decide) (shr64 x 1 (by decide)) _) ?_
  simp only [aP, lI, l0, lS]
  refine readL (.int .u64 ((x / 2 &&& 6148914691236517205 : Nat) : Int)) rfl (vandI .u64 _ _ _ _ _ _ _ rfl rfl rfl (and64 _ 6148914691236517205 (by omega) (by decide)) _) ?_
  simp only [aP, lI, l0, lS]
  refine readL (.int .u64 (x : Int)) rfl (by kernel_rfl) ?_
  simp only [aP, lI, l0, lS]
  refine readL (.int .u64 ((x &&& 6148914691236517205 : Nat) : Int)) rfl (vandI .u64 _ _ _ _ _ _ _ rfl rfl rfl (and64 _ 6148914691236517205 (hx) (by decide)) _) ?_
  simp only [aP, lI, l0, lS]
  refine readL (.int .u64 ((x1 : Nat) : Int)) rfl (addI .u64 _ _ _ _ _ _ _ rfl rfl rfl (by rw [IntKind.wrap_u64]; omega) _) ?_
  simp only [aP, lI, l0, lS]
  refine readL (.int .u64 ((x1 : Nat) : Int)) rfl (by kernel_rfl) ?_
  simp only [aP, lI, l0]
  first | show Exit.then _ _ _ _ _ | show Exit.inBlock _ _ _ _ _
  go_upto_region 2 with fail
  refine wp_region_list ?_
  refine readL (.int .u64 ((x1 : Nat) : Int)) rfl (by kernel_rfl) ?_
  simp only [aP, lI, l0, lS]
  refine readL (.int .u64 ((x1 / 4 : Nat) : Int)) rfl (shrI .u64 .u64 _ _ _ _ _ _ _ rfl rfl rfl (by decide) (shr64 x1 2 (by decide)) _) ?_
  simp only [aP, lI, l0, lS]
  refine readL (.int .u64 ((x1 / 4 &&& 3689348814741910323 : Nat) : Int)) rfl (vandI .u64 _ _ _ _ _ _ _ rfl rfl rfl (and64 _ 3689348814741910323 (by omega) (by decide)) _) ?_
  simp only [aP, lI, l0, lS]
  refine readL (.int .u64 ((x1 : Nat) : Int)) rfl (by kernel_rfl) ?_
  simp only [aP, lI, l0, lS]
  refine readL (.int .u64 ((x1 &&& 3689348814741910323 : Nat) : Int)) rfl (vandI .u64 _ _ _ _ _ _ _ rfl rfl rfl (and64 _ 3689348814741910323 (l1) (by decide)) _) ?_
  simp only [aP, lI, l0, lS]
  refine readL (.int .u64 ((x2 : Nat) : Int)) rfl (addI .u64 _ _ _ _ _ _ _ rfl rfl rfl (by rw [IntKind.wrap_u64]; omega) _) ?_
  simp only [aP, lI, l0, lS]
  refine readL (.int .u64 ((x2 : Nat) : Int)) rfl (by kernel_rfl) ?_
  simp only [aP, lI, l0]
  first | show Exit.then _ _ _ _ _ | show Exit.inBlock _ _ _ _ _
  go_upto_region 3 with fail
  refine wp_region_list ?_
  refine readL (.int .u64 ((x2 : Nat) : Int)) rfl (by kernel_rfl) ?_
  simp only [aP, lI, l0, lS]
  refine readL (.int .u64 ((x2 / 16 : Nat) : Int)) rfl (shrI .u64 .u64 _ _ _ _ _ _ _ rfl rfl rfl (by decide) (shr64 x2 4 (by decide)) _) ?_
  simp only [aP, lI, l0, lS]
  refine readL (.int .u64 ((x2 : Nat) : Int)) rfl (by kernel_rfl) ?_
  simp only [aP, lI, l0, lS]
  refine readL (.int .u64 ((x2 / 16 + x2 : Nat) : Int)) rfl (addI .u64 _ _ _ _ _ _ _ rfl rfl rfl (by rw [IntKind.wrap_u64]; omega) _) ?_
  simp only [aP, lI, l0, lS]
  refine readL (.int .u64 ((x3 : Nat) : Int)) rfl (vandI .u64 _ _ _ _ _ _ _ rfl rfl rfl (by rw [← e3]; exact and64 _ 1085102592571150095 (by omega) (by decide)) _) ?_
  simp only [aP, lI, l0, lS]
  refine readL (.int .u64 ((x3 : Nat) : Int)) rfl (by kernel_rfl) ?_
  simp only [aP, lI, l0]
  first | show Exit.then _ _ _ _ _ | show Exit.inBlock _ _ _ _ _
  go_upto_region 4 with fail
  refine wp_region_list ?_
  refine readL (.int .u64 ((x3 : Nat) : Int)) rfl (by kernel_rfl) ?_
  simp only [aP, lI, l0, lS]
  refine readL (.int .u64 ((x3 : Nat) : Int)) rfl (by kernel_rfl) ?_
  simp only [aP, lI, l0, lS]
  refine readL (.int .u64 ((x3 / 256 : Nat) : Int)) rfl (shrI .u64 .u64 _ _ _ _ _ _ _ rfl rfl rfl (by decide) (shr64 x3 8 (by decide)) _) ?_
  simp only [aP, lI, l0, lS]
  refine readL (.int .u64 ((x4 : Nat) : Int)) rfl (addI .u64 _ _ _ _ _ _ _ rfl rfl rfl (by rw [IntKind.wrap_u64]; omega) _) ?_
  simp only [aP, lI, l0, lS]
  refine readL (.int .u64 ((x4 : Nat) : Int)) rfl (by kernel_rfl) ?_
  simp only [aP, lI, l0]
  first | show Exit.then _ _ _ _ _ | show Exit.inBlock _ _ _ _ _
  go_upto_region 5 with fail
  refine wp_region_list ?_
  refine readL (.int .u64 ((x4 : Nat) : Int)) rfl (by kernel_rfl) ?_
  simp only [aP, lI, l0, lS]
  refine readL (.int .u64 ((x4 : Nat) : Int)) rfl (by kernel_rfl) ?_
  simp only [aP, lI, l0, lS]
  refine readL (.int .u64 ((x4 / 65536 : Nat) : Int)) rfl (shrI .u64 .u64 _ _ _ _ _ _ _ rfl rfl rfl (by decide) (shr64 x4 16 (by decide)) _) ?_
  simp only [aP, lI, l0, lS]
  refine readL (.int .u64 ((x5 : Nat) : Int)) rfl (addI .u64 _ _ _ _ _ _ _ rfl rfl rfl (by rw [IntKind.wrap_u64]; omega) _) ?_
  simp only [aP, lI, l0, lS]
  refine readL (.int .u64 ((x5 : Nat) : Int)) rfl (by kernel_rfl) ?_
  simp only [aP, lI, l0]
  first | show Exit.then _ _ _ _ _ | show Exit.inBlock _ _ _ _ _
  go_upto_region 6 with fail
  refine wp_region_list ?_
  refine readL (.int .u64 ((x5 : Nat) : Int)) rfl (by kernel_rfl) ?_
  simp only [aP, lI, l0, lS]
  refine readL (.int .u64 ((x5 : Nat) : Int)) rfl (by kernel_rfl) ?_
  simp only [aP, lI, l0, lS]
  refine readL (.int .u64 ((x5 / 4294967296 : Nat) : Int)) rfl (shrI .u64 .u64 _ _ _ _ _ _ _ rfl rfl rfl (by decide) (shr64 x5 32 (by decide)) _) ?_
  simp only [aP, lI, l0, lS]
  refine readL (.int .u64 ((x6 : Nat) : Int)) rfl (addI .u64 _ _ _ _ _ _ _ rfl rfl rfl (by rw [IntKind.wrap_u64]; omega) _) ?_
  simp only [aP, lI, l0, lS]
  refine readL (.int .u64 ((x6 : Nat) : Int)) rfl (by kernel_rfl) ?_
  simp only [aP, lI, l0]
  first | show Exit.then _ _ _ _ _ | show Exit.inBlock _ _ _ _ _
  go_upto_region 7 with fail
  refine wp_region_list ?_
  refine readL (.int .u64 ((x6 : Nat) : Int)) rfl (by kernel_rfl) ?_
  simp only [aP, lI, l0, lS]
  refine readL (.int .i64 ((x6 : Nat) : Int)) rfl (convI .u64 .i64 _ _ _ _ _ rfl (by kernel_rfl) Try.underlying3 (by kernel_rfl) rfl (by rw [IntKind.wrap_i64]; omega) _) ?_
  simp only [aP, lI, l0, lS]
  refine readL (.int .i64 ((x6 % 128 : Nat) : Int)) rfl (vandI .i64 _ _ _ _ _ _ _ rfl rfl rfl (and_i64 x6 (by omega)) _) ?_
  simp only [aP, lI, l0, lS]
  refine readL (.int .i64 ((x6 % 128 : Nat) : Int)) rfl (by kernel_rfl) ?_
  simp only [aP, lI, l0, lS]
  first | show Exit.then _ _ _ _ _ | show Exit.inBlock _ _ _ _ _
  rw [hpc]
  go_wp2
  go_ret
  exact ⟨rfl, Below.refl _ _⟩
theorem idxA16 {o : Oper} {a : Act} (f : Nat → Int) (j : Nat) (hj : j < 16) (x y : Operand) (ho : o.op = .index 43 x y) (hx : a.eval x = .agg (row .u64 16 f).toArray) (hy : a.eval y = .int .i64 (j : Int)) (w : World) :
    (execOp a.eval o).run Try.prog w = .ok (.value (.int .u64 (f j))) w := by
  have hs : ∀ w, (sizeOf 42).run Try.prog w = .ok 1 w := fun w => by kernel_rfl
  have ha : ∀ w, (isAgg 42).run Try.prog w = .ok false w := fun w => by kernel_rfl
  have hg := row_get .u64 16 f j hj
  have e1 : (Instr.index 43 (.agg (row .u64 16 f).toArray) (.int .i64 (j : Int))).run Try.prog w = .ok (.int .u64 (f j)) w := by
    simp [Instr.index, run_underlying Try.underlying43, asIntOf, hs, ha, part, hg, hj, go_sem]
  unfold execOp
  simp only [ho, hx, hy, Sem.run_bind, e1, Result.andThen_ok, Sem.run_pure]
theorem vcount_any (w0 w : World) (R : Nat) (l : List (Nat × List Value)) (L : List Int) (W : Nat → Nat) (hL : WinL L) (hW : Wds W L) (M : Mm w0 ((R, wcv (wtop L) W) :: l) w) :
    Calls Try.prog 17 #[.pointer (some ⟨R, 0, none⟩)] w fun e w' => e = .returned (.int .i64 ((wcnt L : Nat) : Int)) ∧ Below w.heap.size w w' := by
  have hB := Below.refl w.heap.size w
  go_enter Try.func17, Try.ntmps17
  have hcl := fct_le (wsee L)
  go_upto_region 0 with fail
  refine wp_region_list ?_
  refine readL (.int .i64 0) rfl (by kernel_rfl) ?_
  simp only [aP, lI, l0, lS]
  first | show Exit.then _ _ _ _ _ | show Exit.inBlock _ _ _ _ _
  go_upto_region 1 with fail
  refine wp_region_list ?_
  refine readL (.int .i64 0) rfl (by kernel_rfl) ?_
  simp only [aP, lI, l0, lS]
  first | show Exit.then _ _ _ _ _ | show Exit.inBlock _ _ _ _ _
  go_upto_region 2 with fail
  refine wp_region_list ?_
  refine readL (.pointer (some ⟨R, 0, none⟩)) rfl (by kernel_rfl) ?_
  simp only [aP, lI, l0, lS]
  refine readL (.pointer (some ⟨R, 0, none⟩)) rfl (by kernel_rfl) ?_
  simp only [aP, lI, l0, lS]
  refine readL (.pointer (some ⟨R, 1, none⟩)) rfl (by kernel_rfl) ?_
  simp only [aP, lI, l0, lS]
  refine readL (.agg (row .u64 16 (fun i => (W i : Int))).toArray) rfl (loadN 43 _ ⟨R, 1, none⟩ (row .u64 16 (fun i => (W i : Int))) rfl rfl (fun _ => by kernel_rfl) (fun _ => by rw [row_length]; kernel_rfl) (M.part mS 1 _ (wcv_arr (wtop L) W))) ?_
  simp only [aP, lI, l0, lS]
  refine readL (.int .i64 0) rfl (by kernel_rfl) ?_
  simp only [aP, lI, l0, lS]
  first | show Exit.then _ _ _ _ _ | show Exit.inBlock _ _ _ _ _
  have HI := show Hid _ from (And.intro M hB)
  clear M hB
  go_wp2
  go_loopw [3, 10] (fun s i w' => ∃ j : Nat, j ≤ 16 ∧ s = .int .i64 ((fct (wsee L) (64 * j) : Nat) : Int) ∧ i = .int .i64 (j : Int) ∧ Mm w0 ((R, wcv (wtop L) W) :: l) w' ∧ Below w.heap.size w w') (fun _ i _ => 16 - (intOf i).toNat)
  case atStart => exact ⟨0, Nat.zero_le _, rfl, rfl, HI.out⟩
  case round =>
    clear HI
    obtain ⟨j, hj, rfl, rfl, M, hB⟩ := hrel
    by_cases hlt : j < 16
    · have hc1 := hcl (64 * j)
      have hc2 := fct_le (W j).testBit 64
      have hs := Bts.sum hW j hlt
      have hc3 : pc64 (W j) ≤ 64 := hc2
      go_upto_region 3 with fail
      refine wp_region_list ?_
      refine readL (.bool true) rfl (lssI .i64 _ _ _ _ _ _ rfl rfl rfl true (decide_eq_true (by omega)) _) ?_
      simp only [aP, lI, l0, lS]
      first | show Exit.then _ _ _ _ _ | show Exit.inBlock _ _ _ _ _
      go_upto_region 4 with fail
      refine wp_region_list ?_
      refine readL (.int .u64 ((W j : Nat) : Int)) rfl (idxA16 (fun i => (W i : Int)) j hlt _ _ rfl rfl rfl _) ?_
      simp only [aP, lI, l0, lS]
      refine readL (.int .u64 ((W j : Nat) : Int)) rfl (by kernel_rfl) ?_
      simp only [aP, lI, l0, lS]
      first | show Exit.then _ _ _ _ _ | show Exit.inBlock _ _ _ _ _
      go_upto_region 5 with fail
      refine wp_region_list ?_
      refine readL (.int .i64 ((fct (wsee L) (64 * j) : Nat) : Int)) rfl (by kernel_rfl) ?_
      simp only [aP, lI, l0, lS]
      refine readL (.int .u64 ((W j : Nat) : Int)) rfl (by kernel_rfl) ?_
      simp only [aP, lI, l0, lS]
      refine callL rfl (fun _ => by kernel_rfl) (vones_any _ (W j) (hW.lt j hlt)) ?_
      rintro e w1 ⟨rfl, l1⟩
      replace M := M.call l1
      replace hB := hB.trans (l1.mono hB.size)
      clear l1
      refine ⟨_, rfl, ?_⟩
      simp only [aP, lI, l0, lS]
      refine readL (.int .i64 ((fct (wsee L) (64 * (j + 1)) : Nat) : Int)) rfl (addI .i64 _ _ _ _ _ _ _ rfl rfl rfl (by rw [IntKind.wrap_i64]; omega) _) ?_
      simp only [aP, lI, l0, lS]
      refine readL (.int .i64 ((fct (wsee L) (64 * (j + 1)) : Nat) : Int)) rfl (by kernel_rfl) ?_
      simp only [aP, lI, l0, lS]
      first | show Exit.then _ _ _ _ _ | show Exit.inBlock _ _ _ _ _
      have HS := show Hid _ from (And.intro M hB)
      clear M hB hW hL hs
      go_wp2
      go_roundw
      case rel => exact ⟨j + 1, by omega, rfl, by go_num, HS.out⟩
      case measure => simp [intOf]; omega
    · obtain rfl : j = 16 := by omega
      rw [show 64 * 16 = 1024 from rfl, fct_cnt hL]
      go_upto_region 3 with fail
      refine wp_region_list ?_
      refine readL (.bool false) rfl (lssI .i64 _ _ _ _ _ _ rfl rfl rfl false (decide_eq_false (by omega)) _) ?_
      simp only [aP, lI, l0, lS]
      first | show Exit.then _ _ _ _ _ | show Exit.inBlock _ _ _ _ _
      go_upto_region 7 with fail
      refine wp_region_list ?_
      refine readL (.int .i64 ((wcnt L : Nat) : Int)) rfl (by kernel_rfl) ?_
      simp only [aP, lI, l0, lS]
      refine readL (.int .i64 ((wcnt L : Nat) : Int)) rfl (by kernel_rfl) ?_
      simp only [aP, lI, l0, lS]
      first | show Exit.then _ _ _ _ _ | show Exit.inBlock _ _ _ _ _
      have HS := show Hid _ from hB
      clear M hB hW hL
      go_wp2
      go_ret
      exact ⟨rfl, HS.out⟩
def VI (v : Value) (L : List Int) (bs : List (Nat × List Value)) : Prop := ∃ R W, v = .pointer (some ⟨R, 0, none⟩) ∧ Wds W L ∧ bs = [(R, wcv (wtop L) W)]
theorem vnew14_any (w0 w : World) (l : List (Nat × List Value)) (M : Mm w0 l w) :
    Calls Try.prog 8 #[] w fun e w' => ∃ v bs, e = .returned v ∧ VI v [] bs ∧ Mm w0 (bs ++ l) w' ∧ Below w.heap.size w w' := by
  have hB := Below.refl w.heap.size w
  go_enter Try.func8, Try.ntmps8
  go_upto_region 0 with fail
  refine wp_region_list ?_
  refine readL (.pointer none) rfl (by kernel_rfl) ?_
  simp only [aP, lI, l0]
  first | show Exit.then _ _ _ _ _ | show Exit.inBlock _ _ _ _ _
  go_upto_region 1 with fail
  refine wp_region_list ?_
  refine readL (.agg (wcv (-1) (fun _ => 0)).toArray) rfl (by kernel_rfl) ?_
  simp only [aP, lI, l0, lS]
  have hlb := (Below.refl w.heap.size w).alloc (Nat.le_refl _) (.cells (wcv (-1) (fun _ => 0)).toArray 45)
  refine actL (w' := w.alloc (.cells (wcv (-1) (fun _ => 0)).toArray 45)) (.pointer (some ⟨w.heap.size, 0, none⟩)) rfl (by kernel_rfl) ?_
  simp only [aP, lI, l0, lS]
  replace hB := hB.trans (hlb.mono hB.size)
  replace M := M.box (wcv (-1) (fun _ => 0)).toArray 45 w.heap.size rfl
  clear hlb
  generalize w.alloc (.cells (wcv (-1) (fun _ => 0)).toArray 45) = w1 at M hB ⊢
  generalize eB : w.heap.size = B at M ⊢
  have hBz : w.heap.size ≤ B := by rw [← eB]; exact Nat.le_refl _
  clear eB
  replace M : Mm w0 ((B, wcv (-1) (fun _ => 0)) :: l) w1 := M
  refine readL (.pointer (some ⟨B, 0, none⟩)) rfl (by kernel_rfl) ?_
  simp only [aP, lI, l0]
  first | show Exit.then _ _ _ _ _ | show Exit.inBlock _ _ _ _ _
  have HS := show Hid _ from (And.intro M hB)
  clear M hB
  go_wp2
  go_ret
  exact ⟨_, _, rfl, ⟨B, fun _ => 0, rfl, Bts.nil, rfl⟩, HS.out.1, HS.out.2⟩
end
def fset (V : Nat → Nat) (j v i : Nat) : Nat := if i = j then v else V i
theorem fset_same (V : Nat → Nat) (j v : Nat) : fset V j v j = v := if_pos rfl
theorem row_fset (n : Nat) (V : Nat → Nat) (j v : Nat) : (row .u64 n (fun i => (V i : Int))).set (0 + j) (.int .u64 ((v : Nat) : Int)) = row .u64 n (fun i => (fset V j v i : Int)) := by
  rw [Nat.zero_add, row_put, row_nat]
  rfl
theorem row_at (n : Nat) (V : Nat → Nat) (j v : Nat) (hj : j < n) (hv : V j = v) : (row .u64 n (fun i => (V i : Int)))[0 + j]? = some (.int .u64 ((v : Nat) : Int)) := by
  rw [Nat.zero_add, row_get .u64 n _ j hj, hv]
def mvd (W : Nat → Nat) (d j i : Nat) : Nat := if i < j then wst W d i else 0
theorem mvd_next (W : Nat → Nat) (d j : Nat) (V : Nat → Nat) (hV : ∀ i, i < 16 → V i = if i = j then wst W d j else mvd W d j i) : ∀ i, i < 16 → (V i : Int) = ((mvd W d (j + 1) i : Nat) : Int) := fun i hi => by
  rw [hV i hi]
  unfold mvd
  by_cases e : i = j
  · subst e
    rw [if_pos rfl, if_pos (by omega)]
  · rw [if_neg e]
    by_cases h : i < j
    · rw [if_pos h, if_pos (by omega)]
    · rw [if_neg h, if_neg (by omega)]
theorem mvd_fset (W : Nat → Nat) (d j v : Nat) : ∀ i, i < 16 → fset (fset (mvd W d j) j v) j (wst W d j) i = if i = j then wst W d j else mvd W d j i := fun i _ => by
  unfold fset
  split <;> rfl
theorem mvd_end (W : Nat → Nat) (d : Nat) : ∀ i, i < 16 → mvd W d 16 i = wst W d i := fun i hi => by unfold mvd; rw [if_pos hi]
theorem wst_none (W : Nat → Nat) (d j : Nat) (h : j < d / 64) : wst W d j = 0 := by unfold wst wup wdn; rw [if_neg (by omega), if_neg (by omega)]; rfl
theorem wst_up (W : Nat → Nat) (d j : Nat) (h : j = d / 64) : wst W d j = W (j - d / 64) * 2 ^ (d % 64) % 2 ^ 64 := by
  unfold wst wup wdn
  rw [if_pos (by omega), if_neg (by omega), Nat.or_zero]
theorem wst_both (W : Nat → Nat) (d j : Nat) (h : d / 64 < j) : wst W d j = W (j - d / 64) * 2 ^ (d % 64) % 2 ^ 64 ||| W (j - d / 64 - 1) / 2 ^ (64 - d % 64) := by
  unfold wst wup wdn
  rw [if_pos (by omega), if_pos h]
theorem vrise_any (w0 w : World) (R : Nat) (l : List (Nat × List Value)) (T : Int) (W : Nat → Nat) (hT1 : -1 ≤ T) (hT2 : T ≤ 281474976710655) (f : Nat → Bool) (hW : Bts W f) (n : Int) (d : Nat) (hd : n - T = (d : Int)) (hd1 : 1 ≤ d) (hn : n ≤ 281474976710655) (M : Mm w0 ((R, wcv T W) :: l) w) :
    Calls Try.prog 21 #[.pointer (some ⟨R, 0, none⟩), .int .i64 n] w fun e w' => e = .returned (.tuple #[]) ∧ Mm w0 ((R, wcv n (wst W d)) :: l) w' ∧ Off [R] w w' := by
  go_enter Try.func21, Try.ntmps21
  have OF := Off.refl [R] w
  go_upto_region 0 with fail
  refine wp_region_list ?_
  refine readL (.int .i64 n) rfl (by kernel_rfl) ?_
  simp only [aP, lI, l0, lS]
  refine readL (.pointer (some ⟨R, 0, none⟩)) rfl (by kernel_rfl) ?_
  simp only [aP, lI, l0, lS]
  refine callL rfl (fun _ => by kernel_rfl) (vtop14_any w0 _ R _ T W hT1 hT2 M) ?_
  rintro e w1 ⟨rfl, l1⟩
  replace M := M.call l1
  replace OF := OF.below l1
  clear l1
  refine ⟨_, rfl, ?_⟩
  simp only [aP, lI, l0, lS]
  refine readL (.int .i64 ((d : Nat) : Int)) rfl (subI .i64 _ _ _ _ _ _ _ rfl rfl rfl (by rw [hd, IntKind.wrap_i64]; omega) _) ?_
  simp only [aP, lI, l0, lS]
  refine readL (.int .i64 ((d / 64 : Nat) : Int)) rfl (quoI .i64 _ _ _ _ _ _ _ rfl rfl rfl (by decide) (quo64 d (by omega)) _) ?_
  simp only [aP, lI, l0, lS]
  refine readL (.int .i64 n) rfl (by kernel_rfl) ?_
  simp only [aP, lI, l0, lS]
  refine readL (.pointer (some ⟨R, 0, none⟩)) rfl (by kernel_rfl) ?_
  simp only [aP, lI, l0, lS]
  refine callL rfl (fun _ => by kernel_rfl) (vtop14_any w0 _ R _ T W hT1 hT2 M) ?_
  rintro e w2 ⟨rfl, l1⟩
  replace M := M.call l1
  replace OF := OF.below l1
  clear l1
  refine ⟨_, rfl, ?_⟩
  simp only [aP, lI, l0, lS]
  refine readL (.int .i64 ((d : Nat) : Int)) rfl (subI .i64 _ _ _ _ _ _ _ rfl rfl rfl (by rw [hd, IntKind.wrap_i64]; omega) _) ?_
  simp only [aP, lI, l0, lS]
  refine readL (.int .i64 ((d % 64 : Nat) : Int)) rfl (remI .i64 _ _ _ _ _ _ _ rfl rfl rfl (by decide) (rem64 d) _) ?_
  simp only [aP, lI, l0, lS]
  refine readL (.int .i64 ((d / 64 : Nat) : Int)) rfl (by kernel_rfl) ?_
  simp only [aP, lI, l0, lS]
  refine readL (.int .i64 ((d % 64 : Nat) : Int)) rfl (by kernel_rfl) ?_
  simp only [aP, lI, l0, lS]
  first | show Exit.then _ _ _ _ _ | show Exit.inBlock _ _ _ _ _
  go_upto_region 1 with fail
  refine wp_region_list ?_
  have hlb := (Below.refl w2.heap.size w2).alloc (Nat.le_refl _) (.cells zu64_16 43)
  refine actL (w' := w2.alloc (.cells zu64_16 43)) (.pointer (some ⟨w2.heap.size, 0, none⟩)) rfl (by kernel_rfl) ?_
  simp only [aP, lI, l0, lS]
  have hBz0 := OF.size
  replace OF := OF.below hlb
  replace M := M.box zu64_16 43 w2.heap.size rfl
  clear hlb
  generalize w2.alloc (.cells zu64_16 43) = w3 at M OF ⊢
  generalize eB : w2.heap.size = B at M hBz0 ⊢
  have hBz : w.heap.size ≤ B := hBz0
  clear eB hBz0
  replace M : Mm w0 ((B, row .u64 16 (fun i => ((mvd W d 0 i : Nat) : Int))) :: (R, wcv T W) :: l) w3 := M
  first | show Exit.then _ _ _ _ _ | show Exit.inBlock _ _ _ _ _
  go_upto_region 2 with fail
  refine wp_region_list ?_
  refine readL (.int .i64 0) rfl (by kernel_rfl) ?_
  simp only [aP, lI, l0, lS]
  first | show Exit.then _ _ _ _ _ | show Exit.inBlock _ _ _ _ _
  have HI := show Hid _ from (And.intro M OF)
  clear M OF
  go_wp2
  go_loopw [18] (fun i w' => ∃ j : Nat, j ≤ 16 ∧ i = .int .i64 (j : Int) ∧ Mm w0 ((B, row .u64 16 (fun i => ((mvd W d j i : Nat) : Int))) :: (R, wcv T W) :: l) w' ∧ Off [R] w w') (fun i _ => 16 - (intOf i).toNat)
  case atStart => exact ⟨0, Nat.zero_le _, rfl, HI.out⟩
  case round =>
    clear HI
    obtain ⟨j, hj, rfl, M, OF⟩ := hrel
    by_cases hlt : j < 16
    · go_upto_region 3 with fail
      refine wp_region_list ?_
      refine readL (.bool true) rfl (lssI .i64 _ _ _ _ _ _ rfl rfl rfl true (decide_eq_true (by omega)) _) ?_
      simp only [aP, lI, l0, lS]
      first | show Exit.then _ _ _ _ _ | show Exit.inBlock _ _ _ _ _
      go_upto_region 4 with fail
      refine wp_region_list ?_
      refine readL (.int .i64 (j : Int)) rfl (by kernel_rfl) ?_
      simp only [aP, lI, l0, lS]
      refine readL (.int .i64 (j : Int)) rfl (by kernel_rfl) ?_
      simp only [aP, lI, l0, lS]
      first | show Exit.then _ _ _ _ _ | show Exit.inBlock _ _ _ _ _
      by_cases h1 : j < d / 64
      · go_upto_region 5 with fail
        refine wp_region_list ?_
        refine readL (.int .i64 (j : Int)) rfl (by kernel_rfl) ?_
        simp only [aP, lI, l0, lS]
        refine readL (.int .i64 ((d / 64 : Nat) : Int)) rfl (by kernel_rfl) ?_
        simp only [aP, lI, l0, lS]
        refine readL (.bool false) rfl (geqI .i64 _ _ _ _ _ _ rfl rfl rfl false (decide_eq_false (by omega)) _) ?_
        simp only [aP, lI, l0, lS]
        first | show Exit.then _ _ _ _ _ | show Exit.inBlock _ _ _ _ _
        go_upto_region 7 with fail
        refine wp_region_list ?_
        refine readL (.int .i64 (j : Int)) rfl (by kernel_rfl) ?_
        simp only [aP, lI, l0, lS]
        refine readL (.int .i64 ((d / 64 : Nat) : Int)) rfl (by kernel_rfl) ?_
        simp only [aP, lI, l0, lS]
        refine readL (.bool false) rfl (gtrI .i64 _ _ _ _ _ _ rfl rfl rfl false (decide_eq_false (by omega)) _) ?_
        simp only [aP, lI, l0, lS]
        first | show Exit.then _ _ _ _ _ | show Exit.inBlock _ _ _ _ _
        have hrow := row_congr .u64 16 (mvd_next W d j (mvd W d j) (fun i _ => by
          by_cases e : i = j
          · rw [if_pos e, wst_none W d j h1, e]; exact if_neg (by omega)
          · rw [if_neg e]))
        rw [hrow] at M
        have HS := show Hid _ from (And.intro M OF)
        clear M OF hW hrow
        go_wp2
        go_roundw
        case rel => exact ⟨j + 1, by omega, by go_num, HS.out⟩
        case measure => simp [intOf]; omega
      · go_upto_region 5 with fail
        refine wp_region_list ?_
        refine readL (.int .i64 (j : Int)) rfl (by kernel_rfl) ?_
        simp only [aP, lI, l0, lS]
        refine readL (.int .i64 ((d / 64 : Nat) : Int)) rfl (by kernel_rfl) ?_
        simp only [aP, lI, l0, lS]
        refine readL (.bool true) rfl (geqI .i64 _ _ _ _ _ _ rfl rfl rfl true (decide_eq_true (by omega)) _) ?_
        simp only [aP, lI, l0, lS]
        first | show Exit.then _ _ _ _ _ | show Exit.inBlock _ _ _ _ _
        go_upto_region 6 with fail
        refine wp_region_list ?_
        refine readL (.int .i64 (j : Int)) rfl (by kernel_rfl) ?_
        simp only [aP, lI, l0, lS]
        refine readL (.pointer (some ⟨R, 0, none⟩)) rfl (by kernel_rfl) ?_
        simp only [aP, lI, l0, lS]
        refine readL (.int .i64 (j : Int)) rfl (by kernel_rfl) ?_
        simp only [aP, lI, l0, lS]
        refine readL (.int .i64 ((d / 64 : Nat) : Int)) rfl (by kernel_rfl) ?_
        simp only [aP, lI, l0, lS]
        refine readL (.int .i64 ((j - d / 64 : Nat) : Int)) rfl (subI .i64 _ _ _ _ _ _ _ rfl rfl rfl (by rw [IntKind.wrap_i64]; omega) _) ?_
        simp only [aP, lI, l0, lS]
        refine readL (.pointer (some ⟨R, 0, none⟩)) rfl (by kernel_rfl) ?_
        simp only [aP, lI, l0, lS]
        refine readL (.pointer (some ⟨R, 1, none⟩)) rfl (by kernel_rfl) ?_
        simp only [aP, lI, l0, lS]
        refine readL (.pointer (some ⟨R, 1 + (j - d / 64), none⟩)) rfl (idxArr 43 42 16 .i64 R 1 (j - d / 64) _ _ Try.underlying43 (fun _ => by kernel_rfl) (by omega) rfl rfl rfl _) ?_
        simp only [aP, lI, l0, lS]
        refine readL (.int .u64 ((W (j - d / 64) : Nat) : Int)) rfl (load1 42 _ ⟨R, 1 + (j - d / 64), none⟩ _ rfl rfl (fun _ => by kernel_rfl) (M.get (mT _ mS) _ _ (wcv_get T W (j - d / 64) (by omega)))) ?_
        simp only [aP, lI, l0, lS]
        refine readL (.int .i64 ((d % 64 : Nat) : Int)) rfl (by kernel_rfl) ?_
        simp only [aP, lI, l0, lS]
        refine readL (.int .u64 ((W (j - d / 64) * 2 ^ (d % 64) % 2 ^ 64 : Nat) : Int)) rfl (shlI .u64 .i64 _ _ _ _ _ _ _ rfl rfl rfl (by omega) (shl64 _ _ (by omega)) _) ?_
        simp only [aP, lI, l0, lS]
        refine readL (.pointer (some ⟨B, 0 + j, none⟩)) rfl (idxArr 43 42 16 .i64 B 0 j _ _ Try.underlying43 (fun _ => by kernel_rfl) (by omega) rfl rfl rfl _) ?_
        simp only [aP, lI, l0, lS]
        refine skipOpL rfl (storeAny (.int .u64 ((W (j - d / 64) * 2 ^ (d % 64) % 2 ^ 64 : Nat) : Int)) B (0 + j) 42 _ _ rfl rfl rfl rfl rfl (M.isSome mS _ (by rw [row_length]; omega)) (M.free mS _ (by rw [row_length]; omega)) (by kernel_rfl)) ?_
        simp only [Act.put]
        replace M := M.set (0 + j) (by rw [row_length]; omega) (.int .u64 ((W (j - d / 64) * 2 ^ (d % 64) % 2 ^ 64 : Nat) : Int))
        rw [row_fset] at M
        replace OF := OF.and1 ((Off.refl [B] _).set (b := B) mS (0 + j) (.int .u64 ((W (j - d / 64) * 2 ^ (d % 64) % 2 ^ 64 : Nat) : Int))) (.inr (by omega))
        generalize wr.setCell ⟨B, 0 + j, none⟩ (.int .u64 ((W (j - d / 64) * 2 ^ (d % 64) % 2 ^ 64 : Nat) : Int)) = w4 at M OF ⊢
        first | show Exit.then _ _ _ _ _ | show Exit.inBlock _ _ _ _ _
        by_cases h2 : d / 64 < j
        · go_upto_region 7 with fail
          refine wp_region_list ?_
          refine readL (.int .i64 (j : Int)) rfl (by kernel_rfl) ?_
          simp only [aP, lI, l0, lS]
          refine readL (.int .i64 ((d / 64 : Nat) : Int)) rfl (by kernel_rfl) ?_
          simp only [aP, lI, l0, lS]
          refine readL (.bool true) rfl (gtrI .i64 _ _ _ _ _ _ rfl rfl rfl true (decide_eq_true (by omega)) _) ?_
          simp only [aP, lI, l0, lS]
          first | show Exit.then _ _ _ _ _ | show Exit.inBlock _ _ _ _ _
          go_upto_region 8 with fail
          refine wp_region_C (S := fun w' => Mm w0 ((B, row .u64 16 (fun i => ((fset (mvd W d j) j (W (j - d / 64) * 2 ^ (d % 64) % 2 ^ 64) i : Nat) : Int))) :: (R, wcv T W) :: l) w') 17 (by kernel_rfl) M.drew ?_
          clear M
          intro M
          have hdr := (Below.refl w4.heap.size w4).drew
          replace OF := OF.below hdr
          clear hdr
          generalize w4.drew = w5 at M OF ⊢
          refine readC (i := 0) (some 39) rfl (.int .i64 (j : Int)) rfl rfl (by kernel_rfl) rfl (fun _ M => (by kernel_rfl)) (by kernel_rfl) (by kernel_rfl) (by kernel_rfl) (by kernel_rfl) (fun _ _ _ h => h) M ?_
          simp only [aP, lI, l0, lS]
          refine readC (i := 1) (some 40) rfl (.pointer (some ⟨B, 0 + j, none⟩)) rfl rfl (by kernel_rfl) rfl (fun _ M => idxArr 43 42 16 .i64 B 0 j _ _ Try.underlying43 (fun _ => by kernel_rfl) (by omega) rfl rfl rfl _) (by kernel_rfl) (by kernel_rfl) (by kernel_rfl) (by kernel_rfl) (fun _ _ _ h => h) M ?_
          simp only [aP, lI, l0, lS]
          refine readC (i := 2) (some 41) rfl (.int .u64 ((W (j - d / 64) * 2 ^ (d % 64) % 2 ^ 64 : Nat) : Int)) rfl rfl (by kernel_rfl) rfl (fun _ M => load1 42 _ ⟨B, 0 + j, none⟩ _ rfl rfl (fun _ => by kernel_rfl) (M.get mS _ _ (row_at 16 _ j (W (j - d / 64) * 2 ^ (d % 64) % 2 ^ 64) hlt (fset_same _ _ _)))) (by kernel_rfl) (by kernel_rfl) (by kernel_rfl) (by kernel_rfl) (fun _ _ _ h => h) M ?_
          simp only [aP, lI, l0, lS]
          refine readC (i := 3) (some 42) rfl (.pointer (some ⟨R, 0, none⟩)) rfl rfl (by kernel_rfl) rfl (fun _ M => (by kernel_rfl)) (by kernel_rfl) (by kernel_rfl) (by kernel_rfl) (by kernel_rfl) (fun _ _ _ h => h) M ?_
          simp only [aP, lI, l0, lS]
          refine readC (i := 4) (some 43) rfl (.int .i64 (j : Int)) rfl rfl (by kernel_rfl) rfl (fun _ M => (by kernel_rfl)) (by kernel_rfl) (by kernel_rfl) (by kernel_rfl) (by kernel_rfl) (fun _ _ _ h => h) M ?_
          simp only [aP, lI, l0, lS]
          refine readC (i := 5) (some 44) rfl (.int .i64 ((d / 64 : Nat) : Int)) rfl rfl (by kernel_rfl) rfl (fun _ M => (by kernel_rfl)) (by kernel_rfl) (by kernel_rfl) (by kernel_rfl) (by kernel_rfl) (fun _ _ _ h => h) M ?_
          simp only [aP, lI, l0, lS]
          refine readC (i := 6) (some 45) rfl (.int .i64 ((j - d / 64 : Nat) : Int)) rfl rfl (by kernel_rfl) rfl (fun _ M => subI .i64 _ _ _ _ _ _ _ rfl rfl rfl (by rw [IntKind.wrap_i64]; omega) _) (by kernel_rfl) (by kernel_rfl) (by kernel_rfl) (by kernel_rfl) (fun _ _ _ h => h) M ?_
          simp only [aP, lI, l0, lS]
          refine readC (i := 7) (some 46) rfl (.int .i64 ((j - d / 64 - 1 : Nat) : Int)) rfl rfl (by kernel_rfl) rfl (fun _ M => subI .i64 _ _ _ _ _ _ _ rfl rfl rfl (by rw [IntKind.wrap_i64]; omega) _) (by kernel_rfl) (by kernel_rfl) (by kernel_rfl) (by kernel_rfl) (fun _ _ _ h => h) M ?_
          simp only [aP, lI, l0, lS]
          refine readC (i := 8) (some 47) rfl (.pointer (some ⟨R, 0, none⟩)) rfl rfl (by kernel_rfl) rfl (fun _ M => (by kernel_rfl)) (by kernel_rfl) (by kernel_rfl) (by kernel_rfl) (by kernel_rfl) (fun _ _ _ h => h) M ?_
          simp only [aP, lI, l0, lS]
          refine readC (i := 9) (some 48) rfl (.pointer (some ⟨R, 1, none⟩)) rfl rfl (by kernel_rfl) rfl (fun _ M => (by kernel_rfl)) (by kernel_rfl) (by kernel_rfl) (by kernel_rfl) (by kernel_rfl) (fun _ _ _ h => h) M ?_
          simp only [aP, lI, l0, lS]
          refine readC (i := 10) (some 49) rfl (.pointer (some ⟨R, 1 + (j - d / 64 - 1), none⟩)) rfl rfl (by kernel_rfl) rfl (fun _ M => idxArr 43 42 16 .i64 R 1 (j - d / 64 - 1) _ _ Try.underlying43 (fun _ => by kernel_rfl) (by omega) rfl rfl rfl _) (by kernel_rfl) (by kernel_rfl) (by kernel_rfl) (by kernel_rfl) (fun _ _ _ h => h) M ?_
          simp only [aP, lI, l0, lS]
          refine readC (i := 11) (some 50) rfl (.int .u64 ((W (j - d / 64 - 1) : Nat) : Int)) rfl rfl (by kernel_rfl) rfl (fun _ M => load1 42 _ ⟨R, 1 + (j - d / 64 - 1), none⟩ _ rfl rfl (fun _ => by kernel_rfl) (M.get (mT _ mS) _ _ (wcv_get T W (j - d / 64 - 1) (by omega)))) (by kernel_rfl) (by kernel_rfl) (by kernel_rfl) (by kernel_rfl) (fun _ _ _ h => h) M ?_
          simp only [aP, lI, l0, lS]
          refine readC (i := 12) (some 51) rfl (.int .i64 ((d % 64 : Nat) : Int)) rfl rfl (by kernel_rfl) rfl (fun _ M => (by kernel_rfl)) (by kernel_rfl) (by kernel_rfl) (by kernel_rfl) (by kernel_rfl) (fun _ _ _ h => h) M ?_
          simp only [aP, lI, l0, lS]
          refine readC (i := 13) (some 52) rfl (.int .i64 ((64 - d % 64 : Nat) : Int)) rfl rfl (by kernel_rfl) rfl (fun _ M => subI .i64 _ _ _ _ _ _ _ rfl rfl rfl (by rw [IntKind.wrap_i64]; omega) _) (by kernel_rfl) (by kernel_rfl) (by kernel_rfl) (by kernel_rfl) (fun _ _ _ h => h) M ?_
          simp only [aP, lI, l0, lS]
          refine readC (i := 14) (some 53) rfl (.int .u64 ((W (j - d / 64 - 1) / 2 ^ (64 - d % 64) : Nat) : Int)) rfl rfl (by kernel_rfl) rfl (fun _ M => shrI .u64 .i64 _ _ _ _ _ _ _ rfl rfl rfl (by omega) (shr64 _ _ (by omega)) _) (by kernel_rfl) (by kernel_rfl) (by kernel_rfl) (by kernel_rfl) (fun _ _ _ h => h) M ?_
          simp only [aP, lI, l0, lS]
          refine readC (i := 15) (some 54) rfl (.int .u64 ((wst W d j : Nat) : Int)) rfl rfl (by kernel_rfl) rfl (fun _ M => vorI .u64 _ _ _ _ _ _ _ rfl rfl rfl (by rw [wst_both W d j h2]; exact or64 _ _ (Nat.mod_lt _ (by decide)) (hW.div_lt _ _ (by omega))) _) (by kernel_rfl) (by kernel_rfl) (by kernel_rfl) (by kernel_rfl) (fun _ _ _ h => h) M ?_
          simp only [aP, lI, l0, lS]
          refine readC (i := 16) (some 55) rfl (.pointer (some ⟨B, 0 + j, none⟩)) rfl rfl (by kernel_rfl) rfl (fun _ M => idxArr 43 42 16 .i64 B 0 j _ _ Try.underlying43 (fun _ => by kernel_rfl) (by omega) rfl rfl rfl _) (by kernel_rfl) (by kernel_rfl) (by kernel_rfl) (by kernel_rfl) (fun _ _ _ h => h) M ?_
          simp only [aP, lI, l0, lS]
          refine skipC (S2 := fun _ => True) none rfl (by kernel_rfl) rfl rfl (storeAny (.int .u64 ((wst W d j : Nat) : Int)) B (0 + j) 42 _ _ rfl rfl rfl rfl rfl (M.isSome mS _ (by rw [row_length]; omega)) (M.free mS _ (by rw [row_length]; omega)) (by kernel_rfl)) (by kernel_rfl) ?_
          simp only [Act.put]
          replace M := M.set (0 + j) (by rw [row_length]; omega) (.int .u64 ((wst W d j : Nat) : Int))
          rw [row_fset] at M
          replace OF := OF.and1 ((Off.refl [B] _).set (b := B) mS (0 + j) (.int .u64 ((wst W d j : Nat) : Int))) (.inr (by omega))
          generalize w5.setCell ⟨B, 0 + j, none⟩ (.int .u64 ((wst W d j : Nat) : Int)) = w6 at M OF ⊢
          refine wpAnyH_done (by kernel_rfl) ?_ _
          first | show Exit.then _ _ _ _ _ | show Exit.inBlock _ _ _ _ _
          have hrow := row_congr .u64 16 (mvd_next W d j (fset (fset (mvd W d j) j (W (j - d / 64) * 2 ^ (d % 64) % 2 ^ 64)) j (wst W d j)) (mvd_fset W d j _))
          rw [hrow] at M
          have HS := show Hid _ from (And.intro M OF)
          clear M OF hW hrow
          go_wp2
          go_roundw
          case rel => exact ⟨j + 1, by omega, by go_num, HS.out⟩
          case measure => simp [intOf]; omega
        · go_upto_region 7 with fail
          refine wp_region_list ?_
          refine readL (.int .i64 (j : Int)) rfl (by kernel_rfl) ?_
          simp only [aP, lI, l0, lS]
          refine readL (.int .i64 ((d / 64 : Nat) : Int)) rfl (by kernel_rfl) ?_
          simp only [aP, lI, l0, lS]
          refine readL (.bool false) rfl (gtrI .i64 _ _ _ _ _ _ rfl rfl rfl false (decide_eq_false (by omega)) _) ?_
          simp only [aP, lI, l0, lS]
          first | show Exit.then _ _ _ _ _ | show Exit.inBlock _ _ _ _ _
          have hrow := row_congr .u64 16 (mvd_next W d j (fset (mvd W d j) j (W (j - d / 64) * 2 ^ (d % 64) % 2 ^ 64)) (fun i _ => by unfold fset; rw [wst_up W d j (by omega)]))
          rw [hrow] at M
          have HS := show Hid _ from (And.intro M OF)
          clear M OF hW hrow
          go_wp2
          go_roundw
          case rel => exact ⟨j + 1, by omega, by go_num, HS.out⟩
          case measure => simp [intOf]; omega
    · obtain rfl : j = 16 := by omega
      go_upto_region 3 with fail
      refine wp_region_list ?_
      refine readL (.bool false) rfl (lssI .i64 _ _ _ _ _ _ rfl rfl rfl false (decide_eq_false (by omega)) _) ?_
      simp only [aP, lI, l0, lS]
      first | show Exit.then _ _ _ _ _ | show Exit.inBlock _ _ _ _ _
      replace M := M.swap
      go_upto_region 10 with fail
      refine wp_region_held_drew (S := fun w' => ∃ cs_, Mm w0 ((R, cs_) :: (B, row .u64 16 (fun i => ((mvd W d 16 i : Nat) : Int))) :: l) w') (by kernel_rfl) ⟨_, M.drew⟩ ?_
      intro _
      replace M := M.drew
      have hdr := (Below.refl wr.heap.size wr).drew
      replace OF := OF.below hdr
      clear hdr
      generalize wr.drew = w7 at M OF ⊢
      refine readHg (i := 0) (some 57) rfl (.pointer (some ⟨R, 0, none⟩)) rfl rfl (fun _ ⟨_, M⟩ => (by kernel_rfl)) ⟨_, M⟩ ?_
      simp only [aP, lI, l0, lS]
      refine readHg (i := 1) (some 58) rfl (.pointer (some ⟨R, 0, none⟩)) rfl rfl (fun _ ⟨_, M⟩ => (by kernel_rfl)) ⟨_, M⟩ ?_
      simp only [aP, lI, l0, lS]
      refine readHg (i := 2) (some 59) rfl (.int .i64 n) rfl rfl (fun _ ⟨_, M⟩ => (by kernel_rfl)) ⟨_, M⟩ ?_
      simp only [aP, lI, l0, lS]
      refine readHg (i := 3) (some 60) rfl (.int .i64 (n + 1)) rfl rfl (fun _ ⟨_, M⟩ => addI .i64 _ _ _ _ _ _ _ rfl rfl rfl (by rw [IntKind.wrap_i64]; omega) _) ⟨_, M⟩ ?_
      simp only [aP, lI, l0, lS]
      refine readHg (i := 4) (some 61) rfl (.agg (row .u64 16 (fun i => (mvd W d 16 i : Int))).toArray) rfl rfl (fun _ ⟨_, M⟩ => loadN 43 _ ⟨B, 0, none⟩ (row .u64 16 (fun i => (mvd W d 16 i : Int))) rfl rfl (fun _ => by kernel_rfl) (fun _ => by rw [row_length]; kernel_rfl) (M.rangeAt (mT _ mS))) ⟨_, M⟩ ?_
      simp only [aP, lI, l0, lS]
      refine readHg (i := 5) (some 62) rfl (.pointer (some ⟨R, 0, none⟩)) rfl rfl (fun _ ⟨_, M⟩ => (by kernel_rfl)) ⟨_, M⟩ ?_
      simp only [aP, lI, l0, lS]
      refine readHg (i := 6) (some 63) rfl (.pointer (some ⟨R, 0, none⟩)) rfl rfl (fun _ ⟨_, M⟩ => (by kernel_rfl)) ⟨_, M⟩ ?_
      simp only [aP, lI, l0, lS]
      refine doesH (i := 7) none rfl (by kernel_rfl) rfl rfl (storeAny (.int .i64 (n + 1)) R 0 3 _ _ rfl rfl rfl rfl rfl (M.isSome mS 0 (by rw [wcv_len]; decide)) (M.free mS 0 (by rw [wcv_len]; decide)) (by kernel_rfl)) ⟨_, M.set 0 (by rw [wcv_len]; decide) (.int .i64 (n + 1))⟩ ?_
      simp only [Act.put]
      replace M := M.set 0 (by rw [wcv_len]; decide) (.int .i64 (n + 1))
      replace OF := OF.and1 ((Off.refl [R] _).set (b := R) mS 0 (.int .i64 (n + 1))) (.inl mS)
      generalize w7.setCell ⟨R, 0, none⟩ (.int .i64 (n + 1)) = w8 at M OF ⊢
      replace M : Mm w0 ((R, wcv n W) :: (B, row .u64 16 (fun i => ((mvd W d 16 i : Nat) : Int))) :: l) w8 := M
      refine readHg (i := 8) (some 64) rfl (.pointer (some ⟨R, 0, none⟩)) rfl rfl (fun _ ⟨_, M⟩ => (by kernel_rfl)) ⟨_, M⟩ ?_
      simp only [aP, lI, l0, lS]
      refine readHg (i := 9) (some 65) rfl (.pointer (some ⟨R, 1, none⟩)) rfl rfl (fun _ ⟨_, M⟩ => (by kernel_rfl)) ⟨_, M⟩ ?_
      simp only [aP, lI, l0, lS]
      refine doesH (i := 10) none rfl (by kernel_rfl) rfl rfl (storeP (row .u64 16 (fun i => (mvd W d 16 i : Int))) R 1 43 _ _ rfl rfl rfl (M.thereP mS 1 16 (by rw [wcv_len]; decide)) (by rw [List.size_toArray, row_length]; kernel_rfl) (row_one .u64 16 _)) ⟨_, M.setPart (row .u64 16 (fun i => (mvd W d 16 i : Int))) 1 (by rw [row_length, wcv_len]; decide)⟩ ?_
      simp only [Act.put]
      replace M := M.setPart (row .u64 16 (fun i => (mvd W d 16 i : Int))) 1 (by rw [row_length, wcv_len]; decide)
      rw [wcv_setA] at M
      replace OF := OF.and1 ((Off.refl [R] _).setAll (b := R) mS 1 (row .u64 16 (fun i => (mvd W d 16 i : Int)))) (.inl mS)
      generalize w8.setCells R 1 (row .u64 16 (fun i => (mvd W d 16 i : Int))) = w9 at M OF ⊢
      refine wpAnyH_done (by kernel_rfl) ?_ _
      rw [wcv_congr (mvd_end W d)] at M
      replace M := M.drop2
      exact ⟨rfl, .tuple #[], by kernel_rfl, rfl, M, OF⟩
theorem wtop_put {L : List Int} {n : Int} (h : n ≤ wtop L) : wtop (L ++ [n]) = wtop L := by rw [wtop_app]; omega
theorem wtop_up {L : List Int} {n : Int} (h : wtop L < n) : wtop (L ++ [n]) = n := by rw [wtop_app]; omega
theorem wds_put {L : List Int} {W : Nat → Nat} {n : Int} {k : Nat} (hW : Wds W L) (hk : wtop L - n = (k : Int)) : Wds (fset W (k / 64) (W (k / 64) ||| 2 ^ (k % 64))) (L ++ [n]) :=
  (Bts.put hW k (V := fset W (k / 64) (W (k / 64) ||| 2 ^ (k % 64))) (fun i _ => by
    unfold fset
    by_cases e : i = k / 64
    · rw [if_pos e, if_pos e, e]
    · rw [if_neg e, if_neg e])).congr (fun j _ => wsee_put hk j)
theorem wds_up {L : List Int} {W : Nat → Nat} {n : Int} {d : Nat} (hW : Wds W L) (hd : n - wtop L = (d : Int)) (h1 : 1 ≤ d) : Wds (fset (wst W d) 0 (wst W d 0 ||| 2 ^ 0)) (L ++ [n]) :=
  ((hW.up d).put 0 (V := fset (wst W d) 0 (wst W d 0 ||| 2 ^ 0)) (fun i _ => by
    unfold fset
    by_cases e : i = 0
    · subst e; rfl
    · rw [if_neg e]; exact (if_neg e).symm)).congr (fun j _ => wsee_up hd h1 j)
theorem wcv_fset (T : Int) (W : Nat → Nat) (i v : Nat) : (wcv T W).set (1 + i) (.int .u64 ((v : Nat) : Int)) = wcv T (fset W i v) := wcv_set T W i v
theorem one_shl (e : Nat) (he : e < 64) : IntKind.u64.wrap (1 * 2 ^ min ((e : Nat) : Int).toNat IntKind.u64.bits) = ((2 ^ e : Nat) : Int) := by
  have h := shl64 1 e (by omega)
  rw [Nat.one_mul, Nat.mod_eq_of_lt (Nat.pow_lt_pow_right (by decide) he)] at h
  exact h
theorem vmark14_any (w0 w : World) (R : Nat) (l : List (Nat × List Value)) (L : List Int) (W : Nat → Nat) (hL : WinL L) (hW : Wds W L) (n : Int) (hn : i64 n) (M : Mm w0 ((R, wcv (wtop L) W) :: l) w) :
    Calls Try.prog 11 #[.pointer (some ⟨R, 0, none⟩), .int .i64 n] w fun e w' => e = .returned (.int .i64 (wchk L n)) ∧ ∃ V, Wds V (wmk L n) ∧ Mm w0 ((R, wcv (wtop (wmk L n)) V) :: l) w' ∧ Off [R] w w' := by
  go_enter Try.func11, Try.ntmps11
  have OF := Off.refl [R] w
  have hT1 := wtop_ge L
  have hT2 := wtop_max hL
  go_upto_region 0 with fail
  refine wp_region_list ?_
  refine readL (.int .i64 0) rfl (by kernel_rfl) ?_
  simp only [aP, lI, l0, lS]
  first | show Exit.then _ _ _ _ _ | show Exit.inBlock _ _ _ _ _
  go_upto_region 1 with fail
  refine wp_region_list ?_
  refine readL (.pointer (some ⟨R, 0, none⟩)) rfl (by kernel_rfl) ?_
  simp only [aP, lI, l0, lS]
  refine readL (.int .i64 n) rfl (by kernel_rfl) ?_
  simp only [aP, lI, l0, lS]
  refine callL rfl (fun _ => by kernel_rfl) (vcheck14_any w0 _ R _ L W hL hW n hn M) ?_
  rintro e w1 ⟨rfl, l1⟩
  replace M := M.call l1
  replace OF := OF.below l1
  clear l1
  refine ⟨_, rfl, ?_⟩
  simp only [aP, lI, l0, lS]
  refine readL (.int .i64 (wchk L n)) rfl (by kernel_rfl) ?_
  simp only [aP, lI, l0, lS]
  first | show Exit.then _ _ _ _ _ | show Exit.inBlock _ _ _ _ _
  by_cases hc : wchk L n = 0
  · obtain ⟨hn0, hn2, hn3, hn4⟩ := wchk_ok hc
    replace hc := show Hid _ from hc
    go_upto_region 2 with fail
    refine wp_region_list ?_
    refine readL (.int .i64 (wchk L n)) rfl (by kernel_rfl) ?_
    simp only [aP, lI, l0, lS]
    refine readL (.bool false) rfl (neqI .i64 _ _ _ _ _ _ rfl rfl rfl false (by rw [hc.out]; rfl) _) ?_
    simp only [aP, lI, l0, lS]
    first | show Exit.then _ _ _ _ _ | show Exit.inBlock _ _ _ _ _
    by_cases h1 : wtop L < n
    · have hd : n - wtop L = ((n - wtop L).toNat : Int) := by omega
      go_upto_region 4 with fail
      refine wp_region_list ?_
      refine readL (.int .i64 n) rfl (by kernel_rfl) ?_
      simp only [aP, lI, l0, lS]
      refine readL (.pointer (some ⟨R, 0, none⟩)) rfl (by kernel_rfl) ?_
      simp only [aP, lI, l0, lS]
      refine callL rfl (fun _ => by kernel_rfl) (vtop14_any w0 _ R _ (wtop L) W hT1 hT2 M) ?_
      rintro e w2 ⟨rfl, l1⟩
      replace M := M.call l1
      replace OF := OF.below l1
      clear l1
      refine ⟨_, rfl, ?_⟩
      simp only [aP, lI, l0, lS]
      refine readL (.bool true) rfl (gtrI .i64 _ _ _ _ _ _ rfl rfl rfl true (decide_eq_true (by omega)) _) ?_
      simp only [aP, lI, l0, lS]
      first | show Exit.then _ _ _ _ _ | show Exit.inBlock _ _ _ _ _
      go_upto_region 5 with fail
      refine wp_region_list ?_
      refine readL (.pointer (some ⟨R, 0, none⟩)) rfl (by kernel_rfl) ?_
      simp only [aP, lI, l0, lS]
      refine readL (.int .i64 n) rfl (by kernel_rfl) ?_
      simp only [aP, lI, l0, lS]
      refine callL rfl (fun _ => by kernel_rfl) (vrise_any w0 _ R _ (wtop L) W hT1 hT2 _ hW n (n - wtop L).toNat hd (by omega) hn2 M) ?_
      rintro e w3 ⟨rfl, M', o1⟩
      clear M
      have M := M'
      clear M'
      replace OF := OF.and1 o1 (.inl mS)
      clear o1
      refine ⟨_, rfl, ?_⟩
      simp only [aP, lI, l0, lS]
      first | show Exit.then _ _ _ _ _ | show Exit.inBlock _ _ _ _ _
      go_upto_region 6 with fail
      refine wp_region_list ?_
      refine readL (.pointer (some ⟨R, 0, none⟩)) rfl (by kernel_rfl) ?_
      simp only [aP, lI, l0, lS]
      refine readL (.int .i64 n) rfl (by kernel_rfl) ?_
      simp only [aP, lI, l0, lS]
      refine callL rfl (fun _ => by kernel_rfl) (vplace_any w0 _ R _ n (wst W (n - wtop L).toNat) (by omega) hn2 n 0 (by omega) (by omega) M) ?_
      rintro e w4 ⟨rfl, l1⟩
      replace M := M.call l1
      replace OF := OF.below l1
      clear l1
      refine ⟨_, rfl, ?_⟩
      simp only [aP, lI, l0, lS]
      refine readL (.tuple #[.int .i64 ((0 / 64 : Nat) : Int), .int .i64 ((0 % 64 : Nat) : Int)]) rfl (by kernel_rfl) ?_
      simp only [aP, lI, l0, lS]
      refine readL (.int .i64 ((0 / 64 : Nat) : Int)) rfl (by kernel_rfl) ?_
      simp only [aP, lI, l0, lS]
      refine readL (.int .i64 ((0 % 64 : Nat) : Int)) rfl (by kernel_rfl) ?_
      simp only [aP, lI, l0, lS]
      refine readL (.int .i64 ((0 / 64 : Nat) : Int)) rfl (by kernel_rfl) ?_
      simp only [aP, lI, l0, lS]
      refine readL (.int .i64 ((0 % 64 : Nat) : Int)) rfl (by kernel_rfl) ?_
      simp only [aP, lI, l0, lS]
      first | show Exit.then _ _ _ _ _ | show Exit.inBlock _ _ _ _ _
      go_upto_region 7 with fail
      refine wp_region_C (S := fun w' => Mm w0 ((R, wcv n (wst W (n - wtop L).toNat)) :: l) w') 12 (by kernel_rfl) M.drew ?_
      clear M
      intro M
      have hdr := (Below.refl w4.heap.size w4).drew
      replace OF := OF.below hdr
      clear hdr
      generalize w4.drew = w5 at M OF ⊢
      refine readC (i := 0) (some 27) rfl (.pointer (some ⟨R, 0, none⟩)) rfl rfl (by kernel_rfl) rfl (fun _ M => (by kernel_rfl)) (by kernel_rfl) (by kernel_rfl) (by kernel_rfl) (by kernel_rfl) (fun _ _ _ h => h) M ?_
      simp only [aP, lI, l0, lS]
      refine readC (i := 1) (some 28) rfl (.int .i64 ((0 / 64 : Nat) : Int)) rfl rfl (by kernel_rfl) rfl (fun _ M => (by kernel_rfl)) (by kernel_rfl) (by kernel_rfl) (by kernel_rfl) (by kernel_rfl) (fun _ _ _ h => h) M ?_
      simp only [aP, lI, l0, lS]
      refine readC (i := 2) (some 29) rfl (.pointer (some ⟨R, 0, none⟩)) rfl rfl (by kernel_rfl) rfl (fun _ M => (by kernel_rfl)) (by kernel_rfl) (by kernel_rfl) (by kernel_rfl) (by kernel_rfl) (fun _ _ _ h => h) M ?_
      simp only [aP, lI, l0, lS]
      refine readC (i := 3) (some 30) rfl (.pointer (some ⟨R, 1, none⟩)) rfl rfl (by kernel_rfl) rfl (fun _ M => (by kernel_rfl)) (by kernel_rfl) (by kernel_rfl) (by kernel_rfl) (by kernel_rfl) (fun _ _ _ h => h) M ?_
      simp only [aP, lI, l0, lS]
      refine readC (i := 4) (some 31) rfl (.pointer (some ⟨R, 1 + (0 / 64), none⟩)) rfl rfl (by kernel_rfl) rfl (fun _ M => idxArr 43 42 16 .i64 R 1 (0 / 64) _ _ Try.underlying43 (fun _ => by kernel_rfl) (by omega) rfl rfl rfl _) (by kernel_rfl) (by kernel_rfl) (by kernel_rfl) (by kernel_rfl) (fun _ _ _ h => h) M ?_
      simp only [aP, lI, l0, lS]
      refine readC (i := 5) (some 32) rfl (.int .u64 (((wst W (n - wtop L).toNat) (0 / 64) : Nat) : Int)) rfl rfl (by kernel_rfl) rfl (fun _ M => load1 42 _ ⟨R, 1 + (0 / 64), none⟩ _ rfl rfl (fun _ => by kernel_rfl) (M.get mS _ _ (wcv_get n (wst W (n - wtop L).toNat) (0 / 64) (by omega)))) (by kernel_rfl) (by kernel_rfl) (by kernel_rfl) (by kernel_rfl) (fun _ _ _ h => h) M ?_
      simp only [aP, lI, l0, lS]
      refine readC (i := 6) (some 33) rfl (.int .i64 ((0 % 64 : Nat) : Int)) rfl rfl (by kernel_rfl) rfl (fun _ M => (by kernel_rfl)) (by kernel_rfl) (by kernel_rfl) (by kernel_rfl) (by kernel_rfl) (fun _ _ _ h => h) M ?_
      simp only [aP, lI, l0, lS]
      refine readC (i := 7) (some 34) rfl (.int .u64 ((2 ^ (0 % 64) : Nat) : Int)) rfl rfl (by kernel_rfl) rfl (fun _ M => shlI .u64 .i64 _ _ _ _ _ _ _ rfl rfl rfl (by omega) (one_shl _ (by omega)) _) (by kernel_rfl) (by kernel_rfl) (by kernel_rfl) (by kernel_rfl) (fun _ _ _ h => h) M ?_
      simp only [aP, lI, l0, lS]
      refine readC (i := 8) (some 35) rfl (.int .u64 (((wst W (n - wtop L).toNat) (0 / 64) ||| 2 ^ (0 % 64) : Nat) : Int)) rfl rfl (by kernel_rfl) rfl (fun _ M => vorI .u64 _ _ _ _ _ _ _ rfl rfl rfl (or64 _ _ ((hW.up _).lt _ (by omega)) (Nat.pow_lt_pow_right (by decide) (by omega))) _) (by kernel_rfl) (by kernel_rfl) (by kernel_rfl) (by kernel_rfl) (fun _ _ _ h => h) M ?_
      simp only [aP, lI, l0, lS]
      refine pureCg (i := 9) (some 36) rfl (.pointer (some ⟨R, 0, none⟩)) rfl (by decide) rfl (fun _ => (by kernel_rfl)) M ?_
      simp only [aP, lI, l0, lS]
      refine pureCg (i := 10) (some 37) rfl (.pointer (some ⟨R, 1, none⟩)) rfl (by decide) rfl (fun _ => (by kernel_rfl)) M ?_
      simp only [aP, lI, l0, lS]
      refine readC (i := 11) (some 38) rfl (.pointer (some ⟨R, 1 + (0 / 64), none⟩)) rfl rfl (by kernel_rfl) rfl (fun _ M => idxArr 43 42 16 .i64 R 1 (0 / 64) _ _ Try.underlying43 (fun _ => by kernel_rfl) (by omega) rfl rfl rfl _) (by kernel_rfl) (by kernel_rfl) (by kernel_rfl) (by kernel_rfl) (fun _ _ _ h => h) M ?_
      simp only [aP, lI, l0, lS]
      refine skipC (S2 := fun _ => True) none rfl (by kernel_rfl) rfl rfl (storeAny (.int .u64 (((wst W (n - wtop L).toNat) (0 / 64) ||| 2 ^ (0 % 64) : Nat) : Int)) R (1 + (0 / 64)) 42 _ _ rfl rfl rfl rfl rfl (M.isSome mS _ (by rw [wcv_len]; omega)) (M.free mS _ (by rw [wcv_len]; omega)) (by kernel_rfl)) (by kernel_rfl) ?_
      simp only [Act.put]
      replace M := M.set (1 + (0 / 64)) (by rw [wcv_len]; omega) (.int .u64 (((wst W (n - wtop L).toNat) (0 / 64) ||| 2 ^ (0 % 64) : Nat) : Int))
      rw [wcv_fset] at M
      replace OF := OF.and1 ((Off.refl [R] _).set (b := R) mS (1 + (0 / 64)) (.int .u64 (((wst W (n - wtop L).toNat) (0 / 64) ||| 2 ^ (0 % 64) : Nat) : Int))) (.inl mS)
      generalize w5.setCell ⟨R, 1 + (0 / 64), none⟩ (.int .u64 (((wst W (n - wtop L).toNat) (0 / 64) ||| 2 ^ (0 % 64) : Nat) : Int)) = w6 at M OF ⊢
      refine wpAnyH_done (by kernel_rfl) ?_ _
      first | show Exit.then _ _ _ _ _ | show Exit.inBlock _ _ _ _ _
      go_upto_region 8 with fail
      refine wp_region_list ?_
      refine readL (.int .i64 0) rfl (by kernel_rfl) ?_
      simp only [aP, lI, l0, lS]
      first | show Exit.then _ _ _ _ _ | show Exit.inBlock _ _ _ _ _
      have hk_ := show Hid _ from (wmk_ok hc.out)
      have hk2_ := show Hid _ from (wtop_up (L := L) (n := n) h1)
      have hV := show Hid _ from (wds_up hW hd (by omega))
      have HS := show Hid _ from (And.intro M OF)
      clear M OF hW hL
      go_wp2
      go_ret
      exact ⟨by rw [hc.out]; rfl, _, by rw [hk_.out]; exact hV.out, by rw [hk_.out, hk2_.out]; exact HS.out⟩
    · obtain ⟨k, hk⟩ : ∃ k : Nat, wtop L - n = (k : Int) := ⟨(wtop L - n).toNat, by omega⟩
      go_upto_region 4 with fail
      refine wp_region_list ?_
      refine readL (.int .i64 n) rfl (by kernel_rfl) ?_
      simp only [aP, lI, l0, lS]
      refine readL (.pointer (some ⟨R, 0, none⟩)) rfl (by kernel_rfl) ?_
      simp only [aP, lI, l0, lS]
      refine callL rfl (fun _ => by kernel_rfl) (vtop14_any w0 _ R _ (wtop L) W hT1 hT2 M) ?_
      rintro e w7 ⟨rfl, l1⟩
      replace M := M.call l1
      replace OF := OF.below l1
      clear l1
      refine ⟨_, rfl, ?_⟩
      simp only [aP, lI, l0, lS]
      refine readL (.bool false) rfl (gtrI .i64 _ _ _ _ _ _ rfl rfl rfl false (decide_eq_false (by omega)) _) ?_
      simp only [aP, lI, l0, lS]
      first | show Exit.then _ _ _ _ _ | show Exit.inBlock _ _ _ _ _
      go_upto_region 6 with fail
      refine wp_region_list ?_
      refine readL (.pointer (some ⟨R, 0, none⟩)) rfl (by kernel_rfl) ?_
      simp only [aP, lI, l0, lS]
      refine readL (.int .i64 n) rfl (by kernel_rfl) ?_
      simp only [aP, lI, l0, lS]
      refine callL rfl (fun _ => by kernel_rfl) (vplace_any w0 _ R _ (wtop L) W hT1 hT2 n k hk (by omega) M) ?_
      rintro e w8 ⟨rfl, l1⟩
      replace M := M.call l1
      replace OF := OF.below l1
      clear l1
      refine ⟨_, rfl, ?_⟩
      simp only [aP, lI, l0, lS]
      refine readL (.tuple #[.int .i64 ((k / 64 : Nat) : Int), .int .i64 ((k % 64 : Nat) : Int)]) rfl (by kernel_rfl) ?_
      simp only [aP, lI, l0, lS]
      refine readL (.int .i64 ((k / 64 : Nat) : Int)) rfl (by kernel_rfl) ?_
      simp only [aP, lI, l0, lS]
      refine readL (.int .i64 ((k % 64 : Nat) : Int)) rfl (by kernel_rfl) ?_
      simp only [aP, lI, l0, lS]
      refine readL (.int .i64 ((k / 64 : Nat) : Int)) rfl (by kernel_rfl) ?_
      simp only [aP, lI, l0, lS]
      refine readL (.int .i64 ((k % 64 : Nat) : Int)) rfl (by kernel_rfl) ?_
      simp only [aP, lI, l0, lS]
      first | show Exit.then _ _ _ _ _ | show Exit.inBlock _ _ _ _ _
      go_upto_region 7 with fail
      refine wp_region_C (S := fun w' => Mm w0 ((R, wcv (wtop L) W) :: l) w') 12 (by kernel_rfl) M.drew ?_
      clear M
      intro M
      have hdr := (Below.refl w8.heap.size w8).drew
      replace OF := OF.below hdr
      clear hdr
      generalize w8.drew = w9 at M OF ⊢
      refine readC (i := 0) (some 27) rfl (.pointer (some ⟨R, 0, none⟩)) rfl rfl (by kernel_rfl) rfl (fun _ M => (by kernel_rfl)) (by kernel_rfl) (by kernel_rfl) (by kernel_rfl) (by kernel_rfl) (fun _ _ _ h => h) M ?_
      simp only [aP, lI, l0, lS]
      refine readC (i := 1) (some 28) rfl (.int .i64 ((k / 64 : Nat) : Int)) rfl rfl (by kernel_rfl) rfl (fun _ M => (by kernel_rfl)) (by kernel_rfl) (by kernel_rfl) (by kernel_rfl) (by kernel_rfl) (fun _ _ _ h => h) M ?_
      simp only [aP, lI, l0, lS]
      refine readC (i := 2) (some 29) rfl (.pointer (some ⟨R, 0, none⟩)) rfl rfl (by kernel_rfl) rfl (fun _ M => (by kernel_rfl)) (by kernel_rfl) (by kernel_rfl) (by kernel_rfl) (by kernel_rfl) (fun _ _ _ h => h) M ?_
      simp only [aP, lI, l0, lS]
      refine readC (i := 3) (some 30) rfl (.pointer (some ⟨R, 1, none⟩)) rfl rfl (by kernel_rfl) rfl (fun _ M => (by kernel_rfl)) (by kernel_rfl) (by kernel_rfl) (by kernel_rfl) (by kernel_rfl) (fun _ _ _ h => h) M ?_
      simp only [aP, lI, l0, lS]
      refine readC (i := 4) (some 31) rfl (.pointer (some ⟨R, 1 + (k / 64), none⟩)) rfl rfl (by kernel_rfl) rfl (fun _ M => idxArr 43 42 16 .i64 R 1 (k / 64) _ _ Try.underlying43 (fun _ => by kernel_rfl) (by omega) rfl rfl rfl _) (by kernel_rfl) (by kernel_rfl) (by kernel_rfl) (by kernel_rfl) (fun _ _ _ h => h) M ?_
      simp only [aP, lI, l0, lS]
      refine readC (i := 5) (some 32) rfl (.int .u64 ((W (k / 64) : Nat) : Int)) rfl rfl (by kernel_rfl) rfl (fun _ M => load1 42 _ ⟨R, 1 + (k / 64), none⟩ _ rfl rfl (fun _ => by kernel_rfl) (M.get mS _ _ (wcv_get (wtop L) W (k / 64) (by omega)))) (by kernel_rfl) (by kernel_rfl) (by kernel_rfl) (by kernel_rfl) (fun _ _ _ h => h) M ?_
      simp only [aP, lI, l0, lS]
      refine readC (i := 6) (some 33) rfl (.int .i64 ((k % 64 : Nat) : Int)) rfl rfl (by kernel_rfl) rfl (fun _ M => (by kernel_rfl)) (by kernel_rfl) (by kernel_rfl) (by kernel_rfl) (by kernel_rfl) (fun _ _ _ h => h) M ?_
      simp only [aP, lI, l0, lS]
      refine readC (i := 7) (some 34) rfl (.int .u64 ((2 ^ (k % 64) : Nat) : Int)) rfl rfl (by kernel_rfl) rfl (fun _ M => shlI .u64 .i64 _ _ _ _ _ _ _ rfl rfl rfl (by omega) (one_shl _ (by omega)) _) (by kernel_rfl) (by kernel_rfl) (by kernel_rfl) (by kernel_rfl) (fun _ _ _ h => h) M ?_
      simp only [aP, lI, l0, lS]
      refine readC (i := 8) (some 35) rfl (.int .u64 ((W (k / 64) ||| 2 ^ (k % 64) : Nat) : Int)) rfl rfl (by kernel_rfl) rfl (fun _ M => vorI .u64 _ _ _ _ _ _ _ rfl rfl rfl (or64 _ _ (hW.lt _ (by omega)) (Nat.pow_lt_pow_right (by decide) (by omega))) _) (by kernel_rfl) (by kernel_rfl) (by kernel_rfl) (by kernel_rfl) (fun _ _ _ h => h) M ?_
      simp only [aP, lI, l0, lS]
      refine pureCg (i := 9) (some 36) rfl (.pointer (some ⟨R, 0, none⟩)) rfl (by decide) rfl (fun _ => (by kernel_rfl)) M ?_
      simp only [aP, lI, l0, lS]
      refine pureCg (i := 10) (some 37) rfl (.pointer (some ⟨R, 1, none⟩)) rfl (by decide) rfl (fun _ => (by kernel_rfl)) M ?_
      simp only [aP, lI, l0, lS]
      refine readC (i := 11) (some 38) rfl (.pointer (some ⟨R, 1 + (k / 64), none⟩)) rfl rfl (by kernel_rfl) rfl (fun _ M => idxArr 43 42 16 .i64 R 1 (k / 64) _ _ Try.underlying43 (fun _ => by kernel_rfl) (by omega) rfl rfl rfl _) (by kernel_rfl) (by kernel_rfl) (by kernel_rfl) (by kernel_rfl) (fun _ _ _ h => h) M ?_
      simp only [aP, lI, l0, lS]
      refine skipC (S2 := fun _ => True) none rfl (by kernel_rfl) rfl rfl (storeAny (.int .u64 ((W (k / 64) ||| 2 ^ (k % 64) : Nat) : Int)) R (1 + (k / 64)) 42 _ _ rfl rfl rfl rfl rfl (M.isSome mS _ (by rw [wcv_len]; omega)) (M.free mS _ (by rw [wcv_len]; omega)) (by kernel_rfl)) (by kernel_rfl) ?_
      simp only [Act.put]
      replace M := M.set (1 + (k / 64)) (by rw [wcv_len]; omega) (.int .u64 ((W (k / 64) ||| 2 ^ (k % 64) : Nat) : Int))
      rw [wcv_fset] at M
      replace OF := OF.and1 ((Off.refl [R] _).set (b := R) mS (1 + (k / 64)) (.int .u64 ((W (k / 64) ||| 2 ^ (k % 64) : Nat) : Int))) (.inl mS)
      generalize w9.setCell ⟨R, 1 + (k / 64), none⟩ (.int .u64 ((W (k / 64) ||| 2 ^ (k % 64) : Nat) : Int)) = w10 at M OF ⊢
      refine wpAnyH_done (by kernel_rfl) ?_ _
      first | show Exit.then _ _ _ _ _ | show Exit.inBlock _ _ _ _ _
      go_upto_region 8 with fail
      refine wp_region_list ?_
      refine readL (.int .i64 0) rfl (by kernel_rfl) ?_
      simp only [aP, lI, l0, lS]
      first | show Exit.then _ _ _ _ _ | show Exit.inBlock _ _ _ _ _
      have hk_ := show Hid _ from (wmk_ok hc.out)
      have hk2_ := show Hid _ from (wtop_put (L := L) (n := n) (by omega))
      have hV := show Hid _ from (wds_put hW hk)
      have HS := show Hid _ from (And.intro M OF)
      clear M OF hW hL
      go_wp2
      go_ret
      exact ⟨by rw [hc.out]; rfl, _, by rw [hk_.out]; exact hV.out, by rw [hk_.out, hk2_.out]; exact HS.out⟩
  · replace hc := show Hid _ from hc
    go_upto_region 2 with fail
    refine wp_region_list ?_
    refine readL (.int .i64 (wchk L n)) rfl (by kernel_rfl) ?_
    simp only [aP, lI, l0, lS]
    refine readL (.bool true) rfl (neqI .i64 _ _ _ _ _ _ rfl rfl rfl true (by rw [bne_iff_ne]; exact hc.out) _) ?_
    simp only [aP, lI, l0, lS]
    first | show Exit.then _ _ _ _ _ | show Exit.inBlock _ _ _ _ _
    go_upto_region 3 with fail
    refine wp_region_list ?_
    refine readL (.int .i64 (wchk L n)) rfl (by kernel_rfl) ?_
    simp only [aP, lI, l0, lS]
    refine readL (.int .i64 (wchk L n)) rfl (by kernel_rfl) ?_
    simp only [aP, lI, l0, lS]
    first | show Exit.then _ _ _ _ _ | show Exit.inBlock _ _ _ _ _
    have hk_ := show Hid _ from (wmk_err hc.out)
    have HS := show Hid _ from (And.intro hW (And.intro M OF))
    clear M OF hW hL
    go_wp2
    go_ret
    exact ⟨rfl, W, by rw [hk_.out]; exact HS.out⟩
theorem wrc_app : ∀ x y : List (Int × Int), wrc (x ++ y) = wrc x ++ wrc y
  | [], _ => rfl
  | p :: x, y => by show _ :: _ :: wrc (x ++ y) = _; rw [wrc_app x y]; rfl
theorem wrc_at : ∀ (m : List (Int × Int)) (a : Nat) (x : Int × Int), m[a]? = some x → ((wrc m).drop (a * 2)).take 2 = [.int .i64 x.1, .int .i64 x.2]
  | [], _, _, h => by cases h
  | q :: m, 0, x, h => by
    obtain rfl : q = x := by simpa using h
    rfl
  | q :: m, a + 1, x, h => by
    have := wrc_at m a x (by simpa using h)
    rw [show (a + 1) * 2 = a * 2 + 1 + 1 by omega]
    exact this
theorem wrc_setL : ∀ (m : List (Int × Int)) (a : Nat) (x : Int × Int), setL (wrc m) (a * 2) [.int .i64 x.1, .int .i64 x.2] = wrc (m.set a x)
  | [], _, _ => rfl
  | q :: m, 0, x => rfl
  | q :: m, a + 1, x => by
    have := wrc_setL m a x
    rw [show (a + 1) * 2 = 2 + a * 2 by omega]
    have h := setL_pre [.int .i64 q.1, .int .i64 q.2] [.int .i64 x.1, .int .i64 x.2] (wrc m) (a * 2)
    rw [this] at h
    exact h
def rvl (fl : List (Int × Int)) (a : Nat) : List (Int × Int) := (List.range fl.length).map fun p => if p < a ∨ fl.length ≤ p + a then fl.getD (fl.length - 1 - p) (0, 0) else fl.getD p (0, 0)
theorem rvl_len (fl : List (Int × Int)) (a : Nat) : (rvl fl a).length = fl.length := by unfold rvl; simp
theorem rvl_get (fl : List (Int × Int)) (a p : Nat) (hp : p < fl.length) : (rvl fl a)[p]? = some (if p < a ∨ fl.length ≤ p + a then fl.getD (fl.length - 1 - p) (0, 0) else fl.getD p (0, 0)) := by unfold rvl; simp [hp]
theorem rvl_zero (fl : List (Int × Int)) : rvl fl 0 = fl := List.ext_getElem? fun p => by
  by_cases hp : p < fl.length
  · rw [rvl_get fl 0 p hp, if_neg (by omega), List.getD_eq_getElem?_getD, List.getElem?_eq_getElem hp]
    rfl
  · rw [List.getElem?_eq_none (by rw [rvl_len]; omega), List.getElem?_eq_none (by omega)]
theorem rvl_end (fl : List (Int × Int)) (a : Nat) (h : fl.length ≤ 2 * a + 1) : rvl fl a = fl.reverse := List.ext_getElem? fun p => by
  by_cases hp : p < fl.length
  · rw [rvl_get fl a p hp, List.getElem?_reverse hp, List.getElem?_eq_getElem (by omega)]
    congr 1
    split
    · rw [List.getD_eq_getElem?_getD, List.getElem?_eq_getElem (by omega)]
      rfl
    · have e : p = fl.length - 1 - p := by omega
      rw [List.getD_eq_getElem?_getD, List.getElem?_eq_getElem hp]
      show fl[p] = _
      congr 1
  · rw [List.getElem?_eq_none (by rw [rvl_len]; omega), List.getElem?_eq_none (by rw [List.length_reverse]; omega)]
theorem rvl_step (fl : List (Int × Int)) (a : Nat) (h : a < fl.length - 1 - a) (x y : Int × Int) (hx : (rvl fl a)[a]? = some x) (hy : (rvl fl a)[fl.length - 1 - a]? = some y) : ((rvl fl a).set a y).set (fl.length - 1 - a) x = rvl fl (a + 1) := List.ext_getElem? fun p => by
  rw [rvl_get fl a a (by omega), if_neg (by omega)] at hx
  rw [rvl_get fl a _ (by omega), if_neg (by omega)] at hy
  injection hx with hx
  injection hy with hy
  by_cases hp : p < fl.length
  · rw [rvl_get fl (a + 1) p hp, List.getElem?_set, List.getElem?_set]
    by_cases e1 : fl.length - 1 - a = p
    · rw [if_pos e1, if_pos (by rw [List.length_set, rvl_len]; omega), if_pos (by omega), ← hx]
      congr 2
      omega
    · rw [if_neg e1]
      by_cases e2 : a = p
      · rw [if_pos e2, if_pos (by rw [rvl_len]; omega), if_pos (by omega), ← hy, e2]
      · rw [if_neg e2, rvl_get fl a p hp]
        congr 1
        by_cases c : p < a ∨ fl.length ≤ p + a
        · rw [if_pos c, if_pos (by omega)]
        · rw [if_neg c, if_neg (by omega)]
  · rw [List.getElem?_eq_none (by rw [List.length_set, List.length_set, rvl_len]; omega), List.getElem?_eq_none (by rw [rvl_len]; omega)]
theorem idxRg (g len cap i : Nat) (hi : i < len) {o : Oper} {a : Act} (x y : Operand) (ho : o.op = .indexAddr 33 x y) (hx : a.eval x = .slice (some ⟨g, 0, none⟩) len cap) (hy : a.eval y = .int .i64 (i : Int)) (w : World) : (execOp a.eval o).run Try.prog w = .ok (.value (.pointer (some ⟨g, i * 2, none⟩))) w := by
  have h := idxR2 ⟨g, 0, none⟩ len cap i hi x y ho hx hy w
  rw [Addr.add_mid, Nat.zero_add] at h
  exact h
theorem vreverse_any (w1 w : World) (g cap : Nat) (fl : List (Int × Int)) (hfl : fl.length ≤ 1099511627776) (M : Mm w1 [(g, wrc fl)] w) :
    Calls Try.prog 26 #[.slice (some ⟨g, 0, none⟩) fl.length cap] w fun e w' => e = .returned (.tuple #[]) ∧ Mm w1 [(g, wrc fl.reverse)] w' := by
  go_enter Try.func26, Try.ntmps26
  go_upto_region 0 with fail
  refine wp_region_list ?_
  refine readL (.slice (some ⟨g, 0, none⟩) fl.length cap) rfl (by kernel_rfl) ?_
  simp only [aP, lI, l0, lS]
  refine readL (.int .i64 ((fl.length : Nat) : Int)) rfl (lenS _ 33 36 (some ⟨g, 0, none⟩) fl.length cap rfl Try.underlying33 rfl _) ?_
  simp only [aP, lI, l0, lS]
  refine readL (.int .i64 (((fl.length : Nat) : Int) - 1)) rfl (subI .i64 _ _ _ _ _ _ _ rfl rfl rfl (by rw [IntKind.wrap_i64]; omega) _) ?_
  simp only [aP, lI, l0, lS]
  refine readL (.int .i64 0) rfl (by kernel_rfl) ?_
  simp only [aP, lI, l0, lS]
  refine readL (.int .i64 (((fl.length : Nat) : Int) - 1)) rfl (by kernel_rfl) ?_
  simp only [aP, lI, l0, lS]
  first | show Exit.then _ _ _ _ _ | show Exit.inBlock _ _ _ _ _
  have HI := show Hid _ from (show Mm w1 [(g, wrc (rvl fl 0))] w by rw [rvl_zero]; exact M)
  clear M
  go_wp2
  go_loopw [2, 3] (fun i j w' => ∃ a : Nat, 2 * a ≤ fl.length + 1 ∧ i = .int .i64 (a : Int) ∧ j = .int .i64 (((fl.length : Nat) : Int) - 1 - (a : Int)) ∧ Mm w1 [(g, wrc (rvl fl a))] w') (fun i _ _ => fl.length - (intOf i).toNat)
  case atStart => exact ⟨0, by omega, rfl, by go_num, HI.out⟩
  case round =>
    clear HI
    obtain ⟨a, ha, rfl, rfl, M⟩ := hrel
    by_cases hlt : a < fl.length - 1 - a
    · have hbe : ((fl.length : Nat) : Int) - 1 - (a : Int) = ((fl.length - 1 - a : Nat) : Int) := by omega
      rw [hbe]
      obtain ⟨x, hx⟩ : ∃ x, (rvl fl a)[a]? = some x := ⟨_, rvl_get fl a a (by omega)⟩
      obtain ⟨y, hy⟩ : ∃ y, (rvl fl a)[fl.length - 1 - a]? = some y := ⟨_, rvl_get fl a _ (by omega)⟩
      go_upto_region 1 with fail
      refine wp_region_list ?_
      refine readL (.int .i64 (a : Int)) rfl (by kernel_rfl) ?_
      simp only [aP, lI, l0, lS]
      refine readL (.int .i64 ((fl.length - 1 - a : Nat) : Int)) rfl (by kernel_rfl) ?_
      simp only [aP, lI, l0, lS]
      refine readL (.bool true) rfl (lssI .i64 _ _ _ _ _ _ rfl rfl rfl true (decide_eq_true (by omega)) _) ?_
      simp only [aP, lI, l0, lS]
      first | show Exit.then _ _ _ _ _ | show Exit.inBlock _ _ _ _ _
      go_upto_region 3 with fail
      refine wp_region_C (S := fun w' => Mm w1 ([(g, wrc (rvl fl a))]) w') 13 (by kernel_rfl) M.drew ?_
      clear M
      intro M
      have hdr := (Below.refl wr.heap.size wr).drew
      clear hdr
      generalize wr.drew = w1 at M  ⊢
      refine readC (i := 0) (some 14) rfl (.slice (some ⟨g, 0, none⟩) fl.length cap) rfl rfl (by kernel_rfl) rfl (fun _ M => (by kernel_rfl)) (by kernel_rfl) (by kernel_rfl) (by kernel_rfl) (by kernel_rfl) (fun _ _ _ h => h) M ?_
      simp only [aP, lI, l0, lS]
      refine readC (i := 1) (some 15) rfl (.int .i64 (a : Int)) rfl rfl (by kernel_rfl) rfl (fun _ M => (by kernel_rfl)) (by kernel_rfl) (by kernel_rfl) (by kernel_rfl) (by kernel_rfl) (fun _ _ _ h => h) M ?_
      simp only [aP, lI, l0, lS]
      refine pureCg (i := 2) (some 16) rfl (.slice (some ⟨g, 0, none⟩) fl.length cap) rfl (by decide) rfl (fun _ => (by kernel_rfl)) M ?_
      simp only [aP, lI, l0, lS]
      refine pureCg (i := 3) (some 17) rfl (.int .i64 ((fl.length - 1 - a : Nat) : Int)) rfl (by decide) rfl (fun _ => (by kernel_rfl)) M ?_
      simp only [aP, lI, l0, lS]
      refine readC (i := 4) (some 18) rfl (.slice (some ⟨g, 0, none⟩) fl.length cap) rfl rfl (by kernel_rfl) rfl (fun _ M => (by kernel_rfl)) (by kernel_rfl) (by kernel_rfl) (by kernel_rfl) (by kernel_rfl) (fun _ _ _ h => h) M ?_
      simp only [aP, lI, l0, lS]
      refine readC (i := 5) (some 19) rfl (.int .i64 ((fl.length - 1 - a : Nat) : Int)) rfl rfl (by kernel_rfl) rfl (fun _ M => (by kernel_rfl)) (by kernel_rfl) (by kernel_rfl) (by kernel_rfl) (by kernel_rfl) (fun _ _ _ h => h) M ?_
      simp only [aP, lI, l0, lS]
      refine readC (i := 6) (some 20) rfl (.pointer (some ⟨g, (fl.length - 1 - a) * 2, none⟩)) rfl rfl (by kernel_rfl) rfl (fun _ M => idxRg g _ _ (fl.length - 1 - a) (by omega) _ _ rfl rfl rfl _) (by kernel_rfl) (by kernel_rfl) (by kernel_rfl) (by kernel_rfl) (fun _ _ _ h => h) M ?_
      simp only [aP, lI, l0, lS]
      refine readC (i := 7) (some 21) rfl (.agg #[.int .i64 y.1, .int .i64 y.2]) rfl rfl (by kernel_rfl) rfl (fun _ M => loadN 36 _ ⟨g, (fl.length - 1 - a) * 2, none⟩ [.int .i64 y.1, .int .i64 y.2] rfl rfl (fun _ => by kernel_rfl) (fun _ => by kernel_rfl) (M.part mS _ _ (wrc_at _ _ y hy))) (by kernel_rfl) (by kernel_rfl) (by kernel_rfl) (by kernel_rfl) (fun _ _ _ h => h) M ?_
      simp only [aP, lI, l0, lS]
      refine pureCg (i := 8) (some 22) rfl (.slice (some ⟨g, 0, none⟩) fl.length cap) rfl (by decide) rfl (fun _ => (by kernel_rfl)) M ?_
      simp only [aP, lI, l0, lS]
      refine pureCg (i := 9) (some 23) rfl (.int .i64 (a : Int)) rfl (by decide) rfl (fun _ => (by kernel_rfl)) M ?_
      simp only [aP, lI, l0, lS]
      refine pureCg (i := 10) (some 24) rfl (.pointer (some ⟨g, a * 2, none⟩)) rfl (by decide) rfl (fun _ => idxRg g _ _ a (by omega) _ _ rfl rfl rfl _) M ?_
      simp only [aP, lI, l0, lS]
      refine readC (i := 11) (some 25) rfl (.agg #[.int .i64 x.1, .int .i64 x.2]) rfl rfl (by kernel_rfl) rfl (fun _ M => loadN 36 _ ⟨g, a * 2, none⟩ [.int .i64 x.1, .int .i64 x.2] rfl rfl (fun _ => by kernel_rfl) (fun _ => by kernel_rfl) (M.part mS _ _ (wrc_at _ _ x hx))) (by kernel_rfl) (by kernel_rfl) (by kernel_rfl) (by kernel_rfl) (fun _ _ _ h => h) M ?_
      simp only [aP, lI, l0, lS]
      refine readC (i := 12) (some 26) rfl (.pointer (some ⟨g, a * 2, none⟩)) rfl rfl (by kernel_rfl) rfl (fun _ M => idxRg g _ _ a (by omega) _ _ rfl rfl rfl _) (by kernel_rfl) (by kernel_rfl) (by kernel_rfl) (by kernel_rfl) (fun _ _ _ h => h) M ?_
      simp only [aP, lI, l0, lS]
      refine skipC (S2 := fun _ => True) none rfl (by kernel_rfl) rfl rfl (storeP [.int .i64 y.1, .int .i64 y.2] g (a * 2) 36 _ _ rfl rfl rfl (M.thereP mS _ 2 (by rw [wrc_len, rvl_len]; omega)) (by kernel_rfl) (List.all_eq_true.1 (rfl : ([.int .i64 y.1, .int .i64 y.2] : List Value).all (fun u => u.oneCell') = true))) (by kernel_rfl) ?_
      simp only [Act.put]
      replace M := M.setPart [.int .i64 y.1, .int .i64 y.2] (a * 2) (by rw [wrc_len, rvl_len]; simp only [List.length_cons, List.length_nil]; omega)
      rw [wrc_setL] at M
      generalize w1.setCells g (a * 2) [.int .i64 y.1, .int .i64 y.2] = w2 at M ⊢
      refine readHg (i := 14) (some 27) rfl (.pointer (some ⟨g, (fl.length - 1 - a) * 2, none⟩)) rfl rfl (fun _ _ => idxRg g _ _ (fl.length - 1 - a) (by omega) _ _ rfl rfl rfl _) trivial ?_
      simp only [aP, lI, l0, lS]
      refine doesH (i := 15) none rfl (by kernel_rfl) rfl rfl (storeP [.int .i64 x.1, .int .i64 x.2] g ((fl.length - 1 - a) * 2) 36 _ _ rfl rfl rfl (M.thereP mS _ 2 (by rw [wrc_len, List.length_set, rvl_len]; omega)) (by kernel_rfl) (List.all_eq_true.1 (rfl : ([.int .i64 x.1, .int .i64 x.2] : List Value).all (fun u => u.oneCell') = true))) trivial ?_
      simp only [Act.put]
      replace M := M.setPart [.int .i64 x.1, .int .i64 x.2] ((fl.length - 1 - a) * 2) (by rw [wrc_len, List.length_set, rvl_len]; simp only [List.length_cons, List.length_nil]; omega)
      rw [wrc_setL] at M
      generalize w2.setCells g ((fl.length - 1 - a) * 2) [.int .i64 x.1, .int .i64 x.2] = w3 at M ⊢
      refine wpAnyH_done (by kernel_rfl) ?_ _
      first | show Exit.then _ _ _ _ _ | show Exit.inBlock _ _ _ _ _
      have hst := show Hid _ from (rvl_step fl a hlt x y hx hy)
      have HS := show Hid _ from M
      clear M hx hy hbe
      go_wp2
      go_roundw
      case rel => exact ⟨a + 1, by omega, by go_num, by go_num, by rw [← hst.out]; exact HS.out⟩
      case measure => simp [intOf]; omega
    · go_upto_region 1 with fail
      refine wp_region_list ?_
      refine readL (.int .i64 (a : Int)) rfl (by kernel_rfl) ?_
      simp only [aP, lI, l0, lS]
      refine readL (.int .i64 (((fl.length : Nat) : Int) - 1 - (a : Int))) rfl (by kernel_rfl) ?_
      simp only [aP, lI, l0, lS]
      refine readL (.bool false) rfl (lssI .i64 _ _ _ _ _ _ rfl rfl rfl false (decide_eq_false (by omega)) _) ?_
      simp only [aP, lI, l0, lS]
      first | show Exit.then _ _ _ _ _ | show Exit.inBlock _ _ _ _ _
      rw [rvl_end fl a (by omega)] at M
      have HS := show Hid _ from M
      clear M
      go_wp2
      exact ⟨rfl, .tuple #[], by kernel_rfl, rfl, HS.out⟩
theorem vreverse_nil (w : World) :
    Calls Try.prog 26 #[.slice none 0 0] w fun e w' => e = .returned (.tuple #[]) ∧ Below w.heap.size w w' := by
  go_enter Try.func26, Try.ntmps26
  have M := Mm.init w
  go_upto_region 0 with fail
  refine wp_region_list ?_
  refine readL (.slice none 0 0) rfl (by kernel_rfl) ?_
  simp only [aP, lI, l0, lS]
  refine readL (.int .i64 ((0 : Nat) : Int)) rfl (lenS _ 33 36 none 0 0 rfl Try.underlying33 rfl _) ?_
  simp only [aP, lI, l0, lS]
  refine readL (.int .i64 (-1)) rfl (subI .i64 _ _ _ _ _ _ _ rfl rfl rfl (by decide) _) ?_
  simp only [aP, lI, l0, lS]
  refine readL (.int .i64 0) rfl (by kernel_rfl) ?_
  simp only [aP, lI, l0, lS]
  refine readL (.int .i64 (-1)) rfl (by kernel_rfl) ?_
  simp only [aP, lI, l0, lS]
  first | show Exit.then _ _ _ _ _ | show Exit.inBlock _ _ _ _ _
  clear M
  go_wp2
  go_loopw [2, 3] (fun i j w' => i = .int .i64 0 ∧ j = .int .i64 (-1) ∧ w = w') (fun _ _ _ => 0)
  case atStart => exact ⟨rfl, rfl, rfl⟩
  case round =>
    obtain ⟨rfl, rfl, rfl⟩ := hrel
    go_wp2
    exact ⟨rfl, .tuple #[], by kernel_rfl, rfl, Below.refl _ _⟩
end Go.Proofs.Ytglnmmajgedinaa
