/- What Equal answers: whether two keys stand for the same number. -/
import Derived.Test.YtjddngedifgneaaDoorApi
import Derived.Deep.Cut
import Derived.Deep.QuietTactic
import Derived.BigQuiet
namespace Go.Proofs.YtjddngedifgneaaDoor
open Go.RowKit

section
variable {P : Program} {ops : Array Oper} {Q : Exit → Act → World → Prop}
theorem callO {i : Nat} {oi : Oper} (dst : Option Tmp) (hdst : oi.dst = dst) {f : FuncId} {args : Array Value} {R : Ending → World → Prop} {K : Act → World → Prop} {a : Act} {w : World} (hi : ops[i]? = some oi)
    (hw : Region.wanted oi (yielded ops a.tmps) = true) (he : ∀ w, (execOp a.eval oi).run P w = .ok (.enter f args) w) (hc : Calls P f args w R)
    (hK : ∀ e w', R e w' → ∃ v, e = .returned v ∧ K (a.put dst v) w') : wpOp P ops Q i K a w := by
  unfold wpOp
  simp only [hi, hw, if_true]
  refine .inl ?_
  unfold Oper.wp
  rw [he w]
  exact hc.mono fun e w' hR => by
    obtain ⟨v, rfl, h⟩ := hK e w' hR
    subst hdst
    exact h
theorem allocO {i : Nat} {oi : Oper} (dst : Option Tmp) (hdst : oi.dst = dst) {K : Act → World → Prop} {a : Act} {w : World} (c : Array Value) (t : TypeId) (hi : ops[i]? = some oi)
    (hw : Region.wanted oi (yielded ops a.tmps) = true) (hv : ∀ w, (execOp a.eval oi).run P w = .ok (.value (.pointer (some ⟨w.heap.size, 0, none⟩))) (w.alloc (.cells c t)))
    (hK : K (a.put dst (.pointer (some ⟨w.heap.size, 0, none⟩))) (w.alloc (.cells c t))) : wpOp P ops Q i K a w := by
  unfold wpOp
  simp only [hi, hw, if_true]
  refine .inl ?_
  unfold Oper.wp
  rw [hv w]
  subst hdst
  exact hK
end

theorem Kp.alloc {w w' : World} {l : List (Nat × (Nat → Int))} (h : Kp w l w') (o : Obj) : Kp w l (w'.alloc o) :=
  ⟨fun p hp => ⟨(h.rows p hp).1.alloc _ (h.rows p hp).2, by have := (h.rows p hp).2; simp; omega⟩, h.below.alloc h.below.size _⟩
theorem Kp.put {w w' : World} {l : List (Nat × (Nat → Int))} (h : Kp w l w') (b : Nat) (hb : w.heap.size ≤ b) (hl : ∀ p ∈ l, b ≠ p.1) (vs : List Value) : Kp w l (w'.setCells b 0 vs) :=
  ⟨fun p hp => ⟨(h.rows p hp).1.setAll_other _ (hl p hp) 0 _, by rw [size_setAll]; exact (h.rows p hp).2⟩, below_setAll h.below b hb 0 vs⟩

/-- A number's block of the call's own. -/
structure XB (w w' : World) (B : Nat) (f : Nat → Int) : Prop where
  has : Has w' B .u64 4 f
  hi : B < w'.heap.size
  lo : w.heap.size + 2 ≤ B
theorem XB.call {w w' w'' : World} {B : Nat} {f : Nat → Int} (h : XB w w' B f) (l : Below w'.heap.size w' w'') : XB w w'' B f := ⟨h.has.below l h.hi, by have := h.hi; have := l.size; omega, h.lo⟩
theorem XB.alloc {w w' : World} {B : Nat} {f : Nat → Int} (h : XB w w' B f) (o : Obj) : XB w (w'.alloc o) B f := ⟨h.has.alloc _ h.hi, by have := h.hi; simp; omega, h.lo⟩
theorem XB.put {w w' : World} {B : Nat} {f : Nat → Int} (h : XB w w' B f) (b : Nat) (hb : b ≠ B) (vs : List Value) : XB w (w'.setCells b 0 vs) B f := ⟨h.has.setAll_other _ hb 0 _, by rw [size_setAll]; exact h.hi, h.lo⟩
theorem XB.new {w w' : World} {a b : Nat → Int} (h : Kp w [(w.heap.size + 1, b), (w.heap.size, a)] w') (t : TypeId) : XB w (w'.alloc (.cells #[.int .u64 0, .int .u64 0, .int .u64 0, .int .u64 0] t)) w'.heap.size (fun _ => 0) :=
  ⟨has_zero w' t _ rfl, by simp, by have := (h.rows _ List.mem_cons_self).2; dsimp only at this; omega⟩

structure EInv (x y : Nat → Int) (B1 B2 : Nat) (w : World) (k : Nat) (d : Int) (w' : World) : Prop where
  d0 : 0 ≤ d
  d1 : d < W
  eq : d = 0 ↔ ∀ j, j < k → x j = y j
  h1 : Has w' B1 .u64 4 x
  h2 : Has w' B2 .u64 4 y
  below : Below w.heap.size w w'
theorem or_zero (d x y : Int) (d0 : 0 ≤ d) (d1 : d < W) (x0 : 0 ≤ x) (x1 : x < W) (y0 : 0 ≤ y) (y1 : y < W) :
    0 ≤ bits BinOp.or IntKind.u64 d (bits BinOp.xor IntKind.u64 x y) ∧ bits BinOp.or IntKind.u64 d (bits BinOp.xor IntKind.u64 x y) < W ∧ (bits BinOp.or IntKind.u64 d (bits BinOp.xor IntKind.u64 x y) = 0 ↔ d = 0 ∧ x = y) := by
  simp only [W] at *
  obtain ⟨d, rfl⟩ := Int.eq_ofNat_of_zero_le d0
  obtain ⟨x, rfl⟩ := Int.eq_ofNat_of_zero_le x0
  obtain ⟨y, rfl⟩ := Int.eq_ofNat_of_zero_le y0
  have hx : x ^^^ y < 2 ^ 64 := Nat.xor_lt_two_pow (by omega) (by omega)
  have ho : d ||| (x ^^^ y) < 2 ^ 64 := Nat.or_lt_two_pow (by omega) hx
  rw [u64_xor_nat x y (by omega) (by omega), u64_or_nat d _ (by omega) (by omega)]
  refine ⟨by omega, by omega, ?_⟩
  have e : ((d ||| (x ^^^ y) : Nat) : Int) = 0 ↔ d ||| (x ^^^ y) = 0 := by omega
  have e2 : x ^^^ y = 0 ↔ x = y := by
    constructor
    · intro h
      have h' : x ^^^ (x ^^^ y) = x := by rw [h, Nat.xor_zero]
      rw [← Nat.xor_assoc, Nat.xor_self, Nat.zero_xor] at h'
      exact h'.symm
    · intro h; rw [h, Nat.xor_self]
  rw [e, Nat.or_eq_zero_iff, e2]
  omega
theorem EInv.step {x y : Nat → Int} {B1 B2 : Nat} {w : World} {k : Nat} {d : Int} {w' : World} (h : EInv x y B1 B2 w k d w') (hx : In W 4 x) (hy : In W 4 y) (hk : k < 4) (q : Nat) :
    EInv x y B1 B2 w (k + 1) (bits BinOp.or IntKind.u64 d (bits BinOp.xor IntKind.u64 (x k) (y k))) (w'.drewN q) := by
  obtain ⟨a, b, c⟩ := or_zero d (x k) (y k) h.d0 h.d1 (hx k hk).1 (hx k hk).2 (hy k hk).1 (hy k hk).2
  refine ⟨a, b, ?_, ⟨h.h1.cell, h.h1.free⟩, ⟨h.h2.cell, h.h2.free⟩, ⟨h.below.os, h.below.tape, h.below.output, h.below.size, h.below.block⟩⟩
  rw [c, h.eq]
  constructor
  · rintro ⟨h1, h2⟩ j hj
    by_cases e : j = k
    · subst e; exact h2
    · exact h1 j (by omega)
  · intro h1
    exact ⟨fun j hj => h1 j (by omega), h1 k (by omega)⟩

set_option maxRecDepth 10000 in
set_option maxHeartbeats 16000000 in
theorem equal_any (a b : Nat → Int) (ha : In 256 32 a) (hb : In 256 32 b) (w : World) (hg : Glob w) :
    Calls Tryd.prog 12 #[(.agg (row .u8 32 (a)).toArray), (.agg (row .u8 32 (b)).toArray)] w fun e w' => e = .returned (.bool (decide (val 256 a 32 % Q = val 256 b 32 % Q))) ∧ Below w.heap.size w w' := by
  have K := ((Kp.init w).box a 23 w.heap.size rfl).box b 23 (w.heap.size + 1) (by simp)
  go_enter Tryd.func12, Tryd.ntmps12
  go_upto_region 1 with fail
  generalize (w.alloc (.cells (row .u8 32 a).toArray 23)).alloc (.cells (row .u8 32 b).toArray 23) = w0 at *
  refine Code.wp_mono (Q := fun e a' w' => e = .normal ∧ ∃ (x y : Nat → Int) (B1 B2 : Nat) (u9 u10 u11 u12 u13 u14 : Value), a' = ⟨#[(.agg (row .u8 32 (a)).toArray), (.agg (row .u8 32 (b)).toArray), .pointer (some ⟨w.heap.size, 0, none⟩), .pointer (some ⟨w.heap.size + 1, 0, none⟩), .bool false, .pointer (some ⟨B1, 0, none⟩), .pointer (some ⟨B2, 0, none⟩), undef, undef, u9, u10, u11, u12, u13, u14, undef, undef, undef, undef, undef, undef, undef, undef, undef, undef, undef, undef, undef, undef, undef], []⟩ ∧
      (In W 4 x ∧ In W 4 y ∧ val W x 4 = val 256 a 32 % Q ∧ val W y 4 = val 256 b 32 % Q) ∧ EInv x y B1 B2 w 0 0 w') ?_ ?_
  · rintro e a' w' ⟨rfl, x, y, B1, B2, u9, u10, u11, u12, u13, u14, rfl, hv, hE⟩
    go_wp2
    go_loopw [7, 15] (fun d i w' => ∃ (k : Nat) (dv : Int), k ≤ 4 ∧ i = .int .i64 k ∧ d = .int .u64 dv ∧ EInv x y B1 B2 w k dv w') (fun _ i _ => 4 - (intOf i).toNat)
    case atStart => exact ⟨0, 0, by omega, rfl, rfl, hE⟩
    case round =>
      obtain ⟨k, dv, hk, rfl, rfl, hI⟩ := hrel
      clear hE
      by_cases hlt : k < 4
      · have HS := show Hid _ from fun q => hI.step hv.1 hv.2.1 hlt q
        have c1 := hI.h1.cell k hlt
        have c2 := hI.h2.cell k hlt
        have g1 : (0 : Int) ≤ (k : Int) := by omega
        have g2 : (k : Int) < 4 := by omega
        have HV := show Hid _ from hv
        clear hI hv
        generalize x k = p at *
        generalize y k = r at *
        go_upto_region 6 with fail
        go_quiet (fail)
        go_wp2
        go_roundw
        case rel => exact ⟨k + 1, _, by omega, by go_num, rfl, HS.out nq⟩
        case measure => simp [intOf]; omega
      · obtain rfl : k = 4 := by omega
        have hr : (dv == 0) = decide (val 256 a 32 % Q = val 256 b 32 % Q) := by
          rw [← hv.2.2.1, ← hv.2.2.2, Bool.eq_iff_iff, beq_iff_eq, decide_eq_true_iff, hI.eq]
          exact ⟨fun h => val_congr W 4 h, fun h => val_inj W (by decide) x y 4 hv.1 hv.2.1 h⟩
        have HR := show Hid _ from hr
        have hL := hI.below
        clear hr hI hlt hk hv
        go_wp2
        go_ret
        exact ⟨by rw [← HR.out]; rfl, hL⟩
  · refine wp_region_held_drew (S := fun w' => Kp w [(w.heap.size + 1, b), (w.heap.size, a)] w') (by kernel_rfl) K.drew ?_
    intro K
    generalize w0.drew = wd at *
    refine rowH (i := 0) (some 9) rfl .u8 32 a w.heap.size 23 _ _ rfl rfl rfl rfl (by kernel_rfl) (by kernel_rfl) (by kernel_rfl) (fun _ _ _ h => absurd h.1 (by simp)) Tryd.underlying23 rfl (key_info a) K (fun _ h => h.get _ _ (List.mem_cons_of_mem _ List.mem_cons_self)) ?_
    simp only [Act.put, List.setIfInBounds_toArray, List.set_cons_zero, List.set_cons_succ]
    refine rowH (i := 3) (some 12) rfl .u8 32 b (w.heap.size + 1) 23 _ _ rfl rfl rfl rfl (by kernel_rfl) (by kernel_rfl) (by kernel_rfl) (fun _ _ _ h => absurd h.1 (by simp)) Tryd.underlying23 rfl (key_info b) K (fun _ h => h.get _ _ List.mem_cons_self) ?_
    simp only [Act.put, List.setIfInBounds_toArray, List.set_cons_zero, List.set_cons_succ]
    refine wpAnyH_all (rs := [1, 6, 7]) (by kernel_rfl) (by simp) ?_
    intro i hi
    simp only [List.mem_cons, List.not_mem_nil, or_false] at hi
    rcases hi with rfl | rfl | rfl
    · refine callO (some 10) rfl rfl rfl (fun _ => by kernel_rfl) (load_any a ha _) ?_
      rintro e v1 ⟨m1, rfl, s1, l⟩
      have K := K.call l
      clear l
      refine ⟨_, rfl, K, ?_⟩
      simp only [Act.put, List.setIfInBounds_toArray, List.set_cons_zero, List.set_cons_succ]
      refine wpAnyH_all (rs := [2, 6, 7]) (by kernel_rfl) (by simp) ?_
      intro i hi
      simp only [List.mem_cons, List.not_mem_nil, or_false] at hi
      rcases hi with rfl | rfl | rfl
      · refine callO (some 11) rfl rfl rfl (fun _ => by kernel_rfl) (least_any m1 s1.1 _ (hg.below K.below hg.size)) ?_
        rintro e v2 ⟨m2, rfl, s2, l⟩
        have K := K.call l
        clear l
        refine ⟨_, rfl, K, ?_⟩
        simp only [Act.put, List.setIfInBounds_toArray, List.set_cons_zero, List.set_cons_succ]
        refine wpAnyH_all (rs := [4, 6, 7]) (by kernel_rfl) (by simp) ?_
        intro i hi
        simp only [List.mem_cons, List.not_mem_nil, or_false] at hi
        rcases hi with rfl | rfl | rfl
        · refine callO (some 13) rfl rfl rfl (fun _ => by kernel_rfl) (load_any b hb _) ?_
          rintro e v3 ⟨m3, rfl, s3, l⟩
          have K := K.call l
          clear l
          refine ⟨_, rfl, K, ?_⟩
          simp only [Act.put, List.setIfInBounds_toArray, List.set_cons_zero, List.set_cons_succ]
          refine wpAnyH_all (rs := [5, 6, 7]) (by kernel_rfl) (by simp) ?_
          intro i hi
          simp only [List.mem_cons, List.not_mem_nil, or_false] at hi
          rcases hi with rfl | rfl | rfl
          · refine callO (some 14) rfl rfl rfl (fun _ => by kernel_rfl) (least_any m3 s3.1 _ (hg.below K.below hg.size)) ?_
            rintro e v4 ⟨m4, rfl, s4, l⟩
            have K := K.call l
            clear l
            refine ⟨_, rfl, K, ?_⟩
            simp only [Act.put, List.setIfInBounds_toArray, List.set_cons_zero, List.set_cons_succ]
            refine wpAnyH_all (rs := [6, 7]) (by kernel_rfl) (by simp) ?_
            intro i hi
            simp only [List.mem_cons, List.not_mem_nil, or_false] at hi
            rcases hi with rfl | rfl
            · refine allocO (some 5) rfl #[.int .u64 0, .int .u64 0, .int .u64 0, .int .u64 0] 33 rfl rfl (fun _ => by kernel_rfl) ?_
              have X6 := XB.new K 33
              have K := K.alloc (.cells #[.int .u64 0, .int .u64 0, .int .u64 0, .int .u64 0] 33)
              refine ⟨K, ?_⟩
              simp only [Act.put, List.setIfInBounds_toArray, List.set_cons_zero, List.set_cons_succ]
              generalize v4.alloc (.cells #[.int .u64 0, .int .u64 0, .int .u64 0, .int .u64 0] 33) = v5 at *
              refine wpAnyH_all (rs := [7]) (by kernel_rfl) (by simp) ?_
              intro i hi
              obtain rfl := List.mem_singleton.1 hi
              refine allocO (some 6) rfl #[.int .u64 0, .int .u64 0, .int .u64 0, .int .u64 0] 33 rfl rfl (fun _ => by kernel_rfl) ?_
              have X7 := XB.new K 33
              have NE : v4.heap.size ≠ v5.heap.size := by have := X6.hi; omega
              have X6 := X6.alloc (.cells #[.int .u64 0, .int .u64 0, .int .u64 0, .int .u64 0] 33)
              have K := K.alloc (.cells #[.int .u64 0, .int .u64 0, .int .u64 0, .int .u64 0] 33)
              refine ⟨K, ?_⟩
              simp only [Act.put, List.setIfInBounds_toArray, List.set_cons_zero, List.set_cons_succ]
              generalize v5.alloc (.cells #[.int .u64 0, .int .u64 0, .int .u64 0, .int .u64 0] 33) = v6 at *
              refine storesH (i := 8) none rfl .u64 4 m2 (v4.heap.size) 33 _ _ (by kernel_rfl) rfl rfl rfl rfl rfl (num_there X6.has) (num_info' _) (K.put _ (by have := X6.lo; omega) (by have := X6.lo; simp; omega) _) ?_
              simp only [Act.put]
              have K := K.put (v4.heap.size) (by have := X6.lo; omega) (by have := X6.lo; simp; omega) (row .u64 4 m2)
              have X7 := X7.put (v4.heap.size) NE (row .u64 4 m2)
              have Y6 := Has.all X6.has.there .u64 m2
              refine storesH (i := 9) none rfl .u64 4 m4 (v5.heap.size) 33 _ _ (by kernel_rfl) rfl rfl rfl rfl rfl (num_there X7.has) (num_info' _) (K.put _ (by have := X7.lo; omega) (by have := X7.lo; simp; omega) _) ?_
              simp only [Act.put]
              refine wpAnyH_done (by kernel_rfl) ?_ _
              exact ⟨rfl, m2, m4, _, _, _, _, _, _, _, _, rfl, ⟨s2.1, s4.1, by rw [s2.2, s1.2], by rw [s4.2, s3.2]⟩, ⟨by decide, by decide, ⟨fun _ j hj => by omega, fun _ => rfl⟩, Y6.setAll_other _ (Ne.symm NE) 0 _, Has.all X7.has.there .u64 m4, (K.put (v5.heap.size) (by have := X7.lo; omega) (by have := X7.lo; simp; omega) (row .u64 4 m4)).below⟩⟩
            · refine allocO (some 6) rfl #[.int .u64 0, .int .u64 0, .int .u64 0, .int .u64 0] 33 rfl rfl (fun _ => by kernel_rfl) ?_
              have X7 := XB.new K 33
              have K := K.alloc (.cells #[.int .u64 0, .int .u64 0, .int .u64 0, .int .u64 0] 33)
              refine ⟨K, ?_⟩
              simp only [Act.put, List.setIfInBounds_toArray, List.set_cons_zero, List.set_cons_succ]
              generalize v4.alloc (.cells #[.int .u64 0, .int .u64 0, .int .u64 0, .int .u64 0] 33) = v7 at *
              refine wpAnyH_all (rs := [6]) (by kernel_rfl) (by simp) ?_
              intro i hi
              obtain rfl := List.mem_singleton.1 hi
              refine allocO (some 5) rfl #[.int .u64 0, .int .u64 0, .int .u64 0, .int .u64 0] 33 rfl rfl (fun _ => by kernel_rfl) ?_
              have X6 := XB.new K 33
              have NE : v7.heap.size ≠ v4.heap.size := by have := X7.hi; omega
              have X7 := X7.alloc (.cells #[.int .u64 0, .int .u64 0, .int .u64 0, .int .u64 0] 33)
              have K := K.alloc (.cells #[.int .u64 0, .int .u64 0, .int .u64 0, .int .u64 0] 33)
              refine ⟨K, ?_⟩
              simp only [Act.put, List.setIfInBounds_toArray, List.set_cons_zero, List.set_cons_succ]
              generalize v7.alloc (.cells #[.int .u64 0, .int .u64 0, .int .u64 0, .int .u64 0] 33) = v8 at *
              refine storesH (i := 8) none rfl .u64 4 m2 (v7.heap.size) 33 _ _ (by kernel_rfl) rfl rfl rfl rfl rfl (num_there X6.has) (num_info' _) (K.put _ (by have := X6.lo; omega) (by have := X6.lo; simp; omega) _) ?_
              simp only [Act.put]
              have K := K.put (v7.heap.size) (by have := X6.lo; omega) (by have := X6.lo; simp; omega) (row .u64 4 m2)
              have X7 := X7.put (v7.heap.size) NE (row .u64 4 m2)
              have Y6 := Has.all X6.has.there .u64 m2
              refine storesH (i := 9) none rfl .u64 4 m4 (v4.heap.size) 33 _ _ (by kernel_rfl) rfl rfl rfl rfl rfl (num_there X7.has) (num_info' _) (K.put _ (by have := X7.lo; omega) (by have := X7.lo; simp; omega) _) ?_
              simp only [Act.put]
              refine wpAnyH_done (by kernel_rfl) ?_ _
              exact ⟨rfl, m2, m4, _, _, _, _, _, _, _, _, rfl, ⟨s2.1, s4.1, by rw [s2.2, s1.2], by rw [s4.2, s3.2]⟩, ⟨by decide, by decide, ⟨fun _ j hj => by omega, fun _ => rfl⟩, Y6.setAll_other _ (Ne.symm NE) 0 _, Has.all X7.has.there .u64 m4, (K.put (v4.heap.size) (by have := X7.lo; omega) (by have := X7.lo; simp; omega) (row .u64 4 m4)).below⟩⟩
          · refine allocO (some 5) rfl #[.int .u64 0, .int .u64 0, .int .u64 0, .int .u64 0] 33 rfl rfl (fun _ => by kernel_rfl) ?_
            have X6 := XB.new K 33
            have K := K.alloc (.cells #[.int .u64 0, .int .u64 0, .int .u64 0, .int .u64 0] 33)
            refine ⟨K, ?_⟩
            simp only [Act.put, List.setIfInBounds_toArray, List.set_cons_zero, List.set_cons_succ]
            generalize v3.alloc (.cells #[.int .u64 0, .int .u64 0, .int .u64 0, .int .u64 0] 33) = v9 at *
            refine wpAnyH_all (rs := [5, 7]) (by kernel_rfl) (by simp) ?_
            intro i hi
            simp only [List.mem_cons, List.not_mem_nil, or_false] at hi
            rcases hi with rfl | rfl
            · refine callO (some 14) rfl rfl rfl (fun _ => by kernel_rfl) (least_any m3 s3.1 _ (hg.below K.below hg.size)) ?_
              rintro e v10 ⟨m4, rfl, s4, l⟩
              have K := K.call l
              have X6 := X6.call l
              clear l
              refine ⟨_, rfl, K, ?_⟩
              simp only [Act.put, List.setIfInBounds_toArray, List.set_cons_zero, List.set_cons_succ]
              refine wpAnyH_all (rs := [7]) (by kernel_rfl) (by simp) ?_
              intro i hi
              obtain rfl := List.mem_singleton.1 hi
              refine allocO (some 6) rfl #[.int .u64 0, .int .u64 0, .int .u64 0, .int .u64 0] 33 rfl rfl (fun _ => by kernel_rfl) ?_
              have X7 := XB.new K 33
              have NE : v3.heap.size ≠ v10.heap.size := by have := X6.hi; omega
              have X6 := X6.alloc (.cells #[.int .u64 0, .int .u64 0, .int .u64 0, .int .u64 0] 33)
              have K := K.alloc (.cells #[.int .u64 0, .int .u64 0, .int .u64 0, .int .u64 0] 33)
              refine ⟨K, ?_⟩
              simp only [Act.put, List.setIfInBounds_toArray, List.set_cons_zero, List.set_cons_succ]
              generalize v10.alloc (.cells #[.int .u64 0, .int .u64 0, .int .u64 0, .int .u64 0] 33) = v11 at *
              refine storesH (i := 8) none rfl .u64 4 m2 (v3.heap.size) 33 _ _ (by kernel_rfl) rfl rfl rfl rfl rfl (num_there X6.has) (num_info' _) (K.put _ (by have := X6.lo; omega) (by have := X6.lo; simp; omega) _) ?_
              simp only [Act.put]
              have K := K.put (v3.heap.size) (by have := X6.lo; omega) (by have := X6.lo; simp; omega) (row .u64 4 m2)
              have X7 := X7.put (v3.heap.size) NE (row .u64 4 m2)
              have Y6 := Has.all X6.has.there .u64 m2
              refine storesH (i := 9) none rfl .u64 4 m4 (v10.heap.size) 33 _ _ (by kernel_rfl) rfl rfl rfl rfl rfl (num_there X7.has) (num_info' _) (K.put _ (by have := X7.lo; omega) (by have := X7.lo; simp; omega) _) ?_
              simp only [Act.put]
              refine wpAnyH_done (by kernel_rfl) ?_ _
              exact ⟨rfl, m2, m4, _, _, _, _, _, _, _, _, rfl, ⟨s2.1, s4.1, by rw [s2.2, s1.2], by rw [s4.2, s3.2]⟩, ⟨by decide, by decide, ⟨fun _ j hj => by omega, fun _ => rfl⟩, Y6.setAll_other _ (Ne.symm NE) 0 _, Has.all X7.has.there .u64 m4, (K.put (v10.heap.size) (by have := X7.lo; omega) (by have := X7.lo; simp; omega) (row .u64 4 m4)).below⟩⟩
            · refine allocO (some 6) rfl #[.int .u64 0, .int .u64 0, .int .u64 0, .int .u64 0] 33 rfl rfl (fun _ => by kernel_rfl) ?_
              have X7 := XB.new K 33
              have NE : v3.heap.size ≠ v9.heap.size := by have := X6.hi; omega
              have X6 := X6.alloc (.cells #[.int .u64 0, .int .u64 0, .int .u64 0, .int .u64 0] 33)
              have K := K.alloc (.cells #[.int .u64 0, .int .u64 0, .int .u64 0, .int .u64 0] 33)
              refine ⟨K, ?_⟩
              simp only [Act.put, List.setIfInBounds_toArray, List.set_cons_zero, List.set_cons_succ]
              generalize v9.alloc (.cells #[.int .u64 0, .int .u64 0, .int .u64 0, .int .u64 0] 33) = v12 at *
              refine wpAnyH_all (rs := [5]) (by kernel_rfl) (by simp) ?_
              intro i hi
              obtain rfl := List.mem_singleton.1 hi
              refine callO (some 14) rfl rfl rfl (fun _ => by kernel_rfl) (least_any m3 s3.1 _ (hg.below K.below hg.size)) ?_
              rintro e v13 ⟨m4, rfl, s4, l⟩
              have K := K.call l
              have X6 := X6.call l
              have X7 := X7.call l
              clear l
              refine ⟨_, rfl, K, ?_⟩
              simp only [Act.put, List.setIfInBounds_toArray, List.set_cons_zero, List.set_cons_succ]
              refine storesH (i := 8) none rfl .u64 4 m2 (v3.heap.size) 33 _ _ (by kernel_rfl) rfl rfl rfl rfl rfl (num_there X6.has) (num_info' _) (K.put _ (by have := X6.lo; omega) (by have := X6.lo; simp; omega) _) ?_
              simp only [Act.put]
              have K := K.put (v3.heap.size) (by have := X6.lo; omega) (by have := X6.lo; simp; omega) (row .u64 4 m2)
              have X7 := X7.put (v3.heap.size) NE (row .u64 4 m2)
              have Y6 := Has.all X6.has.there .u64 m2
              refine storesH (i := 9) none rfl .u64 4 m4 (v9.heap.size) 33 _ _ (by kernel_rfl) rfl rfl rfl rfl rfl (num_there X7.has) (num_info' _) (K.put _ (by have := X7.lo; omega) (by have := X7.lo; simp; omega) _) ?_
              simp only [Act.put]
              refine wpAnyH_done (by kernel_rfl) ?_ _
              exact ⟨rfl, m2, m4, _, _, _, _, _, _, _, _, rfl, ⟨s2.1, s4.1, by rw [s2.2, s1.2], by rw [s4.2, s3.2]⟩, ⟨by decide, by decide, ⟨fun _ j hj => by omega, fun _ => rfl⟩, Y6.setAll_other _ (Ne.symm NE) 0 _, Has.all X7.has.there .u64 m4, (K.put (v9.heap.size) (by have := X7.lo; omega) (by have := X7.lo; simp; omega) (row .u64 4 m4)).below⟩⟩
          · refine allocO (some 6) rfl #[.int .u64 0, .int .u64 0, .int .u64 0, .int .u64 0] 33 rfl rfl (fun _ => by kernel_rfl) ?_
            have X7 := XB.new K 33
            have K := K.alloc (.cells #[.int .u64 0, .int .u64 0, .int .u64 0, .int .u64 0] 33)
            refine ⟨K, ?_⟩
            simp only [Act.put, List.setIfInBounds_toArray, List.set_cons_zero, List.set_cons_succ]
            generalize v3.alloc (.cells #[.int .u64 0, .int .u64 0, .int .u64 0, .int .u64 0] 33) = v14 at *
            refine wpAnyH_all (rs := [5, 6]) (by kernel_rfl) (by simp) ?_
            intro i hi
            simp only [List.mem_cons, List.not_mem_nil, or_false] at hi
            rcases hi with rfl | rfl
            · refine callO (some 14) rfl rfl rfl (fun _ => by kernel_rfl) (least_any m3 s3.1 _ (hg.below K.below hg.size)) ?_
              rintro e v15 ⟨m4, rfl, s4, l⟩
              have K := K.call l
              have X7 := X7.call l
              clear l
              refine ⟨_, rfl, K, ?_⟩
              simp only [Act.put, List.setIfInBounds_toArray, List.set_cons_zero, List.set_cons_succ]
              refine wpAnyH_all (rs := [6]) (by kernel_rfl) (by simp) ?_
              intro i hi
              obtain rfl := List.mem_singleton.1 hi
              refine allocO (some 5) rfl #[.int .u64 0, .int .u64 0, .int .u64 0, .int .u64 0] 33 rfl rfl (fun _ => by kernel_rfl) ?_
              have X6 := XB.new K 33
              have NE : v15.heap.size ≠ v3.heap.size := by have := X7.hi; omega
              have X7 := X7.alloc (.cells #[.int .u64 0, .int .u64 0, .int .u64 0, .int .u64 0] 33)
              have K := K.alloc (.cells #[.int .u64 0, .int .u64 0, .int .u64 0, .int .u64 0] 33)
              refine ⟨K, ?_⟩
              simp only [Act.put, List.setIfInBounds_toArray, List.set_cons_zero, List.set_cons_succ]
              generalize v15.alloc (.cells #[.int .u64 0, .int .u64 0, .int .u64 0, .int .u64 0] 33) = v16 at *
              refine storesH (i := 8) none rfl .u64 4 m2 (v15.heap.size) 33 _ _ (by kernel_rfl) rfl rfl rfl rfl rfl (num_there X6.has) (num_info' _) (K.put _ (by have := X6.lo; omega) (by have := X6.lo; simp; omega) _) ?_
              simp only [Act.put]
              have K := K.put (v15.heap.size) (by have := X6.lo; omega) (by have := X6.lo; simp; omega) (row .u64 4 m2)
              have X7 := X7.put (v15.heap.size) NE (row .u64 4 m2)
              have Y6 := Has.all X6.has.there .u64 m2
              refine storesH (i := 9) none rfl .u64 4 m4 (v3.heap.size) 33 _ _ (by kernel_rfl) rfl rfl rfl rfl rfl (num_there X7.has) (num_info' _) (K.put _ (by have := X7.lo; omega) (by have := X7.lo; simp; omega) _) ?_
              simp only [Act.put]
              refine wpAnyH_done (by kernel_rfl) ?_ _
              exact ⟨rfl, m2, m4, _, _, _, _, _, _, _, _, rfl, ⟨s2.1, s4.1, by rw [s2.2, s1.2], by rw [s4.2, s3.2]⟩, ⟨by decide, by decide, ⟨fun _ j hj => by omega, fun _ => rfl⟩, Y6.setAll_other _ (Ne.symm NE) 0 _, Has.all X7.has.there .u64 m4, (K.put (v3.heap.size) (by have := X7.lo; omega) (by have := X7.lo; simp; omega) (row .u64 4 m4)).below⟩⟩
            · refine allocO (some 5) rfl #[.int .u64 0, .int .u64 0, .int .u64 0, .int .u64 0] 33 rfl rfl (fun _ => by kernel_rfl) ?_
              have X6 := XB.new K 33
              have NE : v14.heap.size ≠ v3.heap.size := by have := X7.hi; omega
              have X7 := X7.alloc (.cells #[.int .u64 0, .int .u64 0, .int .u64 0, .int .u64 0] 33)
              have K := K.alloc (.cells #[.int .u64 0, .int .u64 0, .int .u64 0, .int .u64 0] 33)
              refine ⟨K, ?_⟩
              simp only [Act.put, List.setIfInBounds_toArray, List.set_cons_zero, List.set_cons_succ]
              generalize v14.alloc (.cells #[.int .u64 0, .int .u64 0, .int .u64 0, .int .u64 0] 33) = v17 at *
              refine wpAnyH_all (rs := [5]) (by kernel_rfl) (by simp) ?_
              intro i hi
              obtain rfl := List.mem_singleton.1 hi
              refine callO (some 14) rfl rfl rfl (fun _ => by kernel_rfl) (least_any m3 s3.1 _ (hg.below K.below hg.size)) ?_
              rintro e v18 ⟨m4, rfl, s4, l⟩
              have K := K.call l
              have X6 := X6.call l
              have X7 := X7.call l
              clear l
              refine ⟨_, rfl, K, ?_⟩
              simp only [Act.put, List.setIfInBounds_toArray, List.set_cons_zero, List.set_cons_succ]
              refine storesH (i := 8) none rfl .u64 4 m2 (v14.heap.size) 33 _ _ (by kernel_rfl) rfl rfl rfl rfl rfl (num_there X6.has) (num_info' _) (K.put _ (by have := X6.lo; omega) (by have := X6.lo; simp; omega) _) ?_
              simp only [Act.put]
              have K := K.put (v14.heap.size) (by have := X6.lo; omega) (by have := X6.lo; simp; omega) (row .u64 4 m2)
              have X7 := X7.put (v14.heap.size) NE (row .u64 4 m2)
              have Y6 := Has.all X6.has.there .u64 m2
              refine storesH (i := 9) none rfl .u64 4 m4 (v3.heap.size) 33 _ _ (by kernel_rfl) rfl rfl rfl rfl rfl (num_there X7.has) (num_info' _) (K.put _ (by have := X7.lo; omega) (by have := X7.lo; simp; omega) _) ?_
              simp only [Act.put]
              refine wpAnyH_done (by kernel_rfl) ?_ _
              exact ⟨rfl, m2, m4, _, _, _, _, _, _, _, _, rfl, ⟨s2.1, s4.1, by rw [s2.2, s1.2], by rw [s4.2, s3.2]⟩, ⟨by decide, by decide, ⟨fun _ j hj => by omega, fun _ => rfl⟩, Y6.setAll_other _ (Ne.symm NE) 0 _, Has.all X7.has.there .u64 m4, (K.put (v3.heap.size) (by have := X7.lo; omega) (by have := X7.lo; simp; omega) (row .u64 4 m4)).below⟩⟩
        · refine allocO (some 5) rfl #[.int .u64 0, .int .u64 0, .int .u64 0, .int .u64 0] 33 rfl rfl (fun _ => by kernel_rfl) ?_
          have X6 := XB.new K 33
          have K := K.alloc (.cells #[.int .u64 0, .int .u64 0, .int .u64 0, .int .u64 0] 33)
          refine ⟨K, ?_⟩
          simp only [Act.put, List.setIfInBounds_toArray, List.set_cons_zero, List.set_cons_succ]
          generalize v2.alloc (.cells #[.int .u64 0, .int .u64 0, .int .u64 0, .int .u64 0] 33) = v19 at *
          refine wpAnyH_all (rs := [4, 7]) (by kernel_rfl) (by simp) ?_
          intro i hi
          simp only [List.mem_cons, List.not_mem_nil, or_false] at hi
          rcases hi with rfl | rfl
          · refine callO (some 13) rfl rfl rfl (fun _ => by kernel_rfl) (load_any b hb _) ?_
            rintro e v20 ⟨m3, rfl, s3, l⟩
            have K := K.call l
            have X6 := X6.call l
            clear l
            refine ⟨_, rfl, K, ?_⟩
            simp only [Act.put, List.setIfInBounds_toArray, List.set_cons_zero, List.set_cons_succ]
            refine wpAnyH_all (rs := [5, 7]) (by kernel_rfl) (by simp) ?_
            intro i hi
            simp only [List.mem_cons, List.not_mem_nil, or_false] at hi
            rcases hi with rfl | rfl
            · refine callO (some 14) rfl rfl rfl (fun _ => by kernel_rfl) (least_any m3 s3.1 _ (hg.below K.below hg.size)) ?_
              rintro e v21 ⟨m4, rfl, s4, l⟩
              have K := K.call l
              have X6 := X6.call l
              clear l
              refine ⟨_, rfl, K, ?_⟩
              simp only [Act.put, List.setIfInBounds_toArray, List.set_cons_zero, List.set_cons_succ]
              refine wpAnyH_all (rs := [7]) (by kernel_rfl) (by simp) ?_
              intro i hi
              obtain rfl := List.mem_singleton.1 hi
              refine allocO (some 6) rfl #[.int .u64 0, .int .u64 0, .int .u64 0, .int .u64 0] 33 rfl rfl (fun _ => by kernel_rfl) ?_
              have X7 := XB.new K 33
              have NE : v2.heap.size ≠ v21.heap.size := by have := X6.hi; omega
              have X6 := X6.alloc (.cells #[.int .u64 0, .int .u64 0, .int .u64 0, .int .u64 0] 33)
              have K := K.alloc (.cells #[.int .u64 0, .int .u64 0, .int .u64 0, .int .u64 0] 33)
              refine ⟨K, ?_⟩
              simp only [Act.put, List.setIfInBounds_toArray, List.set_cons_zero, List.set_cons_succ]
              generalize v21.alloc (.cells #[.int .u64 0, .int .u64 0, .int .u64 0, .int .u64 0] 33) = v22 at *
              refine storesH (i := 8) none rfl .u64 4 m2 (v2.heap.size) 33 _ _ (by kernel_rfl) rfl rfl rfl rfl rfl (num_there X6.has) (num_info' _) (K.put _ (by have := X6.lo; omega) (by have := X6.lo; simp; omega) _) ?_
              simp only [Act.put]
              have K := K.put (v2.heap.size) (by have := X6.lo; omega) (by have := X6.lo; simp; omega) (row .u64 4 m2)
              have X7 := X7.put (v2.heap.size) NE (row .u64 4 m2)
              have Y6 := Has.all X6.has.there .u64 m2
              refine storesH (i := 9) none rfl .u64 4 m4 (v21.heap.size) 33 _ _ (by kernel_rfl) rfl rfl rfl rfl rfl (num_there X7.has) (num_info' _) (K.put _ (by have := X7.lo; omega) (by have := X7.lo; simp; omega) _) ?_
              simp only [Act.put]
              refine wpAnyH_done (by kernel_rfl) ?_ _
              exact ⟨rfl, m2, m4, _, _, _, _, _, _, _, _, rfl, ⟨s2.1, s4.1, by rw [s2.2, s1.2], by rw [s4.2, s3.2]⟩, ⟨by decide, by decide, ⟨fun _ j hj => by omega, fun _ => rfl⟩, Y6.setAll_other _ (Ne.symm NE) 0 _, Has.all X7.has.there .u64 m4, (K.put (v21.heap.size) (by have := X7.lo; omega) (by have := X7.lo; simp; omega) (row .u64 4 m4)).below⟩⟩
            · refine allocO (some 6) rfl #[.int .u64 0, .int .u64 0, .int .u64 0, .int .u64 0] 33 rfl rfl (fun _ => by kernel_rfl) ?_
              have X7 := XB.new K 33
              have NE : v2.heap.size ≠ v20.heap.size := by have := X6.hi; omega
              have X6 := X6.alloc (.cells #[.int .u64 0, .int .u64 0, .int .u64 0, .int .u64 0] 33)
              have K := K.alloc (.cells #[.int .u64 0, .int .u64 0, .int .u64 0, .int .u64 0] 33)
              refine ⟨K, ?_⟩
              simp only [Act.put, List.setIfInBounds_toArray, List.set_cons_zero, List.set_cons_succ]
              generalize v20.alloc (.cells #[.int .u64 0, .int .u64 0, .int .u64 0, .int .u64 0] 33) = v23 at *
              refine wpAnyH_all (rs := [5]) (by kernel_rfl) (by simp) ?_
              intro i hi
              obtain rfl := List.mem_singleton.1 hi
              refine callO (some 14) rfl rfl rfl (fun _ => by kernel_rfl) (least_any m3 s3.1 _ (hg.below K.below hg.size)) ?_
              rintro e v24 ⟨m4, rfl, s4, l⟩
              have K := K.call l
              have X6 := X6.call l
              have X7 := X7.call l
              clear l
              refine ⟨_, rfl, K, ?_⟩
              simp only [Act.put, List.setIfInBounds_toArray, List.set_cons_zero, List.set_cons_succ]
              refine storesH (i := 8) none rfl .u64 4 m2 (v2.heap.size) 33 _ _ (by kernel_rfl) rfl rfl rfl rfl rfl (num_there X6.has) (num_info' _) (K.put _ (by have := X6.lo; omega) (by have := X6.lo; simp; omega) _) ?_
              simp only [Act.put]
              have K := K.put (v2.heap.size) (by have := X6.lo; omega) (by have := X6.lo; simp; omega) (row .u64 4 m2)
              have X7 := X7.put (v2.heap.size) NE (row .u64 4 m2)
              have Y6 := Has.all X6.has.there .u64 m2
              refine storesH (i := 9) none rfl .u64 4 m4 (v20.heap.size) 33 _ _ (by kernel_rfl) rfl rfl rfl rfl rfl (num_there X7.has) (num_info' _) (K.put _ (by have := X7.lo; omega) (by have := X7.lo; simp; omega) _) ?_
              simp only [Act.put]
              refine wpAnyH_done (by kernel_rfl) ?_ _
              exact ⟨rfl, m2, m4, _, _, _, _, _, _, _, _, rfl, ⟨s2.1, s4.1, by rw [s2.2, s1.2], by rw [s4.2, s3.2]⟩, ⟨by decide, by decide, ⟨fun _ j hj => by omega, fun _ => rfl⟩, Y6.setAll_other _ (Ne.symm NE) 0 _, Has.all X7.has.there .u64 m4, (K.put (v20.heap.size) (by have := X7.lo; omega) (by have := X7.lo; simp; omega) (row .u64 4 m4)).below⟩⟩
          · refine allocO (some 6) rfl #[.int .u64 0, .int .u64 0, .int .u64 0, .int .u64 0] 33 rfl rfl (fun _ => by kernel_rfl) ?_
            have X7 := XB.new K 33
            have NE : v2.heap.size ≠ v19.heap.size := by have := X6.hi; omega
            have X6 := X6.alloc (.cells #[.int .u64 0, .int .u64 0, .int .u64 0, .int .u64 0] 33)
            have K := K.alloc (.cells #[.int .u64 0, .int .u64 0, .int .u64 0, .int .u64 0] 33)
            refine ⟨K, ?_⟩
            simp only [Act.put, List.setIfInBounds_toArray, List.set_cons_zero, List.set_cons_succ]
            generalize v19.alloc (.cells #[.int .u64 0, .int .u64 0, .int .u64 0, .int .u64 0] 33) = v25 at *
            refine wpAnyH_all (rs := [4]) (by kernel_rfl) (by simp) ?_
            intro i hi
            obtain rfl := List.mem_singleton.1 hi
            refine callO (some 13) rfl rfl rfl (fun _ => by kernel_rfl) (load_any b hb _) ?_
            rintro e v26 ⟨m3, rfl, s3, l⟩
            have K := K.call l
            have X6 := X6.call l
            have X7 := X7.call l
            clear l
            refine ⟨_, rfl, K, ?_⟩
            simp only [Act.put, List.setIfInBounds_toArray, List.set_cons_zero, List.set_cons_succ]
            refine wpAnyH_all (rs := [5]) (by kernel_rfl) (by simp) ?_
            intro i hi
            obtain rfl := List.mem_singleton.1 hi
            refine callO (some 14) rfl rfl rfl (fun _ => by kernel_rfl) (least_any m3 s3.1 _ (hg.below K.below hg.size)) ?_
            rintro e v27 ⟨m4, rfl, s4, l⟩
            have K := K.call l
            have X6 := X6.call l
            have X7 := X7.call l
            clear l
            refine ⟨_, rfl, K, ?_⟩
            simp only [Act.put, List.setIfInBounds_toArray, List.set_cons_zero, List.set_cons_succ]
            refine storesH (i := 8) none rfl .u64 4 m2 (v2.heap.size) 33 _ _ (by kernel_rfl) rfl rfl rfl rfl rfl (num_there X6.has) (num_info' _) (K.put _ (by have := X6.lo; omega) (by have := X6.lo; simp; omega) _) ?_
            simp only [Act.put]
            have K := K.put (v2.heap.size) (by have := X6.lo; omega) (by have := X6.lo; simp; omega) (row .u64 4 m2)
            have X7 := X7.put (v2.heap.size) NE (row .u64 4 m2)
            have Y6 := Has.all X6.has.there .u64 m2
            refine storesH (i := 9) none rfl .u64 4 m4 (v19.heap.size) 33 _ _ (by kernel_rfl) rfl rfl rfl rfl rfl (num_there X7.has) (num_info' _) (K.put _ (by have := X7.lo; omega) (by have := X7.lo; simp; omega) _) ?_
            simp only [Act.put]
            refine wpAnyH_done (by kernel_rfl) ?_ _
            exact ⟨rfl, m2, m4, _, _, _, _, _, _, _, _, rfl, ⟨s2.1, s4.1, by rw [s2.2, s1.2], by rw [s4.2, s3.2]⟩, ⟨by decide, by decide, ⟨fun _ j hj => by omega, fun _ => rfl⟩, Y6.setAll_other _ (Ne.symm NE) 0 _, Has.all X7.has.there .u64 m4, (K.put (v19.heap.size) (by have := X7.lo; omega) (by have := X7.lo; simp; omega) (row .u64 4 m4)).below⟩⟩
        · refine allocO (some 6) rfl #[.int .u64 0, .int .u64 0, .int .u64 0, .int .u64 0] 33 rfl rfl (fun _ => by kernel_rfl) ?_
          have X7 := XB.new K 33
          have K := K.alloc (.cells #[.int .u64 0, .int .u64 0, .int .u64 0, .int .u64 0] 33)
          refine ⟨K, ?_⟩
          simp only [Act.put, List.setIfInBounds_toArray, List.set_cons_zero, List.set_cons_succ]
          generalize v2.alloc (.cells #[.int .u64 0, .int .u64 0, .int .u64 0, .int .u64 0] 33) = v28 at *
          refine wpAnyH_all (rs := [4, 6]) (by kernel_rfl) (by simp) ?_
          intro i hi
          simp only [List.mem_cons, List.not_mem_nil, or_false] at hi
          rcases hi with rfl | rfl
          · refine callO (some 13) rfl rfl rfl (fun _ => by kernel_rfl) (load_any b hb _) ?_
            rintro e v29 ⟨m3, rfl, s3, l⟩
            have K := K.call l
            have X7 := X7.call l
            clear l
            refine ⟨_, rfl, K, ?_⟩
            simp only [Act.put, List.setIfInBounds_toArray, List.set_cons_zero, List.set_cons_succ]
            refine wpAnyH_all (rs := [5, 6]) (by kernel_rfl) (by simp) ?_
            intro i hi
            simp only [List.mem_cons, List.not_mem_nil, or_false] at hi
            rcases hi with rfl | rfl
            · refine callO (some 14) rfl rfl rfl (fun _ => by kernel_rfl) (least_any m3 s3.1 _ (hg.below K.below hg.size)) ?_
              rintro e v30 ⟨m4, rfl, s4, l⟩
              have K := K.call l
              have X7 := X7.call l
              clear l
              refine ⟨_, rfl, K, ?_⟩
              simp only [Act.put, List.setIfInBounds_toArray, List.set_cons_zero, List.set_cons_succ]
              refine wpAnyH_all (rs := [6]) (by kernel_rfl) (by simp) ?_
              intro i hi
              obtain rfl := List.mem_singleton.1 hi
              refine allocO (some 5) rfl #[.int .u64 0, .int .u64 0, .int .u64 0, .int .u64 0] 33 rfl rfl (fun _ => by kernel_rfl) ?_
              have X6 := XB.new K 33
              have NE : v30.heap.size ≠ v2.heap.size := by have := X7.hi; omega
              have X7 := X7.alloc (.cells #[.int .u64 0, .int .u64 0, .int .u64 0, .int .u64 0] 33)
              have K := K.alloc (.cells #[.int .u64 0, .int .u64 0, .int .u64 0, .int .u64 0] 33)
              refine ⟨K, ?_⟩
              simp only [Act.put, List.setIfInBounds_toArray, List.set_cons_zero, List.set_cons_succ]
              generalize v30.alloc (.cells #[.int .u64 0, .int .u64 0, .int .u64 0, .int .u64 0] 33) = v31 at *
              refine storesH (i := 8) none rfl .u64 4 m2 (v30.heap.size) 33 _ _ (by kernel_rfl) rfl rfl rfl rfl rfl (num_there X6.has) (num_info' _) (K.put _ (by have := X6.lo; omega) (by have := X6.lo; simp; omega) _) ?_
              simp only [Act.put]
              have K := K.put (v30.heap.size) (by have := X6.lo; omega) (by have := X6.lo; simp; omega) (row .u64 4 m2)
              have X7 := X7.put (v30.heap.size) NE (row .u64 4 m2)
              have Y6 := Has.all X6.has.there .u64 m2
              refine storesH (i := 9) none rfl .u64 4 m4 (v2.heap.size) 33 _ _ (by kernel_rfl) rfl rfl rfl rfl rfl (num_there X7.has) (num_info' _) (K.put _ (by have := X7.lo; omega) (by have := X7.lo; simp; omega) _) ?_
              simp only [Act.put]
              refine wpAnyH_done (by kernel_rfl) ?_ _
              exact ⟨rfl, m2, m4, _, _, _, _, _, _, _, _, rfl, ⟨s2.1, s4.1, by rw [s2.2, s1.2], by rw [s4.2, s3.2]⟩, ⟨by decide, by decide, ⟨fun _ j hj => by omega, fun _ => rfl⟩, Y6.setAll_other _ (Ne.symm NE) 0 _, Has.all X7.has.there .u64 m4, (K.put (v2.heap.size) (by have := X7.lo; omega) (by have := X7.lo; simp; omega) (row .u64 4 m4)).below⟩⟩
            · refine allocO (some 5) rfl #[.int .u64 0, .int .u64 0, .int .u64 0, .int .u64 0] 33 rfl rfl (fun _ => by kernel_rfl) ?_
              have X6 := XB.new K 33
              have NE : v29.heap.size ≠ v2.heap.size := by have := X7.hi; omega
              have X7 := X7.alloc (.cells #[.int .u64 0, .int .u64 0, .int .u64 0, .int .u64 0] 33)
              have K := K.alloc (.cells #[.int .u64 0, .int .u64 0, .int .u64 0, .int .u64 0] 33)
              refine ⟨K, ?_⟩
              simp only [Act.put, List.setIfInBounds_toArray, List.set_cons_zero, List.set_cons_succ]
              generalize v29.alloc (.cells #[.int .u64 0, .int .u64 0, .int .u64 0, .int .u64 0] 33) = v32 at *
              refine wpAnyH_all (rs := [5]) (by kernel_rfl) (by simp) ?_
              intro i hi
              obtain rfl := List.mem_singleton.1 hi
              refine callO (some 14) rfl rfl rfl (fun _ => by kernel_rfl) (least_any m3 s3.1 _ (hg.below K.below hg.size)) ?_
              rintro e v33 ⟨m4, rfl, s4, l⟩
              have K := K.call l
              have X6 := X6.call l
              have X7 := X7.call l
              clear l
              refine ⟨_, rfl, K, ?_⟩
              simp only [Act.put, List.setIfInBounds_toArray, List.set_cons_zero, List.set_cons_succ]
              refine storesH (i := 8) none rfl .u64 4 m2 (v29.heap.size) 33 _ _ (by kernel_rfl) rfl rfl rfl rfl rfl (num_there X6.has) (num_info' _) (K.put _ (by have := X6.lo; omega) (by have := X6.lo; simp; omega) _) ?_
              simp only [Act.put]
              have K := K.put (v29.heap.size) (by have := X6.lo; omega) (by have := X6.lo; simp; omega) (row .u64 4 m2)
              have X7 := X7.put (v29.heap.size) NE (row .u64 4 m2)
              have Y6 := Has.all X6.has.there .u64 m2
              refine storesH (i := 9) none rfl .u64 4 m4 (v2.heap.size) 33 _ _ (by kernel_rfl) rfl rfl rfl rfl rfl (num_there X7.has) (num_info' _) (K.put _ (by have := X7.lo; omega) (by have := X7.lo; simp; omega) _) ?_
              simp only [Act.put]
              refine wpAnyH_done (by kernel_rfl) ?_ _
              exact ⟨rfl, m2, m4, _, _, _, _, _, _, _, _, rfl, ⟨s2.1, s4.1, by rw [s2.2, s1.2], by rw [s4.2, s3.2]⟩, ⟨by decide, by decide, ⟨fun _ j hj => by omega, fun _ => rfl⟩, Y6.setAll_other _ (Ne.symm NE) 0 _, Has.all X7.has.there .u64 m4, (K.put (v2.heap.size) (by have := X7.lo; omega) (by have := X7.lo; simp; omega) (row .u64 4 m4)).below⟩⟩
          · refine allocO (some 5) rfl #[.int .u64 0, .int .u64 0, .int .u64 0, .int .u64 0] 33 rfl rfl (fun _ => by kernel_rfl) ?_
            have X6 := XB.new K 33
            have NE : v28.heap.size ≠ v2.heap.size := by have := X7.hi; omega
            have X7 := X7.alloc (.cells #[.int .u64 0, .int .u64 0, .int .u64 0, .int .u64 0] 33)
            have K := K.alloc (.cells #[.int .u64 0, .int .u64 0, .int .u64 0, .int .u64 0] 33)
            refine ⟨K, ?_⟩
            simp only [Act.put, List.setIfInBounds_toArray, List.set_cons_zero, List.set_cons_succ]
            generalize v28.alloc (.cells #[.int .u64 0, .int .u64 0, .int .u64 0, .int .u64 0] 33) = v34 at *
            refine wpAnyH_all (rs := [4]) (by kernel_rfl) (by simp) ?_
            intro i hi
            obtain rfl := List.mem_singleton.1 hi
            refine callO (some 13) rfl rfl rfl (fun _ => by kernel_rfl) (load_any b hb _) ?_
            rintro e v35 ⟨m3, rfl, s3, l⟩
            have K := K.call l
            have X6 := X6.call l
            have X7 := X7.call l
            clear l
            refine ⟨_, rfl, K, ?_⟩
            simp only [Act.put, List.setIfInBounds_toArray, List.set_cons_zero, List.set_cons_succ]
            refine wpAnyH_all (rs := [5]) (by kernel_rfl) (by simp) ?_
            intro i hi
            obtain rfl := List.mem_singleton.1 hi
            refine callO (some 14) rfl rfl rfl (fun _ => by kernel_rfl) (least_any m3 s3.1 _ (hg.below K.below hg.size)) ?_
            rintro e v36 ⟨m4, rfl, s4, l⟩
            have K := K.call l
            have X6 := X6.call l
            have X7 := X7.call l
            clear l
            refine ⟨_, rfl, K, ?_⟩
            simp only [Act.put, List.setIfInBounds_toArray, List.set_cons_zero, List.set_cons_succ]
            refine storesH (i := 8) none rfl .u64 4 m2 (v28.heap.size) 33 _ _ (by kernel_rfl) rfl rfl rfl rfl rfl (num_there X6.has) (num_info' _) (K.put _ (by have := X6.lo; omega) (by have := X6.lo; simp; omega) _) ?_
            simp only [Act.put]
            have K := K.put (v28.heap.size) (by have := X6.lo; omega) (by have := X6.lo; simp; omega) (row .u64 4 m2)
            have X7 := X7.put (v28.heap.size) NE (row .u64 4 m2)
            have Y6 := Has.all X6.has.there .u64 m2
            refine storesH (i := 9) none rfl .u64 4 m4 (v2.heap.size) 33 _ _ (by kernel_rfl) rfl rfl rfl rfl rfl (num_there X7.has) (num_info' _) (K.put _ (by have := X7.lo; omega) (by have := X7.lo; simp; omega) _) ?_
            simp only [Act.put]
            refine wpAnyH_done (by kernel_rfl) ?_ _
            exact ⟨rfl, m2, m4, _, _, _, _, _, _, _, _, rfl, ⟨s2.1, s4.1, by rw [s2.2, s1.2], by rw [s4.2, s3.2]⟩, ⟨by decide, by decide, ⟨fun _ j hj => by omega, fun _ => rfl⟩, Y6.setAll_other _ (Ne.symm NE) 0 _, Has.all X7.has.there .u64 m4, (K.put (v2.heap.size) (by have := X7.lo; omega) (by have := X7.lo; simp; omega) (row .u64 4 m4)).below⟩⟩
      · refine allocO (some 5) rfl #[.int .u64 0, .int .u64 0, .int .u64 0, .int .u64 0] 33 rfl rfl (fun _ => by kernel_rfl) ?_
        have X6 := XB.new K 33
        have K := K.alloc (.cells #[.int .u64 0, .int .u64 0, .int .u64 0, .int .u64 0] 33)
        refine ⟨K, ?_⟩
        simp only [Act.put, List.setIfInBounds_toArray, List.set_cons_zero, List.set_cons_succ]
        generalize v1.alloc (.cells #[.int .u64 0, .int .u64 0, .int .u64 0, .int .u64 0] 33) = v37 at *
        refine wpAnyH_all (rs := [2, 7]) (by kernel_rfl) (by simp) ?_
        intro i hi
        simp only [List.mem_cons, List.not_mem_nil, or_false] at hi
        rcases hi with rfl | rfl
        · refine callO (some 11) rfl rfl rfl (fun _ => by kernel_rfl) (least_any m1 s1.1 _ (hg.below K.below hg.size)) ?_
          rintro e v38 ⟨m2, rfl, s2, l⟩
          have K := K.call l
          have X6 := X6.call l
          clear l
          refine ⟨_, rfl, K, ?_⟩
          simp only [Act.put, List.setIfInBounds_toArray, List.set_cons_zero, List.set_cons_succ]
          refine wpAnyH_all (rs := [4, 7]) (by kernel_rfl) (by simp) ?_
          intro i hi
          simp only [List.mem_cons, List.not_mem_nil, or_false] at hi
          rcases hi with rfl | rfl
          · refine callO (some 13) rfl rfl rfl (fun _ => by kernel_rfl) (load_any b hb _) ?_
            rintro e v39 ⟨m3, rfl, s3, l⟩
            have K := K.call l
            have X6 := X6.call l
            clear l
            refine ⟨_, rfl, K, ?_⟩
            simp only [Act.put, List.setIfInBounds_toArray, List.set_cons_zero, List.set_cons_succ]
            refine wpAnyH_all (rs := [5, 7]) (by kernel_rfl) (by simp) ?_
            intro i hi
            simp only [List.mem_cons, List.not_mem_nil, or_false] at hi
            rcases hi with rfl | rfl
            · refine callO (some 14) rfl rfl rfl (fun _ => by kernel_rfl) (least_any m3 s3.1 _ (hg.below K.below hg.size)) ?_
              rintro e v40 ⟨m4, rfl, s4, l⟩
              have K := K.call l
              have X6 := X6.call l
              clear l
              refine ⟨_, rfl, K, ?_⟩
              simp only [Act.put, List.setIfInBounds_toArray, List.set_cons_zero, List.set_cons_succ]
              refine wpAnyH_all (rs := [7]) (by kernel_rfl) (by simp) ?_
              intro i hi
              obtain rfl := List.mem_singleton.1 hi
              refine allocO (some 6) rfl #[.int .u64 0, .int .u64 0, .int .u64 0, .int .u64 0] 33 rfl rfl (fun _ => by kernel_rfl) ?_
              have X7 := XB.new K 33
              have NE : v1.heap.size ≠ v40.heap.size := by have := X6.hi; omega
              have X6 := X6.alloc (.cells #[.int .u64 0, .int .u64 0, .int .u64 0, .int .u64 0] 33)
              have K := K.alloc (.cells #[.int .u64 0, .int .u64 0, .int .u64 0, .int .u64 0] 33)
              refine ⟨K, ?_⟩
              simp only [Act.put, List.setIfInBounds_toArray, List.set_cons_zero, List.set_cons_succ]
              generalize v40.alloc (.cells #[.int .u64 0, .int .u64 0, .int .u64 0, .int .u64 0] 33) = v41 at *
              refine storesH (i := 8) none rfl .u64 4 m2 (v1.heap.size) 33 _ _ (by kernel_rfl) rfl rfl rfl rfl rfl (num_there X6.has) (num_info' _) (K.put _ (by have := X6.lo; omega) (by have := X6.lo; simp; omega) _) ?_
              simp only [Act.put]
              have K := K.put (v1.heap.size) (by have := X6.lo; omega) (by have := X6.lo; simp; omega) (row .u64 4 m2)
              have X7 := X7.put (v1.heap.size) NE (row .u64 4 m2)
              have Y6 := Has.all X6.has.there .u64 m2
              refine storesH (i := 9) none rfl .u64 4 m4 (v40.heap.size) 33 _ _ (by kernel_rfl) rfl rfl rfl rfl rfl (num_there X7.has) (num_info' _) (K.put _ (by have := X7.lo; omega) (by have := X7.lo; simp; omega) _) ?_
              simp only [Act.put]
              refine wpAnyH_done (by kernel_rfl) ?_ _
              exact ⟨rfl, m2, m4, _, _, _, _, _, _, _, _, rfl, ⟨s2.1, s4.1, by rw [s2.2, s1.2], by rw [s4.2, s3.2]⟩, ⟨by decide, by decide, ⟨fun _ j hj => by omega, fun _ => rfl⟩, Y6.setAll_other _ (Ne.symm NE) 0 _, Has.all X7.has.there .u64 m4, (K.put (v40.heap.size) (by have := X7.lo; omega) (by have := X7.lo; simp; omega) (row .u64 4 m4)).below⟩⟩
            · refine allocO (some 6) rfl #[.int .u64 0, .int .u64 0, .int .u64 0, .int .u64 0] 33 rfl rfl (fun _ => by kernel_rfl) ?_
              have X7 := XB.new K 33
              have NE : v1.heap.size ≠ v39.heap.size := by have := X6.hi; omega
              have X6 := X6.alloc (.cells #[.int .u64 0, .int .u64 0, .int .u64 0, .int .u64 0] 33)
              have K := K.alloc (.cells #[.int .u64 0, .int .u64 0, .int .u64 0, .int .u64 0] 33)
              refine ⟨K, ?_⟩
              simp only [Act.put, List.setIfInBounds_toArray, List.set_cons_zero, List.set_cons_succ]
              generalize v39.alloc (.cells #[.int .u64 0, .int .u64 0, .int .u64 0, .int .u64 0] 33) = v42 at *
              refine wpAnyH_all (rs := [5]) (by kernel_rfl) (by simp) ?_
              intro i hi
              obtain rfl := List.mem_singleton.1 hi
              refine callO (some 14) rfl rfl rfl (fun _ => by kernel_rfl) (least_any m3 s3.1 _ (hg.below K.below hg.size)) ?_
              rintro e v43 ⟨m4, rfl, s4, l⟩
              have K := K.call l
              have X6 := X6.call l
              have X7 := X7.call l
              clear l
              refine ⟨_, rfl, K, ?_⟩
              simp only [Act.put, List.setIfInBounds_toArray, List.set_cons_zero, List.set_cons_succ]
              refine storesH (i := 8) none rfl .u64 4 m2 (v1.heap.size) 33 _ _ (by kernel_rfl) rfl rfl rfl rfl rfl (num_there X6.has) (num_info' _) (K.put _ (by have := X6.lo; omega) (by have := X6.lo; simp; omega) _) ?_
              simp only [Act.put]
              have K := K.put (v1.heap.size) (by have := X6.lo; omega) (by have := X6.lo; simp; omega) (row .u64 4 m2)
              have X7 := X7.put (v1.heap.size) NE (row .u64 4 m2)
              have Y6 := Has.all X6.has.there .u64 m2
              refine storesH (i := 9) none rfl .u64 4 m4 (v39.heap.size) 33 _ _ (by kernel_rfl) rfl rfl rfl rfl rfl (num_there X7.has) (num_info' _) (K.put _ (by have := X7.lo; omega) (by have := X7.lo; simp; omega) _) ?_
              simp only [Act.put]
              refine wpAnyH_done (by kernel_rfl) ?_ _
              exact ⟨rfl, m2, m4, _, _, _, _, _, _, _, _, rfl, ⟨s2.1, s4.1, by rw [s2.2, s1.2], by rw [s4.2, s3.2]⟩, ⟨by decide, by decide, ⟨fun _ j hj => by omega, fun _ => rfl⟩, Y6.setAll_other _ (Ne.symm NE) 0 _, Has.all X7.has.there .u64 m4, (K.put (v39.heap.size) (by have := X7.lo; omega) (by have := X7.lo; simp; omega) (row .u64 4 m4)).below⟩⟩
          · refine allocO (some 6) rfl #[.int .u64 0, .int .u64 0, .int .u64 0, .int .u64 0] 33 rfl rfl (fun _ => by kernel_rfl) ?_
            have X7 := XB.new K 33
            have NE : v1.heap.size ≠ v38.heap.size := by have := X6.hi; omega
            have X6 := X6.alloc (.cells #[.int .u64 0, .int .u64 0, .int .u64 0, .int .u64 0] 33)
            have K := K.alloc (.cells #[.int .u64 0, .int .u64 0, .int .u64 0, .int .u64 0] 33)
            refine ⟨K, ?_⟩
            simp only [Act.put, List.setIfInBounds_toArray, List.set_cons_zero, List.set_cons_succ]
            generalize v38.alloc (.cells #[.int .u64 0, .int .u64 0, .int .u64 0, .int .u64 0] 33) = v44 at *
            refine wpAnyH_all (rs := [4]) (by kernel_rfl) (by simp) ?_
            intro i hi
            obtain rfl := List.mem_singleton.1 hi
            refine callO (some 13) rfl rfl rfl (fun _ => by kernel_rfl) (load_any b hb _) ?_
            rintro e v45 ⟨m3, rfl, s3, l⟩
            have K := K.call l
            have X6 := X6.call l
            have X7 := X7.call l
            clear l
            refine ⟨_, rfl, K, ?_⟩
            simp only [Act.put, List.setIfInBounds_toArray, List.set_cons_zero, List.set_cons_succ]
            refine wpAnyH_all (rs := [5]) (by kernel_rfl) (by simp) ?_
            intro i hi
            obtain rfl := List.mem_singleton.1 hi
            refine callO (some 14) rfl rfl rfl (fun _ => by kernel_rfl) (least_any m3 s3.1 _ (hg.below K.below hg.size)) ?_
            rintro e v46 ⟨m4, rfl, s4, l⟩
            have K := K.call l
            have X6 := X6.call l
            have X7 := X7.call l
            clear l
            refine ⟨_, rfl, K, ?_⟩
            simp only [Act.put, List.setIfInBounds_toArray, List.set_cons_zero, List.set_cons_succ]
            refine storesH (i := 8) none rfl .u64 4 m2 (v1.heap.size) 33 _ _ (by kernel_rfl) rfl rfl rfl rfl rfl (num_there X6.has) (num_info' _) (K.put _ (by have := X6.lo; omega) (by have := X6.lo; simp; omega) _) ?_
            simp only [Act.put]
            have K := K.put (v1.heap.size) (by have := X6.lo; omega) (by have := X6.lo; simp; omega) (row .u64 4 m2)
            have X7 := X7.put (v1.heap.size) NE (row .u64 4 m2)
            have Y6 := Has.all X6.has.there .u64 m2
            refine storesH (i := 9) none rfl .u64 4 m4 (v38.heap.size) 33 _ _ (by kernel_rfl) rfl rfl rfl rfl rfl (num_there X7.has) (num_info' _) (K.put _ (by have := X7.lo; omega) (by have := X7.lo; simp; omega) _) ?_
            simp only [Act.put]
            refine wpAnyH_done (by kernel_rfl) ?_ _
            exact ⟨rfl, m2, m4, _, _, _, _, _, _, _, _, rfl, ⟨s2.1, s4.1, by rw [s2.2, s1.2], by rw [s4.2, s3.2]⟩, ⟨by decide, by decide, ⟨fun _ j hj => by omega, fun _ => rfl⟩, Y6.setAll_other _ (Ne.symm NE) 0 _, Has.all X7.has.there .u64 m4, (K.put (v38.heap.size) (by have := X7.lo; omega) (by have := X7.lo; simp; omega) (row .u64 4 m4)).below⟩⟩
        · refine allocO (some 6) rfl #[.int .u64 0, .int .u64 0, .int .u64 0, .int .u64 0] 33 rfl rfl (fun _ => by kernel_rfl) ?_
          have X7 := XB.new K 33
          have NE : v1.heap.size ≠ v37.heap.size := by have := X6.hi; omega
          have X6 := X6.alloc (.cells #[.int .u64 0, .int .u64 0, .int .u64 0, .int .u64 0] 33)
          have K := K.alloc (.cells #[.int .u64 0, .int .u64 0, .int .u64 0, .int .u64 0] 33)
          refine ⟨K, ?_⟩
          simp only [Act.put, List.setIfInBounds_toArray, List.set_cons_zero, List.set_cons_succ]
          generalize v37.alloc (.cells #[.int .u64 0, .int .u64 0, .int .u64 0, .int .u64 0] 33) = v47 at *
          refine wpAnyH_all (rs := [2]) (by kernel_rfl) (by simp) ?_
          intro i hi
          obtain rfl := List.mem_singleton.1 hi
          refine callO (some 11) rfl rfl rfl (fun _ => by kernel_rfl) (least_any m1 s1.1 _ (hg.below K.below hg.size)) ?_
          rintro e v48 ⟨m2, rfl, s2, l⟩
          have K := K.call l
          have X6 := X6.call l
          have X7 := X7.call l
          clear l
          refine ⟨_, rfl, K, ?_⟩
          simp only [Act.put, List.setIfInBounds_toArray, List.set_cons_zero, List.set_cons_succ]
          refine wpAnyH_all (rs := [4]) (by kernel_rfl) (by simp) ?_
          intro i hi
          obtain rfl := List.mem_singleton.1 hi
          refine callO (some 13) rfl rfl rfl (fun _ => by kernel_rfl) (load_any b hb _) ?_
          rintro e v49 ⟨m3, rfl, s3, l⟩
          have K := K.call l
          have X6 := X6.call l
          have X7 := X7.call l
          clear l
          refine ⟨_, rfl, K, ?_⟩
          simp only [Act.put, List.setIfInBounds_toArray, List.set_cons_zero, List.set_cons_succ]
          refine wpAnyH_all (rs := [5]) (by kernel_rfl) (by simp) ?_
          intro i hi
          obtain rfl := List.mem_singleton.1 hi
          refine callO (some 14) rfl rfl rfl (fun _ => by kernel_rfl) (least_any m3 s3.1 _ (hg.below K.below hg.size)) ?_
          rintro e v50 ⟨m4, rfl, s4, l⟩
          have K := K.call l
          have X6 := X6.call l
          have X7 := X7.call l
          clear l
          refine ⟨_, rfl, K, ?_⟩
          simp only [Act.put, List.setIfInBounds_toArray, List.set_cons_zero, List.set_cons_succ]
          refine storesH (i := 8) none rfl .u64 4 m2 (v1.heap.size) 33 _ _ (by kernel_rfl) rfl rfl rfl rfl rfl (num_there X6.has) (num_info' _) (K.put _ (by have := X6.lo; omega) (by have := X6.lo; simp; omega) _) ?_
          simp only [Act.put]
          have K := K.put (v1.heap.size) (by have := X6.lo; omega) (by have := X6.lo; simp; omega) (row .u64 4 m2)
          have X7 := X7.put (v1.heap.size) NE (row .u64 4 m2)
          have Y6 := Has.all X6.has.there .u64 m2
          refine storesH (i := 9) none rfl .u64 4 m4 (v37.heap.size) 33 _ _ (by kernel_rfl) rfl rfl rfl rfl rfl (num_there X7.has) (num_info' _) (K.put _ (by have := X7.lo; omega) (by have := X7.lo; simp; omega) _) ?_
          simp only [Act.put]
          refine wpAnyH_done (by kernel_rfl) ?_ _
          exact ⟨rfl, m2, m4, _, _, _, _, _, _, _, _, rfl, ⟨s2.1, s4.1, by rw [s2.2, s1.2], by rw [s4.2, s3.2]⟩, ⟨by decide, by decide, ⟨fun _ j hj => by omega, fun _ => rfl⟩, Y6.setAll_other _ (Ne.symm NE) 0 _, Has.all X7.has.there .u64 m4, (K.put (v37.heap.size) (by have := X7.lo; omega) (by have := X7.lo; simp; omega) (row .u64 4 m4)).below⟩⟩
      · refine allocO (some 6) rfl #[.int .u64 0, .int .u64 0, .int .u64 0, .int .u64 0] 33 rfl rfl (fun _ => by kernel_rfl) ?_
        have X7 := XB.new K 33
        have K := K.alloc (.cells #[.int .u64 0, .int .u64 0, .int .u64 0, .int .u64 0] 33)
        refine ⟨K, ?_⟩
        simp only [Act.put, List.setIfInBounds_toArray, List.set_cons_zero, List.set_cons_succ]
        generalize v1.alloc (.cells #[.int .u64 0, .int .u64 0, .int .u64 0, .int .u64 0] 33) = v51 at *
        refine wpAnyH_all (rs := [2, 6]) (by kernel_rfl) (by simp) ?_
        intro i hi
        simp only [List.mem_cons, List.not_mem_nil, or_false] at hi
        rcases hi with rfl | rfl
        · refine callO (some 11) rfl rfl rfl (fun _ => by kernel_rfl) (least_any m1 s1.1 _ (hg.below K.below hg.size)) ?_
          rintro e v52 ⟨m2, rfl, s2, l⟩
          have K := K.call l
          have X7 := X7.call l
          clear l
          refine ⟨_, rfl, K, ?_⟩
          simp only [Act.put, List.setIfInBounds_toArray, List.set_cons_zero, List.set_cons_succ]
          refine wpAnyH_all (rs := [4, 6]) (by kernel_rfl) (by simp) ?_
          intro i hi
          simp only [List.mem_cons, List.not_mem_nil, or_false] at hi
          rcases hi with rfl | rfl
          · refine callO (some 13) rfl rfl rfl (fun _ => by kernel_rfl) (load_any b hb _) ?_
            rintro e v53 ⟨m3, rfl, s3, l⟩
            have K := K.call l
            have X7 := X7.call l
            clear l
            refine ⟨_, rfl, K, ?_⟩
            simp only [Act.put, List.setIfInBounds_toArray, List.set_cons_zero, List.set_cons_succ]
            refine wpAnyH_all (rs := [5, 6]) (by kernel_rfl) (by simp) ?_
            intro i hi
            simp only [List.mem_cons, List.not_mem_nil, or_false] at hi
            rcases hi with rfl | rfl
            · refine callO (some 14) rfl rfl rfl (fun _ => by kernel_rfl) (least_any m3 s3.1 _ (hg.below K.below hg.size)) ?_
              rintro e v54 ⟨m4, rfl, s4, l⟩
              have K := K.call l
              have X7 := X7.call l
              clear l
              refine ⟨_, rfl, K, ?_⟩
              simp only [Act.put, List.setIfInBounds_toArray, List.set_cons_zero, List.set_cons_succ]
              refine wpAnyH_all (rs := [6]) (by kernel_rfl) (by simp) ?_
              intro i hi
              obtain rfl := List.mem_singleton.1 hi
              refine allocO (some 5) rfl #[.int .u64 0, .int .u64 0, .int .u64 0, .int .u64 0] 33 rfl rfl (fun _ => by kernel_rfl) ?_
              have X6 := XB.new K 33
              have NE : v54.heap.size ≠ v1.heap.size := by have := X7.hi; omega
              have X7 := X7.alloc (.cells #[.int .u64 0, .int .u64 0, .int .u64 0, .int .u64 0] 33)
              have K := K.alloc (.cells #[.int .u64 0, .int .u64 0, .int .u64 0, .int .u64 0] 33)
              refine ⟨K, ?_⟩
              simp only [Act.put, List.setIfInBounds_toArray, List.set_cons_zero, List.set_cons_succ]
              generalize v54.alloc (.cells #[.int .u64 0, .int .u64 0, .int .u64 0, .int .u64 0] 33) = v55 at *
              refine storesH (i := 8) none rfl .u64 4 m2 (v54.heap.size) 33 _ _ (by kernel_rfl) rfl rfl rfl rfl rfl (num_there X6.has) (num_info' _) (K.put _ (by have := X6.lo; omega) (by have := X6.lo; simp; omega) _) ?_
              simp only [Act.put]
              have K := K.put (v54.heap.size) (by have := X6.lo; omega) (by have := X6.lo; simp; omega) (row .u64 4 m2)
              have X7 := X7.put (v54.heap.size) NE (row .u64 4 m2)
              have Y6 := Has.all X6.has.there .u64 m2
              refine storesH (i := 9) none rfl .u64 4 m4 (v1.heap.size) 33 _ _ (by kernel_rfl) rfl rfl rfl rfl rfl (num_there X7.has) (num_info' _) (K.put _ (by have := X7.lo; omega) (by have := X7.lo; simp; omega) _) ?_
              simp only [Act.put]
              refine wpAnyH_done (by kernel_rfl) ?_ _
              exact ⟨rfl, m2, m4, _, _, _, _, _, _, _, _, rfl, ⟨s2.1, s4.1, by rw [s2.2, s1.2], by rw [s4.2, s3.2]⟩, ⟨by decide, by decide, ⟨fun _ j hj => by omega, fun _ => rfl⟩, Y6.setAll_other _ (Ne.symm NE) 0 _, Has.all X7.has.there .u64 m4, (K.put (v1.heap.size) (by have := X7.lo; omega) (by have := X7.lo; simp; omega) (row .u64 4 m4)).below⟩⟩
            · refine allocO (some 5) rfl #[.int .u64 0, .int .u64 0, .int .u64 0, .int .u64 0] 33 rfl rfl (fun _ => by kernel_rfl) ?_
              have X6 := XB.new K 33
              have NE : v53.heap.size ≠ v1.heap.size := by have := X7.hi; omega
              have X7 := X7.alloc (.cells #[.int .u64 0, .int .u64 0, .int .u64 0, .int .u64 0] 33)
              have K := K.alloc (.cells #[.int .u64 0, .int .u64 0, .int .u64 0, .int .u64 0] 33)
              refine ⟨K, ?_⟩
              simp only [Act.put, List.setIfInBounds_toArray, List.set_cons_zero, List.set_cons_succ]
              generalize v53.alloc (.cells #[.int .u64 0, .int .u64 0, .int .u64 0, .int .u64 0] 33) = v56 at *
              refine wpAnyH_all (rs := [5]) (by kernel_rfl) (by simp) ?_
              intro i hi
              obtain rfl := List.mem_singleton.1 hi
              refine callO (some 14) rfl rfl rfl (fun _ => by kernel_rfl) (least_any m3 s3.1 _ (hg.below K.below hg.size)) ?_
              rintro e v57 ⟨m4, rfl, s4, l⟩
              have K := K.call l
              have X6 := X6.call l
              have X7 := X7.call l
              clear l
              refine ⟨_, rfl, K, ?_⟩
              simp only [Act.put, List.setIfInBounds_toArray, List.set_cons_zero, List.set_cons_succ]
              refine storesH (i := 8) none rfl .u64 4 m2 (v53.heap.size) 33 _ _ (by kernel_rfl) rfl rfl rfl rfl rfl (num_there X6.has) (num_info' _) (K.put _ (by have := X6.lo; omega) (by have := X6.lo; simp; omega) _) ?_
              simp only [Act.put]
              have K := K.put (v53.heap.size) (by have := X6.lo; omega) (by have := X6.lo; simp; omega) (row .u64 4 m2)
              have X7 := X7.put (v53.heap.size) NE (row .u64 4 m2)
              have Y6 := Has.all X6.has.there .u64 m2
              refine storesH (i := 9) none rfl .u64 4 m4 (v1.heap.size) 33 _ _ (by kernel_rfl) rfl rfl rfl rfl rfl (num_there X7.has) (num_info' _) (K.put _ (by have := X7.lo; omega) (by have := X7.lo; simp; omega) _) ?_
              simp only [Act.put]
              refine wpAnyH_done (by kernel_rfl) ?_ _
              exact ⟨rfl, m2, m4, _, _, _, _, _, _, _, _, rfl, ⟨s2.1, s4.1, by rw [s2.2, s1.2], by rw [s4.2, s3.2]⟩, ⟨by decide, by decide, ⟨fun _ j hj => by omega, fun _ => rfl⟩, Y6.setAll_other _ (Ne.symm NE) 0 _, Has.all X7.has.there .u64 m4, (K.put (v1.heap.size) (by have := X7.lo; omega) (by have := X7.lo; simp; omega) (row .u64 4 m4)).below⟩⟩
          · refine allocO (some 5) rfl #[.int .u64 0, .int .u64 0, .int .u64 0, .int .u64 0] 33 rfl rfl (fun _ => by kernel_rfl) ?_
            have X6 := XB.new K 33
            have NE : v52.heap.size ≠ v1.heap.size := by have := X7.hi; omega
            have X7 := X7.alloc (.cells #[.int .u64 0, .int .u64 0, .int .u64 0, .int .u64 0] 33)
            have K := K.alloc (.cells #[.int .u64 0, .int .u64 0, .int .u64 0, .int .u64 0] 33)
            refine ⟨K, ?_⟩
            simp only [Act.put, List.setIfInBounds_toArray, List.set_cons_zero, List.set_cons_succ]
            generalize v52.alloc (.cells #[.int .u64 0, .int .u64 0, .int .u64 0, .int .u64 0] 33) = v58 at *
            refine wpAnyH_all (rs := [4]) (by kernel_rfl) (by simp) ?_
            intro i hi
            obtain rfl := List.mem_singleton.1 hi
            refine callO (some 13) rfl rfl rfl (fun _ => by kernel_rfl) (load_any b hb _) ?_
            rintro e v59 ⟨m3, rfl, s3, l⟩
            have K := K.call l
            have X6 := X6.call l
            have X7 := X7.call l
            clear l
            refine ⟨_, rfl, K, ?_⟩
            simp only [Act.put, List.setIfInBounds_toArray, List.set_cons_zero, List.set_cons_succ]
            refine wpAnyH_all (rs := [5]) (by kernel_rfl) (by simp) ?_
            intro i hi
            obtain rfl := List.mem_singleton.1 hi
            refine callO (some 14) rfl rfl rfl (fun _ => by kernel_rfl) (least_any m3 s3.1 _ (hg.below K.below hg.size)) ?_
            rintro e v60 ⟨m4, rfl, s4, l⟩
            have K := K.call l
            have X6 := X6.call l
            have X7 := X7.call l
            clear l
            refine ⟨_, rfl, K, ?_⟩
            simp only [Act.put, List.setIfInBounds_toArray, List.set_cons_zero, List.set_cons_succ]
            refine storesH (i := 8) none rfl .u64 4 m2 (v52.heap.size) 33 _ _ (by kernel_rfl) rfl rfl rfl rfl rfl (num_there X6.has) (num_info' _) (K.put _ (by have := X6.lo; omega) (by have := X6.lo; simp; omega) _) ?_
            simp only [Act.put]
            have K := K.put (v52.heap.size) (by have := X6.lo; omega) (by have := X6.lo; simp; omega) (row .u64 4 m2)
            have X7 := X7.put (v52.heap.size) NE (row .u64 4 m2)
            have Y6 := Has.all X6.has.there .u64 m2
            refine storesH (i := 9) none rfl .u64 4 m4 (v1.heap.size) 33 _ _ (by kernel_rfl) rfl rfl rfl rfl rfl (num_there X7.has) (num_info' _) (K.put _ (by have := X7.lo; omega) (by have := X7.lo; simp; omega) _) ?_
            simp only [Act.put]
            refine wpAnyH_done (by kernel_rfl) ?_ _
            exact ⟨rfl, m2, m4, _, _, _, _, _, _, _, _, rfl, ⟨s2.1, s4.1, by rw [s2.2, s1.2], by rw [s4.2, s3.2]⟩, ⟨by decide, by decide, ⟨fun _ j hj => by omega, fun _ => rfl⟩, Y6.setAll_other _ (Ne.symm NE) 0 _, Has.all X7.has.there .u64 m4, (K.put (v1.heap.size) (by have := X7.lo; omega) (by have := X7.lo; simp; omega) (row .u64 4 m4)).below⟩⟩
        · refine allocO (some 5) rfl #[.int .u64 0, .int .u64 0, .int .u64 0, .int .u64 0] 33 rfl rfl (fun _ => by kernel_rfl) ?_
          have X6 := XB.new K 33
          have NE : v51.heap.size ≠ v1.heap.size := by have := X7.hi; omega
          have X7 := X7.alloc (.cells #[.int .u64 0, .int .u64 0, .int .u64 0, .int .u64 0] 33)
          have K := K.alloc (.cells #[.int .u64 0, .int .u64 0, .int .u64 0, .int .u64 0] 33)
          refine ⟨K, ?_⟩
          simp only [Act.put, List.setIfInBounds_toArray, List.set_cons_zero, List.set_cons_succ]
          generalize v51.alloc (.cells #[.int .u64 0, .int .u64 0, .int .u64 0, .int .u64 0] 33) = v61 at *
          refine wpAnyH_all (rs := [2]) (by kernel_rfl) (by simp) ?_
          intro i hi
          obtain rfl := List.mem_singleton.1 hi
          refine callO (some 11) rfl rfl rfl (fun _ => by kernel_rfl) (least_any m1 s1.1 _ (hg.below K.below hg.size)) ?_
          rintro e v62 ⟨m2, rfl, s2, l⟩
          have K := K.call l
          have X6 := X6.call l
          have X7 := X7.call l
          clear l
          refine ⟨_, rfl, K, ?_⟩
          simp only [Act.put, List.setIfInBounds_toArray, List.set_cons_zero, List.set_cons_succ]
          refine wpAnyH_all (rs := [4]) (by kernel_rfl) (by simp) ?_
          intro i hi
          obtain rfl := List.mem_singleton.1 hi
          refine callO (some 13) rfl rfl rfl (fun _ => by kernel_rfl) (load_any b hb _) ?_
          rintro e v63 ⟨m3, rfl, s3, l⟩
          have K := K.call l
          have X6 := X6.call l
          have X7 := X7.call l
          clear l
          refine ⟨_, rfl, K, ?_⟩
          simp only [Act.put, List.setIfInBounds_toArray, List.set_cons_zero, List.set_cons_succ]
          refine wpAnyH_all (rs := [5]) (by kernel_rfl) (by simp) ?_
          intro i hi
          obtain rfl := List.mem_singleton.1 hi
          refine callO (some 14) rfl rfl rfl (fun _ => by kernel_rfl) (least_any m3 s3.1 _ (hg.below K.below hg.size)) ?_
          rintro e v64 ⟨m4, rfl, s4, l⟩
          have K := K.call l
          have X6 := X6.call l
          have X7 := X7.call l
          clear l
          refine ⟨_, rfl, K, ?_⟩
          simp only [Act.put, List.setIfInBounds_toArray, List.set_cons_zero, List.set_cons_succ]
          refine storesH (i := 8) none rfl .u64 4 m2 (v51.heap.size) 33 _ _ (by kernel_rfl) rfl rfl rfl rfl rfl (num_there X6.has) (num_info' _) (K.put _ (by have := X6.lo; omega) (by have := X6.lo; simp; omega) _) ?_
          simp only [Act.put]
          have K := K.put (v51.heap.size) (by have := X6.lo; omega) (by have := X6.lo; simp; omega) (row .u64 4 m2)
          have X7 := X7.put (v51.heap.size) NE (row .u64 4 m2)
          have Y6 := Has.all X6.has.there .u64 m2
          refine storesH (i := 9) none rfl .u64 4 m4 (v1.heap.size) 33 _ _ (by kernel_rfl) rfl rfl rfl rfl rfl (num_there X7.has) (num_info' _) (K.put _ (by have := X7.lo; omega) (by have := X7.lo; simp; omega) _) ?_
          simp only [Act.put]
          refine wpAnyH_done (by kernel_rfl) ?_ _
          exact ⟨rfl, m2, m4, _, _, _, _, _, _, _, _, rfl, ⟨s2.1, s4.1, by rw [s2.2, s1.2], by rw [s4.2, s3.2]⟩, ⟨by decide, by decide, ⟨fun _ j hj => by omega, fun _ => rfl⟩, Y6.setAll_other _ (Ne.symm NE) 0 _, Has.all X7.has.there .u64 m4, (K.put (v1.heap.size) (by have := X7.lo; omega) (by have := X7.lo; simp; omega) (row .u64 4 m4)).below⟩⟩
    · refine allocO (some 5) rfl #[.int .u64 0, .int .u64 0, .int .u64 0, .int .u64 0] 33 rfl rfl (fun _ => by kernel_rfl) ?_
      have X6 := XB.new K 33
      have K := K.alloc (.cells #[.int .u64 0, .int .u64 0, .int .u64 0, .int .u64 0] 33)
      refine ⟨K, ?_⟩
      simp only [Act.put, List.setIfInBounds_toArray, List.set_cons_zero, List.set_cons_succ]
      generalize wd.alloc (.cells #[.int .u64 0, .int .u64 0, .int .u64 0, .int .u64 0] 33) = v65 at *
      refine wpAnyH_all (rs := [1, 7]) (by kernel_rfl) (by simp) ?_
      intro i hi
      simp only [List.mem_cons, List.not_mem_nil, or_false] at hi
      rcases hi with rfl | rfl
      · refine callO (some 10) rfl rfl rfl (fun _ => by kernel_rfl) (load_any a ha _) ?_
        rintro e v66 ⟨m1, rfl, s1, l⟩
        have K := K.call l
        have X6 := X6.call l
        clear l
        refine ⟨_, rfl, K, ?_⟩
        simp only [Act.put, List.setIfInBounds_toArray, List.set_cons_zero, List.set_cons_succ]
        refine wpAnyH_all (rs := [2, 7]) (by kernel_rfl) (by simp) ?_
        intro i hi
        simp only [List.mem_cons, List.not_mem_nil, or_false] at hi
        rcases hi with rfl | rfl
        · refine callO (some 11) rfl rfl rfl (fun _ => by kernel_rfl) (least_any m1 s1.1 _ (hg.below K.below hg.size)) ?_
          rintro e v67 ⟨m2, rfl, s2, l⟩
          have K := K.call l
          have X6 := X6.call l
          clear l
          refine ⟨_, rfl, K, ?_⟩
          simp only [Act.put, List.setIfInBounds_toArray, List.set_cons_zero, List.set_cons_succ]
          refine wpAnyH_all (rs := [4, 7]) (by kernel_rfl) (by simp) ?_
          intro i hi
          simp only [List.mem_cons, List.not_mem_nil, or_false] at hi
          rcases hi with rfl | rfl
          · refine callO (some 13) rfl rfl rfl (fun _ => by kernel_rfl) (load_any b hb _) ?_
            rintro e v68 ⟨m3, rfl, s3, l⟩
            have K := K.call l
            have X6 := X6.call l
            clear l
            refine ⟨_, rfl, K, ?_⟩
            simp only [Act.put, List.setIfInBounds_toArray, List.set_cons_zero, List.set_cons_succ]
            refine wpAnyH_all (rs := [5, 7]) (by kernel_rfl) (by simp) ?_
            intro i hi
            simp only [List.mem_cons, List.not_mem_nil, or_false] at hi
            rcases hi with rfl | rfl
            · refine callO (some 14) rfl rfl rfl (fun _ => by kernel_rfl) (least_any m3 s3.1 _ (hg.below K.below hg.size)) ?_
              rintro e v69 ⟨m4, rfl, s4, l⟩
              have K := K.call l
              have X6 := X6.call l
              clear l
              refine ⟨_, rfl, K, ?_⟩
              simp only [Act.put, List.setIfInBounds_toArray, List.set_cons_zero, List.set_cons_succ]
              refine wpAnyH_all (rs := [7]) (by kernel_rfl) (by simp) ?_
              intro i hi
              obtain rfl := List.mem_singleton.1 hi
              refine allocO (some 6) rfl #[.int .u64 0, .int .u64 0, .int .u64 0, .int .u64 0] 33 rfl rfl (fun _ => by kernel_rfl) ?_
              have X7 := XB.new K 33
              have NE : wd.heap.size ≠ v69.heap.size := by have := X6.hi; omega
              have X6 := X6.alloc (.cells #[.int .u64 0, .int .u64 0, .int .u64 0, .int .u64 0] 33)
              have K := K.alloc (.cells #[.int .u64 0, .int .u64 0, .int .u64 0, .int .u64 0] 33)
              refine ⟨K, ?_⟩
              simp only [Act.put, List.setIfInBounds_toArray, List.set_cons_zero, List.set_cons_succ]
              generalize v69.alloc (.cells #[.int .u64 0, .int .u64 0, .int .u64 0, .int .u64 0] 33) = v70 at *
              refine storesH (i := 8) none rfl .u64 4 m2 (wd.heap.size) 33 _ _ (by kernel_rfl) rfl rfl rfl rfl rfl (num_there X6.has) (num_info' _) (K.put _ (by have := X6.lo; omega) (by have := X6.lo; simp; omega) _) ?_
              simp only [Act.put]
              have K := K.put (wd.heap.size) (by have := X6.lo; omega) (by have := X6.lo; simp; omega) (row .u64 4 m2)
              have X7 := X7.put (wd.heap.size) NE (row .u64 4 m2)
              have Y6 := Has.all X6.has.there .u64 m2
              refine storesH (i := 9) none rfl .u64 4 m4 (v69.heap.size) 33 _ _ (by kernel_rfl) rfl rfl rfl rfl rfl (num_there X7.has) (num_info' _) (K.put _ (by have := X7.lo; omega) (by have := X7.lo; simp; omega) _) ?_
              simp only [Act.put]
              refine wpAnyH_done (by kernel_rfl) ?_ _
              exact ⟨rfl, m2, m4, _, _, _, _, _, _, _, _, rfl, ⟨s2.1, s4.1, by rw [s2.2, s1.2], by rw [s4.2, s3.2]⟩, ⟨by decide, by decide, ⟨fun _ j hj => by omega, fun _ => rfl⟩, Y6.setAll_other _ (Ne.symm NE) 0 _, Has.all X7.has.there .u64 m4, (K.put (v69.heap.size) (by have := X7.lo; omega) (by have := X7.lo; simp; omega) (row .u64 4 m4)).below⟩⟩
            · refine allocO (some 6) rfl #[.int .u64 0, .int .u64 0, .int .u64 0, .int .u64 0] 33 rfl rfl (fun _ => by kernel_rfl) ?_
              have X7 := XB.new K 33
              have NE : wd.heap.size ≠ v68.heap.size := by have := X6.hi; omega
              have X6 := X6.alloc (.cells #[.int .u64 0, .int .u64 0, .int .u64 0, .int .u64 0] 33)
              have K := K.alloc (.cells #[.int .u64 0, .int .u64 0, .int .u64 0, .int .u64 0] 33)
              refine ⟨K, ?_⟩
              simp only [Act.put, List.setIfInBounds_toArray, List.set_cons_zero, List.set_cons_succ]
              generalize v68.alloc (.cells #[.int .u64 0, .int .u64 0, .int .u64 0, .int .u64 0] 33) = v71 at *
              refine wpAnyH_all (rs := [5]) (by kernel_rfl) (by simp) ?_
              intro i hi
              obtain rfl := List.mem_singleton.1 hi
              refine callO (some 14) rfl rfl rfl (fun _ => by kernel_rfl) (least_any m3 s3.1 _ (hg.below K.below hg.size)) ?_
              rintro e v72 ⟨m4, rfl, s4, l⟩
              have K := K.call l
              have X6 := X6.call l
              have X7 := X7.call l
              clear l
              refine ⟨_, rfl, K, ?_⟩
              simp only [Act.put, List.setIfInBounds_toArray, List.set_cons_zero, List.set_cons_succ]
              refine storesH (i := 8) none rfl .u64 4 m2 (wd.heap.size) 33 _ _ (by kernel_rfl) rfl rfl rfl rfl rfl (num_there X6.has) (num_info' _) (K.put _ (by have := X6.lo; omega) (by have := X6.lo; simp; omega) _) ?_
              simp only [Act.put]
              have K := K.put (wd.heap.size) (by have := X6.lo; omega) (by have := X6.lo; simp; omega) (row .u64 4 m2)
              have X7 := X7.put (wd.heap.size) NE (row .u64 4 m2)
              have Y6 := Has.all X6.has.there .u64 m2
              refine storesH (i := 9) none rfl .u64 4 m4 (v68.heap.size) 33 _ _ (by kernel_rfl) rfl rfl rfl rfl rfl (num_there X7.has) (num_info' _) (K.put _ (by have := X7.lo; omega) (by have := X7.lo; simp; omega) _) ?_
              simp only [Act.put]
              refine wpAnyH_done (by kernel_rfl) ?_ _
              exact ⟨rfl, m2, m4, _, _, _, _, _, _, _, _, rfl, ⟨s2.1, s4.1, by rw [s2.2, s1.2], by rw [s4.2, s3.2]⟩, ⟨by decide, by decide, ⟨fun _ j hj => by omega, fun _ => rfl⟩, Y6.setAll_other _ (Ne.symm NE) 0 _, Has.all X7.has.there .u64 m4, (K.put (v68.heap.size) (by have := X7.lo; omega) (by have := X7.lo; simp; omega) (row .u64 4 m4)).below⟩⟩
          · refine allocO (some 6) rfl #[.int .u64 0, .int .u64 0, .int .u64 0, .int .u64 0] 33 rfl rfl (fun _ => by kernel_rfl) ?_
            have X7 := XB.new K 33
            have NE : wd.heap.size ≠ v67.heap.size := by have := X6.hi; omega
            have X6 := X6.alloc (.cells #[.int .u64 0, .int .u64 0, .int .u64 0, .int .u64 0] 33)
            have K := K.alloc (.cells #[.int .u64 0, .int .u64 0, .int .u64 0, .int .u64 0] 33)
            refine ⟨K, ?_⟩
            simp only [Act.put, List.setIfInBounds_toArray, List.set_cons_zero, List.set_cons_succ]
            generalize v67.alloc (.cells #[.int .u64 0, .int .u64 0, .int .u64 0, .int .u64 0] 33) = v73 at *
            refine wpAnyH_all (rs := [4]) (by kernel_rfl) (by simp) ?_
            intro i hi
            obtain rfl := List.mem_singleton.1 hi
            refine callO (some 13) rfl rfl rfl (fun _ => by kernel_rfl) (load_any b hb _) ?_
            rintro e v74 ⟨m3, rfl, s3, l⟩
            have K := K.call l
            have X6 := X6.call l
            have X7 := X7.call l
            clear l
            refine ⟨_, rfl, K, ?_⟩
            simp only [Act.put, List.setIfInBounds_toArray, List.set_cons_zero, List.set_cons_succ]
            refine wpAnyH_all (rs := [5]) (by kernel_rfl) (by simp) ?_
            intro i hi
            obtain rfl := List.mem_singleton.1 hi
            refine callO (some 14) rfl rfl rfl (fun _ => by kernel_rfl) (least_any m3 s3.1 _ (hg.below K.below hg.size)) ?_
            rintro e v75 ⟨m4, rfl, s4, l⟩
            have K := K.call l
            have X6 := X6.call l
            have X7 := X7.call l
            clear l
            refine ⟨_, rfl, K, ?_⟩
            simp only [Act.put, List.setIfInBounds_toArray, List.set_cons_zero, List.set_cons_succ]
            refine storesH (i := 8) none rfl .u64 4 m2 (wd.heap.size) 33 _ _ (by kernel_rfl) rfl rfl rfl rfl rfl (num_there X6.has) (num_info' _) (K.put _ (by have := X6.lo; omega) (by have := X6.lo; simp; omega) _) ?_
            simp only [Act.put]
            have K := K.put (wd.heap.size) (by have := X6.lo; omega) (by have := X6.lo; simp; omega) (row .u64 4 m2)
            have X7 := X7.put (wd.heap.size) NE (row .u64 4 m2)
            have Y6 := Has.all X6.has.there .u64 m2
            refine storesH (i := 9) none rfl .u64 4 m4 (v67.heap.size) 33 _ _ (by kernel_rfl) rfl rfl rfl rfl rfl (num_there X7.has) (num_info' _) (K.put _ (by have := X7.lo; omega) (by have := X7.lo; simp; omega) _) ?_
            simp only [Act.put]
            refine wpAnyH_done (by kernel_rfl) ?_ _
            exact ⟨rfl, m2, m4, _, _, _, _, _, _, _, _, rfl, ⟨s2.1, s4.1, by rw [s2.2, s1.2], by rw [s4.2, s3.2]⟩, ⟨by decide, by decide, ⟨fun _ j hj => by omega, fun _ => rfl⟩, Y6.setAll_other _ (Ne.symm NE) 0 _, Has.all X7.has.there .u64 m4, (K.put (v67.heap.size) (by have := X7.lo; omega) (by have := X7.lo; simp; omega) (row .u64 4 m4)).below⟩⟩
        · refine allocO (some 6) rfl #[.int .u64 0, .int .u64 0, .int .u64 0, .int .u64 0] 33 rfl rfl (fun _ => by kernel_rfl) ?_
          have X7 := XB.new K 33
          have NE : wd.heap.size ≠ v66.heap.size := by have := X6.hi; omega
          have X6 := X6.alloc (.cells #[.int .u64 0, .int .u64 0, .int .u64 0, .int .u64 0] 33)
          have K := K.alloc (.cells #[.int .u64 0, .int .u64 0, .int .u64 0, .int .u64 0] 33)
          refine ⟨K, ?_⟩
          simp only [Act.put, List.setIfInBounds_toArray, List.set_cons_zero, List.set_cons_succ]
          generalize v66.alloc (.cells #[.int .u64 0, .int .u64 0, .int .u64 0, .int .u64 0] 33) = v76 at *
          refine wpAnyH_all (rs := [2]) (by kernel_rfl) (by simp) ?_
          intro i hi
          obtain rfl := List.mem_singleton.1 hi
          refine callO (some 11) rfl rfl rfl (fun _ => by kernel_rfl) (least_any m1 s1.1 _ (hg.below K.below hg.size)) ?_
          rintro e v77 ⟨m2, rfl, s2, l⟩
          have K := K.call l
          have X6 := X6.call l
          have X7 := X7.call l
          clear l
          refine ⟨_, rfl, K, ?_⟩
          simp only [Act.put, List.setIfInBounds_toArray, List.set_cons_zero, List.set_cons_succ]
          refine wpAnyH_all (rs := [4]) (by kernel_rfl) (by simp) ?_
          intro i hi
          obtain rfl := List.mem_singleton.1 hi
          refine callO (some 13) rfl rfl rfl (fun _ => by kernel_rfl) (load_any b hb _) ?_
          rintro e v78 ⟨m3, rfl, s3, l⟩
          have K := K.call l
          have X6 := X6.call l
          have X7 := X7.call l
          clear l
          refine ⟨_, rfl, K, ?_⟩
          simp only [Act.put, List.setIfInBounds_toArray, List.set_cons_zero, List.set_cons_succ]
          refine wpAnyH_all (rs := [5]) (by kernel_rfl) (by simp) ?_
          intro i hi
          obtain rfl := List.mem_singleton.1 hi
          refine callO (some 14) rfl rfl rfl (fun _ => by kernel_rfl) (least_any m3 s3.1 _ (hg.below K.below hg.size)) ?_
          rintro e v79 ⟨m4, rfl, s4, l⟩
          have K := K.call l
          have X6 := X6.call l
          have X7 := X7.call l
          clear l
          refine ⟨_, rfl, K, ?_⟩
          simp only [Act.put, List.setIfInBounds_toArray, List.set_cons_zero, List.set_cons_succ]
          refine storesH (i := 8) none rfl .u64 4 m2 (wd.heap.size) 33 _ _ (by kernel_rfl) rfl rfl rfl rfl rfl (num_there X6.has) (num_info' _) (K.put _ (by have := X6.lo; omega) (by have := X6.lo; simp; omega) _) ?_
          simp only [Act.put]
          have K := K.put (wd.heap.size) (by have := X6.lo; omega) (by have := X6.lo; simp; omega) (row .u64 4 m2)
          have X7 := X7.put (wd.heap.size) NE (row .u64 4 m2)
          have Y6 := Has.all X6.has.there .u64 m2
          refine storesH (i := 9) none rfl .u64 4 m4 (v66.heap.size) 33 _ _ (by kernel_rfl) rfl rfl rfl rfl rfl (num_there X7.has) (num_info' _) (K.put _ (by have := X7.lo; omega) (by have := X7.lo; simp; omega) _) ?_
          simp only [Act.put]
          refine wpAnyH_done (by kernel_rfl) ?_ _
          exact ⟨rfl, m2, m4, _, _, _, _, _, _, _, _, rfl, ⟨s2.1, s4.1, by rw [s2.2, s1.2], by rw [s4.2, s3.2]⟩, ⟨by decide, by decide, ⟨fun _ j hj => by omega, fun _ => rfl⟩, Y6.setAll_other _ (Ne.symm NE) 0 _, Has.all X7.has.there .u64 m4, (K.put (v66.heap.size) (by have := X7.lo; omega) (by have := X7.lo; simp; omega) (row .u64 4 m4)).below⟩⟩
      · refine allocO (some 6) rfl #[.int .u64 0, .int .u64 0, .int .u64 0, .int .u64 0] 33 rfl rfl (fun _ => by kernel_rfl) ?_
        have X7 := XB.new K 33
        have NE : wd.heap.size ≠ v65.heap.size := by have := X6.hi; omega
        have X6 := X6.alloc (.cells #[.int .u64 0, .int .u64 0, .int .u64 0, .int .u64 0] 33)
        have K := K.alloc (.cells #[.int .u64 0, .int .u64 0, .int .u64 0, .int .u64 0] 33)
        refine ⟨K, ?_⟩
        simp only [Act.put, List.setIfInBounds_toArray, List.set_cons_zero, List.set_cons_succ]
        generalize v65.alloc (.cells #[.int .u64 0, .int .u64 0, .int .u64 0, .int .u64 0] 33) = v80 at *
        refine wpAnyH_all (rs := [1]) (by kernel_rfl) (by simp) ?_
        intro i hi
        obtain rfl := List.mem_singleton.1 hi
        refine callO (some 10) rfl rfl rfl (fun _ => by kernel_rfl) (load_any a ha _) ?_
        rintro e v81 ⟨m1, rfl, s1, l⟩
        have K := K.call l
        have X6 := X6.call l
        have X7 := X7.call l
        clear l
        refine ⟨_, rfl, K, ?_⟩
        simp only [Act.put, List.setIfInBounds_toArray, List.set_cons_zero, List.set_cons_succ]
        refine wpAnyH_all (rs := [2]) (by kernel_rfl) (by simp) ?_
        intro i hi
        obtain rfl := List.mem_singleton.1 hi
        refine callO (some 11) rfl rfl rfl (fun _ => by kernel_rfl) (least_any m1 s1.1 _ (hg.below K.below hg.size)) ?_
        rintro e v82 ⟨m2, rfl, s2, l⟩
        have K := K.call l
        have X6 := X6.call l
        have X7 := X7.call l
        clear l
        refine ⟨_, rfl, K, ?_⟩
        simp only [Act.put, List.setIfInBounds_toArray, List.set_cons_zero, List.set_cons_succ]
        refine wpAnyH_all (rs := [4]) (by kernel_rfl) (by simp) ?_
        intro i hi
        obtain rfl := List.mem_singleton.1 hi
        refine callO (some 13) rfl rfl rfl (fun _ => by kernel_rfl) (load_any b hb _) ?_
        rintro e v83 ⟨m3, rfl, s3, l⟩
        have K := K.call l
        have X6 := X6.call l
        have X7 := X7.call l
        clear l
        refine ⟨_, rfl, K, ?_⟩
        simp only [Act.put, List.setIfInBounds_toArray, List.set_cons_zero, List.set_cons_succ]
        refine wpAnyH_all (rs := [5]) (by kernel_rfl) (by simp) ?_
        intro i hi
        obtain rfl := List.mem_singleton.1 hi
        refine callO (some 14) rfl rfl rfl (fun _ => by kernel_rfl) (least_any m3 s3.1 _ (hg.below K.below hg.size)) ?_
        rintro e v84 ⟨m4, rfl, s4, l⟩
        have K := K.call l
        have X6 := X6.call l
        have X7 := X7.call l
        clear l
        refine ⟨_, rfl, K, ?_⟩
        simp only [Act.put, List.setIfInBounds_toArray, List.set_cons_zero, List.set_cons_succ]
        refine storesH (i := 8) none rfl .u64 4 m2 (wd.heap.size) 33 _ _ (by kernel_rfl) rfl rfl rfl rfl rfl (num_there X6.has) (num_info' _) (K.put _ (by have := X6.lo; omega) (by have := X6.lo; simp; omega) _) ?_
        simp only [Act.put]
        have K := K.put (wd.heap.size) (by have := X6.lo; omega) (by have := X6.lo; simp; omega) (row .u64 4 m2)
        have X7 := X7.put (wd.heap.size) NE (row .u64 4 m2)
        have Y6 := Has.all X6.has.there .u64 m2
        refine storesH (i := 9) none rfl .u64 4 m4 (v65.heap.size) 33 _ _ (by kernel_rfl) rfl rfl rfl rfl rfl (num_there X7.has) (num_info' _) (K.put _ (by have := X7.lo; omega) (by have := X7.lo; simp; omega) _) ?_
        simp only [Act.put]
        refine wpAnyH_done (by kernel_rfl) ?_ _
        exact ⟨rfl, m2, m4, _, _, _, _, _, _, _, _, rfl, ⟨s2.1, s4.1, by rw [s2.2, s1.2], by rw [s4.2, s3.2]⟩, ⟨by decide, by decide, ⟨fun _ j hj => by omega, fun _ => rfl⟩, Y6.setAll_other _ (Ne.symm NE) 0 _, Has.all X7.has.there .u64 m4, (K.put (v65.heap.size) (by have := X7.lo; omega) (by have := X7.lo; simp; omega) (row .u64 4 m4)).below⟩⟩
    · refine allocO (some 6) rfl #[.int .u64 0, .int .u64 0, .int .u64 0, .int .u64 0] 33 rfl rfl (fun _ => by kernel_rfl) ?_
      have X7 := XB.new K 33
      have K := K.alloc (.cells #[.int .u64 0, .int .u64 0, .int .u64 0, .int .u64 0] 33)
      refine ⟨K, ?_⟩
      simp only [Act.put, List.setIfInBounds_toArray, List.set_cons_zero, List.set_cons_succ]
      generalize wd.alloc (.cells #[.int .u64 0, .int .u64 0, .int .u64 0, .int .u64 0] 33) = v85 at *
      refine wpAnyH_all (rs := [1, 6]) (by kernel_rfl) (by simp) ?_
      intro i hi
      simp only [List.mem_cons, List.not_mem_nil, or_false] at hi
      rcases hi with rfl | rfl
      · refine callO (some 10) rfl rfl rfl (fun _ => by kernel_rfl) (load_any a ha _) ?_
        rintro e v86 ⟨m1, rfl, s1, l⟩
        have K := K.call l
        have X7 := X7.call l
        clear l
        refine ⟨_, rfl, K, ?_⟩
        simp only [Act.put, List.setIfInBounds_toArray, List.set_cons_zero, List.set_cons_succ]
        refine wpAnyH_all (rs := [2, 6]) (by kernel_rfl) (by simp) ?_
        intro i hi
        simp only [List.mem_cons, List.not_mem_nil, or_false] at hi
        rcases hi with rfl | rfl
        · refine callO (some 11) rfl rfl rfl (fun _ => by kernel_rfl) (least_any m1 s1.1 _ (hg.below K.below hg.size)) ?_
          rintro e v87 ⟨m2, rfl, s2, l⟩
          have K := K.call l
          have X7 := X7.call l
          clear l
          refine ⟨_, rfl, K, ?_⟩
          simp only [Act.put, List.setIfInBounds_toArray, List.set_cons_zero, List.set_cons_succ]
          refine wpAnyH_all (rs := [4, 6]) (by kernel_rfl) (by simp) ?_
          intro i hi
          simp only [List.mem_cons, List.not_mem_nil, or_false] at hi
          rcases hi with rfl | rfl
          · refine callO (some 13) rfl rfl rfl (fun _ => by kernel_rfl) (load_any b hb _) ?_
            rintro e v88 ⟨m3, rfl, s3, l⟩
            have K := K.call l
            have X7 := X7.call l
            clear l
            refine ⟨_, rfl, K, ?_⟩
            simp only [Act.put, List.setIfInBounds_toArray, List.set_cons_zero, List.set_cons_succ]
            refine wpAnyH_all (rs := [5, 6]) (by kernel_rfl) (by simp) ?_
            intro i hi
            simp only [List.mem_cons, List.not_mem_nil, or_false] at hi
            rcases hi with rfl | rfl
            · refine callO (some 14) rfl rfl rfl (fun _ => by kernel_rfl) (least_any m3 s3.1 _ (hg.below K.below hg.size)) ?_
              rintro e v89 ⟨m4, rfl, s4, l⟩
              have K := K.call l
              have X7 := X7.call l
              clear l
              refine ⟨_, rfl, K, ?_⟩
              simp only [Act.put, List.setIfInBounds_toArray, List.set_cons_zero, List.set_cons_succ]
              refine wpAnyH_all (rs := [6]) (by kernel_rfl) (by simp) ?_
              intro i hi
              obtain rfl := List.mem_singleton.1 hi
              refine allocO (some 5) rfl #[.int .u64 0, .int .u64 0, .int .u64 0, .int .u64 0] 33 rfl rfl (fun _ => by kernel_rfl) ?_
              have X6 := XB.new K 33
              have NE : v89.heap.size ≠ wd.heap.size := by have := X7.hi; omega
              have X7 := X7.alloc (.cells #[.int .u64 0, .int .u64 0, .int .u64 0, .int .u64 0] 33)
              have K := K.alloc (.cells #[.int .u64 0, .int .u64 0, .int .u64 0, .int .u64 0] 33)
              refine ⟨K, ?_⟩
              simp only [Act.put, List.setIfInBounds_toArray, List.set_cons_zero, List.set_cons_succ]
              generalize v89.alloc (.cells #[.int .u64 0, .int .u64 0, .int .u64 0, .int .u64 0] 33) = v90 at *
              refine storesH (i := 8) none rfl .u64 4 m2 (v89.heap.size) 33 _ _ (by kernel_rfl) rfl rfl rfl rfl rfl (num_there X6.has) (num_info' _) (K.put _ (by have := X6.lo; omega) (by have := X6.lo; simp; omega) _) ?_
              simp only [Act.put]
              have K := K.put (v89.heap.size) (by have := X6.lo; omega) (by have := X6.lo; simp; omega) (row .u64 4 m2)
              have X7 := X7.put (v89.heap.size) NE (row .u64 4 m2)
              have Y6 := Has.all X6.has.there .u64 m2
              refine storesH (i := 9) none rfl .u64 4 m4 (wd.heap.size) 33 _ _ (by kernel_rfl) rfl rfl rfl rfl rfl (num_there X7.has) (num_info' _) (K.put _ (by have := X7.lo; omega) (by have := X7.lo; simp; omega) _) ?_
              simp only [Act.put]
              refine wpAnyH_done (by kernel_rfl) ?_ _
              exact ⟨rfl, m2, m4, _, _, _, _, _, _, _, _, rfl, ⟨s2.1, s4.1, by rw [s2.2, s1.2], by rw [s4.2, s3.2]⟩, ⟨by decide, by decide, ⟨fun _ j hj => by omega, fun _ => rfl⟩, Y6.setAll_other _ (Ne.symm NE) 0 _, Has.all X7.has.there .u64 m4, (K.put (wd.heap.size) (by have := X7.lo; omega) (by have := X7.lo; simp; omega) (row .u64 4 m4)).below⟩⟩
            · refine allocO (some 5) rfl #[.int .u64 0, .int .u64 0, .int .u64 0, .int .u64 0] 33 rfl rfl (fun _ => by kernel_rfl) ?_
              have X6 := XB.new K 33
              have NE : v88.heap.size ≠ wd.heap.size := by have := X7.hi; omega
              have X7 := X7.alloc (.cells #[.int .u64 0, .int .u64 0, .int .u64 0, .int .u64 0] 33)
              have K := K.alloc (.cells #[.int .u64 0, .int .u64 0, .int .u64 0, .int .u64 0] 33)
              refine ⟨K, ?_⟩
              simp only [Act.put, List.setIfInBounds_toArray, List.set_cons_zero, List.set_cons_succ]
              generalize v88.alloc (.cells #[.int .u64 0, .int .u64 0, .int .u64 0, .int .u64 0] 33) = v91 at *
              refine wpAnyH_all (rs := [5]) (by kernel_rfl) (by simp) ?_
              intro i hi
              obtain rfl := List.mem_singleton.1 hi
              refine callO (some 14) rfl rfl rfl (fun _ => by kernel_rfl) (least_any m3 s3.1 _ (hg.below K.below hg.size)) ?_
              rintro e v92 ⟨m4, rfl, s4, l⟩
              have K := K.call l
              have X6 := X6.call l
              have X7 := X7.call l
              clear l
              refine ⟨_, rfl, K, ?_⟩
              simp only [Act.put, List.setIfInBounds_toArray, List.set_cons_zero, List.set_cons_succ]
              refine storesH (i := 8) none rfl .u64 4 m2 (v88.heap.size) 33 _ _ (by kernel_rfl) rfl rfl rfl rfl rfl (num_there X6.has) (num_info' _) (K.put _ (by have := X6.lo; omega) (by have := X6.lo; simp; omega) _) ?_
              simp only [Act.put]
              have K := K.put (v88.heap.size) (by have := X6.lo; omega) (by have := X6.lo; simp; omega) (row .u64 4 m2)
              have X7 := X7.put (v88.heap.size) NE (row .u64 4 m2)
              have Y6 := Has.all X6.has.there .u64 m2
              refine storesH (i := 9) none rfl .u64 4 m4 (wd.heap.size) 33 _ _ (by kernel_rfl) rfl rfl rfl rfl rfl (num_there X7.has) (num_info' _) (K.put _ (by have := X7.lo; omega) (by have := X7.lo; simp; omega) _) ?_
              simp only [Act.put]
              refine wpAnyH_done (by kernel_rfl) ?_ _
              exact ⟨rfl, m2, m4, _, _, _, _, _, _, _, _, rfl, ⟨s2.1, s4.1, by rw [s2.2, s1.2], by rw [s4.2, s3.2]⟩, ⟨by decide, by decide, ⟨fun _ j hj => by omega, fun _ => rfl⟩, Y6.setAll_other _ (Ne.symm NE) 0 _, Has.all X7.has.there .u64 m4, (K.put (wd.heap.size) (by have := X7.lo; omega) (by have := X7.lo; simp; omega) (row .u64 4 m4)).below⟩⟩
          · refine allocO (some 5) rfl #[.int .u64 0, .int .u64 0, .int .u64 0, .int .u64 0] 33 rfl rfl (fun _ => by kernel_rfl) ?_
            have X6 := XB.new K 33
            have NE : v87.heap.size ≠ wd.heap.size := by have := X7.hi; omega
            have X7 := X7.alloc (.cells #[.int .u64 0, .int .u64 0, .int .u64 0, .int .u64 0] 33)
            have K := K.alloc (.cells #[.int .u64 0, .int .u64 0, .int .u64 0, .int .u64 0] 33)
            refine ⟨K, ?_⟩
            simp only [Act.put, List.setIfInBounds_toArray, List.set_cons_zero, List.set_cons_succ]
            generalize v87.alloc (.cells #[.int .u64 0, .int .u64 0, .int .u64 0, .int .u64 0] 33) = v93 at *
            refine wpAnyH_all (rs := [4]) (by kernel_rfl) (by simp) ?_
            intro i hi
            obtain rfl := List.mem_singleton.1 hi
            refine callO (some 13) rfl rfl rfl (fun _ => by kernel_rfl) (load_any b hb _) ?_
            rintro e v94 ⟨m3, rfl, s3, l⟩
            have K := K.call l
            have X6 := X6.call l
            have X7 := X7.call l
            clear l
            refine ⟨_, rfl, K, ?_⟩
            simp only [Act.put, List.setIfInBounds_toArray, List.set_cons_zero, List.set_cons_succ]
            refine wpAnyH_all (rs := [5]) (by kernel_rfl) (by simp) ?_
            intro i hi
            obtain rfl := List.mem_singleton.1 hi
            refine callO (some 14) rfl rfl rfl (fun _ => by kernel_rfl) (least_any m3 s3.1 _ (hg.below K.below hg.size)) ?_
            rintro e v95 ⟨m4, rfl, s4, l⟩
            have K := K.call l
            have X6 := X6.call l
            have X7 := X7.call l
            clear l
            refine ⟨_, rfl, K, ?_⟩
            simp only [Act.put, List.setIfInBounds_toArray, List.set_cons_zero, List.set_cons_succ]
            refine storesH (i := 8) none rfl .u64 4 m2 (v87.heap.size) 33 _ _ (by kernel_rfl) rfl rfl rfl rfl rfl (num_there X6.has) (num_info' _) (K.put _ (by have := X6.lo; omega) (by have := X6.lo; simp; omega) _) ?_
            simp only [Act.put]
            have K := K.put (v87.heap.size) (by have := X6.lo; omega) (by have := X6.lo; simp; omega) (row .u64 4 m2)
            have X7 := X7.put (v87.heap.size) NE (row .u64 4 m2)
            have Y6 := Has.all X6.has.there .u64 m2
            refine storesH (i := 9) none rfl .u64 4 m4 (wd.heap.size) 33 _ _ (by kernel_rfl) rfl rfl rfl rfl rfl (num_there X7.has) (num_info' _) (K.put _ (by have := X7.lo; omega) (by have := X7.lo; simp; omega) _) ?_
            simp only [Act.put]
            refine wpAnyH_done (by kernel_rfl) ?_ _
            exact ⟨rfl, m2, m4, _, _, _, _, _, _, _, _, rfl, ⟨s2.1, s4.1, by rw [s2.2, s1.2], by rw [s4.2, s3.2]⟩, ⟨by decide, by decide, ⟨fun _ j hj => by omega, fun _ => rfl⟩, Y6.setAll_other _ (Ne.symm NE) 0 _, Has.all X7.has.there .u64 m4, (K.put (wd.heap.size) (by have := X7.lo; omega) (by have := X7.lo; simp; omega) (row .u64 4 m4)).below⟩⟩
        · refine allocO (some 5) rfl #[.int .u64 0, .int .u64 0, .int .u64 0, .int .u64 0] 33 rfl rfl (fun _ => by kernel_rfl) ?_
          have X6 := XB.new K 33
          have NE : v86.heap.size ≠ wd.heap.size := by have := X7.hi; omega
          have X7 := X7.alloc (.cells #[.int .u64 0, .int .u64 0, .int .u64 0, .int .u64 0] 33)
          have K := K.alloc (.cells #[.int .u64 0, .int .u64 0, .int .u64 0, .int .u64 0] 33)
          refine ⟨K, ?_⟩
          simp only [Act.put, List.setIfInBounds_toArray, List.set_cons_zero, List.set_cons_succ]
          generalize v86.alloc (.cells #[.int .u64 0, .int .u64 0, .int .u64 0, .int .u64 0] 33) = v96 at *
          refine wpAnyH_all (rs := [2]) (by kernel_rfl) (by simp) ?_
          intro i hi
          obtain rfl := List.mem_singleton.1 hi
          refine callO (some 11) rfl rfl rfl (fun _ => by kernel_rfl) (least_any m1 s1.1 _ (hg.below K.below hg.size)) ?_
          rintro e v97 ⟨m2, rfl, s2, l⟩
          have K := K.call l
          have X6 := X6.call l
          have X7 := X7.call l
          clear l
          refine ⟨_, rfl, K, ?_⟩
          simp only [Act.put, List.setIfInBounds_toArray, List.set_cons_zero, List.set_cons_succ]
          refine wpAnyH_all (rs := [4]) (by kernel_rfl) (by simp) ?_
          intro i hi
          obtain rfl := List.mem_singleton.1 hi
          refine callO (some 13) rfl rfl rfl (fun _ => by kernel_rfl) (load_any b hb _) ?_
          rintro e v98 ⟨m3, rfl, s3, l⟩
          have K := K.call l
          have X6 := X6.call l
          have X7 := X7.call l
          clear l
          refine ⟨_, rfl, K, ?_⟩
          simp only [Act.put, List.setIfInBounds_toArray, List.set_cons_zero, List.set_cons_succ]
          refine wpAnyH_all (rs := [5]) (by kernel_rfl) (by simp) ?_
          intro i hi
          obtain rfl := List.mem_singleton.1 hi
          refine callO (some 14) rfl rfl rfl (fun _ => by kernel_rfl) (least_any m3 s3.1 _ (hg.below K.below hg.size)) ?_
          rintro e v99 ⟨m4, rfl, s4, l⟩
          have K := K.call l
          have X6 := X6.call l
          have X7 := X7.call l
          clear l
          refine ⟨_, rfl, K, ?_⟩
          simp only [Act.put, List.setIfInBounds_toArray, List.set_cons_zero, List.set_cons_succ]
          refine storesH (i := 8) none rfl .u64 4 m2 (v86.heap.size) 33 _ _ (by kernel_rfl) rfl rfl rfl rfl rfl (num_there X6.has) (num_info' _) (K.put _ (by have := X6.lo; omega) (by have := X6.lo; simp; omega) _) ?_
          simp only [Act.put]
          have K := K.put (v86.heap.size) (by have := X6.lo; omega) (by have := X6.lo; simp; omega) (row .u64 4 m2)
          have X7 := X7.put (v86.heap.size) NE (row .u64 4 m2)
          have Y6 := Has.all X6.has.there .u64 m2
          refine storesH (i := 9) none rfl .u64 4 m4 (wd.heap.size) 33 _ _ (by kernel_rfl) rfl rfl rfl rfl rfl (num_there X7.has) (num_info' _) (K.put _ (by have := X7.lo; omega) (by have := X7.lo; simp; omega) _) ?_
          simp only [Act.put]
          refine wpAnyH_done (by kernel_rfl) ?_ _
          exact ⟨rfl, m2, m4, _, _, _, _, _, _, _, _, rfl, ⟨s2.1, s4.1, by rw [s2.2, s1.2], by rw [s4.2, s3.2]⟩, ⟨by decide, by decide, ⟨fun _ j hj => by omega, fun _ => rfl⟩, Y6.setAll_other _ (Ne.symm NE) 0 _, Has.all X7.has.there .u64 m4, (K.put (wd.heap.size) (by have := X7.lo; omega) (by have := X7.lo; simp; omega) (row .u64 4 m4)).below⟩⟩
      · refine allocO (some 5) rfl #[.int .u64 0, .int .u64 0, .int .u64 0, .int .u64 0] 33 rfl rfl (fun _ => by kernel_rfl) ?_
        have X6 := XB.new K 33
        have NE : v85.heap.size ≠ wd.heap.size := by have := X7.hi; omega
        have X7 := X7.alloc (.cells #[.int .u64 0, .int .u64 0, .int .u64 0, .int .u64 0] 33)
        have K := K.alloc (.cells #[.int .u64 0, .int .u64 0, .int .u64 0, .int .u64 0] 33)
        refine ⟨K, ?_⟩
        simp only [Act.put, List.setIfInBounds_toArray, List.set_cons_zero, List.set_cons_succ]
        generalize v85.alloc (.cells #[.int .u64 0, .int .u64 0, .int .u64 0, .int .u64 0] 33) = v100 at *
        refine wpAnyH_all (rs := [1]) (by kernel_rfl) (by simp) ?_
        intro i hi
        obtain rfl := List.mem_singleton.1 hi
        refine callO (some 10) rfl rfl rfl (fun _ => by kernel_rfl) (load_any a ha _) ?_
        rintro e v101 ⟨m1, rfl, s1, l⟩
        have K := K.call l
        have X6 := X6.call l
        have X7 := X7.call l
        clear l
        refine ⟨_, rfl, K, ?_⟩
        simp only [Act.put, List.setIfInBounds_toArray, List.set_cons_zero, List.set_cons_succ]
        refine wpAnyH_all (rs := [2]) (by kernel_rfl) (by simp) ?_
        intro i hi
        obtain rfl := List.mem_singleton.1 hi
        refine callO (some 11) rfl rfl rfl (fun _ => by kernel_rfl) (least_any m1 s1.1 _ (hg.below K.below hg.size)) ?_
        rintro e v102 ⟨m2, rfl, s2, l⟩
        have K := K.call l
        have X6 := X6.call l
        have X7 := X7.call l
        clear l
        refine ⟨_, rfl, K, ?_⟩
        simp only [Act.put, List.setIfInBounds_toArray, List.set_cons_zero, List.set_cons_succ]
        refine wpAnyH_all (rs := [4]) (by kernel_rfl) (by simp) ?_
        intro i hi
        obtain rfl := List.mem_singleton.1 hi
        refine callO (some 13) rfl rfl rfl (fun _ => by kernel_rfl) (load_any b hb _) ?_
        rintro e v103 ⟨m3, rfl, s3, l⟩
        have K := K.call l
        have X6 := X6.call l
        have X7 := X7.call l
        clear l
        refine ⟨_, rfl, K, ?_⟩
        simp only [Act.put, List.setIfInBounds_toArray, List.set_cons_zero, List.set_cons_succ]
        refine wpAnyH_all (rs := [5]) (by kernel_rfl) (by simp) ?_
        intro i hi
        obtain rfl := List.mem_singleton.1 hi
        refine callO (some 14) rfl rfl rfl (fun _ => by kernel_rfl) (least_any m3 s3.1 _ (hg.below K.below hg.size)) ?_
        rintro e v104 ⟨m4, rfl, s4, l⟩
        have K := K.call l
        have X6 := X6.call l
        have X7 := X7.call l
        clear l
        refine ⟨_, rfl, K, ?_⟩
        simp only [Act.put, List.setIfInBounds_toArray, List.set_cons_zero, List.set_cons_succ]
        refine storesH (i := 8) none rfl .u64 4 m2 (v85.heap.size) 33 _ _ (by kernel_rfl) rfl rfl rfl rfl rfl (num_there X6.has) (num_info' _) (K.put _ (by have := X6.lo; omega) (by have := X6.lo; simp; omega) _) ?_
        simp only [Act.put]
        have K := K.put (v85.heap.size) (by have := X6.lo; omega) (by have := X6.lo; simp; omega) (row .u64 4 m2)
        have X7 := X7.put (v85.heap.size) NE (row .u64 4 m2)
        have Y6 := Has.all X6.has.there .u64 m2
        refine storesH (i := 9) none rfl .u64 4 m4 (wd.heap.size) 33 _ _ (by kernel_rfl) rfl rfl rfl rfl rfl (num_there X7.has) (num_info' _) (K.put _ (by have := X7.lo; omega) (by have := X7.lo; simp; omega) _) ?_
        simp only [Act.put]
        refine wpAnyH_done (by kernel_rfl) ?_ _
        exact ⟨rfl, m2, m4, _, _, _, _, _, _, _, _, rfl, ⟨s2.1, s4.1, by rw [s2.2, s1.2], by rw [s4.2, s3.2]⟩, ⟨by decide, by decide, ⟨fun _ j hj => by omega, fun _ => rfl⟩, Y6.setAll_other _ (Ne.symm NE) 0 _, Has.all X7.has.there .u64 m4, (K.put (wd.heap.size) (by have := X7.lo; omega) (by have := X7.lo; simp; omega) (row .u64 4 m4)).below⟩⟩
end Go.Proofs.YtjddngedifgneaaDoor
