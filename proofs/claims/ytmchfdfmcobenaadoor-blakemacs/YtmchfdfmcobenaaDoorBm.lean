/- What the document's own ror and mix answer. -/
import Derived.Test.YtmchfdfmcobenaaDoorBa
import Derived.Test.YtmchfdfmcobenaaDoorHold
import Derived.Test.YtmchfdfmcobenaaDoorAr
import Derived.Test.YtmchfdfmcobenaaDoorOw
import Derived.Test.YtmchfdfmcobenaaDoorKy
import Derived.BigQuiet
import Derived.Deep.Cut
namespace Go.Proofs.YtmchfdfmcobenaaDoor
open Go.RowKit

theorem or32_comm (x y : Int) (hx : 0 ≤ x ∧ x < V) (hy : 0 ≤ y ∧ y < V) : bits .or .u32 x y = bits .or .u32 y x := by
  obtain ⟨x, rfl⟩ := Int.eq_ofNat_of_zero_le hx.1
  obtain ⟨y, rfl⟩ := Int.eq_ofNat_of_zero_le hy.1
  simp only [V] at hx hy
  rw [u32_or_nat x y (by omega) (by omega), u32_or_nat y x (by omega) (by omega), Nat.or_comm]
set_option maxHeartbeats 1000000 in
theorem ror_any (n : Nat) (hn : n = 16 ∨ n = 12 ∨ n = 8 ∨ n = 7) (x : Int) (hx : 0 ≤ x ∧ x < V) (w : World) :
    Calls Tryd.prog 32 #[.int .u32 x, .int .i64 n] w fun e w' => ∃ q, e = .returned (.int .u32 (hrl (32 - n) x)) ∧ w' = w.drewN q := by
  rcases hn with rfl | rfl | rfl | rfl
  · have e : hrl (32 - 16) x = bits .or .u32 (x / 2 ^ 16) (x * 2 ^ 16 % 4294967296) := or32_comm _ _ (by simp only [V]; omega) (by simp only [V] at hx ⊢; omega)
    rw [e]
    go_enter Tryd.func32, Tryd.ntmps32
    go_wp2
    go_quiet (fail)
    go_wp2
    go_ret
    exact ⟨nq, rfl, rfl⟩
  · have e : hrl (32 - 12) x = bits .or .u32 (x / 2 ^ 12) (x * 2 ^ 20 % 4294967296) := or32_comm _ _ (by simp only [V]; omega) (by simp only [V] at hx ⊢; omega)
    rw [e]
    go_enter Tryd.func32, Tryd.ntmps32
    go_wp2
    go_quiet (fail)
    go_wp2
    go_ret
    exact ⟨nq, rfl, rfl⟩
  · have e : hrl (32 - 8) x = bits .or .u32 (x / 2 ^ 8) (x * 2 ^ 24 % 4294967296) := or32_comm _ _ (by simp only [V]; omega) (by simp only [V] at hx ⊢; omega)
    rw [e]
    go_enter Tryd.func32, Tryd.ntmps32
    go_wp2
    go_quiet (fail)
    go_wp2
    go_ret
    exact ⟨nq, rfl, rfl⟩
  · have e : hrl (32 - 7) x = bits .or .u32 (x / 2 ^ 7) (x * 2 ^ 25 % 4294967296) := or32_comm _ _ (by simp only [V]; omega) (by simp only [V] at hx ⊢; omega)
    rw [e]
    go_enter Tryd.func32, Tryd.ntmps32
    go_wp2
    go_quiet (fail)
    go_wp2
    go_ret
    exact ⟨nq, rfl, rfl⟩

/-- The steps of a mixing, one by one. -/
def mxA (f : Nat → Int) (a b : Nat) (x : Int) : Nat → Int := upd f a (had (had (f a) (f b)) x)
def mxD (p : Nat) (f : Nat → Int) (d a : Nat) : Nat → Int := upd f d (hrl p (hxr (f d) (f a)))
def mxC (f : Nat → Int) (c d : Nat) : Nat → Int := upd f c (had (f c) (f d))
theorem mx_all (f : Nat → Int) (a b c d : Nat) (x y : Int) (hab : a ≠ b) (hac : a ≠ c) (had_ : a ≠ d) (hbc : b ≠ c) (hbd : b ≠ d) (hcd : c ≠ d) :
    mxD 25 (mxC (mxD 24 (mxA (mxD 20 (mxC (mxD 16 (mxA f a b x) d a) c d) b c) a b y) d a) c d) b c = bMx f a b c d x y := by
  have hba := hab.symm
  have hca := hac.symm
  have hda := had_.symm
  have hcb := hbc.symm
  have hdb := hbd.symm
  have hdc := hcd.symm
  funext j
  unfold mxA mxC mxD bMx
  simp only [upd, hab, hac, had_, hbc, hbd, hcd, hba, hca, hda, hcb, hdb, hdc, if_false, if_true]
  by_cases ea : j = a
  · subst ea; simp only [hab, hac, had_, if_false, if_true]; rfl
  · by_cases eb : j = b
    · subst eb; simp only [hbc, hbd, hba, if_false, if_true]; rfl
    · by_cases ec : j = c
      · subst ec; simp only [hca, hcb, hcd, if_false, if_true]; rfl
      · by_cases ed : j = d
        · subst ed; simp only [hda, hdb, hdc, if_false, if_true]; rfl
        · simp only [ea, eb, ec, ed, if_false]
/-- The row in its block; nothing else has changed. -/
structure MI (w : World) (B : Nat) (f : Nat → Int) (w' : World) : Prop where
  has : Has w' B .u32 16 f
  lt : B < w.heap.size
  gr : w.grownBy w' (some B)
theorem MI.init {w : World} {B : Nat} {f : Nat → Int} (h : Has w B .u32 16 f) (hl : B < w.heap.size) : MI w B f w := ⟨h, hl, ⟨rfl, rfl, rfl, Nat.le_refl _, fun _ _ _ => rfl⟩⟩
theorem MI.call {w w' w'' : World} {B : Nat} {f : Nat → Int} (h : MI w B f w') (l : Below w'.heap.size w' w'') : MI w B f w'' :=
  ⟨h.has.below l (Nat.lt_of_lt_of_le h.lt h.gr.size), h.lt, ⟨l.os.trans h.gr.os, l.tape.trans h.gr.tape, l.output.trans h.gr.output, Nat.le_trans h.gr.size l.size, fun j hj hne => (l.block j (Nat.lt_of_lt_of_le hj h.gr.size)).trans (h.gr.block j hj hne)⟩⟩
theorem MI.drew {w w' : World} {B : Nat} {f : Nat → Int} (h : MI w B f w') : MI w B f w'.drew := h.call (Below.refl _ _).drew
theorem MI.drewN {w w' : World} {B : Nat} {f : Nat → Int} (h : MI w B f w') (q : Nat) : MI w B f (w'.drewN q) := h.call (below_drewN (Below.refl _ _))
theorem MI.set {w w' : World} {B : Nat} {f : Nat → Int} (h : MI w B f w') (i : Nat) (hi : i < 16) (x : Int) : MI w B (upd f i x) (w'.setCell ⟨B, i, none⟩ (.int .u32 x)) := by
  have hb : Below B w' (w'.setCell ⟨B, i, none⟩ (.int .u32 x)) := below_setAll (Below.refl B w') B (Nat.le_refl _) i [.int .u32 x]
  exact ⟨h.has.set i hi x, h.lt, ⟨hb.os.trans h.gr.os, hb.tape.trans h.gr.tape, hb.output.trans h.gr.output, Nat.le_trans h.gr.size hb.size, fun j hj hne => (heap_setCell_other w' ⟨B, i, none⟩ j _ (fun e => hne (by rw [e]))).trans (h.gr.block j hj hne)⟩⟩
theorem idxV (b cap i : Nat) (hi : i < 16) (w : World) {o : Oper} {a : Act} (x y : Operand) (ho : o.op = .indexAddr 42 x y) (hx : a.eval x = .slice (some ⟨b, 0, none⟩) 16 cap) (hy : a.eval y = .int .i64 (i : Int)) :
    (execOp a.eval o).run Tryd.prog w = .ok (.value (.pointer (some ⟨b, i, none⟩))) w := by
  have h := idxSl (P := Tryd.prog) 42 36 16 cap .i64 ⟨b, 0, none⟩ i x y Tryd.underlying42 (fun _ => by kernel_rfl) hi ho hx hy w
  rw [Addr.add_mid, Nat.zero_add] at h
  exact h

set_option maxRecDepth 10000 in
set_option maxHeartbeats 8000000 in
theorem refMix_any (B cap a b c d : Nat) (x y : Int) (f : Nat → Int) (hf : In V 16 f) (ha : a < 16) (hb : b < 16) (hc : c < 16) (hd : d < 16) (hab : a ≠ b) (hac : a ≠ c) (had_ : a ≠ d) (hbc : b ≠ c) (hbd : b ≠ d) (hcd : c ≠ d) (w : World) (hB : Has w B .u32 16 f) (hl : B < w.heap.size) :
    Calls Tryd.prog 28 #[.slice (some ⟨B, 0, none⟩) 16 cap, .int .i64 a, .int .i64 b, .int .i64 c, .int .i64 d, .int .u32 x, .int .u32 y] w fun e w' => e = .returned (.tuple #[]) ∧ MI w B (bMx f a b c d x y) w' := by
  have K := MI.init hB hl
  go_enter Tryd.func28, Tryd.ntmps28
  have F0 := show Hid (In V 16 f) from hf
  go_upto_region 0 with fail
  refine wp_region_C (S := fun w' => MI w B (f) w') 14 (by kernel_rfl) K.drew ?_
  clear K
  intro K
  generalize w.drew = v0 at K ⊢
  refine pureC (i := 0) (some 14) rfl (.slice (some ⟨B, 0, none⟩) 16 cap) rfl (by decide) rfl (fun _ => by kernel_rfl) (by kernel_rfl) (by kernel_rfl) (by kernel_rfl) (fun _ _ _ h => h) K ?_
  simp only [Act.put, List.setIfInBounds_toArray, List.set_cons_zero, List.set_cons_succ]
  refine pureC (i := 1) (some 15) rfl (.int .i64 (a : Int)) rfl (by decide) rfl (fun _ => by kernel_rfl) (by kernel_rfl) (by kernel_rfl) (by kernel_rfl) (fun _ _ _ h => h) K ?_
  simp only [Act.put, List.setIfInBounds_toArray, List.set_cons_zero, List.set_cons_succ]
  refine pureC (i := 2) (some 16) rfl (.slice (some ⟨B, 0, none⟩) 16 cap) rfl (by decide) rfl (fun _ => by kernel_rfl) (by kernel_rfl) (by kernel_rfl) (by kernel_rfl) (fun _ _ _ h => h) K ?_
  simp only [Act.put, List.setIfInBounds_toArray, List.set_cons_zero, List.set_cons_succ]
  refine pureC (i := 3) (some 17) rfl (.int .i64 (a : Int)) rfl (by decide) rfl (fun _ => by kernel_rfl) (by kernel_rfl) (by kernel_rfl) (by kernel_rfl) (fun _ _ _ h => h) K ?_
  simp only [Act.put, List.setIfInBounds_toArray, List.set_cons_zero, List.set_cons_succ]
  refine pureC (i := 4) (some 18) rfl (.pointer (some ⟨B, a, none⟩)) rfl (by decide) rfl (fun w' => idxV B cap a ha w' _ _ rfl rfl rfl) (by kernel_rfl) (by kernel_rfl) (by kernel_rfl) (fun _ _ _ h => h) K ?_
  simp only [Act.put, List.setIfInBounds_toArray, List.set_cons_zero, List.set_cons_succ]
  refine cellC (i := 5) (some 19) rfl .u32 (.int .u32 ((f) a)) B a 36 _ rfl rfl (by kernel_rfl) rfl rfl rfl (by kernel_rfl) (by kernel_rfl) (by kernel_rfl) (by kernel_rfl) (fun _ _ _ h => h) Tryd.underlying36 K (fun _ h => h.has.cell a ha) ?_
  simp only [Act.put, List.setIfInBounds_toArray, List.set_cons_zero, List.set_cons_succ]
  refine pureC (i := 6) (some 20) rfl (.slice (some ⟨B, 0, none⟩) 16 cap) rfl (by decide) rfl (fun _ => by kernel_rfl) (by kernel_rfl) (by kernel_rfl) (by kernel_rfl) (fun _ _ _ h => h) K ?_
  simp only [Act.put, List.setIfInBounds_toArray, List.set_cons_zero, List.set_cons_succ]
  refine pureC (i := 7) (some 21) rfl (.int .i64 (b : Int)) rfl (by decide) rfl (fun _ => by kernel_rfl) (by kernel_rfl) (by kernel_rfl) (by kernel_rfl) (fun _ _ _ h => h) K ?_
  simp only [Act.put, List.setIfInBounds_toArray, List.set_cons_zero, List.set_cons_succ]
  refine pureC (i := 8) (some 22) rfl (.pointer (some ⟨B, b, none⟩)) rfl (by decide) rfl (fun w' => idxV B cap b hb w' _ _ rfl rfl rfl) (by kernel_rfl) (by kernel_rfl) (by kernel_rfl) (fun _ _ _ h => h) K ?_
  simp only [Act.put, List.setIfInBounds_toArray, List.set_cons_zero, List.set_cons_succ]
  refine cellC (i := 9) (some 23) rfl .u32 (.int .u32 ((f) b)) B b 36 _ rfl rfl (by kernel_rfl) rfl rfl rfl (by kernel_rfl) (by kernel_rfl) (by kernel_rfl) (by kernel_rfl) (fun _ _ _ h => h) Tryd.underlying36 K (fun _ h => h.has.cell b hb) ?_
  simp only [Act.put, List.setIfInBounds_toArray, List.set_cons_zero, List.set_cons_succ]
  refine pureC (i := 10) (some 24) rfl (.int .u32 (had ((f) a) ((f) b))) rfl (by decide) rfl (fun w => addI .u32 _ _ _ _ _ _ _ rfl rfl rfl (IntKind.wrap_u32' _) w) (by kernel_rfl) (by kernel_rfl) (by kernel_rfl) (fun _ _ _ h => h) K ?_
  simp only [Act.put, List.setIfInBounds_toArray, List.set_cons_zero, List.set_cons_succ]
  refine pureC (i := 11) (some 25) rfl (.int .u32 x) rfl (by decide) rfl (fun _ => by kernel_rfl) (by kernel_rfl) (by kernel_rfl) (by kernel_rfl) (fun _ _ _ h => h) K ?_
  simp only [Act.put, List.setIfInBounds_toArray, List.set_cons_zero, List.set_cons_succ]
  refine pureC (i := 12) (some 26) rfl (.int .u32 (had (had ((f) a) ((f) b)) x)) rfl (by decide) rfl (fun w => addI .u32 _ _ _ _ _ _ _ rfl rfl rfl (IntKind.wrap_u32' _) w) (by kernel_rfl) (by kernel_rfl) (by kernel_rfl) (fun _ _ _ h => h) K ?_
  simp only [Act.put, List.setIfInBounds_toArray, List.set_cons_zero, List.set_cons_succ]
  refine pureC (i := 13) (some 27) rfl (.pointer (some ⟨B, a, none⟩)) rfl (by decide) rfl (fun w' => idxV B cap a ha w' _ _ rfl rfl rfl) (by kernel_rfl) (by kernel_rfl) (by kernel_rfl) (fun _ _ _ h => h) K ?_
  simp only [Act.put, List.setIfInBounds_toArray, List.set_cons_zero, List.set_cons_succ]
  refine storeC (S2 := fun _ => True) none rfl .u32 (had (had ((f) a) ((f) b)) x) B a 36 _ _ (by kernel_rfl) rfl rfl rfl rfl rfl (by rw [K.has.cell a ha]; rfl) (K.has.free a ha) (by kernel_rfl) (by kernel_rfl) ?_
  simp only [Act.put]
  refine wpAnyH_done (by kernel_rfl) ?_ _
  have F1 := show Hid (In V 16 (mxA (f) a b x)) from F0.out.upd a _ (had_in _ _).1 (had_in _ _).2
  replace K : MI w B (mxA (f) a b x) _ := K.set a ha (had (had ((f) a) ((f) b)) x)
  generalize v0.setCell ⟨B, a, none⟩ (.int .u32 (had (had ((f) a) ((f) b)) x)) = w1 at K ⊢
  go_upto_region 1 with fail
  refine wp_region_C (S := fun w' => MI w B (mxA (f) a b x) w') 13 (by kernel_rfl) K.drew ?_
  clear K
  intro K
  generalize w1.drew = v1 at K ⊢
  refine pureC (i := 0) (some 28) rfl (.slice (some ⟨B, 0, none⟩) 16 cap) rfl (by decide) rfl (fun _ => by kernel_rfl) (by kernel_rfl) (by kernel_rfl) (by kernel_rfl) (fun _ _ _ h => h) K ?_
  simp only [Act.put, List.setIfInBounds_toArray, List.set_cons_zero, List.set_cons_succ]
  refine pureC (i := 1) (some 29) rfl (.int .i64 (d : Int)) rfl (by decide) rfl (fun _ => by kernel_rfl) (by kernel_rfl) (by kernel_rfl) (by kernel_rfl) (fun _ _ _ h => h) K ?_
  simp only [Act.put, List.setIfInBounds_toArray, List.set_cons_zero, List.set_cons_succ]
  refine pureC (i := 2) (some 30) rfl (.slice (some ⟨B, 0, none⟩) 16 cap) rfl (by decide) rfl (fun _ => by kernel_rfl) (by kernel_rfl) (by kernel_rfl) (by kernel_rfl) (fun _ _ _ h => h) K ?_
  simp only [Act.put, List.setIfInBounds_toArray, List.set_cons_zero, List.set_cons_succ]
  refine pureC (i := 3) (some 31) rfl (.int .i64 (d : Int)) rfl (by decide) rfl (fun _ => by kernel_rfl) (by kernel_rfl) (by kernel_rfl) (by kernel_rfl) (fun _ _ _ h => h) K ?_
  simp only [Act.put, List.setIfInBounds_toArray, List.set_cons_zero, List.set_cons_succ]
  refine pureC (i := 4) (some 32) rfl (.pointer (some ⟨B, d, none⟩)) rfl (by decide) rfl (fun w' => idxV B cap d hd w' _ _ rfl rfl rfl) (by kernel_rfl) (by kernel_rfl) (by kernel_rfl) (fun _ _ _ h => h) K ?_
  simp only [Act.put, List.setIfInBounds_toArray, List.set_cons_zero, List.set_cons_succ]
  refine cellC (i := 5) (some 33) rfl .u32 (.int .u32 ((mxA (f) a b x) d)) B d 36 _ rfl rfl (by kernel_rfl) rfl rfl rfl (by kernel_rfl) (by kernel_rfl) (by kernel_rfl) (by kernel_rfl) (fun _ _ _ h => h) Tryd.underlying36 K (fun _ h => h.has.cell d hd) ?_
  simp only [Act.put, List.setIfInBounds_toArray, List.set_cons_zero, List.set_cons_succ]
  refine pureC (i := 6) (some 34) rfl (.slice (some ⟨B, 0, none⟩) 16 cap) rfl (by decide) rfl (fun _ => by kernel_rfl) (by kernel_rfl) (by kernel_rfl) (by kernel_rfl) (fun _ _ _ h => h) K ?_
  simp only [Act.put, List.setIfInBounds_toArray, List.set_cons_zero, List.set_cons_succ]
  refine pureC (i := 7) (some 35) rfl (.int .i64 (a : Int)) rfl (by decide) rfl (fun _ => by kernel_rfl) (by kernel_rfl) (by kernel_rfl) (by kernel_rfl) (fun _ _ _ h => h) K ?_
  simp only [Act.put, List.setIfInBounds_toArray, List.set_cons_zero, List.set_cons_succ]
  refine pureC (i := 8) (some 36) rfl (.pointer (some ⟨B, a, none⟩)) rfl (by decide) rfl (fun w' => idxV B cap a ha w' _ _ rfl rfl rfl) (by kernel_rfl) (by kernel_rfl) (by kernel_rfl) (fun _ _ _ h => h) K ?_
  simp only [Act.put, List.setIfInBounds_toArray, List.set_cons_zero, List.set_cons_succ]
  refine cellC (i := 9) (some 37) rfl .u32 (.int .u32 ((mxA (f) a b x) a)) B a 36 _ rfl rfl (by kernel_rfl) rfl rfl rfl (by kernel_rfl) (by kernel_rfl) (by kernel_rfl) (by kernel_rfl) (fun _ _ _ h => h) Tryd.underlying36 K (fun _ h => h.has.cell a ha) ?_
  simp only [Act.put, List.setIfInBounds_toArray, List.set_cons_zero, List.set_cons_succ]
  refine pureC (i := 10) (some 38) rfl (.int .u32 (hxr ((mxA (f) a b x) d) ((mxA (f) a b x) a))) rfl (by decide) rfl (fun w => xorI .u32 _ _ _ _ _ _ _ rfl rfl rfl rfl w) (by kernel_rfl) (by kernel_rfl) (by kernel_rfl) (fun _ _ _ h => h) K ?_
  simp only [Act.put, List.setIfInBounds_toArray, List.set_cons_zero, List.set_cons_succ]
  refine callMC (i := 11) (some 39) rfl (by kernel_rfl) rfl rfl (fun _ => by kernel_rfl) (ror_any 16 (by decide) _ (hxr_in _ _ (F1.out d hd) (F1.out a ha)) _) ?_
  rintro e u1 ⟨q1, rfl, rfl⟩
  replace K := K.drewN q1
  refine ⟨_, rfl, K, ?_⟩
  simp only [Act.put, List.setIfInBounds_toArray, List.set_cons_zero, List.set_cons_succ]
  refine pureC (i := 12) (some 40) rfl (.pointer (some ⟨B, d, none⟩)) rfl (by decide) rfl (fun w' => idxV B cap d hd w' _ _ rfl rfl rfl) (by kernel_rfl) (by kernel_rfl) (by kernel_rfl) (fun _ _ _ h => h) K ?_
  simp only [Act.put, List.setIfInBounds_toArray, List.set_cons_zero, List.set_cons_succ]
  refine storeC (S2 := fun _ => True) none rfl .u32 (hrl 16 (hxr ((mxA (f) a b x) d) ((mxA (f) a b x) a))) B d 36 _ _ (by kernel_rfl) rfl rfl rfl rfl rfl (by rw [K.has.cell d hd]; rfl) (K.has.free d hd) (by kernel_rfl) (by kernel_rfl) ?_
  simp only [Act.put]
  refine wpAnyH_done (by kernel_rfl) ?_ _
  have F2 := show Hid (In V 16 (mxD 16 (mxA (f) a b x) d a)) from F1.out.upd d _ (hrl_in _ _ (hxr_in _ _ (F1.out d hd) (F1.out a ha))).1 (hrl_in _ _ (hxr_in _ _ (F1.out d hd) (F1.out a ha))).2
  replace K : MI w B (mxD 16 (mxA (f) a b x) d a) _ := K.set d hd (hrl 16 (hxr ((mxA (f) a b x) d) ((mxA (f) a b x) a)))
  generalize (v1.drewN q1).setCell ⟨B, d, none⟩ (.int .u32 (hrl 16 (hxr ((mxA (f) a b x) d) ((mxA (f) a b x) a)))) = w2 at K ⊢
  go_upto_region 2 with fail
  refine wp_region_C (S := fun w' => MI w B (mxD 16 (mxA (f) a b x) d a) w') 12 (by kernel_rfl) K.drew ?_
  clear K
  intro K
  generalize w2.drew = v2 at K ⊢
  refine pureC (i := 0) (some 41) rfl (.slice (some ⟨B, 0, none⟩) 16 cap) rfl (by decide) rfl (fun _ => by kernel_rfl) (by kernel_rfl) (by kernel_rfl) (by kernel_rfl) (fun _ _ _ h => h) K ?_
  simp only [Act.put, List.setIfInBounds_toArray, List.set_cons_zero, List.set_cons_succ]
  refine pureC (i := 1) (some 42) rfl (.int .i64 (c : Int)) rfl (by decide) rfl (fun _ => by kernel_rfl) (by kernel_rfl) (by kernel_rfl) (by kernel_rfl) (fun _ _ _ h => h) K ?_
  simp only [Act.put, List.setIfInBounds_toArray, List.set_cons_zero, List.set_cons_succ]
  refine pureC (i := 2) (some 43) rfl (.slice (some ⟨B, 0, none⟩) 16 cap) rfl (by decide) rfl (fun _ => by kernel_rfl) (by kernel_rfl) (by kernel_rfl) (by kernel_rfl) (fun _ _ _ h => h) K ?_
  simp only [Act.put, List.setIfInBounds_toArray, List.set_cons_zero, List.set_cons_succ]
  refine pureC (i := 3) (some 44) rfl (.int .i64 (c : Int)) rfl (by decide) rfl (fun _ => by kernel_rfl) (by kernel_rfl) (by kernel_rfl) (by kernel_rfl) (fun _ _ _ h => h) K ?_
  simp only [Act.put, List.setIfInBounds_toArray, List.set_cons_zero, List.set_cons_succ]
  refine pureC (i := 4) (some 45) rfl (.pointer (some ⟨B, c, none⟩)) rfl (by decide) rfl (fun w' => idxV B cap c hc w' _ _ rfl rfl rfl) (by kernel_rfl) (by kernel_rfl) (by kernel_rfl) (fun _ _ _ h => h) K ?_
  simp only [Act.put, List.setIfInBounds_toArray, List.set_cons_zero, List.set_cons_succ]
  refine cellC (i := 5) (some 46) rfl .u32 (.int .u32 ((mxD 16 (mxA (f) a b x) d a) c)) B c 36 _ rfl rfl (by kernel_rfl) rfl rfl rfl (by kernel_rfl) (by kernel_rfl) (by kernel_rfl) (by kernel_rfl) (fun _ _ _ h => h) Tryd.underlying36 K (fun _ h => h.has.cell c hc) ?_
  simp only [Act.put, List.setIfInBounds_toArray, List.set_cons_zero, List.set_cons_succ]
  refine pureC (i := 6) (some 47) rfl (.slice (some ⟨B, 0, none⟩) 16 cap) rfl (by decide) rfl (fun _ => by kernel_rfl) (by kernel_rfl) (by kernel_rfl) (by kernel_rfl) (fun _ _ _ h => h) K ?_
  simp only [Act.put, List.setIfInBounds_toArray, List.set_cons_zero, List.set_cons_succ]
  refine pureC (i := 7) (some 48) rfl (.int .i64 (d : Int)) rfl (by decide) rfl (fun _ => by kernel_rfl) (by kernel_rfl) (by kernel_rfl) (by kernel_rfl) (fun _ _ _ h => h) K ?_
  simp only [Act.put, List.setIfInBounds_toArray, List.set_cons_zero, List.set_cons_succ]
  refine pureC (i := 8) (some 49) rfl (.pointer (some ⟨B, d, none⟩)) rfl (by decide) rfl (fun w' => idxV B cap d hd w' _ _ rfl rfl rfl) (by kernel_rfl) (by kernel_rfl) (by kernel_rfl) (fun _ _ _ h => h) K ?_
  simp only [Act.put, List.setIfInBounds_toArray, List.set_cons_zero, List.set_cons_succ]
  refine cellC (i := 9) (some 50) rfl .u32 (.int .u32 ((mxD 16 (mxA (f) a b x) d a) d)) B d 36 _ rfl rfl (by kernel_rfl) rfl rfl rfl (by kernel_rfl) (by kernel_rfl) (by kernel_rfl) (by kernel_rfl) (fun _ _ _ h => h) Tryd.underlying36 K (fun _ h => h.has.cell d hd) ?_
  simp only [Act.put, List.setIfInBounds_toArray, List.set_cons_zero, List.set_cons_succ]
  refine pureC (i := 10) (some 51) rfl (.int .u32 (had ((mxD 16 (mxA (f) a b x) d a) c) ((mxD 16 (mxA (f) a b x) d a) d))) rfl (by decide) rfl (fun w => addI .u32 _ _ _ _ _ _ _ rfl rfl rfl (IntKind.wrap_u32' _) w) (by kernel_rfl) (by kernel_rfl) (by kernel_rfl) (fun _ _ _ h => h) K ?_
  simp only [Act.put, List.setIfInBounds_toArray, List.set_cons_zero, List.set_cons_succ]
  refine pureC (i := 11) (some 52) rfl (.pointer (some ⟨B, c, none⟩)) rfl (by decide) rfl (fun w' => idxV B cap c hc w' _ _ rfl rfl rfl) (by kernel_rfl) (by kernel_rfl) (by kernel_rfl) (fun _ _ _ h => h) K ?_
  simp only [Act.put, List.setIfInBounds_toArray, List.set_cons_zero, List.set_cons_succ]
  refine storeC (S2 := fun _ => True) none rfl .u32 (had ((mxD 16 (mxA (f) a b x) d a) c) ((mxD 16 (mxA (f) a b x) d a) d)) B c 36 _ _ (by kernel_rfl) rfl rfl rfl rfl rfl (by rw [K.has.cell c hc]; rfl) (K.has.free c hc) (by kernel_rfl) (by kernel_rfl) ?_
  simp only [Act.put]
  refine wpAnyH_done (by kernel_rfl) ?_ _
  have F3 := show Hid (In V 16 (mxC (mxD 16 (mxA (f) a b x) d a) c d)) from F2.out.upd c _ (had_in _ _).1 (had_in _ _).2
  replace K : MI w B (mxC (mxD 16 (mxA (f) a b x) d a) c d) _ := K.set c hc (had ((mxD 16 (mxA (f) a b x) d a) c) ((mxD 16 (mxA (f) a b x) d a) d))
  generalize v2.setCell ⟨B, c, none⟩ (.int .u32 (had ((mxD 16 (mxA (f) a b x) d a) c) ((mxD 16 (mxA (f) a b x) d a) d))) = w3 at K ⊢
  go_upto_region 3 with fail
  refine wp_region_C (S := fun w' => MI w B (mxC (mxD 16 (mxA (f) a b x) d a) c d) w') 13 (by kernel_rfl) K.drew ?_
  clear K
  intro K
  generalize w3.drew = v3 at K ⊢
  refine pureC (i := 0) (some 53) rfl (.slice (some ⟨B, 0, none⟩) 16 cap) rfl (by decide) rfl (fun _ => by kernel_rfl) (by kernel_rfl) (by kernel_rfl) (by kernel_rfl) (fun _ _ _ h => h) K ?_
  simp only [Act.put, List.setIfInBounds_toArray, List.set_cons_zero, List.set_cons_succ]
  refine pureC (i := 1) (some 54) rfl (.int .i64 (b : Int)) rfl (by decide) rfl (fun _ => by kernel_rfl) (by kernel_rfl) (by kernel_rfl) (by kernel_rfl) (fun _ _ _ h => h) K ?_
  simp only [Act.put, List.setIfInBounds_toArray, List.set_cons_zero, List.set_cons_succ]
  refine pureC (i := 2) (some 55) rfl (.slice (some ⟨B, 0, none⟩) 16 cap) rfl (by decide) rfl (fun _ => by kernel_rfl) (by kernel_rfl) (by kernel_rfl) (by kernel_rfl) (fun _ _ _ h => h) K ?_
  simp only [Act.put, List.setIfInBounds_toArray, List.set_cons_zero, List.set_cons_succ]
  refine pureC (i := 3) (some 56) rfl (.int .i64 (b : Int)) rfl (by decide) rfl (fun _ => by kernel_rfl) (by kernel_rfl) (by kernel_rfl) (by kernel_rfl) (fun _ _ _ h => h) K ?_
  simp only [Act.put, List.setIfInBounds_toArray, List.set_cons_zero, List.set_cons_succ]
  refine pureC (i := 4) (some 57) rfl (.pointer (some ⟨B, b, none⟩)) rfl (by decide) rfl (fun w' => idxV B cap b hb w' _ _ rfl rfl rfl) (by kernel_rfl) (by kernel_rfl) (by kernel_rfl) (fun _ _ _ h => h) K ?_
  simp only [Act.put, List.setIfInBounds_toArray, List.set_cons_zero, List.set_cons_succ]
  refine cellC (i := 5) (some 58) rfl .u32 (.int .u32 ((mxC (mxD 16 (mxA (f) a b x) d a) c d) b)) B b 36 _ rfl rfl (by kernel_rfl) rfl rfl rfl (by kernel_rfl) (by kernel_rfl) (by kernel_rfl) (by kernel_rfl) (fun _ _ _ h => h) Tryd.underlying36 K (fun _ h => h.has.cell b hb) ?_
  simp only [Act.put, List.setIfInBounds_toArray, List.set_cons_zero, List.set_cons_succ]
  refine pureC (i := 6) (some 59) rfl (.slice (some ⟨B, 0, none⟩) 16 cap) rfl (by decide) rfl (fun _ => by kernel_rfl) (by kernel_rfl) (by kernel_rfl) (by kernel_rfl) (fun _ _ _ h => h) K ?_
  simp only [Act.put, List.setIfInBounds_toArray, List.set_cons_zero, List.set_cons_succ]
  refine pureC (i := 7) (some 60) rfl (.int .i64 (c : Int)) rfl (by decide) rfl (fun _ => by kernel_rfl) (by kernel_rfl) (by kernel_rfl) (by kernel_rfl) (fun _ _ _ h => h) K ?_
  simp only [Act.put, List.setIfInBounds_toArray, List.set_cons_zero, List.set_cons_succ]
  refine pureC (i := 8) (some 61) rfl (.pointer (some ⟨B, c, none⟩)) rfl (by decide) rfl (fun w' => idxV B cap c hc w' _ _ rfl rfl rfl) (by kernel_rfl) (by kernel_rfl) (by kernel_rfl) (fun _ _ _ h => h) K ?_
  simp only [Act.put, List.setIfInBounds_toArray, List.set_cons_zero, List.set_cons_succ]
  refine cellC (i := 9) (some 62) rfl .u32 (.int .u32 ((mxC (mxD 16 (mxA (f) a b x) d a) c d) c)) B c 36 _ rfl rfl (by kernel_rfl) rfl rfl rfl (by kernel_rfl) (by kernel_rfl) (by kernel_rfl) (by kernel_rfl) (fun _ _ _ h => h) Tryd.underlying36 K (fun _ h => h.has.cell c hc) ?_
  simp only [Act.put, List.setIfInBounds_toArray, List.set_cons_zero, List.set_cons_succ]
  refine pureC (i := 10) (some 63) rfl (.int .u32 (hxr ((mxC (mxD 16 (mxA (f) a b x) d a) c d) b) ((mxC (mxD 16 (mxA (f) a b x) d a) c d) c))) rfl (by decide) rfl (fun w => xorI .u32 _ _ _ _ _ _ _ rfl rfl rfl rfl w) (by kernel_rfl) (by kernel_rfl) (by kernel_rfl) (fun _ _ _ h => h) K ?_
  simp only [Act.put, List.setIfInBounds_toArray, List.set_cons_zero, List.set_cons_succ]
  refine callMC (i := 11) (some 64) rfl (by kernel_rfl) rfl rfl (fun _ => by kernel_rfl) (ror_any 12 (by decide) _ (hxr_in _ _ (F3.out b hb) (F3.out c hc)) _) ?_
  rintro e u3 ⟨q3, rfl, rfl⟩
  replace K := K.drewN q3
  refine ⟨_, rfl, K, ?_⟩
  simp only [Act.put, List.setIfInBounds_toArray, List.set_cons_zero, List.set_cons_succ]
  refine pureC (i := 12) (some 65) rfl (.pointer (some ⟨B, b, none⟩)) rfl (by decide) rfl (fun w' => idxV B cap b hb w' _ _ rfl rfl rfl) (by kernel_rfl) (by kernel_rfl) (by kernel_rfl) (fun _ _ _ h => h) K ?_
  simp only [Act.put, List.setIfInBounds_toArray, List.set_cons_zero, List.set_cons_succ]
  refine storeC (S2 := fun _ => True) none rfl .u32 (hrl 20 (hxr ((mxC (mxD 16 (mxA (f) a b x) d a) c d) b) ((mxC (mxD 16 (mxA (f) a b x) d a) c d) c))) B b 36 _ _ (by kernel_rfl) rfl rfl rfl rfl rfl (by rw [K.has.cell b hb]; rfl) (K.has.free b hb) (by kernel_rfl) (by kernel_rfl) ?_
  simp only [Act.put]
  refine wpAnyH_done (by kernel_rfl) ?_ _
  have F4 := show Hid (In V 16 (mxD 20 (mxC (mxD 16 (mxA (f) a b x) d a) c d) b c)) from F3.out.upd b _ (hrl_in _ _ (hxr_in _ _ (F3.out b hb) (F3.out c hc))).1 (hrl_in _ _ (hxr_in _ _ (F3.out b hb) (F3.out c hc))).2
  replace K : MI w B (mxD 20 (mxC (mxD 16 (mxA (f) a b x) d a) c d) b c) _ := K.set b hb (hrl 20 (hxr ((mxC (mxD 16 (mxA (f) a b x) d a) c d) b) ((mxC (mxD 16 (mxA (f) a b x) d a) c d) c)))
  generalize (v3.drewN q3).setCell ⟨B, b, none⟩ (.int .u32 (hrl 20 (hxr ((mxC (mxD 16 (mxA (f) a b x) d a) c d) b) ((mxC (mxD 16 (mxA (f) a b x) d a) c d) c)))) = w4 at K ⊢
  go_upto_region 4 with fail
  refine wp_region_C (S := fun w' => MI w B (mxD 20 (mxC (mxD 16 (mxA (f) a b x) d a) c d) b c) w') 14 (by kernel_rfl) K.drew ?_
  clear K
  intro K
  generalize w4.drew = v4 at K ⊢
  refine pureC (i := 0) (some 66) rfl (.slice (some ⟨B, 0, none⟩) 16 cap) rfl (by decide) rfl (fun _ => by kernel_rfl) (by kernel_rfl) (by kernel_rfl) (by kernel_rfl) (fun _ _ _ h => h) K ?_
  simp only [Act.put, List.setIfInBounds_toArray, List.set_cons_zero, List.set_cons_succ]
  refine pureC (i := 1) (some 67) rfl (.int .i64 (a : Int)) rfl (by decide) rfl (fun _ => by kernel_rfl) (by kernel_rfl) (by kernel_rfl) (by kernel_rfl) (fun _ _ _ h => h) K ?_
  simp only [Act.put, List.setIfInBounds_toArray, List.set_cons_zero, List.set_cons_succ]
  refine pureC (i := 2) (some 68) rfl (.slice (some ⟨B, 0, none⟩) 16 cap) rfl (by decide) rfl (fun _ => by kernel_rfl) (by kernel_rfl) (by kernel_rfl) (by kernel_rfl) (fun _ _ _ h => h) K ?_
  simp only [Act.put, List.setIfInBounds_toArray, List.set_cons_zero, List.set_cons_succ]
  refine pureC (i := 3) (some 69) rfl (.int .i64 (a : Int)) rfl (by decide) rfl (fun _ => by kernel_rfl) (by kernel_rfl) (by kernel_rfl) (by kernel_rfl) (fun _ _ _ h => h) K ?_
  simp only [Act.put, List.setIfInBounds_toArray, List.set_cons_zero, List.set_cons_succ]
  refine pureC (i := 4) (some 70) rfl (.pointer (some ⟨B, a, none⟩)) rfl (by decide) rfl (fun w' => idxV B cap a ha w' _ _ rfl rfl rfl) (by kernel_rfl) (by kernel_rfl) (by kernel_rfl) (fun _ _ _ h => h) K ?_
  simp only [Act.put, List.setIfInBounds_toArray, List.set_cons_zero, List.set_cons_succ]
  refine cellC (i := 5) (some 71) rfl .u32 (.int .u32 ((mxD 20 (mxC (mxD 16 (mxA (f) a b x) d a) c d) b c) a)) B a 36 _ rfl rfl (by kernel_rfl) rfl rfl rfl (by kernel_rfl) (by kernel_rfl) (by kernel_rfl) (by kernel_rfl) (fun _ _ _ h => h) Tryd.underlying36 K (fun _ h => h.has.cell a ha) ?_
  simp only [Act.put, List.setIfInBounds_toArray, List.set_cons_zero, List.set_cons_succ]
  refine pureC (i := 6) (some 72) rfl (.slice (some ⟨B, 0, none⟩) 16 cap) rfl (by decide) rfl (fun _ => by kernel_rfl) (by kernel_rfl) (by kernel_rfl) (by kernel_rfl) (fun _ _ _ h => h) K ?_
  simp only [Act.put, List.setIfInBounds_toArray, List.set_cons_zero, List.set_cons_succ]
  refine pureC (i := 7) (some 73) rfl (.int .i64 (b : Int)) rfl (by decide) rfl (fun _ => by kernel_rfl) (by kernel_rfl) (by kernel_rfl) (by kernel_rfl) (fun _ _ _ h => h) K ?_
  simp only [Act.put, List.setIfInBounds_toArray, List.set_cons_zero, List.set_cons_succ]
  refine pureC (i := 8) (some 74) rfl (.pointer (some ⟨B, b, none⟩)) rfl (by decide) rfl (fun w' => idxV B cap b hb w' _ _ rfl rfl rfl) (by kernel_rfl) (by kernel_rfl) (by kernel_rfl) (fun _ _ _ h => h) K ?_
  simp only [Act.put, List.setIfInBounds_toArray, List.set_cons_zero, List.set_cons_succ]
  refine cellC (i := 9) (some 75) rfl .u32 (.int .u32 ((mxD 20 (mxC (mxD 16 (mxA (f) a b x) d a) c d) b c) b)) B b 36 _ rfl rfl (by kernel_rfl) rfl rfl rfl (by kernel_rfl) (by kernel_rfl) (by kernel_rfl) (by kernel_rfl) (fun _ _ _ h => h) Tryd.underlying36 K (fun _ h => h.has.cell b hb) ?_
  simp only [Act.put, List.setIfInBounds_toArray, List.set_cons_zero, List.set_cons_succ]
  refine pureC (i := 10) (some 76) rfl (.int .u32 (had ((mxD 20 (mxC (mxD 16 (mxA (f) a b x) d a) c d) b c) a) ((mxD 20 (mxC (mxD 16 (mxA (f) a b x) d a) c d) b c) b))) rfl (by decide) rfl (fun w => addI .u32 _ _ _ _ _ _ _ rfl rfl rfl (IntKind.wrap_u32' _) w) (by kernel_rfl) (by kernel_rfl) (by kernel_rfl) (fun _ _ _ h => h) K ?_
  simp only [Act.put, List.setIfInBounds_toArray, List.set_cons_zero, List.set_cons_succ]
  refine pureC (i := 11) (some 77) rfl (.int .u32 y) rfl (by decide) rfl (fun _ => by kernel_rfl) (by kernel_rfl) (by kernel_rfl) (by kernel_rfl) (fun _ _ _ h => h) K ?_
  simp only [Act.put, List.setIfInBounds_toArray, List.set_cons_zero, List.set_cons_succ]
  refine pureC (i := 12) (some 78) rfl (.int .u32 (had (had ((mxD 20 (mxC (mxD 16 (mxA (f) a b x) d a) c d) b c) a) ((mxD 20 (mxC (mxD 16 (mxA (f) a b x) d a) c d) b c) b)) y)) rfl (by decide) rfl (fun w => addI .u32 _ _ _ _ _ _ _ rfl rfl rfl (IntKind.wrap_u32' _) w) (by kernel_rfl) (by kernel_rfl) (by kernel_rfl) (fun _ _ _ h => h) K ?_
  simp only [Act.put, List.setIfInBounds_toArray, List.set_cons_zero, List.set_cons_succ]
  refine pureC (i := 13) (some 79) rfl (.pointer (some ⟨B, a, none⟩)) rfl (by decide) rfl (fun w' => idxV B cap a ha w' _ _ rfl rfl rfl) (by kernel_rfl) (by kernel_rfl) (by kernel_rfl) (fun _ _ _ h => h) K ?_
  simp only [Act.put, List.setIfInBounds_toArray, List.set_cons_zero, List.set_cons_succ]
  refine storeC (S2 := fun _ => True) none rfl .u32 (had (had ((mxD 20 (mxC (mxD 16 (mxA (f) a b x) d a) c d) b c) a) ((mxD 20 (mxC (mxD 16 (mxA (f) a b x) d a) c d) b c) b)) y) B a 36 _ _ (by kernel_rfl) rfl rfl rfl rfl rfl (by rw [K.has.cell a ha]; rfl) (K.has.free a ha) (by kernel_rfl) (by kernel_rfl) ?_
  simp only [Act.put]
  refine wpAnyH_done (by kernel_rfl) ?_ _
  have F5 := show Hid (In V 16 (mxA (mxD 20 (mxC (mxD 16 (mxA (f) a b x) d a) c d) b c) a b y)) from F4.out.upd a _ (had_in _ _).1 (had_in _ _).2
  replace K : MI w B (mxA (mxD 20 (mxC (mxD 16 (mxA (f) a b x) d a) c d) b c) a b y) _ := K.set a ha (had (had ((mxD 20 (mxC (mxD 16 (mxA (f) a b x) d a) c d) b c) a) ((mxD 20 (mxC (mxD 16 (mxA (f) a b x) d a) c d) b c) b)) y)
  generalize v4.setCell ⟨B, a, none⟩ (.int .u32 (had (had ((mxD 20 (mxC (mxD 16 (mxA (f) a b x) d a) c d) b c) a) ((mxD 20 (mxC (mxD 16 (mxA (f) a b x) d a) c d) b c) b)) y)) = w5 at K ⊢
  go_upto_region 5 with fail
  refine wp_region_C (S := fun w' => MI w B (mxA (mxD 20 (mxC (mxD 16 (mxA (f) a b x) d a) c d) b c) a b y) w') 13 (by kernel_rfl) K.drew ?_
  clear K
  intro K
  generalize w5.drew = v5 at K ⊢
  refine pureC (i := 0) (some 80) rfl (.slice (some ⟨B, 0, none⟩) 16 cap) rfl (by decide) rfl (fun _ => by kernel_rfl) (by kernel_rfl) (by kernel_rfl) (by kernel_rfl) (fun _ _ _ h => h) K ?_
  simp only [Act.put, List.setIfInBounds_toArray, List.set_cons_zero, List.set_cons_succ]
  refine pureC (i := 1) (some 81) rfl (.int .i64 (d : Int)) rfl (by decide) rfl (fun _ => by kernel_rfl) (by kernel_rfl) (by kernel_rfl) (by kernel_rfl) (fun _ _ _ h => h) K ?_
  simp only [Act.put, List.setIfInBounds_toArray, List.set_cons_zero, List.set_cons_succ]
  refine pureC (i := 2) (some 82) rfl (.slice (some ⟨B, 0, none⟩) 16 cap) rfl (by decide) rfl (fun _ => by kernel_rfl) (by kernel_rfl) (by kernel_rfl) (by kernel_rfl) (fun _ _ _ h => h) K ?_
  simp only [Act.put, List.setIfInBounds_toArray, List.set_cons_zero, List.set_cons_succ]
  refine pureC (i := 3) (some 83) rfl (.int .i64 (d : Int)) rfl (by decide) rfl (fun _ => by kernel_rfl) (by kernel_rfl) (by kernel_rfl) (by kernel_rfl) (fun _ _ _ h => h) K ?_
  simp only [Act.put, List.setIfInBounds_toArray, List.set_cons_zero, List.set_cons_succ]
  refine pureC (i := 4) (some 84) rfl (.pointer (some ⟨B, d, none⟩)) rfl (by decide) rfl (fun w' => idxV B cap d hd w' _ _ rfl rfl rfl) (by kernel_rfl) (by kernel_rfl) (by kernel_rfl) (fun _ _ _ h => h) K ?_
  simp only [Act.put, List.setIfInBounds_toArray, List.set_cons_zero, List.set_cons_succ]
  refine cellC (i := 5) (some 85) rfl .u32 (.int .u32 ((mxA (mxD 20 (mxC (mxD 16 (mxA (f) a b x) d a) c d) b c) a b y) d)) B d 36 _ rfl rfl (by kernel_rfl) rfl rfl rfl (by kernel_rfl) (by kernel_rfl) (by kernel_rfl) (by kernel_rfl) (fun _ _ _ h => h) Tryd.underlying36 K (fun _ h => h.has.cell d hd) ?_
  simp only [Act.put, List.setIfInBounds_toArray, List.set_cons_zero, List.set_cons_succ]
  refine pureC (i := 6) (some 86) rfl (.slice (some ⟨B, 0, none⟩) 16 cap) rfl (by decide) rfl (fun _ => by kernel_rfl) (by kernel_rfl) (by kernel_rfl) (by kernel_rfl) (fun _ _ _ h => h) K ?_
  simp only [Act.put, List.setIfInBounds_toArray, List.set_cons_zero, List.set_cons_succ]
  refine pureC (i := 7) (some 87) rfl (.int .i64 (a : Int)) rfl (by decide) rfl (fun _ => by kernel_rfl) (by kernel_rfl) (by kernel_rfl) (by kernel_rfl) (fun _ _ _ h => h) K ?_
  simp only [Act.put, List.setIfInBounds_toArray, List.set_cons_zero, List.set_cons_succ]
  refine pureC (i := 8) (some 88) rfl (.pointer (some ⟨B, a, none⟩)) rfl (by decide) rfl (fun w' => idxV B cap a ha w' _ _ rfl rfl rfl) (by kernel_rfl) (by kernel_rfl) (by kernel_rfl) (fun _ _ _ h => h) K ?_
  simp only [Act.put, List.setIfInBounds_toArray, List.set_cons_zero, List.set_cons_succ]
  refine cellC (i := 9) (some 89) rfl .u32 (.int .u32 ((mxA (mxD 20 (mxC (mxD 16 (mxA (f) a b x) d a) c d) b c) a b y) a)) B a 36 _ rfl rfl (by kernel_rfl) rfl rfl rfl (by kernel_rfl) (by kernel_rfl) (by kernel_rfl) (by kernel_rfl) (fun _ _ _ h => h) Tryd.underlying36 K (fun _ h => h.has.cell a ha) ?_
  simp only [Act.put, List.setIfInBounds_toArray, List.set_cons_zero, List.set_cons_succ]
  refine pureC (i := 10) (some 90) rfl (.int .u32 (hxr ((mxA (mxD 20 (mxC (mxD 16 (mxA (f) a b x) d a) c d) b c) a b y) d) ((mxA (mxD 20 (mxC (mxD 16 (mxA (f) a b x) d a) c d) b c) a b y) a))) rfl (by decide) rfl (fun w => xorI .u32 _ _ _ _ _ _ _ rfl rfl rfl rfl w) (by kernel_rfl) (by kernel_rfl) (by kernel_rfl) (fun _ _ _ h => h) K ?_
  simp only [Act.put, List.setIfInBounds_toArray, List.set_cons_zero, List.set_cons_succ]
  refine callMC (i := 11) (some 91) rfl (by kernel_rfl) rfl rfl (fun _ => by kernel_rfl) (ror_any 8 (by decide) _ (hxr_in _ _ (F5.out d hd) (F5.out a ha)) _) ?_
  rintro e u5 ⟨q5, rfl, rfl⟩
  replace K := K.drewN q5
  refine ⟨_, rfl, K, ?_⟩
  simp only [Act.put, List.setIfInBounds_toArray, List.set_cons_zero, List.set_cons_succ]
  refine pureC (i := 12) (some 92) rfl (.pointer (some ⟨B, d, none⟩)) rfl (by decide) rfl (fun w' => idxV B cap d hd w' _ _ rfl rfl rfl) (by kernel_rfl) (by kernel_rfl) (by kernel_rfl) (fun _ _ _ h => h) K ?_
  simp only [Act.put, List.setIfInBounds_toArray, List.set_cons_zero, List.set_cons_succ]
  refine storeC (S2 := fun _ => True) none rfl .u32 (hrl 24 (hxr ((mxA (mxD 20 (mxC (mxD 16 (mxA (f) a b x) d a) c d) b c) a b y) d) ((mxA (mxD 20 (mxC (mxD 16 (mxA (f) a b x) d a) c d) b c) a b y) a))) B d 36 _ _ (by kernel_rfl) rfl rfl rfl rfl rfl (by rw [K.has.cell d hd]; rfl) (K.has.free d hd) (by kernel_rfl) (by kernel_rfl) ?_
  simp only [Act.put]
  refine wpAnyH_done (by kernel_rfl) ?_ _
  have F6 := show Hid (In V 16 (mxD 24 (mxA (mxD 20 (mxC (mxD 16 (mxA (f) a b x) d a) c d) b c) a b y) d a)) from F5.out.upd d _ (hrl_in _ _ (hxr_in _ _ (F5.out d hd) (F5.out a ha))).1 (hrl_in _ _ (hxr_in _ _ (F5.out d hd) (F5.out a ha))).2
  replace K : MI w B (mxD 24 (mxA (mxD 20 (mxC (mxD 16 (mxA (f) a b x) d a) c d) b c) a b y) d a) _ := K.set d hd (hrl 24 (hxr ((mxA (mxD 20 (mxC (mxD 16 (mxA (f) a b x) d a) c d) b c) a b y) d) ((mxA (mxD 20 (mxC (mxD 16 (mxA (f) a b x) d a) c d) b c) a b y) a)))
  generalize (v5.drewN q5).setCell ⟨B, d, none⟩ (.int .u32 (hrl 24 (hxr ((mxA (mxD 20 (mxC (mxD 16 (mxA (f) a b x) d a) c d) b c) a b y) d) ((mxA (mxD 20 (mxC (mxD 16 (mxA (f) a b x) d a) c d) b c) a b y) a)))) = w6 at K ⊢
  go_upto_region 6 with fail
  refine wp_region_C (S := fun w' => MI w B (mxD 24 (mxA (mxD 20 (mxC (mxD 16 (mxA (f) a b x) d a) c d) b c) a b y) d a) w') 12 (by kernel_rfl) K.drew ?_
  clear K
  intro K
  generalize w6.drew = v6 at K ⊢
  refine pureC (i := 0) (some 93) rfl (.slice (some ⟨B, 0, none⟩) 16 cap) rfl (by decide) rfl (fun _ => by kernel_rfl) (by kernel_rfl) (by kernel_rfl) (by kernel_rfl) (fun _ _ _ h => h) K ?_
  simp only [Act.put, List.setIfInBounds_toArray, List.set_cons_zero, List.set_cons_succ]
  refine pureC (i := 1) (some 94) rfl (.int .i64 (c : Int)) rfl (by decide) rfl (fun _ => by kernel_rfl) (by kernel_rfl) (by kernel_rfl) (by kernel_rfl) (fun _ _ _ h => h) K ?_
  simp only [Act.put, List.setIfInBounds_toArray, List.set_cons_zero, List.set_cons_succ]
  refine pureC (i := 2) (some 95) rfl (.slice (some ⟨B, 0, none⟩) 16 cap) rfl (by decide) rfl (fun _ => by kernel_rfl) (by kernel_rfl) (by kernel_rfl) (by kernel_rfl) (fun _ _ _ h => h) K ?_
  simp only [Act.put, List.setIfInBounds_toArray, List.set_cons_zero, List.set_cons_succ]
  refine pureC (i := 3) (some 96) rfl (.int .i64 (c : Int)) rfl (by decide) rfl (fun _ => by kernel_rfl) (by kernel_rfl) (by kernel_rfl) (by kernel_rfl) (fun _ _ _ h => h) K ?_
  simp only [Act.put, List.setIfInBounds_toArray, List.set_cons_zero, List.set_cons_succ]
  refine pureC (i := 4) (some 97) rfl (.pointer (some ⟨B, c, none⟩)) rfl (by decide) rfl (fun w' => idxV B cap c hc w' _ _ rfl rfl rfl) (by kernel_rfl) (by kernel_rfl) (by kernel_rfl) (fun _ _ _ h => h) K ?_
  simp only [Act.put, List.setIfInBounds_toArray, List.set_cons_zero, List.set_cons_succ]
  refine cellC (i := 5) (some 98) rfl .u32 (.int .u32 ((mxD 24 (mxA (mxD 20 (mxC (mxD 16 (mxA (f) a b x) d a) c d) b c) a b y) d a) c)) B c 36 _ rfl rfl (by kernel_rfl) rfl rfl rfl (by kernel_rfl) (by kernel_rfl) (by kernel_rfl) (by kernel_rfl) (fun _ _ _ h => h) Tryd.underlying36 K (fun _ h => h.has.cell c hc) ?_
  simp only [Act.put, List.setIfInBounds_toArray, List.set_cons_zero, List.set_cons_succ]
  refine pureC (i := 6) (some 99) rfl (.slice (some ⟨B, 0, none⟩) 16 cap) rfl (by decide) rfl (fun _ => by kernel_rfl) (by kernel_rfl) (by kernel_rfl) (by kernel_rfl) (fun _ _ _ h => h) K ?_
  simp only [Act.put, List.setIfInBounds_toArray, List.set_cons_zero, List.set_cons_succ]
  refine pureC (i := 7) (some 100) rfl (.int .i64 (d : Int)) rfl (by decide) rfl (fun _ => by kernel_rfl) (by kernel_rfl) (by kernel_rfl) (by kernel_rfl) (fun _ _ _ h => h) K ?_
  simp only [Act.put, List.setIfInBounds_toArray, List.set_cons_zero, List.set_cons_succ]
  refine pureC (i := 8) (some 101) rfl (.pointer (some ⟨B, d, none⟩)) rfl (by decide) rfl (fun w' => idxV B cap d hd w' _ _ rfl rfl rfl) (by kernel_rfl) (by kernel_rfl) (by kernel_rfl) (fun _ _ _ h => h) K ?_
  simp only [Act.put, List.setIfInBounds_toArray, List.set_cons_zero, List.set_cons_succ]
  refine cellC (i := 9) (some 102) rfl .u32 (.int .u32 ((mxD 24 (mxA (mxD 20 (mxC (mxD 16 (mxA (f) a b x) d a) c d) b c) a b y) d a) d)) B d 36 _ rfl rfl (by kernel_rfl) rfl rfl rfl (by kernel_rfl) (by kernel_rfl) (by kernel_rfl) (by kernel_rfl) (fun _ _ _ h => h) Tryd.underlying36 K (fun _ h => h.has.cell d hd) ?_
  simp only [Act.put, List.setIfInBounds_toArray, List.set_cons_zero, List.set_cons_succ]
  refine pureC (i := 10) (some 103) rfl (.int .u32 (had ((mxD 24 (mxA (mxD 20 (mxC (mxD 16 (mxA (f) a b x) d a) c d) b c) a b y) d a) c) ((mxD 24 (mxA (mxD 20 (mxC (mxD 16 (mxA (f) a b x) d a) c d) b c) a b y) d a) d))) rfl (by decide) rfl (fun w => addI .u32 _ _ _ _ _ _ _ rfl rfl rfl (IntKind.wrap_u32' _) w) (by kernel_rfl) (by kernel_rfl) (by kernel_rfl) (fun _ _ _ h => h) K ?_
  simp only [Act.put, List.setIfInBounds_toArray, List.set_cons_zero, List.set_cons_succ]
  refine pureC (i := 11) (some 104) rfl (.pointer (some ⟨B, c, none⟩)) rfl (by decide) rfl (fun w' => idxV B cap c hc w' _ _ rfl rfl rfl) (by kernel_rfl) (by kernel_rfl) (by kernel_rfl) (fun _ _ _ h => h) K ?_
  simp only [Act.put, List.setIfInBounds_toArray, List.set_cons_zero, List.set_cons_succ]
  refine storeC (S2 := fun _ => True) none rfl .u32 (had ((mxD 24 (mxA (mxD 20 (mxC (mxD 16 (mxA (f) a b x) d a) c d) b c) a b y) d a) c) ((mxD 24 (mxA (mxD 20 (mxC (mxD 16 (mxA (f) a b x) d a) c d) b c) a b y) d a) d)) B c 36 _ _ (by kernel_rfl) rfl rfl rfl rfl rfl (by rw [K.has.cell c hc]; rfl) (K.has.free c hc) (by kernel_rfl) (by kernel_rfl) ?_
  simp only [Act.put]
  refine wpAnyH_done (by kernel_rfl) ?_ _
  have F7 := show Hid (In V 16 (mxC (mxD 24 (mxA (mxD 20 (mxC (mxD 16 (mxA (f) a b x) d a) c d) b c) a b y) d a) c d)) from F6.out.upd c _ (had_in _ _).1 (had_in _ _).2
  replace K : MI w B (mxC (mxD 24 (mxA (mxD 20 (mxC (mxD 16 (mxA (f) a b x) d a) c d) b c) a b y) d a) c d) _ := K.set c hc (had ((mxD 24 (mxA (mxD 20 (mxC (mxD 16 (mxA (f) a b x) d a) c d) b c) a b y) d a) c) ((mxD 24 (mxA (mxD 20 (mxC (mxD 16 (mxA (f) a b x) d a) c d) b c) a b y) d a) d))
  generalize v6.setCell ⟨B, c, none⟩ (.int .u32 (had ((mxD 24 (mxA (mxD 20 (mxC (mxD 16 (mxA (f) a b x) d a) c d) b c) a b y) d a) c) ((mxD 24 (mxA (mxD 20 (mxC (mxD 16 (mxA (f) a b x) d a) c d) b c) a b y) d a) d))) = w7 at K ⊢
  go_upto_region 7 with fail
  refine wp_region_C (S := fun w' => MI w B (mxC (mxD 24 (mxA (mxD 20 (mxC (mxD 16 (mxA (f) a b x) d a) c d) b c) a b y) d a) c d) w') 13 (by kernel_rfl) K.drew ?_
  clear K
  intro K
  generalize w7.drew = v7 at K ⊢
  refine pureC (i := 0) (some 105) rfl (.slice (some ⟨B, 0, none⟩) 16 cap) rfl (by decide) rfl (fun _ => by kernel_rfl) (by kernel_rfl) (by kernel_rfl) (by kernel_rfl) (fun _ _ _ h => h) K ?_
  simp only [Act.put, List.setIfInBounds_toArray, List.set_cons_zero, List.set_cons_succ]
  refine pureC (i := 1) (some 106) rfl (.int .i64 (b : Int)) rfl (by decide) rfl (fun _ => by kernel_rfl) (by kernel_rfl) (by kernel_rfl) (by kernel_rfl) (fun _ _ _ h => h) K ?_
  simp only [Act.put, List.setIfInBounds_toArray, List.set_cons_zero, List.set_cons_succ]
  refine pureC (i := 2) (some 107) rfl (.slice (some ⟨B, 0, none⟩) 16 cap) rfl (by decide) rfl (fun _ => by kernel_rfl) (by kernel_rfl) (by kernel_rfl) (by kernel_rfl) (fun _ _ _ h => h) K ?_
  simp only [Act.put, List.setIfInBounds_toArray, List.set_cons_zero, List.set_cons_succ]
  refine pureC (i := 3) (some 108) rfl (.int .i64 (b : Int)) rfl (by decide) rfl (fun _ => by kernel_rfl) (by kernel_rfl) (by kernel_rfl) (by kernel_rfl) (fun _ _ _ h => h) K ?_
  simp only [Act.put, List.setIfInBounds_toArray, List.set_cons_zero, List.set_cons_succ]
  refine pureC (i := 4) (some 109) rfl (.pointer (some ⟨B, b, none⟩)) rfl (by decide) rfl (fun w' => idxV B cap b hb w' _ _ rfl rfl rfl) (by kernel_rfl) (by kernel_rfl) (by kernel_rfl) (fun _ _ _ h => h) K ?_
  simp only [Act.put, List.setIfInBounds_toArray, List.set_cons_zero, List.set_cons_succ]
  refine cellC (i := 5) (some 110) rfl .u32 (.int .u32 ((mxC (mxD 24 (mxA (mxD 20 (mxC (mxD 16 (mxA (f) a b x) d a) c d) b c) a b y) d a) c d) b)) B b 36 _ rfl rfl (by kernel_rfl) rfl rfl rfl (by kernel_rfl) (by kernel_rfl) (by kernel_rfl) (by kernel_rfl) (fun _ _ _ h => h) Tryd.underlying36 K (fun _ h => h.has.cell b hb) ?_
  simp only [Act.put, List.setIfInBounds_toArray, List.set_cons_zero, List.set_cons_succ]
  refine pureC (i := 6) (some 111) rfl (.slice (some ⟨B, 0, none⟩) 16 cap) rfl (by decide) rfl (fun _ => by kernel_rfl) (by kernel_rfl) (by kernel_rfl) (by kernel_rfl) (fun _ _ _ h => h) K ?_
  simp only [Act.put, List.setIfInBounds_toArray, List.set_cons_zero, List.set_cons_succ]
  refine pureC (i := 7) (some 112) rfl (.int .i64 (c : Int)) rfl (by decide) rfl (fun _ => by kernel_rfl) (by kernel_rfl) (by kernel_rfl) (by kernel_rfl) (fun _ _ _ h => h) K ?_
  simp only [Act.put, List.setIfInBounds_toArray, List.set_cons_zero, List.set_cons_succ]
  refine pureC (i := 8) (some 113) rfl (.pointer (some ⟨B, c, none⟩)) rfl (by decide) rfl (fun w' => idxV B cap c hc w' _ _ rfl rfl rfl) (by kernel_rfl) (by kernel_rfl) (by kernel_rfl) (fun _ _ _ h => h) K ?_
  simp only [Act.put, List.setIfInBounds_toArray, List.set_cons_zero, List.set_cons_succ]
  refine cellC (i := 9) (some 114) rfl .u32 (.int .u32 ((mxC (mxD 24 (mxA (mxD 20 (mxC (mxD 16 (mxA (f) a b x) d a) c d) b c) a b y) d a) c d) c)) B c 36 _ rfl rfl (by kernel_rfl) rfl rfl rfl (by kernel_rfl) (by kernel_rfl) (by kernel_rfl) (by kernel_rfl) (fun _ _ _ h => h) Tryd.underlying36 K (fun _ h => h.has.cell c hc) ?_
  simp only [Act.put, List.setIfInBounds_toArray, List.set_cons_zero, List.set_cons_succ]
  refine pureC (i := 10) (some 115) rfl (.int .u32 (hxr ((mxC (mxD 24 (mxA (mxD 20 (mxC (mxD 16 (mxA (f) a b x) d a) c d) b c) a b y) d a) c d) b) ((mxC (mxD 24 (mxA (mxD 20 (mxC (mxD 16 (mxA (f) a b x) d a) c d) b c) a b y) d a) c d) c))) rfl (by decide) rfl (fun w => xorI .u32 _ _ _ _ _ _ _ rfl rfl rfl rfl w) (by kernel_rfl) (by kernel_rfl) (by kernel_rfl) (fun _ _ _ h => h) K ?_
  simp only [Act.put, List.setIfInBounds_toArray, List.set_cons_zero, List.set_cons_succ]
  refine callMC (i := 11) (some 116) rfl (by kernel_rfl) rfl rfl (fun _ => by kernel_rfl) (ror_any 7 (by decide) _ (hxr_in _ _ (F7.out b hb) (F7.out c hc)) _) ?_
  rintro e u7 ⟨q7, rfl, rfl⟩
  replace K := K.drewN q7
  refine ⟨_, rfl, K, ?_⟩
  simp only [Act.put, List.setIfInBounds_toArray, List.set_cons_zero, List.set_cons_succ]
  refine pureC (i := 12) (some 117) rfl (.pointer (some ⟨B, b, none⟩)) rfl (by decide) rfl (fun w' => idxV B cap b hb w' _ _ rfl rfl rfl) (by kernel_rfl) (by kernel_rfl) (by kernel_rfl) (fun _ _ _ h => h) K ?_
  simp only [Act.put, List.setIfInBounds_toArray, List.set_cons_zero, List.set_cons_succ]
  refine storeC (S2 := fun _ => True) none rfl .u32 (hrl 25 (hxr ((mxC (mxD 24 (mxA (mxD 20 (mxC (mxD 16 (mxA (f) a b x) d a) c d) b c) a b y) d a) c d) b) ((mxC (mxD 24 (mxA (mxD 20 (mxC (mxD 16 (mxA (f) a b x) d a) c d) b c) a b y) d a) c d) c))) B b 36 _ _ (by kernel_rfl) rfl rfl rfl rfl rfl (by rw [K.has.cell b hb]; rfl) (K.has.free b hb) (by kernel_rfl) (by kernel_rfl) ?_
  simp only [Act.put]
  refine wpAnyH_done (by kernel_rfl) ?_ _
  have F8 := show Hid (In V 16 (mxD 25 (mxC (mxD 24 (mxA (mxD 20 (mxC (mxD 16 (mxA (f) a b x) d a) c d) b c) a b y) d a) c d) b c)) from F7.out.upd b _ (hrl_in _ _ (hxr_in _ _ (F7.out b hb) (F7.out c hc))).1 (hrl_in _ _ (hxr_in _ _ (F7.out b hb) (F7.out c hc))).2
  replace K : MI w B (mxD 25 (mxC (mxD 24 (mxA (mxD 20 (mxC (mxD 16 (mxA (f) a b x) d a) c d) b c) a b y) d a) c d) b c) _ := K.set b hb (hrl 25 (hxr ((mxC (mxD 24 (mxA (mxD 20 (mxC (mxD 16 (mxA (f) a b x) d a) c d) b c) a b y) d a) c d) b) ((mxC (mxD 24 (mxA (mxD 20 (mxC (mxD 16 (mxA (f) a b x) d a) c d) b c) a b y) d a) c d) c)))
  generalize (v7.drewN q7).setCell ⟨B, b, none⟩ (.int .u32 (hrl 25 (hxr ((mxC (mxD 24 (mxA (mxD 20 (mxC (mxD 16 (mxA (f) a b x) d a) c d) b c) a b y) d a) c d) b) ((mxC (mxD 24 (mxA (mxD 20 (mxC (mxD 16 (mxA (f) a b x) d a) c d) b c) a b y) d a) c d) c)))) = w8 at K ⊢
  rw [mx_all f a b c d x y hab hac had_ hbc hbd hcd] at K
  go_wp2
  go_end0
  exact ⟨rfl, K⟩
end Go.Proofs.YtmchfdfmcobenaaDoor
