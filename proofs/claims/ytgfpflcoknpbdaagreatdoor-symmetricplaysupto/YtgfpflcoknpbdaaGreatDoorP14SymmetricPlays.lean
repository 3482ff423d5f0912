/- Texts of Gw Gx Wr Rt Rb Dg Rd Re, joined. -/
import Derived.Test.YtgfpflcoknpbdaaGreatDoorP13SymmetricPlays
import Derived.Deep.Cut
import Derived.Test.YtgfpflcoknpbdaaGreatDoorP4SymmetricPlays
import Derived.Test.YtgfpflcoknpbdaaGreatDoorP1SymmetricPlays
import Derived.Test.YtgfpflcoknpbdaaGreatDoorP2SymmetricPlays
import Derived.Test.YtgfpflcoknpbdaaGreatDoorP3SymmetricPlays
import Derived.BigRegion
set_option maxRecDepth 20000
set_option maxHeartbeats 64000000
namespace Go.Proofs.YtgfpflcoknpbdaaGreatDoor
open Go.RowKit
def tot (ln : Nat → Nat) : Nat → Nat
  | 0 => 0
  | j + 1 => tot ln j + ln j
def catz (ln : Nat → Nat) (zz : Nat → Nat → Int) : Nat → Nat → Int
  | 0 => fun _ => 0
  | j + 1 => app (catz ln zz j) (tot ln j) (zz j)
theorem tot_mono (ln : Nat → Nat) {i : Nat} : ∀ {j : Nat}, i ≤ j → tot ln i ≤ tot ln j
  | 0, h => by obtain rfl : i = 0 := by omega
               exact Nat.le_refl _
  | j + 1, h => by
    rcases Nat.lt_or_ge j i with h' | h'
    · obtain rfl : i = j + 1 := by omega
      exact Nat.le_refl _
    · have := tot_mono ln h'
      show _ ≤ tot ln j + ln j
      omega
theorem loadSl {P : Program} {o : Oper} {a : Act} {w : World} (ty e : TypeId) (x : Operand) (p : Addr) (v : Value) (ho : o.op = .load ty x) (hx : a.eval x = .pointer (some p)) (hu : P.underlying ty = some (.slice e)) (hc : w.cell? p = some v) : (execOp a.eval o).run P w = .ok (.value v) w := by
  have hagg : (isAgg ty).run P w = .ok false w := by
    unfold isAgg
    rw [Sem.run_bind, run_underlying hu w]
    rfl
  have e : (loadVar ty p).run P w = .ok v w := by simp [loadVar, Sem.run_bind, hagg, hc]
  unfold execOp
  simp only [ho, hx, Instr.loadAt, Instr.sureAddr, Sem.run_bind, Sem.run_pure, Result.andThen_ok, e]
theorem cut_none (g n cap : Nat) (w : World) : (Instr.sliceAt 28 (.slice (some ⟨g, 0, none⟩) n cap) none (some (.int .i64 0)) none).run Tryz.prog w = .ok (.slice (some ⟨g, 0, none⟩) 0 cap) w := by
  rw [run_sliceAt_slice w 28 _ _ _ _ (by kernel_rfl), run_slice_h w 28 _ n cap (by kernel_rfl) .i64 0 (by omega) (by omega), show (sizeOf (Tryz.prog.elem 28)).run Tryz.prog w = .ok 1 w by kernel_rfl]
  simp [Result.andThen, sliced, Addr.add_mid]
theorem grow_any (n : Nat) (hn : n ≤ 281474976710656) (w : World) :
    Calls Tryz.prog 35 #[.slice none 0 0, .int .i64 (n : Int)] w fun e w' => ∃ v, e = .returned v ∧ Own w' w.heap.size 5 .u8 0 (fun _ => 0) v ∧ n ≤ vcap v ∧ Below w.heap.size w w' := by
  have h0 : ¬ (n : Int) < 0 := by omega
  go_enter Tryz.func35, Tryz.ntmps35
  go_upto_region 3 with fail
  clear h0
  refine wp_region_list ?_
  refine pureL (.int .i64 (n : Int)) rfl (fun _ => by kernel_rfl) ?_
  simp only [aP, lI, l0, lS]
  refine pureL (.slice none 0 0) rfl (fun _ => by kernel_rfl) ?_
  simp only [aP, lI, l0, lS]
  refine pureL (.int .i64 0) rfl (fun _ => by kernel_rfl) ?_
  simp only [aP, lI, l0, lS]
  refine pureL (.slice none 0 0) rfl (fun _ => by kernel_rfl) ?_
  simp only [aP, lI, l0, lS]
  refine pureL (.int .i64 0) rfl (fun _ => by kernel_rfl) ?_
  simp only [aP, lI, l0, lS]
  refine pureL (.int .i64 0) rfl (fun _ => by kernel_rfl) ?_
  simp only [aP, lI, l0, lS]
  refine pureL (.int .i64 (n : Int)) rfl (fun w => subI .i64 _ _ _ _ _ _ _ rfl rfl rfl (by rw [IntKind.wrap_i64]; omega) w) ?_
  simp only [aP, lI, l0, lS]
  refine pureL (.int .i64 (n : Int)) rfl (fun _ => by kernel_rfl) ?_
  simp only [aP, lI, l0, lS]
  show Exit.then _ _ _ _ _
  rcases Nat.eq_zero_or_pos n with hz | hz
  · subst hz
    go_wp2
    go_ret
    exact ⟨.slice none 0 0, rfl, World.ownsRow_nil w _ _ 1, Nat.le_refl _, Below.refl _ _⟩
  · have g1 : (0 : Int) < (n : Int) := by omega
    go_upto_region 5 with fail
    refine wp_region_list ?_
    refine pureL (.slice none 0 0) rfl (fun _ => by kernel_rfl) ?_
    simp only [aP, lI, l0, lS]
    refine pureL (.slice none 0 0) rfl (fun _ => by kernel_rfl) ?_
    simp only [aP, lI, l0, lS]
    refine pureL (.int .i64 0) rfl (fun _ => by kernel_rfl) ?_
    simp only [aP, lI, l0, lS]
    refine pureL (.slice none 0 0) rfl (fun _ => by kernel_rfl) ?_
    simp only [aP, lI, l0, lS]
    refine pureL (.int .i64 (n : Int)) rfl (fun _ => by kernel_rfl) ?_
    simp only [aP, lI, l0, lS]
    have h1 : (Tryz.prog.info? 5).map (fun i => (i.zero, i.bytes, i.size)) = some (some (.int .u8 0), 1, 1) := by kernel_rfl
    obtain ⟨i, hi, he⟩ := Option.map_eq_some_iff.1 h1
    simp only [Prod.mk.injEq] at he
    obtain ⟨e1, e2, e3⟩ := he
    have hr : ∀ ty, _ := fun ty => Lib.run_append_nil_zeros (P := Tryz.prog) w 28 3 ty 5 i (.int .u8 0) .i64 .i64 Tryz.underlying28 Tryz.underlying3 hi e1 n (by omega) (by rw [e3]; decide) (by omega) (by rw [e2]; omega)
    refine actL _ rfl (appendNOp _ _ 28 3 _ _ _ rfl rfl rfl (hr _)) ?_
    clear hr
    have hge := grownCap_ge w n 0 5
    have hle := grownCap_le_maxLen w n 0 5 (by unfold maxLen; omega)
    have hz1 : (Value.int .u8 0).cells.size = 1 := rfl
    have hsz : (Builtin.zeroCells (Value.int .u8 0).cells n ++ Builtin.zeroCells (Value.int .u8 0).cells (grownCap w n 0 5 - n)).size = grownCap w n 0 5 * 1 := by
      rw [Array.size_append, size_zeroCells, size_zeroCells, hz1]
      omega
    have O : Own (w.drew.alloc (.cells (Builtin.zeroCells (Value.int .u8 0).cells n ++ Builtin.zeroCells (Value.int .u8 0).cells (grownCap w n 0 5 - n)) 5)) w.heap.size 5 .u8 0 (fun _ => 0) (.slice (some ⟨w.heap.size, 0, none⟩) 0 (grownCap w n 0 5)) :=
      ⟨rfl, .inr ⟨w.heap.size, _, _, rfl, Nat.le_refl _, heap_alloc_new w.drew _, Nat.zero_le _, hle, hsz, by rw [Nat.zero_mul, List.take_zero]; rfl⟩⟩
    have hB : Below w.heap.size w (w.drew.alloc (.cells (Builtin.zeroCells (Value.int .u8 0).cells n ++ Builtin.zeroCells (Value.int .u8 0).cells (grownCap w n 0 5 - n)) 5)) := (Below.refl _ _).drew.alloc (Nat.le_refl _) _
    generalize (w.drew.alloc (.cells (Builtin.zeroCells (Value.int .u8 0).cells n ++ Builtin.zeroCells (Value.int .u8 0).cells (grownCap w n 0 5 - n)) 5)) = w1 at O hB ⊢
    clear hle hsz hz1 h1 hi e1 e2 e3
    generalize grownCap w n 0 5 = cp at O hge ⊢
    generalize hg : w.heap.size = g at O hB ⊢
    simp only [aP, lI, l0, lS]
    refine pureL (.slice none 0 0) rfl (fun _ => by kernel_rfl) ?_
    simp only [aP, lI, l0, lS]
    refine pureL (.int .i64 0) rfl (fun _ => by kernel_rfl) ?_
    simp only [aP, lI, l0, lS]
    refine pureL (.slice (some ⟨g, 0, none⟩) 0 cp) rfl (fun w' => cutHi _ _ _ _ _ _ rfl rfl rfl (cut_none g n cp w')) ?_
    simp only [aP, lI, l0, lS]
    refine pureL (.slice (some ⟨g, 0, none⟩) 0 cp) rfl (fun _ => by kernel_rfl) ?_
    simp only [aP, lI, l0]
    subst hg
    show Exit.then _ _ _ _ _
    go_wp2
    go_ret
    exact ⟨_, rfl, O, hge, hB⟩
structure CatIn (w : World) (p : Addr) (c : Nat) (sp : Nat → Option Addr) (ln cp : Nat → Nat) (zz : Nat → Nat → Int) : Prop where
  cell : ∀ j, j < c → w.cell? (p.add j) = some (.slice (sp j) (ln j) (cp j))
  src : ∀ j, j < c → Src w (sp j) (ln j) (zz j)
  nil : ∀ j, j < c → sp j = none → cp j = 0
theorem CatIn.below {w w' : World} {p : Addr} {c : Nat} {sp : Nat → Option Addr} {ln cp : Nat → Nat} {zz : Nat → Nat → Int} (h : CatIn w p c sp ln cp zz) (l : Below w.heap.size w w') : CatIn w' p c sp ln cp zz :=
  ⟨fun j hj => by rw [l.cell (World.block_lt_of_cell? w _ (h.cell j hj))]; exact h.cell j hj, fun j hj => (h.src j hj).below l (Nat.le_refl _), h.nil⟩
structure CatI (w : World) (ln : Nat → Nat) (zz : Nat → Nat → Int) (c j : Nat) (s : Value) (w' : World) : Prop where
  own : Own w' w.heap.size 5 .u8 (tot ln j) (catz ln zz j) s
  room : tot ln c ≤ vcap s
  below : Below w.heap.size w w'
theorem concat_any (p : Addr) (c c' : Nat) (sp : Nat → Option Addr) (ln cp : Nat → Nat) (zz : Nat → Nat → Int) (hc : c < 1000000) (ht : tot ln c ≤ 281474976710656) (w : World) (hin : CatIn w p c sp ln cp zz) :
    Calls Tryz.prog 23 #[.slice (some p) c c'] w fun e w' => ∃ v, e = .returned v ∧ Own w' w.heap.size 5 .u8 (tot ln c) (catz ln zz c) v ∧ Below w.heap.size w w' := by
  go_enter Tryz.func23, Tryz.ntmps23
  go_wp2
  go_loopw [3, 11] (fun s i w' => ∃ j : Nat, j ≤ c ∧ s = .int .i64 ((tot ln j : Nat) : Int) ∧ i = .int .i64 (j : Int) ∧ w = w') (fun _ i _ => c - (intOf i).toNat)
  case atStart => exact ⟨0, Nat.zero_le _, rfl, rfl, rfl⟩
  case round =>
    obtain ⟨j, hj, rfl, rfl, rfl⟩ := hrel
    by_cases hlt : j < c
    · have g1 : (j : Int) < (c : Int) := by omega
      have hm : tot ln j + ln j ≤ tot ln c := tot_mono ln (show j + 1 ≤ c by omega)
      go_upto_region 4 with fail
      refine wp_region_list ?_
      refine pureL (.pointer (some (p.add j))) rfl (fun w => idxSl 59 28 c c' .i64 p j _ _ Tryz.underlying59 (fun _ => by kernel_rfl) hlt rfl rfl rfl w) ?_
      simp only [aP, lI, l0, lS]
      refine readL (.slice (sp j) (ln j) (cp j)) rfl (loadSl 28 5 _ (p.add j) _ rfl rfl Tryz.underlying28 (hin.cell j hlt)) ?_
      simp only [aP, lI, l0, lS]
      refine pureL (.slice (sp j) (ln j) (cp j)) rfl (fun _ => by kernel_rfl) ?_
      simp only [aP, lI, l0, lS]
      show Exit.then _ _ _ _ _
      go_upto_region 5 with fail
      refine wp_region_list ?_
      refine pureL (.int .i64 ((tot ln j : Nat) : Int)) rfl (fun _ => by kernel_rfl) ?_
      simp only [aP, lI, l0, lS]
      refine pureL (.slice (sp j) (ln j) (cp j)) rfl (fun _ => by kernel_rfl) ?_
      simp only [aP, lI, l0, lS]
      refine pureL (.int .i64 ((ln j : Nat) : Int)) rfl (fun w => lenS _ 28 5 (sp j) (ln j) (cp j) rfl Tryz.underlying28 rfl w) ?_
      simp only [aP, lI, l0, lS]
      refine pureL (.int .i64 ((tot ln (j + 1) : Nat) : Int)) rfl (fun w => addI .i64 _ _ _ _ _ _ _ rfl rfl rfl (by rw [IntKind.wrap_i64]; show _ = ((tot ln j + ln j : Nat) : Int); omega) w) ?_
      simp only [aP, lI, l0, lS]
      refine pureL (.int .i64 ((tot ln (j + 1) : Nat) : Int)) rfl (fun _ => by kernel_rfl) ?_
      simp only [aP, lI, l0, lS]
      show Exit.then _ _ _ _ _
      have g2 : ¬ ((tot ln (j + 1) : Nat) : Int) < 0 := by omega
      clear hm
      go_wp2
      go_roundw
      case rel => exact ⟨j + 1, by omega, rfl, by go_num, trivial⟩
      case measure => simp [intOf]; omega
    · obtain rfl : j = c := by omega
      have g1 : ¬ (j : Int) < (j : Int) := by omega
      clear hlt hj
      go_upto_region 9 with fail
      refine wp_region_list ?_
      refine pureL (.int .i64 ((tot ln j : Nat) : Int)) rfl (fun _ => by kernel_rfl) ?_
      simp only [aP, lI, l0, lS]
      refine callL rfl (fun _ => by kernel_rfl) (grow_any (tot ln j) ht _) ?_
      rintro e w1 ⟨v, rfl, O, hro, hB⟩
      refine ⟨_, rfl, ?_⟩
      simp only [aP, lI, l0, lS]
      refine pureL v rfl (fun _ => by kernel_rfl) ?_
      simp only [aP, lI, l0, lS]
      have HI : CatI w ln zz j 0 v w1 := ⟨O, hro, hB⟩
      clear O hro hB
      show Exit.then _ _ _ _ _
      go_wp2
      go_loopw [6, 27] (fun s i w' => ∃ q : Nat, q ≤ j ∧ i = .int .i64 (q : Int) ∧ CatI w ln zz j q s w') (fun _ i _ => j - (intOf i).toNat)
      case atStart => exact ⟨0, Nat.zero_le _, rfl, HI⟩
      case round =>
        clear HI
        obtain ⟨q, hq, rfl, HI⟩ := hrel
        by_cases hlt : q < j
        · have g2 : (q : Int) < (j : Int) := by omega
          have hm : tot ln q + ln q ≤ tot ln j := tot_mono ln (show q + 1 ≤ j by omega)
          go_upto_region 12 with fail
          refine wp_region_list ?_
          refine pureL (.pointer (some (p.add q))) rfl (fun w => idxSl 59 28 j c' .i64 p q _ _ Tryz.underlying59 (fun _ => by kernel_rfl) hlt rfl rfl rfl w) ?_
          simp only [aP, lI, l0, lS]
          refine readL (.slice (sp q) (ln q) (cp q)) rfl (loadSl 28 5 _ (p.add q) _ rfl rfl Tryz.underlying28 ((hin.below HI.below).cell q hlt)) ?_
          simp only [aP, lI, l0, lS]
          refine pureL (.slice (sp q) (ln q) (cp q)) rfl (fun _ => by kernel_rfl) ?_
          simp only [aP, lI, l0, lS]
          show Exit.then _ _ _ _ _
          go_upto_region 13 with fail
          refine wp_region_list ?_
          refine pureL u6 rfl (fun _ => by kernel_rfl) ?_
          simp only [aP, lI, l0, lS]
          refine pureL (.slice (sp q) (ln q) (cp q)) rfl (fun _ => by kernel_rfl) ?_
          simp only [aP, lI, l0, lS]
          obtain ⟨v', w2, hr, O, hg, hv, _⟩ := run_append_Room (P := Tryz.prog) (ty := 28) Tryz.underlying28 one8 HI.own (sp q) (ln q) (cp q) (zz q) ((hin.below HI.below).src q hlt) (hin.nil q hlt) (Nat.le_trans hm HI.room)
          refine actL _ rfl (appendOp _ _ 28 _ _ _ rfl rfl rfl hr) ?_
          simp only [aP, lI, l0, lS]
          refine pureL v' rfl (fun _ => by kernel_rfl) ?_
          simp only [aP, lI, l0, lS]
          have HS := show Hid _ from (show CatI w ln zz j (q + 1) v' w2 from ⟨O, by rw [hv]; exact HI.room, Below.grown HI.below hg HI.below.size (fun b hb => (World.ownsRow.lt HI.own b hb).1)⟩)
          clear O hg hv hr HI hm
          show Exit.inBlock _ _ _ _ _
          go_wp2
          go_roundw
          case rel => first | exact ⟨q + 1, by omega, by go_num, HS.out⟩ | ((repeat apply Exists.intro); refine ⟨⟨q + 1, by omega, ?_, HS.out⟩, rfl⟩ <;> first | rfl | go_num)
          case measure => simp [intOf]; omega
        · obtain rfl : q = j := by omega
          have g2 : ¬ (q : Int) < (q : Int) := by omega
          have HS := show Hid _ from HI
          clear HI hlt hq
          go_wp2
          go_ret
          exact ⟨_, rfl, HS.out.own, HS.out.below⟩
theorem Has.head {w : World} {b : Nat} {k : IntKind} {n : Nat} {f : Nat → Int} (h : Has w b k n f) (m : Nat) (hm : m ≤ n) : w.rangeAt b 0 (row k m f) := fun j v hv => by
  obtain ⟨hj, rfl⟩ := row_get_some hv
  rw [Nat.zero_add]
  exact h.cell j (by omega)
theorem Kr.part {w w' : World} {m : Nat} {l : List (Nat × IntKind × Nat × (Nat → Int))} {R : List (Nat × Nat)} (h : Kr w m l R w') (l' : List (Nat × IntKind × Nat × (Nat → Int))) (b : Nat) (k : IntKind) (n : Nat) (f : Nat → Int) (o q : Nat) (ho : o + q ≤ n) (g : Nat → Int) (hp : (b, k, n, f) ∈ l) (hl : ∀ p ∈ l', p ∈ l) (hne : ∀ p ∈ l', p.1 ≠ b) (hlo : w.heap.size ≤ b) :
    Kr w m ((b, k, n, over f o q g) :: l') R (w'.setCells b o (row k q g)) :=
  ((h.loose l' b k n f hp hl hne hlo).poke b n mS o _).settle R b k n _ mS (fun _ hq => mT _ hq) (fun q hq => (h.apart _ hp q hq).symm) ((h.get _ _ _ _ hp).part o q ho g)
theorem Kr.headC {w w' : World} {m : Nat} {l : List (Nat × IntKind × Nat × (Nat → Int))} {R : List (Nat × Nat)} {b : Nat} {k : IntKind} {n : Nat} {f : Nat → Int} (h : Kr w m ((b, k, n, f) :: l) R w') (g : Nat → Int) (e : ∀ j, j < n → f j = g j) : Kr w m ((b, k, n, g) :: l) R w' :=
  ⟨fun p hp => by
    rcases List.mem_cons.1 hp with rfl | hp
    · exact ⟨(h.rows _ mS).1.congr e, (h.rows _ mS).2⟩
    · exact h.rows p (mT _ hp), h.room, fun p hp q hq => by
    rcases List.mem_cons.1 hp with rfl | hp
    · exact h.apart _ mS q hq
    · exact h.apart p (mT _ hp) q hq, h.size, h.base, h.below⟩
def pk3 {α : Type} (a b c : α) : Nat → α
  | 0 => a
  | 1 => b
  | _ => c
theorem tot3 (a b c : Nat) : tot (pk3 a b c) 3 = a + b + c := by show 0 + a + b + c = _; omega
theorem catIn3 {w : World} (C : Nat) (p1 p2 p3 : Option Addr) (l1 l2 l3 c1 c2 c3 : Nat) (z1 z2 z3 : Nat → Int) (t : TypeId) (hC : C = w.heap.size) (h1 : Src w p1 l1 z1) (h2 : Src w p2 l2 z2) (h3 : Src w p3 l3 z3) (n1 : p1 = none → c1 = 0) (n2 : p2 = none → c2 = 0) (n3 : p3 = none → c3 = 0) :
    CatIn (w.alloc (.cells #[.slice p1 l1 c1, .slice p2 l2 c2, .slice p3 l3 c3] t)) ⟨C, 0, none⟩ 3 (pk3 p1 p2 p3) (pk3 l1 l2 l3) (pk3 c1 c2 c3) (pk3 z1 z2 z3) := by
  have hb := (Below.refl w.heap.size w).alloc (Nat.le_refl _) (.cells #[.slice p1 l1 c1, .slice p2 l2 c2, .slice p3 l3 c3] t)
  refine ⟨fun j hj => ?_, fun j hj => ?_, fun j hj => ?_⟩
  · rw [Addr.add_mid, World.cell?_alloc_at _ _ _ _ hC]
    match j, hj with
    | 0, _ | 1, _ | 2, _ => rfl
    | _ + 3, h => omega
  · match j, hj with
    | 0, _ => exact h1.below hb (Nat.le_refl _)
    | 1, _ => exact h2.below hb (Nat.le_refl _)
    | 2, _ => exact h3.below hb (Nat.le_refl _)
    | _ + 3, h => omega
  · match j, hj with
    | 0, _ => exact n1
    | 1, _ => exact n2
    | 2, _ => exact n3
    | _ + 3, h => omega
theorem put_raw16 (B o c : Nat) (x : Int) (y0 y1 y2 y3 y4 y5 y6 y7 : Int) (w : World) (c0 : w.cell? ⟨B, o, none⟩ = some (.int .u8 y0)) (f0 : w.frozen? ⟨B, o, none⟩ = false) (c1 : w.cell? ⟨B, o + 1, none⟩ = some (.int .u8 y1)) (f1 : w.frozen? ⟨B, o + 1, none⟩ = false) (c2 : w.cell? ⟨B, o + 2, none⟩ = some (.int .u8 y2)) (f2 : w.frozen? ⟨B, o + 2, none⟩ = false) (c3 : w.cell? ⟨B, o + 3, none⟩ = some (.int .u8 y3)) (f3 : w.frozen? ⟨B, o + 3, none⟩ = false) (c4 : w.cell? ⟨B, o + 4, none⟩ = some (.int .u8 y4)) (f4 : w.frozen? ⟨B, o + 4, none⟩ = false) (c5 : w.cell? ⟨B, o + 5, none⟩ = some (.int .u8 y5)) (f5 : w.frozen? ⟨B, o + 5, none⟩ = false) (c6 : w.cell? ⟨B, o + 6, none⟩ = some (.int .u8 y6)) (f6 : w.frozen? ⟨B, o + 6, none⟩ = false) (c7 : w.cell? ⟨B, o + 7, none⟩ = some (.int .u8 y7)) (f7 : w.frozen? ⟨B, o + 7, none⟩ = false) :
    Calls Tryz.prog 51 #[.slice (some ⟨B, o, none⟩) 16 c, .int .u64 x] w fun e w' => e = .returned (.tuple #[]) ∧ w' = ((((((((w.setCell ⟨B, o, none⟩ (.int .u8 (x % 256))).setCell ⟨B, o + 1, none⟩ (.int .u8 (x / 256 % 256))).setCell ⟨B, o + 2, none⟩ (.int .u8 (x / 65536 % 256))).setCell ⟨B, o + 3, none⟩ (.int .u8 (x / 16777216 % 256))).setCell ⟨B, o + 4, none⟩ (.int .u8 (x / 4294967296 % 256))).setCell ⟨B, o + 5, none⟩ (.int .u8 (x / 1099511627776 % 256))).setCell ⟨B, o + 6, none⟩ (.int .u8 (x / 281474976710656 % 256))).setCell ⟨B, o + 7, none⟩ (.int .u8 (x / 72057594037927936 % 256))) := by
  go_enter Tryz.func51, Tryz.ntmps51
  go_wp2
  go_end0
  exact ⟨rfl, rfl⟩
theorem put16_any (B o n c : Nat) (g : Nat → Int) (x : Int) (ho : o + 8 ≤ n) (w : World) (h : Has w B .u8 n g) :
    Calls Tryz.prog 51 #[.slice (some ⟨B, o, none⟩) 16 c, .int .u64 x] w fun e w' => e = .returned (.tuple #[]) ∧ w' = w.setCells B o (row .u8 8 (byt x)) :=
  put_raw16 B o c x _ _ _ _ _ _ _ _ w (h.cell o (by omega)) (h.free o (by omega)) (h.cell (o + 1) (by omega)) (h.free (o + 1) (by omega)) (h.cell (o + 2) (by omega)) (h.free (o + 2) (by omega)) (h.cell (o + 3) (by omega)) (h.free (o + 3) (by omega)) (h.cell (o + 4) (by omega)) (h.free (o + 4) (by omega)) (h.cell (o + 5) (by omega)) (h.free (o + 5) (by omega)) (h.cell (o + 6) (by omega)) (h.free (o + 6) (by omega)) (h.cell (o + 7) (by omega)) (h.free (o + 7) (by omega))
theorem refTrim_any (r : Nat → Int) (hr : In 256 16 r) (w : World) :
    Calls Tryz.prog 75 #[(.agg (row .u8 16 (r)).toArray)] w fun e w' => e = .returned (.agg (row .u8 16 (trimT r)).toArray) ∧ Below w.heap.size w w' := by
  go_enter Tryz.func75, Tryz.ntmps75
  go_wp2
  go_loopw [3] (fun i w' => ∃ (k : Nat) (f : Nat → Int), k ≤ 16 ∧ i = .int .i64 k ∧ TInv r (trimT r) w k f w') (fun i _ => 16 - (intOf i).toNat)
  case atStart => exact ⟨0, r, by omega, rfl, ⟨fun j hj => by omega, fun _ _ => rfl, (Has.new w _ _ _ _ _ rfl).alloc _ (by simp), tag_zero _ _ _ (by simp), ((Fr.refl w).alloc _).alloc _⟩⟩
  case round =>
    obtain ⟨k, f, hk, rfl, hI⟩ := hrel
    by_cases hlt : k < 16
    · have hx := hr k hlt
      have ef := hI.rest k (Nat.le_refl k)
      have c1 := hI.ha.cell k hlt
      have f1 := hI.ha.free k hlt
      have g1 : (0 : Int) ≤ (k : Int) := by omega
      have g2 : (k : Int) < 16 := by omega
      by_cases h3 : k % 4 = 3
      · have e2 : trimT r k = r k % 16 := by unfold trimT; rw [if_pos h3]
        have hb := and15 (r k) hx
        have hS := hI.step hlt
        rw [e2] at hS
        rw [ef] at c1
        have HS := show Hid _ from hS
        have t1 : (k : Int) % 4 = 3 := by omega
        clear hI hS e2 ef
        generalize r k = x at *
        go_wp2
        go_roundw
        case rel => exact ⟨k + 1, _, by omega, by go_num, HS.out⟩
        case measure => simp [intOf]; omega
      · by_cases h0 : k % 4 = 0 ∧ 0 < k
        · have e2 : trimT r k = r k / 4 * 4 := by unfold trimT; rw [if_neg h3, if_pos h0]
          have hb := and252 (r k) hx
          have hS := hI.step hlt
          rw [e2] at hS
          rw [ef] at c1
          have HS := show Hid _ from hS
          have t1 : (k : Int) % 4 = 0 := by omega
          have t2 : (k : Int) > 0 := by omega
          clear hI hS e2 ef
          generalize r k = x at *
          go_wp2
          go_roundw
          case rel => exact ⟨k + 1, _, by omega, by go_num, HS.out⟩
          case measure => simp [intOf]; omega
        · have e2 : trimT r k = r k := by unfold trimT; rw [if_neg h3, if_neg h0]
          have HS := show Hid _ from hI.skip e2
          clear hI e2 ef c1 f1
          by_cases hz : k = 0
          · subst hz
            go_wp2
            go_roundw
            case rel => exact ⟨1, _, by omega, by go_num, HS.out⟩
            case measure => simp [intOf]
          · have t1 : (k : Int) % 4 ≠ 3 := by omega
            have t2 : (k : Int) % 4 ≠ 0 := by omega
            have t3 : ((k : Int) % 4 == 3) = false := by simp [t1]
            have t4 : ((k : Int) % 4 == 0) = false := by simp [t2]
            clear t1 t2
            go_wp2
            go_roundw
            case rel => exact ⟨k + 1, _, by omega, by go_num, HS.out⟩
            case measure => simp [intOf]; omega
    · obtain rfl : k = 16 := by omega
      have ha := hI.ha.congr (g := trimT r) (fun j hj => hI.done j hj)
      have hz := hI.hr
      have hB := (hI.fr.setAll (w.heap.size + 1) (by omega) (row .u8 16 (trimT r))).below
      clear hI hlt hk
      go_wp2_with (first | (refine wpList_load_mid rfl 65 _ rfl (w.heap.size) 0 rfl (row .u8 16 (trimT r)) _ (Has.range (ha)) Tryz.underlying65 rfl (tag_info _) ?_) | (refine wpList_store_mid rfl 65 _ _ rfl (w.heap.size + 1) 0 (row .u8 16 (trimT r)).toArray rfl rfl (tag_there (hz)) (tag_info' _) (all_oneCell_toArray (row_one _ _ _)) ?_))
      exact bodyPost_ret (v := (.agg (row .u8 16 (trimT r)).toArray)) (results_row Tryz.results75 rfl (Has.all hz.there .u8 _).range Tryz.underlying65 rfl (tag_info _)) rfl ⟨rfl, hB⟩
theorem refBlock_long (sp : Option Addr) (len cap : Nat) (z : Nat → Int) (hlen : 16 < len) (w : World) :
    Calls Tryz.prog 76 #[.slice sp len cap] w fun e w' => e = .returned (.tuple #[(.agg (row .u8 17 (blk len z)).toArray), .int .i64 (blkE len)]) ∧ Below w.heap.size w w' := by
  have eb : (row .u8 17 (blk len z)) = row .u8 17 (fun _ => 0) := row_congr _ _ fun j _ => by unfold blk; rw [if_neg (by omega)]
  have ee : blkE len = 2 := by unfold blkE; rw [if_neg (by omega)]
  rw [eb, ee]
  have z0 : Has ((w.alloc (.cells zu8_17 96)).alloc (.cells zu8_17 96)) w.heap.size .u8 17 (fun _ => 0) := (big_zero _ _ _ rfl).alloc _ (by simp)
  have o0 : Has ((w.alloc (.cells zu8_17 96)).alloc (.cells zu8_17 96)) (w.heap.size + 1) .u8 17 (fun _ => 0) := big_zero _ _ _ (by simp)
  have g0 : Fr w 2 ((w.alloc (.cells zu8_17 96)).alloc (.cells zu8_17 96)) := ((Fr.refl w).alloc _).alloc _
  have z1 := z0.setAll_other (w.heap.size + 1) (by omega) 0 (row .u8 17 (fun _ => 0))
  have o1 := Has.all o0.there .u8 (fun _ => 0)
  have g1 := g0.setAll (w.heap.size + 1) (by omega) (row .u8 17 (fun _ => 0))
  have hB := (g1.setAll w.heap.size (Nat.le_refl _) (row .u8 17 (fun _ => 0))).below
  have hl : (len : Int) > 16 := by omega
  clear eb ee g0 g1 hlen z0
  go_enter Tryz.func76, Tryz.ntmps76
  have tok : True := trivial
  go_upto_region 2 with (have _t := tok; refine wpList_store_mid rfl 96 _ _ rfl (w.heap.size + 1) 0 (row .u8 17 (fun _ => 0)).toArray rfl rfl (big_there (o0)) (big_info' _) (all_oneCell_toArray (row_one _ _ _)) ?_; clear tok)
  generalize (((w.alloc (.cells zu8_17 96)).alloc (.cells zu8_17 96)).setCells (w.heap.size + 1) 0 (row .u8 17 (fun _ => 0))) = w2 at *
  clear o0
  go_wp2_with (first | (refine wpList_load_mid rfl 96 _ rfl (w.heap.size + 1) 0 rfl (row .u8 17 (fun _ => 0)) _ (Has.range (o1)) Tryz.underlying96 rfl (big_info _) ?_) | (refine wpList_store_mid rfl 96 _ _ rfl (w.heap.size) 0 (row .u8 17 (fun _ => 0)).toArray rfl rfl (big_there (z1)) (big_info' _) (all_oneCell_toArray (row_one _ _ _)) ?_))
  exact bodyPost_ret (v := .tuple #[(.agg (row .u8 17 (fun _ => 0)).toArray), .int .i64 2]) (results_row_tmp Tryz.results76 rfl rfl (Has.all z1.there .u8 _).range Tryz.underlying96 rfl (big_info _)) rfl ⟨rfl, hB⟩
structure BI (sp : Option Addr) (len : Nat) (z : Nat → Int) (w : World) (k : Nat) (f : Nat → Int) (w' : World) : Prop where
  done : ∀ j, j < k → f j = z j
  rest : ∀ j, k ≤ j → f j = 0
  src : Src w' sp len z
  ho : Has w' (w.heap.size + 1) .u8 17 f
  hr : Has w' w.heap.size .u8 17 (fun _ => 0)
  fr : Fr w 2 w'
theorem BI.step {sp : Option Addr} {len : Nat} {z : Nat → Int} {w : World} {k : Nat} {f : Nat → Int} {w' : World} (h : BI sp len z w k f w') (hk : k < 17) (hs : Src w sp len z) : BI sp len z w (k + 1) (upd f k (z k)) (w'.setCell ⟨w.heap.size + 1, k, none⟩ (.int .u8 (z k))) := by
  have hf := h.fr.set ⟨w.heap.size + 1, k, none⟩ (.int .u8 (z k)) (by simp)
  refine ⟨fun j hj => ?_, fun j hj => ?_, hs.below hf.below (Nat.le_refl _), h.ho.set k hk _, h.hr.set_other _ _ (by simp), hf⟩
  · by_cases e : j = k
    · subst e; rw [upd_same]
    · rw [upd_other _ _ _ _ e]; exact h.done j (by omega)
  · rw [upd_other _ _ _ _ (by omega)]; exact h.rest j (by omega)
theorem refBlock_short (sp : Option Addr) (len cap : Nat) (z : Nat → Int) (hlen : len ≤ 16) (w : World) (hs : Src w sp len z) :
    Calls Tryz.prog 76 #[.slice sp len cap] w fun e w' => e = .returned (.tuple #[(.agg (row .u8 17 (blk len z)).toArray), .int .i64 (blkE len)]) ∧ Below w.heap.size w w' := by
  have ee : blkE len = 0 := by unfold blkE; rw [if_pos hlen]
  rw [ee]
  have z0 : Has ((w.alloc (.cells zu8_17 96)).alloc (.cells zu8_17 96)) w.heap.size .u8 17 (fun _ => 0) := (big_zero _ _ _ rfl).alloc _ (by simp)
  have o0 : Has ((w.alloc (.cells zu8_17 96)).alloc (.cells zu8_17 96)) (w.heap.size + 1) .u8 17 (fun _ => 0) := big_zero _ _ _ (by simp)
  have g0 : Fr w 2 ((w.alloc (.cells zu8_17 96)).alloc (.cells zu8_17 96)) := ((Fr.refl w).alloc _).alloc _
  have g1 := g0.setAll (w.heap.size + 1) (by omega) (row .u8 17 (fun _ => 0))
  have hI0 : BI sp len z w 0 (fun _ => 0) (((w.alloc (.cells zu8_17 96)).alloc (.cells zu8_17 96)).setCells (w.heap.size + 1) 0 (row .u8 17 (fun _ => 0))) := ⟨fun j hj => by omega, fun _ _ => rfl, hs.below g1.below (Nat.le_refl _), Has.all o0.there .u8 (fun _ => 0), z0.setAll_other (w.heap.size + 1) (by omega) 0 _, g1⟩
  have hl : ¬ (len : Int) > 16 := by omega
  clear ee g0 g1 z0
  go_enter Tryz.func76, Tryz.ntmps76
  have tok : True := trivial
  go_upto_region 2 with (have _t := tok; refine wpList_store_mid rfl 96 _ _ rfl (w.heap.size + 1) 0 (row .u8 17 (fun _ => 0)).toArray rfl rfl (big_there (o0)) (big_info' _) (all_oneCell_toArray (row_one _ _ _)) ?_; clear tok)
  generalize (((w.alloc (.cells zu8_17 96)).alloc (.cells zu8_17 96)).setCells (w.heap.size + 1) 0 (row .u8 17 (fun _ => 0))) = w2 at *
  clear o0
  go_wp2
  go_loopw [5] (fun i w' => ∃ (k : Nat) (f : Nat → Int), k ≤ len ∧ i = .int .i64 k ∧ BI sp len z w k f w') (fun i _ => len - (intOf i).toNat)
  case atStart => exact ⟨0, _, by omega, rfl, hI0⟩
  case round =>
    obtain ⟨k, f, hk, rfl, hI⟩ := hrel
    clear hI0
    have g1 : (0 : Int) ≤ (k : Int) := by omega
    by_cases hlt : k < len
    · obtain ⟨ad, rfl, c1⟩ := hI.src k hlt
      have HS := show Hid _ from hI.step (by omega) hs
      have c2 := hI.ho.cell k (by omega)
      have f2 := hI.ho.free k (by omega)
      have g2 : (k : Int) < (len : Int) := by omega
      have g3 : (k : Int) < 17 := by omega
      have HW := show Hid _ from hs
      clear hI hs
      generalize f k = y at *
      generalize z k = x at *
      go_wp2
      go_roundw
      case rel => exact ⟨k + 1, _, by omega, by go_num, HS.out⟩
      case measure => simp [intOf]; omega
    · obtain rfl : k = len := by omega
      have c2 := hI.ho.cell k (by omega)
      have f2 := hI.ho.free k (by omega)
      have g3 : (k : Int) < 17 := by omega
      have hb := (hI.ho.set k (by omega) 1).congr (g := blk k z) (fun j hj => by
        unfold blk
        rw [if_pos hlen]
        by_cases e : j = k
        · subst e; rw [upd_same, if_neg (by omega), if_pos rfl]
        · rw [upd_other _ _ _ _ e]
          by_cases e2 : j < k
          · rw [if_pos e2]; exact hI.done j e2
          · rw [if_neg e2, if_neg e]; exact hI.rest j (by omega))
      have hz := hI.hr.set_other ⟨w.heap.size + 1, k, none⟩ (.int .u8 1) (by simp)
      have hB := ((hI.fr.set ⟨w.heap.size + 1, k, none⟩ (.int .u8 1) (by simp)).setAll w.heap.size (Nat.le_refl _) (row .u8 17 (blk k z))).below
      clear hI hs
      generalize f k = y at *
      go_upto_region 9 with fail
      generalize wr.setCell ⟨w.heap.size + 1, k, none⟩ (.int .u8 1) = w3 at *
      clear c2 f2 g3 hlen hl
      generalize hj : blk k z = g at *
      go_wp2_with (first | (refine wpList_load_mid rfl 96 _ rfl (w.heap.size + 1) 0 rfl (row .u8 17 (g)) _ (Has.range (hb)) Tryz.underlying96 rfl (big_info _) ?_) | (refine wpList_store_mid rfl 96 _ _ rfl (w.heap.size) 0 (row .u8 17 (g)).toArray rfl rfl (big_there (hz)) (big_info' _) (all_oneCell_toArray (row_one _ _ _)) ?_))
      exact bodyPost_ret (v := .tuple #[(.agg (row .u8 17 (g)).toArray), .int .i64 0]) (results_row_tmp Tryz.results76 rfl rfl (Has.all hz.there .u8 _).range Tryz.underlying96 rfl (big_info _)) rfl ⟨by rw [hj], hB⟩
theorem refBlock_any (sp : Option Addr) (len cap : Nat) (z : Nat → Int) (w : World) (hs : Src w sp len z) :
    Calls Tryz.prog 76 #[.slice sp len cap] w fun e w' => e = .returned (.tuple #[(.agg (row .u8 17 (blk len z)).toArray), .int .i64 (blkE len)]) ∧ Below w.heap.size w w' := by
  by_cases h : len ≤ 16
  · exact refBlock_short sp len cap z h w hs
  · exact refBlock_long sp len cap z (by omega) w
def dgN (s A j : Nat) : Nat := A / 2 ^ (s * j) % 2 ^ s
def dg (s A : Nat) : Nat → Int := fun j => ((dgN s A j : Nat) : Int)
theorem dgN_lt (s A j : Nat) : dgN s A j < 2 ^ s := Nat.mod_lt _ (Nat.two_pow_pos s)
theorem dg_in (s A n : Nat) (M : Int) (hM : M = ((2 ^ s : Nat) : Int)) : In M n (dg s A) := fun j _ => by
  have := dgN_lt s A j
  unfold dg
  omega
theorem bit_dg (s A i : Nat) (hs : 0 < s) : dgN s A (i / s) / 2 ^ (i % s) % 2 = A / 2 ^ i % 2 := by
  have h1 := Nat.mod_lt i hs
  have h2 : s * (i / s) + i % s = i := Nat.div_add_mod i s
  unfold dgN
  rw [← Nat.toNat_testBit, ← Nat.toNat_testBit, Nat.testBit_mod_two_pow, Nat.testBit_div_two_pow, decide_eq_true h1, Bool.true_and, Nat.add_comm, h2]
theorem dgN_step (s A i j : Nat) (hs : 0 < s) : dgN s (A % 2 ^ (i + 1)) j = dgN s (A % 2 ^ i) j + (if j = i / s then 2 ^ (i % s) * (A / 2 ^ i % 2) else 0) := by
  have hr := Nat.mod_lt i hs
  have hi : s * (i / s) + i % s = i := Nat.div_add_mod i s
  have hX : A % 2 ^ i < 2 ^ i := Nat.mod_lt _ (Nat.two_pow_pos i)
  have hb : A / 2 ^ i % 2 < 2 := Nat.mod_lt _ (by decide)
  rw [Nat.mod_pow_succ]
  unfold dgN
  generalize A % 2 ^ i = X at *
  generalize A / 2 ^ i % 2 = b at *
  rcases Nat.lt_trichotomy j (i / s) with h | h | h
  · rw [if_neg (by omega), Nat.add_zero]
    obtain ⟨q, hq⟩ : ∃ q, i / s = j + 1 + q := ⟨i / s - (j + 1), by omega⟩
    have e : 2 ^ i * b = 2 ^ (s * j) * (2 ^ s * (2 ^ (s * q + i % s) * b)) := by
      have e1 : i = s * j + (s + (s * q + i % s)) := by
        have e2 : s * (j + 1 + q) = s * j + s + s * q := by rw [Nat.mul_add, Nat.mul_add, Nat.mul_one]
        rw [hq, e2] at hi
        omega
      conv => lhs; rw [e1]
      rw [Nat.pow_add, Nat.pow_add 2 s, Nat.mul_assoc, Nat.mul_assoc]
    rw [e, Nat.add_mul_div_left _ _ (Nat.two_pow_pos _), Nat.add_mul_mod_self_left]
  · rw [if_pos h]
    have e : 2 ^ i * b = 2 ^ (s * j) * (2 ^ (i % s) * b) := by
      conv => lhs; rw [← hi, ← h]
      rw [Nat.pow_add, Nat.mul_assoc]
    have hx : X / 2 ^ (s * j) < 2 ^ (i % s) := by
      rw [Nat.div_lt_iff_lt_mul (Nat.two_pow_pos _), ← Nat.pow_add, Nat.add_comm, h, hi]
      exact hX
    have hs2 : 2 ^ (i % s) + 2 ^ (i % s) ≤ 2 ^ s := by
      rw [← Nat.two_mul, Nat.mul_comm, ← Nat.pow_succ]
      exact Nat.pow_le_pow_right (by decide) (by omega)
    have hy : 2 ^ (i % s) * b ≤ 2 ^ (i % s) := by
      have := Nat.mul_le_mul_left (2 ^ (i % s)) (show b ≤ 1 by omega)
      omega
    rw [e, Nat.add_mul_div_left _ _ (Nat.two_pow_pos _), Nat.mod_eq_of_lt (a := X / 2 ^ (s * j) + 2 ^ (i % s) * b) (by omega), Nat.mod_eq_of_lt (a := X / 2 ^ (s * j)) (by omega)]
  · rw [if_neg (by omega), Nat.add_zero]
    have hle : i + 1 ≤ s * j := by
      have e2 : s * (i / s + 1) ≤ s * j := Nat.mul_le_mul_left s h
      rw [Nat.mul_add, Nat.mul_one] at e2
      omega
    have hp : 2 ^ (i + 1) ≤ 2 ^ (s * j) := Nat.pow_le_pow_right (by decide) hle
    rw [Nat.pow_succ] at hp
    have hy : 2 ^ i * b ≤ 2 ^ i := by
      have := Nat.mul_le_mul_left (2 ^ i) (show b ≤ 1 by omega)
      omega
    rw [Nat.div_eq_of_lt (by omega), Nat.div_eq_of_lt (by omega)]
theorem dgN_zero (s j : Nat) : dgN s 0 j = 0 := by unfold dgN; simp
theorem dg_nought (s A j : Nat) : dg s (A % 2 ^ 0) j = 0 := by unfold dg; rw [Nat.pow_zero, Nat.mod_one, dgN_zero]; rfl
theorem val_dgs (s A : Nat) (M : Int) (hM : M = ((2 ^ s : Nat) : Int)) : ∀ n, val M (dg s A) n = ((A % 2 ^ (s * n) : Nat) : Int)
  | 0 => by simp [val, Nat.mod_one]
  | n + 1 => by
    simp only [val]
    rw [val_dgs s A M hM n, hM, ← Int.natCast_pow, ← Nat.pow_mul, Nat.mul_add, Nat.mul_one, Nat.pow_add, Nat.mod_mul]
    unfold dg dgN
    rw [Int.natCast_add, Int.natCast_mul]
theorem dg_of_val (s n : Nat) (M : Int) (hM : M = ((2 ^ s : Nat) : Int)) (f : Nat → Int) (hf : In M n f) : ∀ j, j < n → f j = dg s (val M f n).toNat j := by
  have hp : (0 : Int) < M := by have := Nat.two_pow_pos s; omega
  have hb := val_in M hp f n hf
  refine val_inj M hp f _ n hf (dg_in s _ n M hM) ?_
  rw [val_dgs s _ M hM n, Nat.mod_eq_of_lt]
  · omega
  · have e : M ^ n = ((2 ^ (s * n) : Nat) : Int) := by rw [hM, ← Int.natCast_pow, ← Nat.pow_mul]
    rw [e] at hb
    omega
theorem or_add (x y s : Nat) (hx : x < 2 ^ s) : x ||| (2 ^ s * y) = x + 2 ^ s * y := by
  rw [Nat.or_comm, ← Nat.two_pow_add_eq_or_of_lt hx y, Nat.add_comm]
theorem made6_zero (w : World) (t : TypeId) (b : Nat) (hb : b = w.heap.size) : Has (w.alloc (.cells zi64_6 t)) b .i64 6 (fun _ => 0) := Has.new w .i64 6 (fun _ => 0) t b hb
theorem made6 (w : World) : (Instr.makeSlice 89 (.int .i64 6) (.int .i64 6)).run Tryz.prog w = .ok (.slice (some ⟨w.heap.size, 0, none⟩) 6 6) (w.alloc (.cells zi64_6 3)) := by kernel_rfl
def nb (a : Nat → Int) : Nat := (val 256 a 17).toNat
theorem nb_val (a : Nat → Int) (ha : In 256 17 a) : ((nb a : Nat) : Int) = val 256 a 17 := by
  have := val_in 256 (by decide) a 17 ha
  unfold nb
  omega
theorem nb_lt (a : Nat → Int) (ha : In 256 17 a) : nb a < 2 ^ 136 := by
  have := val_in 256 (by decide) a 17 ha
  rw [show (256 : Int) ^ 17 = 87112285931760246646623899502532662132736 from by decide] at this
  unfold nb
  omega
theorem nb_dg (a : Nat → Int) (ha : In 256 17 a) (j : Nat) (hj : j < 17) : a j = dg 8 (nb a) j := dg_of_val 8 17 256 (by decide) a ha j hj
structure DI (a : Nat → Int) (w : World) (k : Nat) (w' : World) : Prop where
  ha : Has w' w.heap.size .u8 17 a
  ht : Has w' (w.heap.size + 1) .i64 6 (dg 26 (nb a % 2 ^ k))
  fr : Fr w 2 w'
theorem bit8 (a : Nat → Int) (ha : In 256 17 a) (k : Nat) (hk : k < 136) : a (k / 8) / 2 ^ (k % 8) % 2 = ((nb a / 2 ^ k % 2 : Nat) : Int) := by
  rw [nb_dg a ha (k / 8) (by omega), ← bit_dg 8 (nb a) k (by decide)]
  unfold dg
  rw [Int.natCast_emod, Int.natCast_ediv, Int.natCast_pow]
  rfl
theorem dg_up (s A i j : Nat) (hs : 0 < s) (x : Int) (hx : x = dg s (A % 2 ^ i) (i / s) + ((A / 2 ^ i % 2 : Nat) : Int) * ((2 ^ (i % s) : Nat) : Int)) : upd (dg s (A % 2 ^ i)) (i / s) x j = dg s (A % 2 ^ (i + 1)) j := by
  have e := dgN_step s A i j hs
  by_cases c : j = i / s
  · subst c
    rw [upd_same, hx]
    rw [if_pos rfl] at e
    unfold dg
    rw [e, Int.natCast_add, Int.natCast_mul, Int.mul_comm]
  · rw [upd_other _ _ _ _ c]
    rw [if_neg c] at e
    unfold dg
    rw [e, Nat.add_zero]
theorem DI.step {a : Nat → Int} {w : World} {k : Nat} {w' : World} (h : DI a w k w') (hk : k < 136) (x : Int) (hx : x = dg 26 (nb a % 2 ^ k) (k / 26) + ((nb a / 2 ^ k % 2 : Nat) : Int) * ((2 ^ (k % 26) : Nat) : Int)) :
    DI a w (k + 1) ((w'.setCell ⟨w.heap.size + 1, k / 26, none⟩ (.int .i64 x)).drew) :=
  ⟨(h.ha.set_other _ _ (by simp)).drew, (Has.congr (h.ht.set (k / 26) (by omega) x) fun j _ => dg_up 26 (nb a) k j (by decide) x hx).drew, (h.fr.set _ _ (by simp)).drew⟩
theorem and_one8 : ∀ x : Fin 256, bits BinOp.and IntKind.u8 (x.val : Int) 1 = (x.val : Int) % 2 := by decide +kernel
theorem and1 (x : Int) (h : 0 ≤ x ∧ x < 256) : bits BinOp.and IntKind.u8 x 1 = x % 2 := by
  obtain ⟨n, rfl⟩ := Int.eq_ofNat_of_zero_le h.1
  exact and_one8 ⟨n, by omega⟩
theorem shr_in (x : Int) (h : 0 ≤ x ∧ x < 256) (q : Nat) : 0 ≤ x / 2 ^ q ∧ x / 2 ^ q < 256 := by
  obtain ⟨n, rfl⟩ := Int.eq_ofNat_of_zero_le h.1
  have e : (n : Int) / 2 ^ q = ((n / 2 ^ q : Nat) : Int) := by rw [Int.natCast_ediv, Int.natCast_pow]; rfl
  have := Nat.div_le_self n (2 ^ q)
  rw [e]
  generalize n / 2 ^ q = y at *
  omega
theorem digit_sum (d : Nat) (hd : d < 2 ^ 26) (x : Int) (h : 0 ≤ x ∧ x < 256) (b : Nat) (q r : Nat) (hb : x / 2 ^ q % 2 = (b : Int)) (hr : r < 26) :
    wrap64 ((d : Int) + wrap64 (wrap64 (bits BinOp.and IntKind.u8 (x / 2 ^ q) 1) * 2 ^ r)) = (d : Int) + (b : Int) * ((2 ^ r : Nat) : Int) := by
  have i := shr_in x h q
  rw [and1 _ i, hb]
  have hb2 : b < 2 := by omega
  have hp : 2 ^ r ≤ 2 ^ 25 := Nat.pow_le_pow_right (by decide) (by omega)
  have e : (2 : Int) ^ r = ((2 ^ r : Nat) : Int) := by rw [Int.natCast_pow]; rfl
  rw [e]
  generalize 2 ^ r = p at *
  have hc : b = 0 ∨ b = 1 := by omega
  unfold wrap64
  rcases hc with rfl | rfl <;> omega
theorem digits_any (a : Nat → Int) (ha : In 256 17 a) (w : World) :
    Calls Tryz.prog 96 #[(.agg (row .u8 17 (a)).toArray)] w fun e w' => ∃ B : Nat, e = .returned (.slice (some ⟨B, 0, none⟩) 6 6) ∧ (w.heap.size ≤ B ∧ B < w'.heap.size ∧ Has w' B .i64 6 (dg 26 (nb a))) ∧ Below w.heap.size w w' := by
  have hmk := made6
  go_enter Tryz.func96, Tryz.ntmps96
  go_wp2
  go_loopw [4] (fun i w' => ∃ k : Nat, k ≤ 136 ∧ i = .int .i64 k ∧ DI a w k w') (fun i _ => 136 - (intOf i).toNat)
  case atStart => exact ⟨0, by omega, rfl, ⟨(Has.new w _ _ _ _ _ rfl).alloc _ (by simp), (made6_zero _ _ _ (by simp)).congr (fun j _ => (dg_nought 26 (nb a) j).symm), ((Fr.refl w).alloc _).alloc _⟩⟩
  case round =>
    obtain ⟨k, hk, rfl, hI⟩ := hrel
    clear hmk
    by_cases hlt : k < 136
    · have HS := show Hid _ from fun x hx => hI.step hlt x hx
      have c1 := hI.ha.cell (k / 8) (by omega)
      have c2 := hI.ht.cell (k / 26) (by omega)
      have f1 := hI.ht.free (k / 26) (by omega)
      have i1 := ha (k / 8) (by omega)
      have i2 := dgN_lt 26 (nb a % 2 ^ k) (k / 26)
      have hb := bit8 a ha k hlt
      have g1 : (0 : Int) ≤ (k : Int) := by omega
      have g2 : (k : Int) < 136 := by omega
      have g3 : ((k : Int) / 8).toNat = k / 8 := by omega
      have g4 : ((k : Int) / 26).toNat = k / 26 := by omega
      have g5 : ((k : Int) % 8).toNat = k % 8 := by omega
      have g6 : ((k : Int) % 26).toNat = k % 26 := by omega
      have HE := show Hid _ from digit_sum (dgN 26 (nb a % 2 ^ k) (k / 26)) i2 (a (k / 8)) i1 (nb a / 2 ^ k % 2) (k % 8) (k % 26) hb (Nat.mod_lt _ (by decide))
      clear hI hb i2
      generalize a (k / 8) = x at *
      go_wp2
      go_region
      go_wp2
      go_roundw
      case rel => exact ⟨k + 1, by omega, by go_num, HS.out _ HE.out⟩
      case measure => simp [intOf]; omega
    · obtain rfl : k = 136 := by omega
      have hd := hI.ht.congr (g := dg 26 (nb a)) (fun j _ => by rw [Nat.mod_eq_of_lt (nb_lt a ha)])
      go_wp2
      go_ret
      exact ⟨_, rfl, ⟨by omega, by have := hI.fr.size; omega, hd⟩, hI.fr.below⟩
abbrev D : Int := 67108864
theorem D5 : D ^ 5 = 1361129467683753853853498429727072845824 := by decide
def addU (f : Nat → Int) (k : Nat) : Nat → Int := fun j => (if j < k ∧ j < 5 then f j else 0) + (if j + 5 < k then 5 * f (j + 5) else 0)
theorem addU_low (f : Nat → Int) (k : Nat) (hk : k < 5) : ∀ j, upd (addU f k) k (addU f k k + f k) j = addU f (k + 1) j := fun j => by
  unfold upd addU
  by_cases e : j = k
  · subst e
    simp [hk]
    omega
  · rw [if_neg e]
    by_cases c : j < k
    · have c2 : j < k + 1 := by omega
      have c3 : ¬ j + 5 < k := by omega
      have c4 : ¬ j + 5 < k + 1 := by omega
      simp [c, c2, c3, c4]
    · have c2 : ¬ j < k + 1 := by omega
      have c3 : ¬ j + 5 < k := by omega
      have c4 : ¬ j + 5 < k + 1 := by omega
      simp [c, c2, c3, c4]
theorem addU_high (f : Nat → Int) (k : Nat) (hk : 5 ≤ k) : ∀ j, upd (addU f k) (k - 5) (addU f k (k - 5) + 5 * f k) j = addU f (k + 1) j := fun j => by
  unfold upd addU
  by_cases e : j = k - 5
  · subst e
    have c0 : ¬ k - 5 + 5 < k := by omega
    have c1 : k - 5 + 5 < k + 1 := by omega
    have c2 : k - 5 + 5 = k := by omega
    have c3 : k - 5 < k := by omega
    have c4 : k - 5 < k + 1 := by omega
    rw [if_pos rfl, if_neg c0, if_pos c1, c2, Int.add_zero]
    by_cases c5 : k - 5 < 5
    · rw [if_pos ⟨c3, c5⟩, if_pos ⟨c4, c5⟩]
    · rw [if_neg (fun h => c5 h.2), if_neg (fun h => c5 h.2)]
  · rw [if_neg e]
    have c1 : (j < k ∧ j < 5) ↔ (j < k + 1 ∧ j < 5) := by omega
    have c2 : (j + 5 < k) ↔ (j + 5 < k + 1) := by omega
    simp only [c1, c2]
theorem addU_in (f : Nat → Int) (n k : Nat) (M : Int) (hn : 0 < n) (hf : ∀ j, j < n → 0 ≤ f j ∧ f j ≤ M) (hk : k ≤ n) (j : Nat) : 0 ≤ addU f k j ∧ addU f k j ≤ 6 * M := by
  unfold addU
  have hM := hf 0 (by omega)
  by_cases c1 : j < k ∧ j < 5
  · have a := hf j (by omega)
    by_cases c2 : j + 5 < k
    · have b := hf (j + 5) (by omega)
      rw [if_pos c1, if_pos c2]; omega
    · rw [if_pos c1, if_neg c2]; omega
  · by_cases c2 : j + 5 < k
    · have b := hf (j + 5) (by omega)
      rw [if_neg c1, if_pos c2]; omega
    · rw [if_neg c1, if_neg c2]; omega
theorem fold_mod (l h : Int) : (l + 5 * h) % Q = (l + 1361129467683753853853498429727072845824 * h) % Q := by simp only [Q]; omega
theorem addU_val6 (f : Nat → Int) : val D (addU f 6) 5 % Q = val D f 6 % Q := by
  have e : val D (addU f 6) 5 = val D f 5 + 5 * f 5 := by
    simp [val, addU]
    simp only [D]
    omega
  have e2 : val D f 6 = val D f 5 + D ^ 5 * f 5 := rfl
  rw [e, e2, D5, fold_mod]
theorem addU_val11 (f : Nat → Int) : val D (addU f 11) 6 % Q = val D f 11 % Q := by
  have e : val D (addU f 11) 6 = val D f 5 + 5 * val D (fun j => f (5 + j)) 6 := by
    simp [val, addU]
    simp only [D]
    omega
  have e2 := val_split D f 5 6
  rw [show (5 + 6 : Nat) = 11 from rfl, D5] at e2
  rw [e, e2, fold_mod]
def num (B : Nat) (w : World) : Int := val D (fun j => match w.cell? ⟨B, j, none⟩ with | some (.int _ n) => n | _ => 0) 5
theorem num_eq {w : World} {B : Nat} {f : Nat → Int} (h : Has w B .i64 5 f) : num B w = val D f 5 := val_congr D 5 fun j hj => by rw [h.cell j (by omega)]
def mu2 (B : Nat) (r : Value) (w : World) : Nat := 2 * (num B w).toNat + (if 0 < intOf r then 1 else 0)
structure RS (f : Nat → Int) (w w' : World) : Prop where
  hd : Has w' (w.heap.size + 1) .i64 5 f
  hr : Has w' w.heap.size .u8 17 (fun _ => 0)
  fr : Fr w 2 w'
theorem RS.set {f : Nat → Int} {w w' : World} (h : RS f w w') (k : Nat) (hk : k < 5) (x : Int) : RS (upd f k x) w (w'.setCell ⟨w.heap.size + 1, k, none⟩ (.int .i64 x)) :=
  ⟨h.hd.set k hk x, h.hr.set_other _ _ (by simp), h.fr.set _ _ (by simp)⟩
structure RA (v : Int) (n B : Nat) (f : Nat → Int) (w w' : World) : Prop where
  cs : n = 5 ∨ n = 6 ∨ n = 11
  big : ∀ j, j < n → 0 ≤ f j ∧ f j ≤ (if n = 11 then 72057594037927936 else if n = 6 then 432345564227567616 else 2594073385365405696)
  eq : val D f n % Q = v % Q
  ht : Has w' B .i64 n f
  hB : B < w'.heap.size
  ne : B ≠ w.heap.size ∧ B ≠ w.heap.size + 1
  rs : RS (fun _ => 0) w w'
structure UI (n B U : Nat) (f : Nat → Int) (m k : Nat) (w w' : World) : Prop where
  ht : Has w' B .i64 n f
  hu : Has w' U .i64 m (addU f k)
  hB : B < w'.heap.size
  hU : U < w'.heap.size
  rs : RS (fun _ => 0) w w'
theorem UI.low {n B U : Nat} {f : Nat → Int} {m k : Nat} {w w' : World} (h : UI n B U f m k w w') (hk : k < 5) (hm : 5 ≤ m) (hne : U ≠ B) (hlo : w.heap.size + 2 ≤ U) :
    UI n B U f m (k + 1) w ((w'.setCell ⟨U, k, none⟩ (.int .i64 (addU f k k + f k))).drew) :=
  ⟨(h.ht.set_other _ _ (by simpa using hne)).drew, (Has.congr (h.hu.set k (by omega) _) fun j _ => addU_low f k hk j).drew, by have := h.hB; simpa using this, by have := h.hU; simpa using this, ⟨(h.rs.hd.set_other _ _ (by simp; omega)).drew, (h.rs.hr.set_other _ _ (by simp; omega)).drew, (h.rs.fr.set _ _ (by simp; omega)).drew⟩⟩
theorem UI.high {n B U : Nat} {f : Nat → Int} {m k : Nat} {w w' : World} (h : UI n B U f m k w w') (hk : 5 ≤ k) (hkm : k - 5 < m) (hne : U ≠ B) (hlo : w.heap.size + 2 ≤ U) :
    UI n B U f m (k + 1) w ((w'.setCell ⟨U, k - 5, none⟩ (.int .i64 (addU f k (k - 5) + 5 * f k))).drew) :=
  ⟨(h.ht.set_other _ _ (by simpa using hne)).drew, (Has.congr (h.hu.set (k - 5) hkm _) fun j _ => addU_high f k hk j).drew, by have := h.hB; simpa using this, by have := h.hU; simpa using this, ⟨(h.rs.hd.set_other _ _ (by simp; omega)).drew, (h.rs.hr.set_other _ _ (by simp; omega)).drew, (h.rs.fr.set _ _ (by simp; omega)).drew⟩⟩
structure CI (B : Nat) (f : Nat → Int) (k : Nat) (g : Nat → Int) (w w' : World) : Prop where
  done : ∀ j, j < k → g j = f j
  ht : Has w' B .i64 5 f
  rs : RS g w w'
theorem CI.step {B : Nat} {f : Nat → Int} {k : Nat} {g : Nat → Int} {w w' : World} (h : CI B f k g w w') (hk : k < 5) (ne : B ≠ w.heap.size + 1) : CI B f (k + 1) (upd g k (f k)) w (w'.setCell ⟨w.heap.size + 1, k, none⟩ (.int .i64 (f k))) := by
  refine ⟨fun j hj => ?_, h.ht.set_other _ _ (by simp; omega), h.rs.set k hk _⟩
  by_cases e : j = k
  · subst e; rw [upd_same]
  · rw [upd_other _ _ _ _ e]; exact h.done j (by omega)
structure R2 (v : Int) (r : Int) (f : Nat → Int) (w w' : World) : Prop where
  r0 : 0 ≤ r
  big : ∀ j, j < 5 → 0 ≤ f j ∧ f j ≤ 2594073385365405696
  eq : val D f 5 % Q = v % Q
  inn : r = 0 → In D 5 f
  rs : RS f w w'
structure R3 (f : Nat → Int) (k : Nat) (r : Int) (g : Nat → Int) (w w' : World) : Prop where
  r0 : 0 ≤ r
  r1 : r ≤ 137438953472
  done : ∀ j, j < k → 0 ≤ g j ∧ g j < 67108864
  rest : ∀ j, k ≤ j → g j = f j
  eq : val D g k + D ^ k * r = val D f k
  rs : RS g w w'
theorem R3.step {f : Nat → Int} {k : Nat} {r : Int} {g : Nat → Int} {w w' : World} (h : R3 f k r g w w') (hk : k < 5) (hf : ∀ j, j < 5 → 0 ≤ f j ∧ f j ≤ 2594073385365405696) :
    R3 f (k + 1) ((r + g k) / 67108864) (upd g k ((r + g k) % 67108864)) w (w'.setCell ⟨w.heap.size + 1, k, none⟩ (.int .i64 ((r + g k) % 67108864))) := by
  have r0 := h.r0; have r1 := h.r1
  have e0 := h.rest k (Nat.le_refl k)
  have b := hf k hk
  rw [← e0] at b
  refine ⟨by omega, by omega, fun j hj => ?_, fun j hj => ?_, ?_, h.rs.set k (by omega) _⟩
  · by_cases e : j = k
    · subst e; rw [upd_same]; omega
    · rw [upd_other _ _ _ _ e]; exact h.done j (by omega)
  · rw [upd_other _ _ _ _ (by omega)]; exact h.rest j (by omega)
  · rw [val_succ, val_succ, val_upd _ _ _ _ _ (Nat.le_refl k), upd_same, Int.pow_succ, Int.mul_assoc, ← e0]
    have e1 : D ^ k * ((r + g k) % 67108864) + D ^ k * (D * ((r + g k) / 67108864)) = D ^ k * r + D ^ k * g k := by
      rw [← Int.mul_add, ← Int.mul_add]
      congr 1
      simp only [D]
      omega
    have e2 := h.eq
    omega
theorem R3.next {v : Int} {f : Nat → Int} {r r0 : Int} {g : Nat → Int} {w w0 w' : World} (h : R3 f 5 r g w w') (h2 : R2 v r0 f w w0) :
    R2 v r (upd g 0 (g 0 + 5 * r)) w (w'.setCell ⟨w.heap.size + 1, 0, none⟩ (.int .i64 (g 0 + 5 * r))) := by
  have a0 := h.r0; have a1 := h.r1
  have d0 := h.done 0 (by omega)
  refine ⟨a0, fun j hj => ?_, ?_, fun hr => ?_, h.rs.set 0 (by omega) _⟩
  · by_cases e : j = 0
    · subst e; rw [upd_same]; omega
    · rw [upd_other _ _ _ _ e]; have := h.done j hj; omega
  · rw [val_upd_in D g 0 _ 5 (by omega), ← h2.eq, ← h.eq, D5, Int.pow_zero, Int.one_mul, Int.one_mul]
    simp only [Q]
    omega
  · subst hr
    have e : upd g 0 (g 0 + 5 * 0) = g := by funext j; unfold upd; split <;> simp_all
    rw [e]
    exact fun j hj => h.done j hj
theorem R3.less {v : Int} {f : Nat → Int} {r r0 : Int} {g : Nat → Int} {w w0 w' : World} (h : R3 f 5 r g w w') (h2 : R2 v r0 f w w0) (hr : 0 < r0) :
    mu2 (w.heap.size + 1) (.int .i64 r) (w'.setCell ⟨w.heap.size + 1, 0, none⟩ (.int .i64 (g 0 + 5 * r))) < mu2 (w.heap.size + 1) (.int .i64 r0) w0 := by
  have e := h.eq
  have a0 := h.r0
  have b := val_in D (by decide) g 5 h.done
  have n1 := num_eq (h.next h2).rs.hd
  have n2 := num_eq h2.rs.hd
  rw [val_upd_in D g 0 _ 5 (by omega), Int.pow_zero, Int.one_mul, Int.one_mul] at n1
  rw [D5] at e b
  show 2 * (num _ _).toNat + (if 0 < r then 1 else 0) < 2 * (num _ w0).toNat + (if 0 < r0 then 1 else 0)
  rw [n1, n2, if_pos hr]
  by_cases h0 : r = 0
  · subst h0; rw [if_neg (by omega)]; omega
  · rw [if_pos (by omega)]; omega
theorem v5 (f : Nat → Int) : val D f 5 = f 0 + 67108864 * f 1 + 4503599627370496 * f 2 + 302231454903657293676544 * f 3 + 20282409603651670423947251286016 * f 4 := by
  simp only [val, D]; omega
theorem top_yes {f : Nat → Int} (h0 : 67108859 ≤ f 0) (hf : In D 5 f) (h1 : f 1 = 67108863) (h2 : f 2 = 67108863) (h3 : f 3 = 67108863) (h4 : f 4 = 67108863) : val D f 5 = Q + (f 0 - 67108859) ∧ f 0 - 67108859 < 5 := by
  have := hf 0 (by omega)
  rw [v5, h1, h2, h3, h4]
  simp only [Q, D] at *
  omega
theorem top_no {f : Nat → Int} (hf : In D 5 f) (h : ¬ (67108859 ≤ f 0 ∧ f 1 = 67108863 ∧ f 2 = 67108863 ∧ f 3 = 67108863 ∧ f 4 = 67108863)) : val D f 5 < Q := by
  have i0 := hf 0 (by omega)
  have i1 := hf 1 (by omega)
  have i2 := hf 2 (by omega)
  have i3 := hf 3 (by omega)
  have i4 := hf 4 (by omega)
  rw [v5]
  simp only [Q, D] at *
  generalize f 0 = x0 at *
  generalize f 1 = x1 at *
  generalize f 2 = x2 at *
  generalize f 3 = x3 at *
  generalize f 4 = x4 at *
  omega
structure R6 (V : Nat) (k : Nat) (dB O : Nat) (w w' : World) : Prop where
  ho : Has w' O .u8 17 (dg 8 (V % 2 ^ k))
  hg : Has w' dB .i64 5 (dg 26 V)
  hr : Has w' w.heap.size .u8 17 (fun _ => 0)
  fr : Fr w 2 w'
theorem R6.step {V k dB O : Nat} {w w' : World} (h : R6 V k dB O w w') (hk : k < 130) (hO : w.heap.size < O) (hne : O ≠ dB) (x : Int) (hx : x = dg 8 (V % 2 ^ k) (k / 8) + ((V / 2 ^ k % 2 : Nat) : Int) * ((2 ^ (k % 8) : Nat) : Int)) :
    R6 V (k + 1) dB O w ((w'.setCell ⟨O, k / 8, none⟩ (.int .u8 x)).drew) :=
  ⟨(Has.congr (h.ho.set (k / 8) (by omega) x) fun j _ => dg_up 8 V k j (by decide) x hx).drew, (h.hg.set_other _ _ (by simpa using hne)).drew, (h.hr.set_other _ _ (by simp; omega)).drew, (h.fr.set _ _ (by simp; omega)).drew⟩
end Go.Proofs.YtgfpflcoknpbdaaGreatDoor
