/- What the document's own word and Block answer. -/
import Derived.Test.YtldebgblkaaojaaDoorHq
import Derived.Test.YtldebgblkaaojaaDoorOw
import Derived.Test.YtldebgblkaaojaaDoorHe
namespace Go.Proofs.YtldebgblkaaojaaDoor
open Go.RowKit

set_option maxRecDepth 10000 in
set_option maxHeartbeats 4000000 in
theorem word_raw (B o c : Nat) (x0 x1 x2 x3 : Int) (h0 : 0 ≤ x0 ∧ x0 < 256) (h1 : 0 ≤ x1 ∧ x1 < 256) (h2 : 0 ≤ x2 ∧ x2 < 256) (h3 : 0 ≤ x3 ∧ x3 < 256) (w : World) (c0 : w.cell? ⟨B, o, none⟩ = some (.int .u8 x0)) (c1 : w.cell? ⟨B, o + 1, none⟩ = some (.int .u8 x1)) (c2 : w.cell? ⟨B, o + 2, none⟩ = some (.int .u8 x2)) (c3 : w.cell? ⟨B, o + 3, none⟩ = some (.int .u8 x3)) :
    Calls Tryd.prog 21 #[.slice (some ⟨B, o, none⟩) 4 c] w fun e w' => ∃ q, e = .returned (.int .u32 (x0 + x1 * 256 + x2 * 65536 + x3 * 16777216)) ∧ w' = w.drewN q := by
  have hg := glued32 x0 x1 x2 x3 h0 h1 h2 h3
  have HG := show Hid _ from hg
  clear hg h0 h1 h2 h3
  go_enter Tryd.func21, Tryd.ntmps21
  go_wp2
  go_quiet (fail)
  go_wp2
  go_ret
  exact ⟨nq, by rw [HG.out]; rfl, rfl⟩
theorem word_any (B o n c : Nat) (a : Nat → Int) (ho : o + 4 ≤ n) (ha : In 256 n a) (w : World) (h : Has w B .u8 n a) :
    Calls Tryd.prog 21 #[.slice (some ⟨B, o, none⟩) 4 c] w fun e w' => ∃ q, e = .returned (.int .u32 (w32 a o)) ∧ w' = w.drewN q :=
  word_raw B o c _ _ _ _ (ha o (by omega)) (ha (o + 1) (by omega)) (ha (o + 2) (by omega)) (ha (o + 3) (by omega)) w (h.cell o (by omega)) (h.cell (o + 1) (by omega)) (h.cell (o + 2) (by omega)) (h.cell (o + 3) (by omega))
theorem rcut_key (b k : Nat) (hk : k < 8) (w : World) : (Instr.sliceAt 28 (.pointer (some ⟨b, 0, none⟩)) (some (.int .i64 (4 * (k : Int)))) (some (.int .i64 (4 * (k : Int) + 4))) none).run Tryd.prog w = .ok (.slice (some ⟨b, 4 * k, none⟩) 4 (32 - 4 * k)) w := by
  have hl : Tryd.prog.arrayLen 28 = 32 := by kernel_rfl
  have hs : ∀ w, (sizeOf (Tryd.prog.elem 28)).run Tryd.prog w = .ok 1 w := fun w => by kernel_rfl
  rw [run_sliceAt_array_lh w 28 ⟨b, 0, none⟩ (by kernel_rfl) .i64 .i64 _ _ (by omega) (by omega) (by rw [hl]; omega), hs, hl]
  simp only [Result.andThen, slicedAt]
  have e1 : (4 * (k : Int)).toNat = 4 * k := by omega
  have e2 : (4 * (k : Int) + 4).toNat = 4 * k + 4 := by omega
  rw [e1, e2, if_neg (by omega), Addr.add_mid, Nat.zero_add, Nat.mul_one, show 4 * k + 4 - 4 * k = 4 by omega]
theorem rcut_non (b k : Nat) (hk : k < 3) (w : World) : (Instr.sliceAt 30 (.pointer (some ⟨b, 0, none⟩)) (some (.int .i64 (4 * (k : Int)))) (some (.int .i64 (4 * (k : Int) + 4))) none).run Tryd.prog w = .ok (.slice (some ⟨b, 4 * k, none⟩) 4 (12 - 4 * k)) w := by
  have hl : Tryd.prog.arrayLen 30 = 12 := by kernel_rfl
  have hs : ∀ w, (sizeOf (Tryd.prog.elem 30)).run Tryd.prog w = .ok 1 w := fun w => by kernel_rfl
  rw [run_sliceAt_array_lh w 30 ⟨b, 0, none⟩ (by kernel_rfl) .i64 .i64 _ _ (by omega) (by omega) (by rw [hl]; omega), hs, hl]
  simp only [Result.andThen, slicedAt]
  have e1 : (4 * (k : Int)).toNat = 4 * k := by omega
  have e2 : (4 * (k : Int) + 4).toNat = 4 * k + 4 := by omega
  rw [e1, e2, if_neg (by omega), Addr.add_mid, Nat.zero_add, Nat.mul_one, show 4 * k + 4 - 4 * k = 4 by omega]
theorem one32 : One Tryd.prog 22 .u32 4 := ⟨by kernel_rfl⟩
theorem cutLH {P : Program} {o : Oper} {a : Act} {w : World} (t : TypeId) (x y z : Operand) (p q r v : Value) (ho : o.op = .slice t x (some y) (some z) none) (hx : a.eval x = p) (hy : a.eval y = q) (hz : a.eval z = r) (hr : (Instr.sliceAt t p (some q) (some r) none).run P w = .ok v w) :
    (execOp a.eval o).run P w = .ok (.value v) w := by
  unfold execOp
  simp only [ho, hx, hy, hz, Option.map_some, Option.map_none, Sem.run_bind, hr, Result.andThen_ok, Sem.run_pure]
theorem idxW (b len cap i : Nat) (hi : i < len) (w : World) {o : Oper} {a : Act} (x y : Operand) (ho : o.op = .indexAddr 51 x y) (hx : a.eval x = .slice (some ⟨b, 0, none⟩) len cap) (hy : a.eval y = .int .i64 (i : Int)) :
    (execOp a.eval o).run Tryd.prog w = .ok (.value (.pointer (some ⟨b, i, none⟩))) w := by
  have h := idxSl (P := Tryd.prog) 51 22 len cap .i64 ⟨b, 0, none⟩ i x y Tryd.underlying51 (fun _ => by kernel_rfl) hi ho hx hy w
  rw [Addr.add_mid, Nat.zero_add] at h
  exact h
theorem idxB (b i : Nat) (hi : i < 64) (w : World) {o : Oper} {a : Act} (x y : Operand) (ho : o.op = .indexAddr 31 x y) (hx : a.eval x = .pointer (some ⟨b, 0, none⟩)) (hy : a.eval y = .int .i64 (i : Int)) :
    (execOp a.eval o).run Tryd.prog w = .ok (.value (.pointer (some ⟨b, i, none⟩))) w := by
  have h := idxArr (P := Tryd.prog) 31 5 64 .i64 b 0 i x y Tryd.underlying31 (fun _ => by kernel_rfl) hi ho hx hy w
  rw [Nat.zero_add] at h
  exact h

theorem b32_shr (x : Int) (e : Nat) (he : e < 4) : IntKind.u8.wrap (x / 2 ^ (8 * e)) = b32 x e := by
  rw [IntKind.wrap_u8']
  match e, he with
  | 0, _ => show x / 1 % 256 = x % 256; rw [Int.ediv_one]
  | 1, _ => rfl
  | 2, _ => rfl
  | 3, _ => rfl

/-- The words that a block is made of, so far. -/
structure HWI (k : Nat → Int) (c : Int) (n : Nat → Int) (w : World) (m : Nat) (s : Value) (w' : World) : Prop where
  K : Kr w (w.heap.size + 1 + 1 + 1) [(w.heap.size + 1, .u8, 12, n), (w.heap.size, .u8, 32, k)] [(w.heap.size + 1 + 1, 64)] w'
  own : Own w' (w.heap.size + 1 + 1 + 1) 22 .u32 m (hst k c n) s
theorem HWI.drewN {k : Nat → Int} {c : Int} {n : Nat → Int} {w : World} {m : Nat} {s : Value} {w' : World} (h : HWI k c n w m s w') (q : Nat) : HWI k c n w m s (w'.drewN q) := ⟨h.K.drewN, h.own.below (below_drewN (Below.refl _ _))⟩
/-- A word more. -/
theorem HWI.more {k : Nat → Int} {c : Int} {n : Nat → Int} {w : World} {m : Nat} {s : Value} {w' : World} (h : HWI k c n w m s w') (hm : m < 16) (x : Int) (hx : hst k c n m = x) (ty : TypeId) :
    ∃ v w'', (Builtin.append_ #[51, 51] ty #[s, .slice (some ⟨w'.heap.size, 0, none⟩) 1 1]).run Tryd.prog (w'.alloc (.cells #[.int .u32 x] 22)) = .ok v w'' ∧ HWI k c n w (m + 1) v w'' := by
  have H1 := Has.new w' .u32 1 (fun _ => x) 22 w'.heap.size rfl
  have K1 := h.K.call ((Below.refl w'.heap.size w').alloc (Nat.le_refl _) (.cells (row .u32 1 (fun _ => x)).toArray 22))
  obtain ⟨v, w'', hr, ho, hg, _⟩ := run_append_Own (P := Tryd.prog) (ty := ty) Tryd.underlying51 one32 (h.own.alloc (.cells (row .u32 1 (fun _ => x)).toArray 22)) (some ⟨w'.heap.size, 0, none⟩) 1 1 (fun _ => x) (fun j hj => ⟨_, rfl, by rw [Addr.add_mid, Nat.zero_add]; exact H1.cell j hj⟩) (fun e => by cases e) (by unfold maxLen; omega) (by omega) (by have := h.K.size; simp; omega)
  refine ⟨v, w'', hr, K1.grown hg (fun b hb => ?_), ho.congr fun j hj => ?_⟩
  · exact (World.ownsRow.lt h.own b hb).1
  · unfold app
    by_cases e : j < m
    · rw [if_pos e]
    · rw [if_neg e, ← hx, show j = m by omega]

set_option maxRecDepth 10000 in
set_option maxHeartbeats 8000000 in
theorem refBlock_any (k : Nat → Int) (c : Int) (n : Nat → Int) (hk : In 256 32 k) (hn : In 256 12 n) (w : World) :
    Calls Tryd.prog 13 #[(.agg (row .u8 32 (k)).toArray), .int .u32 c, (.agg (row .u8 12 (n)).toArray)] w fun e w' => e = .returned (.agg (row .u8 64 (hblk k c n)).toArray) ∧ Below w.heap.size w w' := by
  have K := Kr.init w
  replace K := K.box .u8 32 k 28 w.heap.size rfl
  replace K := K.box .u8 12 n 30 (w.heap.size + 1) (by simp)
  replace K := K.make 64 #[.int .u8 0, .int .u8 0, .int .u8 0, .int .u8 0, .int .u8 0, .int .u8 0, .int .u8 0, .int .u8 0, .int .u8 0, .int .u8 0, .int .u8 0, .int .u8 0, .int .u8 0, .int .u8 0, .int .u8 0, .int .u8 0, .int .u8 0, .int .u8 0, .int .u8 0, .int .u8 0, .int .u8 0, .int .u8 0, .int .u8 0, .int .u8 0, .int .u8 0, .int .u8 0, .int .u8 0, .int .u8 0, .int .u8 0, .int .u8 0, .int .u8 0, .int .u8 0, .int .u8 0, .int .u8 0, .int .u8 0, .int .u8 0, .int .u8 0, .int .u8 0, .int .u8 0, .int .u8 0, .int .u8 0, .int .u8 0, .int .u8 0, .int .u8 0, .int .u8 0, .int .u8 0, .int .u8 0, .int .u8 0, .int .u8 0, .int .u8 0, .int .u8 0, .int .u8 0, .int .u8 0, .int .u8 0, .int .u8 0, .int .u8 0, .int .u8 0, .int .u8 0, .int .u8 0, .int .u8 0, .int .u8 0, .int .u8 0, .int .u8 0, .int .u8 0] 31 (w.heap.size + 1 + 1) (by simp) (hb_zero _ _ _ (by simp)).there
  go_enter Tryd.func13, Tryd.ntmps13
  go_upto_region 1 with fail
  have s0 : (((w.alloc (.cells (row .u8 32 k).toArray 28)).alloc (.cells (row .u8 12 n).toArray 30)).alloc (.cells #[.int .u8 0, .int .u8 0, .int .u8 0, .int .u8 0, .int .u8 0, .int .u8 0, .int .u8 0, .int .u8 0, .int .u8 0, .int .u8 0, .int .u8 0, .int .u8 0, .int .u8 0, .int .u8 0, .int .u8 0, .int .u8 0, .int .u8 0, .int .u8 0, .int .u8 0, .int .u8 0, .int .u8 0, .int .u8 0, .int .u8 0, .int .u8 0, .int .u8 0, .int .u8 0, .int .u8 0, .int .u8 0, .int .u8 0, .int .u8 0, .int .u8 0, .int .u8 0, .int .u8 0, .int .u8 0, .int .u8 0, .int .u8 0, .int .u8 0, .int .u8 0, .int .u8 0, .int .u8 0, .int .u8 0, .int .u8 0, .int .u8 0, .int .u8 0, .int .u8 0, .int .u8 0, .int .u8 0, .int .u8 0, .int .u8 0, .int .u8 0, .int .u8 0, .int .u8 0, .int .u8 0, .int .u8 0, .int .u8 0, .int .u8 0, .int .u8 0, .int .u8 0, .int .u8 0, .int .u8 0, .int .u8 0, .int .u8 0, .int .u8 0, .int .u8 0] 31)).heap.size = w.heap.size + 1 + 1 + 1 := by simp
  generalize (((w.alloc (.cells (row .u8 32 k).toArray 28)).alloc (.cells (row .u8 12 n).toArray 30)).alloc (.cells #[.int .u8 0, .int .u8 0, .int .u8 0, .int .u8 0, .int .u8 0, .int .u8 0, .int .u8 0, .int .u8 0, .int .u8 0, .int .u8 0, .int .u8 0, .int .u8 0, .int .u8 0, .int .u8 0, .int .u8 0, .int .u8 0, .int .u8 0, .int .u8 0, .int .u8 0, .int .u8 0, .int .u8 0, .int .u8 0, .int .u8 0, .int .u8 0, .int .u8 0, .int .u8 0, .int .u8 0, .int .u8 0, .int .u8 0, .int .u8 0, .int .u8 0, .int .u8 0, .int .u8 0, .int .u8 0, .int .u8 0, .int .u8 0, .int .u8 0, .int .u8 0, .int .u8 0, .int .u8 0, .int .u8 0, .int .u8 0, .int .u8 0, .int .u8 0, .int .u8 0, .int .u8 0, .int .u8 0, .int .u8 0, .int .u8 0, .int .u8 0, .int .u8 0, .int .u8 0, .int .u8 0, .int .u8 0, .int .u8 0, .int .u8 0, .int .u8 0, .int .u8 0, .int .u8 0, .int .u8 0, .int .u8 0, .int .u8 0, .int .u8 0, .int .u8 0] 31)) = w0 at K s0 ⊢
  refine wp_region_list ?_
  refine actL (w' := w0.alloc (.cells #[.int .u32 1634760805, .int .u32 857760878, .int .u32 2036477234, .int .u32 1797285236] 22)) (.slice (some ⟨w0.heap.size, 0, none⟩) 4 4) rfl (by kernel_rfl) ?_
  simp only [Act.put, List.setIfInBounds_toArray, List.set_cons_zero, List.set_cons_succ]
  refine pureL (.slice (some ⟨w0.heap.size, 0, none⟩) 4 4) rfl (fun _ => by kernel_rfl) ?_
  simp only [Act.put, List.setIfInBounds_toArray, List.set_cons_zero, List.set_cons_succ]
  have HI : HWI k c n w 4 (.slice (some ⟨w0.heap.size, 0, none⟩) 4 4) (w0.alloc (.cells #[.int .u32 1634760805, .int .u32 857760878, .int .u32 2036477234, .int .u32 1797285236] 22)) :=
    ⟨K.call ((Below.refl w0.heap.size w0).alloc (Nat.le_refl _) _), Own.lit w0 (w.heap.size + 1 + 1 + 1) 22 .u32 4 (hst k c n) (by omega) (by unfold maxLen; omega)⟩
  clear K
  generalize (w0.alloc (.cells #[.int .u32 1634760805, .int .u32 857760878, .int .u32 2036477234, .int .u32 1797285236] 22)) = w1 at HI ⊢
  generalize (Value.slice (some ⟨w0.heap.size, 0, none⟩) 4 4) = s1 at HI ⊢
  show Exit.then _ _ _ _ _
  go_wp2
  go_loopw [7, 8] (fun s i w' => ∃ m : Nat, m ≤ 8 ∧ i = .int .i64 m ∧ HWI k c n w (4 + m) s w') (fun _ i _ => 8 - (intOf i).toNat)
  case atStart => exact ⟨0, by omega, rfl, HI⟩
  case round =>
    clear HI
    obtain ⟨m, hm, rfl, HI⟩ := hrel
    have g1 : (0 : Int) ≤ (m : Int) := by omega
    by_cases hlt : m < 8
    · have g2 : (m : Int) < 8 := by omega
      go_upto_region 5 with fail
      refine wp_region_list ?_
      refine pureL u7 rfl (fun _ => by kernel_rfl) ?_
      simp only [Act.put, List.setIfInBounds_toArray, List.set_cons_zero, List.set_cons_succ]
      refine pureL (.int .i64 (m : Int)) rfl (fun _ => by kernel_rfl) ?_
      simp only [Act.put, List.setIfInBounds_toArray, List.set_cons_zero, List.set_cons_succ]
      refine pureL (.int .i64 (4 * (m : Int))) rfl (fun w => mulI .i64 4 (m : Int) _ _ _ _ _ rfl rfl rfl (by rw [IntKind.wrap_i64]; omega) w) ?_
      simp only [Act.put, List.setIfInBounds_toArray, List.set_cons_zero, List.set_cons_succ]
      refine pureL (.int .i64 (m : Int)) rfl (fun _ => by kernel_rfl) ?_
      simp only [Act.put, List.setIfInBounds_toArray, List.set_cons_zero, List.set_cons_succ]
      refine pureL (.int .i64 (4 * (m : Int))) rfl (fun w => mulI .i64 4 (m : Int) _ _ _ _ _ rfl rfl rfl (by rw [IntKind.wrap_i64]; omega) w) ?_
      simp only [Act.put, List.setIfInBounds_toArray, List.set_cons_zero, List.set_cons_succ]
      refine pureL (.int .i64 (4 * (m : Int) + 4)) rfl (fun w => addI .i64 (4 * (m : Int)) 4 _ _ _ _ _ rfl rfl rfl (by rw [IntKind.wrap_i64]; omega) w) ?_
      simp only [Act.put, List.setIfInBounds_toArray, List.set_cons_zero, List.set_cons_succ]
      refine pureL (.slice (some ⟨w.heap.size, 4 * m, none⟩) 4 (32 - 4 * m)) rfl (fun w' => cutLH _ _ _ _ _ _ _ _ rfl rfl rfl rfl (rcut_key (w.heap.size) m hlt w')) ?_
      simp only [Act.put, List.setIfInBounds_toArray, List.set_cons_zero, List.set_cons_succ]
      refine callL rfl (fun _ => by kernel_rfl) (word_any (w.heap.size) (4 * m) 32 (32 - 4 * m) k (by omega) hk wr (HI.K.get _ _ _ _ (List.mem_cons_of_mem _ List.mem_cons_self))) ?_
      rintro e w2 ⟨q, rfl, rfl⟩
      replace HI := HI.drewN q
      generalize wr.drewN q = w2 at HI ⊢
      refine ⟨_, rfl, ?_⟩
      simp only [Act.put, List.setIfInBounds_toArray, List.set_cons_zero, List.set_cons_succ]
      refine actL (w' := w2.alloc (.cells #[.int .u32 (w32 k (4 * m))] 22)) (.slice (some ⟨w2.heap.size, 0, none⟩) 1 1) rfl (by kernel_rfl) ?_
      simp only [Act.put, List.setIfInBounds_toArray, List.set_cons_zero, List.set_cons_succ]
      obtain ⟨v, w3, hr, HI⟩ := HI.more (by omega) _ (hst_key k c n m hlt) 51
      refine actL v rfl (appendOp _ _ 51 _ _ _ rfl rfl rfl hr) ?_
      simp only [Act.put, List.setIfInBounds_toArray, List.set_cons_zero, List.set_cons_succ]
      refine pureL v rfl (fun _ => by kernel_rfl) ?_
      simp only [Act.put, List.setIfInBounds_toArray, List.set_cons_zero, List.set_cons_succ]
      have HS := show Hid _ from HI
      clear HI hr
      show Exit.inBlock _ _ _ _ _
      go_wp2
      go_roundw
      case rel => first | exact ⟨m + 1, by omega, by go_num, HS.out⟩ | ((repeat apply Exists.intro); refine ⟨⟨m + 1, by omega, ?_, HS.out⟩, rfl⟩ <;> first | rfl | go_num)
      case measure => simp [intOf]; omega
    · obtain rfl : m = 8 := by omega
      clear hlt hm g1
      go_upto_region 6 with fail
      refine wp_region_list ?_
      refine pureL u7 rfl (fun _ => by kernel_rfl) ?_
      simp only [Act.put, List.setIfInBounds_toArray, List.set_cons_zero, List.set_cons_succ]
      refine pureL (.int .u32 c) rfl (fun _ => by kernel_rfl) ?_
      simp only [Act.put, List.setIfInBounds_toArray, List.set_cons_zero, List.set_cons_succ]
      refine actL (w' := wr.alloc (.cells #[.int .u32 c] 22)) (.slice (some ⟨wr.heap.size, 0, none⟩) 1 1) rfl (by kernel_rfl) ?_
      simp only [Act.put, List.setIfInBounds_toArray, List.set_cons_zero, List.set_cons_succ]
      obtain ⟨v, w3, hr, HJ⟩ := HI.more (by omega) c rfl 51
      refine actL v rfl (appendOp _ _ 51 _ _ _ rfl rfl rfl hr) ?_
      simp only [Act.put, List.setIfInBounds_toArray, List.set_cons_zero, List.set_cons_succ]
      refine pureL v rfl (fun _ => by kernel_rfl) ?_
      simp only [Act.put, List.setIfInBounds_toArray, List.set_cons_zero, List.set_cons_succ]
      clear HI hr
      show Exit.then _ _ _ _ _
      go_wp2
      go_loopw [7, 9] (fun s i w' => ∃ m : Nat, m ≤ 3 ∧ i = .int .i64 m ∧ HWI k c n w (13 + m) s w') (fun _ i _ => 3 - (intOf i).toNat)
      case atStart => exact ⟨0, by omega, rfl, HJ⟩
      case round =>
        clear HJ
        obtain ⟨m, hm, rfl, HI⟩ := hrel
        have g1 : (0 : Int) ≤ (m : Int) := by omega
        by_cases hlt : m < 3
        · have g2 : (m : Int) < 3 := by omega
          go_upto_region 10 with fail
          refine wp_region_list ?_
          refine pureL u7 rfl (fun _ => by kernel_rfl) ?_
          simp only [Act.put, List.setIfInBounds_toArray, List.set_cons_zero, List.set_cons_succ]
          refine pureL (.int .i64 (m : Int)) rfl (fun _ => by kernel_rfl) ?_
          simp only [Act.put, List.setIfInBounds_toArray, List.set_cons_zero, List.set_cons_succ]
          refine pureL (.int .i64 (4 * (m : Int))) rfl (fun w => mulI .i64 4 (m : Int) _ _ _ _ _ rfl rfl rfl (by rw [IntKind.wrap_i64]; omega) w) ?_
          simp only [Act.put, List.setIfInBounds_toArray, List.set_cons_zero, List.set_cons_succ]
          refine pureL (.int .i64 (m : Int)) rfl (fun _ => by kernel_rfl) ?_
          simp only [Act.put, List.setIfInBounds_toArray, List.set_cons_zero, List.set_cons_succ]
          refine pureL (.int .i64 (4 * (m : Int))) rfl (fun w => mulI .i64 4 (m : Int) _ _ _ _ _ rfl rfl rfl (by rw [IntKind.wrap_i64]; omega) w) ?_
          simp only [Act.put, List.setIfInBounds_toArray, List.set_cons_zero, List.set_cons_succ]
          refine pureL (.int .i64 (4 * (m : Int) + 4)) rfl (fun w => addI .i64 (4 * (m : Int)) 4 _ _ _ _ _ rfl rfl rfl (by rw [IntKind.wrap_i64]; omega) w) ?_
          simp only [Act.put, List.setIfInBounds_toArray, List.set_cons_zero, List.set_cons_succ]
          refine pureL (.slice (some ⟨w.heap.size + 1, 4 * m, none⟩) 4 (12 - 4 * m)) rfl (fun w' => cutLH _ _ _ _ _ _ _ _ rfl rfl rfl rfl (rcut_non (w.heap.size + 1) m hlt w')) ?_
          simp only [Act.put, List.setIfInBounds_toArray, List.set_cons_zero, List.set_cons_succ]
          refine callL rfl (fun _ => by kernel_rfl) (word_any (w.heap.size + 1) (4 * m) 12 (12 - 4 * m) n (by omega) hn wr (HI.K.get _ _ _ _ List.mem_cons_self)) ?_
          rintro e w2 ⟨q, rfl, rfl⟩
          replace HI := HI.drewN q
          generalize wr.drewN q = w2 at HI ⊢
          refine ⟨_, rfl, ?_⟩
          simp only [Act.put, List.setIfInBounds_toArray, List.set_cons_zero, List.set_cons_succ]
          refine actL (w' := w2.alloc (.cells #[.int .u32 (w32 n (4 * m))] 22)) (.slice (some ⟨w2.heap.size, 0, none⟩) 1 1) rfl (by kernel_rfl) ?_
          simp only [Act.put, List.setIfInBounds_toArray, List.set_cons_zero, List.set_cons_succ]
          obtain ⟨v, w3, hr, HI⟩ := HI.more (by omega) _ (hst_non k c n m hlt) 51
          refine actL v rfl (appendOp _ _ 51 _ _ _ rfl rfl rfl hr) ?_
          simp only [Act.put, List.setIfInBounds_toArray, List.set_cons_zero, List.set_cons_succ]
          refine pureL v rfl (fun _ => by kernel_rfl) ?_
          simp only [Act.put, List.setIfInBounds_toArray, List.set_cons_zero, List.set_cons_succ]
          have HS := show Hid _ from HI
          clear HI hr
          show Exit.inBlock _ _ _ _ _
          go_wp2
          go_roundw
          case rel => first | exact ⟨m + 1, by omega, by go_num, HS.out⟩ | ((repeat apply Exists.intro); refine ⟨⟨m + 1, by omega, ?_, HS.out⟩, rfl⟩ <;> first | rfl | go_num)
          case measure => simp [intOf]; omega
        · obtain rfl : m = 3 := by omega
          clear hlt hm g1
          obtain ⟨gs, cs, rfl, hgs, hgl, hhs⟩ := HI.own.has (by omega)
          have K := HI.K.own hgs hgl hhs
          clear HI hhs
          go_upto_region 11 with fail
          refine wp_region_list ?_
          refine actL (w' := wr.alloc (.cells #[] 22)) (.slice (some ⟨wr.heap.size, 0, none⟩) 0 0) rfl (by kernel_rfl) ?_
          simp only [Act.put, List.setIfInBounds_toArray, List.set_cons_zero, List.set_cons_succ]
          refine pureL (.slice (some ⟨gs, 0, none⟩) 16 cs) rfl (fun _ => by kernel_rfl) ?_
          simp only [Act.put, List.setIfInBounds_toArray, List.set_cons_zero, List.set_cons_succ]
          have K1 := K.call ((Below.refl wr.heap.size wr).alloc (Nat.le_refl _) (.cells #[] 22))
          obtain ⟨v, w3, hr, ho, hg, _⟩ := run_append_Own (P := Tryd.prog) (ty := 51) Tryd.underlying51 one32 (show Own (wr.alloc (.cells #[] 22)) wr.heap.size 22 .u32 0 (hst k c n) (.slice (some ⟨wr.heap.size, 0, none⟩) 0 0) from Own.lit wr wr.heap.size 22 .u32 0 (hst k c n) (Nat.le_refl _) (by unfold maxLen; omega)) (some ⟨gs, 0, none⟩) 16 cs (hst k c n) (fun j hj => ⟨_, rfl, by rw [Addr.add_mid, Nat.zero_add]; exact (K1.get _ _ _ _ List.mem_cons_self).cell j hj⟩) (fun e => by cases e) (by unfold maxLen; omega) (by omega) (by simp)
          refine actL v rfl (appendOp _ _ 51 _ _ _ rfl rfl rfl hr) ?_
          simp only [Act.put, List.setIfInBounds_toArray, List.set_cons_zero, List.set_cons_succ]
          refine pureL v rfl (fun _ => by kernel_rfl) ?_
          simp only [Act.put, List.setIfInBounds_toArray, List.set_cons_zero, List.set_cons_succ]
          clear hr K
          replace K := K1.grown hg (fun b hb => by injection hb with hb; simp only at hb; omega)
          clear K1 hg
          obtain ⟨gx, cx, rfl, hgx, hgl2, hhx⟩ := (ho.congr (g := hst k c n) (fun j _ => by unfold app; rw [if_neg (by omega), Nat.sub_zero])).has (by omega)
          clear ho
          replace K := (K.own hgx hgl2 hhx).sub [(gx, .u32, 16, hst k c n), (gs, .u32, 16, hst k c n)] (fun p hp => by
            rcases List.mem_cons.1 hp with rfl | hp
            · exact List.mem_cons_self
            · obtain rfl := List.mem_singleton.1 hp; exact List.mem_cons_of_mem _ List.mem_cons_self)
          have hsx : gs < gx := by omega
          have hlo : w.heap.size + 1 + 1 + 1 ≤ gs := hgs
          obtain ⟨M, hM⟩ : ∃ M, w3.heap.size = M := ⟨_, rfl⟩
          rw [hM] at K
          have hxM : gx < M := by omega
          clear hM hgl2 hhx hgx hgl hgs
          show Exit.then _ _ _ _ _
          go_wp2
          go_loopw [11] (fun i w' => ∃ t : Nat, t ≤ 10 ∧ i = .int .i64 t ∧ Kr w M [(gx, .u32, 16, drN (hst k c n) t), (gs, .u32, 16, hst k c n)] [(w.heap.size + 1 + 1, 64)] w') (fun i _ => 10 - (intOf i).toNat)
          case atStart => exact ⟨0, by omega, rfl, K⟩
          case round =>
            clear K
            obtain ⟨t, ht, rfl, K⟩ := hrel
            have g1 : (0 : Int) ≤ (t : Int) := by omega
            by_cases hlt : t < 10
            · have g2 : (t : Int) < 10 := by omega
              obtain ⟨F, hF⟩ : ∃ F, drN (hst k c n) t = F := ⟨_, rfl⟩
              have HF := show Hid _ from (show drN (hst k c n) (t + 1) = tN F 8 by rw [← hF]; rfl)
              rw [hF] at K
              clear hF
              go_wp2
              go_loopw [12] (fun i w' => ∃ j : Nat, j ≤ 8 ∧ i = .int .i64 j ∧ Kr w M [(gx, .u32, 16, tN F j), (gs, .u32, 16, hst k c n)] [(w.heap.size + 1 + 1, 64)] w') (fun i _ => 8 - (intOf i).toNat)
              case atStart => exact ⟨0, by omega, rfl, K⟩
              case round =>
                clear K
                obtain ⟨j, hj, rfl, K⟩ := hrel
                have g3 : (0 : Int) ≤ (j : Int) := by omega
                by_cases hlt2 : j < 8
                · have g4 : (j : Int) < 8 := by omega
                  have HT := show Hid _ from (show tN F (j + 1) = tAt (tN F j) j from rfl)
                  have a1 : pA j < 16 := by have := pA_lt j; omega
                  have a2 : pB j < 16 := by have := pB_lt j; omega
                  have a3 : pC j < 16 := by have := pC_lt j; omega
                  have a4 : pD j < 16 := pD_lt j
                  have e0 : ((j : Int)).tmod 4 = (pA j : Int) := by rw [Int.tmod_eq_emod_of_nonneg g3]; unfold pA; omega
                  have m4 : ∀ x : Nat, ((x : Int)).tmod 4 = ((x % 4 : Nat) : Int) := fun x => by rw [Int.tmod_eq_emod_of_nonneg (by omega)]; omega
                  unfold tAt at HT
                  by_cases h4 : 4 ≤ j
                  · have g5 : (j : Int) ≥ 4 := by omega
                    have e1 : IntKind.i64.wrap ((j : Int) + 1) = ((j + 1 : Nat) : Int) := by rw [IntKind.wrap_i64]; omega
                    have e2 : IntKind.i64.wrap (4 + (((j + 1) % 4 : Nat) : Int)) = (pB j : Int) := by rw [IntKind.wrap_i64]; unfold pB; omega
                    have e3 : IntKind.i64.wrap ((j : Int) + 2) = ((j + 2 : Nat) : Int) := by rw [IntKind.wrap_i64]; omega
                    have e4 : IntKind.i64.wrap (8 + (((j + 2) % 4 : Nat) : Int)) = (pC j : Int) := by rw [IntKind.wrap_i64]; unfold pC; omega
                    have e5 : IntKind.i64.wrap ((j : Int) + 3) = ((j + 3 : Nat) : Int) := by rw [IntKind.wrap_i64]; omega
                    have e6 : IntKind.i64.wrap (12 + (((j + 3) % 4 : Nat) : Int)) = (pD j : Int) := by rw [IntKind.wrap_i64]; unfold pD; omega
                    generalize pA j = A at *
                    generalize pB j = B at *
                    generalize pC j = C at *
                    generalize pD j = D at *
                    generalize tN F j = f at *
                    go_upto_region 21 with fail
                    refine wp_region_list ?_
                    refine pureL (.int .i64 (j : Int)) rfl (fun _ => by kernel_rfl) ?_
                    simp only [Act.put, List.setIfInBounds_toArray, List.set_cons_zero, List.set_cons_succ]
                    refine pureL (.int .i64 (A : Int)) rfl (fun w => remI .i64 _ _ _ _ _ _ _ rfl rfl rfl (by decide) e0 w) ?_
                    simp only [Act.put, List.setIfInBounds_toArray, List.set_cons_zero, List.set_cons_succ]
                    refine pureL (.int .i64 (A : Int)) rfl (fun _ => by kernel_rfl) ?_
                    simp only [Act.put, List.setIfInBounds_toArray, List.set_cons_zero, List.set_cons_succ]
                    show Exit.then _ _ _ _ _
                    go_upto_region 22 with fail
                    refine wp_region_list ?_
                    refine pureL (.int .i64 (j : Int)) rfl (fun _ => by kernel_rfl) ?_
                    simp only [Act.put, List.setIfInBounds_toArray, List.set_cons_zero, List.set_cons_succ]
                    refine pureL (.int .i64 1) rfl (fun _ => by kernel_rfl) ?_
                    simp only [Act.put, List.setIfInBounds_toArray, List.set_cons_zero, List.set_cons_succ]
                    refine pureL (.int .i64 ((j + 1 : Nat) : Int)) rfl (fun w => addI .i64 _ _ _ _ _ _ _ rfl rfl rfl e1 w) ?_
                    simp only [Act.put, List.setIfInBounds_toArray, List.set_cons_zero, List.set_cons_succ]
                    refine pureL (.int .i64 (((j + 1) % 4 : Nat) : Int)) rfl (fun w => remI .i64 _ _ _ _ _ _ _ rfl rfl rfl (by decide) (m4 _) w) ?_
                    simp only [Act.put, List.setIfInBounds_toArray, List.set_cons_zero, List.set_cons_succ]
                    refine pureL (.int .i64 (B : Int)) rfl (fun w => addI .i64 _ _ _ _ _ _ _ rfl rfl rfl e2 w) ?_
                    simp only [Act.put, List.setIfInBounds_toArray, List.set_cons_zero, List.set_cons_succ]
                    refine pureL (.int .i64 (B : Int)) rfl (fun _ => by kernel_rfl) ?_
                    simp only [Act.put, List.setIfInBounds_toArray, List.set_cons_zero, List.set_cons_succ]
                    show Exit.then _ _ _ _ _
                    go_upto_region 23 with fail
                    refine wp_region_list ?_
                    refine pureL (.int .i64 (j : Int)) rfl (fun _ => by kernel_rfl) ?_
                    simp only [Act.put, List.setIfInBounds_toArray, List.set_cons_zero, List.set_cons_succ]
                    refine pureL (.int .i64 1) rfl (fun _ => by kernel_rfl) ?_
                    simp only [Act.put, List.setIfInBounds_toArray, List.set_cons_zero, List.set_cons_succ]
                    refine pureL (.int .i64 2) rfl (fun _ => by kernel_rfl) ?_
                    simp only [Act.put, List.setIfInBounds_toArray, List.set_cons_zero, List.set_cons_succ]
                    refine pureL (.int .i64 ((j + 2 : Nat) : Int)) rfl (fun w => addI .i64 _ _ _ _ _ _ _ rfl rfl rfl e3 w) ?_
                    simp only [Act.put, List.setIfInBounds_toArray, List.set_cons_zero, List.set_cons_succ]
                    refine pureL (.int .i64 (((j + 2) % 4 : Nat) : Int)) rfl (fun w => remI .i64 _ _ _ _ _ _ _ rfl rfl rfl (by decide) (m4 _) w) ?_
                    simp only [Act.put, List.setIfInBounds_toArray, List.set_cons_zero, List.set_cons_succ]
                    refine pureL (.int .i64 (C : Int)) rfl (fun w => addI .i64 _ _ _ _ _ _ _ rfl rfl rfl e4 w) ?_
                    simp only [Act.put, List.setIfInBounds_toArray, List.set_cons_zero, List.set_cons_succ]
                    refine pureL (.int .i64 (C : Int)) rfl (fun _ => by kernel_rfl) ?_
                    simp only [Act.put, List.setIfInBounds_toArray, List.set_cons_zero, List.set_cons_succ]
                    show Exit.then _ _ _ _ _
                    go_upto_region 24 with fail
                    refine wp_region_list ?_
                    refine pureL (.int .i64 (j : Int)) rfl (fun _ => by kernel_rfl) ?_
                    simp only [Act.put, List.setIfInBounds_toArray, List.set_cons_zero, List.set_cons_succ]
                    refine pureL (.int .i64 1) rfl (fun _ => by kernel_rfl) ?_
                    simp only [Act.put, List.setIfInBounds_toArray, List.set_cons_zero, List.set_cons_succ]
                    refine pureL (.int .i64 3) rfl (fun _ => by kernel_rfl) ?_
                    simp only [Act.put, List.setIfInBounds_toArray, List.set_cons_zero, List.set_cons_succ]
                    refine pureL (.int .i64 ((j + 3 : Nat) : Int)) rfl (fun w => addI .i64 _ _ _ _ _ _ _ rfl rfl rfl e5 w) ?_
                    simp only [Act.put, List.setIfInBounds_toArray, List.set_cons_zero, List.set_cons_succ]
                    refine pureL (.int .i64 (((j + 3) % 4 : Nat) : Int)) rfl (fun w => remI .i64 _ _ _ _ _ _ _ rfl rfl rfl (by decide) (m4 _) w) ?_
                    simp only [Act.put, List.setIfInBounds_toArray, List.set_cons_zero, List.set_cons_succ]
                    refine pureL (.int .i64 (D : Int)) rfl (fun w => addI .i64 _ _ _ _ _ _ _ rfl rfl rfl e6 w) ?_
                    simp only [Act.put, List.setIfInBounds_toArray, List.set_cons_zero, List.set_cons_succ]
                    refine pureL (.int .i64 (D : Int)) rfl (fun _ => by kernel_rfl) ?_
                    simp only [Act.put, List.setIfInBounds_toArray, List.set_cons_zero, List.set_cons_succ]
                    show Exit.then _ _ _ _ _
                    clear e0 e1 e2 e3 e4 e5 e6 m4
                    go_upto_region 25 with fail
                    refine wp_region_held_drew (S := fun w' => Kr w M [(gx, .u32, 16, f), (gs, .u32, 16, hst k c n)] [(w.heap.size + 1 + 1, 64)] w') (by kernel_rfl) K.drew ?_
                    clear K
                    intro K
                    refine pureH (i := 0) (some 88) rfl (.slice (some ⟨gx, 0, none⟩) 16 cx) rfl rfl (fun _ => by kernel_rfl) (by kernel_rfl) (by kernel_rfl) (by kernel_rfl) (fun _ _ _ h => h) K ?_
                    simp only [Act.put, List.setIfInBounds_toArray, List.set_cons_zero, List.set_cons_succ]
                    refine pureH (i := 1) (some 89) rfl (.int .i64 (A : Int)) rfl rfl (fun _ => by kernel_rfl) (by kernel_rfl) (by kernel_rfl) (by kernel_rfl) (fun _ _ _ h => h) K ?_
                    simp only [Act.put, List.setIfInBounds_toArray, List.set_cons_zero, List.set_cons_succ]
                    refine pureH (i := 2) (some 90) rfl (.pointer (some ⟨gx, A, none⟩)) rfl rfl (fun w' => idxW gx 16 cx A a1 w' _ _ rfl rfl rfl) (by kernel_rfl) (by kernel_rfl) (by kernel_rfl) (fun _ _ _ h => h) K ?_
                    simp only [Act.put, List.setIfInBounds_toArray, List.set_cons_zero, List.set_cons_succ]
                    refine cellH (i := 3) (some 91) rfl .u32 (.int .u32 (f A)) gx A 22 _ rfl rfl rfl rfl (by kernel_rfl) (by kernel_rfl) (by kernel_rfl) (fun _ _ _ h => h) Tryd.underlying22 K (fun _ h => (h.get _ _ _ _ List.mem_cons_self).cell A a1) ?_
                    simp only [Act.put, List.setIfInBounds_toArray, List.set_cons_zero, List.set_cons_succ]
                    refine pureH (i := 4) (some 92) rfl (.slice (some ⟨gx, 0, none⟩) 16 cx) rfl rfl (fun _ => by kernel_rfl) (by kernel_rfl) (by kernel_rfl) (by kernel_rfl) (fun _ _ _ h => h) K ?_
                    simp only [Act.put, List.setIfInBounds_toArray, List.set_cons_zero, List.set_cons_succ]
                    refine pureH (i := 5) (some 93) rfl (.int .i64 (B : Int)) rfl rfl (fun _ => by kernel_rfl) (by kernel_rfl) (by kernel_rfl) (by kernel_rfl) (fun _ _ _ h => h) K ?_
                    simp only [Act.put, List.setIfInBounds_toArray, List.set_cons_zero, List.set_cons_succ]
                    refine pureH (i := 6) (some 94) rfl (.pointer (some ⟨gx, B, none⟩)) rfl rfl (fun w' => idxW gx 16 cx B a2 w' _ _ rfl rfl rfl) (by kernel_rfl) (by kernel_rfl) (by kernel_rfl) (fun _ _ _ h => h) K ?_
                    simp only [Act.put, List.setIfInBounds_toArray, List.set_cons_zero, List.set_cons_succ]
                    refine cellH (i := 7) (some 95) rfl .u32 (.int .u32 (f B)) gx B 22 _ rfl rfl rfl rfl (by kernel_rfl) (by kernel_rfl) (by kernel_rfl) (fun _ _ _ h => h) Tryd.underlying22 K (fun _ h => (h.get _ _ _ _ List.mem_cons_self).cell B a2) ?_
                    simp only [Act.put, List.setIfInBounds_toArray, List.set_cons_zero, List.set_cons_succ]
                    refine pureH (i := 8) (some 96) rfl (.slice (some ⟨gx, 0, none⟩) 16 cx) rfl rfl (fun _ => by kernel_rfl) (by kernel_rfl) (by kernel_rfl) (by kernel_rfl) (fun _ _ _ h => h) K ?_
                    simp only [Act.put, List.setIfInBounds_toArray, List.set_cons_zero, List.set_cons_succ]
                    refine pureH (i := 9) (some 97) rfl (.int .i64 (C : Int)) rfl rfl (fun _ => by kernel_rfl) (by kernel_rfl) (by kernel_rfl) (by kernel_rfl) (fun _ _ _ h => h) K ?_
                    simp only [Act.put, List.setIfInBounds_toArray, List.set_cons_zero, List.set_cons_succ]
                    refine pureH (i := 10) (some 98) rfl (.pointer (some ⟨gx, C, none⟩)) rfl rfl (fun w' => idxW gx 16 cx C a3 w' _ _ rfl rfl rfl) (by kernel_rfl) (by kernel_rfl) (by kernel_rfl) (fun _ _ _ h => h) K ?_
                    simp only [Act.put, List.setIfInBounds_toArray, List.set_cons_zero, List.set_cons_succ]
                    refine cellH (i := 11) (some 99) rfl .u32 (.int .u32 (f C)) gx C 22 _ rfl rfl rfl rfl (by kernel_rfl) (by kernel_rfl) (by kernel_rfl) (fun _ _ _ h => h) Tryd.underlying22 K (fun _ h => (h.get _ _ _ _ List.mem_cons_self).cell C a3) ?_
                    simp only [Act.put, List.setIfInBounds_toArray, List.set_cons_zero, List.set_cons_succ]
                    refine pureH (i := 12) (some 100) rfl (.slice (some ⟨gx, 0, none⟩) 16 cx) rfl rfl (fun _ => by kernel_rfl) (by kernel_rfl) (by kernel_rfl) (by kernel_rfl) (fun _ _ _ h => h) K ?_
                    simp only [Act.put, List.setIfInBounds_toArray, List.set_cons_zero, List.set_cons_succ]
                    refine pureH (i := 13) (some 101) rfl (.int .i64 (D : Int)) rfl rfl (fun _ => by kernel_rfl) (by kernel_rfl) (by kernel_rfl) (by kernel_rfl) (fun _ _ _ h => h) K ?_
                    simp only [Act.put, List.setIfInBounds_toArray, List.set_cons_zero, List.set_cons_succ]
                    refine pureH (i := 14) (some 102) rfl (.pointer (some ⟨gx, D, none⟩)) rfl rfl (fun w' => idxW gx 16 cx D a4 w' _ _ rfl rfl rfl) (by kernel_rfl) (by kernel_rfl) (by kernel_rfl) (fun _ _ _ h => h) K ?_
                    simp only [Act.put, List.setIfInBounds_toArray, List.set_cons_zero, List.set_cons_succ]
                    refine cellH (i := 15) (some 103) rfl .u32 (.int .u32 (f D)) gx D 22 _ rfl rfl rfl rfl (by kernel_rfl) (by kernel_rfl) (by kernel_rfl) (fun _ _ _ h => h) Tryd.underlying22 K (fun _ h => (h.get _ _ _ _ List.mem_cons_self).cell D a4) ?_
                    simp only [Act.put, List.setIfInBounds_toArray, List.set_cons_zero, List.set_cons_succ]
                    refine pureH (i := 16) (some 104) rfl (.agg (row .u32 4 (quad (f A) (f B) (f C) (f D))).toArray) rfl rfl (fun _ => by kernel_rfl) (by kernel_rfl) (by kernel_rfl) (by kernel_rfl) (fun _ _ _ h => h) K ?_
                    simp only [Act.put, List.setIfInBounds_toArray, List.set_cons_zero, List.set_cons_succ]
                    refine Chain.go (z := 18) (t := 18) (n := 4) (w0 := M) (k := 1) ?_ #[.int .u32 0, .int .u32 0, .int .u32 0, .int .u32 0] 23 rfl rfl rfl (fun _ _ => by kernel_rfl) (fun _ => (hq_zero _ _ _ rfl).there) (fun _ h => h.size) (fun _ _ h l => h.call l) _ K
                    refine Chain.call 17 105 (fun v => v = .agg (row .u32 4 (hqt (quad (f A) (f B) (f C) (f D)))).toArray) (by kernel_rfl) (by kernel_rfl) rfl rfl rfl (by decide) (by decide) (by intros; simp) (by decide +kernel) (fun _ => by kernel_rfl) (fun w' _ => (refQuarter_any (quad (f A) (f B) (f C) (f D)) w').mono fun e w'' ⟨he, l⟩ => ⟨_, he, rfl, l⟩) ?_
                    rintro _ rfl
                    simp only [Act.put, List.setIfInBounds_toArray, List.set_cons_zero, List.set_cons_succ]
                    refine Chain.last (by kernel_rfl) ?_
                    clear K
                    intro G w4 K hFb
                    simp only [Act.put, List.setIfInBounds_toArray, List.set_cons_zero, List.set_cons_succ]
                    refine storesH (i := 19) none rfl .u32 4 (hqt (quad (f A) (f B) (f C) (f D))) G 23 _ _ (by kernel_rfl) rfl rfl rfl rfl rfl (room_of hFb.th) (hq_info' _) (K.past G hFb.lo _) ?_
                    refine wpAnyH_done (by kernel_rfl) ?_ _
                    have hGM := hFb.lo
                    replace K := K.land hFb .u32 (hqt (quad (f A) (f B) (f C) (f D)))
                    clear hFb
                    generalize w4.setCells G 0 (row .u32 4 (hqt (quad (f A) (f B) (f C) (f D)))) = w5 at K ⊢
                    have hM5 : M ≤ w4.heap.size := by have := (K.rows (G, .u32, 4, hqt (quad (f A) (f B) (f C) (f D))) List.mem_cons_self).2; omega
                    generalize w4.heap.size = M5 at K hM5
                    go_upto_region 26 with fail
                    refine wp_region_list ?_
                    refine pureL (.slice (some ⟨gx, 0, none⟩) 16 cx) rfl (fun _ => by kernel_rfl) ?_
                    simp only [Act.put, List.setIfInBounds_toArray, List.set_cons_zero, List.set_cons_succ]
                    refine pureL (.int .i64 (A : Int)) rfl (fun _ => by kernel_rfl) ?_
                    simp only [Act.put, List.setIfInBounds_toArray, List.set_cons_zero, List.set_cons_succ]
                    refine pureL (.pointer (some ⟨G, 0, none⟩)) rfl (fun _ => by kernel_rfl) ?_
                    simp only [Act.put, List.setIfInBounds_toArray, List.set_cons_zero, List.set_cons_succ]
                    refine cellL .u32 (.int .u32 (qA (f A) (f B) (f C) (f D))) G 0 22 _ rfl rfl rfl Tryd.underlying22 ((K.get _ _ _ _ List.mem_cons_self).cell 0 (by omega)) ?_
                    simp only [Act.put, List.setIfInBounds_toArray, List.set_cons_zero, List.set_cons_succ]
                    refine pureL (.pointer (some ⟨gx, A, none⟩)) rfl (fun w' => idxW gx 16 cx A a1 w' _ _ rfl rfl rfl) ?_
                    simp only [Act.put, List.setIfInBounds_toArray, List.set_cons_zero, List.set_cons_succ]
                    refine storeL .u32 (qA (f A) (f B) (f C) (f D)) gx A 22 _ _ rfl rfl rfl rfl (by rw [(K.get _ _ _ _ (List.mem_cons_of_mem _ List.mem_cons_self)).cell A a1]; rfl) ((K.get _ _ _ _ (List.mem_cons_of_mem _ List.mem_cons_self)).free A a1) (by kernel_rfl) ?_
                    simp only [Act.put]
                    replace K := K.setCell [(G, .u32, 4, hqt (quad (f A) (f B) (f C) (f D))), (gs, .u32, 16, hst k c n)] gx .u32 16 (f) A a1 (qA (f A) (f B) (f C) (f D)) (List.mem_cons_of_mem _ List.mem_cons_self) (fun p hp => by rcases List.mem_cons.1 hp with rfl | hp; exact List.mem_cons_self; exact List.mem_cons_of_mem _ (List.mem_cons_of_mem _ hp)) (fun p hp => by rcases List.mem_cons.1 hp with rfl | hp; simp only; omega; obtain rfl := List.mem_singleton.1 hp; simp only; omega) (by omega)
                    generalize w5.setCell ⟨gx, A, none⟩ (.int .u32 (qA (f A) (f B) (f C) (f D))) = w6 at K ⊢
                    show Exit.then _ _ _ _ _
                    go_upto_region 27 with fail
                    refine wp_region_list ?_
                    refine pureL (.slice (some ⟨gx, 0, none⟩) 16 cx) rfl (fun _ => by kernel_rfl) ?_
                    simp only [Act.put, List.setIfInBounds_toArray, List.set_cons_zero, List.set_cons_succ]
                    refine pureL (.int .i64 (B : Int)) rfl (fun _ => by kernel_rfl) ?_
                    simp only [Act.put, List.setIfInBounds_toArray, List.set_cons_zero, List.set_cons_succ]
                    refine pureL (.pointer (some ⟨G, 1, none⟩)) rfl (fun _ => by kernel_rfl) ?_
                    simp only [Act.put, List.setIfInBounds_toArray, List.set_cons_zero, List.set_cons_succ]
                    refine cellL .u32 (.int .u32 (qB (f A) (f B) (f C) (f D))) G 1 22 _ rfl rfl rfl Tryd.underlying22 ((K.get _ _ _ _ (List.mem_cons_of_mem _ List.mem_cons_self)).cell 1 (by omega)) ?_
                    simp only [Act.put, List.setIfInBounds_toArray, List.set_cons_zero, List.set_cons_succ]
                    refine pureL (.pointer (some ⟨gx, B, none⟩)) rfl (fun w' => idxW gx 16 cx B a2 w' _ _ rfl rfl rfl) ?_
                    simp only [Act.put, List.setIfInBounds_toArray, List.set_cons_zero, List.set_cons_succ]
                    refine storeL .u32 (qB (f A) (f B) (f C) (f D)) gx B 22 _ _ rfl rfl rfl rfl (by rw [(K.get _ _ _ _ List.mem_cons_self).cell B a2]; rfl) ((K.get _ _ _ _ List.mem_cons_self).free B a2) (by kernel_rfl) ?_
                    simp only [Act.put]
                    replace K := K.setCell [(G, .u32, 4, hqt (quad (f A) (f B) (f C) (f D))), (gs, .u32, 16, hst k c n)] gx .u32 16 (upd (f) A (qA (f A) (f B) (f C) (f D))) B a2 (qB (f A) (f B) (f C) (f D)) List.mem_cons_self (fun p hp => List.mem_cons_of_mem _ hp) (fun p hp => by rcases List.mem_cons.1 hp with rfl | hp; simp only; omega; obtain rfl := List.mem_singleton.1 hp; simp only; omega) (by omega)
                    generalize w6.setCell ⟨gx, B, none⟩ (.int .u32 (qB (f A) (f B) (f C) (f D))) = w7 at K ⊢
                    show Exit.then _ _ _ _ _
                    go_upto_region 28 with fail
                    refine wp_region_list ?_
                    refine pureL (.slice (some ⟨gx, 0, none⟩) 16 cx) rfl (fun _ => by kernel_rfl) ?_
                    simp only [Act.put, List.setIfInBounds_toArray, List.set_cons_zero, List.set_cons_succ]
                    refine pureL (.int .i64 (C : Int)) rfl (fun _ => by kernel_rfl) ?_
                    simp only [Act.put, List.setIfInBounds_toArray, List.set_cons_zero, List.set_cons_succ]
                    refine pureL (.pointer (some ⟨G, 2, none⟩)) rfl (fun _ => by kernel_rfl) ?_
                    simp only [Act.put, List.setIfInBounds_toArray, List.set_cons_zero, List.set_cons_succ]
                    refine cellL .u32 (.int .u32 (qC (f A) (f B) (f C) (f D))) G 2 22 _ rfl rfl rfl Tryd.underlying22 ((K.get _ _ _ _ (List.mem_cons_of_mem _ List.mem_cons_self)).cell 2 (by omega)) ?_
                    simp only [Act.put, List.setIfInBounds_toArray, List.set_cons_zero, List.set_cons_succ]
                    refine pureL (.pointer (some ⟨gx, C, none⟩)) rfl (fun w' => idxW gx 16 cx C a3 w' _ _ rfl rfl rfl) ?_
                    simp only [Act.put, List.setIfInBounds_toArray, List.set_cons_zero, List.set_cons_succ]
                    refine storeL .u32 (qC (f A) (f B) (f C) (f D)) gx C 22 _ _ rfl rfl rfl rfl (by rw [(K.get _ _ _ _ List.mem_cons_self).cell C a3]; rfl) ((K.get _ _ _ _ List.mem_cons_self).free C a3) (by kernel_rfl) ?_
                    simp only [Act.put]
                    replace K := K.setCell [(G, .u32, 4, hqt (quad (f A) (f B) (f C) (f D))), (gs, .u32, 16, hst k c n)] gx .u32 16 (upd (upd (f) A (qA (f A) (f B) (f C) (f D))) B (qB (f A) (f B) (f C) (f D))) C a3 (qC (f A) (f B) (f C) (f D)) List.mem_cons_self (fun p hp => List.mem_cons_of_mem _ hp) (fun p hp => by rcases List.mem_cons.1 hp with rfl | hp; simp only; omega; obtain rfl := List.mem_singleton.1 hp; simp only; omega) (by omega)
                    generalize w7.setCell ⟨gx, C, none⟩ (.int .u32 (qC (f A) (f B) (f C) (f D))) = w8 at K ⊢
                    show Exit.then _ _ _ _ _
                    go_upto_region 29 with fail
                    refine wp_region_list ?_
                    refine pureL (.slice (some ⟨gx, 0, none⟩) 16 cx) rfl (fun _ => by kernel_rfl) ?_
                    simp only [Act.put, List.setIfInBounds_toArray, List.set_cons_zero, List.set_cons_succ]
                    refine pureL (.int .i64 (D : Int)) rfl (fun _ => by kernel_rfl) ?_
                    simp only [Act.put, List.setIfInBounds_toArray, List.set_cons_zero, List.set_cons_succ]
                    refine pureL (.pointer (some ⟨G, 3, none⟩)) rfl (fun _ => by kernel_rfl) ?_
                    simp only [Act.put, List.setIfInBounds_toArray, List.set_cons_zero, List.set_cons_succ]
                    refine cellL .u32 (.int .u32 (qD (f A) (f B) (f C) (f D))) G 3 22 _ rfl rfl rfl Tryd.underlying22 ((K.get _ _ _ _ (List.mem_cons_of_mem _ List.mem_cons_self)).cell 3 (by omega)) ?_
                    simp only [Act.put, List.setIfInBounds_toArray, List.set_cons_zero, List.set_cons_succ]
                    refine pureL (.pointer (some ⟨gx, D, none⟩)) rfl (fun w' => idxW gx 16 cx D a4 w' _ _ rfl rfl rfl) ?_
                    simp only [Act.put, List.setIfInBounds_toArray, List.set_cons_zero, List.set_cons_succ]
                    refine storeL .u32 (qD (f A) (f B) (f C) (f D)) gx D 22 _ _ rfl rfl rfl rfl (by rw [(K.get _ _ _ _ List.mem_cons_self).cell D a4]; rfl) ((K.get _ _ _ _ List.mem_cons_self).free D a4) (by kernel_rfl) ?_
                    simp only [Act.put]
                    replace K := K.setCell [(G, .u32, 4, hqt (quad (f A) (f B) (f C) (f D))), (gs, .u32, 16, hst k c n)] gx .u32 16 (upd (upd (upd (f) A (qA (f A) (f B) (f C) (f D))) B (qB (f A) (f B) (f C) (f D))) C (qC (f A) (f B) (f C) (f D))) D a4 (qD (f A) (f B) (f C) (f D)) List.mem_cons_self (fun p hp => List.mem_cons_of_mem _ hp) (fun p hp => by rcases List.mem_cons.1 hp with rfl | hp; simp only; omega; obtain rfl := List.mem_singleton.1 hp; simp only; omega) (by omega)
                    generalize w8.setCell ⟨gx, D, none⟩ (.int .u32 (qD (f A) (f B) (f C) (f D))) = w9 at K ⊢
                    show Exit.inBlock _ _ _ _ _
                    rw [← HT.out] at K
                    replace K := K.back [(gx, .u32, 16, tN F (j + 1)), (gs, .u32, 16, hst k c n)] M (fun p hp => by rcases List.mem_cons.1 hp with rfl | hp; exact List.mem_cons_self; exact List.mem_cons_of_mem _ (List.mem_cons_of_mem _ hp)) (fun p hp => by rcases List.mem_cons.1 hp with rfl | hp; simp only; omega; obtain rfl := List.mem_singleton.1 hp; simp only; omega) (fun q hq => by obtain rfl := List.mem_singleton.1 hq; simp only; omega) (by omega) hM5
                    have HS := show Hid _ from K
                    clear K HT a1 a2 a3 a4
                    go_wp2
                    go_roundw
                    case rel => first | exact ⟨j + 1, by omega, by go_num, HS.out⟩ | ((repeat apply Exists.intro); refine ⟨⟨j + 1, by omega, ?_, HS.out⟩, rfl⟩ <;> first | rfl | go_num)
                    case measure => simp [intOf]; omega
                  · have g5 : ¬ (j : Int) ≥ 4 := by omega
                    have e1 : IntKind.i64.wrap ((j : Int) + 0) = ((j + 0 : Nat) : Int) := by rw [IntKind.wrap_i64]; omega
                    have e2 : IntKind.i64.wrap (4 + (((j + 0) % 4 : Nat) : Int)) = (pB j : Int) := by rw [IntKind.wrap_i64]; unfold pB; omega
                    have e3 : IntKind.i64.wrap ((j : Int) + 0) = ((j + 0 : Nat) : Int) := by rw [IntKind.wrap_i64]; omega
                    have e4 : IntKind.i64.wrap (8 + (((j + 0) % 4 : Nat) : Int)) = (pC j : Int) := by rw [IntKind.wrap_i64]; unfold pC; omega
                    have e5 : IntKind.i64.wrap ((j : Int) + 0) = ((j + 0 : Nat) : Int) := by rw [IntKind.wrap_i64]; omega
                    have e6 : IntKind.i64.wrap (12 + (((j + 0) % 4 : Nat) : Int)) = (pD j : Int) := by rw [IntKind.wrap_i64]; unfold pD; omega
                    generalize pA j = A at *
                    generalize pB j = B at *
                    generalize pC j = C at *
                    generalize pD j = D at *
                    generalize tN F j = f at *
                    go_upto_region 21 with fail
                    refine wp_region_list ?_
                    refine pureL (.int .i64 (j : Int)) rfl (fun _ => by kernel_rfl) ?_
                    simp only [Act.put, List.setIfInBounds_toArray, List.set_cons_zero, List.set_cons_succ]
                    refine pureL (.int .i64 (A : Int)) rfl (fun w => remI .i64 _ _ _ _ _ _ _ rfl rfl rfl (by decide) e0 w) ?_
                    simp only [Act.put, List.setIfInBounds_toArray, List.set_cons_zero, List.set_cons_succ]
                    refine pureL (.int .i64 (A : Int)) rfl (fun _ => by kernel_rfl) ?_
                    simp only [Act.put, List.setIfInBounds_toArray, List.set_cons_zero, List.set_cons_succ]
                    show Exit.then _ _ _ _ _
                    go_upto_region 22 with fail
                    refine wp_region_list ?_
                    refine pureL (.int .i64 (j : Int)) rfl (fun _ => by kernel_rfl) ?_
                    simp only [Act.put, List.setIfInBounds_toArray, List.set_cons_zero, List.set_cons_succ]
                    refine pureL (.int .i64 0) rfl (fun _ => by kernel_rfl) ?_
                    simp only [Act.put, List.setIfInBounds_toArray, List.set_cons_zero, List.set_cons_succ]
                    refine pureL (.int .i64 ((j + 0 : Nat) : Int)) rfl (fun w => addI .i64 _ _ _ _ _ _ _ rfl rfl rfl e1 w) ?_
                    simp only [Act.put, List.setIfInBounds_toArray, List.set_cons_zero, List.set_cons_succ]
                    refine pureL (.int .i64 (((j + 0) % 4 : Nat) : Int)) rfl (fun w => remI .i64 _ _ _ _ _ _ _ rfl rfl rfl (by decide) (m4 _) w) ?_
                    simp only [Act.put, List.setIfInBounds_toArray, List.set_cons_zero, List.set_cons_succ]
                    refine pureL (.int .i64 (B : Int)) rfl (fun w => addI .i64 _ _ _ _ _ _ _ rfl rfl rfl e2 w) ?_
                    simp only [Act.put, List.setIfInBounds_toArray, List.set_cons_zero, List.set_cons_succ]
                    refine pureL (.int .i64 (B : Int)) rfl (fun _ => by kernel_rfl) ?_
                    simp only [Act.put, List.setIfInBounds_toArray, List.set_cons_zero, List.set_cons_succ]
                    show Exit.then _ _ _ _ _
                    go_upto_region 23 with fail
                    refine wp_region_list ?_
                    refine pureL (.int .i64 (j : Int)) rfl (fun _ => by kernel_rfl) ?_
                    simp only [Act.put, List.setIfInBounds_toArray, List.set_cons_zero, List.set_cons_succ]
                    refine pureL (.int .i64 0) rfl (fun _ => by kernel_rfl) ?_
                    simp only [Act.put, List.setIfInBounds_toArray, List.set_cons_zero, List.set_cons_succ]
                    refine pureL (.int .i64 0) rfl (fun _ => by kernel_rfl) ?_
                    simp only [Act.put, List.setIfInBounds_toArray, List.set_cons_zero, List.set_cons_succ]
                    refine pureL (.int .i64 ((j + 0 : Nat) : Int)) rfl (fun w => addI .i64 _ _ _ _ _ _ _ rfl rfl rfl e3 w) ?_
                    simp only [Act.put, List.setIfInBounds_toArray, List.set_cons_zero, List.set_cons_succ]
                    refine pureL (.int .i64 (((j + 0) % 4 : Nat) : Int)) rfl (fun w => remI .i64 _ _ _ _ _ _ _ rfl rfl rfl (by decide) (m4 _) w) ?_
                    simp only [Act.put, List.setIfInBounds_toArray, List.set_cons_zero, List.set_cons_succ]
                    refine pureL (.int .i64 (C : Int)) rfl (fun w => addI .i64 _ _ _ _ _ _ _ rfl rfl rfl e4 w) ?_
                    simp only [Act.put, List.setIfInBounds_toArray, List.set_cons_zero, List.set_cons_succ]
                    refine pureL (.int .i64 (C : Int)) rfl (fun _ => by kernel_rfl) ?_
                    simp only [Act.put, List.setIfInBounds_toArray, List.set_cons_zero, List.set_cons_succ]
                    show Exit.then _ _ _ _ _
                    go_upto_region 24 with fail
                    refine wp_region_list ?_
                    refine pureL (.int .i64 (j : Int)) rfl (fun _ => by kernel_rfl) ?_
                    simp only [Act.put, List.setIfInBounds_toArray, List.set_cons_zero, List.set_cons_succ]
                    refine pureL (.int .i64 0) rfl (fun _ => by kernel_rfl) ?_
                    simp only [Act.put, List.setIfInBounds_toArray, List.set_cons_zero, List.set_cons_succ]
                    refine pureL (.int .i64 0) rfl (fun _ => by kernel_rfl) ?_
                    simp only [Act.put, List.setIfInBounds_toArray, List.set_cons_zero, List.set_cons_succ]
                    refine pureL (.int .i64 ((j + 0 : Nat) : Int)) rfl (fun w => addI .i64 _ _ _ _ _ _ _ rfl rfl rfl e5 w) ?_
                    simp only [Act.put, List.setIfInBounds_toArray, List.set_cons_zero, List.set_cons_succ]
                    refine pureL (.int .i64 (((j + 0) % 4 : Nat) : Int)) rfl (fun w => remI .i64 _ _ _ _ _ _ _ rfl rfl rfl (by decide) (m4 _) w) ?_
                    simp only [Act.put, List.setIfInBounds_toArray, List.set_cons_zero, List.set_cons_succ]
                    refine pureL (.int .i64 (D : Int)) rfl (fun w => addI .i64 _ _ _ _ _ _ _ rfl rfl rfl e6 w) ?_
                    simp only [Act.put, List.setIfInBounds_toArray, List.set_cons_zero, List.set_cons_succ]
                    refine pureL (.int .i64 (D : Int)) rfl (fun _ => by kernel_rfl) ?_
                    simp only [Act.put, List.setIfInBounds_toArray, List.set_cons_zero, List.set_cons_succ]
                    show Exit.then _ _ _ _ _
                    clear e0 e1 e2 e3 e4 e5 e6 m4
                    go_upto_region 25 with fail
                    refine wp_region_held_drew (S := fun w' => Kr w M [(gx, .u32, 16, f), (gs, .u32, 16, hst k c n)] [(w.heap.size + 1 + 1, 64)] w') (by kernel_rfl) K.drew ?_
                    clear K
                    intro K
                    refine pureH (i := 0) (some 88) rfl (.slice (some ⟨gx, 0, none⟩) 16 cx) rfl rfl (fun _ => by kernel_rfl) (by kernel_rfl) (by kernel_rfl) (by kernel_rfl) (fun _ _ _ h => h) K ?_
                    simp only [Act.put, List.setIfInBounds_toArray, List.set_cons_zero, List.set_cons_succ]
                    refine pureH (i := 1) (some 89) rfl (.int .i64 (A : Int)) rfl rfl (fun _ => by kernel_rfl) (by kernel_rfl) (by kernel_rfl) (by kernel_rfl) (fun _ _ _ h => h) K ?_
                    simp only [Act.put, List.setIfInBounds_toArray, List.set_cons_zero, List.set_cons_succ]
                    refine pureH (i := 2) (some 90) rfl (.pointer (some ⟨gx, A, none⟩)) rfl rfl (fun w' => idxW gx 16 cx A a1 w' _ _ rfl rfl rfl) (by kernel_rfl) (by kernel_rfl) (by kernel_rfl) (fun _ _ _ h => h) K ?_
                    simp only [Act.put, List.setIfInBounds_toArray, List.set_cons_zero, List.set_cons_succ]
                    refine cellH (i := 3) (some 91) rfl .u32 (.int .u32 (f A)) gx A 22 _ rfl rfl rfl rfl (by kernel_rfl) (by kernel_rfl) (by kernel_rfl) (fun _ _ _ h => h) Tryd.underlying22 K (fun _ h => (h.get _ _ _ _ List.mem_cons_self).cell A a1) ?_
                    simp only [Act.put, List.setIfInBounds_toArray, List.set_cons_zero, List.set_cons_succ]
                    refine pureH (i := 4) (some 92) rfl (.slice (some ⟨gx, 0, none⟩) 16 cx) rfl rfl (fun _ => by kernel_rfl) (by kernel_rfl) (by kernel_rfl) (by kernel_rfl) (fun _ _ _ h => h) K ?_
                    simp only [Act.put, List.setIfInBounds_toArray, List.set_cons_zero, List.set_cons_succ]
                    refine pureH (i := 5) (some 93) rfl (.int .i64 (B : Int)) rfl rfl (fun _ => by kernel_rfl) (by kernel_rfl) (by kernel_rfl) (by kernel_rfl) (fun _ _ _ h => h) K ?_
                    simp only [Act.put, List.setIfInBounds_toArray, List.set_cons_zero, List.set_cons_succ]
                    refine pureH (i := 6) (some 94) rfl (.pointer (some ⟨gx, B, none⟩)) rfl rfl (fun w' => idxW gx 16 cx B a2 w' _ _ rfl rfl rfl) (by kernel_rfl) (by kernel_rfl) (by kernel_rfl) (fun _ _ _ h => h) K ?_
                    simp only [Act.put, List.setIfInBounds_toArray, List.set_cons_zero, List.set_cons_succ]
                    refine cellH (i := 7) (some 95) rfl .u32 (.int .u32 (f B)) gx B 22 _ rfl rfl rfl rfl (by kernel_rfl) (by kernel_rfl) (by kernel_rfl) (fun _ _ _ h => h) Tryd.underlying22 K (fun _ h => (h.get _ _ _ _ List.mem_cons_self).cell B a2) ?_
                    simp only [Act.put, List.setIfInBounds_toArray, List.set_cons_zero, List.set_cons_succ]
                    refine pureH (i := 8) (some 96) rfl (.slice (some ⟨gx, 0, none⟩) 16 cx) rfl rfl (fun _ => by kernel_rfl) (by kernel_rfl) (by kernel_rfl) (by kernel_rfl) (fun _ _ _ h => h) K ?_
                    simp only [Act.put, List.setIfInBounds_toArray, List.set_cons_zero, List.set_cons_succ]
                    refine pureH (i := 9) (some 97) rfl (.int .i64 (C : Int)) rfl rfl (fun _ => by kernel_rfl) (by kernel_rfl) (by kernel_rfl) (by kernel_rfl) (fun _ _ _ h => h) K ?_
                    simp only [Act.put, List.setIfInBounds_toArray, List.set_cons_zero, List.set_cons_succ]
                    refine pureH (i := 10) (some 98) rfl (.pointer (some ⟨gx, C, none⟩)) rfl rfl (fun w' => idxW gx 16 cx C a3 w' _ _ rfl rfl rfl) (by kernel_rfl) (by kernel_rfl) (by kernel_rfl) (fun _ _ _ h => h) K ?_
                    simp only [Act.put, List.setIfInBounds_toArray, List.set_cons_zero, List.set_cons_succ]
                    refine cellH (i := 11) (some 99) rfl .u32 (.int .u32 (f C)) gx C 22 _ rfl rfl rfl rfl (by kernel_rfl) (by kernel_rfl) (by kernel_rfl) (fun _ _ _ h => h) Tryd.underlying22 K (fun _ h => (h.get _ _ _ _ List.mem_cons_self).cell C a3) ?_
                    simp only [Act.put, List.setIfInBounds_toArray, List.set_cons_zero, List.set_cons_succ]
                    refine pureH (i := 12) (some 100) rfl (.slice (some ⟨gx, 0, none⟩) 16 cx) rfl rfl (fun _ => by kernel_rfl) (by kernel_rfl) (by kernel_rfl) (by kernel_rfl) (fun _ _ _ h => h) K ?_
                    simp only [Act.put, List.setIfInBounds_toArray, List.set_cons_zero, List.set_cons_succ]
                    refine pureH (i := 13) (some 101) rfl (.int .i64 (D : Int)) rfl rfl (fun _ => by kernel_rfl) (by kernel_rfl) (by kernel_rfl) (by kernel_rfl) (fun _ _ _ h => h) K ?_
                    simp only [Act.put, List.setIfInBounds_toArray, List.set_cons_zero, List.set_cons_succ]
                    refine pureH (i := 14) (some 102) rfl (.pointer (some ⟨gx, D, none⟩)) rfl rfl (fun w' => idxW gx 16 cx D a4 w' _ _ rfl rfl rfl) (by kernel_rfl) (by kernel_rfl) (by kernel_rfl) (fun _ _ _ h => h) K ?_
                    simp only [Act.put, List.setIfInBounds_toArray, List.set_cons_zero, List.set_cons_succ]
                    refine cellH (i := 15) (some 103) rfl .u32 (.int .u32 (f D)) gx D 22 _ rfl rfl rfl rfl (by kernel_rfl) (by kernel_rfl) (by kernel_rfl) (fun _ _ _ h => h) Tryd.underlying22 K (fun _ h => (h.get _ _ _ _ List.mem_cons_self).cell D a4) ?_
                    simp only [Act.put, List.setIfInBounds_toArray, List.set_cons_zero, List.set_cons_succ]
                    refine pureH (i := 16) (some 104) rfl (.agg (row .u32 4 (quad (f A) (f B) (f C) (f D))).toArray) rfl rfl (fun _ => by kernel_rfl) (by kernel_rfl) (by kernel_rfl) (by kernel_rfl) (fun _ _ _ h => h) K ?_
                    simp only [Act.put, List.setIfInBounds_toArray, List.set_cons_zero, List.set_cons_succ]
                    refine Chain.go (z := 18) (t := 18) (n := 4) (w0 := M) (k := 1) ?_ #[.int .u32 0, .int .u32 0, .int .u32 0, .int .u32 0] 23 rfl rfl rfl (fun _ _ => by kernel_rfl) (fun _ => (hq_zero _ _ _ rfl).there) (fun _ h => h.size) (fun _ _ h l => h.call l) _ K
                    refine Chain.call 17 105 (fun v => v = .agg (row .u32 4 (hqt (quad (f A) (f B) (f C) (f D)))).toArray) (by kernel_rfl) (by kernel_rfl) rfl rfl rfl (by decide) (by decide) (by intros; simp) (by decide +kernel) (fun _ => by kernel_rfl) (fun w' _ => (refQuarter_any (quad (f A) (f B) (f C) (f D)) w').mono fun e w'' ⟨he, l⟩ => ⟨_, he, rfl, l⟩) ?_
                    rintro _ rfl
                    simp only [Act.put, List.setIfInBounds_toArray, List.set_cons_zero, List.set_cons_succ]
                    refine Chain.last (by kernel_rfl) ?_
                    clear K
                    intro G w4 K hFb
                    simp only [Act.put, List.setIfInBounds_toArray, List.set_cons_zero, List.set_cons_succ]
                    refine storesH (i := 19) none rfl .u32 4 (hqt (quad (f A) (f B) (f C) (f D))) G 23 _ _ (by kernel_rfl) rfl rfl rfl rfl rfl (room_of hFb.th) (hq_info' _) (K.past G hFb.lo _) ?_
                    refine wpAnyH_done (by kernel_rfl) ?_ _
                    have hGM := hFb.lo
                    replace K := K.land hFb .u32 (hqt (quad (f A) (f B) (f C) (f D)))
                    clear hFb
                    generalize w4.setCells G 0 (row .u32 4 (hqt (quad (f A) (f B) (f C) (f D)))) = w5 at K ⊢
                    have hM5 : M ≤ w4.heap.size := by have := (K.rows (G, .u32, 4, hqt (quad (f A) (f B) (f C) (f D))) List.mem_cons_self).2; omega
                    generalize w4.heap.size = M5 at K hM5
                    go_upto_region 26 with fail
                    refine wp_region_list ?_
                    refine pureL (.slice (some ⟨gx, 0, none⟩) 16 cx) rfl (fun _ => by kernel_rfl) ?_
                    simp only [Act.put, List.setIfInBounds_toArray, List.set_cons_zero, List.set_cons_succ]
                    refine pureL (.int .i64 (A : Int)) rfl (fun _ => by kernel_rfl) ?_
                    simp only [Act.put, List.setIfInBounds_toArray, List.set_cons_zero, List.set_cons_succ]
                    refine pureL (.pointer (some ⟨G, 0, none⟩)) rfl (fun _ => by kernel_rfl) ?_
                    simp only [Act.put, List.setIfInBounds_toArray, List.set_cons_zero, List.set_cons_succ]
                    refine cellL .u32 (.int .u32 (qA (f A) (f B) (f C) (f D))) G 0 22 _ rfl rfl rfl Tryd.underlying22 ((K.get _ _ _ _ List.mem_cons_self).cell 0 (by omega)) ?_
                    simp only [Act.put, List.setIfInBounds_toArray, List.set_cons_zero, List.set_cons_succ]
                    refine pureL (.pointer (some ⟨gx, A, none⟩)) rfl (fun w' => idxW gx 16 cx A a1 w' _ _ rfl rfl rfl) ?_
                    simp only [Act.put, List.setIfInBounds_toArray, List.set_cons_zero, List.set_cons_succ]
                    refine storeL .u32 (qA (f A) (f B) (f C) (f D)) gx A 22 _ _ rfl rfl rfl rfl (by rw [(K.get _ _ _ _ (List.mem_cons_of_mem _ List.mem_cons_self)).cell A a1]; rfl) ((K.get _ _ _ _ (List.mem_cons_of_mem _ List.mem_cons_self)).free A a1) (by kernel_rfl) ?_
                    simp only [Act.put]
                    replace K := K.setCell [(G, .u32, 4, hqt (quad (f A) (f B) (f C) (f D))), (gs, .u32, 16, hst k c n)] gx .u32 16 (f) A a1 (qA (f A) (f B) (f C) (f D)) (List.mem_cons_of_mem _ List.mem_cons_self) (fun p hp => by rcases List.mem_cons.1 hp with rfl | hp; exact List.mem_cons_self; exact List.mem_cons_of_mem _ (List.mem_cons_of_mem _ hp)) (fun p hp => by rcases List.mem_cons.1 hp with rfl | hp; simp only; omega; obtain rfl := List.mem_singleton.1 hp; simp only; omega) (by omega)
                    generalize w5.setCell ⟨gx, A, none⟩ (.int .u32 (qA (f A) (f B) (f C) (f D))) = w6 at K ⊢
                    show Exit.then _ _ _ _ _
                    go_upto_region 27 with fail
                    refine wp_region_list ?_
                    refine pureL (.slice (some ⟨gx, 0, none⟩) 16 cx) rfl (fun _ => by kernel_rfl) ?_
                    simp only [Act.put, List.setIfInBounds_toArray, List.set_cons_zero, List.set_cons_succ]
                    refine pureL (.int .i64 (B : Int)) rfl (fun _ => by kernel_rfl) ?_
                    simp only [Act.put, List.setIfInBounds_toArray, List.set_cons_zero, List.set_cons_succ]
                    refine pureL (.pointer (some ⟨G, 1, none⟩)) rfl (fun _ => by kernel_rfl) ?_
                    simp only [Act.put, List.setIfInBounds_toArray, List.set_cons_zero, List.set_cons_succ]
                    refine cellL .u32 (.int .u32 (qB (f A) (f B) (f C) (f D))) G 1 22 _ rfl rfl rfl Tryd.underlying22 ((K.get _ _ _ _ (List.mem_cons_of_mem _ List.mem_cons_self)).cell 1 (by omega)) ?_
                    simp only [Act.put, List.setIfInBounds_toArray, List.set_cons_zero, List.set_cons_succ]
                    refine pureL (.pointer (some ⟨gx, B, none⟩)) rfl (fun w' => idxW gx 16 cx B a2 w' _ _ rfl rfl rfl) ?_
                    simp only [Act.put, List.setIfInBounds_toArray, List.set_cons_zero, List.set_cons_succ]
                    refine storeL .u32 (qB (f A) (f B) (f C) (f D)) gx B 22 _ _ rfl rfl rfl rfl (by rw [(K.get _ _ _ _ List.mem_cons_self).cell B a2]; rfl) ((K.get _ _ _ _ List.mem_cons_self).free B a2) (by kernel_rfl) ?_
                    simp only [Act.put]
                    replace K := K.setCell [(G, .u32, 4, hqt (quad (f A) (f B) (f C) (f D))), (gs, .u32, 16, hst k c n)] gx .u32 16 (upd (f) A (qA (f A) (f B) (f C) (f D))) B a2 (qB (f A) (f B) (f C) (f D)) List.mem_cons_self (fun p hp => List.mem_cons_of_mem _ hp) (fun p hp => by rcases List.mem_cons.1 hp with rfl | hp; simp only; omega; obtain rfl := List.mem_singleton.1 hp; simp only; omega) (by omega)
                    generalize w6.setCell ⟨gx, B, none⟩ (.int .u32 (qB (f A) (f B) (f C) (f D))) = w7 at K ⊢
                    show Exit.then _ _ _ _ _
                    go_upto_region 28 with fail
                    refine wp_region_list ?_
                    refine pureL (.slice (some ⟨gx, 0, none⟩) 16 cx) rfl (fun _ => by kernel_rfl) ?_
                    simp only [Act.put, List.setIfInBounds_toArray, List.set_cons_zero, List.set_cons_succ]
                    refine pureL (.int .i64 (C : Int)) rfl (fun _ => by kernel_rfl) ?_
                    simp only [Act.put, List.setIfInBounds_toArray, List.set_cons_zero, List.set_cons_succ]
                    refine pureL (.pointer (some ⟨G, 2, none⟩)) rfl (fun _ => by kernel_rfl) ?_
                    simp only [Act.put, List.setIfInBounds_toArray, List.set_cons_zero, List.set_cons_succ]
                    refine cellL .u32 (.int .u32 (qC (f A) (f B) (f C) (f D))) G 2 22 _ rfl rfl rfl Tryd.underlying22 ((K.get _ _ _ _ (List.mem_cons_of_mem _ List.mem_cons_self)).cell 2 (by omega)) ?_
                    simp only [Act.put, List.setIfInBounds_toArray, List.set_cons_zero, List.set_cons_succ]
                    refine pureL (.pointer (some ⟨gx, C, none⟩)) rfl (fun w' => idxW gx 16 cx C a3 w' _ _ rfl rfl rfl) ?_
                    simp only [Act.put, List.setIfInBounds_toArray, List.set_cons_zero, List.set_cons_succ]
                    refine storeL .u32 (qC (f A) (f B) (f C) (f D)) gx C 22 _ _ rfl rfl rfl rfl (by rw [(K.get _ _ _ _ List.mem_cons_self).cell C a3]; rfl) ((K.get _ _ _ _ List.mem_cons_self).free C a3) (by kernel_rfl) ?_
                    simp only [Act.put]
                    replace K := K.setCell [(G, .u32, 4, hqt (quad (f A) (f B) (f C) (f D))), (gs, .u32, 16, hst k c n)] gx .u32 16 (upd (upd (f) A (qA (f A) (f B) (f C) (f D))) B (qB (f A) (f B) (f C) (f D))) C a3 (qC (f A) (f B) (f C) (f D)) List.mem_cons_self (fun p hp => List.mem_cons_of_mem _ hp) (fun p hp => by rcases List.mem_cons.1 hp with rfl | hp; simp only; omega; obtain rfl := List.mem_singleton.1 hp; simp only; omega) (by omega)
                    generalize w7.setCell ⟨gx, C, none⟩ (.int .u32 (qC (f A) (f B) (f C) (f D))) = w8 at K ⊢
                    show Exit.then _ _ _ _ _
                    go_upto_region 29 with fail
                    refine wp_region_list ?_
                    refine pureL (.slice (some ⟨gx, 0, none⟩) 16 cx) rfl (fun _ => by kernel_rfl) ?_
                    simp only [Act.put, List.setIfInBounds_toArray, List.set_cons_zero, List.set_cons_succ]
                    refine pureL (.int .i64 (D : Int)) rfl (fun _ => by kernel_rfl) ?_
                    simp only [Act.put, List.setIfInBounds_toArray, List.set_cons_zero, List.set_cons_succ]
                    refine pureL (.pointer (some ⟨G, 3, none⟩)) rfl (fun _ => by kernel_rfl) ?_
                    simp only [Act.put, List.setIfInBounds_toArray, List.set_cons_zero, List.set_cons_succ]
                    refine cellL .u32 (.int .u32 (qD (f A) (f B) (f C) (f D))) G 3 22 _ rfl rfl rfl Tryd.underlying22 ((K.get _ _ _ _ (List.mem_cons_of_mem _ List.mem_cons_self)).cell 3 (by omega)) ?_
                    simp only [Act.put, List.setIfInBounds_toArray, List.set_cons_zero, List.set_cons_succ]
                    refine pureL (.pointer (some ⟨gx, D, none⟩)) rfl (fun w' => idxW gx 16 cx D a4 w' _ _ rfl rfl rfl) ?_
                    simp only [Act.put, List.setIfInBounds_toArray, List.set_cons_zero, List.set_cons_succ]
                    refine storeL .u32 (qD (f A) (f B) (f C) (f D)) gx D 22 _ _ rfl rfl rfl rfl (by rw [(K.get _ _ _ _ List.mem_cons_self).cell D a4]; rfl) ((K.get _ _ _ _ List.mem_cons_self).free D a4) (by kernel_rfl) ?_
                    simp only [Act.put]
                    replace K := K.setCell [(G, .u32, 4, hqt (quad (f A) (f B) (f C) (f D))), (gs, .u32, 16, hst k c n)] gx .u32 16 (upd (upd (upd (f) A (qA (f A) (f B) (f C) (f D))) B (qB (f A) (f B) (f C) (f D))) C (qC (f A) (f B) (f C) (f D))) D a4 (qD (f A) (f B) (f C) (f D)) List.mem_cons_self (fun p hp => List.mem_cons_of_mem _ hp) (fun p hp => by rcases List.mem_cons.1 hp with rfl | hp; simp only; omega; obtain rfl := List.mem_singleton.1 hp; simp only; omega) (by omega)
                    generalize w8.setCell ⟨gx, D, none⟩ (.int .u32 (qD (f A) (f B) (f C) (f D))) = w9 at K ⊢
                    show Exit.inBlock _ _ _ _ _
                    rw [← HT.out] at K
                    replace K := K.back [(gx, .u32, 16, tN F (j + 1)), (gs, .u32, 16, hst k c n)] M (fun p hp => by rcases List.mem_cons.1 hp with rfl | hp; exact List.mem_cons_self; exact List.mem_cons_of_mem _ (List.mem_cons_of_mem _ hp)) (fun p hp => by rcases List.mem_cons.1 hp with rfl | hp; simp only; omega; obtain rfl := List.mem_singleton.1 hp; simp only; omega) (fun q hq => by obtain rfl := List.mem_singleton.1 hq; simp only; omega) (by omega) hM5
                    have HS := show Hid _ from K
                    clear K HT a1 a2 a3 a4
                    go_wp2
                    go_roundw
                    case rel => first | exact ⟨j + 1, by omega, by go_num, HS.out⟩ | ((repeat apply Exists.intro); refine ⟨⟨j + 1, by omega, ?_, HS.out⟩, rfl⟩ <;> first | rfl | go_num)
                    case measure => simp [intOf]; omega
                · obtain rfl : j = 8 := by omega
                  rw [← HF.out] at K
                  have HS := show Hid _ from K
                  clear K HF
                  go_wp2
                  go_roundw
                  case rel => first | exact ⟨t + 1, by omega, by go_num, HS.out⟩ | ((repeat apply Exists.intro); refine ⟨⟨t + 1, by omega, ?_, HS.out⟩, rfl⟩ <;> first | rfl | go_num)
                  case measure => simp [intOf]; omega
            · obtain rfl : t = 10 := by omega
              clear hlt ht g1
              go_upto_region 30 with fail
              refine wp_region_list ?_
              refine pureL (.agg (row .u8 64 (fun _ => 0)).toArray) rfl (fun _ => by kernel_rfl) ?_
              simp only [Act.put, List.setIfInBounds_toArray, List.set_cons_zero, List.set_cons_succ]
              refine allocL #[.int .u8 0, .int .u8 0, .int .u8 0, .int .u8 0, .int .u8 0, .int .u8 0, .int .u8 0, .int .u8 0, .int .u8 0, .int .u8 0, .int .u8 0, .int .u8 0, .int .u8 0, .int .u8 0, .int .u8 0, .int .u8 0, .int .u8 0, .int .u8 0, .int .u8 0, .int .u8 0, .int .u8 0, .int .u8 0, .int .u8 0, .int .u8 0, .int .u8 0, .int .u8 0, .int .u8 0, .int .u8 0, .int .u8 0, .int .u8 0, .int .u8 0, .int .u8 0, .int .u8 0, .int .u8 0, .int .u8 0, .int .u8 0, .int .u8 0, .int .u8 0, .int .u8 0, .int .u8 0, .int .u8 0, .int .u8 0, .int .u8 0, .int .u8 0, .int .u8 0, .int .u8 0, .int .u8 0, .int .u8 0, .int .u8 0, .int .u8 0, .int .u8 0, .int .u8 0, .int .u8 0, .int .u8 0, .int .u8 0, .int .u8 0, .int .u8 0, .int .u8 0, .int .u8 0, .int .u8 0, .int .u8 0, .int .u8 0, .int .u8 0, .int .u8 0] 31 rfl (fun _ => by kernel_rfl) ?_
              simp only [Act.put, List.setIfInBounds_toArray, List.set_cons_zero, List.set_cons_succ]
              refine storesL .u8 64 (fun _ => 0) wr.heap.size 31 _ _ rfl rfl rfl rfl (room_of (hb_zero _ _ _ rfl).there) (hb_info' _) ?_
              simp only [Act.put]
              have z1 := K.size
              replace K := K.fresh .u8 64 (fun _ => 0) #[.int .u8 0, .int .u8 0, .int .u8 0, .int .u8 0, .int .u8 0, .int .u8 0, .int .u8 0, .int .u8 0, .int .u8 0, .int .u8 0, .int .u8 0, .int .u8 0, .int .u8 0, .int .u8 0, .int .u8 0, .int .u8 0, .int .u8 0, .int .u8 0, .int .u8 0, .int .u8 0, .int .u8 0, .int .u8 0, .int .u8 0, .int .u8 0, .int .u8 0, .int .u8 0, .int .u8 0, .int .u8 0, .int .u8 0, .int .u8 0, .int .u8 0, .int .u8 0, .int .u8 0, .int .u8 0, .int .u8 0, .int .u8 0, .int .u8 0, .int .u8 0, .int .u8 0, .int .u8 0, .int .u8 0, .int .u8 0, .int .u8 0, .int .u8 0, .int .u8 0, .int .u8 0, .int .u8 0, .int .u8 0, .int .u8 0, .int .u8 0, .int .u8 0, .int .u8 0, .int .u8 0, .int .u8 0, .int .u8 0, .int .u8 0, .int .u8 0, .int .u8 0, .int .u8 0, .int .u8 0, .int .u8 0, .int .u8 0, .int .u8 0, .int .u8 0] 31 (hb_zero _ _ _ rfl).there
              generalize ((wr.alloc (.cells #[.int .u8 0, .int .u8 0, .int .u8 0, .int .u8 0, .int .u8 0, .int .u8 0, .int .u8 0, .int .u8 0, .int .u8 0, .int .u8 0, .int .u8 0, .int .u8 0, .int .u8 0, .int .u8 0, .int .u8 0, .int .u8 0, .int .u8 0, .int .u8 0, .int .u8 0, .int .u8 0, .int .u8 0, .int .u8 0, .int .u8 0, .int .u8 0, .int .u8 0, .int .u8 0, .int .u8 0, .int .u8 0, .int .u8 0, .int .u8 0, .int .u8 0, .int .u8 0, .int .u8 0, .int .u8 0, .int .u8 0, .int .u8 0, .int .u8 0, .int .u8 0, .int .u8 0, .int .u8 0, .int .u8 0, .int .u8 0, .int .u8 0, .int .u8 0, .int .u8 0, .int .u8 0, .int .u8 0, .int .u8 0, .int .u8 0, .int .u8 0, .int .u8 0, .int .u8 0, .int .u8 0, .int .u8 0, .int .u8 0, .int .u8 0, .int .u8 0, .int .u8 0, .int .u8 0, .int .u8 0, .int .u8 0, .int .u8 0, .int .u8 0, .int .u8 0] 31)).setCells wr.heap.size 0 (row .u8 64 (fun _ => 0))) = w4 at K ⊢
              generalize wr.heap.size = O at *
              show Exit.then _ _ _ _ _
              go_wp2
              go_loopw [20] (fun i w' => ∃ (i' : Nat) (g : Nat → Int), i' ≤ 16 ∧ i = .int .i64 i' ∧ Kr w (O + 1) [(O, .u8, 64, g), (gx, .u32, 16, drN (hst k c n) 10), (gs, .u32, 16, hst k c n)] [(w.heap.size + 1 + 1, 64)] w' ∧ ∀ j, j < 4 * i' → g j = hblk k c n j) (fun i _ => 16 - (intOf i).toNat)
              case atStart => exact ⟨0, _, by omega, rfl, K, fun j hj => by omega⟩
              case round =>
                clear K
                obtain ⟨i, g, hi, rfl, K, hd⟩ := hrel
                have g1 : (0 : Int) ≤ (i : Int) := by omega
                by_cases hlt : i < 16
                · have g2 : (i : Int) < 16 := by omega
                  go_upto_region 34 with fail
                  refine wp_region_held_drew (S := fun w' => Kr w (O + 1) [(O, .u8, 64, g), (gx, .u32, 16, drN (hst k c n) 10), (gs, .u32, 16, hst k c n)] [(w.heap.size + 1 + 1, 64)] w') (by kernel_rfl) K.drew ?_
                  clear K
                  intro K
                  refine pureH (i := 0) (some 131) rfl (.slice (some ⟨gx, 0, none⟩) 16 cx) rfl rfl (fun _ => by kernel_rfl) (by kernel_rfl) (by kernel_rfl) (by kernel_rfl) (fun _ _ _ h => h) K ?_
                  simp only [Act.put, List.setIfInBounds_toArray, List.set_cons_zero, List.set_cons_succ]
                  refine pureH (i := 1) (some 132) rfl (.int .i64 (i : Int)) rfl rfl (fun _ => by kernel_rfl) (by kernel_rfl) (by kernel_rfl) (by kernel_rfl) (fun _ _ _ h => h) K ?_
                  simp only [Act.put, List.setIfInBounds_toArray, List.set_cons_zero, List.set_cons_succ]
                  refine pureH (i := 2) (some 133) rfl (.pointer (some ⟨gx, i, none⟩)) rfl rfl (fun w' => idxW gx 16 cx i hlt w' _ _ rfl rfl rfl) (by kernel_rfl) (by kernel_rfl) (by kernel_rfl) (fun _ _ _ h => h) K ?_
                  simp only [Act.put, List.setIfInBounds_toArray, List.set_cons_zero, List.set_cons_succ]
                  refine cellH (i := 3) (some 134) rfl .u32 (.int .u32 (drN (hst k c n) 10 i)) gx i 22 _ rfl rfl rfl rfl (by kernel_rfl) (by kernel_rfl) (by kernel_rfl) (fun _ _ _ h => h) Tryd.underlying22 K (fun _ h => (h.get _ _ _ _ (List.mem_cons_of_mem _ List.mem_cons_self)).cell i hlt) ?_
                  simp only [Act.put, List.setIfInBounds_toArray, List.set_cons_zero, List.set_cons_succ]
                  refine pureH (i := 4) (some 135) rfl (.slice (some ⟨gs, 0, none⟩) 16 cs) rfl rfl (fun _ => by kernel_rfl) (by kernel_rfl) (by kernel_rfl) (by kernel_rfl) (fun _ _ _ h => h) K ?_
                  simp only [Act.put, List.setIfInBounds_toArray, List.set_cons_zero, List.set_cons_succ]
                  refine pureH (i := 5) (some 136) rfl (.int .i64 (i : Int)) rfl rfl (fun _ => by kernel_rfl) (by kernel_rfl) (by kernel_rfl) (by kernel_rfl) (fun _ _ _ h => h) K ?_
                  simp only [Act.put, List.setIfInBounds_toArray, List.set_cons_zero, List.set_cons_succ]
                  refine pureH (i := 6) (some 137) rfl (.pointer (some ⟨gs, i, none⟩)) rfl rfl (fun w' => idxW gs 16 cs i hlt w' _ _ rfl rfl rfl) (by kernel_rfl) (by kernel_rfl) (by kernel_rfl) (fun _ _ _ h => h) K ?_
                  simp only [Act.put, List.setIfInBounds_toArray, List.set_cons_zero, List.set_cons_succ]
                  refine cellH (i := 7) (some 138) rfl .u32 (.int .u32 (hst k c n i)) gs i 22 _ rfl rfl rfl rfl (by kernel_rfl) (by kernel_rfl) (by kernel_rfl) (fun _ _ _ h => h) Tryd.underlying22 K (fun _ h => (h.get _ _ _ _ (List.mem_cons_of_mem _ (List.mem_cons_of_mem _ List.mem_cons_self))).cell i hlt) ?_
                  simp only [Act.put, List.setIfInBounds_toArray, List.set_cons_zero, List.set_cons_succ]
                  refine pureH (i := 8) (some 139) rfl (.int .u32 (hwd k c n i)) rfl rfl (fun w => addI .u32 (drN (hst k c n) 10 i) (hst k c n i) _ _ _ _ _ rfl rfl rfl (by rw [IntKind.wrap_u32']; rfl) w) (by kernel_rfl) (by kernel_rfl) (by kernel_rfl) (fun _ _ _ h => h) K ?_
                  simp only [Act.put, List.setIfInBounds_toArray, List.set_cons_zero, List.set_cons_succ]
                  refine pureH (i := 9) (some 21) rfl (.int .u32 (hwd k c n i)) rfl rfl (fun _ => by kernel_rfl) (by kernel_rfl) (by kernel_rfl) (by kernel_rfl) (fun _ _ _ h => h) K ?_
                  simp only [Act.put, List.setIfInBounds_toArray, List.set_cons_zero, List.set_cons_succ]
                  refine wpAnyH_done (by kernel_rfl) ?_ _
                  generalize wr.drew = w5 at K ⊢
                  obtain ⟨X, hX⟩ : ∃ X, hwd k c n i = X := ⟨_, rfl⟩
                  have HX := show Hid _ from hX
                  rw [hX]
                  clear hX
                  go_wp2
                  go_loopw [22] (fun v w' => ∃ (e : Nat) (g : Nat → Int), e ≤ 4 ∧ v = .int .i64 e ∧ Kr w (O + 1) [(O, .u8, 64, g), (gx, .u32, 16, drN (hst k c n) 10), (gs, .u32, 16, hst k c n)] [(w.heap.size + 1 + 1, 64)] w' ∧ ∀ j, j < 4 * i + e → g j = hblk k c n j) (fun v _ => 4 - (intOf v).toNat)
                  case atStart => exact ⟨0, g, by omega, rfl, K, hd⟩
                  case round =>
                    clear K hd
                    obtain ⟨e, g, he, rfl, K, hd⟩ := hrel
                    have g3 : (0 : Int) ≤ (e : Int) := by omega
                    by_cases hlt2 : e < 4
                    · have g4 : (e : Int) < 4 := by omega
                      have hp : 4 * i + e < 64 := by omega
                      have e1 : IntKind.i64.wrap (4 * (i : Int)) = ((4 * i : Nat) : Int) := by rw [IntKind.wrap_i64]; omega
                      have e2 : IntKind.i64.wrap (((4 * i : Nat) : Int) + (e : Int)) = ((4 * i + e : Nat) : Int) := by rw [IntKind.wrap_i64]; omega
                      have e3 : IntKind.i64.wrap (8 * (e : Int)) = ((8 * e : Nat) : Int) := by rw [IntKind.wrap_i64]; omega
                      have e4 : X / 2 ^ min (((8 * e : Nat) : Int)).toNat IntKind.u32.bits = X / 2 ^ (8 * e) := by rw [Int.toNat_natCast, Nat.min_eq_left (show 8 * e ≤ IntKind.u32.bits by show 8 * e ≤ 32; omega)]
                      have e5 := b32_shr X e hlt2
                      have hv : b32 X e = hblk k c n (4 * i + e) := by unfold hblk; rw [show (4 * i + e) / 4 = i by omega, show (4 * i + e) % 4 = e by omega, HX.out]
                      go_upto_region 38 with fail
                      refine wp_region_list ?_
                      refine pureL (.int .i64 (i : Int)) rfl (fun _ => by kernel_rfl) ?_
                      simp only [Act.put, List.setIfInBounds_toArray, List.set_cons_zero, List.set_cons_succ]
                      refine pureL (.int .i64 ((4 * i : Nat) : Int)) rfl (fun w => mulI .i64 4 (i : Int) _ _ _ _ _ rfl rfl rfl e1 w) ?_
                      simp only [Act.put, List.setIfInBounds_toArray, List.set_cons_zero, List.set_cons_succ]
                      refine pureL (.int .i64 (e : Int)) rfl (fun _ => by kernel_rfl) ?_
                      simp only [Act.put, List.setIfInBounds_toArray, List.set_cons_zero, List.set_cons_succ]
                      refine pureL (.int .i64 ((4 * i + e : Nat) : Int)) rfl (fun w => addI .i64 _ _ _ _ _ _ _ rfl rfl rfl e2 w) ?_
                      simp only [Act.put, List.setIfInBounds_toArray, List.set_cons_zero, List.set_cons_succ]
                      refine pureL (.int .u32 X) rfl (fun _ => by kernel_rfl) ?_
                      simp only [Act.put, List.setIfInBounds_toArray, List.set_cons_zero, List.set_cons_succ]
                      refine pureL (.int .i64 (e : Int)) rfl (fun _ => by kernel_rfl) ?_
                      simp only [Act.put, List.setIfInBounds_toArray, List.set_cons_zero, List.set_cons_succ]
                      refine pureL (.int .i64 ((8 * e : Nat) : Int)) rfl (fun w => mulI .i64 8 (e : Int) _ _ _ _ _ rfl rfl rfl e3 w) ?_
                      simp only [Act.put, List.setIfInBounds_toArray, List.set_cons_zero, List.set_cons_succ]
                      refine pureL (.int .u32 (X / 2 ^ (8 * e))) rfl (fun w => shrI .u32 .i64 _ _ _ _ _ _ _ rfl rfl rfl (by omega) e4 w) ?_
                      simp only [Act.put, List.setIfInBounds_toArray, List.set_cons_zero, List.set_cons_succ]
                      refine pureL (.int .u8 (b32 X e)) rfl (fun w => convI .u32 .u8 _ _ _ _ _ rfl (by kernel_rfl) Tryd.underlying5 (by kernel_rfl) rfl e5 w) ?_
                      simp only [Act.put, List.setIfInBounds_toArray, List.set_cons_zero, List.set_cons_succ]
                      refine pureL (.pointer (some ⟨O, 4 * i + e, none⟩)) rfl (fun w' => idxB O (4 * i + e) hp w' _ _ rfl rfl rfl) ?_
                      simp only [Act.put, List.setIfInBounds_toArray, List.set_cons_zero, List.set_cons_succ]
                      refine storeL .u8 (b32 X e) O (4 * i + e) 5 _ _ rfl rfl rfl rfl (by rw [(K.get _ _ _ _ List.mem_cons_self).cell _ hp]; rfl) ((K.get _ _ _ _ List.mem_cons_self).free _ hp) (by kernel_rfl) ?_
                      simp only [Act.put]
                      replace K := K.setCell [(gx, .u32, 16, drN (hst k c n) 10), (gs, .u32, 16, hst k c n)] O .u8 64 g (4 * i + e) hp (b32 X e) List.mem_cons_self (fun p hp => List.mem_cons_of_mem _ hp) (fun p hp => by rcases List.mem_cons.1 hp with rfl | hp; simp only; omega; obtain rfl := List.mem_singleton.1 hp; simp only; omega) (by omega)
                      have HS := show Hid _ from (And.intro K (show ∀ j, j < 4 * i + (e + 1) → upd g (4 * i + e) (b32 X e) j = hblk k c n j from fun j hj => by
                        by_cases ej : j = 4 * i + e
                        · subst ej; rw [upd_same, hv]
                        · rw [upd_other _ _ _ _ ej]; exact hd j (by omega)))
                      clear K hd e1 e2 e3 e4 e5 hv hp
                      generalize wr.setCell ⟨O, 4 * i + e, none⟩ (.int .u8 (b32 X e)) = w6 at HS ⊢
                      show Exit.inBlock _ _ _ _ _
                      go_wp2
                      go_roundw
                      case rel => first | exact ⟨e + 1, _, by omega, by go_num, HS.out⟩ | ((repeat apply Exists.intro); refine ⟨⟨e + 1, _, by omega, ?_, HS.out⟩, rfl⟩ <;> first | rfl | go_num)
                      case measure => simp [intOf]; omega
                    · obtain rfl : e = 4 := by omega
                      have HS := show Hid _ from (And.intro K (show ∀ j, j < 4 * (i + 1) → g j = hblk k c n j from fun j hj => hd j (by omega)))
                      clear K hd HX
                      go_wp2
                      go_roundw
                      case rel => first | exact ⟨i + 1, _, by omega, by go_num, HS.out⟩ | ((repeat apply Exists.intro); refine ⟨⟨i + 1, _, by omega, ?_, HS.out⟩, rfl⟩ <;> first | rfl | go_num)
                      case measure => simp [intOf]; omega
                · obtain rfl : i = 16 := by omega
                  have h1 := (K.get _ _ _ _ List.mem_cons_self).congr (g := hblk k c n) (fun j hj => hd j (by omega))
                  have hz := (K.room _ List.mem_cons_self).1
                  have hB := (K.fill _ _ List.mem_cons_self (row .u8 64 (hblk k c n))).below
                  clear K hd hlt hi g1
                  generalize hf : hblk k c n = f at *
                  go_wp2_with (first | (refine wpList_load_mid rfl 31 _ rfl (O) 0 rfl (row .u8 64 (f)) _ (Has.range (h1)) Tryd.underlying31 rfl (hb_info _) ?_) | (refine wpList_store_mid rfl 31 _ _ rfl (w.heap.size + 1 + 1) 0 (row .u8 64 f).toArray rfl rfl (room_of hz) (hb_info' _) (all_oneCell_toArray (row_one _ _ _)) ?_))
                  exact bodyPost_ret (v := (.agg (row .u8 64 (f)).toArray)) (results_row Tryd.results13 rfl (Has.all hz .u8 _).range Tryd.underlying31 rfl (hb_info _)) rfl ⟨by first | rfl | rw [hf], hB⟩
end Go.Proofs.YtldebgblkaaojaaDoor
