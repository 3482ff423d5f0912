/- What Xor answers: bytes with the stream laid over them. -/
import Derived.Test.YtldebgblkaaojaaDoorHf
import Derived.Laws.MakeOwn
namespace Go.Proofs.YtldebgblkaaojaaDoor
open Go.RowKit

theorem made8 (n : Nat) (hn : n ≤ 281474976710656) (w : World) : (Instr.makeSlice 36 (.int .i64 (n : Int)) (.int .i64 (n : Int))).run Tryd.prog w = .ok (.slice (some ⟨w.heap.size, 0, none⟩) n n) (w.alloc (.cells (row .u8 n (fun _ => 0)).toArray 5)) := by
  have h0 : (Tryd.prog.info? 5).map (fun i => (i.zero, i.bytes, i.size)) = some (some (.int .u8 0), 1, 1) := by kernel_rfl
  obtain ⟨i, hi, he⟩ := Option.map_eq_some_iff.1 h0
  simp only [Prod.mk.injEq] at he
  obtain ⟨h1, h2, h3⟩ := he
  rw [run_make w 36 5 i _ Tryd.underlying36 hi h1 .i64 .i64 n n (by omega) (by omega) (by rw [h2]; omega) (by omega), h3]
  simp only [Int.toNat_natCast, Nat.mul_one]
  have e : madeCells (Value.int .u8 0).cells n = (row .u8 n (fun _ => 0)).toArray := by
    refine Array.toList_inj.1 ?_
    unfold madeCells row
    simp [Value.cells, Nat.mod_one]
  rw [e]
theorem makeOp {P : Program} {o : Oper} {a : Act} {w w' : World} (t : TypeId) (x y : Operand) (p q v : Value) (ho : o.op = .makeSlice t x y) (hx : a.eval x = p) (hy : a.eval y = q) (hr : (Instr.makeSlice t p q).run P w = .ok v w') :
    (execOp a.eval o).run P w = .ok (.value v) w' := by
  unfold execOp
  simp only [ho, hx, hy, Sem.run_bind, hr, Result.andThen_ok, Sem.run_pure]
theorem idx64 (b i : Nat) (hi : i < 64) (w : World) {o : Oper} {a : Act} (x y : Operand) (ho : o.op = .indexAddr 31 x y) (hx : a.eval x = .pointer (some ⟨b, 0, none⟩)) (hy : a.eval y = .int .i64 (i : Int)) :
    (execOp a.eval o).run Tryd.prog w = .ok (.value (.pointer (some ⟨b, i, none⟩))) w := by
  have h := idxArr (P := Tryd.prog) 31 5 64 .i64 b 0 i x y Tryd.underlying31 (fun _ => by kernel_rfl) hi ho hx hy w
  rw [Nat.zero_add] at h
  exact h

theorem idxO (b len cap i : Nat) (hi : i < len) (w : World) {o : Oper} {a : Act} (x y : Operand) (ho : o.op = .indexAddr 36 x y) (hx : a.eval x = .slice (some ⟨b, 0, none⟩) len cap) (hy : a.eval y = .int .i64 (i : Int)) :
    (execOp a.eval o).run Tryd.prog w = .ok (.value (.pointer (some ⟨b, i, none⟩))) w := by
  have h := idxSl (P := Tryd.prog) 36 5 len cap .i64 ⟨b, 0, none⟩ i x y Tryd.underlying36 (fun _ => by kernel_rfl) hi ho hx hy w
  rw [Addr.add_mid, Nat.zero_add] at h
  exact h

/-- The first m bytes are laid over. -/
def HX (k : Nat → Int) (c : Int) (n : Nat → Int) (z : Nat → Int) (O len m : Nat) (g : Nat → Int) (w' : World) : Prop := Has w' O .u8 len g ∧ ∀ j, j < m → g j = hxor k c n z j

set_option maxRecDepth 10000 in
set_option maxHeartbeats 4000000 in
theorem hxor_any (k : Nat → Int) (c : Int) (n : Nat → Int) (hk : In 256 32 k) (hn : In 256 12 n) (hc : 0 ≤ c ∧ c < V) (sp : Option Addr) (len cap : Nat) (hlen : len ≤ 140737488355328) (z : Nat → Int) (w : World) (hg : HGlob w) (hs : Src w sp len z) :
    Calls Tryd.prog 14 #[(.agg (row .u8 32 (k)).toArray), .int .u32 c, (.agg (row .u8 12 (n)).toArray), .slice sp len cap] w fun e w' => ∃ B, e = .returned (.slice (some ⟨B, 0, none⟩) len len) ∧ (w.heap.size ≤ B ∧ B < w'.heap.size ∧ Has w' B .u8 len (hxor k c n z)) ∧ Below w.heap.size w w' := by
  have K := Kr.init w
  replace K := K.box .u8 32 k 28 w.heap.size rfl
  replace K := K.box .u8 12 n 30 (w.heap.size + 1) (by simp)
  go_enter Tryd.func14, Tryd.ntmps14
  go_upto_region 1 with fail
  generalize ((w.alloc (.cells (row .u8 32 k).toArray 28)).alloc (.cells (row .u8 12 n).toArray 30)) = w0 at K ⊢
  refine wp_region_list ?_
  refine pureL (.slice sp len cap) rfl (fun _ => by kernel_rfl) ?_
  simp only [Act.put, List.setIfInBounds_toArray, List.set_cons_zero, List.set_cons_succ]
  refine pureL (.int .i64 (len : Int)) rfl (fun w => lenS _ 36 5 sp len cap rfl Tryd.underlying36 rfl w) ?_
  simp only [Act.put, List.setIfInBounds_toArray, List.set_cons_zero, List.set_cons_succ]
  refine actL (.slice (some ⟨w0.heap.size, 0, none⟩) len len) rfl (makeOp _ _ _ _ _ _ rfl rfl rfl (made8 len (by omega) w0)) ?_
  simp only [Act.put, List.setIfInBounds_toArray, List.set_cons_zero, List.set_cons_succ]
  refine pureL (.slice (some ⟨w0.heap.size, 0, none⟩) len len) rfl (fun _ => by kernel_rfl) ?_
  simp only [Act.put, List.setIfInBounds_toArray, List.set_cons_zero, List.set_cons_succ]
  have z0 := K.size
  have H := Has.new w0 .u8 len (fun _ => 0) 5 w0.heap.size rfl
  replace K := K.make len _ 5 w0.heap.size rfl H.there
  have HI := show HX k c n z w0.heap.size len 0 (fun _ => 0) _ from ⟨H, fun j hj => by omega⟩
  clear H
  generalize (w0.alloc (.cells (row .u8 len (fun _ => 0)).toArray 5)) = w1 at K HI ⊢
  generalize w0.heap.size = O at *
  show Exit.then _ _ _ _ _
  go_wp2
  go_loopw [1, 10] (fun cv i w' => ∃ (t : Nat) (g : Nat → Int), 64 * t < len + 64 ∧ i = .int .i64 (64 * (t : Int)) ∧ cv = .int .u32 ((c + (t : Int)) % 4294967296) ∧ Kr w (O + 1) [(w.heap.size + 1, .u8, 12, n), (w.heap.size, .u8, 32, k)] [(O, len)] w' ∧ HX k c n z O len (min (64 * t) len) g w') (fun _ i _ => len + 64 - (intOf i).toNat)
  case atStart => exact ⟨0, _, by omega, rfl, by rw [show (c + ((0 : Nat) : Int)) % 4294967296 = c by simp only [V] at hc; omega], K, by rw [show min (64 * 0) len = 0 by omega]; exact HI⟩
  case round =>
    clear K HI
    obtain ⟨t, g, ht, rfl, rfl, K, H, hd⟩ := hrel
    obtain ⟨C, hC⟩ : ∃ C, (c + (t : Int)) % 4294967296 = C := ⟨_, rfl⟩
    rw [hC]
    have g1 : (0 : Int) ≤ 64 * (t : Int) := by omega
    by_cases hlt : 64 * t < len
    · have g2 : 64 * (t : Int) < (len : Int) := by omega
      have HCn := show Hid _ from hC
      clear hC
      go_upto_region 5 with fail
      refine wp_region_list ?_
      refine rowKL .u8 32 k w.heap.size 0 28 _ _ rfl rfl rfl Tryd.underlying28 rfl (key_info _) (K.get _ _ _ _ (List.mem_cons_of_mem _ List.mem_cons_self)).range ?_
      simp only [Act.put, List.setIfInBounds_toArray, List.set_cons_zero, List.set_cons_succ]
      refine pureL (.int .u32 C) rfl (fun _ => by kernel_rfl) ?_
      simp only [Act.put, List.setIfInBounds_toArray, List.set_cons_zero, List.set_cons_succ]
      refine rowKL .u8 12 n (w.heap.size + 1) 0 30 _ _ rfl rfl rfl Tryd.underlying30 rfl (hn_info _) (K.get _ _ _ _ List.mem_cons_self).range ?_
      simp only [Act.put, List.setIfInBounds_toArray, List.set_cons_zero, List.set_cons_succ]
      refine callL rfl (fun _ => by kernel_rfl) (hblock_any k C n hk hn _ (hg.below K.below hg.size)) ?_
      rintro e w2 ⟨rfl, l⟩
      have hO := (K.room (O, len) List.mem_cons_self).2.1
      have hsz := K.size
      replace H := H.below l (by omega)
      replace K := K.call l
      clear l
      refine ⟨_, rfl, ?_⟩
      simp only [Act.put, List.setIfInBounds_toArray, List.set_cons_zero, List.set_cons_succ]
      refine allocL #[.int .u8 0, .int .u8 0, .int .u8 0, .int .u8 0, .int .u8 0, .int .u8 0, .int .u8 0, .int .u8 0, .int .u8 0, .int .u8 0, .int .u8 0, .int .u8 0, .int .u8 0, .int .u8 0, .int .u8 0, .int .u8 0, .int .u8 0, .int .u8 0, .int .u8 0, .int .u8 0, .int .u8 0, .int .u8 0, .int .u8 0, .int .u8 0, .int .u8 0, .int .u8 0, .int .u8 0, .int .u8 0, .int .u8 0, .int .u8 0, .int .u8 0, .int .u8 0, .int .u8 0, .int .u8 0, .int .u8 0, .int .u8 0, .int .u8 0, .int .u8 0, .int .u8 0, .int .u8 0, .int .u8 0, .int .u8 0, .int .u8 0, .int .u8 0, .int .u8 0, .int .u8 0, .int .u8 0, .int .u8 0, .int .u8 0, .int .u8 0, .int .u8 0, .int .u8 0, .int .u8 0, .int .u8 0, .int .u8 0, .int .u8 0, .int .u8 0, .int .u8 0, .int .u8 0, .int .u8 0, .int .u8 0, .int .u8 0, .int .u8 0, .int .u8 0] 31 rfl (fun _ => by kernel_rfl) ?_
      simp only [Act.put, List.setIfInBounds_toArray, List.set_cons_zero, List.set_cons_succ]
      refine storesL .u8 64 (hblk k C n) w2.heap.size 31 _ _ rfl rfl rfl rfl (room_of (hb_zero _ _ _ rfl).there) (hb_info' _) ?_
      simp only [Act.put]
      have z2 := K.size
      replace H := (H.alloc (.cells #[.int .u8 0, .int .u8 0, .int .u8 0, .int .u8 0, .int .u8 0, .int .u8 0, .int .u8 0, .int .u8 0, .int .u8 0, .int .u8 0, .int .u8 0, .int .u8 0, .int .u8 0, .int .u8 0, .int .u8 0, .int .u8 0, .int .u8 0, .int .u8 0, .int .u8 0, .int .u8 0, .int .u8 0, .int .u8 0, .int .u8 0, .int .u8 0, .int .u8 0, .int .u8 0, .int .u8 0, .int .u8 0, .int .u8 0, .int .u8 0, .int .u8 0, .int .u8 0, .int .u8 0, .int .u8 0, .int .u8 0, .int .u8 0, .int .u8 0, .int .u8 0, .int .u8 0, .int .u8 0, .int .u8 0, .int .u8 0, .int .u8 0, .int .u8 0, .int .u8 0, .int .u8 0, .int .u8 0, .int .u8 0, .int .u8 0, .int .u8 0, .int .u8 0, .int .u8 0, .int .u8 0, .int .u8 0, .int .u8 0, .int .u8 0, .int .u8 0, .int .u8 0, .int .u8 0, .int .u8 0, .int .u8 0, .int .u8 0, .int .u8 0, .int .u8 0] 31) (by omega)).setAll_other w2.heap.size (by omega) 0 (row .u8 64 (hblk k C n))
      replace K := K.fresh .u8 64 (hblk k C n) #[.int .u8 0, .int .u8 0, .int .u8 0, .int .u8 0, .int .u8 0, .int .u8 0, .int .u8 0, .int .u8 0, .int .u8 0, .int .u8 0, .int .u8 0, .int .u8 0, .int .u8 0, .int .u8 0, .int .u8 0, .int .u8 0, .int .u8 0, .int .u8 0, .int .u8 0, .int .u8 0, .int .u8 0, .int .u8 0, .int .u8 0, .int .u8 0, .int .u8 0, .int .u8 0, .int .u8 0, .int .u8 0, .int .u8 0, .int .u8 0, .int .u8 0, .int .u8 0, .int .u8 0, .int .u8 0, .int .u8 0, .int .u8 0, .int .u8 0, .int .u8 0, .int .u8 0, .int .u8 0, .int .u8 0, .int .u8 0, .int .u8 0, .int .u8 0, .int .u8 0, .int .u8 0, .int .u8 0, .int .u8 0, .int .u8 0, .int .u8 0, .int .u8 0, .int .u8 0, .int .u8 0, .int .u8 0, .int .u8 0, .int .u8 0, .int .u8 0, .int .u8 0, .int .u8 0, .int .u8 0, .int .u8 0, .int .u8 0, .int .u8 0, .int .u8 0] 31 (hb_zero _ _ _ rfl).there
      generalize ((w2.alloc (.cells #[.int .u8 0, .int .u8 0, .int .u8 0, .int .u8 0, .int .u8 0, .int .u8 0, .int .u8 0, .int .u8 0, .int .u8 0, .int .u8 0, .int .u8 0, .int .u8 0, .int .u8 0, .int .u8 0, .int .u8 0, .int .u8 0, .int .u8 0, .int .u8 0, .int .u8 0, .int .u8 0, .int .u8 0, .int .u8 0, .int .u8 0, .int .u8 0, .int .u8 0, .int .u8 0, .int .u8 0, .int .u8 0, .int .u8 0, .int .u8 0, .int .u8 0, .int .u8 0, .int .u8 0, .int .u8 0, .int .u8 0, .int .u8 0, .int .u8 0, .int .u8 0, .int .u8 0, .int .u8 0, .int .u8 0, .int .u8 0, .int .u8 0, .int .u8 0, .int .u8 0, .int .u8 0, .int .u8 0, .int .u8 0, .int .u8 0, .int .u8 0, .int .u8 0, .int .u8 0, .int .u8 0, .int .u8 0, .int .u8 0, .int .u8 0, .int .u8 0, .int .u8 0, .int .u8 0, .int .u8 0, .int .u8 0, .int .u8 0, .int .u8 0, .int .u8 0] 31)).setCells w2.heap.size 0 (row .u8 64 (hblk k C n))) = w3 at K H ⊢
      generalize w2.heap.size = D at *
      clear w2 hsz
      have HX0 := show HX k c n z O len (64 * t) g w3 from ⟨H, fun j hj => hd j (by omega)⟩
      clear H hd
      show Exit.then _ _ _ _ _
      go_wp2
      go_loopw [12] (fun i w' => ∃ (i' : Nat) (g : Nat → Int), 64 * t ≤ i' ∧ i' ≤ min (64 * t + 64) len ∧ i = .int .i64 (i' : Int) ∧ Kr w (D + 1) [(D, .u8, 64, hblk k C n), (w.heap.size + 1, .u8, 12, n), (w.heap.size, .u8, 32, k)] [(O, len)] w' ∧ HX k c n z O len i' g w') (fun i _ => len + 64 - (intOf i).toNat)
      case atStart => exact ⟨64 * t, g, by omega, by omega, by go_num, K, HX0⟩
      case round =>
        clear K HX0
        obtain ⟨i, g, hi0, hi1, rfl, K, H, hd⟩ := hrel
        have g3 : (0 : Int) ≤ (i : Int) := by omega
        obtain ⟨M, hM⟩ : ∃ M : Nat, M = min (64 * t + 64) len := ⟨_, rfl⟩
        have hm : (if (len : Int) < 64 * (t : Int) + 64 then (len : Int) else 64 * (t : Int) + 64) = (M : Int) := by rw [hM]; split <;> omega
        go_upto_region 7 with fail
        refine wp_region_list ?_
        refine pureL (.int .i64 (i : Int)) rfl (fun _ => by kernel_rfl) ?_
        simp only [Act.put, List.setIfInBounds_toArray, List.set_cons_zero, List.set_cons_succ]
        refine pureL (.int .i64 (64 * (t : Int))) rfl (fun _ => by kernel_rfl) ?_
        simp only [Act.put, List.setIfInBounds_toArray, List.set_cons_zero, List.set_cons_succ]
        refine pureL (.int .i64 (64 * (t : Int) + 64)) rfl (fun w => addI .i64 (64 * (t : Int)) 64 _ _ _ _ _ rfl rfl rfl (by rw [IntKind.wrap_i64]; omega) w) ?_
        simp only [Act.put, List.setIfInBounds_toArray, List.set_cons_zero, List.set_cons_succ]
        refine pureL (.slice sp len cap) rfl (fun _ => by kernel_rfl) ?_
        simp only [Act.put, List.setIfInBounds_toArray, List.set_cons_zero, List.set_cons_succ]
        refine pureL (.int .i64 (len : Int)) rfl (fun w => lenS _ 36 5 sp len cap rfl Tryd.underlying36 rfl w) ?_
        simp only [Act.put, List.setIfInBounds_toArray, List.set_cons_zero, List.set_cons_succ]
        refine pureL (.int .i64 (M : Int)) rfl (fun w => minI .i64 .i64 _ _ _ _ _ _ _ rfl rfl rfl hm w) ?_
        simp only [Act.put, List.setIfInBounds_toArray, List.set_cons_zero, List.set_cons_succ]
        refine pureL (.bool (decide ((i : Int) < (M : Int)))) rfl (fun w => lssI .i64 _ _ _ _ _ _ rfl rfl rfl _ rfl w) ?_
        simp only [Act.put, List.setIfInBounds_toArray, List.set_cons_zero, List.set_cons_succ]
        show Exit.then _ _ _ _ _
        by_cases hlt2 : i < M
        · have e2 : decide ((i : Int) < (M : Int)) = true := by simp; omega
          rw [e2]
          have hil : i < len := by omega
          have hit : i - 64 * t < 64 := by omega
          obtain ⟨ad, rfl, ca⟩ := hs i hil
          go_upto_region 9 with fail
          have hv : bits .xor .u8 (z i) (hblk k C n (i - 64 * t)) = hxor k c n z i := by
            unfold hxor
            rw [show i / 64 = t by omega, show i % 64 = i - 64 * t by omega, HCn.out]
          have H2 := show Hid _ from hd
          clear hd
          refine wp_region_held_drew (S := fun w' => Kr w (D + 1) [(D, .u8, 64, hblk k C n), (w.heap.size + 1, .u8, 12, n), (w.heap.size, .u8, 32, k)] [(O, len)] w') (by kernel_rfl) K.drew ?_
          clear K
          intro K
          replace H := H.drew
          refine pureH (i := 0) (some 36) rfl (.slice (some ⟨O, 0, none⟩) len len) rfl rfl (fun _ => by kernel_rfl) (by kernel_rfl) (by kernel_rfl) (by kernel_rfl) (fun _ _ _ h => h) K ?_
          simp only [Act.put, List.setIfInBounds_toArray, List.set_cons_zero, List.set_cons_succ]
          refine pureH (i := 1) (some 37) rfl (.int .i64 (i : Int)) rfl rfl (fun _ => by kernel_rfl) (by kernel_rfl) (by kernel_rfl) (by kernel_rfl) (fun _ _ _ h => h) K ?_
          simp only [Act.put, List.setIfInBounds_toArray, List.set_cons_zero, List.set_cons_succ]
          refine pureH (i := 2) (some 38) rfl (.slice (some ad) len cap) rfl rfl (fun _ => by kernel_rfl) (by kernel_rfl) (by kernel_rfl) (by kernel_rfl) (fun _ _ _ h => h) K ?_
          simp only [Act.put, List.setIfInBounds_toArray, List.set_cons_zero, List.set_cons_succ]
          refine pureH (i := 3) (some 39) rfl (.int .i64 (i : Int)) rfl rfl (fun _ => by kernel_rfl) (by kernel_rfl) (by kernel_rfl) (by kernel_rfl) (fun _ _ _ h => h) K ?_
          simp only [Act.put, List.setIfInBounds_toArray, List.set_cons_zero, List.set_cons_succ]
          refine pureH (i := 4) (some 40) rfl (.pointer (some (ad.add i))) rfl rfl (fun w => idxSl 36 5 len cap .i64 ad i _ _ Tryd.underlying36 (fun _ => by kernel_rfl) hil rfl rfl rfl w) (by kernel_rfl) (by kernel_rfl) (by kernel_rfl) (fun _ _ _ h => h) K ?_
          simp only [Act.put, List.setIfInBounds_toArray, List.set_cons_zero, List.set_cons_succ]
          refine cellPH (i := 5) (some 41) rfl .u8 (.int .u8 (z i)) (ad.add i) 5 _ rfl rfl rfl rfl (by kernel_rfl) (by kernel_rfl) (by kernel_rfl) (fun _ _ _ h => h) Tryd.underlying5 K (fun w' h => by rw [h.below.cell (World.block_lt_of_cell? w _ ca)]; exact ca) ?_
          simp only [Act.put, List.setIfInBounds_toArray, List.set_cons_zero, List.set_cons_succ]
          refine pureH (i := 6) (some 42) rfl (.int .i64 (i : Int)) rfl rfl (fun _ => by kernel_rfl) (by kernel_rfl) (by kernel_rfl) (by kernel_rfl) (fun _ _ _ h => h) K ?_
          simp only [Act.put, List.setIfInBounds_toArray, List.set_cons_zero, List.set_cons_succ]
          refine pureH (i := 7) (some 43) rfl (.int .i64 (64 * (t : Int))) rfl rfl (fun _ => by kernel_rfl) (by kernel_rfl) (by kernel_rfl) (by kernel_rfl) (fun _ _ _ h => h) K ?_
          simp only [Act.put, List.setIfInBounds_toArray, List.set_cons_zero, List.set_cons_succ]
          refine pureH (i := 8) (some 44) rfl (.int .i64 ((i - 64 * t : Nat) : Int)) rfl rfl (fun w => subI .i64 (i : Int) (64 * (t : Int)) _ _ _ _ _ rfl rfl rfl (by rw [IntKind.wrap_i64]; omega) w) (by kernel_rfl) (by kernel_rfl) (by kernel_rfl) (fun _ _ _ h => h) K ?_
          simp only [Act.put, List.setIfInBounds_toArray, List.set_cons_zero, List.set_cons_succ]
          refine pureH (i := 9) (some 45) rfl (.pointer (some ⟨D, i - 64 * t, none⟩)) rfl rfl (fun w => idx64 D (i - 64 * t) hit w _ _ rfl rfl rfl) (by kernel_rfl) (by kernel_rfl) (by kernel_rfl) (fun _ _ _ h => h) K ?_
          simp only [Act.put, List.setIfInBounds_toArray, List.set_cons_zero, List.set_cons_succ]
          refine cellH (i := 10) (some 46) rfl .u8 (.int .u8 (hblk k C n (i - 64 * t))) D (i - 64 * t) 5 _ rfl rfl rfl rfl (by kernel_rfl) (by kernel_rfl) (by kernel_rfl) (fun _ _ _ h => h) Tryd.underlying5 K (fun _ h => (h.get _ _ _ _ List.mem_cons_self).cell (i - 64 * t) hit) ?_
          simp only [Act.put, List.setIfInBounds_toArray, List.set_cons_zero, List.set_cons_succ]
          refine pureH (i := 11) (some 47) rfl (.int .u8 (hxor k c n z i)) rfl rfl (fun w => xorI .u8 _ _ _ _ _ _ _ rfl rfl rfl hv w) (by kernel_rfl) (by kernel_rfl) (by kernel_rfl) (fun _ _ _ h => h) K ?_
          simp only [Act.put, List.setIfInBounds_toArray, List.set_cons_zero, List.set_cons_succ]
          refine pureH (i := 12) (some 48) rfl (.pointer (some ⟨O, i, none⟩)) rfl rfl (fun w => idxO O len len i hil w _ _ rfl rfl rfl) (by kernel_rfl) (by kernel_rfl) (by kernel_rfl) (fun _ _ _ h => h) K ?_
          simp only [Act.put, List.setIfInBounds_toArray, List.set_cons_zero, List.set_cons_succ]
          refine storeH (i := 13) none rfl .u8 (hxor k c n z i) O i 5 _ _ (by kernel_rfl) rfl rfl rfl rfl rfl (by rw [H.cell i hil]; rfl) (H.free i hil) (by kernel_rfl) (K.poke O len List.mem_cons_self i [.int .u8 (hxor k c n z i)]) ?_
          replace K := K.poke O len List.mem_cons_self i [.int .u8 (hxor k c n z i)]
          replace H := H.set i hil (hxor k c n z i)
          simp only [Act.put]
          refine wpAnyH_done (by kernel_rfl) ?_ _
          have HS := show Hid _ from (And.intro K (show HX k c n z O len (i + 1) _ _ from ⟨H, fun j hj => by
            by_cases e : j = i
            · subst e; rw [upd_same]
            · rw [upd_other _ _ _ _ e]; exact H2.out j (by omega)⟩))
          clear K H H2 hv ca hs e2
          go_wp2
          go_roundw
          case rel => first | exact ⟨i + 1, _, by omega, by omega, by go_num, HS.out⟩ | ((repeat apply Exists.intro); refine ⟨⟨i + 1, _, by omega, by omega, ?_, HS.out⟩, rfl⟩ <;> first | rfl | go_num)
          case measure => simp [intOf]; omega
        · have e2 : decide ((i : Int) < (M : Int)) = false := by simp; omega
          rw [e2]
          obtain rfl : i = M := by omega
          have K0 := K.back [(w.heap.size + 1, .u8, 12, n), (w.heap.size, .u8, 32, k)] (O + 1) (fun p hp => List.mem_cons_of_mem _ hp) (fun p hp => by
            rcases List.mem_cons.1 hp with rfl | hp
            · simp only; omega
            · obtain rfl := List.mem_singleton.1 hp; simp only; omega) (fun q hq => by obtain rfl := List.mem_singleton.1 hq; simp only; omega) (by omega) (by omega)
          have HS := show Hid _ from (And.intro K0 (show HX k c n z O len (min (64 * (t + 1)) len) g wr from ⟨H, fun j hj => hd j (by omega)⟩))
          have HC2 := show Hid _ from (show (C + 1) % 4294967296 = (c + ((t + 1 : Nat) : Int)) % 4294967296 by rw [← HCn.out]; omega)
          clear K K0 H hd HCn hs hlt2 hM hm
          go_wp2
          go_roundw
          case rel => first | exact ⟨t + 1, g, by omega, by go_num, by rw [HC2.out], HS.out⟩ | ((repeat apply Exists.intro); refine ⟨⟨t + 1, g, by omega, ?_, ?_, HS.out⟩, rfl⟩ <;> first | rfl | go_num | rw [HC2.out])
          case measure => simp [intOf]; omega
    · obtain ⟨e1, hall⟩ : min (64 * t) len = len ∧ len ≤ 64 * t := by omega
      rw [e1] at hd
      have HS := show Hid _ from (H.congr (g := hxor k c n z) (fun j hj => hd j hj))
      have hlo := (K.room (O, len) List.mem_cons_self).2
      have hsz := K.size
      have hbl := K.below
      have g2 : ¬ 64 * (t : Int) < (len : Int) := by omega
      clear K H hd hlt hC
      go_wp2
      go_ret
      exact ⟨O, rfl, ⟨hlo.2, by omega, HS.out⟩, hbl⟩
end Go.Proofs.YtldebgblkaaojaaDoor
