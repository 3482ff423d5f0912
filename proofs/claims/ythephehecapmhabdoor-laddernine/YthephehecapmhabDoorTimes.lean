/- What Times answers: the ladder's own number. -/
import Derived.Test.YthephehecapmhabDoorTrim
namespace Go.Proofs.YthephehecapmhabDoor
open Go.RowKit

/-- Bit t of a secret. -/
def kbit (k : Nat → Int) (t : Nat) : Bool := decide (k (t / 8) / 2 ^ (t % 8) % 2 = 1)
/-- A point without its highest bit. -/
def mask (u : Nat → Int) : Nat → Int := upd u 31 (u 31 % 128)
theorem mask_in (u : Nat → Int) (h : In 256 32 u) : In 256 32 (mask u) := h.upd 31 _ (by have := h 31 (by omega); omega) (by have := h 31 (by omega); omega)
/-- What is to be answered. -/
def tm (k u : Nat → Int) : Fin QN := Ed.out inz (Ed.run cz (kz (mask u)) (kbit (trim k)) 255)

theorem sel_kz (bit : Int) (a b : Nat → Int) : kz (sel bit a b) = if bit % 2 = 1 then kz b else kz a := by unfold sel; split <;> rfl
theorem sel_swap (bit : Int) (a b c d : Nat → Int) : stz (sel bit a c) (sel bit b d) (sel bit c a) (sel bit d b) = Ed.swap (decide (bit % 2 = 1)) (stz a b c d) := by
  unfold stz Ed.swap
  rw [sel_kz, sel_kz, sel_kz, sel_kz]
  by_cases h : bit % 2 = 1
  · simp [h]
  · simp [h]
theorem start_stz (u : Nat → Int) : stz (one 1) (one 0) u (one 1) = ⟨1, 0, kz u, 1⟩ := by
  unfold stz
  have e1 : kz (one 1) = 1 := by unfold kz; rw [val_byte]; decide +kernel
  have e0 : kz (one 0) = 0 := by unfold kz; rw [val_byte]; decide +kernel
  rw [e1, e0]

set_option maxRecDepth 10000 in
set_option maxHeartbeats 4000000 in
theorem times_any (k u : Nat → Int) (hk : In 256 32 k) (hu : In 256 32 u) (w : World) (hg : Glob w) (ht : Trs w) :
    Calls Tryd.prog 6 #[(.agg (row .u8 32 (k)).toArray), (.agg (row .u8 32 (u)).toArray)] w fun e w' => ∃ f : Nat → Int, e = .returned (.agg (row .u8 32 (f)).toArray) ∧ (In 256 32 f ∧ val 256 f 32 = ((tm k u).val : Int)) ∧ Below w.heap.size w w' := by
  have K := Kq.init w
  replace K := K.box 32 k 23 (w.heap.size) rfl
  replace K := K.box 32 u 23 (w.heap.size + 1) (by simp)
  replace K := K.make 32 #[.int .u8 0, .int .u8 0, .int .u8 0, .int .u8 0, .int .u8 0, .int .u8 0, .int .u8 0, .int .u8 0, .int .u8 0, .int .u8 0, .int .u8 0, .int .u8 0, .int .u8 0, .int .u8 0, .int .u8 0, .int .u8 0, .int .u8 0, .int .u8 0, .int .u8 0, .int .u8 0, .int .u8 0, .int .u8 0, .int .u8 0, .int .u8 0, .int .u8 0, .int .u8 0, .int .u8 0, .int .u8 0, .int .u8 0, .int .u8 0, .int .u8 0, .int .u8 0] 23 (w.heap.size + 1 + 1) (by simp) (key_zero _ _ _ (by simp)).there
  go_enter Tryd.func6, Tryd.ntmps6
  go_upto_region 1 with fail
  refine wp_region_list ?_
  refine rowAtL 32 k (w.heap.size) 0 23 _ _ rfl rfl rfl Tryd.underlying23 rfl (key_info _) (K.whole _ _ (List.mem_cons_of_mem _ List.mem_cons_self)) ?_
  simp only [Act.put, List.setIfInBounds_toArray, List.set_cons_zero, List.set_cons_succ]
  refine callL rfl (fun _ => by kernel_rfl) (trim_any k hk _ (ht.below K.below hg.size) (Nat.le_trans hg.size (Nat.le_trans K.base K.size))) ?_
  rintro e w1 ⟨rfl, l⟩
  replace K := K.call l
  clear l
  refine ⟨_, rfl, ?_⟩
  simp only [Act.put, List.setIfInBounds_toArray, List.set_cons_zero, List.set_cons_succ]
  refine allocL #[.int .u8 0, .int .u8 0, .int .u8 0, .int .u8 0, .int .u8 0, .int .u8 0, .int .u8 0, .int .u8 0, .int .u8 0, .int .u8 0, .int .u8 0, .int .u8 0, .int .u8 0, .int .u8 0, .int .u8 0, .int .u8 0, .int .u8 0, .int .u8 0, .int .u8 0, .int .u8 0, .int .u8 0, .int .u8 0, .int .u8 0, .int .u8 0, .int .u8 0, .int .u8 0, .int .u8 0, .int .u8 0, .int .u8 0, .int .u8 0, .int .u8 0, .int .u8 0] 23 rfl (fun _ => by kernel_rfl) ?_
  simp only [Act.put, List.setIfInBounds_toArray, List.set_cons_zero, List.set_cons_succ]
  refine storesL .u8 32 (trim k) (w1.heap.size) 23 _ _ rfl rfl rfl rfl (room_of (key_zero _ _ _ rfl).there) (key_info' _) ?_
  simp only [Act.put]
  have h1 : w.heap.size + 1 + 1 + 1 ≤ w1.heap.size := K.size
  replace K := K.fresh 32 (trim k) #[.int .u8 0, .int .u8 0, .int .u8 0, .int .u8 0, .int .u8 0, .int .u8 0, .int .u8 0, .int .u8 0, .int .u8 0, .int .u8 0, .int .u8 0, .int .u8 0, .int .u8 0, .int .u8 0, .int .u8 0, .int .u8 0, .int .u8 0, .int .u8 0, .int .u8 0, .int .u8 0, .int .u8 0, .int .u8 0, .int .u8 0, .int .u8 0, .int .u8 0, .int .u8 0, .int .u8 0, .int .u8 0, .int .u8 0, .int .u8 0, .int .u8 0, .int .u8 0] 23 (key_zero _ _ _ rfl).there
  have U := K.get (w.heap.size + 1) 32 u (List.mem_cons_of_mem _ List.mem_cons_self)
  replace K := K.loose [(w1.heap.size, 32, trim k)] (w.heap.size + 1) 32 u (List.mem_cons_of_mem _ List.mem_cons_self) (fun p hp => by rcases List.mem_singleton.1 hp with rfl; exact List.mem_cons_self) (fun p hp => by rcases List.mem_singleton.1 hp with rfl; simp only; omega) (by omega)
  generalize ((w1.alloc (.cells #[.int .u8 0, .int .u8 0, .int .u8 0, .int .u8 0, .int .u8 0, .int .u8 0, .int .u8 0, .int .u8 0, .int .u8 0, .int .u8 0, .int .u8 0, .int .u8 0, .int .u8 0, .int .u8 0, .int .u8 0, .int .u8 0, .int .u8 0, .int .u8 0, .int .u8 0, .int .u8 0, .int .u8 0, .int .u8 0, .int .u8 0, .int .u8 0, .int .u8 0, .int .u8 0, .int .u8 0, .int .u8 0, .int .u8 0, .int .u8 0, .int .u8 0, .int .u8 0] 23)).setCells w1.heap.size 0 (row .u8 32 (trim k))) = w2 at K U ⊢
  have c1 := U.cell 31 (by omega)
  have f1 := U.free 31 (by omega)
  replace K := K.poke (w.heap.size + 1) 32 List.mem_cons_self 31 [.int .u8 (bits BinOp.and IntKind.u8 (u 31) 127)]
  replace U := U.set 31 (by omega) (bits BinOp.and IntKind.u8 (u 31) 127)
  rw [and127 (u 31) (hu 31 (by omega))] at U
  replace K : Kq w _ [(w1.heap.size, 32, trim k)] [(w.heap.size + 1, 32), (w.heap.size + 1 + 1, 32)] (w2.setCell ⟨w.heap.size + 1, 31, none⟩ (.int .u8 (bits BinOp.and IntKind.u8 (u 31) 127))) := K
  rw [and127 (u 31) (hu 31 (by omega))] at K
  replace K := K.settle [(w.heap.size + 1 + 1, 32)] (w.heap.size + 1) 32 (mask u) List.mem_cons_self (fun q hq => List.mem_cons_of_mem _ hq) (fun q hq => by rcases List.mem_singleton.1 hq with rfl; simp) U
  have e31 := and127 (u 31) (hu 31 (by omega))
  show Exit.then _ _ _ _ _
  go_upto_region 3 with fail
  clear e31 c1 f1
  generalize (w2.setCell ⟨w.heap.size + 1, 31, none⟩ (.int .u8 (u 31 % 128))) = w3 at K U ⊢
  refine wp_region_list ?_
  refine rowAtL 32 (mask u) (w.heap.size + 1) 0 23 _ _ rfl rfl rfl Tryd.underlying23 rfl (key_info _) (K.whole _ _ List.mem_cons_self) ?_
  simp only [Act.put, List.setIfInBounds_toArray, List.set_cons_zero, List.set_cons_succ]
  refine callL rfl (fun _ => by kernel_rfl) (start_any (mask u) _) ?_
  rintro e w4 ⟨rfl, l⟩
  replace K := K.call l
  clear l U
  refine ⟨_, rfl, ?_⟩
  simp only [Act.put, List.setIfInBounds_toArray, List.set_cons_zero, List.set_cons_succ]
  refine allocL #[.int .u8 0, .int .u8 0, .int .u8 0, .int .u8 0, .int .u8 0, .int .u8 0, .int .u8 0, .int .u8 0, .int .u8 0, .int .u8 0, .int .u8 0, .int .u8 0, .int .u8 0, .int .u8 0, .int .u8 0, .int .u8 0, .int .u8 0, .int .u8 0, .int .u8 0, .int .u8 0, .int .u8 0, .int .u8 0, .int .u8 0, .int .u8 0, .int .u8 0, .int .u8 0, .int .u8 0, .int .u8 0, .int .u8 0, .int .u8 0, .int .u8 0, .int .u8 0, .int .u8 0, .int .u8 0, .int .u8 0, .int .u8 0, .int .u8 0, .int .u8 0, .int .u8 0, .int .u8 0, .int .u8 0, .int .u8 0, .int .u8 0, .int .u8 0, .int .u8 0, .int .u8 0, .int .u8 0, .int .u8 0, .int .u8 0, .int .u8 0, .int .u8 0, .int .u8 0, .int .u8 0, .int .u8 0, .int .u8 0, .int .u8 0, .int .u8 0, .int .u8 0, .int .u8 0, .int .u8 0, .int .u8 0, .int .u8 0, .int .u8 0, .int .u8 0, .int .u8 0, .int .u8 0, .int .u8 0, .int .u8 0, .int .u8 0, .int .u8 0, .int .u8 0, .int .u8 0, .int .u8 0, .int .u8 0, .int .u8 0, .int .u8 0, .int .u8 0, .int .u8 0, .int .u8 0, .int .u8 0, .int .u8 0, .int .u8 0, .int .u8 0, .int .u8 0, .int .u8 0, .int .u8 0, .int .u8 0, .int .u8 0, .int .u8 0, .int .u8 0, .int .u8 0, .int .u8 0, .int .u8 0, .int .u8 0, .int .u8 0, .int .u8 0, .int .u8 0, .int .u8 0, .int .u8 0, .int .u8 0, .int .u8 0, .int .u8 0, .int .u8 0, .int .u8 0, .int .u8 0, .int .u8 0, .int .u8 0, .int .u8 0, .int .u8 0, .int .u8 0, .int .u8 0, .int .u8 0, .int .u8 0, .int .u8 0, .int .u8 0, .int .u8 0, .int .u8 0, .int .u8 0, .int .u8 0, .int .u8 0, .int .u8 0, .int .u8 0, .int .u8 0, .int .u8 0, .int .u8 0, .int .u8 0, .int .u8 0, .int .u8 0] 33 rfl (fun _ => by kernel_rfl) ?_
  simp only [Act.put, List.setIfInBounds_toArray, List.set_cons_zero, List.set_cons_succ]
  have h4 := K.size
  have h1' : w1.heap.size < w4.heap.size := by omega
  replace K := K.make 128 #[.int .u8 0, .int .u8 0, .int .u8 0, .int .u8 0, .int .u8 0, .int .u8 0, .int .u8 0, .int .u8 0, .int .u8 0, .int .u8 0, .int .u8 0, .int .u8 0, .int .u8 0, .int .u8 0, .int .u8 0, .int .u8 0, .int .u8 0, .int .u8 0, .int .u8 0, .int .u8 0, .int .u8 0, .int .u8 0, .int .u8 0, .int .u8 0, .int .u8 0, .int .u8 0, .int .u8 0, .int .u8 0, .int .u8 0, .int .u8 0, .int .u8 0, .int .u8 0, .int .u8 0, .int .u8 0, .int .u8 0, .int .u8 0, .int .u8 0, .int .u8 0, .int .u8 0, .int .u8 0, .int .u8 0, .int .u8 0, .int .u8 0, .int .u8 0, .int .u8 0, .int .u8 0, .int .u8 0, .int .u8 0, .int .u8 0, .int .u8 0, .int .u8 0, .int .u8 0, .int .u8 0, .int .u8 0, .int .u8 0, .int .u8 0, .int .u8 0, .int .u8 0, .int .u8 0, .int .u8 0, .int .u8 0, .int .u8 0, .int .u8 0, .int .u8 0, .int .u8 0, .int .u8 0, .int .u8 0, .int .u8 0, .int .u8 0, .int .u8 0, .int .u8 0, .int .u8 0, .int .u8 0, .int .u8 0, .int .u8 0, .int .u8 0, .int .u8 0, .int .u8 0, .int .u8 0, .int .u8 0, .int .u8 0, .int .u8 0, .int .u8 0, .int .u8 0, .int .u8 0, .int .u8 0, .int .u8 0, .int .u8 0, .int .u8 0, .int .u8 0, .int .u8 0, .int .u8 0, .int .u8 0, .int .u8 0, .int .u8 0, .int .u8 0, .int .u8 0, .int .u8 0, .int .u8 0, .int .u8 0, .int .u8 0, .int .u8 0, .int .u8 0, .int .u8 0, .int .u8 0, .int .u8 0, .int .u8 0, .int .u8 0, .int .u8 0, .int .u8 0, .int .u8 0, .int .u8 0, .int .u8 0, .int .u8 0, .int .u8 0, .int .u8 0, .int .u8 0, .int .u8 0, .int .u8 0, .int .u8 0, .int .u8 0, .int .u8 0, .int .u8 0, .int .u8 0, .int .u8 0, .int .u8 0, .int .u8 0, .int .u8 0] 33 w4.heap.size rfl (rung_zero _ _ _ rfl).there
  refine storesL .u8 128 (glue (one 1) (one 0) (mask u) (one 1)) (w4.heap.size) 33 _ _ rfl rfl rfl rfl (K.roomy _ _ _ List.mem_cons_self) (rung_info' _) ?_
  have V := Has.all (K.room _ List.mem_cons_self).1 .u8 (glue (one 1) (one 0) (mask u) (one 1))
  replace K := K.fill _ _ List.mem_cons_self (row .u8 128 (glue (one 1) (one 0) (mask u) (one 1)))
  simp only [Act.put]
  generalize ((w4.alloc (.cells #[.int .u8 0, .int .u8 0, .int .u8 0, .int .u8 0, .int .u8 0, .int .u8 0, .int .u8 0, .int .u8 0, .int .u8 0, .int .u8 0, .int .u8 0, .int .u8 0, .int .u8 0, .int .u8 0, .int .u8 0, .int .u8 0, .int .u8 0, .int .u8 0, .int .u8 0, .int .u8 0, .int .u8 0, .int .u8 0, .int .u8 0, .int .u8 0, .int .u8 0, .int .u8 0, .int .u8 0, .int .u8 0, .int .u8 0, .int .u8 0, .int .u8 0, .int .u8 0, .int .u8 0, .int .u8 0, .int .u8 0, .int .u8 0, .int .u8 0, .int .u8 0, .int .u8 0, .int .u8 0, .int .u8 0, .int .u8 0, .int .u8 0, .int .u8 0, .int .u8 0, .int .u8 0, .int .u8 0, .int .u8 0, .int .u8 0, .int .u8 0, .int .u8 0, .int .u8 0, .int .u8 0, .int .u8 0, .int .u8 0, .int .u8 0, .int .u8 0, .int .u8 0, .int .u8 0, .int .u8 0, .int .u8 0, .int .u8 0, .int .u8 0, .int .u8 0, .int .u8 0, .int .u8 0, .int .u8 0, .int .u8 0, .int .u8 0, .int .u8 0, .int .u8 0, .int .u8 0, .int .u8 0, .int .u8 0, .int .u8 0, .int .u8 0, .int .u8 0, .int .u8 0, .int .u8 0, .int .u8 0, .int .u8 0, .int .u8 0, .int .u8 0, .int .u8 0, .int .u8 0, .int .u8 0, .int .u8 0, .int .u8 0, .int .u8 0, .int .u8 0, .int .u8 0, .int .u8 0, .int .u8 0, .int .u8 0, .int .u8 0, .int .u8 0, .int .u8 0, .int .u8 0, .int .u8 0, .int .u8 0, .int .u8 0, .int .u8 0, .int .u8 0, .int .u8 0, .int .u8 0, .int .u8 0, .int .u8 0, .int .u8 0, .int .u8 0, .int .u8 0, .int .u8 0, .int .u8 0, .int .u8 0, .int .u8 0, .int .u8 0, .int .u8 0, .int .u8 0, .int .u8 0, .int .u8 0, .int .u8 0, .int .u8 0, .int .u8 0, .int .u8 0, .int .u8 0, .int .u8 0, .int .u8 0, .int .u8 0, .int .u8 0] 33)).setCells w4.heap.size 0 (row .u8 128 (glue (one 1) (one 0) (mask u) (one 1)))) = w5 at K V ⊢
  generalize hB : w4.heap.size = B at *
  generalize hC : w1.heap.size = C at *
  have hi := mask_in u hu
  have s5 : stz (one 1) (one 0) (mask u) (one 1) = Ed.run cz (kz (mask u)) (kbit (trim k)) 0 := start_stz _
  have S5 := show Hid _ from s5
  have hBB : w.heap.size + 1 + 1 + 1 ≤ B := by omega
  clear s5 h1 h1' h4
  show Exit.then _ _ _ _ _
  go_wp2
  go_loopw [18] (fun i w' => ∃ (t : Nat) (a b c d : Nat → Int), t ≤ 255 ∧ i = .int .i64 t ∧ (In 256 32 a ∧ In 256 32 b ∧ In 256 32 c ∧ In 256 32 d) ∧ stz a b c d = Ed.run cz (kz (mask u)) (kbit (trim k)) t ∧
    Kq w (B + 1) [(w.heap.size + 1, 32, mask u), (C, 32, trim k)] [(B, 128), (w.heap.size + 1 + 1, 32)] w' ∧ Has w' B .u8 128 (glue a b c d)) (fun i _ => 255 - (intOf i).toNat)
  case atStart => exact ⟨0, _, _, _, _, by omega, rfl, ⟨byte_in' 1 (by decide) (by decide), byte_in' 0 (by decide) (by decide), hi, byte_in' 1 (by decide) (by decide)⟩, S5.out, K, V⟩
  case round =>
    obtain ⟨t, a, b, c, d, h255, rfl, ⟨ia, ib, ic, id⟩, hst, K, V⟩ := hrel
    by_cases hlt : t < 255
    · have c1 := (K.get _ _ _ (List.mem_cons_of_mem _ List.mem_cons_self)).cell ((254 - t) / 8) (by omega)
      obtain ⟨x0, x1⟩ := trim_in k hk ((254 - t) / 8) (by omega)
      generalize hx : trim k ((254 - t) / 8) = x at c1 x0 x1
      go_upto_region 9 with fail
      have hb : decide (x / 2 ^ ((254 - t) % 8) % 2 = 1) = kbit (trim k) (254 - t) := by unfold kbit; rw [hx]
      have hy : 0 ≤ x / 2 ^ ((254 - t) % 8) ∧ x / 2 ^ ((254 - t) % 8) < 256 := ⟨Int.ediv_nonneg x0 (Int.le_of_lt (pow_nonneg 2 (by decide) _)), Int.lt_of_le_of_lt (Int.ediv_le_self _ x0) x1⟩
      clear c1 hx x0 x1
      generalize x / 2 ^ ((254 - t) % 8) = y at *
      refine wp_region_held_drew (S := fun w' => Kq w (B + 1) [(w.heap.size + 1, 32, mask u), (C, 32, trim k)] [(B, 128), (w.heap.size + 1 + 1, 32)] w') (by kernel_rfl) K.drew ?_
      clear K
      intro K
      replace V := V.drew
      refine pureH (i := 0) (some 30) rfl (.int .u8 y) rfl rfl (fun _ => by kernel_rfl) (by kernel_rfl) (by kernel_rfl) (by kernel_rfl) (fun _ _ _ h => h) K ?_
      simp only [Act.put, List.setIfInBounds_toArray, List.set_cons_zero, List.set_cons_succ]
      refine rowAtH (i := 1) (some 31) rfl 32 (mask u) (w.heap.size + 1) 0 23 _ _ rfl rfl rfl rfl (by kernel_rfl) (by kernel_rfl) (by kernel_rfl) (fun _ _ _ h => h) Tryd.underlying23 rfl (key_info _) K (fun _ h => h.whole _ _ List.mem_cons_self) ?_
      simp only [Act.put, List.setIfInBounds_toArray, List.set_cons_zero, List.set_cons_succ]
      refine pureH (i := 2) (some 32) rfl (.int .u8 y) rfl rfl (fun _ => by kernel_rfl) (by kernel_rfl) (by kernel_rfl) (by kernel_rfl) (fun _ _ _ h => h) K ?_
      simp only [Act.put, List.setIfInBounds_toArray, List.set_cons_zero, List.set_cons_succ]
      refine rowOneH (i := 3) (some 33) rfl 128 (glue a b c d) B 0 33 _ _ (by kernel_rfl) rfl rfl rfl rfl Tryd.underlying33 rfl (rung_info _) K V.range ?_
      simp only [Act.put, List.setIfInBounds_toArray, List.set_cons_zero, List.set_cons_succ]
      refine callH (i := 4) (some 34) rfl (by kernel_rfl) rfl rfl (fun _ => by kernel_rfl) (exchange_any y hy a b c d ia ib ic id _) ?_
      rintro e w6 ⟨rfl, l⟩
      replace K := K.call l
      clear l V
      refine ⟨_, rfl, K, ?_⟩
      simp only [Act.put, List.setIfInBounds_toArray, List.set_cons_zero, List.set_cons_succ]
      refine callH (i := 5) (some 35) rfl (by kernel_rfl) rfl rfl (fun _ => by kernel_rfl) (climb_any (mask u) (sel y a c) (sel y b d) (sel y c a) (sel y d b) hi (sel_in _ _ _ ia ic) (sel_in _ _ _ ib id) (sel_in _ _ _ ic ia) (sel_in _ _ _ id ib) _ (hg.below K.below hg.size)) ?_
      rintro e w7 ⟨a', b', c', d', rfl, ⟨ja, jb, jc, jd, es⟩, l⟩
      replace K := K.call l
      clear l
      refine ⟨_, rfl, K, ?_⟩
      simp only [Act.put, List.setIfInBounds_toArray, List.set_cons_zero, List.set_cons_succ]
      refine callH (i := 6) (some 36) rfl (by kernel_rfl) rfl rfl (fun _ => by kernel_rfl) (exchange_any y hy a' b' c' d' ja jb jc jd _) ?_
      rintro e w8 ⟨rfl, l⟩
      replace K := K.call l
      clear l
      refine ⟨_, rfl, K, ?_⟩
      simp only [Act.put, List.setIfInBounds_toArray, List.set_cons_zero, List.set_cons_succ]
      refine storesH (i := 7) none rfl .u8 128 (glue (sel y a' c') (sel y b' d') (sel y c' a') (sel y d' b')) B 33 _ _ (by kernel_rfl) rfl rfl rfl rfl rfl (K.roomy _ _ _ List.mem_cons_self) (rung_info' _) (K.fill _ _ List.mem_cons_self _) ?_
      simp only [Act.put]
      refine wpAnyH_done (by kernel_rfl) ?_ _
      have hN : stz (sel y a' c') (sel y b' d') (sel y c' a') (sel y d' b') = Ed.run cz (kz (mask u)) (kbit (trim k)) (t + 1) := by
        show _ = Ed.swap (kbit (trim k) (254 - t)) (Ed.climb cz (kz (mask u)) (Ed.swap (kbit (trim k) (254 - t)) (Ed.run cz (kz (mask u)) (kbit (trim k)) t)))
        rw [sel_swap, es, sel_swap, hst, hb]
      have HN := show Hid _ from hN
      have V := Has.all (K.room _ List.mem_cons_self).1 .u8 (glue (sel y a' c') (sel y b' d') (sel y c' a') (sel y d' b'))
      replace K := K.fill _ _ List.mem_cons_self (row .u8 128 (glue (sel y a' c') (sel y b' d') (sel y c' a') (sel y d' b')))
      clear hN es hst hb
      generalize (w8.setCells B 0 (row .u8 128 (glue (sel y a' c') (sel y b' d') (sel y c' a') (sel y d' b')))) = w9 at K V ⊢
      go_wp2
      go_roundw
      case rel => exact ⟨t + 1, _, _, _, _, by omega, by go_num, ⟨sel_in _ _ _ ja jc, sel_in _ _ _ jb jd, sel_in _ _ _ jc ja, sel_in _ _ _ jd jb⟩, HN.out, K, V⟩
      case measure => simp [intOf]; omega
    · obtain rfl : t = 255 := by omega
      replace K := K.settle [(w.heap.size + 1 + 1, 32)] B 128 (glue a b c d) List.mem_cons_self (fun q hq => List.mem_cons_of_mem _ hq) (fun q hq => by rcases List.mem_singleton.1 hq with rfl; simp only; omega) V
      have HS := show Hid _ from hst
      clear V hlt h255 hst
      go_upto_region 11 with fail
      refine wp_region_held_drew (S := fun w' => Kq w (B + 1) [(B, 128, glue a b c d), (w.heap.size + 1, 32, mask u), (C, 32, trim k)] [(w.heap.size + 1 + 1, 32)] w') (by kernel_rfl) K.drew ?_
      clear K
      intro K
      refine pureH (i := 0) (some 38) rfl (.pointer (some ⟨B, 0, none⟩)) rfl rfl (fun _ => by kernel_rfl) (by kernel_rfl) (by kernel_rfl) (by kernel_rfl) (fun _ _ _ h => h) K ?_
      simp only [Act.put, List.setIfInBounds_toArray, List.set_cons_zero, List.set_cons_succ]
      refine rowAtH (i := 1) (some 39) rfl 32 a B 0 23 _ _ rfl rfl rfl rfl (by kernel_rfl) (by kernel_rfl) (by kernel_rfl) (fun _ _ _ h => h) Tryd.underlying23 rfl (key_info _) K (fun _ h => h.part0 _ _ _ _ _ List.mem_cons_self) ?_
      simp only [Act.put, List.setIfInBounds_toArray, List.set_cons_zero, List.set_cons_succ]
      refine pureH (i := 2) (some 40) rfl (.pointer (some ⟨B, 32, none⟩)) rfl rfl (fun _ => by kernel_rfl) (by kernel_rfl) (by kernel_rfl) (by kernel_rfl) (fun _ _ _ h => h) K ?_
      simp only [Act.put, List.setIfInBounds_toArray, List.set_cons_zero, List.set_cons_succ]
      refine rowAtH (i := 3) (some 41) rfl 32 b B 32 23 _ _ rfl rfl rfl rfl (by kernel_rfl) (by kernel_rfl) (by kernel_rfl) (fun _ _ _ h => h) Tryd.underlying23 rfl (key_info _) K (fun _ h => h.part1 _ _ _ _ _ List.mem_cons_self) ?_
      simp only [Act.put, List.setIfInBounds_toArray, List.set_cons_zero, List.set_cons_succ]
      refine callH (i := 4) (some 42) rfl (by kernel_rfl) rfl rfl (fun _ => by kernel_rfl) (invert_any b ib _ (hg.below K.below hg.size)) ?_
      rintro e w6 ⟨f1, rfl, s1, l⟩
      replace K := K.call l
      clear l
      refine ⟨_, rfl, K, ?_⟩
      simp only [Act.put, List.setIfInBounds_toArray, List.set_cons_zero, List.set_cons_succ]
      refine callH (i := 5) (some 43) rfl (by kernel_rfl) rfl rfl (fun _ => by kernel_rfl) (mul_any a f1 ia s1.1 _ (hg.below K.below hg.size)) ?_
      rintro e w7 ⟨f2, rfl, s2, l⟩
      replace K := K.call l
      clear l
      refine ⟨_, rfl, K, ?_⟩
      simp only [Act.put, List.setIfInBounds_toArray, List.set_cons_zero, List.set_cons_succ]
      refine storesH (i := 6) none rfl .u8 32 f2 (w.heap.size + 1 + 1) 23 _ _ (by kernel_rfl) rfl rfl rfl rfl rfl (K.roomy _ _ _ List.mem_cons_self) (key_info' _) (K.fill _ _ List.mem_cons_self _) ?_
      simp only [Act.put]
      refine wpAnyH_done (by kernel_rfl) ?_ _
      have hv : val 256 f2 32 = ((tm k u).val : Int) := by
        have e1 : kz f1 = inz (kz b) := kz_inv s1.2
        have e2 : tm k u = kz a * inz (kz b) := by
          unfold tm
          rw [← HS.out]
          rfl
        rw [e2, ← e1, s2.2, ← fz_val, fz_mul]
        rfl
      have HV := show Hid _ from And.intro s2.1 hv
      have hO := (K.room _ List.mem_cons_self).1
      have hL := (K.fill _ _ List.mem_cons_self (row .u8 32 f2)).below
      clear K hv s1 s2 HS
      go_wp2
      exact bodyPost_ret (v := (.agg (row .u8 32 (f2)).toArray)) (results_row Tryd.results6 rfl (Has.all hO .u8 f2).range Tryd.underlying23 rfl (key_info _)) rfl ⟨f2, rfl, HV.out, hL⟩
end Go.Proofs.YthephehecapmhabDoor
