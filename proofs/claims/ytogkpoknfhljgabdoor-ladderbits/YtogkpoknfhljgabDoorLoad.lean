/- What load comes to: the number of 32 bytes, in four words. -/
import Derived.Test.YtogkpoknfhljgabDoorNums
import Derived.Laws.BitsAllLaws
namespace Go.Proofs.YtogkpoknfhljgabDoor
open Go.RowKit

theorem key_info (f : Nat → Int) : (Tryd.prog.info? 23).map (·.size) = some (row .u8 32 f).length := by rw [row_length]; kernel_rfl
theorem key_info' (f : Nat → Int) : (Tryd.prog.info? 23).map (·.size) = some (row .u8 32 f).toArray.size := by rw [List.size_toArray]; exact key_info f
theorem key_there {w : World} {b : Nat} {f g : Nat → Int} (h : Has w b .u8 32 f) : w.there b 0 (row .u8 32 g).toArray.size := by rw [List.size_toArray, row_length]; exact h.there

theorem cut_key (b k : Nat) (hk : k < 4) (w : World) : (Instr.sliceAt 23 (.pointer (some ⟨b, 0, none⟩)) (some (.int .i64 (8 * (k : Int)))) (some (.int .i64 (8 * (k : Int) + 8))) none).run Tryd.prog w = .ok (.slice (some ⟨b, 8 * k, none⟩) 8 (32 - 8 * k)) w := by
  have hl : Tryd.prog.arrayLen 23 = 32 := by kernel_rfl
  have hs : ∀ w, (sizeOf (Tryd.prog.elem 23)).run Tryd.prog w = .ok 1 w := fun w => by kernel_rfl
  rw [run_sliceAt_array_lh w 23 ⟨b, 0, none⟩ (by kernel_rfl) .i64 .i64 _ _ (by omega) (by omega) (by rw [hl]; omega), hs, hl]
  simp only [Result.andThen, slicedAt]
  have e1 : (8 * (k : Int)).toNat = 8 * k := by omega
  have e2 : (8 * (k : Int) + 8).toNat = 8 * k + 8 := by omega
  rw [e1, e2, if_neg (by omega), Addr.add_mid]
  have e3 : 8 * k + 8 - 8 * k = 8 := by omega
  rw [e3, Nat.zero_add, Nat.mul_one]

theorem or_step (M s : Nat) (hM : M = 2 ^ s) (hb : M * 256 ≤ 18446744073709551616) (a x : Int) (h0 : 0 ≤ a) (h1 : a < M) (x0 : 0 ≤ x) (x1 : x < 256) :
    bits BinOp.or IntKind.u64 a (IntKind.u64.wrap (IntKind.u64.wrap x * (M : Int))) = a + x * (M : Int) := by
  obtain ⟨a, rfl⟩ := Int.eq_ofNat_of_zero_le h0
  obtain ⟨x, rfl⟩ := Int.eq_ofNat_of_zero_le x0
  have hx : x * M + M ≤ 256 * M := by rw [← Nat.succ_mul]; exact Nat.mul_le_mul_right M (by omega)
  have e1 : IntKind.u64.wrap (x : Int) = (x : Int) := by rw [IntKind.wrap_u64]; omega
  have e2 : (x : Int) * (M : Int) = ((x * M : Nat) : Int) := (Int.natCast_mul x M).symm
  have e3 : IntKind.u64.wrap ((x * M : Nat) : Int) = ((x * M : Nat) : Int) := by rw [IntKind.wrap_u64]; omega
  rw [e1, e2, e3, u64_or_nat a (x * M) (by omega) (by omega)]
  have h := Nat.two_pow_add_eq_or_of_lt (i := s) (b := a) (by omega) x
  rw [← hM, Nat.mul_comm M x] at h
  rw [Nat.or_comm, ← h]
  omega

theorem glued (x0 x1 x2 x3 x4 x5 x6 x7 : Int) (h0 : 0 ≤ x0 ∧ x0 < 256) (h1 : 0 ≤ x1 ∧ x1 < 256) (h2 : 0 ≤ x2 ∧ x2 < 256) (h3 : 0 ≤ x3 ∧ x3 < 256) (h4 : 0 ≤ x4 ∧ x4 < 256) (h5 : 0 ≤ x5 ∧ x5 < 256) (h6 : 0 ≤ x6 ∧ x6 < 256) (h7 : 0 ≤ x7 ∧ x7 < 256) :
    bits BinOp.or IntKind.u64 (bits BinOp.or IntKind.u64 (bits BinOp.or IntKind.u64 (bits BinOp.or IntKind.u64 (bits BinOp.or IntKind.u64 (bits BinOp.or IntKind.u64 (bits BinOp.or IntKind.u64 (IntKind.u64.wrap (x0)) (IntKind.u64.wrap (IntKind.u64.wrap (x1) * 256))) (IntKind.u64.wrap (IntKind.u64.wrap (x2) * 65536))) (IntKind.u64.wrap (IntKind.u64.wrap (x3) * 16777216))) (IntKind.u64.wrap (IntKind.u64.wrap (x4) * 4294967296))) (IntKind.u64.wrap (IntKind.u64.wrap (x5) * 1099511627776))) (IntKind.u64.wrap (IntKind.u64.wrap (x6) * 281474976710656))) (IntKind.u64.wrap (IntKind.u64.wrap (x7) * 72057594037927936)) = x0 + x1 * 256 + x2 * 65536 + x3 * 16777216 + x4 * 4294967296 + x5 * 1099511627776 + x6 * 281474976710656 + x7 * 72057594037927936 := by
  have e0 : IntKind.u64.wrap x0 = x0 := by rw [IntKind.wrap_u64]; omega
  have e1 := or_step 256 8 (by decide) (by decide) (x0) x1 (by omega) (by omega) h1.1 h1.2
  have e2 := or_step 65536 16 (by decide) (by decide) (x0 + x1 * ((256 : Nat) : Int)) x2 (by omega) (by omega) h2.1 h2.2
  have e3 := or_step 16777216 24 (by decide) (by decide) (x0 + x1 * ((256 : Nat) : Int) + x2 * ((65536 : Nat) : Int)) x3 (by omega) (by omega) h3.1 h3.2
  have e4 := or_step 4294967296 32 (by decide) (by decide) (x0 + x1 * ((256 : Nat) : Int) + x2 * ((65536 : Nat) : Int) + x3 * ((16777216 : Nat) : Int)) x4 (by omega) (by omega) h4.1 h4.2
  have e5 := or_step 1099511627776 40 (by decide) (by decide) (x0 + x1 * ((256 : Nat) : Int) + x2 * ((65536 : Nat) : Int) + x3 * ((16777216 : Nat) : Int) + x4 * ((4294967296 : Nat) : Int)) x5 (by omega) (by omega) h5.1 h5.2
  have e6 := or_step 281474976710656 48 (by decide) (by decide) (x0 + x1 * ((256 : Nat) : Int) + x2 * ((65536 : Nat) : Int) + x3 * ((16777216 : Nat) : Int) + x4 * ((4294967296 : Nat) : Int) + x5 * ((1099511627776 : Nat) : Int)) x6 (by omega) (by omega) h6.1 h6.2
  have e7 := or_step 72057594037927936 56 (by decide) (by decide) (x0 + x1 * ((256 : Nat) : Int) + x2 * ((65536 : Nat) : Int) + x3 * ((16777216 : Nat) : Int) + x4 * ((4294967296 : Nat) : Int) + x5 * ((1099511627776 : Nat) : Int) + x6 * ((281474976710656 : Nat) : Int)) x7 (by omega) (by omega) h7.1 h7.2
  simp only [Int.cast_ofNat_Int] at e1 e2 e3 e4 e5 e6 e7
  rw [e0, e1, e2, e3, e4, e5, e6, e7]

structure DInv (a : Nat → Int) (w : World) (k : Nat) (n : Nat → Int) (w' : World) : Prop where
  inn : In W 4 n
  eq : val W n k = val 256 a (8 * k)
  ha : Has w' w.heap.size .u8 32 a
  hr : Has w' (w.heap.size + 1) .u64 4 (fun _ => 0)
  hn : Has w' (w.heap.size + 1 + 1) .u64 4 n
  fr : Fr w 3 w'

theorem pow_word (k j : Nat) : (256 : Int) ^ (8 * k + j) = W ^ k * 256 ^ j := by
  rw [Int.pow_add, Int.pow_mul, show (256 : Int) ^ 8 = W from by decide]

theorem DInv.step {a : Nat → Int} {w : World} {k : Nat} {n : Nat → Int} {w' : World} (h : DInv a w k n w') (ha : In 256 32 a) (hk : k < 4) :
    DInv a w (k + 1) (upd n k (bits BinOp.or IntKind.u64 (bits BinOp.or IntKind.u64 (bits BinOp.or IntKind.u64 (bits BinOp.or IntKind.u64 (bits BinOp.or IntKind.u64 (bits BinOp.or IntKind.u64 (bits BinOp.or IntKind.u64 (IntKind.u64.wrap (a (8 * k))) (IntKind.u64.wrap (IntKind.u64.wrap (a (8 * k + 1)) * 256))) (IntKind.u64.wrap (IntKind.u64.wrap (a (8 * k + 2)) * 65536))) (IntKind.u64.wrap (IntKind.u64.wrap (a (8 * k + 3)) * 16777216))) (IntKind.u64.wrap (IntKind.u64.wrap (a (8 * k + 4)) * 4294967296))) (IntKind.u64.wrap (IntKind.u64.wrap (a (8 * k + 5)) * 1099511627776))) (IntKind.u64.wrap (IntKind.u64.wrap (a (8 * k + 6)) * 281474976710656))) (IntKind.u64.wrap (IntKind.u64.wrap (a (8 * k + 7)) * 72057594037927936)))) ((w'.setCell ⟨w.heap.size + 1 + 1, k, none⟩ (.int .u64 (bits BinOp.or IntKind.u64 (bits BinOp.or IntKind.u64 (bits BinOp.or IntKind.u64 (bits BinOp.or IntKind.u64 (bits BinOp.or IntKind.u64 (bits BinOp.or IntKind.u64 (bits BinOp.or IntKind.u64 (IntKind.u64.wrap (a (8 * k))) (IntKind.u64.wrap (IntKind.u64.wrap (a (8 * k + 1)) * 256))) (IntKind.u64.wrap (IntKind.u64.wrap (a (8 * k + 2)) * 65536))) (IntKind.u64.wrap (IntKind.u64.wrap (a (8 * k + 3)) * 16777216))) (IntKind.u64.wrap (IntKind.u64.wrap (a (8 * k + 4)) * 4294967296))) (IntKind.u64.wrap (IntKind.u64.wrap (a (8 * k + 5)) * 1099511627776))) (IntKind.u64.wrap (IntKind.u64.wrap (a (8 * k + 6)) * 281474976710656))) (IntKind.u64.wrap (IntKind.u64.wrap (a (8 * k + 7)) * 72057594037927936))))).drew) := by
  have i0 := ha (8 * k) (by omega)
  have i1 := ha (8 * k + 1) (by omega)
  have i2 := ha (8 * k + 2) (by omega)
  have i3 := ha (8 * k + 3) (by omega)
  have i4 := ha (8 * k + 4) (by omega)
  have i5 := ha (8 * k + 5) (by omega)
  have i6 := ha (8 * k + 6) (by omega)
  have i7 := ha (8 * k + 7) (by omega)
  rw [glued _ _ _ _ _ _ _ _ i0 i1 i2 i3 i4 i5 i6 i7]
  refine ⟨h.inn.upd k _ (by omega) (by simp only [W]; omega), ?_, (h.ha.set_other _ _ (by simp; omega)).drew, (h.hr.set_other _ _ (by simp)).drew, (h.hn.set k hk _).drew, (h.fr.set _ _ (by simp; omega)).drew⟩
  have e : 8 * (k + 1) = 8 * k + 7 + 1 := by omega
  rw [e]
  simp only [val]
  rw [val_upd _ _ _ _ _ (Nat.le_refl k), upd_same, h.eq]
  have p0 := pow_word k 0
  simp only [Nat.add_zero, Int.pow_zero, Int.mul_one] at p0
  rw [p0, pow_word k 1, pow_word k 2, pow_word k 3, pow_word k 4, pow_word k 5, pow_word k 6, pow_word k 7]
  simp only [Int.mul_add, Int.mul_assoc]
  have q1 : W ^ k * (a (8 * k + 1) * 256) = W ^ k * (256 ^ 1 * a (8 * k + 1)) := by rw [Int.mul_comm (a _)]; rfl
  have q2 : W ^ k * (a (8 * k + 2) * 65536) = W ^ k * (256 ^ 2 * a (8 * k + 2)) := by rw [Int.mul_comm (a _)]; rfl
  have q3 : W ^ k * (a (8 * k + 3) * 16777216) = W ^ k * (256 ^ 3 * a (8 * k + 3)) := by rw [Int.mul_comm (a _)]; rfl
  have q4 : W ^ k * (a (8 * k + 4) * 4294967296) = W ^ k * (256 ^ 4 * a (8 * k + 4)) := by rw [Int.mul_comm (a _)]; rfl
  have q5 : W ^ k * (a (8 * k + 5) * 1099511627776) = W ^ k * (256 ^ 5 * a (8 * k + 5)) := by rw [Int.mul_comm (a _)]; rfl
  have q6 : W ^ k * (a (8 * k + 6) * 281474976710656) = W ^ k * (256 ^ 6 * a (8 * k + 6)) := by rw [Int.mul_comm (a _)]; rfl
  have q7 : W ^ k * (a (8 * k + 7) * 72057594037927936) = W ^ k * (256 ^ 7 * a (8 * k + 7)) := by rw [Int.mul_comm (a _)]; rfl
  rw [q1, q2, q3, q4, q5, q6, q7]
  omega

set_option maxRecDepth 10000 in
set_option maxHeartbeats 4000000 in
theorem load_any (a : Nat → Int) (ha : In 256 32 a) (w : World) :
    Calls Tryd.prog 26 #[(.agg (row .u8 32 (a)).toArray)] w fun e w' => ∃ m : Nat → Int, e = .returned (.agg (row .u64 4 (m)).toArray) ∧ (In W 4 m ∧ val W m 4 = val 256 a 32) ∧ Below w.heap.size w w' := by
  go_enter Tryd.func26, Tryd.ntmps26
  go_wp2
  go_loopw [6] (fun i w' => ∃ (k : Nat) (n : Nat → Int), k ≤ 4 ∧ i = .int .i64 k ∧ DInv a w k n w') (fun i _ => 4 - (intOf i).toNat)
  case atStart => exact ⟨0, fun _ => 0, by omega, rfl, ⟨fun _ _ => ⟨Int.le_refl 0, by decide⟩, rfl, ((Has.new w _ _ _ _ _ rfl).alloc _ (by simp)).alloc _ (by simp; omega), (has_zero _ _ _ (by simp)).alloc _ (by simp), has_zero _ _ _ (by simp), (((Fr.refl w).alloc _).alloc _).alloc _⟩⟩
  case round =>
    obtain ⟨k, n, hk, rfl, hI⟩ := hrel
    by_cases hlt : k < 4
    · have g1 : (0 : Int) ≤ (k : Int) := by omega
      have g2 : (k : Int) < 4 := by omega
      have hcut := cut_key w.heap.size k hlt
      have c0 := hI.ha.cell (8 * k) (by omega)
      have c1 := hI.ha.cell (8 * k + 1) (by omega)
      have c2 := hI.ha.cell (8 * k + 2) (by omega)
      have c3 := hI.ha.cell (8 * k + 3) (by omega)
      have c4 := hI.ha.cell (8 * k + 4) (by omega)
      have c5 := hI.ha.cell (8 * k + 5) (by omega)
      have c6 := hI.ha.cell (8 * k + 6) (by omega)
      have c7 := hI.ha.cell (8 * k + 7) (by omega)
      have HS := show Hid _ from hI.step ha hlt
      have cn := hI.hn.cell k hlt
      have fn := hI.hn.free k hlt
      clear hI
      generalize a (8 * k + 7) = x7 at *
      generalize a (8 * k + 6) = x6 at *
      generalize a (8 * k + 5) = x5 at *
      generalize a (8 * k + 4) = x4 at *
      generalize a (8 * k + 3) = x3 at *
      generalize a (8 * k + 2) = x2 at *
      generalize a (8 * k + 1) = x1 at *
      generalize a (8 * k) = x0 at *
      generalize n k = z at *
      have k0 : ∀ v, (wr.setCell ⟨w.heap.size + 1 + 1, k, none⟩ v).cell? ⟨w.heap.size, 8 * k, none⟩ = some (.int .u8 x0) := fun v => by rw [World.cell?_setCell_other _ _ _ _ (by intro h'; injection h'; omega)]; exact c0
      have k1 : ∀ v, (wr.setCell ⟨w.heap.size + 1 + 1, k, none⟩ v).cell? ⟨w.heap.size, 8 * k + 1, none⟩ = some (.int .u8 x1) := fun v => by rw [World.cell?_setCell_other _ _ _ _ (by intro h'; injection h'; omega)]; exact c1
      have k2 : ∀ v, (wr.setCell ⟨w.heap.size + 1 + 1, k, none⟩ v).cell? ⟨w.heap.size, 8 * k + 2, none⟩ = some (.int .u8 x2) := fun v => by rw [World.cell?_setCell_other _ _ _ _ (by intro h'; injection h'; omega)]; exact c2
      have k3 : ∀ v, (wr.setCell ⟨w.heap.size + 1 + 1, k, none⟩ v).cell? ⟨w.heap.size, 8 * k + 3, none⟩ = some (.int .u8 x3) := fun v => by rw [World.cell?_setCell_other _ _ _ _ (by intro h'; injection h'; omega)]; exact c3
      have k4 : ∀ v, (wr.setCell ⟨w.heap.size + 1 + 1, k, none⟩ v).cell? ⟨w.heap.size, 8 * k + 4, none⟩ = some (.int .u8 x4) := fun v => by rw [World.cell?_setCell_other _ _ _ _ (by intro h'; injection h'; omega)]; exact c4
      have k5 : ∀ v, (wr.setCell ⟨w.heap.size + 1 + 1, k, none⟩ v).cell? ⟨w.heap.size, 8 * k + 5, none⟩ = some (.int .u8 x5) := fun v => by rw [World.cell?_setCell_other _ _ _ _ (by intro h'; injection h'; omega)]; exact c5
      have k6 : ∀ v, (wr.setCell ⟨w.heap.size + 1 + 1, k, none⟩ v).cell? ⟨w.heap.size, 8 * k + 6, none⟩ = some (.int .u8 x6) := fun v => by rw [World.cell?_setCell_other _ _ _ _ (by intro h'; injection h'; omega)]; exact c6
      have k7 : ∀ v, (wr.setCell ⟨w.heap.size + 1 + 1, k, none⟩ v).cell? ⟨w.heap.size, 8 * k + 7, none⟩ = some (.int .u8 x7) := fun v => by rw [World.cell?_setCell_other _ _ _ _ (by intro h'; injection h'; omega)]; exact c7
      go_wp2
      go_region_held3 (fun w' => w'.cell? ⟨w.heap.size, 8 * k, none⟩ = some (.int .u8 x0) ∧ w'.cell? ⟨w.heap.size, 8 * k + 1, none⟩ = some (.int .u8 x1) ∧ w'.cell? ⟨w.heap.size, 8 * k + 2, none⟩ = some (.int .u8 x2) ∧ w'.cell? ⟨w.heap.size, 8 * k + 3, none⟩ = some (.int .u8 x3) ∧ w'.cell? ⟨w.heap.size, 8 * k + 4, none⟩ = some (.int .u8 x4) ∧ w'.cell? ⟨w.heap.size, 8 * k + 5, none⟩ = some (.int .u8 x5) ∧ w'.cell? ⟨w.heap.size, 8 * k + 6, none⟩ = some (.int .u8 x6) ∧ w'.cell? ⟨w.heap.size, 8 * k + 7, none⟩ = some (.int .u8 x7)) (simp [*]) (fail)
      go_wp2
      go_roundw
      case rel => exact ⟨k + 1, _, by omega, by go_num, HS.out⟩
      case measure => simp [intOf]; omega
    · obtain rfl : k = 4 := by omega
      have hn := hI.hn
      have hz := hI.hr
      go_wp2_with (first | (refine wpList_load_mid rfl 46 _ rfl (w.heap.size + 1 + 1) 0 rfl (row .u64 4 (n)) _ (Has.range (hn)) Tryd.underlying46 rfl (num_info _) ?_) | (refine wpList_store_mid rfl 46 _ _ rfl (w.heap.size + 1) 0 (row .u64 4 (n)).toArray rfl rfl (num_there (hz)) (num_info' _) (all_oneCell_toArray (row_one _ _ _)) ?_))
      exact bodyPost_ret (v := (.agg (row .u64 4 (n)).toArray)) (results_row Tryd.results26 rfl (Has.all hz.there .u64 n).range Tryd.underlying46 rfl (num_info n)) rfl ⟨n, rfl, ⟨hI.inn, hI.eq⟩, (hI.fr.setAll _ (by omega) _).below⟩
end Go.Proofs.YtogkpoknfhljgabDoor
