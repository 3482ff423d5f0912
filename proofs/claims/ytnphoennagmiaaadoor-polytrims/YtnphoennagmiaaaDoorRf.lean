/- The document's own reduce, walked. -/
import Derived.Test.YtnphoennagmiaaaDoorRe
import Derived.Deep.Cut
namespace Go.Proofs.YtnphoennagmiaaaDoor
open Go.RowKit

theorem made5_zero (w : World) (t : TypeId) (b : Nat) (hb : b = w.heap.size) : Has (w.alloc (.cells #[.int .i64 0, .int .i64 0, .int .i64 0, .int .i64 0, .int .i64 0] t)) b .i64 5 (fun _ => 0) := Has.new w .i64 5 (fun _ => 0) t b hb
theorem made5 (w : World) : (Instr.makeSlice 42 (.int .i64 5) (.int .i64 5)).run Tryd.prog w = .ok (.slice (some ⟨w.heap.size, 0, none⟩) 5 5) (w.alloc (.cells #[.int .i64 0, .int .i64 0, .int .i64 0, .int .i64 0, .int .i64 0] 3)) := by kernel_rfl
def oneI (x : Int) : Nat → Int
  | 0 => x
  | _ + 1 => 0
theorem oneI_dg (V : Nat) (h : V < 2 ^ 26) : ∀ j, oneI (V : Int) j = dg 26 V j
  | 0 => by show (V : Int) = ((V / 2 ^ (26 * 0) % 2 ^ 26 : Nat) : Int); rw [Nat.mul_zero, Nat.pow_zero, Nat.div_one, Nat.mod_eq_of_lt h]
  | j + 1 => by
    show (0 : Int) = ((V / 2 ^ (26 * (j + 1)) % 2 ^ 26 : Nat) : Int)
    rw [Nat.div_eq_of_lt (Nat.lt_of_lt_of_le h (Nat.pow_le_pow_right (by decide) (by omega)))]
    rfl
theorem and1_i64 (y : Nat) (h : y < 2 ^ 26) : bits BinOp.and IntKind.i64 (y : Int) 1 = ((y % 2 : Nat) : Int) := by
  show IntKind.i64.wrap ((BitVec.ofInt 64 (y : Int) &&& BitVec.ofInt 64 ((1 : Nat) : Int)).toNat : Int) = _
  rw [BitVec.toNat_and, ofInt_u64 y (by omega), ofInt_u64 1 (by omega), Nat.and_one_is_mod, IntKind.wrap_i64]
  omega
theorem dg_top (s A i : Nat) : dgN s (A % 2 ^ i) (i / s) < 2 ^ (i % s) := by
  have hX : A % 2 ^ i < 2 ^ i := Nat.mod_lt _ (Nat.two_pow_pos i)
  have hi : s * (i / s) + i % s = i := Nat.div_add_mod i s
  unfold dgN
  refine Nat.lt_of_le_of_lt (Nat.mod_le _ _) ?_
  rw [Nat.div_lt_iff_lt_mul (Nat.two_pow_pos _), ← Nat.pow_add, Nat.add_comm, hi]
  exact hX
theorem bit_or (V k : Nat) : bits BinOp.or IntKind.u8 (dg 8 (V % 2 ^ k) (k / 8)) (bits BinOp.and IntKind.i64 (dg 26 V (k / 26) / 2 ^ (k % 26)) 1 % 256 * 2 ^ (k % 8) % 256) = dg 8 (V % 2 ^ k) (k / 8) + ((V / 2 ^ k % 2 : Nat) : Int) * ((2 ^ (k % 8) : Nat) : Int) := by
  have hx := dg_top 8 V k
  have hb := bit_dg 26 V k (by decide)
  have hy := dgN_lt 26 V (k / 26)
  have hp : 2 ^ (k % 8) ≤ 2 ^ 7 := Nat.pow_le_pow_right (by decide) (by omega)
  have e1 : dg 26 V (k / 26) / 2 ^ (k % 26) = ((dgN 26 V (k / 26) / 2 ^ (k % 26) : Nat) : Int) := by
    unfold dg
    rw [Int.natCast_ediv, Int.natCast_pow]
    rfl
  have hq := Nat.div_le_self (dgN 26 V (k / 26)) (2 ^ (k % 26))
  have e3 : (2 : Int) ^ (k % 8) = ((2 ^ (k % 8) : Nat) : Int) := by rw [Int.natCast_pow]; rfl
  have hor := or_add (dgN 8 (V % 2 ^ k) (k / 8)) (V / 2 ^ k % 2) (k % 8) hx
  have hb2 : V / 2 ^ k % 2 < 2 := Nat.mod_lt _ (by decide)
  rw [e1, e3]
  unfold dg
  generalize dgN 8 (V % 2 ^ k) (k / 8) = x at *
  generalize dgN 26 V (k / 26) / 2 ^ (k % 26) = y at *
  generalize dgN 26 V (k / 26) = y0 at *
  generalize V / 2 ^ k % 2 = b at *
  generalize 2 ^ (k % 8) = p at *
  have e2 : bits BinOp.and IntKind.i64 (y : Int) 1 = (b : Int) := by rw [and1_i64 y (by omega), hb]
  rw [e2]
  have hc : b = 0 ∨ b = 1 := by omega
  have e4 : (b : Int) % 256 * (p : Int) % 256 = ((p * b : Nat) : Int) := by rcases hc with rfl | rfl <;> simp <;> omega
  have hpb : p * b < 256 := by rcases hc with rfl | rfl <;> omega
  rw [e4, u8_or_nat x (p * b) (by omega) hpb, hor, Int.natCast_add, Int.natCast_mul, Int.mul_comm (p : Int)]
/-- How long a slice is. -/
def lenV : Value → Nat
  | .slice _ l _ => l
  | _ => 0

set_option maxRecDepth 20000 in
set_option maxHeartbeats 16000000 in
theorem reduce_any (n B : Nat) (f : Nat → Int) (w : World) (hn : n = 6 ∨ n = 11) (hf : ∀ j, j < n → 0 ≤ f j ∧ f j ≤ 72057594037927936) (hB : B < w.heap.size) (ht : Has w B .i64 n f) :
    Calls Tryd.prog 23 #[.slice (some ⟨B, 0, none⟩) n n] w fun e w' => ∃ g : Nat → Int, e = .returned (.agg (row .u8 17 (g)).toArray) ∧ (In 256 17 g ∧ val 256 g 17 = val D f n % Q) ∧ Below w.heap.size w w' := by
  have h0 : RA (val D f n) n B f w ((w.alloc (.cells #[.int .u8 0, .int .u8 0, .int .u8 0, .int .u8 0, .int .u8 0, .int .u8 0, .int .u8 0, .int .u8 0, .int .u8 0, .int .u8 0, .int .u8 0, .int .u8 0, .int .u8 0, .int .u8 0, .int .u8 0, .int .u8 0, .int .u8 0] 33)).alloc (.cells #[.int .i64 0, .int .i64 0, .int .i64 0, .int .i64 0, .int .i64 0] 3)) :=
    ⟨by omega, fun j hj => by have := hf j hj; rcases hn with rfl | rfl <;> simp <;> omega, rfl, (ht.alloc _ hB).alloc _ (by simp; omega), by simp; omega, by omega, ⟨made5_zero _ _ _ (by simp), (big_zero _ _ _ rfl).alloc _ (by simp), ((Fr.refl w).alloc _).alloc _⟩⟩
  have hm5 := made5
  have hm6 := made6
  clear ht hf hn hB
  go_enter Tryd.func23, Tryd.ntmps23
  go_wp2
  go_loopw [0] (fun t w' => ∃ (n' B' : Nat) (f' : Nat → Int), t = .slice (some ⟨B', 0, none⟩) n' n' ∧ RA (val D f n) n' B' f' w w') (fun t _ => lenV t)
  case atStart => exact ⟨n, B, f, rfl, h0⟩
  case round =>
    obtain ⟨n', B', f', rfl, hI⟩ := hrel
    clear h0
    by_cases h11 : n' = 11
    · subst h11
      have g0 : B' < wr.heap.size := hI.hB
      obtain ⟨wo, rfl⟩ : ∃ wo : World, wo = wr := ⟨_, rfl⟩
      have hbig : ∀ j, j < 11 → 0 ≤ f' j ∧ f' j ≤ 72057594037927936 := hI.big
      have hU0 : UI 11 B' wo.heap.size f' 6 0 w (wo.alloc (.cells #[.int .i64 0, .int .i64 0, .int .i64 0, .int .i64 0, .int .i64 0, .int .i64 0] 3)) :=
        ⟨hI.ht.alloc _ g0, (made6_zero _ _ _ rfl).congr (fun j _ => by unfold addU; simp), by simp; omega, by simp, ⟨hI.rs.hd.alloc _ (by have := hI.rs.fr.size; omega), hI.rs.hr.alloc _ (by have := hI.rs.fr.size; omega), ⟨(hI.rs.fr.alloc _).below, by have := hI.rs.fr.size; simp; omega⟩⟩⟩
      have heq : val D (addU f' 11) 6 % Q = val D f n % Q := (addU_val11 f').trans hI.eq
      have hlo : w.heap.size + 2 ≤ wo.heap.size := hI.rs.fr.size
      have hne : wo.heap.size ≠ B' := by omega
      have HQ := show Hid _ from heq
      have HB := show Hid _ from hbig
      clear hI heq hbig
      go_wp2
      generalize wo.alloc (.cells #[.int .i64 0, .int .i64 0, .int .i64 0, .int .i64 0, .int .i64 0, .int .i64 0] 3) = w2 at *
      generalize wo.heap.size = U at *
      go_loopw [5] (fun i w' => ∃ k : Nat, k ≤ 11 ∧ i = .int .i64 k ∧ UI 11 B' U f' 6 k w w') (fun i _ => 11 - (intOf i).toNat)
      case atStart => exact ⟨0, by omega, rfl, hU0⟩
      case round =>
        obtain ⟨k, hk, rfl, hI⟩ := hrel
        clear hU0
        by_cases hlt : k < 11
        · have b1 := HB.out k hlt
          have g1 : (0 : Int) ≤ (k : Int) := by omega
          have g2 : (k : Int) < 11 := by omega
          have c1 := hI.ht.cell k hlt
          by_cases hlo5 : k < 5
          · have HS := show Hid _ from hI.low hlo5 (by omega) hne hlo
            have b2 := addU_in f' 11 k 72057594037927936 (by omega) HB.out (by omega) k
            have c2 := hI.hu.cell k (by omega)
            have f1 := hI.hu.free k (by omega)
            have g3 : (k : Int) < 5 := by omega
            have g4 : (k : Int) < 6 := by omega
            clear hI
            generalize addU f' k k = x at *
            generalize f' k = y at *
            obtain ⟨x0, x1⟩ := b2
            obtain ⟨y0, y1⟩ := b1
            go_wp2
            go_region
            go_wp2
            go_roundw
            case rel => exact ⟨k + 1, by omega, by go_num, HS.out⟩
            case measure => simp [intOf]; omega
          · have HS := show Hid _ from hI.high (by omega) (by omega) hne hlo
            have b2 := addU_in f' 11 k 72057594037927936 (by omega) HB.out (by omega) (k - 5)
            have c2 := hI.hu.cell (k - 5) (by omega)
            have f1 := hI.hu.free (k - 5) (by omega)
            have g3 : ¬ (k : Int) < 5 := by omega
            have g4 : (k : Int) - 5 < 6 := by omega
            have g5 : (0 : Int) ≤ (k : Int) - 5 := by omega
            have g6 : ((k : Int) - 5).toNat = k - 5 := by omega
            clear hI
            generalize addU f' k (k - 5) = x at *
            generalize f' k = y at *
            obtain ⟨x0, x1⟩ := b2
            obtain ⟨y0, y1⟩ := b1
            go_wp2
            go_region
            go_wp2
            go_roundw
            case rel => exact ⟨k + 1, by omega, by go_num, HS.out⟩
            case measure => simp [intOf]; omega
        · obtain rfl : k = 11 := by omega
          have HN := show Hid (RA (val D f n) 6 U (addU f' 11) w wr) from ⟨by omega, fun j _ => by have := addU_in f' 11 11 72057594037927936 (by omega) HB.out (Nat.le_refl _) j; simp; omega, HQ.out, hI.hu, hI.hU, by omega, hI.rs⟩
          clear hI hlt hk
          go_wp2
          go_roundw
          case rel => exact ⟨6, U, _, rfl, HN.out⟩
          case measure => simp [lenV]
    · by_cases h6 : n' = 6
      · subst h6
        clear h11
        have g0 : B' < wr.heap.size := hI.hB
        obtain ⟨wo, rfl⟩ : ∃ wo : World, wo = wr := ⟨_, rfl⟩
        have hbig : ∀ j, j < 6 → 0 ≤ f' j ∧ f' j ≤ 432345564227567616 := hI.big
        have hU0 : UI 6 B' wo.heap.size f' 5 0 w (wo.alloc (.cells #[.int .i64 0, .int .i64 0, .int .i64 0, .int .i64 0, .int .i64 0] 3)) :=
          ⟨hI.ht.alloc _ g0, (made5_zero _ _ _ rfl).congr (fun j _ => by unfold addU; simp), by simp; omega, by simp, ⟨hI.rs.hd.alloc _ (by have := hI.rs.fr.size; omega), hI.rs.hr.alloc _ (by have := hI.rs.fr.size; omega), ⟨(hI.rs.fr.alloc _).below, by have := hI.rs.fr.size; simp; omega⟩⟩⟩
        have heq : val D (addU f' 6) 5 % Q = val D f n % Q := (addU_val6 f').trans hI.eq
        have hlo : w.heap.size + 2 ≤ wo.heap.size := hI.rs.fr.size
        have hne : wo.heap.size ≠ B' := by omega
        have HQ := show Hid _ from heq
        have HB := show Hid _ from hbig
        clear hI heq hbig
        go_wp2
        generalize wo.alloc (.cells #[.int .i64 0, .int .i64 0, .int .i64 0, .int .i64 0, .int .i64 0] 3) = w2 at *
        generalize wo.heap.size = U at *
        go_loopw [5] (fun i w' => ∃ k : Nat, k ≤ 6 ∧ i = .int .i64 k ∧ UI 6 B' U f' 5 k w w') (fun i _ => 6 - (intOf i).toNat)
        case atStart => exact ⟨0, by omega, rfl, hU0⟩
        case round =>
          obtain ⟨k, hk, rfl, hI⟩ := hrel
          clear hU0
          by_cases hlt : k < 6
          · have b1 := HB.out k hlt
            have g1 : (0 : Int) ≤ (k : Int) := by omega
            have g2 : (k : Int) < 6 := by omega
            have c1 := hI.ht.cell k hlt
            by_cases hlo5 : k < 5
            · have HS := show Hid _ from hI.low hlo5 (by omega) hne hlo
              have b2 := addU_in f' 6 k 432345564227567616 (by omega) HB.out (by omega) k
              have c2 := hI.hu.cell k (by omega)
              have f1 := hI.hu.free k (by omega)
              have g3 : (k : Int) < 5 := by omega
              have g4 : (k : Int) < 5 := by omega
              clear hI
              generalize addU f' k k = x at *
              generalize f' k = y at *
              obtain ⟨x0, x1⟩ := b2
              obtain ⟨y0, y1⟩ := b1
              go_wp2
              go_region
              go_wp2
              go_roundw
              case rel => exact ⟨k + 1, by omega, by go_num, HS.out⟩
              case measure => simp [intOf]; omega
            · have HS := show Hid _ from hI.high (by omega) (by omega) hne hlo
              have b2 := addU_in f' 6 k 432345564227567616 (by omega) HB.out (by omega) (k - 5)
              have c2 := hI.hu.cell (k - 5) (by omega)
              have f1 := hI.hu.free (k - 5) (by omega)
              have g3 : ¬ (k : Int) < 5 := by omega
              have g4 : (k : Int) - 5 < 5 := by omega
              have g5 : (0 : Int) ≤ (k : Int) - 5 := by omega
              have g6 : ((k : Int) - 5).toNat = k - 5 := by omega
              clear hI
              generalize addU f' k (k - 5) = x at *
              generalize f' k = y at *
              obtain ⟨x0, x1⟩ := b2
              obtain ⟨y0, y1⟩ := b1
              go_wp2
              go_region
              go_wp2
              go_roundw
              case rel => exact ⟨k + 1, by omega, by go_num, HS.out⟩
              case measure => simp [intOf]; omega
          · obtain rfl : k = 6 := by omega
            have HN := show Hid (RA (val D f n) 5 U (addU f' 6) w wr) from ⟨by omega, fun j _ => by have := addU_in f' 6 6 432345564227567616 (by omega) HB.out (Nat.le_refl _) j; simp; omega, HQ.out, hI.hu, hI.hU, by omega, hI.rs⟩
            clear hI hlt hk
            go_wp2
            go_roundw
            case rel => exact ⟨5, U, _, rfl, HN.out⟩
            case measure => simp [lenV]
      · obtain rfl : n' = 5 := by have := hI.cs; omega
        clear h11 h6 hm5 hm6
        have hne := hI.ne.2
        have hC : CI B' f' 0 (fun _ => 0) w wr := ⟨fun j hj => by omega, hI.ht, hI.rs⟩
        have hbig : ∀ j, j < 5 → 0 ≤ f' j ∧ f' j ≤ 2594073385365405696 := hI.big
        have HB := show Hid _ from hbig
        have HQ := show Hid _ from hI.eq
        clear hI hbig
        go_wp2
        obtain ⟨w1, rfl⟩ : ∃ w1 : World, w1 = wr := ⟨_, rfl⟩
        go_loopw [6] (fun i w' => ∃ (k : Nat) (g : Nat → Int), k ≤ 5 ∧ i = .int .i64 k ∧ CI B' f' k g w w') (fun i _ => 5 - (intOf i).toNat)
        case atStart => exact ⟨0, _, by omega, rfl, hC⟩
        case round =>
          obtain ⟨k, g, hk, rfl, hI⟩ := hrel
          clear hC
          by_cases hlt : k < 5
          · have HS := show Hid _ from hI.step hlt hne
            have c1 := hI.ht.cell k hlt
            have c2 := hI.rs.hd.cell k hlt
            have f1 := hI.rs.hd.free k hlt
            have g1 : (0 : Int) ≤ (k : Int) := by omega
            have g2 : (k : Int) < 5 := by omega
            clear hI
            generalize g k = x at *
            generalize f' k = y at *
            go_wp2
            go_roundw
            case rel => exact ⟨k + 1, _, by omega, by go_num, HS.out⟩
            case measure => simp [intOf]; omega
          · obtain rfl : k = 5 := by omega
            have h2 : R2 (val D f n) 1 g w wr := ⟨by decide, fun j hj => by rw [hI.done j hj]; exact HB.out j hj, by rw [val_congr D 5 (f := g) (g := f') (fun j hj => hI.done j hj)]; exact HQ.out, fun h => (by cases h), hI.rs⟩
            clear hI hlt hk HB HQ
            go_wp2
            obtain ⟨w2, rfl⟩ : ∃ w2 : World, w2 = wr := ⟨_, rfl⟩
            go_loopw [7] (fun r w' => ∃ (rv : Int) (f2 : Nat → Int), r = .int .i64 rv ∧ R2 (val D f n) rv f2 w w') (fun r w' => mu2 (w.heap.size + 1) r w')
            case atStart => exact ⟨1, _, rfl, h2⟩
            case round =>
              obtain ⟨rv, f2, rfl, hI⟩ := hrel
              clear h2
              by_cases hpos : 0 < rv
              · obtain ⟨w3, rfl⟩ : ∃ w3 : World, w3 = wr := ⟨_, rfl⟩
                have q1 : rv > 0 := hpos
                go_wp2
                go_loopw [7, 8] (fun r i w' => ∃ (k : Nat) (rk : Int) (g : Nat → Int), k ≤ 5 ∧ i = .int .i64 k ∧ r = .int .i64 rk ∧ R3 f2 k rk g w w') (fun _ i _ => 5 - (intOf i).toNat)
                case atStart => exact ⟨0, 0, f2, by omega, rfl, rfl, ⟨by omega, by omega, fun j hj => by omega, fun _ _ => rfl, by simp [val], hI.rs⟩⟩
                case round =>
                  obtain ⟨k, rk, g, hk, rfl, rfl, h3⟩ := hrel
                  by_cases hlt : k < 5
                  · have HS := show Hid _ from h3.step hlt hI.big
                    have c1 := h3.rs.hd.cell k (by omega)
                    have f1 := h3.rs.hd.free k (by omega)
                    have a0 := h3.r0
                    have a1 := h3.r1
                    have i1 : 0 ≤ g k ∧ g k ≤ 2594073385365405696 := by rw [h3.rest k (Nat.le_refl k)]; exact hI.big k hlt
                    have g1 : (0 : Int) ≤ (k : Int) := by omega
                    have g2 : (k : Int) < 5 := by omega
                    have HI := show Hid _ from hI
                    clear h3 hI
                    generalize g k = x at *
                    obtain ⟨x0, x1⟩ := i1
                    go_wp2
                    go_roundw
                    case rel => exact ⟨k + 1, _, _, by omega, by go_num, rfl, HS.out⟩
                    case measure => simp [intOf]; omega
                  · obtain rfl : k = 5 := by omega
                    have HN := show Hid _ from h3.next hI
                    have HL := show Hid _ from h3.less hI hpos
                    have c1 := h3.rs.hd.cell 0 (by omega)
                    have f1 := h3.rs.hd.free 0 (by omega)
                    have a0 := h3.r0
                    have a1 := h3.r1
                    have i1 := h3.done 0 (by omega)
                    clear h3 hI hlt hk
                    generalize g 0 = x at *
                    obtain ⟨x0, x1⟩ := i1
                    go_wp2
                    go_roundw
                    case rel => exact ⟨rk, _, rfl, HN.out⟩
                    case measure => exact HL.out
              · obtain rfl : rv = 0 := by have := hI.r0; omega
                have hin := hI.inn rfl
                have c0 := hI.rs.hd.cell 0 (by omega)
                have c1 := hI.rs.hd.cell 1 (by omega)
                have c2 := hI.rs.hd.cell 2 (by omega)
                have c3 := hI.rs.hd.cell 3 (by omega)
                have c4 := hI.rs.hd.cell 4 (by omega)
                have i0 := hin 0 (by omega)
                by_cases hy : 67108859 ≤ f2 0 ∧ f2 1 = 67108863 ∧ f2 2 = 67108863 ∧ f2 3 = 67108863 ∧ f2 4 = 67108863
                · obtain ⟨y0, y1, y2, y3, y4⟩ := hy
                  obtain ⟨t1, t2⟩ := top_yes y0 hin y1 y2 y3 y4
                  rw [y1] at c1
                  rw [y2] at c2
                  rw [y3] at c3
                  rw [y4] at c4
                  clear hpos
                  have i01 : f2 0 < 67108864 := i0.2
                  clear i0
                  have hz := hI.rs.hr.alloc (.cells #[.int .i64 (f2 0 - 67108859), .int .i64 0, .int .i64 0, .int .i64 0, .int .i64 0] 3) (by have := hI.rs.fr.size; omega)
                  have hF : Fr w 2 (wr.alloc (.cells #[.int .i64 (f2 0 - 67108859), .int .i64 0, .int .i64 0, .int .i64 0, .int .i64 0] 3)) := ⟨(hI.rs.fr.alloc _).below, by have := hI.rs.fr.size; simp; omega⟩
                  have hdB : wr.heap.size < (wr.alloc (.cells #[.int .i64 (f2 0 - 67108859), .int .i64 0, .int .i64 0, .int .i64 0, .int .i64 0] 3)).heap.size := by simp
                  obtain ⟨V, hVe⟩ := Int.eq_ofNat_of_zero_le (show 0 ≤ f2 0 - 67108859 by omega)
                  have hG : Has (wr.alloc (.cells #[.int .i64 (f2 0 - 67108859), .int .i64 0, .int .i64 0, .int .i64 0, .int .i64 0] 3)) wr.heap.size .i64 5 (dg 26 V) := (Has.new wr .i64 5 (oneI (f2 0 - 67108859)) 3 _ rfl).congr (fun j _ => by rw [hVe]; exact oneI_dg V (by omega) j)
                  have hV : V < 2 ^ 130 ∧ (V : Int) = val D f n % Q := ⟨by omega, by have e := hI.eq; rw [t1] at e; rw [← e]; simp only [Q]; omega⟩
                  clear hin hI t1 t2 y1 y2 y3 y4 hVe
                  go_upto_region 27 with fail
                  clear c0 c1 c2 c3 c4 y0 i01
                  generalize wr.alloc (.cells #[.int .i64 (f2 0 - 67108859), .int .i64 0, .int .i64 0, .int .i64 0, .int .i64 0] 3) = wz at *
                  generalize wr.heap.size = dB at *
                  have o0 := big_zero wz 33 wz.heap.size rfl
                  have hO : w.heap.size < wz.heap.size := by have := hF.size; omega
                  have hne2 : wz.heap.size ≠ dB := by omega
                  have r0 : R6 V 0 (dB) wz.heap.size w ((wz.alloc (.cells #[.int .u8 0, .int .u8 0, .int .u8 0, .int .u8 0, .int .u8 0, .int .u8 0, .int .u8 0, .int .u8 0, .int .u8 0, .int .u8 0, .int .u8 0, .int .u8 0, .int .u8 0, .int .u8 0, .int .u8 0, .int .u8 0, .int .u8 0] 33)).setCells wz.heap.size 0 (row .u8 17 (fun _ => 0))) :=
                    ⟨(Has.all o0.there .u8 (fun _ => 0)).congr (fun j _ => (dg_nought 8 V j).symm), (hG.alloc _ (by omega)).setAll_other _ hne2 0 _, (hz.alloc _ (by omega)).setAll_other _ (by omega) 0 _, ⟨below_setAll (hF.alloc _).below _ (by omega) 0 _, by rw [size_setAll]; have := hF.size; simp; omega⟩⟩
                  have tok : True := trivial
                  clear hz hG hF
                  go_wp2_with (have _t := tok; refine wpList_store_mid rfl 33 _ _ rfl (wz.heap.size) 0 (row .u8 17 (fun _ => 0)).toArray rfl rfl (big_there (o0)) (big_info' _) (all_oneCell_toArray (row_one _ _ _)) ?_; clear tok)
                  generalize ((wz.alloc (.cells #[.int .u8 0, .int .u8 0, .int .u8 0, .int .u8 0, .int .u8 0, .int .u8 0, .int .u8 0, .int .u8 0, .int .u8 0, .int .u8 0, .int .u8 0, .int .u8 0, .int .u8 0, .int .u8 0, .int .u8 0, .int .u8 0, .int .u8 0] 33)).setCells wz.heap.size 0 (row .u8 17 (fun _ => 0))) = wo at *
                  clear o0
                  generalize wz.heap.size = O at *
                  go_loopw [10] (fun i w' => ∃ k : Nat, k ≤ 130 ∧ i = .int .i64 k ∧ R6 V k (dB) O w w') (fun i _ => 130 - (intOf i).toNat)
                  case atStart => exact ⟨0, by omega, rfl, r0⟩
                  case round =>
                    obtain ⟨k, hk, rfl, hI⟩ := hrel
                    clear r0
                    by_cases hlt : k < 130
                    · have HS := show Hid _ from fun x hx => hI.step hlt hO hne2 x hx
                      have d1 := hI.ho.cell (k / 8) (by omega)
                      have e1 := hI.ho.free (k / 8) (by omega)
                      have d2 := hI.hg.cell (k / 26) (by omega)
                      have HE := show Hid _ from bit_or V k
                      have g1 : (0 : Int) ≤ (k : Int) := by omega
                      have g2 : (k : Int) < 130 := by omega
                      have g3 : ((k : Int) / 8).toNat = k / 8 := by omega
                      have g4 : ((k : Int) / 26).toNat = k / 26 := by omega
                      have g5 : ((k : Int) % 8).toNat = k % 8 := by omega
                      have g6 : ((k : Int) % 26).toNat = k % 26 := by omega
                      clear hI
                      generalize dg 8 (V % 2 ^ k) (k / 8) = x at *
                      generalize dg 26 V (k / 26) = y at *
                      go_wp2
                      go_region
                      go_wp2
                      go_roundw
                      case rel => exact ⟨k + 1, by omega, by go_num, HS.out _ HE.out⟩
                      case measure => simp [intOf]; omega
                    · obtain rfl : k = 130 := by omega
                      have ho := hI.ho.congr (g := dg 8 V) (fun j _ => by rw [Nat.mod_eq_of_lt hV.1])
                      have hz := hI.hr
                      have hE : In 256 17 (dg 8 V) ∧ val 256 (dg 8 V) 17 = val D f n % Q := ⟨dg_in 8 V 17 256 (by decide), by rw [val_dgs 8 V 256 (by decide) 17, Nat.mod_eq_of_lt (Nat.lt_of_lt_of_le hV.1 (Nat.pow_le_pow_right (by decide) (by decide)))]; exact hV.2⟩
                      have HE := show Hid _ from hE
                      have hW := below_setAll hI.fr.below w.heap.size (Nat.le_refl _) 0 (row .u8 17 (dg 8 V))
                      clear hE hlt hk hI
                      generalize dg 8 V = g at *
                      go_wp2_with (first | (refine wpList_load_mid rfl 33 _ rfl (O) 0 rfl (row .u8 17 (g)) _ (Has.range (ho)) Tryd.underlying33 rfl (big_info _) ?_) | (refine wpList_store_mid rfl 33 _ _ rfl (w.heap.size) 0 (row .u8 17 (g)).toArray rfl rfl (big_there (hz)) (big_info' _) (all_oneCell_toArray (row_one _ _ _)) ?_))
                      exact bodyPost_ret (v := (.agg (row .u8 17 (g)).toArray)) (results_row Tryd.results23 rfl (Has.all hz.there .u8 g).range Tryd.underlying33 rfl (big_info g)) rfl ⟨g, rfl, HE.out, hW⟩
                · have hlt2 := top_no hin hy
                  have hpos2 := val_in D (by decide) f2 5 hin
                  obtain ⟨V, hVe⟩ := Int.eq_ofNat_of_zero_le hpos2.1
                  have hV : V < 2 ^ 130 ∧ (V : Int) = val D f n % Q := ⟨by rw [hVe] at hlt2; simp only [Q] at hlt2; omega, by rw [← hI.eq, hVe, Int.emod_eq_of_lt (by omega) (by rw [← hVe]; exact hlt2)]⟩
                  have hG : Has wr (w.heap.size + 1) .i64 5 (dg 26 V) := hI.rs.hd.congr (fun j hj => by rw [dg_of_val 26 5 D (by decide) f2 hin j hj, hVe]; rfl)
                  have hz := hI.rs.hr
                  have hF := hI.rs.fr
                  have hdB : w.heap.size + 1 < wr.heap.size := by have := hF.size; omega
                  clear hI hin hlt2 hpos2 hVe
                  have hcs : f2 4 ≠ 67108863 ∨ (f2 4 = 67108863 ∧ (f2 3 ≠ 67108863 ∨ (f2 3 = 67108863 ∧ (f2 2 ≠ 67108863 ∨ (f2 2 = 67108863 ∧ (f2 1 ≠ 67108863 ∨ (f2 1 = 67108863 ∧ f2 0 < 67108859))))))) := by omega
                  clear hy hpos i0
                  rcases hcs with q | ⟨q4, q | ⟨q3, q | ⟨q2, q | ⟨q1, q⟩⟩⟩⟩
                  · have hq : (f2 4 == 67108863) = false := by simp [q]
                    go_upto_region 27 with fail
                    clear c0 c1 c2 c3 c4 q hq
                    have o0 := big_zero wr 33 wr.heap.size rfl
                    have hO : w.heap.size < wr.heap.size := by have := hF.size; omega
                    have hne2 : wr.heap.size ≠ w.heap.size + 1 := by omega
                    have r0 : R6 V 0 (w.heap.size + 1) wr.heap.size w ((wr.alloc (.cells #[.int .u8 0, .int .u8 0, .int .u8 0, .int .u8 0, .int .u8 0, .int .u8 0, .int .u8 0, .int .u8 0, .int .u8 0, .int .u8 0, .int .u8 0, .int .u8 0, .int .u8 0, .int .u8 0, .int .u8 0, .int .u8 0, .int .u8 0] 33)).setCells wr.heap.size 0 (row .u8 17 (fun _ => 0))) :=
                      ⟨(Has.all o0.there .u8 (fun _ => 0)).congr (fun j _ => (dg_nought 8 V j).symm), (hG.alloc _ (by omega)).setAll_other _ hne2 0 _, (hz.alloc _ (by omega)).setAll_other _ (by omega) 0 _, ⟨below_setAll (hF.alloc _).below _ (by omega) 0 _, by rw [size_setAll]; have := hF.size; simp; omega⟩⟩
                    have tok : True := trivial
                    clear hz hG hF
                    go_wp2_with (have _t := tok; refine wpList_store_mid rfl 33 _ _ rfl (wr.heap.size) 0 (row .u8 17 (fun _ => 0)).toArray rfl rfl (big_there (o0)) (big_info' _) (all_oneCell_toArray (row_one _ _ _)) ?_; clear tok)
                    generalize ((wr.alloc (.cells #[.int .u8 0, .int .u8 0, .int .u8 0, .int .u8 0, .int .u8 0, .int .u8 0, .int .u8 0, .int .u8 0, .int .u8 0, .int .u8 0, .int .u8 0, .int .u8 0, .int .u8 0, .int .u8 0, .int .u8 0, .int .u8 0, .int .u8 0] 33)).setCells wr.heap.size 0 (row .u8 17 (fun _ => 0))) = wo at *
                    clear o0
                    generalize wr.heap.size = O at *
                    go_loopw [10] (fun i w' => ∃ k : Nat, k ≤ 130 ∧ i = .int .i64 k ∧ R6 V k (w.heap.size + 1) O w w') (fun i _ => 130 - (intOf i).toNat)
                    case atStart => exact ⟨0, by omega, rfl, r0⟩
                    case round =>
                      obtain ⟨k, hk, rfl, hI⟩ := hrel
                      clear r0
                      by_cases hlt : k < 130
                      · have HS := show Hid _ from fun x hx => hI.step hlt hO hne2 x hx
                        have d1 := hI.ho.cell (k / 8) (by omega)
                        have e1 := hI.ho.free (k / 8) (by omega)
                        have d2 := hI.hg.cell (k / 26) (by omega)
                        have HE := show Hid _ from bit_or V k
                        have g1 : (0 : Int) ≤ (k : Int) := by omega
                        have g2 : (k : Int) < 130 := by omega
                        have g3 : ((k : Int) / 8).toNat = k / 8 := by omega
                        have g4 : ((k : Int) / 26).toNat = k / 26 := by omega
                        have g5 : ((k : Int) % 8).toNat = k % 8 := by omega
                        have g6 : ((k : Int) % 26).toNat = k % 26 := by omega
                        clear hI
                        generalize dg 8 (V % 2 ^ k) (k / 8) = x at *
                        generalize dg 26 V (k / 26) = y at *
                        go_wp2
                        go_region
                        go_wp2
                        go_roundw
                        case rel => exact ⟨k + 1, by omega, by go_num, HS.out _ HE.out⟩
                        case measure => simp [intOf]; omega
                      · obtain rfl : k = 130 := by omega
                        have ho := hI.ho.congr (g := dg 8 V) (fun j _ => by rw [Nat.mod_eq_of_lt hV.1])
                        have hz := hI.hr
                        have hE : In 256 17 (dg 8 V) ∧ val 256 (dg 8 V) 17 = val D f n % Q := ⟨dg_in 8 V 17 256 (by decide), by rw [val_dgs 8 V 256 (by decide) 17, Nat.mod_eq_of_lt (Nat.lt_of_lt_of_le hV.1 (Nat.pow_le_pow_right (by decide) (by decide)))]; exact hV.2⟩
                        have HE := show Hid _ from hE
                        have hW := below_setAll hI.fr.below w.heap.size (Nat.le_refl _) 0 (row .u8 17 (dg 8 V))
                        clear hE hlt hk hI
                        generalize dg 8 V = g at *
                        go_wp2_with (first | (refine wpList_load_mid rfl 33 _ rfl (O) 0 rfl (row .u8 17 (g)) _ (Has.range (ho)) Tryd.underlying33 rfl (big_info _) ?_) | (refine wpList_store_mid rfl 33 _ _ rfl (w.heap.size) 0 (row .u8 17 (g)).toArray rfl rfl (big_there (hz)) (big_info' _) (all_oneCell_toArray (row_one _ _ _)) ?_))
                        exact bodyPost_ret (v := (.agg (row .u8 17 (g)).toArray)) (results_row Tryd.results23 rfl (Has.all hz.there .u8 g).range Tryd.underlying33 rfl (big_info g)) rfl ⟨g, rfl, HE.out, hW⟩
                  · rw [q4] at c4
                    have hq : (f2 3 == 67108863) = false := by simp [q]
                    go_upto_region 27 with fail
                    clear c0 c1 c2 c3 c4 q hq q4
                    have o0 := big_zero wr 33 wr.heap.size rfl
                    have hO : w.heap.size < wr.heap.size := by have := hF.size; omega
                    have hne2 : wr.heap.size ≠ w.heap.size + 1 := by omega
                    have r0 : R6 V 0 (w.heap.size + 1) wr.heap.size w ((wr.alloc (.cells #[.int .u8 0, .int .u8 0, .int .u8 0, .int .u8 0, .int .u8 0, .int .u8 0, .int .u8 0, .int .u8 0, .int .u8 0, .int .u8 0, .int .u8 0, .int .u8 0, .int .u8 0, .int .u8 0, .int .u8 0, .int .u8 0, .int .u8 0] 33)).setCells wr.heap.size 0 (row .u8 17 (fun _ => 0))) :=
                      ⟨(Has.all o0.there .u8 (fun _ => 0)).congr (fun j _ => (dg_nought 8 V j).symm), (hG.alloc _ (by omega)).setAll_other _ hne2 0 _, (hz.alloc _ (by omega)).setAll_other _ (by omega) 0 _, ⟨below_setAll (hF.alloc _).below _ (by omega) 0 _, by rw [size_setAll]; have := hF.size; simp; omega⟩⟩
                    have tok : True := trivial
                    clear hz hG hF
                    go_wp2_with (have _t := tok; refine wpList_store_mid rfl 33 _ _ rfl (wr.heap.size) 0 (row .u8 17 (fun _ => 0)).toArray rfl rfl (big_there (o0)) (big_info' _) (all_oneCell_toArray (row_one _ _ _)) ?_; clear tok)
                    generalize ((wr.alloc (.cells #[.int .u8 0, .int .u8 0, .int .u8 0, .int .u8 0, .int .u8 0, .int .u8 0, .int .u8 0, .int .u8 0, .int .u8 0, .int .u8 0, .int .u8 0, .int .u8 0, .int .u8 0, .int .u8 0, .int .u8 0, .int .u8 0, .int .u8 0] 33)).setCells wr.heap.size 0 (row .u8 17 (fun _ => 0))) = wo at *
                    clear o0
                    generalize wr.heap.size = O at *
                    go_loopw [10] (fun i w' => ∃ k : Nat, k ≤ 130 ∧ i = .int .i64 k ∧ R6 V k (w.heap.size + 1) O w w') (fun i _ => 130 - (intOf i).toNat)
                    case atStart => exact ⟨0, by omega, rfl, r0⟩
                    case round =>
                      obtain ⟨k, hk, rfl, hI⟩ := hrel
                      clear r0
                      by_cases hlt : k < 130
                      · have HS := show Hid _ from fun x hx => hI.step hlt hO hne2 x hx
                        have d1 := hI.ho.cell (k / 8) (by omega)
                        have e1 := hI.ho.free (k / 8) (by omega)
                        have d2 := hI.hg.cell (k / 26) (by omega)
                        have HE := show Hid _ from bit_or V k
                        have g1 : (0 : Int) ≤ (k : Int) := by omega
                        have g2 : (k : Int) < 130 := by omega
                        have g3 : ((k : Int) / 8).toNat = k / 8 := by omega
                        have g4 : ((k : Int) / 26).toNat = k / 26 := by omega
                        have g5 : ((k : Int) % 8).toNat = k % 8 := by omega
                        have g6 : ((k : Int) % 26).toNat = k % 26 := by omega
                        clear hI
                        generalize dg 8 (V % 2 ^ k) (k / 8) = x at *
                        generalize dg 26 V (k / 26) = y at *
                        go_wp2
                        go_region
                        go_wp2
                        go_roundw
                        case rel => exact ⟨k + 1, by omega, by go_num, HS.out _ HE.out⟩
                        case measure => simp [intOf]; omega
                      · obtain rfl : k = 130 := by omega
                        have ho := hI.ho.congr (g := dg 8 V) (fun j _ => by rw [Nat.mod_eq_of_lt hV.1])
                        have hz := hI.hr
                        have hE : In 256 17 (dg 8 V) ∧ val 256 (dg 8 V) 17 = val D f n % Q := ⟨dg_in 8 V 17 256 (by decide), by rw [val_dgs 8 V 256 (by decide) 17, Nat.mod_eq_of_lt (Nat.lt_of_lt_of_le hV.1 (Nat.pow_le_pow_right (by decide) (by decide)))]; exact hV.2⟩
                        have HE := show Hid _ from hE
                        have hW := below_setAll hI.fr.below w.heap.size (Nat.le_refl _) 0 (row .u8 17 (dg 8 V))
                        clear hE hlt hk hI
                        generalize dg 8 V = g at *
                        go_wp2_with (first | (refine wpList_load_mid rfl 33 _ rfl (O) 0 rfl (row .u8 17 (g)) _ (Has.range (ho)) Tryd.underlying33 rfl (big_info _) ?_) | (refine wpList_store_mid rfl 33 _ _ rfl (w.heap.size) 0 (row .u8 17 (g)).toArray rfl rfl (big_there (hz)) (big_info' _) (all_oneCell_toArray (row_one _ _ _)) ?_))
                        exact bodyPost_ret (v := (.agg (row .u8 17 (g)).toArray)) (results_row Tryd.results23 rfl (Has.all hz.there .u8 g).range Tryd.underlying33 rfl (big_info g)) rfl ⟨g, rfl, HE.out, hW⟩
                  · rw [q4] at c4
                    rw [q3] at c3
                    have hq : (f2 2 == 67108863) = false := by simp [q]
                    go_upto_region 27 with fail
                    clear c0 c1 c2 c3 c4 q hq q4 q3
                    have o0 := big_zero wr 33 wr.heap.size rfl
                    have hO : w.heap.size < wr.heap.size := by have := hF.size; omega
                    have hne2 : wr.heap.size ≠ w.heap.size + 1 := by omega
                    have r0 : R6 V 0 (w.heap.size + 1) wr.heap.size w ((wr.alloc (.cells #[.int .u8 0, .int .u8 0, .int .u8 0, .int .u8 0, .int .u8 0, .int .u8 0, .int .u8 0, .int .u8 0, .int .u8 0, .int .u8 0, .int .u8 0, .int .u8 0, .int .u8 0, .int .u8 0, .int .u8 0, .int .u8 0, .int .u8 0] 33)).setCells wr.heap.size 0 (row .u8 17 (fun _ => 0))) :=
                      ⟨(Has.all o0.there .u8 (fun _ => 0)).congr (fun j _ => (dg_nought 8 V j).symm), (hG.alloc _ (by omega)).setAll_other _ hne2 0 _, (hz.alloc _ (by omega)).setAll_other _ (by omega) 0 _, ⟨below_setAll (hF.alloc _).below _ (by omega) 0 _, by rw [size_setAll]; have := hF.size; simp; omega⟩⟩
                    have tok : True := trivial
                    clear hz hG hF
                    go_wp2_with (have _t := tok; refine wpList_store_mid rfl 33 _ _ rfl (wr.heap.size) 0 (row .u8 17 (fun _ => 0)).toArray rfl rfl (big_there (o0)) (big_info' _) (all_oneCell_toArray (row_one _ _ _)) ?_; clear tok)
                    generalize ((wr.alloc (.cells #[.int .u8 0, .int .u8 0, .int .u8 0, .int .u8 0, .int .u8 0, .int .u8 0, .int .u8 0, .int .u8 0, .int .u8 0, .int .u8 0, .int .u8 0, .int .u8 0, .int .u8 0, .int .u8 0, .int .u8 0, .int .u8 0, .int .u8 0] 33)).setCells wr.heap.size 0 (row .u8 17 (fun _ => 0))) = wo at *
                    clear o0
                    generalize wr.heap.size = O at *
                    go_loopw [10] (fun i w' => ∃ k : Nat, k ≤ 130 ∧ i = .int .i64 k ∧ R6 V k (w.heap.size + 1) O w w') (fun i _ => 130 - (intOf i).toNat)
                    case atStart => exact ⟨0, by omega, rfl, r0⟩
                    case round =>
                      obtain ⟨k, hk, rfl, hI⟩ := hrel
                      clear r0
                      by_cases hlt : k < 130
                      · have HS := show Hid _ from fun x hx => hI.step hlt hO hne2 x hx
                        have d1 := hI.ho.cell (k / 8) (by omega)
                        have e1 := hI.ho.free (k / 8) (by omega)
                        have d2 := hI.hg.cell (k / 26) (by omega)
                        have HE := show Hid _ from bit_or V k
                        have g1 : (0 : Int) ≤ (k : Int) := by omega
                        have g2 : (k : Int) < 130 := by omega
                        have g3 : ((k : Int) / 8).toNat = k / 8 := by omega
                        have g4 : ((k : Int) / 26).toNat = k / 26 := by omega
                        have g5 : ((k : Int) % 8).toNat = k % 8 := by omega
                        have g6 : ((k : Int) % 26).toNat = k % 26 := by omega
                        clear hI
                        generalize dg 8 (V % 2 ^ k) (k / 8) = x at *
                        generalize dg 26 V (k / 26) = y at *
                        go_wp2
                        go_region
                        go_wp2
                        go_roundw
                        case rel => exact ⟨k + 1, by omega, by go_num, HS.out _ HE.out⟩
                        case measure => simp [intOf]; omega
                      · obtain rfl : k = 130 := by omega
                        have ho := hI.ho.congr (g := dg 8 V) (fun j _ => by rw [Nat.mod_eq_of_lt hV.1])
                        have hz := hI.hr
                        have hE : In 256 17 (dg 8 V) ∧ val 256 (dg 8 V) 17 = val D f n % Q := ⟨dg_in 8 V 17 256 (by decide), by rw [val_dgs 8 V 256 (by decide) 17, Nat.mod_eq_of_lt (Nat.lt_of_lt_of_le hV.1 (Nat.pow_le_pow_right (by decide) (by decide)))]; exact hV.2⟩
                        have HE := show Hid _ from hE
                        have hW := below_setAll hI.fr.below w.heap.size (Nat.le_refl _) 0 (row .u8 17 (dg 8 V))
                        clear hE hlt hk hI
                        generalize dg 8 V = g at *
                        go_wp2_with (first | (refine wpList_load_mid rfl 33 _ rfl (O) 0 rfl (row .u8 17 (g)) _ (Has.range (ho)) Tryd.underlying33 rfl (big_info _) ?_) | (refine wpList_store_mid rfl 33 _ _ rfl (w.heap.size) 0 (row .u8 17 (g)).toArray rfl rfl (big_there (hz)) (big_info' _) (all_oneCell_toArray (row_one _ _ _)) ?_))
                        exact bodyPost_ret (v := (.agg (row .u8 17 (g)).toArray)) (results_row Tryd.results23 rfl (Has.all hz.there .u8 g).range Tryd.underlying33 rfl (big_info g)) rfl ⟨g, rfl, HE.out, hW⟩
                  · rw [q4] at c4
                    rw [q3] at c3
                    rw [q2] at c2
                    have hq : (f2 1 == 67108863) = false := by simp [q]
                    go_upto_region 27 with fail
                    clear c0 c1 c2 c3 c4 q hq q4 q3 q2
                    have o0 := big_zero wr 33 wr.heap.size rfl
                    have hO : w.heap.size < wr.heap.size := by have := hF.size; omega
                    have hne2 : wr.heap.size ≠ w.heap.size + 1 := by omega
                    have r0 : R6 V 0 (w.heap.size + 1) wr.heap.size w ((wr.alloc (.cells #[.int .u8 0, .int .u8 0, .int .u8 0, .int .u8 0, .int .u8 0, .int .u8 0, .int .u8 0, .int .u8 0, .int .u8 0, .int .u8 0, .int .u8 0, .int .u8 0, .int .u8 0, .int .u8 0, .int .u8 0, .int .u8 0, .int .u8 0] 33)).setCells wr.heap.size 0 (row .u8 17 (fun _ => 0))) :=
                      ⟨(Has.all o0.there .u8 (fun _ => 0)).congr (fun j _ => (dg_nought 8 V j).symm), (hG.alloc _ (by omega)).setAll_other _ hne2 0 _, (hz.alloc _ (by omega)).setAll_other _ (by omega) 0 _, ⟨below_setAll (hF.alloc _).below _ (by omega) 0 _, by rw [size_setAll]; have := hF.size; simp; omega⟩⟩
                    have tok : True := trivial
                    clear hz hG hF
                    go_wp2_with (have _t := tok; refine wpList_store_mid rfl 33 _ _ rfl (wr.heap.size) 0 (row .u8 17 (fun _ => 0)).toArray rfl rfl (big_there (o0)) (big_info' _) (all_oneCell_toArray (row_one _ _ _)) ?_; clear tok)
                    generalize ((wr.alloc (.cells #[.int .u8 0, .int .u8 0, .int .u8 0, .int .u8 0, .int .u8 0, .int .u8 0, .int .u8 0, .int .u8 0, .int .u8 0, .int .u8 0, .int .u8 0, .int .u8 0, .int .u8 0, .int .u8 0, .int .u8 0, .int .u8 0, .int .u8 0] 33)).setCells wr.heap.size 0 (row .u8 17 (fun _ => 0))) = wo at *
                    clear o0
                    generalize wr.heap.size = O at *
                    go_loopw [10] (fun i w' => ∃ k : Nat, k ≤ 130 ∧ i = .int .i64 k ∧ R6 V k (w.heap.size + 1) O w w') (fun i _ => 130 - (intOf i).toNat)
                    case atStart => exact ⟨0, by omega, rfl, r0⟩
                    case round =>
                      obtain ⟨k, hk, rfl, hI⟩ := hrel
                      clear r0
                      by_cases hlt : k < 130
                      · have HS := show Hid _ from fun x hx => hI.step hlt hO hne2 x hx
                        have d1 := hI.ho.cell (k / 8) (by omega)
                        have e1 := hI.ho.free (k / 8) (by omega)
                        have d2 := hI.hg.cell (k / 26) (by omega)
                        have HE := show Hid _ from bit_or V k
                        have g1 : (0 : Int) ≤ (k : Int) := by omega
                        have g2 : (k : Int) < 130 := by omega
                        have g3 : ((k : Int) / 8).toNat = k / 8 := by omega
                        have g4 : ((k : Int) / 26).toNat = k / 26 := by omega
                        have g5 : ((k : Int) % 8).toNat = k % 8 := by omega
                        have g6 : ((k : Int) % 26).toNat = k % 26 := by omega
                        clear hI
                        generalize dg 8 (V % 2 ^ k) (k / 8) = x at *
                        generalize dg 26 V (k / 26) = y at *
                        go_wp2
                        go_region
                        go_wp2
                        go_roundw
                        case rel => exact ⟨k + 1, by omega, by go_num, HS.out _ HE.out⟩
                        case measure => simp [intOf]; omega
                      · obtain rfl : k = 130 := by omega
                        have ho := hI.ho.congr (g := dg 8 V) (fun j _ => by rw [Nat.mod_eq_of_lt hV.1])
                        have hz := hI.hr
                        have hE : In 256 17 (dg 8 V) ∧ val 256 (dg 8 V) 17 = val D f n % Q := ⟨dg_in 8 V 17 256 (by decide), by rw [val_dgs 8 V 256 (by decide) 17, Nat.mod_eq_of_lt (Nat.lt_of_lt_of_le hV.1 (Nat.pow_le_pow_right (by decide) (by decide)))]; exact hV.2⟩
                        have HE := show Hid _ from hE
                        have hW := below_setAll hI.fr.below w.heap.size (Nat.le_refl _) 0 (row .u8 17 (dg 8 V))
                        clear hE hlt hk hI
                        generalize dg 8 V = g at *
                        go_wp2_with (first | (refine wpList_load_mid rfl 33 _ rfl (O) 0 rfl (row .u8 17 (g)) _ (Has.range (ho)) Tryd.underlying33 rfl (big_info _) ?_) | (refine wpList_store_mid rfl 33 _ _ rfl (w.heap.size) 0 (row .u8 17 (g)).toArray rfl rfl (big_there (hz)) (big_info' _) (all_oneCell_toArray (row_one _ _ _)) ?_))
                        exact bodyPost_ret (v := (.agg (row .u8 17 (g)).toArray)) (results_row Tryd.results23 rfl (Has.all hz.there .u8 g).range Tryd.underlying33 rfl (big_info g)) rfl ⟨g, rfl, HE.out, hW⟩
                  · rw [q4] at c4
                    rw [q3] at c3
                    rw [q2] at c2
                    rw [q1] at c1
                    have hq : ¬ 67108859 ≤ f2 0 := by omega
                    go_upto_region 27 with fail
                    clear c0 c1 c2 c3 c4 q hq q4 q3 q2 q1
                    have o0 := big_zero wr 33 wr.heap.size rfl
                    have hO : w.heap.size < wr.heap.size := by have := hF.size; omega
                    have hne2 : wr.heap.size ≠ w.heap.size + 1 := by omega
                    have r0 : R6 V 0 (w.heap.size + 1) wr.heap.size w ((wr.alloc (.cells #[.int .u8 0, .int .u8 0, .int .u8 0, .int .u8 0, .int .u8 0, .int .u8 0, .int .u8 0, .int .u8 0, .int .u8 0, .int .u8 0, .int .u8 0, .int .u8 0, .int .u8 0, .int .u8 0, .int .u8 0, .int .u8 0, .int .u8 0] 33)).setCells wr.heap.size 0 (row .u8 17 (fun _ => 0))) :=
                      ⟨(Has.all o0.there .u8 (fun _ => 0)).congr (fun j _ => (dg_nought 8 V j).symm), (hG.alloc _ (by omega)).setAll_other _ hne2 0 _, (hz.alloc _ (by omega)).setAll_other _ (by omega) 0 _, ⟨below_setAll (hF.alloc _).below _ (by omega) 0 _, by rw [size_setAll]; have := hF.size; simp; omega⟩⟩
                    have tok : True := trivial
                    clear hz hG hF
                    go_wp2_with (have _t := tok; refine wpList_store_mid rfl 33 _ _ rfl (wr.heap.size) 0 (row .u8 17 (fun _ => 0)).toArray rfl rfl (big_there (o0)) (big_info' _) (all_oneCell_toArray (row_one _ _ _)) ?_; clear tok)
                    generalize ((wr.alloc (.cells #[.int .u8 0, .int .u8 0, .int .u8 0, .int .u8 0, .int .u8 0, .int .u8 0, .int .u8 0, .int .u8 0, .int .u8 0, .int .u8 0, .int .u8 0, .int .u8 0, .int .u8 0, .int .u8 0, .int .u8 0, .int .u8 0, .int .u8 0] 33)).setCells wr.heap.size 0 (row .u8 17 (fun _ => 0))) = wo at *
                    clear o0
                    generalize wr.heap.size = O at *
                    go_loopw [10] (fun i w' => ∃ k : Nat, k ≤ 130 ∧ i = .int .i64 k ∧ R6 V k (w.heap.size + 1) O w w') (fun i _ => 130 - (intOf i).toNat)
                    case atStart => exact ⟨0, by omega, rfl, r0⟩
                    case round =>
                      obtain ⟨k, hk, rfl, hI⟩ := hrel
                      clear r0
                      by_cases hlt : k < 130
                      · have HS := show Hid _ from fun x hx => hI.step hlt hO hne2 x hx
                        have d1 := hI.ho.cell (k / 8) (by omega)
                        have e1 := hI.ho.free (k / 8) (by omega)
                        have d2 := hI.hg.cell (k / 26) (by omega)
                        have HE := show Hid _ from bit_or V k
                        have g1 : (0 : Int) ≤ (k : Int) := by omega
                        have g2 : (k : Int) < 130 := by omega
                        have g3 : ((k : Int) / 8).toNat = k / 8 := by omega
                        have g4 : ((k : Int) / 26).toNat = k / 26 := by omega
                        have g5 : ((k : Int) % 8).toNat = k % 8 := by omega
                        have g6 : ((k : Int) % 26).toNat = k % 26 := by omega
                        clear hI
                        generalize dg 8 (V % 2 ^ k) (k / 8) = x at *
                        generalize dg 26 V (k / 26) = y at *
                        go_wp2
                        go_region
                        go_wp2
                        go_roundw
                        case rel => exact ⟨k + 1, by omega, by go_num, HS.out _ HE.out⟩
                        case measure => simp [intOf]; omega
                      · obtain rfl : k = 130 := by omega
                        have ho := hI.ho.congr (g := dg 8 V) (fun j _ => by rw [Nat.mod_eq_of_lt hV.1])
                        have hz := hI.hr
                        have hE : In 256 17 (dg 8 V) ∧ val 256 (dg 8 V) 17 = val D f n % Q := ⟨dg_in 8 V 17 256 (by decide), by rw [val_dgs 8 V 256 (by decide) 17, Nat.mod_eq_of_lt (Nat.lt_of_lt_of_le hV.1 (Nat.pow_le_pow_right (by decide) (by decide)))]; exact hV.2⟩
                        have HE := show Hid _ from hE
                        have hW := below_setAll hI.fr.below w.heap.size (Nat.le_refl _) 0 (row .u8 17 (dg 8 V))
                        clear hE hlt hk hI
                        generalize dg 8 V = g at *
                        go_wp2_with (first | (refine wpList_load_mid rfl 33 _ rfl (O) 0 rfl (row .u8 17 (g)) _ (Has.range (ho)) Tryd.underlying33 rfl (big_info _) ?_) | (refine wpList_store_mid rfl 33 _ _ rfl (w.heap.size) 0 (row .u8 17 (g)).toArray rfl rfl (big_there (hz)) (big_info' _) (all_oneCell_toArray (row_one _ _ _)) ?_))
                        exact bodyPost_ret (v := (.agg (row .u8 17 (g)).toArray)) (results_row Tryd.results23 rfl (Has.all hz.there .u8 g).range Tryd.underlying33 rfl (big_info g)) rfl ⟨g, rfl, HE.out, hW⟩
end Go.Proofs.YtnphoennagmiaaaDoor
