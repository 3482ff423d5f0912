/- Texts of Rf Rc Ra, joined. -/
import Derived.Test.YtgfpflcoknpbdaaGreatDoorP1SymmetricPlays
import Derived.Test.YtgfpflcoknpbdaaGreatDoorP14SymmetricPlays
import Derived.Deep.Cut
import Derived.Test.YtgfpflcoknpbdaaGreatDoorP2SymmetricPlays
set_option maxRecDepth 20000
set_option maxHeartbeats 64000000
namespace Go.Proofs.YtgfpflcoknpbdaaGreatDoor
open Go.RowKit
theorem made5_zero (w : World) (t : TypeId) (b : Nat) (hb : b = w.heap.size) : Has (w.alloc (.cells zi64_5 t)) b .i64 5 (fun _ => 0) := Has.new w .i64 5 (fun _ => 0) t b hb
theorem made5 (w : World) : (Instr.makeSlice 89 (.int .i64 5) (.int .i64 5)).run Tryz.prog w = .ok (.slice (some ⟨w.heap.size, 0, none⟩) 5 5) (w.alloc (.cells zi64_5 3)) := by kernel_rfl
def oneI (x : Int) : Nat → Int
  | 0 => x
  | _ + 1 => 0
theorem oneI_dg (V : Nat) (h : V < 2 ^ 26) : ∀ j, oneI (V : Int) j = dg 26 V j
  | 0 => by show (V : Int) = ((V / 2 ^ (26 * 0) % 2 ^ 26 : Nat) : Int); rw [Nat.mul_zero, Nat.pow_zero, Nat.div_one, Nat.mod_eq_of_lt h]
  | j + 1 => by
    show (0 : Int) = ((V / 2 ^ (26 * (j + 1)) % 2 ^ 26 : Nat) : Int)
    rw [Nat.div_eq_of_lt (Nat.lt_of_lt_of_le h (Nat.pow_le_pow_right (by decide) (by omega)))]
    rfl
theorem and1_i64 (y : Nat) (h : y < 2 ^ 26) : bits BinOp.and IntKind.i64 (y : Int) 1 = ((y % 2 : Nat) : Int) := by
  show IntKind.i64.wrap ((BitVec.ofInt 64 (y : Int) &&& BitVec.ofInt 64 ((1 : Nat) : Int)).toNat : Int) = _
  rw [BitVec.toNat_and, ofInt_u64 y (by omega), ofInt_u64 1 (by omega), Nat.and_one_is_mod, IntKind.wrap_i64]
  omega
theorem dg_top (s A i : Nat) : dgN s (A % 2 ^ i) (i / s) < 2 ^ (i % s) := by
  have hX : A % 2 ^ i < 2 ^ i := Nat.mod_lt _ (Nat.two_pow_pos i)
  have hi : s * (i / s) + i % s = i := Nat.div_add_mod i s
  unfold dgN
  refine Nat.lt_of_le_of_lt (Nat.mod_le _ _) ?_
  rw [Nat.div_lt_iff_lt_mul (Nat.two_pow_pos _), ← Nat.pow_add, Nat.add_comm, hi]
  exact hX
theorem bit_or (V k : Nat) : bits BinOp.or IntKind.u8 (dg 8 (V % 2 ^ k) (k / 8)) (bits BinOp.and IntKind.i64 (dg 26 V (k / 26) / 2 ^ (k % 26)) 1 % 256 * 2 ^ (k % 8) % 256) = dg 8 (V % 2 ^ k) (k / 8) + ((V / 2 ^ k % 2 : Nat) : Int) * ((2 ^ (k % 8) : Nat) : Int) := by
  have hx := dg_top 8 V k
  have hb := bit_dg 26 V k (by decide)
  have hy := dgN_lt 26 V (k / 26)
  have hp : 2 ^ (k % 8) ≤ 2 ^ 7 := Nat.pow_le_pow_right (by decide) (by omega)
  have e1 : dg 26 V (k / 26) / 2 ^ (k % 26) = ((dgN 26 V (k / 26) / 2 ^ (k % 26) : Nat) : Int) := by
    unfold dg
    rw [Int.natCast_ediv, Int.natCast_pow]
    rfl
  have hq := Nat.div_le_self (dgN 26 V (k / 26)) (2 ^ (k % 26))
  have e3 : (2 : Int) ^ (k % 8) = ((2 ^ (k % 8) : Nat) : Int) := by rw [Int.natCast_pow]; rfl
  have hor := or_add (dgN 8 (V % 2 ^ k) (k / 8)) (V / 2 ^ k % 2) (k % 8) hx
  have hb2 : V / 2 ^ k % 2 < 2 := Nat.mod_lt _ (by decide)
  rw [e1, e3]
  unfold dg
  generalize dgN 8 (V % 2 ^ k) (k / 8) = x at *
  generalize dgN 26 V (k / 26) / 2 ^ (k % 26) = y at *
  generalize dgN 26 V (k / 26) = y0 at *
  generalize V / 2 ^ k % 2 = b at *
  generalize 2 ^ (k % 8) = p at *
  have e2 : bits BinOp.and IntKind.i64 (y : Int) 1 = (b : Int) := by rw [and1_i64 y (by omega), hb]
  rw [e2]
  have hc : b = 0 ∨ b = 1 := by omega
  have e4 : (b : Int) % 256 * (p : Int) % 256 = ((p * b : Nat) : Int) := by rcases hc with rfl | rfl <;> simp <;> omega
  have hpb : p * b < 256 := by rcases hc with rfl | rfl <;> omega
  rw [e4, u8_or_nat x (p * b) (by omega) hpb, hor, Int.natCast_add, Int.natCast_mul, Int.mul_comm (p : Int)]
def lenV : Value → Nat
  | .slice _ l _ => l
  | _ => 0
theorem reduce_any (n B : Nat) (f : Nat → Int) (w : World) (hn : n = 6 ∨ n = 11) (hf : ∀ j, j < n → 0 ≤ f j ∧ f j ≤ 72057594037927936) (hB : B < w.heap.size) (ht : Has w B .i64 n f) :
    Calls Tryz.prog 97 #[.slice (some ⟨B, 0, none⟩) n n] w fun e w' => ∃ g : Nat → Int, e = .returned (.agg (row .u8 17 (g)).toArray) ∧ (In 256 17 g ∧ val 256 g 17 = val D f n % Q) ∧ Below w.heap.size w w' := by
  have h0 : RA (val D f n) n B f w ((w.alloc (.cells zu8_17 96)).alloc (.cells zi64_5 3)) :=
    ⟨by omega, fun j hj => by have := hf j hj; rcases hn with rfl | rfl <;> simp <;> omega, rfl, (ht.alloc _ hB).alloc _ (by simp; omega), by simp; omega, by omega, ⟨made5_zero _ _ _ (by simp), (big_zero _ _ _ rfl).alloc _ (by simp), ((Fr.refl w).alloc _).alloc _⟩⟩
  have hm5 := made5
  have hm6 := made6
  clear ht hf hn hB
  go_enter Tryz.func97, Tryz.ntmps97
  go_wp2
  go_loopw [0] (fun t w' => ∃ (n' B' : Nat) (f' : Nat → Int), t = .slice (some ⟨B', 0, none⟩) n' n' ∧ RA (val D f n) n' B' f' w w') (fun t _ => lenV t)
  case atStart => exact ⟨n, B, f, rfl, h0⟩
  case round =>
    obtain ⟨n', B', f', rfl, hI⟩ := hrel
    clear h0
    by_cases h11 : n' = 11
    · subst h11
      have g0 : B' < wr.heap.size := hI.hB
      obtain ⟨wo, rfl⟩ : ∃ wo : World, wo = wr := ⟨_, rfl⟩
      have hbig : ∀ j, j < 11 → 0 ≤ f' j ∧ f' j ≤ 72057594037927936 := hI.big
      have hU0 : UI 11 B' wo.heap.size f' 6 0 w (wo.alloc (.cells zi64_6 3)) :=
        ⟨hI.ht.alloc _ g0, (made6_zero _ _ _ rfl).congr (fun j _ => by unfold addU; simp), by simp; omega, by simp, ⟨hI.rs.hd.alloc _ (by have := hI.rs.fr.size; omega), hI.rs.hr.alloc _ (by have := hI.rs.fr.size; omega), ⟨(hI.rs.fr.alloc _).below, by have := hI.rs.fr.size; simp; omega⟩⟩⟩
      have heq : val D (addU f' 11) 6 % Q = val D f n % Q := (addU_val11 f').trans hI.eq
      have hlo : w.heap.size + 2 ≤ wo.heap.size := hI.rs.fr.size
      have hne : wo.heap.size ≠ B' := by omega
      have HQ := show Hid _ from heq
      have HB := show Hid _ from hbig
      clear hI heq hbig
      go_wp2
      generalize wo.alloc (.cells zi64_6 3) = w2 at *
      generalize wo.heap.size = U at *
      go_loopw [5] (fun i w' => ∃ k : Nat, k ≤ 11 ∧ i = .int .i64 k ∧ UI 11 B' U f' 6 k w w') (fun i _ => 11 - (intOf i).toNat)
      case atStart => exact ⟨0, by omega, rfl, hU0⟩
      case round =>
        obtain ⟨k, hk, rfl, hI⟩ := hrel
        clear hU0
        by_cases hlt : k < 11
        · have b1 := HB.out k hlt
          have g1 : (0 : Int) ≤ (k : Int) := by omega
          have g2 : (k : Int) < 11 := by omega
          have c1 := hI.ht.cell k hlt
          by_cases hlo5 : k < 5
          · have HS := show Hid _ from hI.low hlo5 (by omega) hne hlo
            have b2 := addU_in f' 11 k 72057594037927936 (by omega) HB.out (by omega) k
            have c2 := hI.hu.cell k (by omega)
            have f1 := hI.hu.free k (by omega)
            have g3 : (k : Int) < 5 := by omega
            have g4 : (k : Int) < 6 := by omega
            clear hI
            generalize addU f' k k = x at *
            generalize f' k = y at *
            obtain ⟨x0, x1⟩ := b2
            obtain ⟨y0, y1⟩ := b1
            go_wp2
            go_region
            go_wp2
            go_roundw
            case rel => exact ⟨k + 1, by omega, by go_num, HS.out⟩
            case measure => simp [intOf]; omega
          · have HS := show Hid _ from hI.high (by omega) (by omega) hne hlo
            have b2 := addU_in f' 11 k 72057594037927936 (by omega) HB.out (by omega) (k - 5)
            have c2 := hI.hu.cell (k - 5) (by omega)
            have f1 := hI.hu.free (k - 5) (by omega)
            have g3 : ¬ (k : Int) < 5 := by omega
            have g4 : (k : Int) - 5 < 6 := by omega
            have g5 : (0 : Int) ≤ (k : Int) - 5 := by omega
            have g6 : ((k : Int) - 5).toNat = k - 5 := by omega
            clear hI
            generalize addU f' k (k - 5) = x at *
            generalize f' k = y at *
            obtain ⟨x0, x1⟩ := b2
            obtain ⟨y0, y1⟩ := b1
            go_wp2
            go_region
            go_wp2
            go_roundw
            case rel => exact ⟨k + 1, by omega, by go_num, HS.out⟩
            case measure => simp [intOf]; omega
        · obtain rfl : k = 11 := by omega
          have HN := show Hid (RA (val D f n) 6 U (addU f' 11) w wr) from ⟨by omega, fun j _ => by have := addU_in f' 11 11 72057594037927936 (by omega) HB.out (Nat.le_refl _) j; simp; omega, HQ.out, hI.hu, hI.hU, by omega, hI.rs⟩
          clear hI hlt hk
          go_wp2
          go_roundw
          case rel => exact ⟨6, U, _, rfl, HN.out⟩
          case measure => simp [lenV]
    · by_cases h6 : n' = 6
      · subst h6
        clear h11
        have g0 : B' < wr.heap.size := hI.hB
        obtain ⟨wo, rfl⟩ : ∃ wo : World, wo = wr := ⟨_, rfl⟩
        have hbig : ∀ j, j < 6 → 0 ≤ f' j ∧ f' j ≤ 432345564227567616 := hI.big
        have hU0 : UI 6 B' wo.heap.size f' 5 0 w (wo.alloc (.cells zi64_5 3)) :=
          ⟨hI.ht.alloc _ g0, (made5_zero _ _ _ rfl).congr (fun j _ => by unfold addU; simp), by simp; omega, by simp, ⟨hI.rs.hd.alloc _ (by have := hI.rs.fr.size; omega), hI.rs.hr.alloc _ (by have := hI.rs.fr.size; omega), ⟨(hI.rs.fr.alloc _).below, by have := hI.rs.fr.size; simp; omega⟩⟩⟩
        have heq : val D (addU f' 6) 5 % Q = val D f n % Q := (addU_val6 f').trans hI.eq
        have hlo : w.heap.size + 2 ≤ wo.heap.size := hI.rs.fr.size
        have hne : wo.heap.size ≠ B' := by omega
        have HQ := show Hid _ from heq
        have HB := show Hid _ from hbig
        clear hI heq hbig
        go_wp2
        generalize wo.alloc (.cells zi64_5 3) = w2 at *
        generalize wo.heap.size = U at *
        go_loopw [5] (fun i w' => ∃ k : Nat, k ≤ 6 ∧ i = .int .i64 k ∧ UI 6 B' U f' 5 k w w') (fun i _ => 6 - (intOf i).toNat)
        case atStart => exact ⟨0, by omega, rfl, hU0⟩
        case round =>
          obtain ⟨k, hk, rfl, hI⟩ := hrel
          clear hU0
          by_cases hlt : k < 6
          · have b1 := HB.out k hlt
            have g1 : (0 : Int) ≤ (k : Int) := by omega
            have g2 : (k : Int) < 6 := by omega
            have c1 := hI.ht.cell k hlt
            by_cases hlo5 : k < 5
            · have HS := show Hid _ from hI.low hlo5 (by omega) hne hlo
              have b2 := addU_in f' 6 k 432345564227567616 (by omega) HB.out (by omega) k
              have c2 := hI.hu.cell k (by omega)
              have f1 := hI.hu.free k (by omega)
              have g3 : (k : Int) < 5 := by omega
              have g4 : (k : Int) < 5 := by omega
              clear hI
              generalize addU f' k k = x at *
              generalize f' k = y at *
              obtain ⟨x0, x1⟩ := b2
              obtain ⟨y0, y1⟩ := b1
              go_wp2
              go_region
              go_wp2
              go_roundw
              case rel => exact ⟨k + 1, by omega, by go_num, HS.out⟩
              case measure => simp [intOf]; omega
            · have HS := show Hid _ from hI.high (by omega) (by omega) hne hlo
              have b2 := addU_in f' 6 k 432345564227567616 (by omega) HB.out (by omega) (k - 5)
              have c2 := hI.hu.cell (k - 5) (by omega)
              have f1 := hI.hu.free (k - 5) (by omega)
              have g3 : ¬ (k : Int) < 5 := by omega
              have g4 : (k : Int) - 5 < 5 := by omega
              have g5 : (0 : Int) ≤ (k : Int) - 5 := by omega
              have g6 : ((k : Int) - 5).toNat = k - 5 := by omega
              clear hI
              generalize addU f' k (k - 5) = x at *
              generalize f' k = y at *
              obtain ⟨x0, x1⟩ := b2
              obtain ⟨y0, y1⟩ := b1
              go_wp2
              go_region
              go_wp2
              go_roundw
              case rel => exact ⟨k + 1, by omega, by go_num, HS.out⟩
              case measure => simp [intOf]; omega
          · obtain rfl : k = 6 := by omega
            have HN := show Hid (RA (val D f n) 5 U (addU f' 6) w wr) from ⟨by omega, fun j _ => by have := addU_in f' 6 6 432345564227567616 (by omega) HB.out (Nat.le_refl _) j; simp; omega, HQ.out, hI.hu, hI.hU, by omega, hI.rs⟩
            clear hI hlt hk
            go_wp2
            go_roundw
            case rel => exact ⟨5, U, _, rfl, HN.out⟩
            case measure => simp [lenV]
      · obtain rfl : n' = 5 := by have := hI.cs; omega
        clear h11 h6 hm5 hm6
        have hne := hI.ne.2
        have hC : CI B' f' 0 (fun _ => 0) w wr := ⟨fun j hj => by omega, hI.ht, hI.rs⟩
        have hbig : ∀ j, j < 5 → 0 ≤ f' j ∧ f' j ≤ 2594073385365405696 := hI.big
        have HB := show Hid _ from hbig
        have HQ := show Hid _ from hI.eq
        clear hI hbig
        go_wp2
        obtain ⟨w1, rfl⟩ : ∃ w1 : World, w1 = wr := ⟨_, rfl⟩
        go_loopw [6] (fun i w' => ∃ (k : Nat) (g : Nat → Int), k ≤ 5 ∧ i = .int .i64 k ∧ CI B' f' k g w w') (fun i _ => 5 - (intOf i).toNat)
        case atStart => exact ⟨0, _, by omega, rfl, hC⟩
        case round =>
          obtain ⟨k, g, hk, rfl, hI⟩ := hrel
          clear hC
          by_cases hlt : k < 5
          · have HS := show Hid _ from hI.step hlt hne
            have c1 := hI.ht.cell k hlt
            have c2 := hI.rs.hd.cell k hlt
            have f1 := hI.rs.hd.free k hlt
            have g1 : (0 : Int) ≤ (k : Int) := by omega
            have g2 : (k : Int) < 5 := by omega
            clear hI
            generalize g k = x at *
            generalize f' k = y at *
            go_wp2
            go_roundw
            case rel => exact ⟨k + 1, _, by omega, by go_num, HS.out⟩
            case measure => simp [intOf]; omega
          · obtain rfl : k = 5 := by omega
            have h2 : R2 (val D f n) 1 g w wr := ⟨by decide, fun j hj => by rw [hI.done j hj]; exact HB.out j hj, by rw [val_congr D 5 (f := g) (g := f') (fun j hj => hI.done j hj)]; exact HQ.out, fun h => (by cases h), hI.rs⟩
            clear hI hlt hk HB HQ
            go_wp2
            obtain ⟨w2, rfl⟩ : ∃ w2 : World, w2 = wr := ⟨_, rfl⟩
            go_loopw [7] (fun r w' => ∃ (rv : Int) (f2 : Nat → Int), r = .int .i64 rv ∧ R2 (val D f n) rv f2 w w') (fun r w' => mu2 (w.heap.size + 1) r w')
            case atStart => exact ⟨1, _, rfl, h2⟩
            case round =>
              obtain ⟨rv, f2, rfl, hI⟩ := hrel
              clear h2
              by_cases hpos : 0 < rv
              · obtain ⟨w3, rfl⟩ : ∃ w3 : World, w3 = wr := ⟨_, rfl⟩
                have q1 : rv > 0 := hpos
                go_wp2
                go_loopw [7, 8] (fun r i w' => ∃ (k : Nat) (rk : Int) (g : Nat → Int), k ≤ 5 ∧ i = .int .i64 k ∧ r = .int .i64 rk ∧ R3 f2 k rk g w w') (fun _ i _ => 5 - (intOf i).toNat)
                case atStart => exact ⟨0, 0, f2, by omega, rfl, rfl, ⟨by omega, by omega, fun j hj => by omega, fun _ _ => rfl, by simp [val], hI.rs⟩⟩
                case round =>
                  obtain ⟨k, rk, g, hk, rfl, rfl, h3⟩ := hrel
                  by_cases hlt : k < 5
                  · have HS := show Hid _ from h3.step hlt hI.big
                    have c1 := h3.rs.hd.cell k (by omega)
                    have f1 := h3.rs.hd.free k (by omega)
                    have a0 := h3.r0
                    have a1 := h3.r1
                    have i1 : 0 ≤ g k ∧ g k ≤ 2594073385365405696 := by rw [h3.rest k (Nat.le_refl k)]; exact hI.big k hlt
                    have g1 : (0 : Int) ≤ (k : Int) := by omega
                    have g2 : (k : Int) < 5 := by omega
                    have HI := show Hid _ from hI
                    clear h3 hI
                    generalize g k = x at *
                    obtain ⟨x0, x1⟩ := i1
                    go_wp2
                    go_roundw
                    case rel => exact ⟨k + 1, _, _, by omega, by go_num, rfl, HS.out⟩
                    case measure => simp [intOf]; omega
                  · obtain rfl : k = 5 := by omega
                    have HN := show Hid _ from h3.next hI
                    have HL := show Hid _ from h3.less hI hpos
                    have c1 := h3.rs.hd.cell 0 (by omega)
                    have f1 := h3.rs.hd.free 0 (by omega)
                    have a0 := h3.r0
                    have a1 := h3.r1
                    have i1 := h3.done 0 (by omega)
                    clear h3 hI hlt hk
                    generalize g 0 = x at *
                    obtain ⟨x0, x1⟩ := i1
                    go_wp2
                    go_roundw
                    case rel => exact ⟨rk, _, rfl, HN.out⟩
                    case measure => exact HL.out
              · obtain rfl : rv = 0 := by have := hI.r0; omega
                have hin := hI.inn rfl
                have c0 := hI.rs.hd.cell 0 (by omega)
                have c1 := hI.rs.hd.cell 1 (by omega)
                have c2 := hI.rs.hd.cell 2 (by omega)
                have c3 := hI.rs.hd.cell 3 (by omega)
                have c4 := hI.rs.hd.cell 4 (by omega)
                have i0 := hin 0 (by omega)
                by_cases hy : 67108859 ≤ f2 0 ∧ f2 1 = 67108863 ∧ f2 2 = 67108863 ∧ f2 3 = 67108863 ∧ f2 4 = 67108863
                · obtain ⟨y0, y1, y2, y3, y4⟩ := hy
                  obtain ⟨t1, t2⟩ := top_yes y0 hin y1 y2 y3 y4
                  rw [y1] at c1
                  rw [y2] at c2
                  rw [y3] at c3
                  rw [y4] at c4
                  clear hpos
                  have i01 : f2 0 < 67108864 := i0.2
                  clear i0
                  have hz := hI.rs.hr.alloc (.cells #[.int .i64 (f2 0 - 67108859), .int .i64 0, .int .i64 0, .int .i64 0, .int .i64 0] 3) (by have := hI.rs.fr.size; omega)
                  have hF : Fr w 2 (wr.alloc (.cells #[.int .i64 (f2 0 - 67108859), .int .i64 0, .int .i64 0, .int .i64 0, .int .i64 0] 3)) := ⟨(hI.rs.fr.alloc _).below, by have := hI.rs.fr.size; simp; omega⟩
                  have hdB : wr.heap.size < (wr.alloc (.cells #[.int .i64 (f2 0 - 67108859), .int .i64 0, .int .i64 0, .int .i64 0, .int .i64 0] 3)).heap.size := by simp
                  obtain ⟨V, hVe⟩ := Int.eq_ofNat_of_zero_le (show 0 ≤ f2 0 - 67108859 by omega)
                  have hG : Has (wr.alloc (.cells #[.int .i64 (f2 0 - 67108859), .int .i64 0, .int .i64 0, .int .i64 0, .int .i64 0] 3)) wr.heap.size .i64 5 (dg 26 V) := (Has.new wr .i64 5 (oneI (f2 0 - 67108859)) 3 _ rfl).congr (fun j _ => by rw [hVe]; exact oneI_dg V (by omega) j)
                  have hV : V < 2 ^ 130 ∧ (V : Int) = val D f n % Q := ⟨by omega, by have e := hI.eq; rw [t1] at e; rw [← e]; simp only [Q]; omega⟩
                  clear hin hI t1 t2 y1 y2 y3 y4 hVe
                  go_upto_region 27 with fail
                  clear c0 c1 c2 c3 c4 y0 i01
                  generalize wr.alloc (.cells #[.int .i64 (f2 0 - 67108859), .int .i64 0, .int .i64 0, .int .i64 0, .int .i64 0] 3) = wz at *
                  generalize wr.heap.size = dB at *
                  have o0 := big_zero wz 96 wz.heap.size rfl
                  have hO : w.heap.size < wz.heap.size := by have := hF.size; omega
                  have hne2 : wz.heap.size ≠ dB := by omega
                  have r0 : R6 V 0 (dB) wz.heap.size w ((wz.alloc (.cells zu8_17 96)).setCells wz.heap.size 0 (row .u8 17 (fun _ => 0))) :=
                    ⟨(Has.all o0.there .u8 (fun _ => 0)).congr (fun j _ => (dg_nought 8 V j).symm), (hG.alloc _ (by omega)).setAll_other _ hne2 0 _, (hz.alloc _ (by omega)).setAll_other _ (by omega) 0 _, ⟨below_setAll (hF.alloc _).below _ (by omega) 0 _, by rw [size_setAll]; have := hF.size; simp; omega⟩⟩
                  have tok : True := trivial
                  clear hz hG hF
                  go_wp2_with (have _t := tok; refine wpList_store_mid rfl 96 _ _ rfl (wz.heap.size) 0 (row .u8 17 (fun _ => 0)).toArray rfl rfl (big_there (o0)) (big_info' _) (all_oneCell_toArray (row_one _ _ _)) ?_; clear tok)
                  generalize ((wz.alloc (.cells zu8_17 96)).setCells wz.heap.size 0 (row .u8 17 (fun _ => 0))) = wo at *
                  clear o0
                  generalize wz.heap.size = O at *
                  go_loopw [10] (fun i w' => ∃ k : Nat, k ≤ 130 ∧ i = .int .i64 k ∧ R6 V k (dB) O w w') (fun i _ => 130 - (intOf i).toNat)
                  case atStart => exact ⟨0, by omega, rfl, r0⟩
                  case round =>
                    obtain ⟨k, hk, rfl, hI⟩ := hrel
                    clear r0
                    by_cases hlt : k < 130
                    · have HS := show Hid _ from fun x hx => hI.step hlt hO hne2 x hx
                      have d1 := hI.ho.cell (k / 8) (by omega)
                      have e1 := hI.ho.free (k / 8) (by omega)
                      have d2 := hI.hg.cell (k / 26) (by omega)
                      have HE := show Hid _ from bit_or V k
                      have g1 : (0 : Int) ≤ (k : Int) := by omega
                      have g2 : (k : Int) < 130 := by omega
                      have g3 : ((k : Int) / 8).toNat = k / 8 := by omega
                      have g4 : ((k : Int) / 26).toNat = k / 26 := by omega
                      have g5 : ((k : Int) % 8).toNat = k % 8 := by omega
                      have g6 : ((k : Int) % 26).toNat = k % 26 := by omega
                      clear hI
                      generalize dg 8 (V % 2 ^ k) (k / 8) = x at *
                      generalize dg 26 V (k / 26) = y at *
                      go_wp2
                      go_region
                      go_wp2
                      go_roundw
                      case rel => exact ⟨k + 1, by omega, by go_num, HS.out _ HE.out⟩
                      case measure => simp [intOf]; omega
                    · obtain rfl : k = 130 := by omega
                      have ho := hI.ho.congr (g := dg 8 V) (fun j _ => by rw [Nat.mod_eq_of_lt hV.1])
                      have hz := hI.hr
                      have hE : In 256 17 (dg 8 V) ∧ val 256 (dg 8 V) 17 = val D f n % Q := ⟨dg_in 8 V 17 256 (by decide), by rw [val_dgs 8 V 256 (by decide) 17, Nat.mod_eq_of_lt (Nat.lt_of_lt_of_le hV.1 (Nat.pow_le_pow_right (by decide) (by decide)))]; exact hV.2⟩
                      have HE := show Hid _ from hE
                      have hW := below_setAll hI.fr.below w.heap.size (Nat.le_refl _) 0 (row .u8 17 (dg 8 V))
                      clear hE hlt hk hI
                      generalize dg 8 V = g at *
                      go_wp2_with (first | (refine wpList_load_mid rfl 96 _ rfl (O) 0 rfl (row .u8 17 (g)) _ (Has.range (ho)) Tryz.underlying96 rfl (big_info _) ?_) | (refine wpList_store_mid rfl 96 _ _ rfl (w.heap.size) 0 (row .u8 17 (g)).toArray rfl rfl (big_there (hz)) (big_info' _) (all_oneCell_toArray (row_one _ _ _)) ?_))
                      exact bodyPost_ret (v := (.agg (row .u8 17 (g)).toArray)) (results_row Tryz.results97 rfl (Has.all hz.there .u8 g).range Tryz.underlying96 rfl (big_info g)) rfl ⟨g, rfl, HE.out, hW⟩
                · have hlt2 := top_no hin hy
                  have hpos2 := val_in D (by decide) f2 5 hin
                  obtain ⟨V, hVe⟩ := Int.eq_ofNat_of_zero_le hpos2.1
                  have hV : V < 2 ^ 130 ∧ (V : Int) = val D f n % Q := ⟨by rw [hVe] at hlt2; simp only [Q] at hlt2; omega, by rw [← hI.eq, hVe, Int.emod_eq_of_lt (by omega) (by rw [← hVe]; exact hlt2)]⟩
                  have hG : Has wr (w.heap.size + 1) .i64 5 (dg 26 V) := hI.rs.hd.congr (fun j hj => by rw [dg_of_val 26 5 D (by decide) f2 hin j hj, hVe]; rfl)
                  have hz := hI.rs.hr
                  have hF := hI.rs.fr
                  have hdB : w.heap.size + 1 < wr.heap.size := by have := hF.size; omega
                  clear hI hin hlt2 hpos2 hVe
                  have hcs : f2 4 ≠ 67108863 ∨ (f2 4 = 67108863 ∧ (f2 3 ≠ 67108863 ∨ (f2 3 = 67108863 ∧ (f2 2 ≠ 67108863 ∨ (f2 2 = 67108863 ∧ (f2 1 ≠ 67108863 ∨ (f2 1 = 67108863 ∧ f2 0 < 67108859))))))) := by omega
                  clear hy hpos i0
                  rcases hcs with q | ⟨q4, q | ⟨q3, q | ⟨q2, q | ⟨q1, q⟩⟩⟩⟩
                  · have hq : (f2 4 == 67108863) = false := by simp [q]
                    go_upto_region 27 with fail
                    clear c0 c1 c2 c3 c4 q hq
                    have o0 := big_zero wr 96 wr.heap.size rfl
                    have hO : w.heap.size < wr.heap.size := by have := hF.size; omega
                    have hne2 : wr.heap.size ≠ w.heap.size + 1 := by omega
                    have r0 : R6 V 0 (w.heap.size + 1) wr.heap.size w ((wr.alloc (.cells zu8_17 96)).setCells wr.heap.size 0 (row .u8 17 (fun _ => 0))) :=
                      ⟨(Has.all o0.there .u8 (fun _ => 0)).congr (fun j _ => (dg_nought 8 V j).symm), (hG.alloc _ (by omega)).setAll_other _ hne2 0 _, (hz.alloc _ (by omega)).setAll_other _ (by omega) 0 _, ⟨below_setAll (hF.alloc _).below _ (by omega) 0 _, by rw [size_setAll]; have := hF.size; simp; omega⟩⟩
                    have tok : True := trivial
                    clear hz hG hF
                    go_wp2_with (have _t := tok; refine wpList_store_mid rfl 96 _ _ rfl (wr.heap.size) 0 (row .u8 17 (fun _ => 0)).toArray rfl rfl (big_there (o0)) (big_info' _) (all_oneCell_toArray (row_one _ _ _)) ?_; clear tok)
                    generalize ((wr.alloc (.cells zu8_17 96)).setCells wr.heap.size 0 (row .u8 17 (fun _ => 0))) = wo at *
                    clear o0
                    generalize wr.heap.size = O at *
                    go_loopw [10] (fun i w' => ∃ k : Nat, k ≤ 130 ∧ i = .int .i64 k ∧ R6 V k (w.heap.size + 1) O w w') (fun i _ => 130 - (intOf i).toNat)
                    case atStart => exact ⟨0, by omega, rfl, r0⟩
                    case round =>
                      obtain ⟨k, hk, rfl, hI⟩ := hrel
                      clear r0
                      by_cases hlt : k < 130
                      · have HS := show Hid _ from fun x hx => hI.step hlt hO hne2 x hx
                        have d1 := hI.ho.cell (k / 8) (by omega)
                        have e1 := hI.ho.free (k / 8) (by omega)
                        have d2 := hI.hg.cell (k / 26) (by omega)
                        have HE := show Hid _ from bit_or V k
                        have g1 : (0 : Int) ≤ (k : Int) := by omega
                        have g2 : (k : Int) < 130 := by omega
                        have g3 : ((k : Int) / 8).toNat = k / 8 := by omega
                        have g4 : ((k : Int) / 26).toNat = k / 26 := by omega
                        have g5 : ((k : Int) % 8).toNat = k % 8 := by omega
                        have g6 : ((k : Int) % 26).toNat = k % 26 := by omega
                        clear hI
                        generalize dg 8 (V % 2 ^ k) (k / 8) = x at *
                        generalize dg 26 V (k / 26) = y at *
                        go_wp2
                        go_region
                        go_wp2
                        go_roundw
                        case rel => exact ⟨k + 1, by omega, by go_num, HS.out _ HE.out⟩
                        case measure => simp [intOf]; omega
                      · obtain rfl : k = 130 := by omega
                        have ho := hI.ho.congr (g := dg 8 V) (fun j _ => by rw [Nat.mod_eq_of_lt hV.1])
                        have hz := hI.hr
                        have hE : In 256 17 (dg 8 V) ∧ val 256 (dg 8 V) 17 = val D f n % Q := ⟨dg_in 8 V 17 256 (by decide), by rw [val_dgs 8 V 256 (by decide) 17, Nat.mod_eq_of_lt (Nat.lt_of_lt_of_le hV.1 (Nat.pow_le_pow_right (by decide) (by decide)))]; exact hV.2⟩
                        have HE := show Hid _ from hE
                        have hW := below_setAll hI.fr.below w.heap.size (Nat.le_refl _) 0 (row .u8 17 (dg 8 V))
                        clear hE hlt hk hI
                        generalize dg 8 V = g at *
                        go_wp2_with (first | (refine wpList_load_mid rfl 96 _ rfl (O) 0 rfl (row .u8 17 (g)) _ (Has.range (ho)) Tryz.underlying96 rfl (big_info _) ?_) | (refine wpList_store_mid rfl 96 _ _ rfl (w.heap.size) 0 (row .u8 17 (g)).toArray rfl rfl (big_there (hz)) (big_info' _) (all_oneCell_toArray (row_one _ _ _)) ?_))
                        exact bodyPost_ret (v := (.agg (row .u8 17 (g)).toArray)) (results_row Tryz.results97 rfl (Has.all hz.there .u8 g).range Tryz.underlying96 rfl (big_info g)) rfl ⟨g, rfl, HE.out, hW⟩
                  · rw [q4] at c4
                    have hq : (f2 3 == 67108863) = false := by simp [q]
                    go_upto_region 27 with fail
                    clear c0 c1 c2 c3 c4 q hq q4
                    have o0 := big_zero wr 96 wr.heap.size rfl
                    have hO : w.heap.size < wr.heap.size := by have := hF.size; omega
                    have hne2 : wr.heap.size ≠ w.heap.size + 1 := by omega
                    have r0 : R6 V 0 (w.heap.size + 1) wr.heap.size w ((wr.alloc (.cells zu8_17 96)).setCells wr.heap.size 0 (row .u8 17 (fun _ => 0))) :=
                      ⟨(Has.all o0.there .u8 (fun _ => 0)).congr (fun j _ => (dg_nought 8 V j).symm), (hG.alloc _ (by omega)).setAll_other _ hne2 0 _, (hz.alloc _ (by omega)).setAll_other _ (by omega) 0 _, ⟨below_setAll (hF.alloc _).below _ (by omega) 0 _, by rw [size_setAll]; have := hF.size; simp; omega⟩⟩
                    have tok : True := trivial
                    clear hz hG hF
                    go_wp2_with (have _t := tok; refine wpList_store_mid rfl 96 _ _ rfl (wr.heap.size) 0 (row .u8 17 (fun _ => 0)).toArray rfl rfl (big_there (o0)) (big_info' _) (all_oneCell_toArray (row_one _ _ _)) ?_; clear tok)
                    generalize ((wr.alloc (.cells zu8_17 96)).setCells wr.heap.size 0 (row .u8 17 (fun _ => 0))) = wo at *
                    clear o0
                    generalize wr.heap.size = O at *
                    go_loopw [10] (fun i w' => ∃ k : Nat, k ≤ 130 ∧ i = .int .i64 k ∧ R6 V k (w.heap.size + 1) O w w') (fun i _ => 130 - (intOf i).toNat)
                    case atStart => exact ⟨0, by omega, rfl, r0⟩
                    case round =>
                      obtain ⟨k, hk, rfl, hI⟩ := hrel
                      clear r0
                      by_cases hlt : k < 130
                      · have HS := show Hid _ from fun x hx => hI.step hlt hO hne2 x hx
                        have d1 := hI.ho.cell (k / 8) (by omega)
                        have e1 := hI.ho.free (k / 8) (by omega)
                        have d2 := hI.hg.cell (k / 26) (by omega)
                        have HE := show Hid _ from bit_or V k
                        have g1 : (0 : Int) ≤ (k : Int) := by omega
                        have g2 : (k : Int) < 130 := by omega
                        have g3 : ((k : Int) / 8).toNat = k / 8 := by omega
                        have g4 : ((k : Int) / 26).toNat = k / 26 := by omega
                        have g5 : ((k : Int) % 8).toNat = k % 8 := by omega
                        have g6 : ((k : Int) % 26).toNat = k % 26 := by omega
                        clear hI
                        generalize dg 8 (V % 2 ^ k) (k / 8) = x at *
                        generalize dg 26 V (k / 26) = y at *
                        go_wp2
                        go_region
                        go_wp2
                        go_roundw
                        case rel => exact ⟨k + 1, by omega, by go_num, HS.out _ HE.out⟩
                        case measure => simp [intOf]; omega
                      · obtain rfl : k = 130 := by omega
                        have ho := hI.ho.congr (g := dg 8 V) (fun j _ => by rw [Nat.mod_eq_of_lt hV.1])
                        have hz := hI.hr
                        have hE : In 256 17 (dg 8 V) ∧ val 256 (dg 8 V) 17 = val D f n % Q := ⟨dg_in 8 V 17 256 (by decide), by rw [val_dgs 8 V 256 (by decide) 17, Nat.mod_eq_of_lt (Nat.lt_of_lt_of_le hV.1 (Nat.pow_le_pow_right (by decide) (by decide)))]; exact hV.2⟩
                        have HE := show Hid _ from hE
                        have hW := below_setAll hI.fr.below w.heap.size (Nat.le_refl _) 0 (row .u8 17 (dg 8 V))
                        clear hE hlt hk hI
                        generalize dg 8 V = g at *
                        go_wp2_with (first | (refine wpList_load_mid rfl 96 _ rfl (O) 0 rfl (row .u8 17 (g)) _ (Has.range (ho)) Tryz.underlying96 rfl (big_info _) ?_) | (refine wpList_store_mid rfl 96 _ _ rfl (w.heap.size) 0 (row .u8 17 (g)).toArray rfl rfl (big_there (hz)) (big_info' _) (all_oneCell_toArray (row_one _ _ _)) ?_))
                        exact bodyPost_ret (v := (.agg (row .u8 17 (g)).toArray)) (results_row Tryz.results97 rfl (Has.all hz.there .u8 g).range Tryz.underlying96 rfl (big_info g)) rfl ⟨g, rfl, HE.out, hW⟩
                  · rw [q4] at c4
                    rw [q3] at c3
                    have hq : (f2 2 == 67108863) = false := by simp [q]
                    go_upto_region 27 with fail
                    clear c0 c1 c2 c3 c4 q hq q4 q3
                    have o0 := big_zero wr 96 wr.heap.size rfl
                    have hO : w.heap.size < wr.heap.size := by have := hF.size; omega
                    have hne2 : wr.heap.size ≠ w.heap.size + 1 := by omega
                    have r0 : R6 V 0 (w.heap.size + 1) wr.heap.size w ((wr.alloc (.cells zu8_17 96)).setCells wr.heap.size 0 (row .u8 17 (fun _ => 0))) :=
                      ⟨(Has.all o0.there .u8 (fun _ => 0)).congr (fun j _ => (dg_nought 8 V j).symm), (hG.alloc _ (by omega)).setAll_other _ hne2 0 _, (hz.alloc _ (by omega)).setAll_other _ (by omega) 0 _, ⟨below_setAll (hF.alloc _).below _ (by omega) 0 _, by rw [size_setAll]; have := hF.size; simp; omega⟩⟩
                    have tok : True := trivial
                    clear hz hG hF
                    go_wp2_with (have _t := tok; refine wpList_store_mid rfl 96 _ _ rfl (wr.heap.size) 0 (row .u8 17 (fun _ => 0)).toArray rfl rfl (big_there (o0)) (big_info' _) (all_oneCell_toArray (row_one _ _ _)) ?_; clear tok)
                    generalize ((wr.alloc (.cells zu8_17 96)).setCells wr.heap.size 0 (row .u8 17 (fun _ => 0))) = wo at *
                    clear o0
                    generalize wr.heap.size = O at *
                    go_loopw [10] (fun i w' => ∃ k : Nat, k ≤ 130 ∧ i = .int .i64 k ∧ R6 V k (w.heap.size + 1) O w w') (fun i _ => 130 - (intOf i).toNat)
                    case atStart => exact ⟨0, by omega, rfl, r0⟩
                    case round =>
                      obtain ⟨k, hk, rfl, hI⟩ := hrel
                      clear r0
                      by_cases hlt : k < 130
                      · have HS := show Hid _ from fun x hx => hI.step hlt hO hne2 x hx
                        have d1 := hI.ho.cell (k / 8) (by omega)
                        have e1 := hI.ho.free (k / 8) (by omega)
                        have d2 := hI.hg.cell (k / 26) (by omega)
                        have HE := show Hid _ from bit_or V k
                        have g1 : (0 : Int) ≤ (k : Int) := by omega
                        have g2 : (k : Int) < 130 := by omega
                        have g3 : ((k : Int) / 8).toNat = k / 8 := by omega
                        have g4 : ((k : Int) / 26).toNat = k / 26 := by omega
                        have g5 : ((k : Int) % 8).toNat = k % 8 := by omega
                        have g6 : ((k : Int) % 26).toNat = k % 26 := by omega
                        clear hI
                        generalize dg 8 (V % 2 ^ k) (k / 8) = x at *
                        generalize dg 26 V (k / 26) = y at *
                        go_wp2
                        go_region
                        go_wp2
                        go_roundw
                        case rel => exact ⟨k + 1, by omega, by go_num, HS.out _ HE.out⟩
                        case measure => simp [intOf]; omega
                      · obtain rfl : k = 130 := by omega
                        have ho := hI.ho.congr (g := dg 8 V) (fun j _ => by rw [Nat.mod_eq_of_lt hV.1])
                        have hz := hI.hr
                        have hE : In 256 17 (dg 8 V) ∧ val 256 (dg 8 V) 17 = val D f n % Q := ⟨dg_in 8 V 17 256 (by decide), by rw [val_dgs 8 V 256 (by decide) 17, Nat.mod_eq_of_lt (Nat.lt_of_lt_of_le hV.1 (Nat.pow_le_pow_right (by decide) (by decide)))]; exact hV.2⟩
                        have HE := show Hid _ from hE
                        have hW := below_setAll hI.fr.below w.heap.size (Nat.le_refl _) 0 (row .u8 17 (dg 8 V))
                        clear hE hlt hk hI
                        generalize dg 8 V = g at *
                        go_wp2_with (first | (refine wpList_load_mid rfl 96 _ rfl (O) 0 rfl (row .u8 17 (g)) _ (Has.range (ho)) Tryz.underlying96 rfl (big_info _) ?_) | (refine wpList_store_mid rfl 96 _ _ rfl (w.heap.size) 0 (row .u8 17 (g)).toArray rfl rfl (big_there (hz)) (big_info' _) (all_oneCell_toArray (row_one _ _ _)) ?_))
                        exact bodyPost_ret (v := (.agg (row .u8 17 (g)).toArray)) (results_row Tryz.results97 rfl (Has.all hz.there .u8 g).range Tryz.underlying96 rfl (big_info g)) rfl ⟨g, rfl, HE.out, hW⟩
                  · rw [q4] at c4
                    rw [q3] at c3
                    rw [q2] at c2
                    have hq : (f2 1 == 67108863) = false := by simp [q]
                    go_upto_region 27 with fail
                    clear c0 c1 c2 c3 c4 q hq q4 q3 q2
                    have o0 := big_zero wr 96 wr.heap.size rfl
                    have hO : w.heap.size < wr.heap.size := by have := hF.size; omega
                    have hne2 : wr.heap.size ≠ w.heap.size + 1 := by omega
                    have r0 : R6 V 0 (w.heap.size + 1) wr.heap.size w ((wr.alloc (.cells zu8_17 96)).setCells wr.heap.size 0 (row .u8 17 (fun _ => 0))) :=
                      ⟨(Has.all o0.there .u8 (fun _ => 0)).congr (fun j _ => (dg_nought 8 V j).symm), (hG.alloc _ (by omega)).setAll_other _ hne2 0 _, (hz.alloc _ (by omega)).setAll_other _ (by omega) 0 _, ⟨below_setAll (hF.alloc _).below _ (by omega) 0 _, by rw [size_setAll]; have := hF.size; simp; omega⟩⟩
                    have tok : True := trivial
                    clear hz hG hF
                    go_wp2_with (have _t := tok; refine wpList_store_mid rfl 96 _ _ rfl (wr.heap.size) 0 (row .u8 17 (fun _ => 0)).toArray rfl rfl (big_there (o0)) (big_info' _) (all_oneCell_toArray (row_one _ _ _)) ?_; clear tok)
                    generalize ((wr.alloc (.cells zu8_17 96)).setCells wr.heap.size 0 (row .u8 17 (fun _ => 0))) = wo at *
                    clear o0
                    generalize wr.heap.size = O at *
                    go_loopw [10] (fun i w' => ∃ k : Nat, k ≤ 130 ∧ i = .int .i64 k ∧ R6 V k (w.heap.size + 1) O w w') (fun i _ => 130 - (intOf i).toNat)
                    case atStart => exact ⟨0, by omega, rfl, r0⟩
                    case round =>
                      obtain ⟨k, hk, rfl, hI⟩ := hrel
                      clear r0
                      by_cases hlt : k < 130
                      · have HS := show Hid _ from fun x hx => hI.step hlt hO hne2 x hx
                        have d1 := hI.ho.cell (k / 8) (by omega)
                        have e1 := hI.ho.free (k / 8) (by omega)
                        have d2 := hI.hg.cell (k / 26) (by omega)
                        have HE := show Hid _ from bit_or V k
                        have g1 : (0 : Int) ≤ (k : Int) := by omega
                        have g2 : (k : Int) < 130 := by omega
                        have g3 : ((k : Int) / 8).toNat = k / 8 := by omega
                        have g4 : ((k : Int) / 26).toNat = k / 26 := by omega
                        have g5 : ((k : Int) % 8).toNat = k % 8 := by omega
                        have g6 : ((k : Int) % 26).toNat = k % 26 := by omega
                        clear hI
                        generalize dg 8 (V % 2 ^ k) (k / 8) = x at *
                        generalize dg 26 V (k / 26) = y at *
                        go_wp2
                        go_region
                        go_wp2
                        go_roundw
                        case rel => exact ⟨k + 1, by omega, by go_num, HS.out _ HE.out⟩
                        case measure => simp [intOf]; omega
                      · obtain rfl : k = 130 := by omega
                        have ho := hI.ho.congr (g := dg 8 V) (fun j _ => by rw [Nat.mod_eq_of_lt hV.1])
                        have hz := hI.hr
                        have hE : In 256 17 (dg 8 V) ∧ val 256 (dg 8 V) 17 = val D f n % Q := ⟨dg_in 8 V 17 256 (by decide), by rw [val_dgs 8 V 256 (by decide) 17, Nat.mod_eq_of_lt (Nat.lt_of_lt_of_le hV.1 (Nat.pow_le_pow_right (by decide) (by decide)))]; exact hV.2⟩
                        have HE := show Hid _ from hE
                        have hW := below_setAll hI.fr.below w.heap.size (Nat.le_refl _) 0 (row .u8 17 (dg 8 V))
                        clear hE hlt hk hI
                        generalize dg 8 V = g at *
                        go_wp2_with (first | (refine wpList_load_mid rfl 96 _ rfl (O) 0 rfl (row .u8 17 (g)) _ (Has.range (ho)) Tryz.underlying96 rfl (big_info _) ?_) | (refine wpList_store_mid rfl 96 _ _ rfl (w.heap.size) 0 (row .u8 17 (g)).toArray rfl rfl (big_there (hz)) (big_info' _) (all_oneCell_toArray (row_one _ _ _)) ?_))
                        exact bodyPost_ret (v := (.agg (row .u8 17 (g)).toArray)) (results_row Tryz.results97 rfl (Has.all hz.there .u8 g).range Tryz.underlying96 rfl (big_info g)) rfl ⟨g, rfl, HE.out, hW⟩
                  · rw [q4] at c4
                    rw [q3] at c3
                    rw [q2] at c2
                    rw [q1] at c1
                    have hq : ¬ 67108859 ≤ f2 0 := by omega
                    go_upto_region 27 with fail
                    clear c0 c1 c2 c3 c4 q hq q4 q3 q2 q1
                    have o0 := big_zero wr 96 wr.heap.size rfl
                    have hO : w.heap.size < wr.heap.size := by have := hF.size; omega
                    have hne2 : wr.heap.size ≠ w.heap.size + 1 := by omega
                    have r0 : R6 V 0 (w.heap.size + 1) wr.heap.size w ((wr.alloc (.cells zu8_17 96)).setCells wr.heap.size 0 (row .u8 17 (fun _ => 0))) :=
                      ⟨(Has.all o0.there .u8 (fun _ => 0)).congr (fun j _ => (dg_nought 8 V j).symm), (hG.alloc _ (by omega)).setAll_other _ hne2 0 _, (hz.alloc _ (by omega)).setAll_other _ (by omega) 0 _, ⟨below_setAll (hF.alloc _).below _ (by omega) 0 _, by rw [size_setAll]; have := hF.size; simp; omega⟩⟩
                    have tok : True := trivial
                    clear hz hG hF
                    go_wp2_with (have _t := tok; refine wpList_store_mid rfl 96 _ _ rfl (wr.heap.size) 0 (row .u8 17 (fun _ => 0)).toArray rfl rfl (big_there (o0)) (big_info' _) (all_oneCell_toArray (row_one _ _ _)) ?_; clear tok)
                    generalize ((wr.alloc (.cells zu8_17 96)).setCells wr.heap.size 0 (row .u8 17 (fun _ => 0))) = wo at *
                    clear o0
                    generalize wr.heap.size = O at *
                    go_loopw [10] (fun i w' => ∃ k : Nat, k ≤ 130 ∧ i = .int .i64 k ∧ R6 V k (w.heap.size + 1) O w w') (fun i _ => 130 - (intOf i).toNat)
                    case atStart => exact ⟨0, by omega, rfl, r0⟩
                    case round =>
                      obtain ⟨k, hk, rfl, hI⟩ := hrel
                      clear r0
                      by_cases hlt : k < 130
                      · have HS := show Hid _ from fun x hx => hI.step hlt hO hne2 x hx
                        have d1 := hI.ho.cell (k / 8) (by omega)
                        have e1 := hI.ho.free (k / 8) (by omega)
                        have d2 := hI.hg.cell (k / 26) (by omega)
                        have HE := show Hid _ from bit_or V k
                        have g1 : (0 : Int) ≤ (k : Int) := by omega
                        have g2 : (k : Int) < 130 := by omega
                        have g3 : ((k : Int) / 8).toNat = k / 8 := by omega
                        have g4 : ((k : Int) / 26).toNat = k / 26 := by omega
                        have g5 : ((k : Int) % 8).toNat = k % 8 := by omega
                        have g6 : ((k : Int) % 26).toNat = k % 26 := by omega
                        clear hI
                        generalize dg 8 (V % 2 ^ k) (k / 8) = x at *
                        generalize dg 26 V (k / 26) = y at *
                        go_wp2
                        go_region
                        go_wp2
                        go_roundw
                        case rel => exact ⟨k + 1, by omega, by go_num, HS.out _ HE.out⟩
                        case measure => simp [intOf]; omega
                      · obtain rfl : k = 130 := by omega
                        have ho := hI.ho.congr (g := dg 8 V) (fun j _ => by rw [Nat.mod_eq_of_lt hV.1])
                        have hz := hI.hr
                        have hE : In 256 17 (dg 8 V) ∧ val 256 (dg 8 V) 17 = val D f n % Q := ⟨dg_in 8 V 17 256 (by decide), by rw [val_dgs 8 V 256 (by decide) 17, Nat.mod_eq_of_lt (Nat.lt_of_lt_of_le hV.1 (Nat.pow_le_pow_right (by decide) (by decide)))]; exact hV.2⟩
                        have HE := show Hid _ from hE
                        have hW := below_setAll hI.fr.below w.heap.size (Nat.le_refl _) 0 (row .u8 17 (dg 8 V))
                        clear hE hlt hk hI
                        generalize dg 8 V = g at *
                        go_wp2_with (first | (refine wpList_load_mid rfl 96 _ rfl (O) 0 rfl (row .u8 17 (g)) _ (Has.range (ho)) Tryz.underlying96 rfl (big_info _) ?_) | (refine wpList_store_mid rfl 96 _ _ rfl (w.heap.size) 0 (row .u8 17 (g)).toArray rfl rfl (big_there (hz)) (big_info' _) (all_oneCell_toArray (row_one _ _ _)) ?_))
                        exact bodyPost_ret (v := (.agg (row .u8 17 (g)).toArray)) (results_row Tryz.results97 rfl (Has.all hz.there .u8 g).range Tryz.underlying96 rfl (big_info g)) rfl ⟨g, rfl, HE.out, hW⟩
theorem dig_bound (N : Nat) : ∀ j, 0 ≤ dg 26 N j ∧ dg 26 N j < 67108864 := fun j => by
  have := dgN_lt 26 N j
  unfold dg
  omega
theorem dig_val (a : Nat → Int) (ha : In 256 17 a) : val D (dg 26 (nb a)) 6 = val 256 a 17 := by
  rw [val_dgs 26 (nb a) D (by decide) 6, Nat.mod_eq_of_lt (Nat.lt_of_lt_of_le (nb_lt a ha) (Nat.pow_le_pow_right (by decide) (by decide))), nb_val a ha]
theorem refCanon_any (a : Nat → Int) (ha : In 256 17 a) (w : World) :
    Calls Tryz.prog 98 #[(.agg (row .u8 17 (a)).toArray)] w fun e w' => ∃ f : Nat → Int, e = .returned (.agg (row .u8 17 (f)).toArray) ∧ (In 256 17 f ∧ val 256 f 17 = val 256 a 17 % Q) ∧ Below w.heap.size w w' := by
  have a0 : Has ((w.alloc (.cells (row .u8 17 a).toArray 96)).alloc (.cells zu8_17 96)) w.heap.size .u8 17 a := (Has.new w _ _ _ _ _ rfl).alloc _ (by simp)
  have z0 : Has ((w.alloc (.cells (row .u8 17 a).toArray 96)).alloc (.cells zu8_17 96)) (w.heap.size + 1) .u8 17 (fun _ => 0) := big_zero _ _ _ (by simp)
  have g0 : Fr w 2 ((w.alloc (.cells (row .u8 17 a).toArray 96)).alloc (.cells zu8_17 96)) := ((Fr.refl w).alloc _).alloc _
  go_enter Tryz.func98, Tryz.ntmps98
  go_wp2_with (refine wpList_load_mid rfl 96 _ rfl (w.heap.size) 0 rfl (row .u8 17 (a)) _ (Has.range (a0)) Tryz.underlying96 rfl (big_info _) ?_)
  refine (digits_any a ha _).mono ?_
  rintro e w1 ⟨B, rfl, hB, l1⟩
  have g1 := g0.call l1
  have z1 := z0.call g0 l1 (by omega)
  go_wp2_with fail
  refine (reduce_any 6 B (dg 26 (nb a)) _ (Or.inl rfl) (fun j _ => by have := dig_bound (nb a) j; omega) hB.2.1 hB.2.2).mono ?_
  rintro e w2 ⟨f, rfl, s2, l2⟩
  have z2 := z1.call g1 l2 (by omega)
  have hE : In 256 17 f ∧ val 256 f 17 = val 256 a 17 % Q := ⟨s2.1, by rw [s2.2, dig_val a ha]⟩
  have HE := show Hid _ from hE
  have hL := ((g1.call l2).setAll (w.heap.size + 1) (by omega) (row .u8 17 f)).below
  clear hE s2 hB
  go_wp2_with (refine wpList_store_mid rfl 96 _ _ rfl (w.heap.size + 1) 0 (row .u8 17 (f)).toArray rfl rfl (big_there (z2)) (big_info' _) (all_oneCell_toArray (row_one _ _ _)) ?_)
  exact bodyPost_ret (v := (.agg (row .u8 17 (f)).toArray)) (results_row Tryz.results98 rfl (Has.all z2.there .u8 f).range Tryz.underlying96 rfl (big_info f)) rfl ⟨f, rfl, HE.out, hL⟩
structure Two (a b : Nat → Int) (w w' : World) : Prop where
  ha : Has w' w.heap.size .u8 17 a
  hb : Has w' (w.heap.size + 1) .u8 17 b
  hr : w'.there (w.heap.size + 1 + 1) 0 17
  fr : Fr w 3 w'
theorem Two.call {a b : Nat → Int} {w w' w'' : World} (h : Two a b w w') (l : Below w'.heap.size w' w'') : Two a b w w'' :=
  ⟨h.ha.call h.fr l (by omega), h.hb.call h.fr l (by omega), there_below h.hr l (by have := h.fr.size; omega), h.fr.call l⟩
theorem Two.new (a b : Nat → Int) (w : World) : Two a b w (((w.alloc (.cells (row .u8 17 a).toArray 96)).alloc (.cells (row .u8 17 b).toArray 96)).alloc (.cells zu8_17 96)) :=
  ⟨((Has.new w _ _ _ _ _ rfl).alloc _ (by simp)).alloc _ (by simp; omega), (Has.new _ _ _ _ _ _ (by simp)).alloc _ (by simp), (big_zero _ _ _ (by simp)).there, (((Fr.refl w).alloc _).alloc _).alloc _⟩
theorem big_there' {w : World} {b : Nat} {g : Nat → Int} (h : w.there b 0 17) : w.there b 0 (row .u8 17 g).toArray.size := by rw [List.size_toArray, row_length]; exact h
def addTo (a b : Nat → Int) (k : Nat) : Nat → Int := fun j => if j < k then dg 26 (nb a) j + dg 26 (nb b) j else dg 26 (nb a) j
theorem addTo_step (a b : Nat → Int) (k : Nat) : ∀ j, upd (addTo a b k) k (addTo a b k k + dg 26 (nb b) k) j = addTo a b (k + 1) j := fun j => by
  unfold upd addTo
  by_cases e : j = k
  · subst e; simp
  · rw [if_neg e]
    by_cases h : j < k
    · rw [if_pos h, if_pos (by omega)]
    · rw [if_neg h, if_neg (by omega)]
theorem addTo_bound (a b : Nat → Int) (k j : Nat) : 0 ≤ addTo a b k j ∧ addTo a b k j < 134217728 := by
  have h1 := dig_bound (nb a) j
  have h2 := dig_bound (nb b) j
  unfold addTo
  split <;> omega
theorem addTo_val (a b : Nat → Int) (ha : In 256 17 a) (hb : In 256 17 b) : val D (addTo a b 6) 6 = val 256 a 17 + val 256 b 17 := by
  rw [← dig_val a ha, ← dig_val b hb]
  simp [val, addTo]
  simp only [D]
  omega
structure TU (f g : Nat → Int) (B1 B2 : Nat) (w w' : World) : Prop where
  h1 : Has w' B1 .i64 6 f
  h2 : Has w' B2 .i64 6 g
  hr : w'.there (w.heap.size + 1 + 1) 0 17
  fr : Fr w 3 w'
  hi : B1 < w'.heap.size
theorem TU.set {a b : Nat → Int} {B1 B2 : Nat} {w w' : World} {k : Nat} (h : TU (addTo a b k) (dg 26 (nb b)) B1 B2 w w') (lo : w.heap.size + 3 ≤ B1) (ne : B1 ≠ B2) (hk : k < 6) : TU (addTo a b (k + 1)) (dg 26 (nb b)) B1 B2 w ((w'.setCell ⟨B1, k, none⟩ (.int .i64 (addTo a b k k + dg 26 (nb b) k))).drew) := by
  refine ⟨(Has.congr (h.h1.set k hk _) fun j _ => addTo_step a b k j).drew, (h.h2.set_other _ _ (by simpa using ne)).drew, fun j hj => ?_, (h.fr.set _ _ (by simp; omega)).drew, by have := h.hi; simpa using this⟩
  have hne : (⟨B1, k, none⟩ : Addr) ≠ ⟨w.heap.size + 1 + 1, 0 + j, none⟩ := by intro h'; injection h'; omega
  show ((w'.setCell _ _).cell? _).isSome = true ∧ (w'.setCell _ _).frozen? _ = false
  rw [World.cell?_setCell_other _ _ _ _ hne, World.frozen?_setCell]; exact h.hr j hj
theorem refAdd_any (a b : Nat → Int) (ha : In 256 17 a) (hb : In 256 17 b) (w : World) :
    Calls Tryz.prog 78 #[(.agg (row .u8 17 (a)).toArray), (.agg (row .u8 17 (b)).toArray)] w fun e w' => ∃ f : Nat → Int, e = .returned (.agg (row .u8 17 (f)).toArray) ∧ (In 256 17 f ∧ val 256 f 17 = (val 256 a 17 + val 256 b 17) % Q) ∧ Below w.heap.size w w' := by
  have t0 := Two.new a b w
  have a0 := t0.ha
  go_enter Tryz.func78, Tryz.ntmps78
  go_wp2_with (refine wpList_load_mid rfl 96 _ rfl (w.heap.size) 0 rfl (row .u8 17 (a)) _ (Has.range (a0)) Tryz.underlying96 rfl (big_info _) ?_)
  refine (digits_any a ha _).mono ?_
  rintro e w1 ⟨B1, rfl, h1, l1⟩
  have t1 := t0.call l1
  have lo1 : w.heap.size + 3 ≤ B1 := by have := h1.1; simp at this; omega
  have b1 := t1.hb
  clear t0 a0 l1
  go_wp2_with (refine wpList_load_mid rfl 96 _ rfl (w.heap.size + 1) 0 rfl (row .u8 17 (b)) _ (Has.range (b1)) Tryz.underlying96 rfl (big_info _) ?_)
  refine (digits_any b hb _).mono ?_
  rintro e w2 ⟨B2, rfl, h2, l2⟩
  have t2 := t1.call l2
  have ne : B1 ≠ B2 := by have := h1.2.1; have := h2.1; omega
  have tu : TU (addTo a b 0) (dg 26 (nb b)) B1 B2 w w2 := ⟨(h1.2.2.below l2 h1.2.1).congr (fun j _ => by unfold addTo; simp), h2.2.2, t2.hr, t2.fr, by have := h1.2.1; have := l2.size; omega⟩
  clear t1 t2 b1 h1 h2 l2
  go_wp2
  go_loopw [7] (fun i w' => ∃ k : Nat, k ≤ 6 ∧ i = .int .i64 k ∧ TU (addTo a b k) (dg 26 (nb b)) B1 B2 w w') (fun i _ => 6 - (intOf i).toNat)
  case atStart => exact ⟨0, by omega, rfl, tu⟩
  case round =>
    obtain ⟨k, hk, rfl, hI⟩ := hrel
    clear tu
    by_cases hlt : k < 6
    · have HS := show Hid _ from hI.set lo1 ne hlt
      have c1 := hI.h1.cell k (by omega)
      have c2 := hI.h2.cell k (by omega)
      have f1 := hI.h1.free k (by omega)
      have i1 := addTo_bound a b k k
      have i2 := dig_bound (nb b) k
      have g1 : (0 : Int) ≤ (k : Int) := by omega
      have g2 : (k : Int) < 6 := by omega
      clear hI
      generalize addTo a b k k = x at *
      generalize dg 26 (nb b) k = y at *
      obtain ⟨x0, x1⟩ := i1
      obtain ⟨y0, y1⟩ := i2
      go_wp2
      go_region
      go_wp2
      go_roundw
      case rel => exact ⟨k + 1, by omega, by go_num, HS.out⟩
      case measure => simp [intOf]; omega
    · obtain rfl : k = 6 := by omega
      clear hlt hk
      go_wp2_with fail
      refine (reduce_any 6 B1 (addTo a b 6) _ (Or.inl rfl) (fun j _ => by have := addTo_bound a b 6 j; omega) hI.hi hI.h1).mono ?_
      rintro e w3 ⟨f, rfl, s3, l3⟩
      have hz := there_below hI.hr l3 (by have := hI.fr.size; omega)
      have hE : In 256 17 f ∧ val 256 f 17 = (val 256 a 17 + val 256 b 17) % Q := ⟨s3.1, by rw [s3.2, addTo_val a b ha hb]⟩
      have HE := show Hid _ from hE
      have hL := ((hI.fr.call l3).setAll (w.heap.size + 1 + 1) (by omega) (row .u8 17 f)).below
      clear hE s3 hI l3
      go_wp2_with (refine wpList_store_mid rfl 96 _ _ rfl (w.heap.size + 1 + 1) 0 (row .u8 17 f).toArray rfl rfl (big_there' hz) (big_info' _) (all_oneCell_toArray (row_one _ _ _)) ?_)
      exact bodyPost_ret (v := (.agg (row .u8 17 (f)).toArray)) (results_row Tryz.results78 rfl (Has.all hz .u8 f).range Tryz.underlying96 rfl (big_info f)) rfl ⟨f, rfl, HE.out, hL⟩
end Go.Proofs.YtgfpflcoknpbdaaGreatDoor
