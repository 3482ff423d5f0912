/- Texts of Bu Bv Bg Bd Bq Bc Bf Be Bh Bz, joined. -/
import Derived.Test.YtcdbkbcfjdpdoaaDoorG1
import Derived.Test.YtcdbkbcfjdpdoaaDoorG2
import Derived.Test.YtcdbkbcfjdpdoaaDoorProg
import Derived.Deep.Cut
namespace Go.Proofs.YtcdbkbcfjdpdoaaDoor
open Go.RowKit

theorem b32_shift (x : Int) (e : Nat) (he : e < 4) : IntKind.u8.wrap (x / 2 ^ (8 * e)) = b32 x e := by
  rw [IntKind.wrap_u8']
  match e, he with
  | 0, _ => show x / 1 % 256 = x % 256; rw [Int.ediv_one]
  | 1, _ => rfl
  | 2, _ => rfl
  | 3, _ => rfl

theorem appendOp2 {P : Program} {o : Oper} {a : Act} {w w' : World} (s x : Operand) (t u : TypeId) (v y r : Value) (ho : o.op = .call { callee := .builtin .append, args := #[s, x], argTypes := #[t, u] }) (hs : a.eval s = v) (hx : a.eval x = y) (hr : (Builtin.append_ #[t, u] o.type #[v, y]).run P w = .ok r w') :
    (execOp a.eval o).run P w = .ok (.value r) w' := by
  unfold execOp
  simp only [ho, resolve, invoke, builtin, Sem.run_bind, Sem.run_pure, Result.andThen_ok, List.map_toArray, List.map_cons, List.map_nil, hs, hx, hr]
theorem wrapQ (n : Int) (h0 : 0 ≤ n) (h : n < 18446744073709551616) : IntKind.u64.wrap n = n := by
  simp [IntKind.wrap, IntKind.bits, IntKind.signed]
  omega

set_option maxRecDepth 10000 in
set_option maxHeartbeats 4000000 in
theorem refSum_bad (kp : Option Addr) (kl kc : Nat) (size : Int) (sp : Option Addr) (len cap : Nat) (hbad : size < 1 ∨ 32 < size ∨ 32 < kl) (w : World) :
    Calls Tryd.prog 33 #[.slice kp kl kc, .int .i64 size, .slice sp len cap] w fun e w' => e = .returned (.tuple #[.slice none 0 0, .int .i64 1]) ∧ Below w.heap.size w w' := by
  have hB := Below.refl w.heap.size w
  by_cases h1 : size < 1
  · go_enter Tryd.func33, Tryd.ntmps33
    go_wp2
    go_ret2
    exact ⟨rfl, hB⟩
  · have h1' : ¬ size ≤ 0 := by omega
    by_cases h2 : 32 < size
    · have h2' : 33 ≤ size := by omega
      go_enter Tryd.func33, Tryd.ntmps33
      go_wp2
      go_ret2
      exact ⟨rfl, hB⟩
    · have h3 : (32 : Int) < (kl : Int) := by omega
      have h2' : ¬ 33 ≤ size := by omega
      have h3' : (33 : Int) ≤ (kl : Int) := by omega
      go_enter Tryd.func33, Tryd.ntmps33
      go_wp2
      go_ret2
      exact ⟨rfl, hB⟩

theorem btx_pad (kl : Nat) (key : Nat → Int) (len : Nat) (z : Nat → Int) (j : Nat) (h : btl kl len ≤ j) : btx kl key len z j = 0 := by
  unfold btl at h
  unfold btx
  by_cases e : kl = 0
  · rw [if_pos e] at h ⊢
    rw [if_neg (by omega)]
  · rw [if_neg e] at h ⊢
    rw [if_neg (by omega), if_neg (by omega)]
theorem shr_min (x : Int) (e : Nat) (he : e < 4) : x / 2 ^ min (((8 * e : Nat) : Int)).toNat IntKind.u32.bits = x / 2 ^ (8 * e) := by
  rw [Int.toNat_natCast, Nat.min_eq_left (by show 8 * e ≤ 32; omega)]
set_option maxRecDepth 10000 in
set_option maxHeartbeats 16000000 in
theorem refSum_good (kp : Option Addr) (kl kc : Nat) (key : Nat → Int) (hkl : kl ≤ 32) (hkk : In 256 kl key) (hkn : kp = none → kc = 0) (size : Nat) (hs1 : 1 ≤ size) (hs2 : size ≤ 32) (sp : Option Addr) (len cap : Nat) (hlen : len ≤ 140737488355072) (hn0 : sp = none → cap = 0) (z : Nat → Int) (hz : In 256 len z) (w : World) (hks : Src w kp kl key) (hs : Src w sp len z) :
    Calls Tryd.prog 33 #[.slice kp kl kc, .int .i64 (size : Int), .slice sp len cap] w fun e w' => ∃ sp' cap', e = .returned (.tuple #[.slice sp' size cap', .int .i64 0]) ∧ (size ≤ cap' ∧ Src w' sp' size (bsum kl key size len z)) ∧ Below w.heap.size w w' := by
  have h1 : ¬ (size : Int) < 1 := by omega
  have h1' : ¬ (size : Int) ≤ 0 := by omega
  have h2 : ¬ 32 < (size : Int) := by omega
  have h2' : ¬ 33 ≤ (size : Int) := by omega
  have h3 : ¬ (32 : Int) < (kl : Int) := by omega
  have h3' : ¬ (33 : Int) ≤ (kl : Int) := by omega
  have K := Kr.init w
  go_enter Tryd.func33, Tryd.ntmps33
  go_upto_region 3 with fail
  refine wp_region_list ?_
  refine callL rfl (fun _ => by kernel_rfl) (refStart_any _) ?_
  rintro e w1 ⟨S, rfl, ⟨hS1, hS2, HS⟩, l⟩
  replace K := (K.call l).own hS1 hS2 HS
  clear l HS
  refine ⟨_, rfl, ?_⟩
  simp only [Act.put, List.setIfInBounds_toArray, List.set_cons_zero, List.set_cons_succ]
  refine pureL (.slice (some ⟨S, 0, none⟩) 8 8) rfl (fun _ => by kernel_rfl) ?_
  simp only [Act.put, List.setIfInBounds_toArray, List.set_cons_zero, List.set_cons_succ]
  show Exit.then _ _ _ _ _
  go_upto_region 4 with fail
  refine wp_region_list ?_
  refine pureL (.slice (some ⟨S, 0, none⟩) 8 8) rfl (fun _ => by kernel_rfl) ?_
  simp only [Act.put, List.setIfInBounds_toArray, List.set_cons_zero, List.set_cons_succ]
  refine pureL (.slice (some ⟨S, 0, none⟩) 8 8) rfl (fun _ => by kernel_rfl) ?_
  simp only [Act.put, List.setIfInBounds_toArray, List.set_cons_zero, List.set_cons_succ]
  refine pureL (.pointer (some ⟨S, 0, none⟩)) rfl (fun w' => idxW S 8 8 0 (by decide) w' _ _ rfl rfl rfl) ?_
  simp only [Act.put, List.setIfInBounds_toArray, List.set_cons_zero, List.set_cons_succ]
  refine cellL .u32 (.int .u32 (iv 0)) S 0 42 _ rfl rfl rfl Tryd.underlying42 ((K.get _ _ _ _ List.mem_cons_self).cell 0 (by decide)) ?_
  simp only [Act.put, List.setIfInBounds_toArray, List.set_cons_zero, List.set_cons_succ]
  refine pureL (.int .u32 (hxr (iv 0) 16842752)) rfl (fun w => xorI .u32 _ _ _ _ _ _ _ rfl rfl rfl rfl w) ?_
  simp only [Act.put, List.setIfInBounds_toArray, List.set_cons_zero, List.set_cons_succ]
  refine pureL (.slice kp kl kc) rfl (fun _ => by kernel_rfl) ?_
  simp only [Act.put, List.setIfInBounds_toArray, List.set_cons_zero, List.set_cons_succ]
  refine pureL (.int .i64 (kl : Int)) rfl (fun w => lenS _ 22 5 kp kl kc rfl Tryd.underlying22 rfl w) ?_
  simp only [Act.put, List.setIfInBounds_toArray, List.set_cons_zero, List.set_cons_succ]
  refine pureL (.int .i64 (256 * (kl : Int))) rfl (fun w => mulI .i64 _ _ _ _ _ _ _ rfl rfl rfl (by rw [IntKind.wrap_i64]; omega) w) ?_
  simp only [Act.put, List.setIfInBounds_toArray, List.set_cons_zero, List.set_cons_succ]
  refine pureL (.int .u32 (256 * (kl : Int))) rfl (fun w => convI .i64 .u32 _ _ _ _ _ rfl (by kernel_rfl) Tryd.underlying42 (by kernel_rfl) rfl (by rw [IntKind.wrap_u32']; omega) w) ?_
  simp only [Act.put, List.setIfInBounds_toArray, List.set_cons_zero, List.set_cons_succ]
  refine pureL (.int .u32 (hxr (hxr (iv 0) 16842752) (256 * (kl : Int)))) rfl (fun w => xorI .u32 _ _ _ _ _ _ _ rfl rfl rfl rfl w) ?_
  simp only [Act.put, List.setIfInBounds_toArray, List.set_cons_zero, List.set_cons_succ]
  refine pureL (.int .i64 (size : Int)) rfl (fun _ => by kernel_rfl) ?_
  simp only [Act.put, List.setIfInBounds_toArray, List.set_cons_zero, List.set_cons_succ]
  refine pureL (.int .u32 (size : Int)) rfl (fun w => convI .i64 .u32 _ _ _ _ _ rfl (by kernel_rfl) Tryd.underlying42 (by kernel_rfl) rfl (by rw [IntKind.wrap_u32']; omega) w) ?_
  simp only [Act.put, List.setIfInBounds_toArray, List.set_cons_zero, List.set_cons_succ]
  refine pureL (.int .u32 (hxr (hxr (hxr (iv 0) 16842752) (256 * (kl : Int))) (size : Int))) rfl (fun w => xorI .u32 _ _ _ _ _ _ _ rfl rfl rfl rfl w) ?_
  simp only [Act.put, List.setIfInBounds_toArray, List.set_cons_zero, List.set_cons_succ]
  refine pureL (.pointer (some ⟨S, 0, none⟩)) rfl (fun w' => idxW S 8 8 0 (by decide) w' _ _ rfl rfl rfl) ?_
  simp only [Act.put, List.setIfInBounds_toArray, List.set_cons_zero, List.set_cons_succ]
  refine storeL .u32 (hxr (hxr (hxr (iv 0) 16842752) (256 * (kl : Int))) (size : Int)) S 0 42 _ _ rfl rfl rfl rfl (by rw [(K.get _ _ _ _ List.mem_cons_self).cell 0 (by decide)]; rfl) ((K.get _ _ _ _ List.mem_cons_self).free 0 (by decide)) (by kernel_rfl) ?_
  simp only [Act.put]
  replace K : Kr w w1.heap.size [(S, .u32, 8, bh0 kl size)] [] (w1.setCell ⟨S, 0, none⟩ (.int .u32 (hxr (hxr (hxr (iv 0) 16842752) (256 * (kl : Int))) (size : Int)))) := K.setCell [] S .u32 8 iv 0 (by decide) (hxr (hxr (hxr (iv 0) 16842752) (256 * (kl : Int))) (size : Int)) List.mem_cons_self (fun _ hp => by cases hp) (fun _ hp => by cases hp) hS1
  generalize w1.setCell ⟨S, 0, none⟩ (.int .u32 (hxr (hxr (hxr (iv 0) 16842752) (256 * (kl : Int))) (size : Int))) = w2 at K ⊢
  show Exit.then _ _ _ _ _
  go_upto_region 5 with fail
  refine wp_region_list ?_
  refine actL (w' := w2.alloc (.cells #[] 5)) (.slice (some ⟨w2.heap.size, 0, none⟩) 0 0) rfl (by kernel_rfl) ?_
  simp only [Act.put, List.setIfInBounds_toArray, List.set_cons_zero, List.set_cons_succ]
  refine pureL (.slice (some ⟨w2.heap.size, 0, none⟩) 0 0) rfl (fun _ => by kernel_rfl) ?_
  simp only [Act.put, List.setIfInBounds_toArray, List.set_cons_zero, List.set_cons_succ]
  have HT : Own (w2.alloc (.cells #[] 5)) w1.heap.size 5 .u8 0 (btx kl key len z) (.slice (some ⟨w2.heap.size, 0, none⟩) 0 0) := Own.lit w2 w1.heap.size 5 .u8 0 (btx kl key len z) K.size (by unfold maxLen; omega)
  replace K := K.call ((Below.refl w2.heap.size w2).alloc (Nat.le_refl _) (.cells #[] 5))
  generalize w2.alloc (.cells #[] 5) = w3 at K HT ⊢
  generalize Value.slice (some ⟨w2.heap.size, 0, none⟩) 0 0 = tv at HT ⊢
  generalize w1.heap.size = B at K HT hS2
  show Exit.then _ _ _ _ _
  by_cases hk0 : kl = 0
  · obtain rfl : kl = 0 := hk0
    have hk0 : (0 : Nat) = 0 := rfl
    by_cases hl0 : len = 0
    · obtain rfl : len = 0 := hl0
      obtain ⟨ts, tc, rfl, _, _⟩ := HT.bytes
      go_upto_region 8 with fail
      refine wp_region_list ?_
      refine pureL (.slice ts 0 tc) rfl (fun _ => by kernel_rfl) ?_
      simp only [Act.put, List.setIfInBounds_toArray, List.set_cons_zero, List.set_cons_succ]
      refine pureL (.slice sp 0 cap) rfl (fun _ => by kernel_rfl) ?_
      simp only [Act.put, List.setIfInBounds_toArray, List.set_cons_zero, List.set_cons_succ]
      obtain ⟨v, w4, hr, ho, hg, _⟩ := run_append_Own (P := Tryd.prog) (ty := 22) Tryd.underlying22 one8 HT sp 0 cap z (hs.below K.below (Nat.le_refl _)) hn0 (by unfold maxLen; omega) (by omega) K.size
      replace K := K.grown hg (fun b hb => (World.ownsRow.lt HT b hb).1)
      refine actL v rfl (appendOp _ _ 22 _ _ _ rfl rfl rfl hr) ?_
      simp only [Act.put, List.setIfInBounds_toArray, List.set_cons_zero, List.set_cons_succ]
      refine pureL v rfl (fun _ => by kernel_rfl) ?_
      simp only [Act.put, List.setIfInBounds_toArray, List.set_cons_zero, List.set_cons_succ]
      replace HT : Own w4 B 5 .u8 (btl 0 0) (btx 0 key 0 z) v := by
        have e : 0 + 0 = btl 0 0 := by unfold btl; rw [if_pos hk0]
        rw [← e]
        exact ho.congr fun j hj => absurd hj (Nat.not_lt_zero j)

      clear hr ho hg
      obtain ⟨ts, tc, rfl, _, _⟩ := HT.bytes
      show Exit.then _ _ _ _ _
      go_upto_region 9 with fail
      refine wp_region_list ?_
      refine pureL (.slice ts (btl 0 0) tc) rfl (fun _ => by kernel_rfl) ?_
      simp only [Act.put, List.setIfInBounds_toArray, List.set_cons_zero, List.set_cons_succ]
      refine pureL (.int .i64 0) rfl (fun w => lenS _ 22 5 ts (btl 0 0) tc rfl Tryd.underlying22 rfl w) ?_
      simp only [Act.put, List.setIfInBounds_toArray, List.set_cons_zero, List.set_cons_succ]
      refine pureL (.int .i64 0) rfl (fun _ => by kernel_rfl) ?_
      simp only [Act.put, List.setIfInBounds_toArray, List.set_cons_zero, List.set_cons_succ]
      generalize Value.slice ts (btl 0 0) tc = tv at HT ⊢
      show Exit.then _ _ _ _ _
      replace HT : Own w4 B 5 .u8 0 (btx 0 key 0 z) tv := HT
      go_wp2
      go_loopw [9] (fun tw w' => ∃ (n : Nat) (v : Value), v = tw ∧ n < 64 ∧ Own w' B 5 .u8 n (btx 0 key 0 z) v ∧ Kr w B [(S, .u32, 8, bh0 0 size)] [] w') (fun tw _ => 64 - slen tw)
      case atStart => exact ⟨0, _, rfl, by omega, HT, K⟩
      case round =>
        clear K HT
        obtain ⟨n, v, rfl, hn1, HT, K⟩ := hrel
        obtain ⟨ts, tc, rfl, _, _⟩ := HT.bytes
        have hpz : btl 0 0 ≤ n := Nat.zero_le n
        go_upto_region 11 with fail
        refine wp_region_list ?_
        refine pureL (.slice ts n tc) rfl (fun _ => by kernel_rfl) ?_
        simp only [Act.put, List.setIfInBounds_toArray, List.set_cons_zero, List.set_cons_succ]
        refine actL (w' := wr.alloc (.cells #[.int .u8 0] 5)) (.slice (some ⟨wr.heap.size, 0, none⟩) 1 1) rfl (by kernel_rfl) ?_
        simp only [Act.put, List.setIfInBounds_toArray, List.set_cons_zero, List.set_cons_succ]
        obtain ⟨v, w5, hr, ho, hg⟩ := HT.more8 (by omega) 0 (btx_pad 0 key 0 z n hpz) 22 K.size
        replace K := (K.call ((Below.refl wr.heap.size wr).alloc (Nat.le_refl _) (.cells #[.int .u8 0] 5))).grown hg (fun b hb => (World.ownsRow.lt HT b hb).1)
        refine actL v rfl (appendOp _ _ 22 _ _ _ rfl rfl rfl hr) ?_
        simp only [Act.put, List.setIfInBounds_toArray, List.set_cons_zero, List.set_cons_succ]
        refine pureL v rfl (fun _ => by kernel_rfl) ?_
        simp only [Act.put, List.setIfInBounds_toArray, List.set_cons_zero, List.set_cons_succ]
        show Exit.then _ _ _ _ _
        obtain ⟨ts2, tc2, rfl, _, _⟩ := ho.bytes
        replace HT := ho
        clear hr ho hg hpz
        by_cases hm : n + 1 = 64
        · obtain rfl : n = 63 := by omega
          clear hm hn1
          replace HT : Own w5 B 5 .u8 64 (btx 0 key 0 z) (.slice ts2 64 tc2) := HT
          obtain ⟨_, _, hve, htcap, hsrc⟩ := HT.bytes
          injection hve with hve1 _ hve3
          subst hve1 hve3
          have hN1 : 64 ≤ 64 * bnb 0 0 := by decide
          have hN2 : 64 * bnb 0 0 ≤ 64 := by decide
          have hbt2 : btl 0 0 ≤ 0 := by decide
          have hA := K.get _ _ _ _ List.mem_cons_self
          have hAl := Nat.lt_of_lt_of_le (K.rows _ List.mem_cons_self).2 K.size
          have hB := K.below
          clear K HT
          go_wp2
          go_loopw [8, 11] (fun hw i w' => ∃ (p A capA : Nat), p ≤ bnb 0 0 ∧ i = .int .i64 (64 * (p : Int)) ∧ hw = .slice (some ⟨A, 0, none⟩) 8 capA ∧ Has w' A .u32 8 (bH 0 key size 0 z p) ∧ A < w'.heap.size ∧ Src w' ts2 64 (btx 0 key 0 z) ∧ Below w.heap.size w w') (fun _ i _ => 64 - (intOf i).toNat)
          case atStart => exact ⟨0, S, 8, by omega, rfl, rfl, hA, hAl, hsrc, hB⟩
          case round =>
            clear hA hAl hsrc hB
            obtain ⟨p, A, capA, hp, rfl, rfl, hA, hAl, hsrc, hB⟩ := hrel
            have g1 : (0 : Int) ≤ 64 * (p : Int) := by omega
            by_cases hlt : p < bnb 0 0
            · have g2 : 64 * (p : Int) < 64 := by omega
              obtain ⟨D, hD⟩ : ∃ D : Nat, D = min (64 * p + 64) (btl 0 0) := ⟨_, rfl⟩
              have hm : (if (0 : Int) < 64 * (p : Int) + 64 then (0 : Int) else 64 * (p : Int) + 64) = (D : Int) := by rw [hD]; split <;> omega
              obtain ⟨sq, hq1, hq2⟩ := cut_lh (P := Tryd.prog) (t := 22) (by kernel_rfl) (fun _ => by kernel_rfl) ts2 64 tc2 (64 * p) (64 * p + 64) (by omega) (by omega) htcap
              have hpc : 64 * p + 64 - 64 * p = 64 := by omega
              rw [hpc] at hq1 hq2
              have ec : ((64 * p : Nat) : Int) = 64 * (p : Int) := by omega
              have ec2 : ((64 * p + 64 : Nat) : Int) = 64 * (p : Int) + 64 := by omega
              rw [ec, ec2] at hq1
              have hla : (64 * (p : Int) + 64 == 64) = decide (p + 1 = bnb 0 0) := by
                by_cases e : p + 1 = bnb 0 0
                · rw [decide_eq_true e]; simp; omega
                · rw [decide_eq_false e]; simp; omega
              go_upto_region 16 with fail
              refine wp_region_list ?_
              refine pureL (.int .i64 (64 * (p : Int))) rfl (fun _ => by kernel_rfl) ?_
              simp only [Act.put, List.setIfInBounds_toArray, List.set_cons_zero, List.set_cons_succ]
              refine pureL (.int .i64 (64 * (p : Int) + 64)) rfl (fun w => addI .i64 _ _ _ _ _ _ _ rfl rfl rfl (by rw [IntKind.wrap_i64]; omega) w) ?_
              simp only [Act.put, List.setIfInBounds_toArray, List.set_cons_zero, List.set_cons_succ]
              refine pureL (.int .i64 0) rfl (fun _ => by kernel_rfl) ?_
              simp only [Act.put, List.setIfInBounds_toArray, List.set_cons_zero, List.set_cons_succ]
              refine pureL (.int .i64 (D : Int)) rfl (fun w => minI .i64 .i64 _ _ _ _ _ _ _ rfl rfl rfl hm w) ?_
              simp only [Act.put, List.setIfInBounds_toArray, List.set_cons_zero, List.set_cons_succ]
              refine pureL (.int .i64 (D : Int)) rfl (fun _ => by kernel_rfl) ?_
              simp only [Act.put, List.setIfInBounds_toArray, List.set_cons_zero, List.set_cons_succ]
              show Exit.then _ _ _ _ _
              go_upto_region 17 with fail
              refine wp_region_list ?_
              refine pureL (.slice (some ⟨A, 0, none⟩) 8 capA) rfl (fun _ => by kernel_rfl) ?_
              simp only [Act.put, List.setIfInBounds_toArray, List.set_cons_zero, List.set_cons_succ]
              refine pureL (.slice ts2 64 tc2) rfl (fun _ => by kernel_rfl) ?_
              simp only [Act.put, List.setIfInBounds_toArray, List.set_cons_zero, List.set_cons_succ]
              refine pureL (.int .i64 (64 * (p : Int))) rfl (fun _ => by kernel_rfl) ?_
              simp only [Act.put, List.setIfInBounds_toArray, List.set_cons_zero, List.set_cons_succ]
              refine pureL (.int .i64 (64 * (p : Int))) rfl (fun _ => by kernel_rfl) ?_
              simp only [Act.put, List.setIfInBounds_toArray, List.set_cons_zero, List.set_cons_succ]
              refine pureL (.int .i64 (64 * (p : Int) + 64)) rfl (fun w => addI .i64 _ _ _ _ _ _ _ rfl rfl rfl (by rw [IntKind.wrap_i64]; omega) w) ?_
              simp only [Act.put, List.setIfInBounds_toArray, List.set_cons_zero, List.set_cons_succ]
              refine pureL (.slice sq 64 (tc2 - 64 * p)) rfl (fun w => cutLHop _ _ _ _ _ _ _ _ rfl rfl rfl rfl (hq1 w)) ?_
              simp only [Act.put, List.setIfInBounds_toArray, List.set_cons_zero, List.set_cons_succ]
              refine pureL (.int .i64 (D : Int)) rfl (fun _ => by kernel_rfl) ?_
              simp only [Act.put, List.setIfInBounds_toArray, List.set_cons_zero, List.set_cons_succ]
              refine pureL (.int .u64 (D : Int)) rfl (fun w => convI .i64 .u64 _ _ _ _ _ rfl (by kernel_rfl) Tryd.underlying52 (by kernel_rfl) rfl (wrapQ _ (by omega) (by omega)) w) ?_
              simp only [Act.put, List.setIfInBounds_toArray, List.set_cons_zero, List.set_cons_succ]
              refine pureL (.int .i64 (64 * (p : Int))) rfl (fun _ => by kernel_rfl) ?_
              simp only [Act.put, List.setIfInBounds_toArray, List.set_cons_zero, List.set_cons_succ]
              refine pureL (.int .i64 (64 * (p : Int) + 64)) rfl (fun w => addI .i64 _ _ _ _ _ _ _ rfl rfl rfl (by rw [IntKind.wrap_i64]; omega) w) ?_
              simp only [Act.put, List.setIfInBounds_toArray, List.set_cons_zero, List.set_cons_succ]
              refine pureL (.slice ts2 64 tc2) rfl (fun _ => by kernel_rfl) ?_
              simp only [Act.put, List.setIfInBounds_toArray, List.set_cons_zero, List.set_cons_succ]
              refine pureL (.int .i64 64) rfl (fun w => lenS _ 22 5 ts2 64 tc2 rfl Tryd.underlying22 rfl w) ?_
              simp only [Act.put, List.setIfInBounds_toArray, List.set_cons_zero, List.set_cons_succ]
              refine pureL (.bool (decide (p + 1 = bnb 0 0))) rfl (fun w => eqlI .i64 _ _ _ _ _ _ rfl rfl rfl _ hla w) ?_
              simp only [Act.put, List.setIfInBounds_toArray, List.set_cons_zero, List.set_cons_succ]
              refine callL rfl (fun _ => by kernel_rfl) (refPress_any (bH 0 key size 0 z p) (bH_in 0 key size 0 z hkl hs2 p) A capA sq (tc2 - 64 * p) (fun j => (btx 0 key 0 z) (64 * p + j)) (fun j _ => btx_in 0 key 0 z hkk hz _) (D : Int) (by omega) (decide (p + 1 = bnb 0 0)) _ hA hAl (hq2 _ _ hsrc)) ?_
              rintro e w7 ⟨O, cap2, rfl, ⟨hO1, hO2, HO⟩, l⟩
              replace hsrc := hsrc.below l (Nat.le_refl _)
              replace hB := hB.trans (l.mono hB.size)
              refine ⟨_, rfl, ?_⟩
              simp only [Act.put, List.setIfInBounds_toArray, List.set_cons_zero, List.set_cons_succ]
              refine pureL (.slice (some ⟨O, 0, none⟩) 8 cap2) rfl (fun _ => by kernel_rfl) ?_
              simp only [Act.put, List.setIfInBounds_toArray, List.set_cons_zero, List.set_cons_succ]
              show Exit.inBlock _ _ _ _ _
              rw [hD] at HO
              have HS := show Hid _ from (And.intro (show Has w7 O .u32 8 (bH 0 key size 0 z (p + 1)) from HO) (And.intro hO2 (And.intro hsrc hB)))
              clear HO hsrc hB hA hAl hm hq1 hq2 hpc ec ec2 hla hD l
              go_wp2
              go_roundw
              case rel => first | exact ⟨p + 1, O, cap2, by omega, by go_num, rfl, HS.out⟩ | ((repeat apply Exists.intro); refine ⟨⟨p + 1, O, cap2, by omega, by go_num, rfl, HS.out⟩, rfl⟩)
              case measure => simp [intOf]; omega
            · obtain rfl : p = bnb 0 0 := by omega
              have K : Kr w wr.heap.size [(A, .u32, 8, bH 0 key size 0 z (bnb 0 0))] [] wr := ⟨fun p hp => by obtain rfl := List.mem_singleton.1 hp; exact ⟨hA, hAl⟩, fun _ h => (by cases h), fun _ _ _ h => (by cases h), Nat.le_refl _, hB.size, hB⟩
              have hbs : ∀ n, b32 (bH 0 key size 0 z (bnb 0 0) (n / 4)) (n % 4) = bsum 0 key size 0 z n := fun _ => rfl
              clear hA hAl hsrc hB
              generalize bH 0 key size 0 z (bnb 0 0) = F at K hbs
              generalize hG : bsum 0 key size 0 z = G at hbs
              replace hG := show Hid _ from hG
              go_upto_region 18 with fail
              refine wp_region_list ?_
              refine actL (w' := wr.alloc (.cells #[] 5)) (.slice (some ⟨wr.heap.size, 0, none⟩) 0 0) rfl (by kernel_rfl) ?_
              simp only [Act.put, List.setIfInBounds_toArray, List.set_cons_zero, List.set_cons_succ]
              refine pureL (.slice (some ⟨wr.heap.size, 0, none⟩) 0 0) rfl (fun _ => by kernel_rfl) ?_
              simp only [Act.put, List.setIfInBounds_toArray, List.set_cons_zero, List.set_cons_succ]
              have HO : Own (wr.alloc (.cells #[] 5)) wr.heap.size 5 .u8 0 G (.slice (some ⟨wr.heap.size, 0, none⟩) 0 0) := Own.lit wr wr.heap.size 5 .u8 0 G (Nat.le_refl _) (by unfold maxLen; omega)
              replace K := K.call ((Below.refl wr.heap.size wr).alloc (Nat.le_refl _) (.cells #[] 5))
              generalize wr.alloc (.cells #[] 5) = w8 at K HO ⊢
              generalize Value.slice (some ⟨wr.heap.size, 0, none⟩) 0 0 = ov0 at HO ⊢
              generalize wr.heap.size = B2 at K HO
              show Exit.then _ _ _ _ _
              go_wp2
              go_loopw [13, 14] (fun ow i w' => ∃ (n : Nat) (ov : Value), n ≤ size ∧ i = .int .i64 (n : Int) ∧ ov = ow ∧ Own w' B2 5 .u8 n G ov ∧ Kr w B2 [(A, .u32, 8, F)] [] w') (fun _ i _ => size - (intOf i).toNat)
              case atStart => exact ⟨0, _, by omega, rfl, rfl, HO, K⟩
              case round =>
                clear K HO
                obtain ⟨n, ov, hn, rfl, rfl, HO, K⟩ := hrel
                have g3 : (0 : Int) ≤ (n : Int) := by omega
                by_cases hlt2 : n < size
                · have g4 : (n : Int) < (size : Int) := by omega
                  go_upto_region 22 with fail
                  refine wp_region_list ?_
                  refine pureL ov rfl (fun _ => by kernel_rfl) ?_
                  simp only [Act.put, List.setIfInBounds_toArray, List.set_cons_zero, List.set_cons_succ]
                  refine pureL (.slice (some ⟨A, 0, none⟩) 8 capA) rfl (fun _ => by kernel_rfl) ?_
                  simp only [Act.put, List.setIfInBounds_toArray, List.set_cons_zero, List.set_cons_succ]
                  refine pureL (.int .i64 (n : Int)) rfl (fun _ => by kernel_rfl) ?_
                  simp only [Act.put, List.setIfInBounds_toArray, List.set_cons_zero, List.set_cons_succ]
                  refine pureL (.int .i64 ((n / 4 : Nat) : Int)) rfl (fun w => quoI .i64 _ _ _ _ _ _ _ rfl rfl rfl (by decide) (by rw [Int.tdiv_eq_ediv_of_nonneg g3, IntKind.wrap_i64]; omega) w) ?_
                  simp only [Act.put, List.setIfInBounds_toArray, List.set_cons_zero, List.set_cons_succ]
                  refine pureL (.pointer (some ⟨A, n / 4, none⟩)) rfl (fun w' => idxW A 8 capA (n / 4) (by omega) w' _ _ rfl rfl rfl) ?_
                  simp only [Act.put, List.setIfInBounds_toArray, List.set_cons_zero, List.set_cons_succ]
                  refine cellL .u32 (.int .u32 (F (n / 4))) A (n / 4) 42 _ rfl rfl rfl Tryd.underlying42 ((K.get _ _ _ _ List.mem_cons_self).cell (n / 4) (by omega)) ?_
                  simp only [Act.put, List.setIfInBounds_toArray, List.set_cons_zero, List.set_cons_succ]
                  refine pureL (.int .i64 (n : Int)) rfl (fun _ => by kernel_rfl) ?_
                  simp only [Act.put, List.setIfInBounds_toArray, List.set_cons_zero, List.set_cons_succ]
                  refine pureL (.int .i64 ((n % 4 : Nat) : Int)) rfl (fun w => remI .i64 _ _ _ _ _ _ _ rfl rfl rfl (by decide) (by rw [Int.tmod_eq_emod_of_nonneg g3]; omega) w) ?_
                  simp only [Act.put, List.setIfInBounds_toArray, List.set_cons_zero, List.set_cons_succ]
                  refine pureL (.int .i64 ((8 * (n % 4) : Nat) : Int)) rfl (fun w => mulI .i64 _ _ _ _ _ _ _ rfl rfl rfl (by rw [IntKind.wrap_i64]; omega) w) ?_
                  simp only [Act.put, List.setIfInBounds_toArray, List.set_cons_zero, List.set_cons_succ]
                  refine pureL (.int .u32 (F (n / 4) / 2 ^ (8 * (n % 4)))) rfl (fun w => shrI .u32 .i64 _ _ _ _ _ _ _ rfl rfl rfl (by omega) (shr_min _ _ (Nat.mod_lt _ (by decide))) w) ?_
                  simp only [Act.put, List.setIfInBounds_toArray, List.set_cons_zero, List.set_cons_succ]
                  refine pureL (.int .u8 (G n)) rfl (fun w => convI .u32 .u8 _ _ _ _ _ rfl (by kernel_rfl) Tryd.underlying5 (by kernel_rfl) rfl ((b32_shift _ _ (Nat.mod_lt _ (by decide))).trans (hbs n)) w) ?_
                  simp only [Act.put, List.setIfInBounds_toArray, List.set_cons_zero, List.set_cons_succ]
                  refine actL (w' := wr.alloc (.cells #[.int .u8 (G n)] 5)) (.slice (some ⟨wr.heap.size, 0, none⟩) 1 1) rfl (by kernel_rfl) ?_
                  simp only [Act.put, List.setIfInBounds_toArray, List.set_cons_zero, List.set_cons_succ]
                  obtain ⟨v, w9, hr, ho, hg⟩ := HO.more8 (by omega) (G n) rfl 22 K.size
                  replace K := (K.call ((Below.refl wr.heap.size wr).alloc (Nat.le_refl _) (.cells #[.int .u8 (G n)] 5))).grown hg (fun b hb => (World.ownsRow.lt HO b hb).1)
                  refine actL v rfl (appendOp _ _ 22 _ _ _ rfl rfl rfl hr) ?_
                  simp only [Act.put, List.setIfInBounds_toArray, List.set_cons_zero, List.set_cons_succ]
                  refine pureL v rfl (fun _ => by kernel_rfl) ?_
                  simp only [Act.put, List.setIfInBounds_toArray, List.set_cons_zero, List.set_cons_succ]
                  show Exit.inBlock _ _ _ _ _
                  have HS := show Hid _ from (And.intro ho K)
                  clear K HO hr ho hg
                  go_wp2
                  go_roundw
                  case rel => first | exact ⟨n + 1, v, by omega, by go_num, rfl, HS.out⟩ | ((repeat apply Exists.intro); refine ⟨⟨n + 1, v, by omega, by go_num, rfl, HS.out⟩, rfl⟩)
                  case measure => simp [intOf]; omega
                · obtain rfl : n = size := by omega
                  obtain ⟨sp2, cap2, rfl, hc2, hsr2⟩ := HO.bytes
                  have hB := K.below
                  clear K HO hlt2 hn g3
                  go_wp2
                  go_ret2
                  exact ⟨sp2, cap2, rfl, ⟨hc2, by rw [hG.out]; exact hsr2⟩, hB⟩
        · have hm1 : ¬ ((n + 1 : Nat) : Int) = 64 := by omega
          have hm2 : ¬ ((n : Int) + 1) = 64 := by omega
          have hm3 : ¬ (n : Int) = 63 := by omega
          have HS := show Hid _ from (And.intro HT K)
          clear HT K
          go_wp2
          go_roundw
          case rel => first | exact ⟨n + 1, _, rfl, by omega, HS.out⟩ | ((repeat apply Exists.intro); refine ⟨⟨n + 1, _, rfl, by omega, HS.out⟩, rfl⟩)
          case measure => simp [slen]; omega
    · obtain ⟨ts, tc, rfl, _, _⟩ := HT.bytes
      go_upto_region 8 with fail
      refine wp_region_list ?_
      refine pureL (.slice ts 0 tc) rfl (fun _ => by kernel_rfl) ?_
      simp only [Act.put, List.setIfInBounds_toArray, List.set_cons_zero, List.set_cons_succ]
      refine pureL (.slice sp len cap) rfl (fun _ => by kernel_rfl) ?_
      simp only [Act.put, List.setIfInBounds_toArray, List.set_cons_zero, List.set_cons_succ]
      obtain ⟨v, w4, hr, ho, hg, _⟩ := run_append_Own (P := Tryd.prog) (ty := 22) Tryd.underlying22 one8 HT sp len cap z (hs.below K.below (Nat.le_refl _)) hn0 (by unfold maxLen; omega) (by omega) K.size
      replace K := K.grown hg (fun b hb => (World.ownsRow.lt HT b hb).1)
      refine actL v rfl (appendOp _ _ 22 _ _ _ rfl rfl rfl hr) ?_
      simp only [Act.put, List.setIfInBounds_toArray, List.set_cons_zero, List.set_cons_succ]
      refine pureL v rfl (fun _ => by kernel_rfl) ?_
      simp only [Act.put, List.setIfInBounds_toArray, List.set_cons_zero, List.set_cons_succ]
      replace HT : Own w4 B 5 .u8 (btl 0 len) (btx 0 key len z) v := by
        have e : 0 + len = btl 0 len := by unfold btl; rw [if_pos hk0]
        rw [← e]
        refine ho.congr fun j hj => ?_
        unfold app btx
        rw [if_neg (by omega), if_pos hk0, if_pos (by omega), Nat.sub_zero]

      clear hr ho hg
      obtain ⟨ts, tc, rfl, _, _⟩ := HT.bytes
      show Exit.then _ _ _ _ _
      go_upto_region 9 with fail
      refine wp_region_list ?_
      refine pureL (.slice ts (btl 0 len) tc) rfl (fun _ => by kernel_rfl) ?_
      simp only [Act.put, List.setIfInBounds_toArray, List.set_cons_zero, List.set_cons_succ]
      refine pureL (.int .i64 ((btl 0 len : Nat) : Int)) rfl (fun w => lenS _ 22 5 ts (btl 0 len) tc rfl Tryd.underlying22 rfl w) ?_
      simp only [Act.put, List.setIfInBounds_toArray, List.set_cons_zero, List.set_cons_succ]
      refine pureL (.int .i64 ((btl 0 len : Nat) : Int)) rfl (fun _ => by kernel_rfl) ?_
      simp only [Act.put, List.setIfInBounds_toArray, List.set_cons_zero, List.set_cons_succ]
      generalize Value.slice ts (btl 0 len) tc = tv at HT ⊢
      show Exit.then _ _ _ _ _
      have hbt : 0 < btl 0 len := by unfold btl; rw [if_pos hk0]; omega
      have hbt2 : btl 0 len ≤ 140737488355072 := by unfold btl; rw [if_pos hk0]; omega
      have hT1 : ¬ ((btl 0 len : Nat) : Int) = 0 := by omega
      have hTb : btl 0 len ≤ 64 * bnb 0 len ∧ 64 * bnb 0 len ≤ btl 0 len + 63 := by unfold bnb; rw [if_neg (by omega)]; omega
      go_wp2
      go_loopw [9] (fun tw w' => ∃ (n : Nat) (v : Value), v = tw ∧ btl 0 len ≤ n ∧ n ≤ 64 * bnb 0 len ∧ Own w' B 5 .u8 n (btx 0 key len z) v ∧ Kr w B [(S, .u32, 8, bh0 0 size)] [] w') (fun tw _ => 64 * bnb 0 len - slen tw)
      case atStart => exact ⟨_, _, rfl, Nat.le_refl _, hTb.1, HT, K⟩
      case round =>
        clear K HT
        obtain ⟨NP, v, rfl, hn1, hn2, HT, K⟩ := hrel
        obtain ⟨ts, tc, rfl, _, _⟩ := HT.bytes
        by_cases hm : NP % 64 = 0
        · have hm1 : ¬ 0 < (NP : Int) % 64 := by omega
          have hm2 : (NP : Int) % 64 = 0 := by omega
          have hm3 : (NP : Int).tmod 64 = 0 := by rw [Int.tmod_eq_emod_of_nonneg (by omega)]; omega
          have hN1 : NP ≤ 64 * bnb 0 len := hn2
          have hN2 : 64 * bnb 0 len ≤ NP := by omega
          obtain ⟨_, _, hve, htcap, hsrc⟩ := HT.bytes
          injection hve with hve1 _ hve3
          subst hve1 hve3
          have hA := K.get _ _ _ _ List.mem_cons_self
          have hAl := Nat.lt_of_lt_of_le (K.rows _ List.mem_cons_self).2 K.size
          have hB := K.below
          clear K HT
          go_wp2
          go_loopw [8, 11] (fun hw i w' => ∃ (p A capA : Nat), p ≤ bnb 0 len ∧ i = .int .i64 (64 * (p : Int)) ∧ hw = .slice (some ⟨A, 0, none⟩) 8 capA ∧ Has w' A .u32 8 (bH 0 key size len z p) ∧ A < w'.heap.size ∧ Src w' ts NP (btx 0 key len z) ∧ Below w.heap.size w w') (fun _ i _ => NP - (intOf i).toNat)
          case atStart => exact ⟨0, S, 8, by omega, rfl, rfl, hA, hAl, hsrc, hB⟩
          case round =>
            clear hA hAl hsrc hB
            obtain ⟨p, A, capA, hp, rfl, rfl, hA, hAl, hsrc, hB⟩ := hrel
            have g1 : (0 : Int) ≤ 64 * (p : Int) := by omega
            by_cases hlt : p < bnb 0 len
            · have g2 : 64 * (p : Int) < (NP : Int) := by omega
              obtain ⟨D, hD⟩ : ∃ D : Nat, D = min (64 * p + 64) (btl 0 len) := ⟨_, rfl⟩
              have hm : (if (((btl 0 len : Nat) : Int) : Int) < 64 * (p : Int) + 64 then (((btl 0 len : Nat) : Int) : Int) else 64 * (p : Int) + 64) = (D : Int) := by rw [hD]; split <;> omega
              obtain ⟨sq, hq1, hq2⟩ := cut_lh (P := Tryd.prog) (t := 22) (by kernel_rfl) (fun _ => by kernel_rfl) ts NP tc (64 * p) (64 * p + 64) (by omega) (by omega) htcap
              have hpc : 64 * p + 64 - 64 * p = 64 := by omega
              rw [hpc] at hq1 hq2
              have ec : ((64 * p : Nat) : Int) = 64 * (p : Int) := by omega
              have ec2 : ((64 * p + 64 : Nat) : Int) = 64 * (p : Int) + 64 := by omega
              rw [ec, ec2] at hq1
              have hla : (64 * (p : Int) + 64 == (NP : Int)) = decide (p + 1 = bnb 0 len) := by
                by_cases e : p + 1 = bnb 0 len
                · rw [decide_eq_true e]; simp; omega
                · rw [decide_eq_false e]; simp; omega
              go_upto_region 16 with fail
              refine wp_region_list ?_
              refine pureL (.int .i64 (64 * (p : Int))) rfl (fun _ => by kernel_rfl) ?_
              simp only [Act.put, List.setIfInBounds_toArray, List.set_cons_zero, List.set_cons_succ]
              refine pureL (.int .i64 (64 * (p : Int) + 64)) rfl (fun w => addI .i64 _ _ _ _ _ _ _ rfl rfl rfl (by rw [IntKind.wrap_i64]; omega) w) ?_
              simp only [Act.put, List.setIfInBounds_toArray, List.set_cons_zero, List.set_cons_succ]
              refine pureL (.int .i64 ((btl 0 len : Nat) : Int)) rfl (fun _ => by kernel_rfl) ?_
              simp only [Act.put, List.setIfInBounds_toArray, List.set_cons_zero, List.set_cons_succ]
              refine pureL (.int .i64 (D : Int)) rfl (fun w => minI .i64 .i64 _ _ _ _ _ _ _ rfl rfl rfl hm w) ?_
              simp only [Act.put, List.setIfInBounds_toArray, List.set_cons_zero, List.set_cons_succ]
              refine pureL (.int .i64 (D : Int)) rfl (fun _ => by kernel_rfl) ?_
              simp only [Act.put, List.setIfInBounds_toArray, List.set_cons_zero, List.set_cons_succ]
              show Exit.then _ _ _ _ _
              go_upto_region 17 with fail
              refine wp_region_list ?_
              refine pureL (.slice (some ⟨A, 0, none⟩) 8 capA) rfl (fun _ => by kernel_rfl) ?_
              simp only [Act.put, List.setIfInBounds_toArray, List.set_cons_zero, List.set_cons_succ]
              refine pureL (.slice ts NP tc) rfl (fun _ => by kernel_rfl) ?_
              simp only [Act.put, List.setIfInBounds_toArray, List.set_cons_zero, List.set_cons_succ]
              refine pureL (.int .i64 (64 * (p : Int))) rfl (fun _ => by kernel_rfl) ?_
              simp only [Act.put, List.setIfInBounds_toArray, List.set_cons_zero, List.set_cons_succ]
              refine pureL (.int .i64 (64 * (p : Int))) rfl (fun _ => by kernel_rfl) ?_
              simp only [Act.put, List.setIfInBounds_toArray, List.set_cons_zero, List.set_cons_succ]
              refine pureL (.int .i64 (64 * (p : Int) + 64)) rfl (fun w => addI .i64 _ _ _ _ _ _ _ rfl rfl rfl (by rw [IntKind.wrap_i64]; omega) w) ?_
              simp only [Act.put, List.setIfInBounds_toArray, List.set_cons_zero, List.set_cons_succ]
              refine pureL (.slice sq 64 (tc - 64 * p)) rfl (fun w => cutLHop _ _ _ _ _ _ _ _ rfl rfl rfl rfl (hq1 w)) ?_
              simp only [Act.put, List.setIfInBounds_toArray, List.set_cons_zero, List.set_cons_succ]
              refine pureL (.int .i64 (D : Int)) rfl (fun _ => by kernel_rfl) ?_
              simp only [Act.put, List.setIfInBounds_toArray, List.set_cons_zero, List.set_cons_succ]
              refine pureL (.int .u64 (D : Int)) rfl (fun w => convI .i64 .u64 _ _ _ _ _ rfl (by kernel_rfl) Tryd.underlying52 (by kernel_rfl) rfl (wrapQ _ (by omega) (by omega)) w) ?_
              simp only [Act.put, List.setIfInBounds_toArray, List.set_cons_zero, List.set_cons_succ]
              refine pureL (.int .i64 (64 * (p : Int))) rfl (fun _ => by kernel_rfl) ?_
              simp only [Act.put, List.setIfInBounds_toArray, List.set_cons_zero, List.set_cons_succ]
              refine pureL (.int .i64 (64 * (p : Int) + 64)) rfl (fun w => addI .i64 _ _ _ _ _ _ _ rfl rfl rfl (by rw [IntKind.wrap_i64]; omega) w) ?_
              simp only [Act.put, List.setIfInBounds_toArray, List.set_cons_zero, List.set_cons_succ]
              refine pureL (.slice ts NP tc) rfl (fun _ => by kernel_rfl) ?_
              simp only [Act.put, List.setIfInBounds_toArray, List.set_cons_zero, List.set_cons_succ]
              refine pureL (.int .i64 (NP : Int)) rfl (fun w => lenS _ 22 5 ts NP tc rfl Tryd.underlying22 rfl w) ?_
              simp only [Act.put, List.setIfInBounds_toArray, List.set_cons_zero, List.set_cons_succ]
              refine pureL (.bool (decide (p + 1 = bnb 0 len))) rfl (fun w => eqlI .i64 _ _ _ _ _ _ rfl rfl rfl _ hla w) ?_
              simp only [Act.put, List.setIfInBounds_toArray, List.set_cons_zero, List.set_cons_succ]
              refine callL rfl (fun _ => by kernel_rfl) (refPress_any (bH 0 key size len z p) (bH_in 0 key size len z hkl hs2 p) A capA sq (tc - 64 * p) (fun j => (btx 0 key len z) (64 * p + j)) (fun j _ => btx_in 0 key len z hkk hz _) (D : Int) (by omega) (decide (p + 1 = bnb 0 len)) _ hA hAl (hq2 _ _ hsrc)) ?_
              rintro e w7 ⟨O, cap2, rfl, ⟨hO1, hO2, HO⟩, l⟩
              replace hsrc := hsrc.below l (Nat.le_refl _)
              replace hB := hB.trans (l.mono hB.size)
              refine ⟨_, rfl, ?_⟩
              simp only [Act.put, List.setIfInBounds_toArray, List.set_cons_zero, List.set_cons_succ]
              refine pureL (.slice (some ⟨O, 0, none⟩) 8 cap2) rfl (fun _ => by kernel_rfl) ?_
              simp only [Act.put, List.setIfInBounds_toArray, List.set_cons_zero, List.set_cons_succ]
              show Exit.inBlock _ _ _ _ _
              rw [hD] at HO
              have HS := show Hid _ from (And.intro (show Has w7 O .u32 8 (bH 0 key size len z (p + 1)) from HO) (And.intro hO2 (And.intro hsrc hB)))
              clear HO hsrc hB hA hAl hm hq1 hq2 hpc ec ec2 hla hD l
              go_wp2
              go_roundw
              case rel => first | exact ⟨p + 1, O, cap2, by omega, by go_num, rfl, HS.out⟩ | ((repeat apply Exists.intro); refine ⟨⟨p + 1, O, cap2, by omega, by go_num, rfl, HS.out⟩, rfl⟩)
              case measure => simp [intOf]; omega
            · obtain rfl : p = bnb 0 len := by omega
              have K : Kr w wr.heap.size [(A, .u32, 8, bH 0 key size len z (bnb 0 len))] [] wr := ⟨fun p hp => by obtain rfl := List.mem_singleton.1 hp; exact ⟨hA, hAl⟩, fun _ h => (by cases h), fun _ _ _ h => (by cases h), Nat.le_refl _, hB.size, hB⟩
              have hbs : ∀ n, b32 (bH 0 key size len z (bnb 0 len) (n / 4)) (n % 4) = bsum 0 key size len z n := fun _ => rfl
              clear hA hAl hsrc hB
              generalize bH 0 key size len z (bnb 0 len) = F at K hbs
              generalize hG : bsum 0 key size len z = G at hbs
              replace hG := show Hid _ from hG
              go_upto_region 18 with fail
              refine wp_region_list ?_
              refine actL (w' := wr.alloc (.cells #[] 5)) (.slice (some ⟨wr.heap.size, 0, none⟩) 0 0) rfl (by kernel_rfl) ?_
              simp only [Act.put, List.setIfInBounds_toArray, List.set_cons_zero, List.set_cons_succ]
              refine pureL (.slice (some ⟨wr.heap.size, 0, none⟩) 0 0) rfl (fun _ => by kernel_rfl) ?_
              simp only [Act.put, List.setIfInBounds_toArray, List.set_cons_zero, List.set_cons_succ]
              have HO : Own (wr.alloc (.cells #[] 5)) wr.heap.size 5 .u8 0 G (.slice (some ⟨wr.heap.size, 0, none⟩) 0 0) := Own.lit wr wr.heap.size 5 .u8 0 G (Nat.le_refl _) (by unfold maxLen; omega)
              replace K := K.call ((Below.refl wr.heap.size wr).alloc (Nat.le_refl _) (.cells #[] 5))
              generalize wr.alloc (.cells #[] 5) = w8 at K HO ⊢
              generalize Value.slice (some ⟨wr.heap.size, 0, none⟩) 0 0 = ov0 at HO ⊢
              generalize wr.heap.size = B2 at K HO
              show Exit.then _ _ _ _ _
              go_wp2
              go_loopw [13, 14] (fun ow i w' => ∃ (n : Nat) (ov : Value), n ≤ size ∧ i = .int .i64 (n : Int) ∧ ov = ow ∧ Own w' B2 5 .u8 n G ov ∧ Kr w B2 [(A, .u32, 8, F)] [] w') (fun _ i _ => size - (intOf i).toNat)
              case atStart => exact ⟨0, _, by omega, rfl, rfl, HO, K⟩
              case round =>
                clear K HO
                obtain ⟨n, ov, hn, rfl, rfl, HO, K⟩ := hrel
                have g3 : (0 : Int) ≤ (n : Int) := by omega
                by_cases hlt2 : n < size
                · have g4 : (n : Int) < (size : Int) := by omega
                  go_upto_region 22 with fail
                  refine wp_region_list ?_
                  refine pureL ov rfl (fun _ => by kernel_rfl) ?_
                  simp only [Act.put, List.setIfInBounds_toArray, List.set_cons_zero, List.set_cons_succ]
                  refine pureL (.slice (some ⟨A, 0, none⟩) 8 capA) rfl (fun _ => by kernel_rfl) ?_
                  simp only [Act.put, List.setIfInBounds_toArray, List.set_cons_zero, List.set_cons_succ]
                  refine pureL (.int .i64 (n : Int)) rfl (fun _ => by kernel_rfl) ?_
                  simp only [Act.put, List.setIfInBounds_toArray, List.set_cons_zero, List.set_cons_succ]
                  refine pureL (.int .i64 ((n / 4 : Nat) : Int)) rfl (fun w => quoI .i64 _ _ _ _ _ _ _ rfl rfl rfl (by decide) (by rw [Int.tdiv_eq_ediv_of_nonneg g3, IntKind.wrap_i64]; omega) w) ?_
                  simp only [Act.put, List.setIfInBounds_toArray, List.set_cons_zero, List.set_cons_succ]
                  refine pureL (.pointer (some ⟨A, n / 4, none⟩)) rfl (fun w' => idxW A 8 capA (n / 4) (by omega) w' _ _ rfl rfl rfl) ?_
                  simp only [Act.put, List.setIfInBounds_toArray, List.set_cons_zero, List.set_cons_succ]
                  refine cellL .u32 (.int .u32 (F (n / 4))) A (n / 4) 42 _ rfl rfl rfl Tryd.underlying42 ((K.get _ _ _ _ List.mem_cons_self).cell (n / 4) (by omega)) ?_
                  simp only [Act.put, List.setIfInBounds_toArray, List.set_cons_zero, List.set_cons_succ]
                  refine pureL (.int .i64 (n : Int)) rfl (fun _ => by kernel_rfl) ?_
                  simp only [Act.put, List.setIfInBounds_toArray, List.set_cons_zero, List.set_cons_succ]
                  refine pureL (.int .i64 ((n % 4 : Nat) : Int)) rfl (fun w => remI .i64 _ _ _ _ _ _ _ rfl rfl rfl (by decide) (by rw [Int.tmod_eq_emod_of_nonneg g3]; omega) w) ?_
                  simp only [Act.put, List.setIfInBounds_toArray, List.set_cons_zero, List.set_cons_succ]
                  refine pureL (.int .i64 ((8 * (n % 4) : Nat) : Int)) rfl (fun w => mulI .i64 _ _ _ _ _ _ _ rfl rfl rfl (by rw [IntKind.wrap_i64]; omega) w) ?_
                  simp only [Act.put, List.setIfInBounds_toArray, List.set_cons_zero, List.set_cons_succ]
                  refine pureL (.int .u32 (F (n / 4) / 2 ^ (8 * (n % 4)))) rfl (fun w => shrI .u32 .i64 _ _ _ _ _ _ _ rfl rfl rfl (by omega) (shr_min _ _ (Nat.mod_lt _ (by decide))) w) ?_
                  simp only [Act.put, List.setIfInBounds_toArray, List.set_cons_zero, List.set_cons_succ]
                  refine pureL (.int .u8 (G n)) rfl (fun w => convI .u32 .u8 _ _ _ _ _ rfl (by kernel_rfl) Tryd.underlying5 (by kernel_rfl) rfl ((b32_shift _ _ (Nat.mod_lt _ (by decide))).trans (hbs n)) w) ?_
                  simp only [Act.put, List.setIfInBounds_toArray, List.set_cons_zero, List.set_cons_succ]
                  refine actL (w' := wr.alloc (.cells #[.int .u8 (G n)] 5)) (.slice (some ⟨wr.heap.size, 0, none⟩) 1 1) rfl (by kernel_rfl) ?_
                  simp only [Act.put, List.setIfInBounds_toArray, List.set_cons_zero, List.set_cons_succ]
                  obtain ⟨v, w9, hr, ho, hg⟩ := HO.more8 (by omega) (G n) rfl 22 K.size
                  replace K := (K.call ((Below.refl wr.heap.size wr).alloc (Nat.le_refl _) (.cells #[.int .u8 (G n)] 5))).grown hg (fun b hb => (World.ownsRow.lt HO b hb).1)
                  refine actL v rfl (appendOp _ _ 22 _ _ _ rfl rfl rfl hr) ?_
                  simp only [Act.put, List.setIfInBounds_toArray, List.set_cons_zero, List.set_cons_succ]
                  refine pureL v rfl (fun _ => by kernel_rfl) ?_
                  simp only [Act.put, List.setIfInBounds_toArray, List.set_cons_zero, List.set_cons_succ]
                  show Exit.inBlock _ _ _ _ _
                  have HS := show Hid _ from (And.intro ho K)
                  clear K HO hr ho hg
                  go_wp2
                  go_roundw
                  case rel => first | exact ⟨n + 1, v, by omega, by go_num, rfl, HS.out⟩ | ((repeat apply Exists.intro); refine ⟨⟨n + 1, v, by omega, by go_num, rfl, HS.out⟩, rfl⟩)
                  case measure => simp [intOf]; omega
                · obtain rfl : n = size := by omega
                  obtain ⟨sp2, cap2, rfl, hc2, hsr2⟩ := HO.bytes
                  have hB := K.below
                  clear K HO hlt2 hn g3
                  go_wp2
                  go_ret2
                  exact ⟨sp2, cap2, rfl, ⟨hc2, by rw [hG.out]; exact hsr2⟩, hB⟩
        · have hm1 : 0 < (NP : Int) % 64 := by omega
          have hm4 : 1 ≤ (NP : Int) % 64 := by omega
          have hm3 : (NP : Int).tmod 64 = (NP : Int) % 64 := Int.tmod_eq_emod_of_nonneg (by omega)
          go_upto_region 11 with fail
          refine wp_region_list ?_
          refine pureL (.slice ts NP tc) rfl (fun _ => by kernel_rfl) ?_
          simp only [Act.put, List.setIfInBounds_toArray, List.set_cons_zero, List.set_cons_succ]
          refine actL (w' := wr.alloc (.cells #[.int .u8 0] 5)) (.slice (some ⟨wr.heap.size, 0, none⟩) 1 1) rfl (by kernel_rfl) ?_
          simp only [Act.put, List.setIfInBounds_toArray, List.set_cons_zero, List.set_cons_succ]
          obtain ⟨v, w5, hr, ho, hg⟩ := HT.more8 (by omega) 0 (btx_pad 0 key len z NP (by omega)) 22 K.size
          replace K := (K.call ((Below.refl wr.heap.size wr).alloc (Nat.le_refl _) (.cells #[.int .u8 0] 5))).grown hg (fun b hb => (World.ownsRow.lt HT b hb).1)
          refine actL v rfl (appendOp _ _ 22 _ _ _ rfl rfl rfl hr) ?_
          simp only [Act.put, List.setIfInBounds_toArray, List.set_cons_zero, List.set_cons_succ]
          refine pureL v rfl (fun _ => by kernel_rfl) ?_
          simp only [Act.put, List.setIfInBounds_toArray, List.set_cons_zero, List.set_cons_succ]
          show Exit.then _ _ _ _ _
          obtain ⟨ts2, tc2, rfl, _, _⟩ := ho.bytes
          have HS := show Hid _ from (And.intro ho K)
          clear HT K hr ho hg
          go_wp2
          go_roundw
          case rel => first | exact ⟨NP + 1, _, rfl, by omega, by omega, HS.out⟩ | ((repeat apply Exists.intro); refine ⟨⟨NP + 1, _, rfl, by omega, by omega, HS.out⟩, rfl⟩)
          case measure => simp [slen]; omega
  · have hk1 : (0 : Int) < (kl : Int) := by omega
    have hk2 : (1 : Int) ≤ (kl : Int) := by omega
    obtain ⟨ts, tc, rfl, _, _⟩ := HT.bytes
    go_upto_region 7 with fail
    refine wp_region_list ?_
    refine pureL (.slice ts 0 tc) rfl (fun _ => by kernel_rfl) ?_
    simp only [Act.put, List.setIfInBounds_toArray, List.set_cons_zero, List.set_cons_succ]
    refine pureL (.slice kp kl kc) rfl (fun _ => by kernel_rfl) ?_
    simp only [Act.put, List.setIfInBounds_toArray, List.set_cons_zero, List.set_cons_succ]
    obtain ⟨v1, w4, hr, ho, hg, _⟩ := run_append_Own (P := Tryd.prog) (ty := 22) Tryd.underlying22 one8 HT kp kl kc key (hks.below K.below (Nat.le_refl _)) hkn (by unfold maxLen; omega) (by omega) K.size
    replace K := K.grown hg (fun b hb => (World.ownsRow.lt HT b hb).1)
    refine actL v1 rfl (appendOp _ _ 22 _ _ _ rfl rfl rfl hr) ?_
    simp only [Act.put, List.setIfInBounds_toArray, List.set_cons_zero, List.set_cons_succ]
    refine pureL (.slice kp kl kc) rfl (fun _ => by kernel_rfl) ?_
    simp only [Act.put, List.setIfInBounds_toArray, List.set_cons_zero, List.set_cons_succ]
    refine pureL (.int .i64 (kl : Int)) rfl (fun w => lenS _ 22 5 kp kl kc rfl Tryd.underlying22 rfl w) ?_
    simp only [Act.put, List.setIfInBounds_toArray, List.set_cons_zero, List.set_cons_succ]
    refine pureL (.int .i64 ((64 - kl : Nat) : Int)) rfl (fun w => subI .i64 _ _ _ _ _ _ _ rfl rfl rfl (by rw [IntKind.wrap_i64]; omega) w) ?_
    simp only [Act.put, List.setIfInBounds_toArray, List.set_cons_zero, List.set_cons_succ]
    obtain ⟨v2, w5, hr2, ho2, hg2, _⟩ := run_append_zeros (P := Tryd.prog) (ty := 22) (u := 3) Tryd.underlying22 Tryd.underlying3 one8 ho (64 - kl) (by omega) (by unfold maxLen; omega) (by omega) K.size
    replace K := K.grown hg2 (fun b hb => (World.ownsRow.lt ho b hb).1)
    refine actL v2 rfl (appendOp2 _ _ 22 3 _ _ _ rfl rfl rfl hr2) ?_
    simp only [Act.put, List.setIfInBounds_toArray, List.set_cons_zero, List.set_cons_succ]
    refine pureL v2 rfl (fun _ => by kernel_rfl) ?_
    simp only [Act.put, List.setIfInBounds_toArray, List.set_cons_zero, List.set_cons_succ]
    replace HT : Own w5 B 5 .u8 64 (btx kl key len z) v2 := by
      have e : 0 + kl + (64 - kl) = 64 := by omega
      rw [← e]
      refine ho2.congr fun j hj => ?_
      have e1 : btx kl key len z j = if j < kl then key j else 0 := by unfold btx; rw [if_neg hk0, if_pos (by omega)]
      rw [e1]
      unfold app
      by_cases e2 : j < kl
      · rw [if_pos (show j < 0 + kl by omega), if_neg (show ¬ j < 0 by omega), if_pos e2, Nat.sub_zero]
      · rw [if_neg (show ¬ j < 0 + kl by omega), if_neg e2]
    clear hr ho hg hr2 ho2 hg2
    show Exit.then _ _ _ _ _
    obtain ⟨ts, tc, rfl, _, _⟩ := HT.bytes
    go_upto_region 8 with fail
    refine wp_region_list ?_
    refine pureL (.slice ts 64 tc) rfl (fun _ => by kernel_rfl) ?_
    simp only [Act.put, List.setIfInBounds_toArray, List.set_cons_zero, List.set_cons_succ]
    refine pureL (.slice sp len cap) rfl (fun _ => by kernel_rfl) ?_
    simp only [Act.put, List.setIfInBounds_toArray, List.set_cons_zero, List.set_cons_succ]
    obtain ⟨v, w6, hr, ho, hg, _⟩ := run_append_Own (P := Tryd.prog) (ty := 22) Tryd.underlying22 one8 HT sp len cap z (hs.below K.below (Nat.le_refl _)) hn0 (by unfold maxLen; omega) (by omega) K.size
    replace K := K.grown hg (fun b hb => (World.ownsRow.lt HT b hb).1)
    refine actL v rfl (appendOp _ _ 22 _ _ _ rfl rfl rfl hr) ?_
    simp only [Act.put, List.setIfInBounds_toArray, List.set_cons_zero, List.set_cons_succ]
    refine pureL v rfl (fun _ => by kernel_rfl) ?_
    simp only [Act.put, List.setIfInBounds_toArray, List.set_cons_zero, List.set_cons_succ]
    replace HT : Own w6 B 5 .u8 (btl kl len) (btx kl key len z) v := by
      have e : 64 + len = btl kl len := by unfold btl; rw [if_neg hk0]
      rw [← e]
      refine ho.congr fun j hj => ?_
      unfold app
      by_cases e3 : j < 64
      · rw [if_pos e3]
      · rw [if_neg e3]; unfold btx; rw [if_neg hk0, if_neg e3, if_pos (by omega)]

    clear hr ho hg
    obtain ⟨ts, tc, rfl, _, _⟩ := HT.bytes
    show Exit.then _ _ _ _ _
    go_upto_region 9 with fail
    refine wp_region_list ?_
    refine pureL (.slice ts (btl kl len) tc) rfl (fun _ => by kernel_rfl) ?_
    simp only [Act.put, List.setIfInBounds_toArray, List.set_cons_zero, List.set_cons_succ]
    refine pureL (.int .i64 ((btl kl len : Nat) : Int)) rfl (fun w => lenS _ 22 5 ts (btl kl len) tc rfl Tryd.underlying22 rfl w) ?_
    simp only [Act.put, List.setIfInBounds_toArray, List.set_cons_zero, List.set_cons_succ]
    refine pureL (.int .i64 ((btl kl len : Nat) : Int)) rfl (fun _ => by kernel_rfl) ?_
    simp only [Act.put, List.setIfInBounds_toArray, List.set_cons_zero, List.set_cons_succ]
    generalize Value.slice ts (btl kl len) tc = tv at HT ⊢
    show Exit.then _ _ _ _ _
    have hbt : 0 < btl kl len := by unfold btl; rw [if_neg hk0]; omega
    have hbt2 : btl kl len ≤ 140737488355136 := by unfold btl; rw [if_neg hk0]; omega
    have hT1 : ¬ ((btl kl len : Nat) : Int) = 0 := by omega
    have hTb : btl kl len ≤ 64 * bnb kl len ∧ 64 * bnb kl len ≤ btl kl len + 63 := by unfold bnb; rw [if_neg (by omega)]; omega
    go_wp2
    go_loopw [9] (fun tw w' => ∃ (n : Nat) (v : Value), v = tw ∧ btl kl len ≤ n ∧ n ≤ 64 * bnb kl len ∧ Own w' B 5 .u8 n (btx kl key len z) v ∧ Kr w B [(S, .u32, 8, bh0 kl size)] [] w') (fun tw _ => 64 * bnb kl len - slen tw)
    case atStart => exact ⟨_, _, rfl, Nat.le_refl _, hTb.1, HT, K⟩
    case round =>
      clear K HT
      obtain ⟨NP, v, rfl, hn1, hn2, HT, K⟩ := hrel
      obtain ⟨ts, tc, rfl, _, _⟩ := HT.bytes
      by_cases hm : NP % 64 = 0
      · have hm1 : ¬ 0 < (NP : Int) % 64 := by omega
        have hm2 : (NP : Int) % 64 = 0 := by omega
        have hm3 : (NP : Int).tmod 64 = 0 := by rw [Int.tmod_eq_emod_of_nonneg (by omega)]; omega
        have hN1 : NP ≤ 64 * bnb kl len := hn2
        have hN2 : 64 * bnb kl len ≤ NP := by omega
        obtain ⟨_, _, hve, htcap, hsrc⟩ := HT.bytes
        injection hve with hve1 _ hve3
        subst hve1 hve3
        have hA := K.get _ _ _ _ List.mem_cons_self
        have hAl := Nat.lt_of_lt_of_le (K.rows _ List.mem_cons_self).2 K.size
        have hB := K.below
        clear K HT
        go_wp2
        go_loopw [8, 11] (fun hw i w' => ∃ (p A capA : Nat), p ≤ bnb kl len ∧ i = .int .i64 (64 * (p : Int)) ∧ hw = .slice (some ⟨A, 0, none⟩) 8 capA ∧ Has w' A .u32 8 (bH kl key size len z p) ∧ A < w'.heap.size ∧ Src w' ts NP (btx kl key len z) ∧ Below w.heap.size w w') (fun _ i _ => NP - (intOf i).toNat)
        case atStart => exact ⟨0, S, 8, by omega, rfl, rfl, hA, hAl, hsrc, hB⟩
        case round =>
          clear hA hAl hsrc hB
          obtain ⟨p, A, capA, hp, rfl, rfl, hA, hAl, hsrc, hB⟩ := hrel
          have g1 : (0 : Int) ≤ 64 * (p : Int) := by omega
          by_cases hlt : p < bnb kl len
          · have g2 : 64 * (p : Int) < (NP : Int) := by omega
            obtain ⟨D, hD⟩ : ∃ D : Nat, D = min (64 * p + 64) (btl kl len) := ⟨_, rfl⟩
            have hm : (if (((btl kl len : Nat) : Int) : Int) < 64 * (p : Int) + 64 then (((btl kl len : Nat) : Int) : Int) else 64 * (p : Int) + 64) = (D : Int) := by rw [hD]; split <;> omega
            obtain ⟨sq, hq1, hq2⟩ := cut_lh (P := Tryd.prog) (t := 22) (by kernel_rfl) (fun _ => by kernel_rfl) ts NP tc (64 * p) (64 * p + 64) (by omega) (by omega) htcap
            have hpc : 64 * p + 64 - 64 * p = 64 := by omega
            rw [hpc] at hq1 hq2
            have ec : ((64 * p : Nat) : Int) = 64 * (p : Int) := by omega
            have ec2 : ((64 * p + 64 : Nat) : Int) = 64 * (p : Int) + 64 := by omega
            rw [ec, ec2] at hq1
            have hla : (64 * (p : Int) + 64 == (NP : Int)) = decide (p + 1 = bnb kl len) := by
              by_cases e : p + 1 = bnb kl len
              · rw [decide_eq_true e]; simp; omega
              · rw [decide_eq_false e]; simp; omega
            go_upto_region 16 with fail
            refine wp_region_list ?_
            refine pureL (.int .i64 (64 * (p : Int))) rfl (fun _ => by kernel_rfl) ?_
            simp only [Act.put, List.setIfInBounds_toArray, List.set_cons_zero, List.set_cons_succ]
            refine pureL (.int .i64 (64 * (p : Int) + 64)) rfl (fun w => addI .i64 _ _ _ _ _ _ _ rfl rfl rfl (by rw [IntKind.wrap_i64]; omega) w) ?_
            simp only [Act.put, List.setIfInBounds_toArray, List.set_cons_zero, List.set_cons_succ]
            refine pureL (.int .i64 ((btl kl len : Nat) : Int)) rfl (fun _ => by kernel_rfl) ?_
            simp only [Act.put, List.setIfInBounds_toArray, List.set_cons_zero, List.set_cons_succ]
            refine pureL (.int .i64 (D : Int)) rfl (fun w => minI .i64 .i64 _ _ _ _ _ _ _ rfl rfl rfl hm w) ?_
            simp only [Act.put, List.setIfInBounds_toArray, List.set_cons_zero, List.set_cons_succ]
            refine pureL (.int .i64 (D : Int)) rfl (fun _ => by kernel_rfl) ?_
            simp only [Act.put, List.setIfInBounds_toArray, List.set_cons_zero, List.set_cons_succ]
            show Exit.then _ _ _ _ _
            go_upto_region 17 with fail
            refine wp_region_list ?_
            refine pureL (.slice (some ⟨A, 0, none⟩) 8 capA) rfl (fun _ => by kernel_rfl) ?_
            simp only [Act.put, List.setIfInBounds_toArray, List.set_cons_zero, List.set_cons_succ]
            refine pureL (.slice ts NP tc) rfl (fun _ => by kernel_rfl) ?_
            simp only [Act.put, List.setIfInBounds_toArray, List.set_cons_zero, List.set_cons_succ]
            refine pureL (.int .i64 (64 * (p : Int))) rfl (fun _ => by kernel_rfl) ?_
            simp only [Act.put, List.setIfInBounds_toArray, List.set_cons_zero, List.set_cons_succ]
            refine pureL (.int .i64 (64 * (p : Int))) rfl (fun _ => by kernel_rfl) ?_
            simp only [Act.put, List.setIfInBounds_toArray, List.set_cons_zero, List.set_cons_succ]
            refine pureL (.int .i64 (64 * (p : Int) + 64)) rfl (fun w => addI .i64 _ _ _ _ _ _ _ rfl rfl rfl (by rw [IntKind.wrap_i64]; omega) w) ?_
            simp only [Act.put, List.setIfInBounds_toArray, List.set_cons_zero, List.set_cons_succ]
            refine pureL (.slice sq 64 (tc - 64 * p)) rfl (fun w => cutLHop _ _ _ _ _ _ _ _ rfl rfl rfl rfl (hq1 w)) ?_
            simp only [Act.put, List.setIfInBounds_toArray, List.set_cons_zero, List.set_cons_succ]
            refine pureL (.int .i64 (D : Int)) rfl (fun _ => by kernel_rfl) ?_
            simp only [Act.put, List.setIfInBounds_toArray, List.set_cons_zero, List.set_cons_succ]
            refine pureL (.int .u64 (D : Int)) rfl (fun w => convI .i64 .u64 _ _ _ _ _ rfl (by kernel_rfl) Tryd.underlying52 (by kernel_rfl) rfl (wrapQ _ (by omega) (by omega)) w) ?_
            simp only [Act.put, List.setIfInBounds_toArray, List.set_cons_zero, List.set_cons_succ]
            refine pureL (.int .i64 (64 * (p : Int))) rfl (fun _ => by kernel_rfl) ?_
            simp only [Act.put, List.setIfInBounds_toArray, List.set_cons_zero, List.set_cons_succ]
            refine pureL (.int .i64 (64 * (p : Int) + 64)) rfl (fun w => addI .i64 _ _ _ _ _ _ _ rfl rfl rfl (by rw [IntKind.wrap_i64]; omega) w) ?_
            simp only [Act.put, List.setIfInBounds_toArray, List.set_cons_zero, List.set_cons_succ]
            refine pureL (.slice ts NP tc) rfl (fun _ => by kernel_rfl) ?_
            simp only [Act.put, List.setIfInBounds_toArray, List.set_cons_zero, List.set_cons_succ]
            refine pureL (.int .i64 (NP : Int)) rfl (fun w => lenS _ 22 5 ts NP tc rfl Tryd.underlying22 rfl w) ?_
            simp only [Act.put, List.setIfInBounds_toArray, List.set_cons_zero, List.set_cons_succ]
            refine pureL (.bool (decide (p + 1 = bnb kl len))) rfl (fun w => eqlI .i64 _ _ _ _ _ _ rfl rfl rfl _ hla w) ?_
            simp only [Act.put, List.setIfInBounds_toArray, List.set_cons_zero, List.set_cons_succ]
            refine callL rfl (fun _ => by kernel_rfl) (refPress_any (bH kl key size len z p) (bH_in kl key size len z hkl hs2 p) A capA sq (tc - 64 * p) (fun j => (btx kl key len z) (64 * p + j)) (fun j _ => btx_in kl key len z hkk hz _) (D : Int) (by omega) (decide (p + 1 = bnb kl len)) _ hA hAl (hq2 _ _ hsrc)) ?_
            rintro e w7 ⟨O, cap2, rfl, ⟨hO1, hO2, HO⟩, l⟩
            replace hsrc := hsrc.below l (Nat.le_refl _)
            replace hB := hB.trans (l.mono hB.size)
            refine ⟨_, rfl, ?_⟩
            simp only [Act.put, List.setIfInBounds_toArray, List.set_cons_zero, List.set_cons_succ]
            refine pureL (.slice (some ⟨O, 0, none⟩) 8 cap2) rfl (fun _ => by kernel_rfl) ?_
            simp only [Act.put, List.setIfInBounds_toArray, List.set_cons_zero, List.set_cons_succ]
            show Exit.inBlock _ _ _ _ _
            rw [hD] at HO
            have HS := show Hid _ from (And.intro (show Has w7 O .u32 8 (bH kl key size len z (p + 1)) from HO) (And.intro hO2 (And.intro hsrc hB)))
            clear HO hsrc hB hA hAl hm hq1 hq2 hpc ec ec2 hla hD l
            go_wp2
            go_roundw
            case rel => first | exact ⟨p + 1, O, cap2, by omega, by go_num, rfl, HS.out⟩ | ((repeat apply Exists.intro); refine ⟨⟨p + 1, O, cap2, by omega, by go_num, rfl, HS.out⟩, rfl⟩)
            case measure => simp [intOf]; omega
          · obtain rfl : p = bnb kl len := by omega
            have K : Kr w wr.heap.size [(A, .u32, 8, bH kl key size len z (bnb kl len))] [] wr := ⟨fun p hp => by obtain rfl := List.mem_singleton.1 hp; exact ⟨hA, hAl⟩, fun _ h => (by cases h), fun _ _ _ h => (by cases h), Nat.le_refl _, hB.size, hB⟩
            have hbs : ∀ n, b32 (bH kl key size len z (bnb kl len) (n / 4)) (n % 4) = bsum kl key size len z n := fun _ => rfl
            clear hA hAl hsrc hB
            generalize bH kl key size len z (bnb kl len) = F at K hbs
            generalize hG : bsum kl key size len z = G at hbs
            replace hG := show Hid _ from hG
            go_upto_region 18 with fail
            refine wp_region_list ?_
            refine actL (w' := wr.alloc (.cells #[] 5)) (.slice (some ⟨wr.heap.size, 0, none⟩) 0 0) rfl (by kernel_rfl) ?_
            simp only [Act.put, List.setIfInBounds_toArray, List.set_cons_zero, List.set_cons_succ]
            refine pureL (.slice (some ⟨wr.heap.size, 0, none⟩) 0 0) rfl (fun _ => by kernel_rfl) ?_
            simp only [Act.put, List.setIfInBounds_toArray, List.set_cons_zero, List.set_cons_succ]
            have HO : Own (wr.alloc (.cells #[] 5)) wr.heap.size 5 .u8 0 G (.slice (some ⟨wr.heap.size, 0, none⟩) 0 0) := Own.lit wr wr.heap.size 5 .u8 0 G (Nat.le_refl _) (by unfold maxLen; omega)
            replace K := K.call ((Below.refl wr.heap.size wr).alloc (Nat.le_refl _) (.cells #[] 5))
            generalize wr.alloc (.cells #[] 5) = w8 at K HO ⊢
            generalize Value.slice (some ⟨wr.heap.size, 0, none⟩) 0 0 = ov0 at HO ⊢
            generalize wr.heap.size = B2 at K HO
            show Exit.then _ _ _ _ _
            go_wp2
            go_loopw [13, 14] (fun ow i w' => ∃ (n : Nat) (ov : Value), n ≤ size ∧ i = .int .i64 (n : Int) ∧ ov = ow ∧ Own w' B2 5 .u8 n G ov ∧ Kr w B2 [(A, .u32, 8, F)] [] w') (fun _ i _ => size - (intOf i).toNat)
            case atStart => exact ⟨0, _, by omega, rfl, rfl, HO, K⟩
            case round =>
              clear K HO
              obtain ⟨n, ov, hn, rfl, rfl, HO, K⟩ := hrel
              have g3 : (0 : Int) ≤ (n : Int) := by omega
              by_cases hlt2 : n < size
              · have g4 : (n : Int) < (size : Int) := by omega
                go_upto_region 22 with fail
                refine wp_region_list ?_
                refine pureL ov rfl (fun _ => by kernel_rfl) ?_
                simp only [Act.put, List.setIfInBounds_toArray, List.set_cons_zero, List.set_cons_succ]
                refine pureL (.slice (some ⟨A, 0, none⟩) 8 capA) rfl (fun _ => by kernel_rfl) ?_
                simp only [Act.put, List.setIfInBounds_toArray, List.set_cons_zero, List.set_cons_succ]
                refine pureL (.int .i64 (n : Int)) rfl (fun _ => by kernel_rfl) ?_
                simp only [Act.put, List.setIfInBounds_toArray, List.set_cons_zero, List.set_cons_succ]
                refine pureL (.int .i64 ((n / 4 : Nat) : Int)) rfl (fun w => quoI .i64 _ _ _ _ _ _ _ rfl rfl rfl (by decide) (by rw [Int.tdiv_eq_ediv_of_nonneg g3, IntKind.wrap_i64]; omega) w) ?_
                simp only [Act.put, List.setIfInBounds_toArray, List.set_cons_zero, List.set_cons_succ]
                refine pureL (.pointer (some ⟨A, n / 4, none⟩)) rfl (fun w' => idxW A 8 capA (n / 4) (by omega) w' _ _ rfl rfl rfl) ?_
                simp only [Act.put, List.setIfInBounds_toArray, List.set_cons_zero, List.set_cons_succ]
                refine cellL .u32 (.int .u32 (F (n / 4))) A (n / 4) 42 _ rfl rfl rfl Tryd.underlying42 ((K.get _ _ _ _ List.mem_cons_self).cell (n / 4) (by omega)) ?_
                simp only [Act.put, List.setIfInBounds_toArray, List.set_cons_zero, List.set_cons_succ]
                refine pureL (.int .i64 (n : Int)) rfl (fun _ => by kernel_rfl) ?_
                simp only [Act.put, List.setIfInBounds_toArray, List.set_cons_zero, List.set_cons_succ]
                refine pureL (.int .i64 ((n % 4 : Nat) : Int)) rfl (fun w => remI .i64 _ _ _ _ _ _ _ rfl rfl rfl (by decide) (by rw [Int.tmod_eq_emod_of_nonneg g3]; omega) w) ?_
                simp only [Act.put, List.setIfInBounds_toArray, List.set_cons_zero, List.set_cons_succ]
                refine pureL (.int .i64 ((8 * (n % 4) : Nat) : Int)) rfl (fun w => mulI .i64 _ _ _ _ _ _ _ rfl rfl rfl (by rw [IntKind.wrap_i64]; omega) w) ?_
                simp only [Act.put, List.setIfInBounds_toArray, List.set_cons_zero, List.set_cons_succ]
                refine pureL (.int .u32 (F (n / 4) / 2 ^ (8 * (n % 4)))) rfl (fun w => shrI .u32 .i64 _ _ _ _ _ _ _ rfl rfl rfl (by omega) (shr_min _ _ (Nat.mod_lt _ (by decide))) w) ?_
                simp only [Act.put, List.setIfInBounds_toArray, List.set_cons_zero, List.set_cons_succ]
                refine pureL (.int .u8 (G n)) rfl (fun w => convI .u32 .u8 _ _ _ _ _ rfl (by kernel_rfl) Tryd.underlying5 (by kernel_rfl) rfl ((b32_shift _ _ (Nat.mod_lt _ (by decide))).trans (hbs n)) w) ?_
                simp only [Act.put, List.setIfInBounds_toArray, List.set_cons_zero, List.set_cons_succ]
                refine actL (w' := wr.alloc (.cells #[.int .u8 (G n)] 5)) (.slice (some ⟨wr.heap.size, 0, none⟩) 1 1) rfl (by kernel_rfl) ?_
                simp only [Act.put, List.setIfInBounds_toArray, List.set_cons_zero, List.set_cons_succ]
                obtain ⟨v, w9, hr, ho, hg⟩ := HO.more8 (by omega) (G n) rfl 22 K.size
                replace K := (K.call ((Below.refl wr.heap.size wr).alloc (Nat.le_refl _) (.cells #[.int .u8 (G n)] 5))).grown hg (fun b hb => (World.ownsRow.lt HO b hb).1)
                refine actL v rfl (appendOp _ _ 22 _ _ _ rfl rfl rfl hr) ?_
                simp only [Act.put, List.setIfInBounds_toArray, List.set_cons_zero, List.set_cons_succ]
                refine pureL v rfl (fun _ => by kernel_rfl) ?_
                simp only [Act.put, List.setIfInBounds_toArray, List.set_cons_zero, List.set_cons_succ]
                show Exit.inBlock _ _ _ _ _
                have HS := show Hid _ from (And.intro ho K)
                clear K HO hr ho hg
                go_wp2
                go_roundw
                case rel => first | exact ⟨n + 1, v, by omega, by go_num, rfl, HS.out⟩ | ((repeat apply Exists.intro); refine ⟨⟨n + 1, v, by omega, by go_num, rfl, HS.out⟩, rfl⟩)
                case measure => simp [intOf]; omega
              · obtain rfl : n = size := by omega
                obtain ⟨sp2, cap2, rfl, hc2, hsr2⟩ := HO.bytes
                have hB := K.below
                clear K HO hlt2 hn g3
                go_wp2
                go_ret2
                exact ⟨sp2, cap2, rfl, ⟨hc2, by rw [hG.out]; exact hsr2⟩, hB⟩
      · have hm1 : 0 < (NP : Int) % 64 := by omega
        have hm4 : 1 ≤ (NP : Int) % 64 := by omega
        have hm3 : (NP : Int).tmod 64 = (NP : Int) % 64 := Int.tmod_eq_emod_of_nonneg (by omega)
        go_upto_region 11 with fail
        refine wp_region_list ?_
        refine pureL (.slice ts NP tc) rfl (fun _ => by kernel_rfl) ?_
        simp only [Act.put, List.setIfInBounds_toArray, List.set_cons_zero, List.set_cons_succ]
        refine actL (w' := wr.alloc (.cells #[.int .u8 0] 5)) (.slice (some ⟨wr.heap.size, 0, none⟩) 1 1) rfl (by kernel_rfl) ?_
        simp only [Act.put, List.setIfInBounds_toArray, List.set_cons_zero, List.set_cons_succ]
        obtain ⟨v, w5, hr, ho, hg⟩ := HT.more8 (by omega) 0 (btx_pad kl key len z NP (by omega)) 22 K.size
        replace K := (K.call ((Below.refl wr.heap.size wr).alloc (Nat.le_refl _) (.cells #[.int .u8 0] 5))).grown hg (fun b hb => (World.ownsRow.lt HT b hb).1)
        refine actL v rfl (appendOp _ _ 22 _ _ _ rfl rfl rfl hr) ?_
        simp only [Act.put, List.setIfInBounds_toArray, List.set_cons_zero, List.set_cons_succ]
        refine pureL v rfl (fun _ => by kernel_rfl) ?_
        simp only [Act.put, List.setIfInBounds_toArray, List.set_cons_zero, List.set_cons_succ]
        show Exit.then _ _ _ _ _
        obtain ⟨ts2, tc2, rfl, _, _⟩ := ho.bytes
        have HS := show Hid _ from (And.intro ho K)
        clear HT K hr ho hg
        go_wp2
        go_roundw
        case rel => first | exact ⟨NP + 1, _, rfl, by omega, by omega, HS.out⟩ | ((repeat apply Exists.intro); refine ⟨⟨NP + 1, _, rfl, by omega, by omega, HS.out⟩, rfl⟩)
        case measure => simp [slen]; omega

theorem brefSum_any (kp : Option Addr) (kl kc : Nat) (key : Nat → Int) (hkk : In 256 kl key) (hkn : kp = none → kc = 0) (size : Int) (sp : Option Addr) (len cap : Nat) (hlen : len ≤ 140737488355072) (hn0 : sp = none → cap = 0) (z : Nat → Int) (hz : In 256 len z) (w : World) (hks : Src w kp kl key) (hs : Src w sp len z) :
    Calls Tryd.prog 33 #[.slice kp kl kc, .int .i64 size, .slice sp len cap] w fun e w' => ∃ sp' cap', e = .returned (.tuple #[.slice sp' (bL kl size) cap', .int .i64 (bE kl size)]) ∧ (bL kl size ≤ cap' ∧ Src w' sp' (bL kl size) (bsum kl key size.toNat len z)) ∧ Below w.heap.size w w' := by
  by_cases hbad : size < 1 ∨ 32 < size ∨ 32 < kl
  · have e1 : bL kl size = 0 := by unfold bL; rw [if_pos hbad]
    have e2 : bE kl size = 1 := by unfold bE; rw [if_pos hbad]
    rw [e1, e2]
    refine (refSum_bad kp kl kc size sp len cap hbad w).mono fun e w' h => ?_
    exact ⟨none, 0, h.1, ⟨Nat.le_refl _, fun j hj => absurd hj (Nat.not_lt_zero j)⟩, h.2⟩
  · obtain ⟨s, rfl⟩ := Int.eq_ofNat_of_zero_le (show 0 ≤ size by omega)
    have e1 : bL kl (s : Int) = s := by unfold bL; rw [if_neg hbad, Int.toNat_natCast]
    have e2 : bE kl (s : Int) = 0 := by unfold bE; rw [if_neg hbad]
    rw [e1, e2, Int.toNat_natCast]
    exact refSum_good kp kl kc key (by omega) hkk hkn s (by omega) (by omega) sp len cap hlen hn0 z hz w hks hs
end Go.Proofs.YtcdbkbcfjdpdoaaDoor

namespace Go.Proofs.YtcdbkbcfjdpdoaaDoor
open Go.RowKit

theorem loadAny {P : Program} {o : Oper} {a : Act} {w : World} (ty : TypeId) (k : IntKind) (x : Operand) (p : Addr) (v : Value) (ho : o.op = .load ty x) (hx : a.eval x = .pointer (some p)) (hu : P.underlying ty = some (.int k)) (hc : w.cell? p = some v) : (execOp a.eval o).run P w = .ok (.value v) w := by
  have hagg : (isAgg ty).run P w = .ok false w := by
    unfold isAgg
    rw [Sem.run_bind, run_underlying hu w]
    rfl
  have e : (loadVar ty p).run P w = .ok v w := by simp [loadVar, Sem.run_bind, hagg, hc]
  unfold execOp
  simp only [ho, hx, Instr.loadAt, Instr.sureAddr, Sem.run_bind, Sem.run_pure, Result.andThen_ok, e]
theorem bidxK (b i : Nat) (hi : i < 32) (w : World) {o : Oper} {a : Act} (x y : Operand) (ho : o.op = .indexAddr 25 x y) (hx : a.eval x = .pointer (some ⟨b, 0, none⟩)) (hy : a.eval y = .int .i64 (i : Int)) :
    (execOp a.eval o).run Tryd.prog w = .ok (.value (.pointer (some ⟨b, i, none⟩))) w := by
  have h := idxArr (P := Tryd.prog) 25 5 32 .i64 b 0 i x y Tryd.underlying25 (fun _ => by kernel_rfl) hi ho hx hy w
  rw [Nat.zero_add] at h
  exact h

set_option maxRecDepth 10000 in
set_option maxHeartbeats 8000000 in
theorem refHash_any (sp : Option Addr) (len cap : Nat) (hlen : len ≤ 140737488355072) (hn0 : sp = none → cap = 0) (z : Nat → Int) (hz : In 256 len z) (w : World) (hs : Src w sp len z) :
    Calls Tryd.prog 28 #[.slice sp len cap] w fun e w' => e = .returned (.agg (row .u8 32 (bhash len z)).toArray) ∧ Below w.heap.size w w' := by
  have K := Kr.init w
  replace K := K.make 32 #[.int .u8 0, .int .u8 0, .int .u8 0, .int .u8 0, .int .u8 0, .int .u8 0, .int .u8 0, .int .u8 0, .int .u8 0, .int .u8 0, .int .u8 0, .int .u8 0, .int .u8 0, .int .u8 0, .int .u8 0, .int .u8 0, .int .u8 0, .int .u8 0, .int .u8 0, .int .u8 0, .int .u8 0, .int .u8 0, .int .u8 0, .int .u8 0, .int .u8 0, .int .u8 0, .int .u8 0, .int .u8 0, .int .u8 0, .int .u8 0, .int .u8 0, .int .u8 0] 25 (w.heap.size) rfl (key_zero _ _ _ rfl).there
  go_enter Tryd.func28, Tryd.ntmps28
  go_upto_region 1 with fail
  generalize (w.alloc (.cells #[.int .u8 0, .int .u8 0, .int .u8 0, .int .u8 0, .int .u8 0, .int .u8 0, .int .u8 0, .int .u8 0, .int .u8 0, .int .u8 0, .int .u8 0, .int .u8 0, .int .u8 0, .int .u8 0, .int .u8 0, .int .u8 0, .int .u8 0, .int .u8 0, .int .u8 0, .int .u8 0, .int .u8 0, .int .u8 0, .int .u8 0, .int .u8 0, .int .u8 0, .int .u8 0, .int .u8 0, .int .u8 0, .int .u8 0, .int .u8 0, .int .u8 0, .int .u8 0] 25)) = w0 at K ⊢
  refine wp_region_list ?_
  refine pureL (.slice sp len cap) rfl (fun _ => by kernel_rfl) ?_
  simp only [Act.put, List.setIfInBounds_toArray, List.set_cons_zero, List.set_cons_succ]
  refine callL rfl (fun _ => by kernel_rfl) (refSum_good none 0 0 (fun _ => 0) (by omega) (fun _ hj => absurd hj (Nat.not_lt_zero _)) (fun _ => rfl) 32 (by omega) (by omega) sp len cap hlen hn0 z hz _ (fun _ hj => absurd hj (Nat.not_lt_zero _)) (hs.below K.below (Nat.le_refl _))) ?_
  rintro e w1 ⟨tp, tc, rfl, ⟨_, hsrc⟩, l⟩
  replace K := K.call l
  clear l
  refine ⟨_, rfl, ?_⟩
  simp only [Act.put, List.setIfInBounds_toArray, List.set_cons_zero, List.set_cons_succ]
  refine pureL (.tuple #[.slice tp 32 tc, .int .i64 0]) rfl (fun _ => by kernel_rfl) ?_
  simp only [Act.put, List.setIfInBounds_toArray, List.set_cons_zero, List.set_cons_succ]
  refine pureL (.slice tp 32 tc) rfl (fun _ => by kernel_rfl) ?_
  simp only [Act.put, List.setIfInBounds_toArray, List.set_cons_zero, List.set_cons_succ]
  refine pureL (.int .i64 0) rfl (fun _ => by kernel_rfl) ?_
  simp only [Act.put, List.setIfInBounds_toArray, List.set_cons_zero, List.set_cons_succ]
  refine pureL (.slice tp 32 tc) rfl (fun _ => by kernel_rfl) ?_
  simp only [Act.put, List.setIfInBounds_toArray, List.set_cons_zero, List.set_cons_succ]
  refine pureL (.int .i64 0) rfl (fun _ => by kernel_rfl) ?_
  simp only [Act.put, List.setIfInBounds_toArray, List.set_cons_zero, List.set_cons_succ]
  show Exit.then _ _ _ _ _
  go_upto_region 2 with fail
  refine wp_region_list ?_
  refine pureL (.agg (row .u8 32 (fun _ => 0)).toArray) rfl (fun _ => by kernel_rfl) ?_
  simp only [Act.put, List.setIfInBounds_toArray, List.set_cons_zero, List.set_cons_succ]
  refine allocL #[.int .u8 0, .int .u8 0, .int .u8 0, .int .u8 0, .int .u8 0, .int .u8 0, .int .u8 0, .int .u8 0, .int .u8 0, .int .u8 0, .int .u8 0, .int .u8 0, .int .u8 0, .int .u8 0, .int .u8 0, .int .u8 0, .int .u8 0, .int .u8 0, .int .u8 0, .int .u8 0, .int .u8 0, .int .u8 0, .int .u8 0, .int .u8 0, .int .u8 0, .int .u8 0, .int .u8 0, .int .u8 0, .int .u8 0, .int .u8 0, .int .u8 0, .int .u8 0] 25 rfl (fun _ => by kernel_rfl) ?_
  simp only [Act.put, List.setIfInBounds_toArray, List.set_cons_zero, List.set_cons_succ]
  refine storesL .u8 32 (fun _ => 0) w1.heap.size 25 _ _ rfl rfl rfl rfl (room_of (key_zero _ _ _ rfl).there) (key_info' _) ?_
  simp only [Act.put]
  have K1 := (Kr.init w1).fresh .u8 32 (fun _ => 0) #[.int .u8 0, .int .u8 0, .int .u8 0, .int .u8 0, .int .u8 0, .int .u8 0, .int .u8 0, .int .u8 0, .int .u8 0, .int .u8 0, .int .u8 0, .int .u8 0, .int .u8 0, .int .u8 0, .int .u8 0, .int .u8 0, .int .u8 0, .int .u8 0, .int .u8 0, .int .u8 0, .int .u8 0, .int .u8 0, .int .u8 0, .int .u8 0, .int .u8 0, .int .u8 0, .int .u8 0, .int .u8 0, .int .u8 0, .int .u8 0, .int .u8 0, .int .u8 0] 25 (key_zero _ _ _ rfl).there
  generalize ((w1.alloc (.cells #[.int .u8 0, .int .u8 0, .int .u8 0, .int .u8 0, .int .u8 0, .int .u8 0, .int .u8 0, .int .u8 0, .int .u8 0, .int .u8 0, .int .u8 0, .int .u8 0, .int .u8 0, .int .u8 0, .int .u8 0, .int .u8 0, .int .u8 0, .int .u8 0, .int .u8 0, .int .u8 0, .int .u8 0, .int .u8 0, .int .u8 0, .int .u8 0, .int .u8 0, .int .u8 0, .int .u8 0, .int .u8 0, .int .u8 0, .int .u8 0, .int .u8 0, .int .u8 0] 25)).setCells w1.heap.size 0 (row .u8 32 (fun _ => 0))) = w2 at K1 ⊢
  show Exit.then _ _ _ _ _
  go_wp2
  go_loopw [6] (fun i w' => ∃ (m : Nat) (f : Nat → Int), m ≤ 32 ∧ i = .int .i64 m ∧ Kr w1 (w1.heap.size + 1) [(w1.heap.size, .u8, 32, f)] [] w' ∧ ∀ j, j < m → f j = bhash len z j) (fun i _ => 32 - (intOf i).toNat)
  case atStart => exact ⟨0, _, by omega, rfl, K1, fun j hj => absurd hj (Nat.not_lt_zero j)⟩
  case round =>
    clear K1
    obtain ⟨m, f, hm, rfl, K1, hf⟩ := hrel
    have g1 : (0 : Int) ≤ (m : Int) := by omega
    by_cases hlt : m < 32
    · have g2 : (m : Int) < 32 := by omega
      obtain ⟨ad, rfl, hc⟩ := (hsrc.below K1.below (Nat.le_refl _)) m hlt
      go_upto_region 6 with fail
      refine wp_region_list ?_
      refine pureL (.int .i64 (m : Int)) rfl (fun _ => by kernel_rfl) ?_
      simp only [Act.put, List.setIfInBounds_toArray, List.set_cons_zero, List.set_cons_succ]
      refine pureL (.slice (some ad) 32 tc) rfl (fun _ => by kernel_rfl) ?_
      simp only [Act.put, List.setIfInBounds_toArray, List.set_cons_zero, List.set_cons_succ]
      refine pureL (.int .i64 (m : Int)) rfl (fun _ => by kernel_rfl) ?_
      simp only [Act.put, List.setIfInBounds_toArray, List.set_cons_zero, List.set_cons_succ]
      refine pureL (.pointer (some (ad.add m))) rfl (fun w => idxSl 22 5 32 tc .i64 ad m _ _ Tryd.underlying22 (fun _ => by kernel_rfl) hlt rfl rfl rfl w) ?_
      simp only [Act.put, List.setIfInBounds_toArray, List.set_cons_zero, List.set_cons_succ]
      refine readL (.int .u8 (bhash len z m)) rfl (loadAny 5 .u8 _ (ad.add m) _ rfl rfl Tryd.underlying5 hc) ?_
      simp only [Act.put, List.setIfInBounds_toArray, List.set_cons_zero, List.set_cons_succ]
      refine pureL (.pointer (some ⟨w1.heap.size, m, none⟩)) rfl (fun w' => bidxK w1.heap.size m hlt w' _ _ rfl rfl rfl) ?_
      simp only [Act.put, List.setIfInBounds_toArray, List.set_cons_zero, List.set_cons_succ]
      refine storeL .u8 (bhash len z m) w1.heap.size m 5 _ _ rfl rfl rfl rfl (by rw [(K1.get _ _ _ _ List.mem_cons_self).cell m hlt]; rfl) ((K1.get _ _ _ _ List.mem_cons_self).free m hlt) (by kernel_rfl) ?_
      simp only [Act.put]
      replace K1 := K1.setCell [] w1.heap.size .u8 32 f m hlt (bhash len z m) List.mem_cons_self (fun _ hp => by cases hp) (fun _ hp => by cases hp) (Nat.le_refl _)
      have HS := show Hid _ from (And.intro K1 (show ∀ j, j < m + 1 → upd f m (bhash len z m) j = bhash len z j from fun j hj => by
        by_cases e : j = m
        · subst e; rw [upd_same]
        · rw [upd_other _ _ _ _ e]; exact hf j (by omega)))
      clear K1 hf hc
      generalize wr.setCell ⟨w1.heap.size, m, none⟩ (.int .u8 (bhash len z m)) = w3 at HS ⊢
      show Exit.inBlock _ _ _ _ _
      go_wp2
      go_roundw
      case rel => first | exact ⟨m + 1, _, by omega, by go_num, HS.out⟩ | ((repeat apply Exists.intro); refine ⟨⟨m + 1, _, by omega, by go_num, HS.out⟩, rfl⟩)
      case measure => simp [intOf]; omega
    · obtain rfl : m = 32 := by omega
      replace K := K.call K1.below
      have HR := (K1.get _ _ _ _ List.mem_cons_self).congr (g := bhash len z) hf
      have hz' := (K.room _ List.mem_cons_self).1
      have hB := (K.fill _ _ List.mem_cons_self (row .u8 32 (bhash len z))).below
      clear K K1 hf hlt hm g1 hsrc
      generalize hj : bhash len z = f at *
      go_wp2_with (first | (refine wpList_load_mid rfl 25 _ rfl (w1.heap.size) 0 rfl (row .u8 32 (f)) _ (Has.range (HR)) Tryd.underlying25 rfl (key_info _) ?_) | (refine wpList_store_mid rfl 25 _ _ rfl (w.heap.size) 0 (row .u8 32 f).toArray rfl rfl (room_of hz') (key_info' _) (all_oneCell_toArray (row_one _ _ _)) ?_))
      exact bodyPost_ret (v := (.agg (row .u8 32 (f)).toArray)) (results_row Tryd.results28 rfl (Has.all hz' .u8 f).range Tryd.underlying25 rfl (key_info f)) rfl ⟨rfl, hB⟩

/-- Two slices of one's own, apart. -/
structure Two8 (w : World) (B n : Nat) (f : Nat → Int) (a : Value) (m : Nat) (g : Nat → Int) (b : Value) : Prop where
  one : Own w B 5 .u8 n f a
  two : Own w B 5 .u8 m g b
  ne : a.ownBlock ≠ b.ownBlock
theorem Two8.symm {w : World} {B n : Nat} {f : Nat → Int} {a : Value} {m : Nat} {g : Nat → Int} {b : Value} (h : Two8 w B n f a m g b) : Two8 w B m g b n f a := ⟨h.two, h.one, fun e => h.ne e.symm⟩
theorem Two8.more {w' : World} {B n : Nat} {f : Nat → Int} {a : Value} {m : Nat} {g : Nat → Int} {b : Value} (h : Two8 w' B n f a m g b) (hn : n < 140737488355328) (x : Int) (hx : f n = x) (ty : TypeId) (hb : B ≤ w'.heap.size) :
    ∃ v w'', (Builtin.append_ #[22, 22] ty #[a, .slice (some ⟨w'.heap.size, 0, none⟩) 1 1]).run Tryd.prog (w'.alloc (.cells #[.int .u8 x] 5)) = .ok v w'' ∧ Two8 w'' B (n + 1) f v m g b ∧ (w'.alloc (.cells #[.int .u8 x] 5)).grownBy w'' a.ownBlock := by
  have H1 := Has.new w' .u8 1 (fun _ => x) 5 w'.heap.size rfl
  obtain ⟨v, w'', hr, ho, hg, hw⟩ := run_append_Own (P := Tryd.prog) (ty := ty) Tryd.underlying22 one8 (h.one.alloc (.cells (row .u8 1 (fun _ => x)).toArray 5)) (some ⟨w'.heap.size, 0, none⟩) 1 1 (fun _ => x) (fun j hj => ⟨_, rfl, by rw [Addr.add_mid, Nat.zero_add]; exact H1.cell j hj⟩) (fun e => by cases e) (by unfold maxLen; omega) (by omega) (by simp; omega)
  refine ⟨v, w'', hr, ⟨ho.congr fun j hj => ?_, World.ownsRow.kept (h.two.alloc _) hg (.inr fun e => h.ne e.symm), fun e => ?_⟩, hg⟩
  · unfold app
    by_cases e : j < n
    · rw [if_pos e]
    · rw [if_neg e, ← hx, show j = n by omega]
  · obtain ⟨q, cap, rfl, _⟩ := ho.has (by omega)
    rcases hw q rfl with h1 | h1
    · exact h.ne (h1.trans e)
    · have := (World.ownsRow.lt h.two q e.symm).2
      simp at h1
      omega

set_option maxRecDepth 10000 in
set_option maxHeartbeats 16000000 in
theorem refMac_any (kp : Option Addr) (kl kc : Nat) (hkl : kl ≤ 140737488355072) (hkn : kp = none → kc = 0) (key : Nat → Int) (hk : In 256 kl key) (sp : Option Addr) (len cap : Nat) (hlen : len ≤ 140737488354816) (hn0 : sp = none → cap = 0) (z : Nat → Int) (hz : In 256 len z) (w : World) (hks : Src w kp kl key) (hs : Src w sp len z) :
    Calls Tryd.prog 21 #[.slice kp kl kc, .slice sp len cap] w fun e w' => e = .returned (.agg (row .u8 32 (bmac kl key len z)).toArray) ∧ Below w.heap.size w w' := by
  have K := Kr.init w
  replace K := K.make 32 #[.int .u8 0, .int .u8 0, .int .u8 0, .int .u8 0, .int .u8 0, .int .u8 0, .int .u8 0, .int .u8 0, .int .u8 0, .int .u8 0, .int .u8 0, .int .u8 0, .int .u8 0, .int .u8 0, .int .u8 0, .int .u8 0, .int .u8 0, .int .u8 0, .int .u8 0, .int .u8 0, .int .u8 0, .int .u8 0, .int .u8 0, .int .u8 0, .int .u8 0, .int .u8 0, .int .u8 0, .int .u8 0, .int .u8 0, .int .u8 0, .int .u8 0, .int .u8 0] 25 (w.heap.size) rfl (key_zero _ _ _ rfl).there
  go_enter Tryd.func21, Tryd.ntmps21
  go_upto_region 1 with fail
  generalize (w.alloc (.cells #[.int .u8 0, .int .u8 0, .int .u8 0, .int .u8 0, .int .u8 0, .int .u8 0, .int .u8 0, .int .u8 0, .int .u8 0, .int .u8 0, .int .u8 0, .int .u8 0, .int .u8 0, .int .u8 0, .int .u8 0, .int .u8 0, .int .u8 0, .int .u8 0, .int .u8 0, .int .u8 0, .int .u8 0, .int .u8 0, .int .u8 0, .int .u8 0, .int .u8 0, .int .u8 0, .int .u8 0, .int .u8 0, .int .u8 0, .int .u8 0, .int .u8 0, .int .u8 0] 25)) = w0 at K ⊢
  refine wp_region_list ?_
  refine actL (w' := w0.alloc (.cells #[] 5)) (.slice (some ⟨w0.heap.size, 0, none⟩) 0 0) rfl (by kernel_rfl) ?_
  simp only [Act.put, List.setIfInBounds_toArray, List.set_cons_zero, List.set_cons_succ]
  refine pureL (.slice kp kl kc) rfl (fun _ => by kernel_rfl) ?_
  simp only [Act.put, List.setIfInBounds_toArray, List.set_cons_zero, List.set_cons_succ]
  have hO : Own (w0.alloc (.cells #[] 5)) (w.heap.size + 1) 5 .u8 0 key (.slice (some ⟨w0.heap.size, 0, none⟩) 0 0) := Own.lit w0 (w.heap.size + 1) 5 .u8 0 key K.size (by unfold maxLen; omega)
  replace K := K.call ((Below.refl w0.heap.size w0).alloc (Nat.le_refl _) (.cells #[] 5))
  generalize w0.alloc (.cells #[] 5) = w1 at K hO ⊢
  obtain ⟨v, w2, hr, ho, hg, _⟩ := run_append_Own (P := Tryd.prog) (ty := 22) Tryd.underlying22 one8 hO kp kl kc key (hks.below K.below (Nat.le_refl _)) hkn (by unfold maxLen; omega) (by omega) K.size
  replace K := K.grown hg (fun b hb => (World.ownsRow.lt hO b hb).1)
  refine actL v rfl (appendOp _ _ 22 _ _ _ rfl rfl rfl hr) ?_
  simp only [Act.put, List.setIfInBounds_toArray, List.set_cons_zero, List.set_cons_succ]
  refine pureL v rfl (fun _ => by kernel_rfl) ?_
  simp only [Act.put, List.setIfInBounds_toArray, List.set_cons_zero, List.set_cons_succ]
  replace hO : Own w2 (w.heap.size + 1) 5 .u8 kl key v := by
    rw [Nat.zero_add] at ho
    exact ho.congr fun j hj => by unfold app; rw [if_neg (by omega), Nat.sub_zero]
  clear hr ho hg
  obtain ⟨ts, tc, rfl, htc, hts⟩ := hO.bytes
  show Exit.then _ _ _ _ _
  by_cases hl : kl ≤ 64
  · have h1 : ¬ (64 : Int) < (kl : Int) := by omega
    have h2 : ¬ (65 : Int) ≤ (kl : Int) := by omega
    have HT : Own w2 (w.heap.size + 1) 5 .u8 kl (bkk kl key) (.slice ts kl tc) := hO.congr fun j hj => by unfold bkk; rw [if_pos hl, if_pos hj]
    have hpad : ∀ n, kl ≤ n → bkk kl key n = 0 := fun n hn => by unfold bkk; rw [if_pos hl, if_neg (by omega)]
    clear hO hts
    go_wp2
    go_loopw [5] (fun tw w' => ∃ (n : Nat) (v : Value), v = tw ∧ kl ≤ n ∧ n ≤ 64 ∧ Own w' (w.heap.size + 1) 5 .u8 n (bkk kl key) v ∧ Kr w (w.heap.size + 1) [] [(w.heap.size, 32)] w') (fun tw _ => 64 - slen tw)
    case atStart => exact ⟨_, _, rfl, Nat.le_refl _, by omega, HT, K⟩
    case round =>
      clear K HT
      obtain ⟨n, v, rfl, hn1, hn2, HT, K⟩ := hrel
      obtain ⟨us, uc, rfl, huc, hus⟩ := HT.bytes
      by_cases hlt : n < 64
      · have g1 : (n : Int) < 64 := by omega
        go_upto_region 6 with fail
        refine wp_region_list ?_
        refine pureL (.slice us n uc) rfl (fun _ => by kernel_rfl) ?_
        simp only [Act.put, List.setIfInBounds_toArray, List.set_cons_zero, List.set_cons_succ]
        refine actL (w' := wr.alloc (.cells #[.int .u8 0] 5)) (.slice (some ⟨wr.heap.size, 0, none⟩) 1 1) rfl (by kernel_rfl) ?_
        simp only [Act.put, List.setIfInBounds_toArray, List.set_cons_zero, List.set_cons_succ]
        obtain ⟨v, w5, hr, ho, hg⟩ := HT.more8 (by omega) 0 (hpad n hn1) 22 K.size
        replace K := (K.call ((Below.refl wr.heap.size wr).alloc (Nat.le_refl _) (.cells #[.int .u8 0] 5))).grown hg (fun b hb => (World.ownsRow.lt HT b hb).1)
        refine actL v rfl (appendOp _ _ 22 _ _ _ rfl rfl rfl hr) ?_
        simp only [Act.put, List.setIfInBounds_toArray, List.set_cons_zero, List.set_cons_succ]
        refine pureL v rfl (fun _ => by kernel_rfl) ?_
        simp only [Act.put, List.setIfInBounds_toArray, List.set_cons_zero, List.set_cons_succ]
        show Exit.inBlock _ _ _ _ _
        obtain ⟨ts2, tc2, rfl, _, _⟩ := ho.bytes
        have HS := show Hid _ from (And.intro ho K)
        clear HT K hr ho hg hus
        go_wp2
        go_roundw
        case rel => first | exact ⟨n + 1, _, rfl, by omega, by omega, HS.out⟩ | ((repeat apply Exists.intro); refine ⟨⟨n + 1, _, rfl, by omega, by omega, HS.out⟩, rfl⟩)
        case measure => simp [slen]; omega
      · obtain rfl : n = 64 := by omega
        obtain ⟨G, _, hve, hG1, hG2, HG⟩ := HT.has (by omega)
        injection hve with hve1 _ hve3
        subst hve1 hve3
        replace K := K.own hG1 hG2 HG
        clear HG HT hus hpad hlt hn1 hn2
        go_upto_region 7 with fail
        refine wp_region_list ?_
        refine actL (w' := wr.alloc (.cells #[] 5)) (.slice (some ⟨wr.heap.size, 0, none⟩) 0 0) rfl (by kernel_rfl) ?_
        simp only [Act.put, List.setIfInBounds_toArray, List.set_cons_zero, List.set_cons_succ]
        refine pureL (.slice (some ⟨wr.heap.size, 0, none⟩) 0 0) rfl (fun _ => by kernel_rfl) ?_
        simp only [Act.put, List.setIfInBounds_toArray, List.set_cons_zero, List.set_cons_succ]
        show Exit.then _ _ _ _ _
        go_upto_region 8 with fail
        refine wp_region_list ?_
        refine actL (w' := (wr.alloc (.cells #[] 5)).alloc (.cells #[] 5)) (.slice (some ⟨(wr.alloc (.cells #[] 5)).heap.size, 0, none⟩) 0 0) rfl (by kernel_rfl) ?_
        simp only [Act.put, List.setIfInBounds_toArray, List.set_cons_zero, List.set_cons_succ]
        refine pureL (.slice (some ⟨(wr.alloc (.cells #[] 5)).heap.size, 0, none⟩) 0 0) rfl (fun _ => by kernel_rfl) ?_
        simp only [Act.put, List.setIfInBounds_toArray, List.set_cons_zero, List.set_cons_succ]
        have H2 : Two8 ((wr.alloc (.cells #[] 5)).alloc (.cells #[] 5)) wr.heap.size 0 (bxx 54 (bkk kl key)) (.slice (some ⟨wr.heap.size, 0, none⟩) 0 0) 0 (bxx 92 (bkk kl key)) (.slice (some ⟨(wr.alloc (.cells #[] 5)).heap.size, 0, none⟩) 0 0) :=
          ⟨Own.alloc (Own.lit wr wr.heap.size 5 .u8 0 _ (Nat.le_refl _) (by unfold maxLen; omega)) _, Own.lit (wr.alloc (.cells #[] 5)) wr.heap.size 5 .u8 0 _ (by simp) (by unfold maxLen; omega), fun e => by injection e with e; simp at e⟩
        replace K := (K.call ((Below.refl wr.heap.size wr).alloc (Nat.le_refl _) (.cells #[] 5))).call ((Below.refl _ _).alloc (Nat.le_refl _) (.cells #[] 5))
        generalize (wr.alloc (.cells #[] 5)).alloc (.cells #[] 5) = w6 at K H2 ⊢
        generalize Value.slice (some ⟨(wr.alloc (.cells #[] 5)).heap.size, 0, none⟩) 0 0 = vb at H2 ⊢
        generalize Value.slice (some ⟨wr.heap.size, 0, none⟩) 0 0 = va at H2 ⊢
        generalize wr.heap.size = Q at K H2
        show Exit.then _ _ _ _ _
        go_wp2
        go_loopw [7, 8, 9] (fun aw bw i w' => ∃ (n : Nat) (va vb : Value), n ≤ 64 ∧ va = aw ∧ vb = bw ∧ i = .int .i64 (n : Int) ∧ Two8 w' Q n (bxx 54 (bkk kl key)) va n (bxx 92 (bkk kl key)) vb ∧ Kr w Q [(G, .u8, 64, bkk kl key)] [(w.heap.size, 32)] w') (fun _ _ i _ => 64 - (intOf i).toNat)
        case atStart => exact ⟨0, _, _, by omega, rfl, rfl, rfl, H2, K⟩
        case round =>
          clear K H2
          obtain ⟨n, va, vb, hn, rfl, rfl, rfl, H2, K⟩ := hrel
          have g1 : (0 : Int) ≤ (n : Int) := by omega
          by_cases hlt : n < 64
          · have g2 : (n : Int) < 64 := by omega
            go_upto_region 12 with fail
            refine wp_region_list ?_
            refine pureL va rfl (fun _ => by kernel_rfl) ?_
            simp only [Act.put, List.setIfInBounds_toArray, List.set_cons_zero, List.set_cons_succ]
            refine pureL (.slice (some ⟨G, 0, none⟩) 64 uc) rfl (fun _ => by kernel_rfl) ?_
            simp only [Act.put, List.setIfInBounds_toArray, List.set_cons_zero, List.set_cons_succ]
            refine pureL (.int .i64 (n : Int)) rfl (fun _ => by kernel_rfl) ?_
            simp only [Act.put, List.setIfInBounds_toArray, List.set_cons_zero, List.set_cons_succ]
            refine pureL (.pointer (some ⟨G, n, none⟩)) rfl (fun w' => idxO G 64 uc n hlt w' _ _ rfl rfl rfl) ?_
            simp only [Act.put, List.setIfInBounds_toArray, List.set_cons_zero, List.set_cons_succ]
            refine cellL .u8 (.int .u8 (bkk kl key n)) G n 5 _ rfl rfl rfl Tryd.underlying5 ((K.get _ _ _ _ List.mem_cons_self).cell n hlt) ?_
            simp only [Act.put, List.setIfInBounds_toArray, List.set_cons_zero, List.set_cons_succ]
            refine pureL (.int .u8 (bxx 54 (bkk kl key) n)) rfl (fun w => xorI .u8 _ _ _ _ _ _ _ rfl rfl rfl rfl w) ?_
            simp only [Act.put, List.setIfInBounds_toArray, List.set_cons_zero, List.set_cons_succ]
            refine actL (w' := wr.alloc (.cells #[.int .u8 (bxx 54 (bkk kl key) n)] 5)) (.slice (some ⟨wr.heap.size, 0, none⟩) 1 1) rfl (by kernel_rfl) ?_
            simp only [Act.put, List.setIfInBounds_toArray, List.set_cons_zero, List.set_cons_succ]
            obtain ⟨va1, w7, hr, h2, hg⟩ := H2.more (by omega) (bxx 54 (bkk kl key) n) rfl 22 K.size
            replace K := (K.call ((Below.refl wr.heap.size wr).alloc (Nat.le_refl _) (.cells #[.int .u8 (bxx 54 (bkk kl key) n)] 5))).grown hg (fun b hb => (World.ownsRow.lt H2.one b hb).1)
            refine actL va1 rfl (appendOp _ _ 22 _ _ _ rfl rfl rfl hr) ?_
            simp only [Act.put, List.setIfInBounds_toArray, List.set_cons_zero, List.set_cons_succ]
            refine pureL va1 rfl (fun _ => by kernel_rfl) ?_
            simp only [Act.put, List.setIfInBounds_toArray, List.set_cons_zero, List.set_cons_succ]
            replace H2 := h2.symm
            clear hr hg h2
            show Exit.then _ _ _ _ _
            go_upto_region 13 with fail
            refine wp_region_list ?_
            refine pureL vb rfl (fun _ => by kernel_rfl) ?_
            simp only [Act.put, List.setIfInBounds_toArray, List.set_cons_zero, List.set_cons_succ]
            refine pureL (.slice (some ⟨G, 0, none⟩) 64 uc) rfl (fun _ => by kernel_rfl) ?_
            simp only [Act.put, List.setIfInBounds_toArray, List.set_cons_zero, List.set_cons_succ]
            refine pureL (.int .i64 (n : Int)) rfl (fun _ => by kernel_rfl) ?_
            simp only [Act.put, List.setIfInBounds_toArray, List.set_cons_zero, List.set_cons_succ]
            refine pureL (.pointer (some ⟨G, n, none⟩)) rfl (fun w' => idxO G 64 uc n hlt w' _ _ rfl rfl rfl) ?_
            simp only [Act.put, List.setIfInBounds_toArray, List.set_cons_zero, List.set_cons_succ]
            refine cellL .u8 (.int .u8 (bkk kl key n)) G n 5 _ rfl rfl rfl Tryd.underlying5 ((K.get _ _ _ _ List.mem_cons_self).cell n hlt) ?_
            simp only [Act.put, List.setIfInBounds_toArray, List.set_cons_zero, List.set_cons_succ]
            refine pureL (.int .u8 (bxx 92 (bkk kl key) n)) rfl (fun w => xorI .u8 _ _ _ _ _ _ _ rfl rfl rfl rfl w) ?_
            simp only [Act.put, List.setIfInBounds_toArray, List.set_cons_zero, List.set_cons_succ]
            refine actL (w' := w7.alloc (.cells #[.int .u8 (bxx 92 (bkk kl key) n)] 5)) (.slice (some ⟨w7.heap.size, 0, none⟩) 1 1) rfl (by kernel_rfl) ?_
            simp only [Act.put, List.setIfInBounds_toArray, List.set_cons_zero, List.set_cons_succ]
            obtain ⟨vb1, w8, hr, h2, hg⟩ := H2.more (by omega) (bxx 92 (bkk kl key) n) rfl 22 K.size
            replace K := (K.call ((Below.refl w7.heap.size w7).alloc (Nat.le_refl _) (.cells #[.int .u8 (bxx 92 (bkk kl key) n)] 5))).grown hg (fun b hb => (World.ownsRow.lt H2.one b hb).1)
            refine actL vb1 rfl (appendOp _ _ 22 _ _ _ rfl rfl rfl hr) ?_
            simp only [Act.put, List.setIfInBounds_toArray, List.set_cons_zero, List.set_cons_succ]
            refine pureL vb1 rfl (fun _ => by kernel_rfl) ?_
            simp only [Act.put, List.setIfInBounds_toArray, List.set_cons_zero, List.set_cons_succ]
            replace H2 := h2.symm
            clear hr hg h2
            show Exit.inBlock _ _ _ _ _
            have HS := show Hid _ from (And.intro H2 K)
            clear H2 K
            go_wp2
            go_roundw
            case rel => first | exact ⟨n + 1, _, _, by omega, rfl, rfl, by go_num, HS.out⟩ | ((repeat apply Exists.intro); refine ⟨⟨n + 1, _, _, by omega, rfl, rfl, by go_num, HS.out⟩, rfl⟩)
            case measure => simp [intOf]; omega
          · obtain rfl : n = 64 := by omega
            clear hlt hn g1
            have hk64 := bkk_in kl key hk 64
            go_upto_region 14 with fail
            refine wp_region_list ?_
            refine pureL va rfl (fun _ => by kernel_rfl) ?_
            simp only [Act.put, List.setIfInBounds_toArray, List.set_cons_zero, List.set_cons_succ]
            refine pureL (.slice sp len cap) rfl (fun _ => by kernel_rfl) ?_
            simp only [Act.put, List.setIfInBounds_toArray, List.set_cons_zero, List.set_cons_succ]
            obtain ⟨v1, w7, hr, ho, hg, _⟩ := run_append_Own (P := Tryd.prog) (ty := 22) Tryd.underlying22 one8 H2.one sp len cap z (hs.below K.below (Nat.le_refl _)) hn0 (by unfold maxLen; omega) (by omega) K.size
            replace K := K.grown hg (fun b hb => (World.ownsRow.lt H2.one b hb).1)
            have hob : Own w7 Q 5 .u8 64 (bxx 92 (bkk kl key)) vb := World.ownsRow.kept H2.two hg (.inr fun e => H2.ne e.symm)
            refine actL v1 rfl (appendOp _ _ 22 _ _ _ rfl rfl rfl hr) ?_
            simp only [Act.put, List.setIfInBounds_toArray, List.set_cons_zero, List.set_cons_succ]
            obtain ⟨ip, ic, rfl, hic, his⟩ := ho.bytes
            refine callL rfl (fun _ => by kernel_rfl) (refHash_any ip (64 + len) ic (by omega) ho.nilCap (app (bxx 54 (bkk kl key)) 64 z) (app_in 64 len _ _ (bxx_in 54 (by decide) _ 64 hk64) hz) _ his) ?_
            rintro e w8 ⟨rfl, l⟩
            replace K := K.call l
            replace hob := hob.below l
            clear l H2 ho hr hg his
            refine ⟨_, rfl, ?_⟩
            simp only [Act.put, List.setIfInBounds_toArray, List.set_cons_zero, List.set_cons_succ]
            obtain ⟨hi, hhi⟩ : ∃ f, f = bhash (64 + len) (app (bxx 54 (bkk kl key)) 64 z) := ⟨_, rfl⟩
            rw [← hhi]
            replace hhi := show Hid _ from hhi
            refine allocL #[.int .u8 0, .int .u8 0, .int .u8 0, .int .u8 0, .int .u8 0, .int .u8 0, .int .u8 0, .int .u8 0, .int .u8 0, .int .u8 0, .int .u8 0, .int .u8 0, .int .u8 0, .int .u8 0, .int .u8 0, .int .u8 0, .int .u8 0, .int .u8 0, .int .u8 0, .int .u8 0, .int .u8 0, .int .u8 0, .int .u8 0, .int .u8 0, .int .u8 0, .int .u8 0, .int .u8 0, .int .u8 0, .int .u8 0, .int .u8 0, .int .u8 0, .int .u8 0] 25 rfl (fun _ => by kernel_rfl) ?_
            simp only [Act.put, List.setIfInBounds_toArray, List.set_cons_zero, List.set_cons_succ]
            refine storesL .u8 32 hi w8.heap.size 25 _ _ rfl rfl rfl rfl (room_of (key_zero _ _ _ rfl).there) (key_info' _) ?_
            simp only [Act.put]
            have zT := K.size
            have hQ1 : w.heap.size < Q := (K.room _ List.mem_cons_self).2.1
            have hbl : Below w8.heap.size w8 ((w8.alloc (.cells #[.int .u8 0, .int .u8 0, .int .u8 0, .int .u8 0, .int .u8 0, .int .u8 0, .int .u8 0, .int .u8 0, .int .u8 0, .int .u8 0, .int .u8 0, .int .u8 0, .int .u8 0, .int .u8 0, .int .u8 0, .int .u8 0, .int .u8 0, .int .u8 0, .int .u8 0, .int .u8 0, .int .u8 0, .int .u8 0, .int .u8 0, .int .u8 0, .int .u8 0, .int .u8 0, .int .u8 0, .int .u8 0, .int .u8 0, .int .u8 0, .int .u8 0, .int .u8 0] 25)).setCells w8.heap.size 0 (row .u8 32 hi)) := below_setAll ((Below.refl w8.heap.size w8).alloc (Nat.le_refl _) _) _ (Nat.le_refl _) 0 _
            replace hob := hob.below hbl
            replace K := K.fresh .u8 32 hi #[.int .u8 0, .int .u8 0, .int .u8 0, .int .u8 0, .int .u8 0, .int .u8 0, .int .u8 0, .int .u8 0, .int .u8 0, .int .u8 0, .int .u8 0, .int .u8 0, .int .u8 0, .int .u8 0, .int .u8 0, .int .u8 0, .int .u8 0, .int .u8 0, .int .u8 0, .int .u8 0, .int .u8 0, .int .u8 0, .int .u8 0, .int .u8 0, .int .u8 0, .int .u8 0, .int .u8 0, .int .u8 0, .int .u8 0, .int .u8 0, .int .u8 0, .int .u8 0] 25 (key_zero _ _ _ rfl).there
            clear hbl
            generalize ((w8.alloc (.cells #[.int .u8 0, .int .u8 0, .int .u8 0, .int .u8 0, .int .u8 0, .int .u8 0, .int .u8 0, .int .u8 0, .int .u8 0, .int .u8 0, .int .u8 0, .int .u8 0, .int .u8 0, .int .u8 0, .int .u8 0, .int .u8 0, .int .u8 0, .int .u8 0, .int .u8 0, .int .u8 0, .int .u8 0, .int .u8 0, .int .u8 0, .int .u8 0, .int .u8 0, .int .u8 0, .int .u8 0, .int .u8 0, .int .u8 0, .int .u8 0, .int .u8 0, .int .u8 0] 25)).setCells w8.heap.size 0 (row .u8 32 hi)) = w9 at K hob ⊢
            generalize w8.heap.size = T at *
            show Exit.then _ _ _ _ _
            go_upto_region 15 with fail
            refine wp_region_list ?_
            refine pureL vb rfl (fun _ => by kernel_rfl) ?_
            simp only [Act.put, List.setIfInBounds_toArray, List.set_cons_zero, List.set_cons_succ]
            refine pureL (.slice (some ⟨T, 0, none⟩) 32 32) rfl (fun _ => by kernel_rfl) ?_
            simp only [Act.put, List.setIfInBounds_toArray, List.set_cons_zero, List.set_cons_succ]
            obtain ⟨v2, w10, hr, ho, hg, _⟩ := run_append_Own (P := Tryd.prog) (ty := 22) Tryd.underlying22 one8 hob (some ⟨T, 0, none⟩) 32 32 hi (fun j hj => ⟨_, rfl, by rw [Addr.add_mid, Nat.zero_add]; exact (K.get _ _ _ _ List.mem_cons_self).cell j hj⟩) (fun e => by cases e) (by unfold maxLen; omega) (by omega) (by have := K.size; omega)
            replace K := (K.back [] Q (fun _ hp => by cases hp) (fun _ hp => by cases hp) (fun q hq => by obtain rfl := List.mem_singleton.1 hq; simp only; omega) (by omega) (by omega)).grown hg (fun b hb => (World.ownsRow.lt hob b hb).1)
            refine actL v2 rfl (appendOp _ _ 22 _ _ _ rfl rfl rfl hr) ?_
            simp only [Act.put, List.setIfInBounds_toArray, List.set_cons_zero, List.set_cons_succ]
            obtain ⟨op, oc, rfl, hoc, hos⟩ := ho.bytes
            have hhi2 := hhi.out
            refine callL rfl (fun _ => by kernel_rfl) (refHash_any op 96 oc (by omega) ho.nilCap (app (bxx 92 (bkk kl key)) 64 hi) (app_in 64 32 _ _ (bxx_in 92 (by decide) _ 64 hk64) (by rw [hhi2]; exact bhash_in _ _ _)) _ hos) ?_
            rintro e w11 ⟨rfl, l⟩
            replace K := K.call l
            clear l ho hr hg hos hob
            refine ⟨_, rfl, ?_⟩
            simp only [Act.put, List.setIfInBounds_toArray, List.set_cons_zero, List.set_cons_succ]
            have hz' := (K.room _ List.mem_cons_self).1
            have hB := (K.fill _ _ List.mem_cons_self (row .u8 32 (bhash 96 (app (bxx 92 (bkk kl key)) 64 hi)))).below
            have hres : bhash 96 (app (bxx 92 (bkk kl key)) 64 hi) = bmac kl key len z := by rw [hhi2]; rfl
            rw [hres] at hB ⊢
            clear K hhi2 hres
            generalize hj : bmac kl key len z = f at *
            refine storesL .u8 32 f (w.heap.size) 25 _ _ rfl rfl rfl rfl (room_of hz') (key_info' _) ?_
            simp only [Act.put]
            show Exit.then _ _ _ _ _
            go_wp2
            exact bodyPost_ret (v := (.agg (row .u8 32 (f)).toArray)) (results_row Tryd.results21 rfl (Has.all hz' .u8 f).range Tryd.underlying25 rfl (key_info f)) rfl ⟨rfl, hB⟩
  · have h1 : (64 : Int) < (kl : Int) := by omega
    have h2 : (65 : Int) ≤ (kl : Int) := by omega
    go_upto_region 3 with fail
    refine wp_region_list ?_
    refine pureL (.slice ts kl tc) rfl (fun _ => by kernel_rfl) ?_
    simp only [Act.put, List.setIfInBounds_toArray, List.set_cons_zero, List.set_cons_succ]
    refine callL rfl (fun _ => by kernel_rfl) (refHash_any ts kl tc (by omega) hO.nilCap key hk _ hts) ?_
    rintro e w3 ⟨rfl, l⟩
    replace K := K.call l
    clear l hO hts
    refine ⟨_, rfl, ?_⟩
    simp only [Act.put, List.setIfInBounds_toArray, List.set_cons_zero, List.set_cons_succ]
    refine allocL #[.int .u8 0, .int .u8 0, .int .u8 0, .int .u8 0, .int .u8 0, .int .u8 0, .int .u8 0, .int .u8 0, .int .u8 0, .int .u8 0, .int .u8 0, .int .u8 0, .int .u8 0, .int .u8 0, .int .u8 0, .int .u8 0, .int .u8 0, .int .u8 0, .int .u8 0, .int .u8 0, .int .u8 0, .int .u8 0, .int .u8 0, .int .u8 0, .int .u8 0, .int .u8 0, .int .u8 0, .int .u8 0, .int .u8 0, .int .u8 0, .int .u8 0, .int .u8 0] 25 rfl (fun _ => by kernel_rfl) ?_
    simp only [Act.put, List.setIfInBounds_toArray, List.set_cons_zero, List.set_cons_succ]
    refine storesL .u8 32 (bhash kl key) w3.heap.size 25 _ _ rfl rfl rfl rfl (room_of (key_zero _ _ _ rfl).there) (key_info' _) ?_
    simp only [Act.put]
    have zT := K.size
    replace K := K.fresh .u8 32 (bhash kl key) #[.int .u8 0, .int .u8 0, .int .u8 0, .int .u8 0, .int .u8 0, .int .u8 0, .int .u8 0, .int .u8 0, .int .u8 0, .int .u8 0, .int .u8 0, .int .u8 0, .int .u8 0, .int .u8 0, .int .u8 0, .int .u8 0, .int .u8 0, .int .u8 0, .int .u8 0, .int .u8 0, .int .u8 0, .int .u8 0, .int .u8 0, .int .u8 0, .int .u8 0, .int .u8 0, .int .u8 0, .int .u8 0, .int .u8 0, .int .u8 0, .int .u8 0, .int .u8 0] 25 (key_zero _ _ _ rfl).there
    generalize ((w3.alloc (.cells #[.int .u8 0, .int .u8 0, .int .u8 0, .int .u8 0, .int .u8 0, .int .u8 0, .int .u8 0, .int .u8 0, .int .u8 0, .int .u8 0, .int .u8 0, .int .u8 0, .int .u8 0, .int .u8 0, .int .u8 0, .int .u8 0, .int .u8 0, .int .u8 0, .int .u8 0, .int .u8 0, .int .u8 0, .int .u8 0, .int .u8 0, .int .u8 0, .int .u8 0, .int .u8 0, .int .u8 0, .int .u8 0, .int .u8 0, .int .u8 0, .int .u8 0, .int .u8 0] 25)).setCells w3.heap.size 0 (row .u8 32 (bhash kl key))) = w4 at K ⊢
    generalize w3.heap.size = T at *
    show Exit.then _ _ _ _ _
    go_upto_region 4 with fail
    refine wp_region_list ?_
    refine actL (w' := w4.alloc (.cells #[] 5)) (.slice (some ⟨w4.heap.size, 0, none⟩) 0 0) rfl (by kernel_rfl) ?_
    simp only [Act.put, List.setIfInBounds_toArray, List.set_cons_zero, List.set_cons_succ]
    refine pureL (.slice (some ⟨T, 0, none⟩) 32 32) rfl (fun _ => by kernel_rfl) ?_
    simp only [Act.put, List.setIfInBounds_toArray, List.set_cons_zero, List.set_cons_succ]
    have hO : Own (w4.alloc (.cells #[] 5)) (T + 1) 5 .u8 0 key (.slice (some ⟨w4.heap.size, 0, none⟩) 0 0) := Own.lit w4 (T + 1) 5 .u8 0 key K.size (by unfold maxLen; omega)
    replace K := K.call ((Below.refl w4.heap.size w4).alloc (Nat.le_refl _) (.cells #[] 5))
    generalize w4.alloc (.cells #[] 5) = w5 at K hO ⊢
    obtain ⟨v, w6, hr, ho, hg, _⟩ := run_append_Own (P := Tryd.prog) (ty := 22) Tryd.underlying22 one8 hO (some ⟨T, 0, none⟩) 32 32 (bhash kl key) (fun j hj => ⟨_, rfl, by rw [Addr.add_mid, Nat.zero_add]; exact (K.get _ _ _ _ List.mem_cons_self).cell j hj⟩) (fun e => by cases e) (by unfold maxLen; omega) (by omega) K.size
    replace K := (K.sub [] (fun _ hp => by cases hp)).grown hg (fun b hb => (World.ownsRow.lt hO b hb).1)
    refine actL v rfl (appendOp _ _ 22 _ _ _ rfl rfl rfl hr) ?_
    simp only [Act.put, List.setIfInBounds_toArray, List.set_cons_zero, List.set_cons_succ]
    refine pureL v rfl (fun _ => by kernel_rfl) ?_
    simp only [Act.put, List.setIfInBounds_toArray, List.set_cons_zero, List.set_cons_succ]
    have HT : Own w6 (T + 1) 5 .u8 32 (bkk kl key) v := by
      rw [Nat.zero_add] at ho
      exact ho.congr fun j hj => by unfold app bkk; rw [if_neg (by omega), if_neg hl, if_pos hj, Nat.sub_zero]
    have hpad : ∀ n, 32 ≤ n → bkk kl key n = 0 := fun n hn => by unfold bkk; rw [if_neg hl, if_neg (by omega)]
    clear hr ho hg hO
    show Exit.then _ _ _ _ _
    go_wp2
    go_loopw [5] (fun tw w' => ∃ (n : Nat) (v : Value), v = tw ∧ 32 ≤ n ∧ n ≤ 64 ∧ Own w' (T + 1) 5 .u8 n (bkk kl key) v ∧ Kr w (T + 1) [] [(w.heap.size, 32)] w') (fun tw _ => 64 - slen tw)
    case atStart => exact ⟨_, _, rfl, Nat.le_refl _, by omega, HT, K⟩
    case round =>
      clear K HT
      obtain ⟨n, v, rfl, hn1, hn2, HT, K⟩ := hrel
      obtain ⟨us, uc, rfl, huc, hus⟩ := HT.bytes
      by_cases hlt : n < 64
      · have g1 : (n : Int) < 64 := by omega
        go_upto_region 6 with fail
        refine wp_region_list ?_
        refine pureL (.slice us n uc) rfl (fun _ => by kernel_rfl) ?_
        simp only [Act.put, List.setIfInBounds_toArray, List.set_cons_zero, List.set_cons_succ]
        refine actL (w' := wr.alloc (.cells #[.int .u8 0] 5)) (.slice (some ⟨wr.heap.size, 0, none⟩) 1 1) rfl (by kernel_rfl) ?_
        simp only [Act.put, List.setIfInBounds_toArray, List.set_cons_zero, List.set_cons_succ]
        obtain ⟨v, w5, hr, ho, hg⟩ := HT.more8 (by omega) 0 (hpad n hn1) 22 K.size
        replace K := (K.call ((Below.refl wr.heap.size wr).alloc (Nat.le_refl _) (.cells #[.int .u8 0] 5))).grown hg (fun b hb => (World.ownsRow.lt HT b hb).1)
        refine actL v rfl (appendOp _ _ 22 _ _ _ rfl rfl rfl hr) ?_
        simp only [Act.put, List.setIfInBounds_toArray, List.set_cons_zero, List.set_cons_succ]
        refine pureL v rfl (fun _ => by kernel_rfl) ?_
        simp only [Act.put, List.setIfInBounds_toArray, List.set_cons_zero, List.set_cons_succ]
        show Exit.inBlock _ _ _ _ _
        obtain ⟨ts2, tc2, rfl, _, _⟩ := ho.bytes
        have HS := show Hid _ from (And.intro ho K)
        clear HT K hr ho hg hus
        go_wp2
        go_roundw
        case rel => first | exact ⟨n + 1, _, rfl, by omega, by omega, HS.out⟩ | ((repeat apply Exists.intro); refine ⟨⟨n + 1, _, rfl, by omega, by omega, HS.out⟩, rfl⟩)
        case measure => simp [slen]; omega
      · obtain rfl : n = 64 := by omega
        obtain ⟨G, _, hve, hG1, hG2, HG⟩ := HT.has (by omega)
        injection hve with hve1 _ hve3
        subst hve1 hve3
        replace K := K.own hG1 hG2 HG
        clear HG HT hus hpad hlt hn1 hn2
        go_upto_region 7 with fail
        refine wp_region_list ?_
        refine actL (w' := wr.alloc (.cells #[] 5)) (.slice (some ⟨wr.heap.size, 0, none⟩) 0 0) rfl (by kernel_rfl) ?_
        simp only [Act.put, List.setIfInBounds_toArray, List.set_cons_zero, List.set_cons_succ]
        refine pureL (.slice (some ⟨wr.heap.size, 0, none⟩) 0 0) rfl (fun _ => by kernel_rfl) ?_
        simp only [Act.put, List.setIfInBounds_toArray, List.set_cons_zero, List.set_cons_succ]
        show Exit.then _ _ _ _ _
        go_upto_region 8 with fail
        refine wp_region_list ?_
        refine actL (w' := (wr.alloc (.cells #[] 5)).alloc (.cells #[] 5)) (.slice (some ⟨(wr.alloc (.cells #[] 5)).heap.size, 0, none⟩) 0 0) rfl (by kernel_rfl) ?_
        simp only [Act.put, List.setIfInBounds_toArray, List.set_cons_zero, List.set_cons_succ]
        refine pureL (.slice (some ⟨(wr.alloc (.cells #[] 5)).heap.size, 0, none⟩) 0 0) rfl (fun _ => by kernel_rfl) ?_
        simp only [Act.put, List.setIfInBounds_toArray, List.set_cons_zero, List.set_cons_succ]
        have H2 : Two8 ((wr.alloc (.cells #[] 5)).alloc (.cells #[] 5)) wr.heap.size 0 (bxx 54 (bkk kl key)) (.slice (some ⟨wr.heap.size, 0, none⟩) 0 0) 0 (bxx 92 (bkk kl key)) (.slice (some ⟨(wr.alloc (.cells #[] 5)).heap.size, 0, none⟩) 0 0) :=
          ⟨Own.alloc (Own.lit wr wr.heap.size 5 .u8 0 _ (Nat.le_refl _) (by unfold maxLen; omega)) _, Own.lit (wr.alloc (.cells #[] 5)) wr.heap.size 5 .u8 0 _ (by simp) (by unfold maxLen; omega), fun e => by injection e with e; simp at e⟩
        replace K := (K.call ((Below.refl wr.heap.size wr).alloc (Nat.le_refl _) (.cells #[] 5))).call ((Below.refl _ _).alloc (Nat.le_refl _) (.cells #[] 5))
        generalize (wr.alloc (.cells #[] 5)).alloc (.cells #[] 5) = w6 at K H2 ⊢
        generalize Value.slice (some ⟨(wr.alloc (.cells #[] 5)).heap.size, 0, none⟩) 0 0 = vb at H2 ⊢
        generalize Value.slice (some ⟨wr.heap.size, 0, none⟩) 0 0 = va at H2 ⊢
        generalize wr.heap.size = Q at K H2
        show Exit.then _ _ _ _ _
        go_wp2
        go_loopw [7, 8, 9] (fun aw bw i w' => ∃ (n : Nat) (va vb : Value), n ≤ 64 ∧ va = aw ∧ vb = bw ∧ i = .int .i64 (n : Int) ∧ Two8 w' Q n (bxx 54 (bkk kl key)) va n (bxx 92 (bkk kl key)) vb ∧ Kr w Q [(G, .u8, 64, bkk kl key)] [(w.heap.size, 32)] w') (fun _ _ i _ => 64 - (intOf i).toNat)
        case atStart => exact ⟨0, _, _, by omega, rfl, rfl, rfl, H2, K⟩
        case round =>
          clear K H2
          obtain ⟨n, va, vb, hn, rfl, rfl, rfl, H2, K⟩ := hrel
          have g1 : (0 : Int) ≤ (n : Int) := by omega
          by_cases hlt : n < 64
          · have g2 : (n : Int) < 64 := by omega
            go_upto_region 12 with fail
            refine wp_region_list ?_
            refine pureL va rfl (fun _ => by kernel_rfl) ?_
            simp only [Act.put, List.setIfInBounds_toArray, List.set_cons_zero, List.set_cons_succ]
            refine pureL (.slice (some ⟨G, 0, none⟩) 64 uc) rfl (fun _ => by kernel_rfl) ?_
            simp only [Act.put, List.setIfInBounds_toArray, List.set_cons_zero, List.set_cons_succ]
            refine pureL (.int .i64 (n : Int)) rfl (fun _ => by kernel_rfl) ?_
            simp only [Act.put, List.setIfInBounds_toArray, List.set_cons_zero, List.set_cons_succ]
            refine pureL (.pointer (some ⟨G, n, none⟩)) rfl (fun w' => idxO G 64 uc n hlt w' _ _ rfl rfl rfl) ?_
            simp only [Act.put, List.setIfInBounds_toArray, List.set_cons_zero, List.set_cons_succ]
            refine cellL .u8 (.int .u8 (bkk kl key n)) G n 5 _ rfl rfl rfl Tryd.underlying5 ((K.get _ _ _ _ List.mem_cons_self).cell n hlt) ?_
            simp only [Act.put, List.setIfInBounds_toArray, List.set_cons_zero, List.set_cons_succ]
            refine pureL (.int .u8 (bxx 54 (bkk kl key) n)) rfl (fun w => xorI .u8 _ _ _ _ _ _ _ rfl rfl rfl rfl w) ?_
            simp only [Act.put, List.setIfInBounds_toArray, List.set_cons_zero, List.set_cons_succ]
            refine actL (w' := wr.alloc (.cells #[.int .u8 (bxx 54 (bkk kl key) n)] 5)) (.slice (some ⟨wr.heap.size, 0, none⟩) 1 1) rfl (by kernel_rfl) ?_
            simp only [Act.put, List.setIfInBounds_toArray, List.set_cons_zero, List.set_cons_succ]
            obtain ⟨va1, w7, hr, h2, hg⟩ := H2.more (by omega) (bxx 54 (bkk kl key) n) rfl 22 K.size
            replace K := (K.call ((Below.refl wr.heap.size wr).alloc (Nat.le_refl _) (.cells #[.int .u8 (bxx 54 (bkk kl key) n)] 5))).grown hg (fun b hb => (World.ownsRow.lt H2.one b hb).1)
            refine actL va1 rfl (appendOp _ _ 22 _ _ _ rfl rfl rfl hr) ?_
            simp only [Act.put, List.setIfInBounds_toArray, List.set_cons_zero, List.set_cons_succ]
            refine pureL va1 rfl (fun _ => by kernel_rfl) ?_
            simp only [Act.put, List.setIfInBounds_toArray, List.set_cons_zero, List.set_cons_succ]
            replace H2 := h2.symm
            clear hr hg h2
            show Exit.then _ _ _ _ _
            go_upto_region 13 with fail
            refine wp_region_list ?_
            refine pureL vb rfl (fun _ => by kernel_rfl) ?_
            simp only [Act.put, List.setIfInBounds_toArray, List.set_cons_zero, List.set_cons_succ]
            refine pureL (.slice (some ⟨G, 0, none⟩) 64 uc) rfl (fun _ => by kernel_rfl) ?_
            simp only [Act.put, List.setIfInBounds_toArray, List.set_cons_zero, List.set_cons_succ]
            refine pureL (.int .i64 (n : Int)) rfl (fun _ => by kernel_rfl) ?_
            simp only [Act.put, List.setIfInBounds_toArray, List.set_cons_zero, List.set_cons_succ]
            refine pureL (.pointer (some ⟨G, n, none⟩)) rfl (fun w' => idxO G 64 uc n hlt w' _ _ rfl rfl rfl) ?_
            simp only [Act.put, List.setIfInBounds_toArray, List.set_cons_zero, List.set_cons_succ]
            refine cellL .u8 (.int .u8 (bkk kl key n)) G n 5 _ rfl rfl rfl Tryd.underlying5 ((K.get _ _ _ _ List.mem_cons_self).cell n hlt) ?_
            simp only [Act.put, List.setIfInBounds_toArray, List.set_cons_zero, List.set_cons_succ]
            refine pureL (.int .u8 (bxx 92 (bkk kl key) n)) rfl (fun w => xorI .u8 _ _ _ _ _ _ _ rfl rfl rfl rfl w) ?_
            simp only [Act.put, List.setIfInBounds_toArray, List.set_cons_zero, List.set_cons_succ]
            refine actL (w' := w7.alloc (.cells #[.int .u8 (bxx 92 (bkk kl key) n)] 5)) (.slice (some ⟨w7.heap.size, 0, none⟩) 1 1) rfl (by kernel_rfl) ?_
            simp only [Act.put, List.setIfInBounds_toArray, List.set_cons_zero, List.set_cons_succ]
            obtain ⟨vb1, w8, hr, h2, hg⟩ := H2.more (by omega) (bxx 92 (bkk kl key) n) rfl 22 K.size
            replace K := (K.call ((Below.refl w7.heap.size w7).alloc (Nat.le_refl _) (.cells #[.int .u8 (bxx 92 (bkk kl key) n)] 5))).grown hg (fun b hb => (World.ownsRow.lt H2.one b hb).1)
            refine actL vb1 rfl (appendOp _ _ 22 _ _ _ rfl rfl rfl hr) ?_
            simp only [Act.put, List.setIfInBounds_toArray, List.set_cons_zero, List.set_cons_succ]
            refine pureL vb1 rfl (fun _ => by kernel_rfl) ?_
            simp only [Act.put, List.setIfInBounds_toArray, List.set_cons_zero, List.set_cons_succ]
            replace H2 := h2.symm
            clear hr hg h2
            show Exit.inBlock _ _ _ _ _
            have HS := show Hid _ from (And.intro H2 K)
            clear H2 K
            go_wp2
            go_roundw
            case rel => first | exact ⟨n + 1, _, _, by omega, rfl, rfl, by go_num, HS.out⟩ | ((repeat apply Exists.intro); refine ⟨⟨n + 1, _, _, by omega, rfl, rfl, by go_num, HS.out⟩, rfl⟩)
            case measure => simp [intOf]; omega
          · obtain rfl : n = 64 := by omega
            clear hlt hn g1
            have hk64 := bkk_in kl key hk 64
            go_upto_region 14 with fail
            refine wp_region_list ?_
            refine pureL va rfl (fun _ => by kernel_rfl) ?_
            simp only [Act.put, List.setIfInBounds_toArray, List.set_cons_zero, List.set_cons_succ]
            refine pureL (.slice sp len cap) rfl (fun _ => by kernel_rfl) ?_
            simp only [Act.put, List.setIfInBounds_toArray, List.set_cons_zero, List.set_cons_succ]
            obtain ⟨v1, w7, hr, ho, hg, _⟩ := run_append_Own (P := Tryd.prog) (ty := 22) Tryd.underlying22 one8 H2.one sp len cap z (hs.below K.below (Nat.le_refl _)) hn0 (by unfold maxLen; omega) (by omega) K.size
            replace K := K.grown hg (fun b hb => (World.ownsRow.lt H2.one b hb).1)
            have hob : Own w7 Q 5 .u8 64 (bxx 92 (bkk kl key)) vb := World.ownsRow.kept H2.two hg (.inr fun e => H2.ne e.symm)
            refine actL v1 rfl (appendOp _ _ 22 _ _ _ rfl rfl rfl hr) ?_
            simp only [Act.put, List.setIfInBounds_toArray, List.set_cons_zero, List.set_cons_succ]
            obtain ⟨ip, ic, rfl, hic, his⟩ := ho.bytes
            refine callL rfl (fun _ => by kernel_rfl) (refHash_any ip (64 + len) ic (by omega) ho.nilCap (app (bxx 54 (bkk kl key)) 64 z) (app_in 64 len _ _ (bxx_in 54 (by decide) _ 64 hk64) hz) _ his) ?_
            rintro e w8 ⟨rfl, l⟩
            replace K := K.call l
            replace hob := hob.below l
            clear l H2 ho hr hg his
            refine ⟨_, rfl, ?_⟩
            simp only [Act.put, List.setIfInBounds_toArray, List.set_cons_zero, List.set_cons_succ]
            obtain ⟨hi, hhi⟩ : ∃ f, f = bhash (64 + len) (app (bxx 54 (bkk kl key)) 64 z) := ⟨_, rfl⟩
            rw [← hhi]
            replace hhi := show Hid _ from hhi
            refine allocL #[.int .u8 0, .int .u8 0, .int .u8 0, .int .u8 0, .int .u8 0, .int .u8 0, .int .u8 0, .int .u8 0, .int .u8 0, .int .u8 0, .int .u8 0, .int .u8 0, .int .u8 0, .int .u8 0, .int .u8 0, .int .u8 0, .int .u8 0, .int .u8 0, .int .u8 0, .int .u8 0, .int .u8 0, .int .u8 0, .int .u8 0, .int .u8 0, .int .u8 0, .int .u8 0, .int .u8 0, .int .u8 0, .int .u8 0, .int .u8 0, .int .u8 0, .int .u8 0] 25 rfl (fun _ => by kernel_rfl) ?_
            simp only [Act.put, List.setIfInBounds_toArray, List.set_cons_zero, List.set_cons_succ]
            refine storesL .u8 32 hi w8.heap.size 25 _ _ rfl rfl rfl rfl (room_of (key_zero _ _ _ rfl).there) (key_info' _) ?_
            simp only [Act.put]
            have zT := K.size
            have hQ1 : w.heap.size < Q := (K.room _ List.mem_cons_self).2.1
            have hbl : Below w8.heap.size w8 ((w8.alloc (.cells #[.int .u8 0, .int .u8 0, .int .u8 0, .int .u8 0, .int .u8 0, .int .u8 0, .int .u8 0, .int .u8 0, .int .u8 0, .int .u8 0, .int .u8 0, .int .u8 0, .int .u8 0, .int .u8 0, .int .u8 0, .int .u8 0, .int .u8 0, .int .u8 0, .int .u8 0, .int .u8 0, .int .u8 0, .int .u8 0, .int .u8 0, .int .u8 0, .int .u8 0, .int .u8 0, .int .u8 0, .int .u8 0, .int .u8 0, .int .u8 0, .int .u8 0, .int .u8 0] 25)).setCells w8.heap.size 0 (row .u8 32 hi)) := below_setAll ((Below.refl w8.heap.size w8).alloc (Nat.le_refl _) _) _ (Nat.le_refl _) 0 _
            replace hob := hob.below hbl
            replace K := K.fresh .u8 32 hi #[.int .u8 0, .int .u8 0, .int .u8 0, .int .u8 0, .int .u8 0, .int .u8 0, .int .u8 0, .int .u8 0, .int .u8 0, .int .u8 0, .int .u8 0, .int .u8 0, .int .u8 0, .int .u8 0, .int .u8 0, .int .u8 0, .int .u8 0, .int .u8 0, .int .u8 0, .int .u8 0, .int .u8 0, .int .u8 0, .int .u8 0, .int .u8 0, .int .u8 0, .int .u8 0, .int .u8 0, .int .u8 0, .int .u8 0, .int .u8 0, .int .u8 0, .int .u8 0] 25 (key_zero _ _ _ rfl).there
            clear hbl
            generalize ((w8.alloc (.cells #[.int .u8 0, .int .u8 0, .int .u8 0, .int .u8 0, .int .u8 0, .int .u8 0, .int .u8 0, .int .u8 0, .int .u8 0, .int .u8 0, .int .u8 0, .int .u8 0, .int .u8 0, .int .u8 0, .int .u8 0, .int .u8 0, .int .u8 0, .int .u8 0, .int .u8 0, .int .u8 0, .int .u8 0, .int .u8 0, .int .u8 0, .int .u8 0, .int .u8 0, .int .u8 0, .int .u8 0, .int .u8 0, .int .u8 0, .int .u8 0, .int .u8 0, .int .u8 0] 25)).setCells w8.heap.size 0 (row .u8 32 hi)) = w9 at K hob ⊢
            generalize w8.heap.size = T at *
            show Exit.then _ _ _ _ _
            go_upto_region 15 with fail
            refine wp_region_list ?_
            refine pureL vb rfl (fun _ => by kernel_rfl) ?_
            simp only [Act.put, List.setIfInBounds_toArray, List.set_cons_zero, List.set_cons_succ]
            refine pureL (.slice (some ⟨T, 0, none⟩) 32 32) rfl (fun _ => by kernel_rfl) ?_
            simp only [Act.put, List.setIfInBounds_toArray, List.set_cons_zero, List.set_cons_succ]
            obtain ⟨v2, w10, hr, ho, hg, _⟩ := run_append_Own (P := Tryd.prog) (ty := 22) Tryd.underlying22 one8 hob (some ⟨T, 0, none⟩) 32 32 hi (fun j hj => ⟨_, rfl, by rw [Addr.add_mid, Nat.zero_add]; exact (K.get _ _ _ _ List.mem_cons_self).cell j hj⟩) (fun e => by cases e) (by unfold maxLen; omega) (by omega) (by have := K.size; omega)
            replace K := (K.back [] Q (fun _ hp => by cases hp) (fun _ hp => by cases hp) (fun q hq => by obtain rfl := List.mem_singleton.1 hq; simp only; omega) (by omega) (by omega)).grown hg (fun b hb => (World.ownsRow.lt hob b hb).1)
            refine actL v2 rfl (appendOp _ _ 22 _ _ _ rfl rfl rfl hr) ?_
            simp only [Act.put, List.setIfInBounds_toArray, List.set_cons_zero, List.set_cons_succ]
            obtain ⟨op, oc, rfl, hoc, hos⟩ := ho.bytes
            have hhi2 := hhi.out
            refine callL rfl (fun _ => by kernel_rfl) (refHash_any op 96 oc (by omega) ho.nilCap (app (bxx 92 (bkk kl key)) 64 hi) (app_in 64 32 _ _ (bxx_in 92 (by decide) _ 64 hk64) (by rw [hhi2]; exact bhash_in _ _ _)) _ hos) ?_
            rintro e w11 ⟨rfl, l⟩
            replace K := K.call l
            clear l ho hr hg hos hob
            refine ⟨_, rfl, ?_⟩
            simp only [Act.put, List.setIfInBounds_toArray, List.set_cons_zero, List.set_cons_succ]
            have hz' := (K.room _ List.mem_cons_self).1
            have hB := (K.fill _ _ List.mem_cons_self (row .u8 32 (bhash 96 (app (bxx 92 (bkk kl key)) 64 hi)))).below
            have hres : bhash 96 (app (bxx 92 (bkk kl key)) 64 hi) = bmac kl key len z := by rw [hhi2]; rfl
            rw [hres] at hB ⊢
            clear K hhi2 hres
            generalize hj : bmac kl key len z = f at *
            refine storesL .u8 32 f (w.heap.size) 25 _ _ rfl rfl rfl rfl (room_of hz') (key_info' _) ?_
            simp only [Act.put]
            show Exit.then _ _ _ _ _
            go_wp2
            exact bodyPost_ret (v := (.agg (row .u8 32 (f)).toArray)) (results_row Tryd.results21 rfl (Has.all hz' .u8 f).range Tryd.underlying25 rfl (key_info f)) rfl ⟨rfl, hB⟩
end Go.Proofs.YtcdbkbcfjdpdoaaDoor

namespace Go.Proofs.YtcdbkbcfjdpdoaaDoor
open Go.RowKit

def bplc (j : Nat) : Int := if j % 4 = 0 then (pA (j / 4) : Int) else if j % 4 = 1 then (pB (j / 4) : Int) else if j % 4 = 2 then (pC (j / 4) : Int) else (pD (j / 4) : Int)
structure BGlob (w : World) : Prop where
  first : ∀ j, j < 8 → w.cell? ⟨0, j, none⟩ = some (.int .u32 (iv j))
  order : ∀ j, j < 160 → w.cell? ⟨2, j, none⟩ = some (.int .u8 (sgL.getD j 0 : Nat))
  place : ∀ j, j < 32 → w.cell? ⟨1, j, none⟩ = some (.int .u8 (bplc j))
  size : 3 ≤ w.heap.size
theorem BGlob.below {w w' : World} (h : BGlob w) {B : Nat} (l : Below B w w') (hB : 3 ≤ B) : BGlob w' :=
  ⟨fun j hj => by rw [l.cell (p := ⟨0, j, none⟩) (Nat.lt_of_lt_of_le (show 0 < 3 by decide) hB)]; exact h.first j hj, fun j hj => by rw [l.cell (p := ⟨2, j, none⟩) (Nat.lt_of_lt_of_le (show 2 < 3 by decide) hB)]; exact h.order j hj, fun j hj => by rw [l.cell (p := ⟨1, j, none⟩) (Nat.lt_of_lt_of_le (show 1 < 3 by decide) hB)]; exact h.place j hj, Nat.le_trans h.size l.size⟩
theorem BGlob.four {w : World} (h : BGlob w) (k : Nat) (hk : k < 8) : w.cell? ⟨1, k * 4, none⟩ = some (.int .u8 (pA k)) ∧ w.cell? ⟨1, k * 4 + 1, none⟩ = some (.int .u8 (pB k)) ∧ w.cell? ⟨1, k * 4 + 2, none⟩ = some (.int .u8 (pC k)) ∧ w.cell? ⟨1, k * 4 + 3, none⟩ = some (.int .u8 (pD k)) := by
  have e1 : bplc (k * 4) = (pA k : Int) := by unfold bplc; rw [if_pos (by omega), show k * 4 / 4 = k by omega]
  have e2 : bplc (k * 4 + 1) = (pB k : Int) := by unfold bplc; rw [if_neg (by omega), if_pos (by omega), show (k * 4 + 1) / 4 = k by omega]
  have e3 : bplc (k * 4 + 2) = (pC k : Int) := by unfold bplc; rw [if_neg (by omega), if_neg (by omega), if_pos (by omega), show (k * 4 + 2) / 4 = k by omega]
  have e4 : bplc (k * 4 + 3) = (pD k : Int) := by unfold bplc; rw [if_neg (by omega), if_neg (by omega), if_neg (by omega), show (k * 4 + 3) / 4 = k by omega]
  rw [← e1, ← e2, ← e3, ← e4]
  exact ⟨h.place _ (by omega), h.place _ (by omega), h.place _ (by omega), h.place _ (by omega)⟩
theorem BGlob.sg {w : World} (h : BGlob w) (r i : Nat) (hr : r < 10) (hi : i < 16) : w.cell? ⟨2, r * 16 + i, none⟩ = some (.int .u8 (sg r i)) := by
  have e : (sgL.getD (r * 16 + i) 0 : Nat) = Go.Proofs.YtcdbkbcfjdpdoaaDoor.sg r i := by unfold Go.Proofs.YtcdbkbcfjdpdoaaDoor.sg; rw [Nat.mul_comm]
  rw [← e]
  exact h.order _ (by omega)
end Go.Proofs.YtcdbkbcfjdpdoaaDoor

namespace Go.Proofs.YtcdbkbcfjdpdoaaDoor
open Go.RowKit

def BHashOK : Prop := ∀ (sp : Option Addr) (len cap : Nat), len ≤ 140737488355072 → len ≤ cap → (sp = none → cap = 0) → ∀ z : Nat → Int, In 256 len z → ∀ w : World, BGlob w → Src w sp len z →
    Calls Tryd.prog 25 #[.slice sp len cap] w fun e w' => e = .returned (.agg (row .u8 32 (bhash len z)).toArray) ∧ Below w.heap.size w w'
def BMacOK : Prop := ∀ (kp : Option Addr) (kl kc : Nat), kl ≤ 140737488355072 → kl ≤ kc → (kp = none → kc = 0) → ∀ key : Nat → Int, In 256 kl key → ∀ (sp : Option Addr) (len cap : Nat), len ≤ 140737488354816 → len ≤ cap → (sp = none → cap = 0) → ∀ z : Nat → Int, In 256 len z → ∀ w : World, BGlob w → Src w kp kl key → Src w sp len z →
    Calls Tryd.prog 20 #[.slice kp kl kc, .slice sp len cap] w fun e w' => e = .returned (.agg (row .u8 32 (bmac kl key len z)).toArray) ∧ Below w.heap.size w w'
end Go.Proofs.YtcdbkbcfjdpdoaaDoor

namespace Go.Proofs.YtcdbkbcfjdpdoaaDoor
open Go.RowKit

set_option maxHeartbeats 2000000 in
theorem bmix_any (a b c d x y : Int) (w : World) :
    Calls Tryd.prog 42 #[.int .u32 a, .int .u32 b, .int .u32 c, .int .u32 d, .int .u32 x, .int .u32 y] w fun e w' => e = .returned (.tuple #[.int .u32 (bA a b c d x y), .int .u32 (bB a b c d x y), .int .u32 (bC a b c d x y), .int .u32 (bD a b c d x y)]) ∧ w' = w := by
  go_enter Tryd.func42, Tryd.ntmps42
  go_wp2_with fail
  refine (rotR_any (-16) 16 (.inl ⟨rfl, rfl⟩) _ _).mono ?_
  rintro e w16 ⟨rfl, rfl⟩
  go_wp2_with fail
  refine (rotR_any (-12) 20 (.inr (.inl ⟨rfl, rfl⟩)) _ _).mono ?_
  rintro e w12 ⟨rfl, rfl⟩
  go_wp2_with fail
  refine (rotR_any (-8) 24 (.inr (.inr (.inl ⟨rfl, rfl⟩))) _ _).mono ?_
  rintro e w8 ⟨rfl, rfl⟩
  go_wp2_with fail
  refine (rotR_any (-7) 25 (.inr (.inr (.inr ⟨rfl, rfl⟩))) _ _).mono ?_
  rintro e w7 ⟨rfl, rfl⟩
  go_wp2_with fail
  exact bodyPost_ret (results_four Tryd.results42 rfl rfl rfl rfl) rfl ⟨by simp only [bA, bB, bC, bD, bA1, bB1, bC1, bD1, mA, mD, hxr, had, Int.emod_add_emod, Int.add_assoc]; rfl, rfl⟩
end Go.Proofs.YtcdbkbcfjdpdoaaDoor

namespace Go.Proofs.YtcdbkbcfjdpdoaaDoor
open Go.RowKit

theorem bst_info (f : Nat → Int) : (Tryd.prog.info? 44).map (·.size) = some (row .u32 8 f).length := by rw [row_length]; kernel_rfl
theorem bst_info' (f : Nat → Int) : (Tryd.prog.info? 44).map (·.size) = some (row .u32 8 f).toArray.size := by rw [List.size_toArray]; exact bst_info f
theorem bst_there {w : World} {b : Nat} {f g : Nat → Int} (h : Has w b .u32 8 f) : w.there b 0 (row .u32 8 g).toArray.size := by rw [List.size_toArray, row_length]; exact h.there
theorem bst_zero (w : World) (t : TypeId) (b : Nat) (hb : b = w.heap.size) : Has (w.alloc (.cells #[.int .u32 0, .int .u32 0, .int .u32 0, .int .u32 0, .int .u32 0, .int .u32 0, .int .u32 0, .int .u32 0] t)) b .u32 8 (fun _ => 0) := Has.new w .u32 8 (fun _ => 0) t b hb
theorem bwd_info (f : Nat → Int) : (Tryd.prog.info? 54).map (·.size) = some (row .u32 16 f).length := by rw [row_length]; kernel_rfl
theorem bwd_info' (f : Nat → Int) : (Tryd.prog.info? 54).map (·.size) = some (row .u32 16 f).toArray.size := by rw [List.size_toArray]; exact bwd_info f
theorem bwd_there {w : World} {b : Nat} {f g : Nat → Int} (h : Has w b .u32 16 f) : w.there b 0 (row .u32 16 g).toArray.size := by rw [List.size_toArray, row_length]; exact h.there
theorem bwd_zero (w : World) (t : TypeId) (b : Nat) (hb : b = w.heap.size) : Has (w.alloc (.cells #[.int .u32 0, .int .u32 0, .int .u32 0, .int .u32 0, .int .u32 0, .int .u32 0, .int .u32 0, .int .u32 0, .int .u32 0, .int .u32 0, .int .u32 0, .int .u32 0, .int .u32 0, .int .u32 0, .int .u32 0, .int .u32 0] t)) b .u32 16 (fun _ => 0) := Has.new w .u32 16 (fun _ => 0) t b hb
theorem bpc_info (f : Nat → Int) : (Tryd.prog.info? 68).map (·.size) = some (row .u8 64 f).length := by rw [row_length]; kernel_rfl
theorem bpc_info' (f : Nat → Int) : (Tryd.prog.info? 68).map (·.size) = some (row .u8 64 f).toArray.size := by rw [List.size_toArray]; exact bpc_info f
theorem bpc_there {w : World} {b : Nat} {f g : Nat → Int} (h : Has w b .u8 64 f) : w.there b 0 (row .u8 64 g).toArray.size := by rw [List.size_toArray, row_length]; exact h.there
theorem bpc_zero (w : World) (t : TypeId) (b : Nat) (hb : b = w.heap.size) : Has (w.alloc (.cells #[.int .u8 0, .int .u8 0, .int .u8 0, .int .u8 0, .int .u8 0, .int .u8 0, .int .u8 0, .int .u8 0, .int .u8 0, .int .u8 0, .int .u8 0, .int .u8 0, .int .u8 0, .int .u8 0, .int .u8 0, .int .u8 0, .int .u8 0, .int .u8 0, .int .u8 0, .int .u8 0, .int .u8 0, .int .u8 0, .int .u8 0, .int .u8 0, .int .u8 0, .int .u8 0, .int .u8 0, .int .u8 0, .int .u8 0, .int .u8 0, .int .u8 0, .int .u8 0, .int .u8 0, .int .u8 0, .int .u8 0, .int .u8 0, .int .u8 0, .int .u8 0, .int .u8 0, .int .u8 0, .int .u8 0, .int .u8 0, .int .u8 0, .int .u8 0, .int .u8 0, .int .u8 0, .int .u8 0, .int .u8 0, .int .u8 0, .int .u8 0, .int .u8 0, .int .u8 0, .int .u8 0, .int .u8 0, .int .u8 0, .int .u8 0, .int .u8 0, .int .u8 0, .int .u8 0, .int .u8 0, .int .u8 0, .int .u8 0, .int .u8 0, .int .u8 0] t)) b .u8 64 (fun _ => 0) := Has.new w .u8 64 (fun _ => 0) t b hb
theorem ixS (b i : Nat) (hi : i < 8) (w : World) {o : Oper} {a : Act} (x y : Operand) (ho : o.op = .indexAddr 44 x y) (hx : a.eval x = .pointer (some ⟨b, 0, none⟩)) (hy : a.eval y = .int .i64 (i : Int)) :
    (execOp a.eval o).run Tryd.prog w = .ok (.value (.pointer (some ⟨b, i, none⟩))) w := by
  have h := idxArr (P := Tryd.prog) 44 42 8 .i64 b 0 i x y Tryd.underlying44 (fun _ => by kernel_rfl) hi ho hx hy w
  rw [Nat.zero_add] at h
  exact h
theorem ixW (b i : Nat) (hi : i < 16) (w : World) {o : Oper} {a : Act} (x y : Operand) (ho : o.op = .indexAddr 54 x y) (hx : a.eval x = .pointer (some ⟨b, 0, none⟩)) (hy : a.eval y = .int .i64 (i : Int)) :
    (execOp a.eval o).run Tryd.prog w = .ok (.value (.pointer (some ⟨b, i, none⟩))) w := by
  have h := idxArr (P := Tryd.prog) 54 42 16 .i64 b 0 i x y Tryd.underlying54 (fun _ => by kernel_rfl) hi ho hx hy w
  rw [Nat.zero_add] at h
  exact h
theorem ixWb (b i : Nat) (hi : i < 16) (w : World) {o : Oper} {a : Act} (x y : Operand) (ho : o.op = .indexAddr 54 x y) (hx : a.eval x = .pointer (some ⟨b, 0, none⟩)) (hy : a.eval y = .int .u8 (i : Int)) :
    (execOp a.eval o).run Tryd.prog w = .ok (.value (.pointer (some ⟨b, i, none⟩))) w := by
  have h := idxArr (P := Tryd.prog) 54 42 16 .u8 b 0 i x y Tryd.underlying54 (fun _ => by kernel_rfl) hi ho hx hy w
  rw [Nat.zero_add] at h
  exact h
theorem ixV (b i : Nat) (hi : i < 8) (w : World) {o : Oper} {a : Act} (x y : Operand) (ho : o.op = .indexAddr 43 x y) (hx : a.eval x = .pointer (some ⟨b, 0, none⟩)) (hy : a.eval y = .int .i64 (i : Int)) :
    (execOp a.eval o).run Tryd.prog w = .ok (.value (.pointer (some ⟨b, i, none⟩))) w := by
  have h := idxArr (P := Tryd.prog) 43 42 8 .i64 b 0 i x y Tryd.underlying43 (fun _ => by kernel_rfl) hi ho hx hy w
  rw [Nat.zero_add] at h
  exact h
theorem bcut_64 (b k : Nat) (hk : k < 16) (w : World) : (Instr.sliceAt 68 (.pointer (some ⟨b, 0, none⟩)) (some (.int .i64 (4 * (k : Int)))) none none).run Tryd.prog w = .ok (.slice (some ⟨b, 4 * k, none⟩) (64 - 4 * k) (64 - 4 * k)) w := by
  have hl : Tryd.prog.arrayLen 68 = 64 := by kernel_rfl
  have hs : ∀ w, (sizeOf (Tryd.prog.elem 68)).run Tryd.prog w = .ok 1 w := fun w => by kernel_rfl
  rw [run_sliceAt_array_l w 68 ⟨b, 0, none⟩ (by kernel_rfl) .i64 _ (by omega) (by rw [hl]; omega), hs, hl]
  simp only [Result.andThen, slicedAt]
  have e1 : (4 * (k : Int)).toNat = 4 * k := by omega
  rw [e1, if_neg (by omega), Addr.add_mid, Nat.zero_add, Nat.mul_one]
theorem bcut_key (b k : Nat) (hk : k < 8) (w : World) : (Instr.sliceAt 25 (.pointer (some ⟨b, 0, none⟩)) (some (.int .i64 (4 * (k : Int)))) none none).run Tryd.prog w = .ok (.slice (some ⟨b, 4 * k, none⟩) (32 - 4 * k) (32 - 4 * k)) w := by
  have hl : Tryd.prog.arrayLen 25 = 32 := by kernel_rfl
  have hs : ∀ w, (sizeOf (Tryd.prog.elem 25)).run Tryd.prog w = .ok 1 w := fun w => by kernel_rfl
  rw [run_sliceAt_array_l w 25 ⟨b, 0, none⟩ (by kernel_rfl) .i64 _ (by omega) (by rw [hl]; omega), hs, hl]
  simp only [Result.andThen, slicedAt]
  have e1 : (4 * (k : Int)).toNat = 4 * k := by omega
  rw [e1, if_neg (by omega), Addr.add_mid, Nat.zero_add, Nat.mul_one]
theorem hxr_assoc (a b c : Int) (ha : 0 ≤ a ∧ a < V) (hb : 0 ≤ b ∧ b < V) (hc : 0 ≤ c ∧ c < V) : hxr (hxr a b) c = hxr a (hxr b c) := by
  obtain ⟨a, rfl⟩ := Int.eq_ofNat_of_zero_le ha.1
  obtain ⟨b, rfl⟩ := Int.eq_ofNat_of_zero_le hb.1
  obtain ⟨c, rfl⟩ := Int.eq_ofNat_of_zero_le hc.1
  have a2 := ha.2
  have b2 := hb.2
  have c2 := hc.2
  simp only [V] at a2 b2 c2
  have h1 : a ^^^ b < 2 ^ 32 := Nat.xor_lt_two_pow (by omega) (by omega)
  have h2 : b ^^^ c < 2 ^ 32 := Nat.xor_lt_two_pow (by omega) (by omega)
  unfold hxr
  rw [u32_xor_nat a b (by omega) (by omega), u32_xor_nat b c (by omega) (by omega), u32_xor_nat _ c (by omega) (by omega), u32_xor_nat a _ (by omega) (by omega), Nat.xor_assoc]
set_option maxRecDepth 10000 in
set_option maxHeartbeats 8000000 in
theorem bload_any (sp : Option Addr) (len cap : Nat) (hlen : len ≤ 64) (z : Nat → Int) (hz : In 256 len z) (w : World) (hs : Src w sp len z) :
    Calls Tryd.prog 37 #[.slice sp len cap] w fun e w' => e = .returned (.agg (row .u32 16 (bpw (padz len z))).toArray) ∧ Below w.heap.size w w' := by
  have K := Kr.init w
  replace K := K.make 16 #[.int .u32 0, .int .u32 0, .int .u32 0, .int .u32 0, .int .u32 0, .int .u32 0, .int .u32 0, .int .u32 0, .int .u32 0, .int .u32 0, .int .u32 0, .int .u32 0, .int .u32 0, .int .u32 0, .int .u32 0, .int .u32 0] 54 (w.heap.size) rfl (bwd_zero _ _ _ rfl).there
  replace K := K.boxO .u8 64 (fun _ => 0) (.cells #[.int .u8 0, .int .u8 0, .int .u8 0, .int .u8 0, .int .u8 0, .int .u8 0, .int .u8 0, .int .u8 0, .int .u8 0, .int .u8 0, .int .u8 0, .int .u8 0, .int .u8 0, .int .u8 0, .int .u8 0, .int .u8 0, .int .u8 0, .int .u8 0, .int .u8 0, .int .u8 0, .int .u8 0, .int .u8 0, .int .u8 0, .int .u8 0, .int .u8 0, .int .u8 0, .int .u8 0, .int .u8 0, .int .u8 0, .int .u8 0, .int .u8 0, .int .u8 0, .int .u8 0, .int .u8 0, .int .u8 0, .int .u8 0, .int .u8 0, .int .u8 0, .int .u8 0, .int .u8 0, .int .u8 0, .int .u8 0, .int .u8 0, .int .u8 0, .int .u8 0, .int .u8 0, .int .u8 0, .int .u8 0, .int .u8 0, .int .u8 0, .int .u8 0, .int .u8 0, .int .u8 0, .int .u8 0, .int .u8 0, .int .u8 0, .int .u8 0, .int .u8 0, .int .u8 0, .int .u8 0, .int .u8 0, .int .u8 0, .int .u8 0, .int .u8 0] 68) (w.heap.size + 1) (by simp) (bpc_zero _ _ _ (by simp))
  go_enter Tryd.func37, Tryd.ntmps37
  go_upto_region 2 with fail
  generalize ((w.alloc (.cells #[.int .u32 0, .int .u32 0, .int .u32 0, .int .u32 0, .int .u32 0, .int .u32 0, .int .u32 0, .int .u32 0, .int .u32 0, .int .u32 0, .int .u32 0, .int .u32 0, .int .u32 0, .int .u32 0, .int .u32 0, .int .u32 0] 54)).alloc (.cells #[.int .u8 0, .int .u8 0, .int .u8 0, .int .u8 0, .int .u8 0, .int .u8 0, .int .u8 0, .int .u8 0, .int .u8 0, .int .u8 0, .int .u8 0, .int .u8 0, .int .u8 0, .int .u8 0, .int .u8 0, .int .u8 0, .int .u8 0, .int .u8 0, .int .u8 0, .int .u8 0, .int .u8 0, .int .u8 0, .int .u8 0, .int .u8 0, .int .u8 0, .int .u8 0, .int .u8 0, .int .u8 0, .int .u8 0, .int .u8 0, .int .u8 0, .int .u8 0, .int .u8 0, .int .u8 0, .int .u8 0, .int .u8 0, .int .u8 0, .int .u8 0, .int .u8 0, .int .u8 0, .int .u8 0, .int .u8 0, .int .u8 0, .int .u8 0, .int .u8 0, .int .u8 0, .int .u8 0, .int .u8 0, .int .u8 0, .int .u8 0, .int .u8 0, .int .u8 0, .int .u8 0, .int .u8 0, .int .u8 0, .int .u8 0, .int .u8 0, .int .u8 0, .int .u8 0, .int .u8 0, .int .u8 0, .int .u8 0, .int .u8 0, .int .u8 0] 68)) = w0 at K ⊢
  have HR := K.get _ _ _ _ List.mem_cons_self
  replace K := K.loose [] (w.heap.size + 1) .u8 64 (fun _ => 0) List.mem_cons_self (fun _ hp => by cases hp) (fun _ hp => by cases hp) (by omega)
  refine wp_region_list ?_
  refine pureL (.slice (some ⟨w.heap.size + 1, 0, none⟩) 64 64) rfl (fun _ => by kernel_rfl) ?_
  simp only [Act.put, List.setIfInBounds_toArray, List.set_cons_zero, List.set_cons_succ]
  refine pureL (.slice sp len cap) rfl (fun _ => by kernel_rfl) ?_
  simp only [Act.put, List.setIfInBounds_toArray, List.set_cons_zero, List.set_cons_succ]
  refine actL (.int .i64 (len : Int)) rfl (run_copy_src _ _ 22 22 5 rfl Tryd.underlying22 (by kernel_rfl) (w.heap.size + 1) 64 64 len cap 64 sp z rfl rfl hlen hlen HR.there (hs.below K.below (Nat.le_refl _))) ?_
  simp only [Act.put, List.setIfInBounds_toArray, List.set_cons_zero, List.set_cons_succ]
  replace K := K.fill (w.heap.size + 1) 64 List.mem_cons_self (row .u8 len z)
  replace HR := (HR.part 0 len (by omega) z).congr (g := padz len z) (fun j hj => by
    unfold over padz
    by_cases e : j < len
    · rw [if_pos (by omega), if_pos e, Nat.sub_zero]
    · rw [if_neg (by omega), if_neg e])
  replace K := K.settle [(w.heap.size, 16)] (w.heap.size + 1) .u8 64 (padz len z) List.mem_cons_self (fun q hq => List.mem_cons_of_mem _ hq) (fun q hq => by obtain rfl := List.mem_singleton.1 hq; simp only; omega) HR
  generalize w0.setCells (w.heap.size + 1) 0 (row .u8 len z) = w1 at K ⊢
  clear HR w0 hs
  show Exit.then _ _ _ _ _
  go_upto_region 3 with fail
  have zX := K.size
  replace K := K.boxO .u32 16 (fun _ => 0) (.cells #[.int .u32 0, .int .u32 0, .int .u32 0, .int .u32 0, .int .u32 0, .int .u32 0, .int .u32 0, .int .u32 0, .int .u32 0, .int .u32 0, .int .u32 0, .int .u32 0, .int .u32 0, .int .u32 0, .int .u32 0, .int .u32 0] 54) w1.heap.size rfl (bwd_zero _ _ _ rfl)
  go_upto_region 4 with fail
  generalize hw : w1.alloc (.cells #[.int .u32 0, .int .u32 0, .int .u32 0, .int .u32 0, .int .u32 0, .int .u32 0, .int .u32 0, .int .u32 0, .int .u32 0, .int .u32 0, .int .u32 0, .int .u32 0, .int .u32 0, .int .u32 0, .int .u32 0, .int .u32 0] 54) = w2 at K ⊢
  clear hw
  generalize w1.heap.size = X at *
  have hp := padz_in len z hz 64
  generalize hpp : padz len z = p at *
  go_wp2
  go_loopw [9] (fun i w' => ∃ (n : Nat) (f : Nat → Int), n ≤ 16 ∧ i = .int .i64 n ∧ Kr w (X + 1) [(X, .u32, 16, f), (w.heap.size + 1, .u8, 64, p)] [(w.heap.size, 16)] w' ∧ ∀ j, j < n → f j = bpw p j) (fun i _ => 16 - (intOf i).toNat)
  case atStart => exact ⟨0, _, by omega, rfl, K, fun j hj => by omega⟩
  case round =>
    clear K
    obtain ⟨n, f, hn, rfl, K, hd⟩ := hrel
    have g1 : (0 : Int) ≤ (n : Int) := by omega
    by_cases hlt : n < 16
    · have g2 : (n : Int) < 16 := by omega
      go_upto_region 7 with fail
      refine wp_region_list ?_
      refine pureL (.int .i64 (n : Int)) rfl (fun _ => by kernel_rfl) ?_
      simp only [Act.put, List.setIfInBounds_toArray, List.set_cons_zero, List.set_cons_succ]
      refine pureL (.int .i64 (n : Int)) rfl (fun _ => by kernel_rfl) ?_
      simp only [Act.put, List.setIfInBounds_toArray, List.set_cons_zero, List.set_cons_succ]
      refine pureL (.int .i64 (4 * (n : Int))) rfl (fun w => mulI .i64 4 (n : Int) _ _ _ _ _ rfl rfl rfl (by rw [IntKind.wrap_i64]; omega) w) ?_
      simp only [Act.put, List.setIfInBounds_toArray, List.set_cons_zero, List.set_cons_succ]
      refine pureL (.slice (some ⟨w.heap.size + 1, 4 * n, none⟩) (64 - 4 * n) (64 - 4 * n)) rfl (fun w' => cutOp _ _ _ _ _ _ rfl rfl rfl (bcut_64 (w.heap.size + 1) n hlt w')) ?_
      simp only [Act.put, List.setIfInBounds_toArray, List.set_cons_zero, List.set_cons_succ]
      refine callL rfl (fun _ => by kernel_rfl) (of32_any (w.heap.size + 1) (4 * n) 64 (64 - 4 * n) (64 - 4 * n) p (by omega) (by omega) hp _ (K.get _ _ _ _ (List.mem_cons_of_mem _ List.mem_cons_self))) ?_
      rintro e w3 ⟨q, rfl, rfl⟩
      replace K := K.drewN (q := q)
      refine ⟨_, rfl, ?_⟩
      simp only [Act.put, List.setIfInBounds_toArray, List.set_cons_zero, List.set_cons_succ]
      refine pureL (.pointer (some ⟨X, n, none⟩)) rfl (fun w' => ixW X n hlt w' _ _ rfl rfl rfl) ?_
      simp only [Act.put, List.setIfInBounds_toArray, List.set_cons_zero, List.set_cons_succ]
      refine storeL .u32 (w32 p (4 * n)) X n 42 _ _ rfl rfl rfl rfl (by rw [(K.get _ _ _ _ List.mem_cons_self).cell n hlt]; rfl) ((K.get _ _ _ _ List.mem_cons_self).free n hlt) (by kernel_rfl) ?_
      simp only [Act.put]
      replace K := K.setCell [(w.heap.size + 1, .u8, 64, p)] X .u32 16 f n hlt (w32 p (4 * n)) List.mem_cons_self (fun p hp => by obtain rfl := List.mem_singleton.1 hp; exact (List.mem_cons_of_mem _ List.mem_cons_self)) (fun p hp => by obtain rfl := List.mem_singleton.1 hp; simp only; omega) (by omega)
      have HS := show Hid _ from (And.intro K (show ∀ j, j < n + 1 → upd f n (w32 p (4 * n)) j = bpw p j from fun j hj => by
        by_cases e : j = n
        · subst e; rw [upd_same]; rfl
        · rw [upd_other _ _ _ _ e]; exact hd j (by omega)))
      clear K hd
      generalize (wr.drewN q).setCell ⟨X, n, none⟩ (.int .u32 (w32 p (4 * n))) = w4 at HS ⊢
      generalize upd f n (w32 p (4 * n)) = f' at HS
      show Exit.inBlock _ _ _ _ _
      go_wp2
      go_roundw
      case rel => first | exact ⟨n + 1, f', by omega, by go_num, HS.out⟩ | ((repeat apply Exists.intro); refine ⟨⟨n + 1, f', by omega, by go_num, HS.out⟩, rfl⟩)
      case measure => simp [intOf]; omega
    · obtain rfl : n = 16 := by omega
      have HR := (K.get _ _ _ _ List.mem_cons_self).congr (g := bpw p) (fun j hj => hd j hj)
      have hz' := (K.room _ List.mem_cons_self).1
      have hB := (K.fill _ _ List.mem_cons_self (row .u32 16 (bpw p))).below
      clear K hd hlt hn g1
      generalize hf : bpw p = g at *
      go_wp2_with (first | (refine wpList_load_mid rfl 54 _ rfl (X) 0 rfl (row .u32 16 (g)) _ (Has.range (HR)) Tryd.underlying54 rfl (bwd_info _) ?_) | (refine wpList_store_mid rfl 54 _ _ rfl (w.heap.size) 0 (row .u32 16 g).toArray rfl rfl (room_of hz') (bwd_info' _) (all_oneCell_toArray (row_one _ _ _)) ?_))
      exact bodyPost_ret (v := (.agg (row .u32 16 (g)).toArray)) (results_row Tryd.results37 rfl (Has.all hz' .u32 g).range Tryd.underlying54 rfl (bwd_info g)) rfl ⟨by rw [← hf, ← hpp], hB⟩

set_option maxRecDepth 10000 in
set_option maxHeartbeats 8000000 in
theorem bbegin_any (kl size : Nat) (hk : kl ≤ 32) (hz : size ≤ 32) (w : World) (hg : BGlob w) :
    Calls Tryd.prog 31 #[.int .i64 (kl : Int), .int .i64 (size : Int)] w fun e w' => e = .returned (.agg (row .u32 8 (bh0 kl size)).toArray) ∧ Below w.heap.size w w' := by
  have K := Kr.init w
  replace K := K.make 8 #[.int .u32 0, .int .u32 0, .int .u32 0, .int .u32 0, .int .u32 0, .int .u32 0, .int .u32 0, .int .u32 0] 44 (w.heap.size) rfl (bst_zero _ _ _ rfl).there
  replace K := K.boxO .u32 8 (fun _ => 0) (.cells #[.int .u32 0, .int .u32 0, .int .u32 0, .int .u32 0, .int .u32 0, .int .u32 0, .int .u32 0, .int .u32 0] 44) (w.heap.size + 1) (by simp) (bst_zero _ _ _ (by simp))
  go_enter Tryd.func31, Tryd.ntmps31
  go_upto_region 2 with fail
  generalize ((w.alloc (.cells #[.int .u32 0, .int .u32 0, .int .u32 0, .int .u32 0, .int .u32 0, .int .u32 0, .int .u32 0, .int .u32 0] 44)).alloc (.cells #[.int .u32 0, .int .u32 0, .int .u32 0, .int .u32 0, .int .u32 0, .int .u32 0, .int .u32 0, .int .u32 0] 44)) = w0 at K ⊢
  go_wp2
  go_loopw [7] (fun i w' => ∃ (n : Nat) (f : Nat → Int), n ≤ 8 ∧ i = .int .i64 n ∧ Kr w (w.heap.size + 1 + 1) [(w.heap.size + 1, .u32, 8, f)] [(w.heap.size, 8)] w' ∧ ∀ j, j < n → f j = iv j) (fun i _ => 8 - (intOf i).toNat)
  case atStart => exact ⟨0, _, by omega, rfl, K, fun j hj => by omega⟩
  case round =>
    clear K
    obtain ⟨n, f, hn, rfl, K, hd⟩ := hrel
    have g1 : (0 : Int) ≤ (n : Int) := by omega
    by_cases hlt : n < 8
    · have g2 : (n : Int) < 8 := by omega
      go_upto_region 5 with fail
      refine wp_region_list ?_
      refine pureL (.int .i64 (n : Int)) rfl (fun _ => by kernel_rfl) ?_
      simp only [Act.put, List.setIfInBounds_toArray, List.set_cons_zero, List.set_cons_succ]
      refine pureL (.int .i64 (n : Int)) rfl (fun _ => by kernel_rfl) ?_
      simp only [Act.put, List.setIfInBounds_toArray, List.set_cons_zero, List.set_cons_succ]
      refine pureL (.pointer (some ⟨0, n, none⟩)) rfl (fun w' => ixV 0 n hlt w' _ _ rfl rfl rfl) ?_
      simp only [Act.put, List.setIfInBounds_toArray, List.set_cons_zero, List.set_cons_succ]
      refine cellL .u32 (.int .u32 (iv n)) 0 n 42 _ rfl rfl rfl Tryd.underlying42 ((hg.below K.below hg.size).first n hlt) ?_
      simp only [Act.put, List.setIfInBounds_toArray, List.set_cons_zero, List.set_cons_succ]
      refine pureL (.pointer (some ⟨w.heap.size + 1, n, none⟩)) rfl (fun w' => ixS (w.heap.size + 1) n hlt w' _ _ rfl rfl rfl) ?_
      simp only [Act.put, List.setIfInBounds_toArray, List.set_cons_zero, List.set_cons_succ]
      refine storeL .u32 (iv n) (w.heap.size + 1) n 42 _ _ rfl rfl rfl rfl (by rw [(K.get _ _ _ _ List.mem_cons_self).cell n hlt]; rfl) ((K.get _ _ _ _ List.mem_cons_self).free n hlt) (by kernel_rfl) ?_
      simp only [Act.put]
      replace K := K.setCell [] (w.heap.size + 1) .u32 8 f n hlt (iv n) List.mem_cons_self (fun _ hp => by cases hp) (fun _ hp => by cases hp) (by omega)
      have HS := show Hid _ from (And.intro K (show ∀ j, j < n + 1 → upd f n (iv n) j = iv j from fun j hj => by
        by_cases e : j = n
        · subst e; rw [upd_same]
        · rw [upd_other _ _ _ _ e]; exact hd j (by omega)))
      clear K hd
      generalize wr.setCell ⟨w.heap.size + 1, n, none⟩ (.int .u32 (iv n)) = w4 at HS ⊢
      generalize upd f n (iv n) = f' at HS
      show Exit.inBlock _ _ _ _ _
      go_wp2
      go_roundw
      case rel => first | exact ⟨n + 1, f', by omega, by go_num, HS.out⟩ | ((repeat apply Exists.intro); refine ⟨⟨n + 1, f', by omega, by go_num, HS.out⟩, rfl⟩)
      case measure => simp [intOf]; omega
    · obtain rfl : n = 8 := by omega
      have i0 := iv_in 0 (by omega)
      have i1 : 0 ≤ (16842752 : Int) ∧ (16842752 : Int) < V := by decide
      have i2 : 0 ≤ 256 * (kl : Int) ∧ 256 * (kl : Int) < V := by simp only [V]; omega
      have i3 : 0 ≤ (size : Int) ∧ (size : Int) < V := by simp only [V]; omega
      have HX : hxr (f 0) (hxr (hxr 16842752 (256 * (kl : Int))) (size : Int)) = hxr (hxr (hxr (iv 0) 16842752) (256 * (kl : Int))) (size : Int) := by
        rw [hd 0 (by omega), hxr_assoc (hxr (iv 0) 16842752) _ _ (hxr_in _ _ i0 i1) i2 i3, hxr_assoc (iv 0) _ _ i0 i1 (hxr_in _ _ i2 i3), hxr_assoc 16842752 _ _ i1 i2 i3]
      go_upto_region 7 with fail
      refine wp_region_list ?_
      refine pureL (.pointer (some ⟨w.heap.size + 1, 0, none⟩)) rfl (fun w' => ixS (w.heap.size + 1) 0 (by decide) w' _ _ rfl rfl rfl) ?_
      simp only [Act.put, List.setIfInBounds_toArray, List.set_cons_zero, List.set_cons_succ]
      refine cellL .u32 (.int .u32 (f 0)) (w.heap.size + 1) 0 42 _ rfl rfl rfl Tryd.underlying42 ((K.get _ _ _ _ List.mem_cons_self).cell 0 (by decide)) ?_
      simp only [Act.put, List.setIfInBounds_toArray, List.set_cons_zero, List.set_cons_succ]
      refine pureL (.int .i64 (kl : Int)) rfl (fun _ => by kernel_rfl) ?_
      simp only [Act.put, List.setIfInBounds_toArray, List.set_cons_zero, List.set_cons_succ]
      refine pureL (.int .u32 (kl : Int)) rfl (fun w => convI .i64 .u32 _ _ _ _ _ rfl (by kernel_rfl) Tryd.underlying42 (by kernel_rfl) rfl (by rw [IntKind.wrap_u32']; omega) w) ?_
      simp only [Act.put, List.setIfInBounds_toArray, List.set_cons_zero, List.set_cons_succ]
      refine pureL (.int .u32 (256 * (kl : Int))) rfl (fun w => shlI .u32 .u64 _ 8 _ _ _ _ _ rfl rfl rfl (by decide) (by rw [IntKind.wrap_u32', show (2 : Int) ^ min (8 : Int).toNat IntKind.u32.bits = 256 from by decide]; omega) w) ?_
      simp only [Act.put, List.setIfInBounds_toArray, List.set_cons_zero, List.set_cons_succ]
      refine pureL (.int .u32 (hxr 16842752 (256 * (kl : Int)))) rfl (fun w => xorI .u32 _ _ _ _ _ _ _ rfl rfl rfl rfl w) ?_
      simp only [Act.put, List.setIfInBounds_toArray, List.set_cons_zero, List.set_cons_succ]
      refine pureL (.int .i64 (size : Int)) rfl (fun _ => by kernel_rfl) ?_
      simp only [Act.put, List.setIfInBounds_toArray, List.set_cons_zero, List.set_cons_succ]
      refine pureL (.int .u32 (size : Int)) rfl (fun w => convI .i64 .u32 _ _ _ _ _ rfl (by kernel_rfl) Tryd.underlying42 (by kernel_rfl) rfl (by rw [IntKind.wrap_u32']; omega) w) ?_
      simp only [Act.put, List.setIfInBounds_toArray, List.set_cons_zero, List.set_cons_succ]
      refine pureL (.int .u32 (hxr (hxr 16842752 (256 * (kl : Int))) (size : Int))) rfl (fun w => xorI .u32 _ _ _ _ _ _ _ rfl rfl rfl rfl w) ?_
      simp only [Act.put, List.setIfInBounds_toArray, List.set_cons_zero, List.set_cons_succ]
      refine pureL (.int .u32 (hxr (hxr (hxr (iv 0) 16842752) (256 * (kl : Int))) (size : Int))) rfl (fun w => xorI .u32 _ _ _ _ _ _ _ rfl rfl rfl HX w) ?_
      simp only [Act.put, List.setIfInBounds_toArray, List.set_cons_zero, List.set_cons_succ]
      refine pureL (.pointer (some ⟨w.heap.size + 1, 0, none⟩)) rfl (fun w' => ixS (w.heap.size + 1) 0 (by decide) w' _ _ rfl rfl rfl) ?_
      simp only [Act.put, List.setIfInBounds_toArray, List.set_cons_zero, List.set_cons_succ]
      refine storeL .u32 (hxr (hxr (hxr (iv 0) 16842752) (256 * (kl : Int))) (size : Int)) (w.heap.size + 1) 0 42 _ _ rfl rfl rfl rfl (by rw [(K.get _ _ _ _ List.mem_cons_self).cell 0 (by decide)]; rfl) ((K.get _ _ _ _ List.mem_cons_self).free 0 (by decide)) (by kernel_rfl) ?_
      simp only [Act.put]
      replace K := K.setCell [] (w.heap.size + 1) .u32 8 f 0 (by decide) (hxr (hxr (hxr (iv 0) 16842752) (256 * (kl : Int))) (size : Int)) List.mem_cons_self (fun _ hp => by cases hp) (fun _ hp => by cases hp) (by omega)
      have HR := (K.get _ _ _ _ List.mem_cons_self).congr (g := bh0 kl size) (fun j hj => by
        unfold bh0
        by_cases e : j = 0
        · subst e; rw [upd_same, upd_same]
        · rw [upd_other _ _ _ _ e, upd_other _ _ _ _ e]; exact hd j hj)
      generalize wr.setCell ⟨w.heap.size + 1, 0, none⟩ (.int .u32 (hxr (hxr (hxr (iv 0) 16842752) (256 * (kl : Int))) (size : Int))) = w5 at K HR ⊢
      have hz' := (K.room _ List.mem_cons_self).1
      have hB := (K.fill _ _ List.mem_cons_self (row .u32 8 (bh0 kl size))).below
      clear K hd hlt hn g1 HX
      generalize hf : bh0 kl size = g at *
      show Exit.then _ _ _ _ _
      go_wp2_with (first | (refine wpList_load_mid rfl 44 _ rfl (w.heap.size + 1) 0 rfl (row .u32 8 (g)) _ (Has.range (HR)) Tryd.underlying44 rfl (bst_info _) ?_) | (refine wpList_store_mid rfl 44 _ _ rfl (w.heap.size) 0 (row .u32 8 g).toArray rfl rfl (room_of hz') (bst_info' _) (all_oneCell_toArray (row_one _ _ _)) ?_))
      exact bodyPost_ret (v := (.agg (row .u32 8 (g)).toArray)) (results_row Tryd.results31 rfl (Has.all hz' .u32 g).range Tryd.underlying44 rfl (bst_info g)) rfl ⟨rfl, hB⟩

theorem bout_over {h : Nat → Int} {n : Nat} {g : Nat → Int} (hd : ∀ j, j < 4 * n → g j = bout h j) (j : Nat) (hj : j < 4 * (n + 1)) : over g (4 * n) 4 (b32 (h n)) j = bout h j := by
  unfold over
  by_cases e : 4 * n ≤ j ∧ j < 4 * n + 4
  · rw [if_pos e]
    unfold bout
    rw [show j / 4 = n by omega, show j % 4 = j - 4 * n by omega]
  · rw [if_neg e]; exact hd j (by omega)
set_option maxRecDepth 10000 in
set_option maxHeartbeats 8000000 in
theorem bbytes_any (h : Nat → Int) (w : World) :
    Calls Tryd.prog 32 #[(.agg (row .u32 8 (h)).toArray)] w fun e w' => e = .returned (.agg (row .u8 32 (bout h)).toArray) ∧ Below w.heap.size w w' := by
  have K := Kr.init w
  replace K := K.box .u32 8 h 44 (w.heap.size) rfl
  replace K := K.make 32 #[.int .u8 0, .int .u8 0, .int .u8 0, .int .u8 0, .int .u8 0, .int .u8 0, .int .u8 0, .int .u8 0, .int .u8 0, .int .u8 0, .int .u8 0, .int .u8 0, .int .u8 0, .int .u8 0, .int .u8 0, .int .u8 0, .int .u8 0, .int .u8 0, .int .u8 0, .int .u8 0, .int .u8 0, .int .u8 0, .int .u8 0, .int .u8 0, .int .u8 0, .int .u8 0, .int .u8 0, .int .u8 0, .int .u8 0, .int .u8 0, .int .u8 0, .int .u8 0] 25 (w.heap.size + 1) (by simp) (key_zero _ _ _ (by simp)).there
  replace K := K.make 32 #[.int .u8 0, .int .u8 0, .int .u8 0, .int .u8 0, .int .u8 0, .int .u8 0, .int .u8 0, .int .u8 0, .int .u8 0, .int .u8 0, .int .u8 0, .int .u8 0, .int .u8 0, .int .u8 0, .int .u8 0, .int .u8 0, .int .u8 0, .int .u8 0, .int .u8 0, .int .u8 0, .int .u8 0, .int .u8 0, .int .u8 0, .int .u8 0, .int .u8 0, .int .u8 0, .int .u8 0, .int .u8 0, .int .u8 0, .int .u8 0, .int .u8 0, .int .u8 0] 25 (w.heap.size + 1 + 1) (by simp) (key_zero _ _ _ (by simp)).there
  have H := key_zero ((w.alloc (.cells (row .u32 8 h).toArray 44)).alloc (.cells #[.int .u8 0, .int .u8 0, .int .u8 0, .int .u8 0, .int .u8 0, .int .u8 0, .int .u8 0, .int .u8 0, .int .u8 0, .int .u8 0, .int .u8 0, .int .u8 0, .int .u8 0, .int .u8 0, .int .u8 0, .int .u8 0, .int .u8 0, .int .u8 0, .int .u8 0, .int .u8 0, .int .u8 0, .int .u8 0, .int .u8 0, .int .u8 0, .int .u8 0, .int .u8 0, .int .u8 0, .int .u8 0, .int .u8 0, .int .u8 0, .int .u8 0, .int .u8 0] 25)) 25 (w.heap.size + 1 + 1) (by simp)
  go_enter Tryd.func32, Tryd.ntmps32
  go_upto_region 2 with fail
  generalize (((w.alloc (.cells (row .u32 8 h).toArray 44)).alloc (.cells #[.int .u8 0, .int .u8 0, .int .u8 0, .int .u8 0, .int .u8 0, .int .u8 0, .int .u8 0, .int .u8 0, .int .u8 0, .int .u8 0, .int .u8 0, .int .u8 0, .int .u8 0, .int .u8 0, .int .u8 0, .int .u8 0, .int .u8 0, .int .u8 0, .int .u8 0, .int .u8 0, .int .u8 0, .int .u8 0, .int .u8 0, .int .u8 0, .int .u8 0, .int .u8 0, .int .u8 0, .int .u8 0, .int .u8 0, .int .u8 0, .int .u8 0, .int .u8 0] 25)).alloc (.cells #[.int .u8 0, .int .u8 0, .int .u8 0, .int .u8 0, .int .u8 0, .int .u8 0, .int .u8 0, .int .u8 0, .int .u8 0, .int .u8 0, .int .u8 0, .int .u8 0, .int .u8 0, .int .u8 0, .int .u8 0, .int .u8 0, .int .u8 0, .int .u8 0, .int .u8 0, .int .u8 0, .int .u8 0, .int .u8 0, .int .u8 0, .int .u8 0, .int .u8 0, .int .u8 0, .int .u8 0, .int .u8 0, .int .u8 0, .int .u8 0, .int .u8 0, .int .u8 0] 25)) = w0 at K H ⊢
  go_wp2
  go_loopw [5] (fun i w' => ∃ (n : Nat) (g : Nat → Int), n ≤ 8 ∧ i = .int .i64 n ∧ Kr w (w.heap.size + 1 + 1 + 1) [(w.heap.size, .u32, 8, h)] [(w.heap.size + 1 + 1, 32), (w.heap.size + 1, 32)] w' ∧ Has w' (w.heap.size + 1 + 1) .u8 32 g ∧ ∀ j, j < 4 * n → g j = bout h j) (fun i _ => 8 - (intOf i).toNat)
  case atStart => exact ⟨0, _, by omega, rfl, K, H, fun j hj => by omega⟩
  case round =>
    clear K H
    obtain ⟨n, g, hn, rfl, K, H, hd⟩ := hrel
    have g1 : (0 : Int) ≤ (n : Int) := by omega
    by_cases hlt : n < 8
    · have g2 : (n : Int) < 8 := by omega
      have HD := show Hid _ from fun j hj => bout_over hd j hj
      clear hd
      go_upto_region 5 with fail
      refine wp_region_held_drew (S := fun w' => Kr w (w.heap.size + 1 + 1 + 1) [(w.heap.size, .u32, 8, h)] [(w.heap.size + 1 + 1, 32), (w.heap.size + 1, 32)] w') (by kernel_rfl) K.drew ?_
      clear K
      intro K
      replace H := H.drew
      refine pureH (i := 0) (some 8) rfl (.int .i64 (n : Int)) rfl rfl (fun _ => by kernel_rfl) (by kernel_rfl) (by kernel_rfl) (by kernel_rfl) (fun _ _ _ h => h) K ?_
      simp only [Act.put, List.setIfInBounds_toArray, List.set_cons_zero, List.set_cons_succ]
      refine pureH (i := 1) (some 9) rfl (.int .i64 (4 * (n : Int))) rfl rfl (fun w => mulI .i64 4 (n : Int) _ _ _ _ _ rfl rfl rfl (by rw [IntKind.wrap_i64]; omega) w) (by kernel_rfl) (by kernel_rfl) (by kernel_rfl) (fun _ _ _ h => h) K ?_
      simp only [Act.put, List.setIfInBounds_toArray, List.set_cons_zero, List.set_cons_succ]
      refine pureH (i := 2) (some 10) rfl (.slice (some ⟨w.heap.size + 1 + 1, 4 * n, none⟩) (32 - 4 * n) (32 - 4 * n)) rfl rfl (fun w' => cutOp _ _ _ _ _ _ rfl rfl rfl (bcut_key (w.heap.size + 1 + 1) n hlt w')) (by kernel_rfl) (by kernel_rfl) (by kernel_rfl) (fun _ _ _ h => h) K ?_
      simp only [Act.put, List.setIfInBounds_toArray, List.set_cons_zero, List.set_cons_succ]
      refine pureH (i := 3) (some 11) rfl (.int .i64 (n : Int)) rfl rfl (fun _ => by kernel_rfl) (by kernel_rfl) (by kernel_rfl) (by kernel_rfl) (fun _ _ _ h => h) K ?_
      simp only [Act.put, List.setIfInBounds_toArray, List.set_cons_zero, List.set_cons_succ]
      refine pureH (i := 4) (some 12) rfl (.pointer (some ⟨w.heap.size, n, none⟩)) rfl rfl (fun w' => ixS (w.heap.size) n hlt w' _ _ rfl rfl rfl) (by kernel_rfl) (by kernel_rfl) (by kernel_rfl) (fun _ _ _ h => h) K ?_
      simp only [Act.put, List.setIfInBounds_toArray, List.set_cons_zero, List.set_cons_succ]
      refine cellH (i := 5) (some 13) rfl .u32 (.int .u32 (h n)) (w.heap.size) n 42 _ rfl rfl rfl rfl (by kernel_rfl) (by kernel_rfl) (by kernel_rfl) (fun _ _ _ h => h) Tryd.underlying42 K (fun _ h => (h.get _ _ _ _ List.mem_cons_self).cell n hlt) ?_
      simp only [Act.put, List.setIfInBounds_toArray, List.set_cons_zero, List.set_cons_succ]
      refine callH (i := 6) (some 14) rfl (by kernel_rfl) rfl rfl (fun _ => by kernel_rfl) (put32_any (w.heap.size + 1 + 1) (4 * n) 32 (32 - 4 * n) (32 - 4 * n) (by omega) g (h n) (by omega) _ H) ?_
      rintro e w' ⟨rfl, rfl⟩
      replace K := K.poke (w.heap.size + 1 + 1) 32 List.mem_cons_self (4 * n) (row .u8 4 (b32 (h n)))
      replace H := H.part (4 * n) 4 (by omega) (b32 (h n))
      refine ⟨_, rfl, K, ?_⟩
      simp only [Act.put, List.setIfInBounds_toArray, List.set_cons_zero, List.set_cons_succ]
      refine wpAnyH_done (by kernel_rfl) ?_ _
      have HS := show Hid _ from (And.intro K (And.intro H HD.out))
      clear K H HD
      generalize (wr.drew.setCells (w.heap.size + 1 + 1) (4 * n) (row .u8 4 (b32 (h n)))) = w6 at *
      go_wp2
      go_roundw
      case rel => first | exact ⟨n + 1, _, by omega, by go_num, HS.out⟩ | ((repeat apply Exists.intro); refine ⟨⟨n + 1, _, by omega, by go_num, HS.out⟩, rfl⟩)
      case measure => simp [intOf]; omega
    · obtain rfl : n = 8 := by omega
      have h1 := H.congr (g := bout h) (fun j hj => hd j (by omega))
      have hz := (K.room _ (List.mem_cons_of_mem _ List.mem_cons_self)).1
      have hB := (K.fill _ _ (List.mem_cons_of_mem _ List.mem_cons_self) (row .u8 32 (bout h))).below
      clear K H hd hlt hn g1
      generalize hf : bout h = f at *
      go_wp2_with (first | (refine wpList_load_mid rfl 25 _ rfl (w.heap.size + 1 + 1) 0 rfl (row .u8 32 (f)) _ (Has.range (h1)) Tryd.underlying25 rfl (key_info _) ?_) | (refine wpList_store_mid rfl 25 _ _ rfl (w.heap.size + 1) 0 (row .u8 32 f).toArray rfl rfl (room_of hz) (key_info' _) (all_oneCell_toArray (row_one _ _ _)) ?_))
      exact bodyPost_ret (v := (.agg (row .u8 32 (f)).toArray)) (results_row Tryd.results32 rfl (Has.all hz .u8 _).range Tryd.underlying25 rfl (key_info _)) rfl ⟨rfl, hB⟩
end Go.Proofs.YtcdbkbcfjdpdoaaDoor

namespace Go.Proofs.YtcdbkbcfjdpdoaaDoor
open Go.RowKit

set_option maxRecDepth 10000 in
set_option maxHeartbeats 8000000 in
theorem bspread_any (h : Nat → Int) (t : Int) (last : Bool) (w : World) (hg : BGlob w) :
    Calls Tryd.prog 41 #[(.agg (row .u32 8 (h)).toArray), .int .u64 t, .bool last] w fun e w' => e = .returned (.agg (row .u32 16 (bst h t last)).toArray) ∧ Below w.heap.size w w' := by
  have K := Kr.init w
  replace K := K.box .u32 8 h 44 (w.heap.size) rfl
  replace K := K.make 16 #[.int .u32 0, .int .u32 0, .int .u32 0, .int .u32 0, .int .u32 0, .int .u32 0, .int .u32 0, .int .u32 0, .int .u32 0, .int .u32 0, .int .u32 0, .int .u32 0, .int .u32 0, .int .u32 0, .int .u32 0, .int .u32 0] 54 (w.heap.size + 1) (by simp) (bwd_zero _ _ _ (by simp)).there
  replace K := K.boxO .u32 16 (fun _ => 0) (.cells #[.int .u32 0, .int .u32 0, .int .u32 0, .int .u32 0, .int .u32 0, .int .u32 0, .int .u32 0, .int .u32 0, .int .u32 0, .int .u32 0, .int .u32 0, .int .u32 0, .int .u32 0, .int .u32 0, .int .u32 0, .int .u32 0] 54) (w.heap.size + 1 + 1) (by simp) (bwd_zero _ _ _ (by simp))
  go_enter Tryd.func41, Tryd.ntmps41
  go_upto_region 2 with fail
  generalize (((w.alloc (.cells (row .u32 8 h).toArray 44)).alloc (.cells #[.int .u32 0, .int .u32 0, .int .u32 0, .int .u32 0, .int .u32 0, .int .u32 0, .int .u32 0, .int .u32 0, .int .u32 0, .int .u32 0, .int .u32 0, .int .u32 0, .int .u32 0, .int .u32 0, .int .u32 0, .int .u32 0] 54)).alloc (.cells #[.int .u32 0, .int .u32 0, .int .u32 0, .int .u32 0, .int .u32 0, .int .u32 0, .int .u32 0, .int .u32 0, .int .u32 0, .int .u32 0, .int .u32 0, .int .u32 0, .int .u32 0, .int .u32 0, .int .u32 0, .int .u32 0] 54)) = w0 at K ⊢
  go_wp2
  go_loopw [9] (fun i w' => ∃ (n : Nat) (f : Nat → Int), n ≤ 8 ∧ i = .int .i64 n ∧ Kr w (w.heap.size + 1 + 1 + 1) [(w.heap.size + 1 + 1, .u32, 16, f), (w.heap.size, .u32, 8, h)] [(w.heap.size + 1, 16)] w' ∧ ∀ j, j < n → f j = h j ∧ f (j + 8) = iv j) (fun i _ => 8 - (intOf i).toNat)
  case atStart => exact ⟨0, _, by omega, rfl, K, fun j hj => by omega⟩
  case round =>
    clear K
    obtain ⟨n, f, hn, rfl, K, hd⟩ := hrel
    have g1 : (0 : Int) ≤ (n : Int) := by omega
    by_cases hlt : n < 8
    · have g2 : (n : Int) < 8 := by omega
      have l8 : n < 16 := by omega
      have l88 : n + 8 < 16 := by omega
      go_upto_region 5 with fail
      have HR := (K.get _ _ _ _ List.mem_cons_self).drew
      replace K := K.loose [(w.heap.size, .u32, 8, h)] (w.heap.size + 1 + 1) .u32 16 f List.mem_cons_self (fun p hp => by obtain rfl := List.mem_singleton.1 hp; exact (List.mem_cons_of_mem _ List.mem_cons_self)) (fun p hp => by obtain rfl := List.mem_singleton.1 hp; simp only; omega) (by omega)
      refine wp_region_held_drew (S := fun w' => Kr w (w.heap.size + 1 + 1 + 1) [(w.heap.size, .u32, 8, h)] [(w.heap.size + 1 + 1, 16), (w.heap.size + 1, 16)] w') (by kernel_rfl) K.drew ?_
      clear K
      intro K
      generalize wr.drew = w1 at K HR ⊢
      refine pureH (i := 0) (some 12) rfl (.int .i64 (n : Int)) rfl rfl (fun _ => by kernel_rfl) (by kernel_rfl) (by kernel_rfl) (by kernel_rfl) (fun _ _ _ h => h) K ?_
      simp only [Act.put, List.setIfInBounds_toArray, List.set_cons_zero, List.set_cons_succ]
      refine pureH (i := 1) (some 13) rfl (.int .i64 (n : Int)) rfl rfl (fun _ => by kernel_rfl) (by kernel_rfl) (by kernel_rfl) (by kernel_rfl) (fun _ _ _ h => h) K ?_
      simp only [Act.put, List.setIfInBounds_toArray, List.set_cons_zero, List.set_cons_succ]
      refine pureH (i := 2) (some 14) rfl (.int .i64 ((n + 8 : Nat) : Int)) rfl rfl (fun w => addI .i64 _ _ _ _ _ _ _ rfl rfl rfl (by rw [IntKind.wrap_i64]; omega) w) (by kernel_rfl) (by kernel_rfl) (by kernel_rfl) (fun _ _ _ h => h) K ?_
      simp only [Act.put, List.setIfInBounds_toArray, List.set_cons_zero, List.set_cons_succ]
      refine pureH (i := 3) (some 15) rfl (.int .i64 (n : Int)) rfl rfl (fun _ => by kernel_rfl) (by kernel_rfl) (by kernel_rfl) (by kernel_rfl) (fun _ _ _ h => h) K ?_
      simp only [Act.put, List.setIfInBounds_toArray, List.set_cons_zero, List.set_cons_succ]
      refine pureH (i := 4) (some 16) rfl (.pointer (some ⟨w.heap.size, n, none⟩)) rfl rfl (fun w' => ixS (w.heap.size) n hlt w' _ _ rfl rfl rfl) (by kernel_rfl) (by kernel_rfl) (by kernel_rfl) (fun _ _ _ h => h) K ?_
      simp only [Act.put, List.setIfInBounds_toArray, List.set_cons_zero, List.set_cons_succ]
      refine cellH (i := 5) (some 17) rfl .u32 (.int .u32 (h n)) (w.heap.size) n 42 _ rfl rfl rfl rfl (by kernel_rfl) (by kernel_rfl) (by kernel_rfl) (fun _ _ _ h => h) Tryd.underlying42 K (fun _ h => (h.get _ _ _ _ List.mem_cons_self).cell n hlt) ?_
      simp only [Act.put, List.setIfInBounds_toArray, List.set_cons_zero, List.set_cons_succ]
      refine pureH (i := 6) (some 18) rfl (.int .i64 (n : Int)) rfl rfl (fun _ => by kernel_rfl) (by kernel_rfl) (by kernel_rfl) (by kernel_rfl) (fun _ _ _ h => h) K ?_
      simp only [Act.put, List.setIfInBounds_toArray, List.set_cons_zero, List.set_cons_succ]
      refine pureH (i := 7) (some 19) rfl (.pointer (some ⟨0, n, none⟩)) rfl rfl (fun w' => ixV 0 n hlt w' _ _ rfl rfl rfl) (by kernel_rfl) (by kernel_rfl) (by kernel_rfl) (fun _ _ _ h => h) K ?_
      simp only [Act.put, List.setIfInBounds_toArray, List.set_cons_zero, List.set_cons_succ]
      refine cellH (i := 8) (some 20) rfl .u32 (.int .u32 (iv n)) 0 n 42 _ rfl rfl rfl rfl (by kernel_rfl) (by kernel_rfl) (by kernel_rfl) (fun _ _ _ h => h) Tryd.underlying42 K (fun _ h => (hg.below h.below hg.size).first n hlt) ?_
      simp only [Act.put, List.setIfInBounds_toArray, List.set_cons_zero, List.set_cons_succ]
      refine pureH (i := 9) (some 21) rfl (.pointer (some ⟨w.heap.size + 1 + 1, n, none⟩)) rfl rfl (fun w' => ixW (w.heap.size + 1 + 1) (n) l8 w' _ _ rfl rfl rfl) (by kernel_rfl) (by kernel_rfl) (by kernel_rfl) (fun _ _ _ h => h) K ?_
      simp only [Act.put, List.setIfInBounds_toArray, List.set_cons_zero, List.set_cons_succ]
      refine storeH (i := 10) none rfl .u32 (h n) (w.heap.size + 1 + 1) (n) 42 _ _ (by kernel_rfl) rfl rfl rfl rfl rfl (by rw [HR.cell (n) l8]; rfl) (HR.free (n) l8) (by kernel_rfl) (K.poke (w.heap.size + 1 + 1) 16 List.mem_cons_self (n) [.int .u32 (h n)]) ?_
      simp only [Act.put]
      replace K := K.poke (w.heap.size + 1 + 1) 16 List.mem_cons_self (n) [.int .u32 (h n)]
      replace HR := HR.set (n) l8 (h n)
      refine pureH (i := 11) (some 22) rfl (.pointer (some ⟨w.heap.size + 1 + 1, n + 8, none⟩)) rfl rfl (fun w' => ixW (w.heap.size + 1 + 1) (n + 8) l88 w' _ _ rfl rfl rfl) (by kernel_rfl) (by kernel_rfl) (by kernel_rfl) (fun _ _ _ h => h) K ?_
      simp only [Act.put, List.setIfInBounds_toArray, List.set_cons_zero, List.set_cons_succ]
      refine storeH (i := 12) none rfl .u32 (iv n) (w.heap.size + 1 + 1) (n + 8) 42 _ _ (by kernel_rfl) rfl rfl rfl rfl rfl (by rw [HR.cell (n + 8) l88]; rfl) (HR.free (n + 8) l88) (by kernel_rfl) (K.poke (w.heap.size + 1 + 1) 16 List.mem_cons_self (n + 8) [.int .u32 (iv n)]) ?_
      simp only [Act.put]
      replace K := K.poke (w.heap.size + 1 + 1) 16 List.mem_cons_self (n + 8) [.int .u32 (iv n)]
      replace HR := HR.set (n + 8) l88 (iv n)
      refine wpAnyH_done (by kernel_rfl) ?_ _
      replace K := K.settle [(w.heap.size + 1, 16)] (w.heap.size + 1 + 1) .u32 16 (upd (upd f n (h n)) (n + 8) (iv n)) List.mem_cons_self (fun q hq => List.mem_cons_of_mem _ hq) (fun q hq => by obtain rfl := List.mem_singleton.1 hq; simp only; omega) HR
      have HS := show Hid _ from (And.intro K (show ∀ j, j < n + 1 → (upd (upd f n (h n)) (n + 8) (iv n)) j = h j ∧ (upd (upd f n (h n)) (n + 8) (iv n)) (j + 8) = iv j from fun j hj => by
        by_cases e : j = n
        · subst e; rw [upd_other _ _ _ _ (show j ≠ j + 8 by omega), upd_same, upd_same]; exact ⟨rfl, rfl⟩
        · rw [upd_other _ _ _ _ (show j ≠ n + 8 by omega), upd_other _ _ _ _ e, upd_other _ _ _ _ (show j + 8 ≠ n + 8 by omega), upd_other _ _ _ _ (show j + 8 ≠ n by omega)]; exact hd j (by omega)))
      clear K HR hd
      generalize (upd (upd f n (h n)) (n + 8) (iv n)) = f' at HS
      go_wp2
      go_roundw
      case rel => first | exact ⟨n + 1, f', by omega, by go_num, HS.out⟩ | ((repeat apply Exists.intro); refine ⟨⟨n + 1, f', by omega, by go_num, HS.out⟩, rfl⟩)
      case measure => simp [intOf]; omega
    · obtain rfl : n = 8 := by omega
      have HR := (K.get _ _ _ _ List.mem_cons_self).congr (g := app h 8 iv) (fun j hj => by
        unfold app
        by_cases e : j < 8
        · rw [if_pos e]; exact (hd j e).1
        · rw [if_neg e]; have := (hd (j - 8) (by omega)).2; rw [show j - 8 + 8 = j by omega] at this; exact this)
      replace K := (K.loose [(w.heap.size, .u32, 8, h)] (w.heap.size + 1 + 1) .u32 16 f List.mem_cons_self (fun p hp => by obtain rfl := List.mem_singleton.1 hp; exact (List.mem_cons_of_mem _ List.mem_cons_self)) (fun p hp => by obtain rfl := List.mem_singleton.1 hp; simp only; omega) (by omega)).settle [(w.heap.size + 1, 16)] (w.heap.size + 1 + 1) .u32 16 (app h 8 iv) List.mem_cons_self (fun q hq => List.mem_cons_of_mem _ hq) (fun q hq => by obtain rfl := List.mem_singleton.1 hq; simp only; omega) HR
      clear HR hd hlt hn g1
      go_upto_region 7 with fail
      refine wp_region_list ?_
      refine pureL (.pointer (some ⟨w.heap.size + 1 + 1, 12, none⟩)) rfl (fun w' => ixW (w.heap.size + 1 + 1) 12 (by decide) w' _ _ rfl rfl rfl) ?_
      simp only [Act.put, List.setIfInBounds_toArray, List.set_cons_zero, List.set_cons_succ]
      refine cellL .u32 (.int .u32 (iv 4)) (w.heap.size + 1 + 1) 12 42 _ rfl rfl rfl Tryd.underlying42 ((K.get _ _ _ _ List.mem_cons_self).cell 12 (by decide)) ?_
      simp only [Act.put, List.setIfInBounds_toArray, List.set_cons_zero, List.set_cons_succ]
      refine pureL (.int .u64 t) rfl (fun _ => by kernel_rfl) ?_
      simp only [Act.put, List.setIfInBounds_toArray, List.set_cons_zero, List.set_cons_succ]
      refine pureL (.int .u32 (t % 4294967296)) rfl (fun w => convI .u64 .u32 _ _ _ _ _ rfl (by kernel_rfl) Tryd.underlying42 (by kernel_rfl) rfl (IntKind.wrap_u32' _) w) ?_
      simp only [Act.put, List.setIfInBounds_toArray, List.set_cons_zero, List.set_cons_succ]
      refine pureL (.int .u32 (hxr (iv 4) (t % 4294967296))) rfl (fun w => xorI .u32 _ _ _ _ _ _ _ rfl rfl rfl rfl w) ?_
      simp only [Act.put, List.setIfInBounds_toArray, List.set_cons_zero, List.set_cons_succ]
      refine pureL (.pointer (some ⟨w.heap.size + 1 + 1, 12, none⟩)) rfl (fun w' => ixW (w.heap.size + 1 + 1) 12 (by decide) w' _ _ rfl rfl rfl) ?_
      simp only [Act.put, List.setIfInBounds_toArray, List.set_cons_zero, List.set_cons_succ]
      refine storeL .u32 (hxr (iv 4) (t % 4294967296)) (w.heap.size + 1 + 1) 12 42 _ _ rfl rfl rfl rfl (by rw [(K.get _ _ _ _ List.mem_cons_self).cell 12 (by decide)]; rfl) ((K.get _ _ _ _ List.mem_cons_self).free 12 (by decide)) (by kernel_rfl) ?_
      simp only [Act.put]
      replace K := K.setCell [(w.heap.size, .u32, 8, h)] (w.heap.size + 1 + 1) .u32 16 (app h 8 iv) 12 (by decide) (hxr (iv 4) (t % 4294967296)) List.mem_cons_self (fun p hp => by obtain rfl := List.mem_singleton.1 hp; exact (List.mem_cons_of_mem _ List.mem_cons_self)) (fun p hp => by obtain rfl := List.mem_singleton.1 hp; simp only; omega) (by omega)
      generalize wr.setCell ⟨w.heap.size + 1 + 1, 12, none⟩ (.int .u32 (hxr (iv 4) (t % 4294967296))) = w2 at K ⊢
      show Exit.then _ _ _ _ _
      go_upto_region 8 with fail
      refine wp_region_list ?_
      refine pureL (.pointer (some ⟨w.heap.size + 1 + 1, 13, none⟩)) rfl (fun w' => ixW (w.heap.size + 1 + 1) 13 (by decide) w' _ _ rfl rfl rfl) ?_
      simp only [Act.put, List.setIfInBounds_toArray, List.set_cons_zero, List.set_cons_succ]
      refine cellL .u32 (.int .u32 (iv 5)) (w.heap.size + 1 + 1) 13 42 _ rfl rfl rfl Tryd.underlying42 ((K.get _ _ _ _ List.mem_cons_self).cell 13 (by decide)) ?_
      simp only [Act.put, List.setIfInBounds_toArray, List.set_cons_zero, List.set_cons_succ]
      refine pureL (.int .u64 t) rfl (fun _ => by kernel_rfl) ?_
      simp only [Act.put, List.setIfInBounds_toArray, List.set_cons_zero, List.set_cons_succ]
      refine pureL (.int .u64 (t / 4294967296)) rfl (fun w => shrI .u64 .u64 _ 32 _ _ _ _ _ rfl rfl rfl (by decide) rfl w) ?_
      simp only [Act.put, List.setIfInBounds_toArray, List.set_cons_zero, List.set_cons_succ]
      refine pureL (.int .u32 (t / 4294967296 % 4294967296)) rfl (fun w => convI .u64 .u32 _ _ _ _ _ rfl (by kernel_rfl) Tryd.underlying42 (by kernel_rfl) rfl (IntKind.wrap_u32' _) w) ?_
      simp only [Act.put, List.setIfInBounds_toArray, List.set_cons_zero, List.set_cons_succ]
      refine pureL (.int .u32 (hxr (iv 5) (t / 4294967296 % 4294967296))) rfl (fun w => xorI .u32 _ _ _ _ _ _ _ rfl rfl rfl rfl w) ?_
      simp only [Act.put, List.setIfInBounds_toArray, List.set_cons_zero, List.set_cons_succ]
      refine pureL (.pointer (some ⟨w.heap.size + 1 + 1, 13, none⟩)) rfl (fun w' => ixW (w.heap.size + 1 + 1) 13 (by decide) w' _ _ rfl rfl rfl) ?_
      simp only [Act.put, List.setIfInBounds_toArray, List.set_cons_zero, List.set_cons_succ]
      refine storeL .u32 (hxr (iv 5) (t / 4294967296 % 4294967296)) (w.heap.size + 1 + 1) 13 42 _ _ rfl rfl rfl rfl (by rw [(K.get _ _ _ _ List.mem_cons_self).cell 13 (by decide)]; rfl) ((K.get _ _ _ _ List.mem_cons_self).free 13 (by decide)) (by kernel_rfl) ?_
      simp only [Act.put]
      replace K := K.setCell [(w.heap.size, .u32, 8, h)] (w.heap.size + 1 + 1) .u32 16 (upd (app h 8 iv) 12 (hxr (iv 4) (t % 4294967296))) 13 (by decide) (hxr (iv 5) (t / 4294967296 % 4294967296)) List.mem_cons_self (fun p hp => by obtain rfl := List.mem_singleton.1 hp; exact (List.mem_cons_of_mem _ List.mem_cons_self)) (fun p hp => by obtain rfl := List.mem_singleton.1 hp; simp only; omega) (by omega)
      generalize w2.setCell ⟨w.heap.size + 1 + 1, 13, none⟩ (.int .u32 (hxr (iv 5) (t / 4294967296 % 4294967296))) = w3 at K ⊢
      show Exit.then _ _ _ _ _
      have hcon := bst_of h t (upd (upd (app h 8 iv) 12 (hxr (iv 4) (t % 4294967296))) 13 (hxr (iv 5) (t / 4294967296 % 4294967296))) last (fun _ => rfl)
      cases last
      · have HR := (K.get _ _ _ _ List.mem_cons_self).congr (g := bst h t false) hcon
        have hz' := (K.room _ List.mem_cons_self).1
        have hB := (K.fill _ _ List.mem_cons_self (row .u32 16 (bst h t false))).below
        clear K hcon
        generalize hf : bst h t false = g at *
        go_wp2_with (first | (refine wpList_load_mid rfl 54 _ rfl (w.heap.size + 1 + 1) 0 rfl (row .u32 16 (g)) _ (Has.range (HR)) Tryd.underlying54 rfl (bwd_info _) ?_) | (refine wpList_store_mid rfl 54 _ _ rfl (w.heap.size + 1) 0 (row .u32 16 g).toArray rfl rfl (room_of hz') (bwd_info' _) (all_oneCell_toArray (row_one _ _ _)) ?_))
        exact bodyPost_ret (v := (.agg (row .u32 16 (g)).toArray)) (results_row Tryd.results41 rfl (Has.all hz' .u32 g).range Tryd.underlying54 rfl (bwd_info g)) rfl ⟨rfl, hB⟩
      · go_upto_region 10 with fail
        refine wp_region_list ?_
        refine pureL (.pointer (some ⟨w.heap.size + 1 + 1, 14, none⟩)) rfl (fun w' => ixW (w.heap.size + 1 + 1) 14 (by decide) w' _ _ rfl rfl rfl) ?_
        simp only [Act.put, List.setIfInBounds_toArray, List.set_cons_zero, List.set_cons_succ]
        refine cellL .u32 (.int .u32 (iv 6)) (w.heap.size + 1 + 1) 14 42 _ rfl rfl rfl Tryd.underlying42 ((K.get _ _ _ _ List.mem_cons_self).cell 14 (by decide)) ?_
        simp only [Act.put, List.setIfInBounds_toArray, List.set_cons_zero, List.set_cons_succ]
        refine pureL (.int .u32 (4294967295 - iv 6)) rfl (fun w => notI .u32 _ _ _ _ rfl rfl (by decide +kernel) w) ?_
        simp only [Act.put, List.setIfInBounds_toArray, List.set_cons_zero, List.set_cons_succ]
        refine pureL (.pointer (some ⟨w.heap.size + 1 + 1, 14, none⟩)) rfl (fun w' => ixW (w.heap.size + 1 + 1) 14 (by decide) w' _ _ rfl rfl rfl) ?_
        simp only [Act.put, List.setIfInBounds_toArray, List.set_cons_zero, List.set_cons_succ]
        refine storeL .u32 (4294967295 - iv 6) (w.heap.size + 1 + 1) 14 42 _ _ rfl rfl rfl rfl (by rw [(K.get _ _ _ _ List.mem_cons_self).cell 14 (by decide)]; rfl) ((K.get _ _ _ _ List.mem_cons_self).free 14 (by decide)) (by kernel_rfl) ?_
        simp only [Act.put]
        replace K := K.setCell [(w.heap.size, .u32, 8, h)] (w.heap.size + 1 + 1) .u32 16 (upd (upd (app h 8 iv) 12 (hxr (iv 4) (t % 4294967296))) 13 (hxr (iv 5) (t / 4294967296 % 4294967296))) 14 (by decide) (4294967295 - iv 6) List.mem_cons_self (fun p hp => by obtain rfl := List.mem_singleton.1 hp; exact (List.mem_cons_of_mem _ List.mem_cons_self)) (fun p hp => by obtain rfl := List.mem_singleton.1 hp; simp only; omega) (by omega)
        generalize w3.setCell ⟨w.heap.size + 1 + 1, 14, none⟩ (.int .u32 (4294967295 - iv 6)) = w4 at K ⊢
        show Exit.then _ _ _ _ _
        have HR := (K.get _ _ _ _ List.mem_cons_self).congr (g := bst h t true) hcon
        have hz' := (K.room _ List.mem_cons_self).1
        have hB := (K.fill _ _ List.mem_cons_self (row .u32 16 (bst h t true))).below
        clear K hcon
        generalize hf : bst h t true = g at *
        go_wp2_with (first | (refine wpList_load_mid rfl 54 _ rfl (w.heap.size + 1 + 1) 0 rfl (row .u32 16 (g)) _ (Has.range (HR)) Tryd.underlying54 rfl (bwd_info _) ?_) | (refine wpList_store_mid rfl 54 _ _ rfl (w.heap.size + 1) 0 (row .u32 16 g).toArray rfl rfl (room_of hz') (bwd_info' _) (all_oneCell_toArray (row_one _ _ _)) ?_))
        exact bodyPost_ret (v := (.agg (row .u32 16 (g)).toArray)) (results_row Tryd.results41 rfl (Has.all hz' .u32 g).range Tryd.underlying54 rfl (bwd_info g)) rfl ⟨rfl, hB⟩
end Go.Proofs.YtcdbkbcfjdpdoaaDoor

namespace Go.Proofs.YtcdbkbcfjdpdoaaDoor
open Go.RowKit

/-- A row within a table of rows. -/
theorem idxRows {P : Program} {o : Oper} {a : Act} (t e : TypeId) (n m : Nat) (k : IntKind) (b off i : Nat) (x y : Operand) (hu : P.underlying t = some (.array n e)) (hsz : ∀ w, (sizeOf e).run P w = .ok m w) (hi : i < n) (ho : o.op = .indexAddr t x y) (hx : a.eval x = .pointer (some ⟨b, off, none⟩)) (hy : a.eval y = .int k (i : Int)) (w : World) :
    (execOp a.eval o).run P w = .ok (.value (.pointer (some ⟨b, off + i * m, none⟩))) w := by
  have e1 : (Instr.indexAt t (.pointer (some ⟨b, off, none⟩)) (.int k (i : Int))).run P w = .ok (.pointer (some ⟨b, off + i * m, none⟩)) w := by
    simp [Instr.indexAt, run_underlying hu, Instr.sureAddr, asIntOf, hsz, Addr.add_mid]
    intro hf
    omega
  unfold execOp
  simp only [ho, hx, hy, Sem.run_bind, e1, Result.andThen_ok, Sem.run_pure]
theorem bpr_of (h z : Nat → Int) (t : Int) (last : Bool) (hh : In V 8 h) (n : Nat) (hn : n < 8) : hxr (h n) (hxr (bR (bpw z) (bst h t last) 10 n) (bR (bpw z) (bst h t last) 10 (n + 8))) = bpr h z t last n :=
  (hxr_assoc _ _ _ (hh n hn) (bR_in _ _ (bst_in h t last hh) 10 n (by omega)) (bR_in _ _ (bst_in h t last hh) 10 (n + 8) (by omega))).symm

set_option maxRecDepth 10000 in
set_option maxHeartbeats 16000000 in
theorem bpress_any (h : Nat → Int) (hh : In V 8 h) (z : Nat → Int) (t : Int) (last : Bool) (w : World) (hg : BGlob w) :
    Calls Tryd.prog 36 #[(.agg (row .u32 8 (h)).toArray), (.agg (row .u32 16 (bpw z)).toArray), .int .u64 t, .bool last] w fun e w' => e = .returned (.agg (row .u32 8 (bpr h z t last)).toArray) ∧ Below w.heap.size w w' := by
  have HG := show Hid _ from (fun n hn => bpr_of h z t last hh n hn)
  generalize hGe : bpr h z t last = G at HG
  generalize hme : bpw z = m at HG
  have K := Kr.init w
  replace K := K.box .u32 8 h 44 (w.heap.size) rfl
  replace K := K.box .u32 16 m 54 (w.heap.size + 1) (by simp)
  replace K := K.make 8 #[.int .u32 0, .int .u32 0, .int .u32 0, .int .u32 0, .int .u32 0, .int .u32 0, .int .u32 0, .int .u32 0] 44 (w.heap.size + 1 + 1) (by simp) (bst_zero _ _ _ (by simp)).there
  clear hme hGe hh
  go_enter Tryd.func36, Tryd.ntmps36
  go_upto_region 1 with fail
  generalize (((w.alloc (.cells (row .u32 8 h).toArray 44)).alloc (.cells (row .u32 16 m).toArray 54)).alloc (.cells #[.int .u32 0, .int .u32 0, .int .u32 0, .int .u32 0, .int .u32 0, .int .u32 0, .int .u32 0, .int .u32 0] 44)) = w0 at K ⊢
  refine wp_region_list ?_
  refine rowKL .u32 8 (h) (w.heap.size) 0 44 _ _ rfl rfl rfl Tryd.underlying44 rfl (bst_info _) ((K.get _ _ _ _ (List.mem_cons_of_mem _ List.mem_cons_self)).range) ?_
  simp only [Act.put, List.setIfInBounds_toArray, List.set_cons_zero, List.set_cons_succ]
  refine pureL (.int .u64 t) rfl (fun _ => by kernel_rfl) ?_
  simp only [Act.put, List.setIfInBounds_toArray, List.set_cons_zero, List.set_cons_succ]
  refine pureL (.bool last) rfl (fun _ => by kernel_rfl) ?_
  simp only [Act.put, List.setIfInBounds_toArray, List.set_cons_zero, List.set_cons_succ]
  refine callL rfl (fun _ => by kernel_rfl) (bspread_any h t last _ (hg.below K.below hg.size)) ?_
  rintro e w1 ⟨rfl, l⟩
  replace K := K.call l
  clear l
  refine ⟨_, rfl, ?_⟩
  simp only [Act.put, List.setIfInBounds_toArray, List.set_cons_zero, List.set_cons_succ]
  refine allocL #[.int .u32 0, .int .u32 0, .int .u32 0, .int .u32 0, .int .u32 0, .int .u32 0, .int .u32 0, .int .u32 0, .int .u32 0, .int .u32 0, .int .u32 0, .int .u32 0, .int .u32 0, .int .u32 0, .int .u32 0, .int .u32 0] 54 rfl (fun _ => by kernel_rfl) ?_
  simp only [Act.put, List.setIfInBounds_toArray, List.set_cons_zero, List.set_cons_succ]
  refine storesL .u32 16 (bst h t last) w1.heap.size 54 _ _ rfl rfl rfl rfl (room_of (bwd_zero _ _ _ rfl).there) (bwd_info' _) ?_
  simp only [Act.put]
  have zX := K.size
  replace K := K.fresh .u32 16 (bst h t last) #[.int .u32 0, .int .u32 0, .int .u32 0, .int .u32 0, .int .u32 0, .int .u32 0, .int .u32 0, .int .u32 0, .int .u32 0, .int .u32 0, .int .u32 0, .int .u32 0, .int .u32 0, .int .u32 0, .int .u32 0, .int .u32 0] 54 (bwd_zero _ _ _ rfl).there
  generalize ((w1.alloc (.cells #[.int .u32 0, .int .u32 0, .int .u32 0, .int .u32 0, .int .u32 0, .int .u32 0, .int .u32 0, .int .u32 0, .int .u32 0, .int .u32 0, .int .u32 0, .int .u32 0, .int .u32 0, .int .u32 0, .int .u32 0, .int .u32 0] 54)).setCells w1.heap.size 0 (row .u32 16 (bst h t last))) = w2 at K ⊢
  generalize w1.heap.size = X at *
  show Exit.then _ _ _ _ _
  generalize bst h t last = v0 at *
  go_wp2
  go_loopw [21] (fun i w' => ∃ r : Nat, r ≤ 10 ∧ i = .int .i64 r ∧ Kr w (X + 1) [(X, .u32, 16, bR m v0 r), (w.heap.size + 1, .u32, 16, m), (w.heap.size, .u32, 8, h)] [(w.heap.size + 1 + 1, 8)] w') (fun i _ => 10 - (intOf i).toNat)
  case atStart => exact ⟨0, by omega, rfl, K⟩
  case round =>
    clear K
    obtain ⟨r, hr, rfl, K⟩ := hrel
    have g1 : (0 : Int) ≤ (r : Int) := by omega
    by_cases hlt : r < 10
    · have g2 : (r : Int) < 10 := by omega
      go_wp2
      go_loopw [24] (fun i w' => ∃ q : Nat, q ≤ 8 ∧ i = .int .i64 q ∧ Kr w (X + 1) [(X, .u32, 16, bN m (sg r) (bR m v0 r) q), (w.heap.size + 1, .u32, 16, m), (w.heap.size, .u32, 8, h)] [(w.heap.size + 1 + 1, 8)] w') (fun i _ => 8 - (intOf i).toNat)
      case atStart => exact ⟨0, by omega, rfl, K⟩
      case round =>
        clear K
        obtain ⟨q, hq, rfl, K⟩ := hrel
        have g3 : (0 : Int) ≤ (q : Int) := by omega
        by_cases hlt2 : q < 8
        · have g4 : (q : Int) < 8 := by omega
          have HT := show Hid _ from (show bN m (sg r) (bR m v0 r) (q + 1) = bAt m (sg r) (bN m (sg r) (bR m v0 r) q) q from rfl)
          generalize bN m (sg r) (bR m v0 r) q = v at *
          have HK := show Hid _ from fun (n : Nat) => K.drewN (q := n)
          obtain ⟨p1, p2, p3, p4⟩ := (hg.below K.below hg.size).four q hlt2
          have l1 : pA q < 16 := by have := pA_lt q; omega
          have l2 : pB q < 16 := by have := pB_lt q; omega
          have l3 : pC q < 16 := by have := pC_lt q; omega
          have l4 : pD q < 16 := pD_lt q
          have s1 := sg_lt r (2 * q)
          have s2 := sg_lt r (2 * q + 1)
          unfold bAt bMx at HT
          have hzX := K.base
          clear K hq hr
          generalize hA : pA q = A at *
          generalize hB : pB q = B at *
          generalize hC : pC q = C at *
          generalize hD : pD q = D at *
          clear hA hB hC hD
          go_wp2
          go_quiet (fail)
          go_upto_region 9 with fail
          have K := HK.out nq
          clear p1 p2 p3 p4 HK
          generalize wr.drewN nq = w3 at K ⊢
          refine wp_region_C (S := fun w' => Kr w (X + 1) [(X, .u32, 16, v), (w.heap.size + 1, .u32, 16, m), (w.heap.size, .u32, 8, h)] [(w.heap.size + 1 + 1, 8)] w') 33 (by kernel_rfl) K.drew ?_
          clear K
          intro K
          refine pureC (i := 0) (some 44) rfl (.int .u8 (A : Int)) rfl (by decide) rfl (fun _ => by kernel_rfl) (by kernel_rfl) (by kernel_rfl) (by kernel_rfl) (fun _ _ _ h => h) K ?_
          simp only [Act.put, List.setIfInBounds_toArray, List.set_cons_zero, List.set_cons_succ]
          refine pureC (i := 1) (some 45) rfl (.int .u8 (B : Int)) rfl (by decide) rfl (fun _ => by kernel_rfl) (by kernel_rfl) (by kernel_rfl) (by kernel_rfl) (fun _ _ _ h => h) K ?_
          simp only [Act.put, List.setIfInBounds_toArray, List.set_cons_zero, List.set_cons_succ]
          refine pureC (i := 2) (some 46) rfl (.int .u8 (C : Int)) rfl (by decide) rfl (fun _ => by kernel_rfl) (by kernel_rfl) (by kernel_rfl) (by kernel_rfl) (fun _ _ _ h => h) K ?_
          simp only [Act.put, List.setIfInBounds_toArray, List.set_cons_zero, List.set_cons_succ]
          refine pureC (i := 3) (some 47) rfl (.int .u8 (D : Int)) rfl (by decide) rfl (fun _ => by kernel_rfl) (by kernel_rfl) (by kernel_rfl) (by kernel_rfl) (fun _ _ _ h => h) K ?_
          simp only [Act.put, List.setIfInBounds_toArray, List.set_cons_zero, List.set_cons_succ]
          refine pureC (i := 4) (some 48) rfl (.int .u8 (A : Int)) rfl (by decide) rfl (fun _ => by kernel_rfl) (by kernel_rfl) (by kernel_rfl) (by kernel_rfl) (fun _ _ _ h => h) K ?_
          simp only [Act.put, List.setIfInBounds_toArray, List.set_cons_zero, List.set_cons_succ]
          refine pureC (i := 5) (some 49) rfl (.pointer (some ⟨X, A, none⟩)) rfl (by decide) rfl (fun w' => ixWb X A l1 w' _ _ rfl rfl rfl) (by kernel_rfl) (by kernel_rfl) (by kernel_rfl) (fun _ _ _ h => h) K ?_
          simp only [Act.put, List.setIfInBounds_toArray, List.set_cons_zero, List.set_cons_succ]
          refine cellC (i := 6) (some 50) rfl .u32 (.int .u32 (v A)) X A 42 _ rfl rfl (by kernel_rfl) rfl rfl rfl (by kernel_rfl) (by kernel_rfl) (by kernel_rfl) (by kernel_rfl) (fun _ _ _ h => h) Tryd.underlying42 K (fun _ h => (h.get _ _ _ _ List.mem_cons_self).cell A l1) ?_
          simp only [Act.put, List.setIfInBounds_toArray, List.set_cons_zero, List.set_cons_succ]
          refine pureC (i := 7) (some 51) rfl (.int .u8 (B : Int)) rfl (by decide) rfl (fun _ => by kernel_rfl) (by kernel_rfl) (by kernel_rfl) (by kernel_rfl) (fun _ _ _ h => h) K ?_
          simp only [Act.put, List.setIfInBounds_toArray, List.set_cons_zero, List.set_cons_succ]
          refine pureC (i := 8) (some 52) rfl (.pointer (some ⟨X, B, none⟩)) rfl (by decide) rfl (fun w' => ixWb X B l2 w' _ _ rfl rfl rfl) (by kernel_rfl) (by kernel_rfl) (by kernel_rfl) (fun _ _ _ h => h) K ?_
          simp only [Act.put, List.setIfInBounds_toArray, List.set_cons_zero, List.set_cons_succ]
          refine cellC (i := 9) (some 53) rfl .u32 (.int .u32 (v B)) X B 42 _ rfl rfl (by kernel_rfl) rfl rfl rfl (by kernel_rfl) (by kernel_rfl) (by kernel_rfl) (by kernel_rfl) (fun _ _ _ h => h) Tryd.underlying42 K (fun _ h => (h.get _ _ _ _ List.mem_cons_self).cell B l2) ?_
          simp only [Act.put, List.setIfInBounds_toArray, List.set_cons_zero, List.set_cons_succ]
          refine pureC (i := 10) (some 54) rfl (.int .u8 (C : Int)) rfl (by decide) rfl (fun _ => by kernel_rfl) (by kernel_rfl) (by kernel_rfl) (by kernel_rfl) (fun _ _ _ h => h) K ?_
          simp only [Act.put, List.setIfInBounds_toArray, List.set_cons_zero, List.set_cons_succ]
          refine pureC (i := 11) (some 55) rfl (.pointer (some ⟨X, C, none⟩)) rfl (by decide) rfl (fun w' => ixWb X C l3 w' _ _ rfl rfl rfl) (by kernel_rfl) (by kernel_rfl) (by kernel_rfl) (fun _ _ _ h => h) K ?_
          simp only [Act.put, List.setIfInBounds_toArray, List.set_cons_zero, List.set_cons_succ]
          refine cellC (i := 12) (some 56) rfl .u32 (.int .u32 (v C)) X C 42 _ rfl rfl (by kernel_rfl) rfl rfl rfl (by kernel_rfl) (by kernel_rfl) (by kernel_rfl) (by kernel_rfl) (fun _ _ _ h => h) Tryd.underlying42 K (fun _ h => (h.get _ _ _ _ List.mem_cons_self).cell C l3) ?_
          simp only [Act.put, List.setIfInBounds_toArray, List.set_cons_zero, List.set_cons_succ]
          refine pureC (i := 13) (some 57) rfl (.int .u8 (D : Int)) rfl (by decide) rfl (fun _ => by kernel_rfl) (by kernel_rfl) (by kernel_rfl) (by kernel_rfl) (fun _ _ _ h => h) K ?_
          simp only [Act.put, List.setIfInBounds_toArray, List.set_cons_zero, List.set_cons_succ]
          refine pureC (i := 14) (some 58) rfl (.pointer (some ⟨X, D, none⟩)) rfl (by decide) rfl (fun w' => ixWb X D l4 w' _ _ rfl rfl rfl) (by kernel_rfl) (by kernel_rfl) (by kernel_rfl) (fun _ _ _ h => h) K ?_
          simp only [Act.put, List.setIfInBounds_toArray, List.set_cons_zero, List.set_cons_succ]
          refine cellC (i := 15) (some 59) rfl .u32 (.int .u32 (v D)) X D 42 _ rfl rfl (by kernel_rfl) rfl rfl rfl (by kernel_rfl) (by kernel_rfl) (by kernel_rfl) (by kernel_rfl) (fun _ _ _ h => h) Tryd.underlying42 K (fun _ h => (h.get _ _ _ _ List.mem_cons_self).cell D l4) ?_
          simp only [Act.put, List.setIfInBounds_toArray, List.set_cons_zero, List.set_cons_succ]
          refine pureC (i := 16) (some 60) rfl (.int .i64 (r : Int)) rfl (by decide) rfl (fun _ => by kernel_rfl) (by kernel_rfl) (by kernel_rfl) (by kernel_rfl) (fun _ _ _ h => h) K ?_
          simp only [Act.put, List.setIfInBounds_toArray, List.set_cons_zero, List.set_cons_succ]
          refine pureC (i := 17) (some 61) rfl (.int .i64 (q : Int)) rfl (by decide) rfl (fun _ => by kernel_rfl) (by kernel_rfl) (by kernel_rfl) (by kernel_rfl) (fun _ _ _ h => h) K ?_
          simp only [Act.put, List.setIfInBounds_toArray, List.set_cons_zero, List.set_cons_succ]
          refine pureC (i := 18) (some 62) rfl (.int .i64 ((2 * q : Nat) : Int)) rfl (by decide) rfl (fun w => mulI .i64 _ _ _ _ _ _ _ rfl rfl rfl (by rw [IntKind.wrap_i64]; omega) w) (by kernel_rfl) (by kernel_rfl) (by kernel_rfl) (fun _ _ _ h => h) K ?_
          simp only [Act.put, List.setIfInBounds_toArray, List.set_cons_zero, List.set_cons_succ]
          refine pureC (i := 19) (some 63) rfl (.pointer (some ⟨2, 0 + r * 16, none⟩)) rfl (by decide) rfl (fun w' => idxRows (P := Tryd.prog) 63 62 10 16 .i64 2 0 r _ _ Tryd.underlying63 (fun _ => by kernel_rfl) hlt rfl rfl rfl w') (by kernel_rfl) (by kernel_rfl) (by kernel_rfl) (fun _ _ _ h => h) K ?_
          simp only [Act.put, List.setIfInBounds_toArray, List.set_cons_zero, List.set_cons_succ]
          refine pureC (i := 20) (some 64) rfl (.pointer (some ⟨2, 0 + r * 16 + (2 * q), none⟩)) rfl (by decide) rfl (fun w' => idxArr (P := Tryd.prog) 62 5 16 .i64 2 (0 + r * 16) (2 * q) _ _ Tryd.underlying62 (fun _ => by kernel_rfl) (by omega) rfl rfl rfl w') (by kernel_rfl) (by kernel_rfl) (by kernel_rfl) (fun _ _ _ h => h) K ?_
          simp only [Act.put, List.setIfInBounds_toArray, List.set_cons_zero, List.set_cons_succ]
          refine cellCT (i := 21) 8 (some 65) rfl .u8 (.int .u8 ((sg r (2 * q) : Nat) : Int)) 2 (0 + r * 16 + (2 * q)) 5 _ rfl (by kernel_rfl) (by kernel_rfl) rfl rfl rfl (by kernel_rfl) (by kernel_rfl) (by kernel_rfl) (by kernel_rfl) (fun _ _ _ h => h) Tryd.underlying5 K (fun _ h => (by rw [Nat.zero_add]; exact (hg.below h.below hg.size).sg r (2 * q) hlt (by omega))) ?_
          simp only [Act.put, List.setIfInBounds_toArray, List.set_cons_zero, List.set_cons_succ]
          refine pureC (i := 22) (some 66) rfl (.pointer (some ⟨w.heap.size + 1, sg r (2 * q), none⟩)) rfl (by decide) rfl (fun w' => ixWb (w.heap.size + 1) (sg r (2 * q)) s1 w' _ _ rfl rfl rfl) (by kernel_rfl) (by kernel_rfl) (by kernel_rfl) (fun _ _ _ h => h) K ?_
          simp only [Act.put, List.setIfInBounds_toArray, List.set_cons_zero, List.set_cons_succ]
          refine cellC (i := 23) (some 67) rfl .u32 (.int .u32 (m (sg r (2 * q)))) (w.heap.size + 1) (sg r (2 * q)) 42 _ rfl rfl (by kernel_rfl) rfl rfl rfl (by kernel_rfl) (by kernel_rfl) (by kernel_rfl) (by kernel_rfl) (fun _ _ _ h => h) Tryd.underlying42 K (fun _ h => (h.get _ _ _ _ (List.mem_cons_of_mem _ List.mem_cons_self)).cell (sg r (2 * q)) s1) ?_
          simp only [Act.put, List.setIfInBounds_toArray, List.set_cons_zero, List.set_cons_succ]
          refine pureC (i := 24) (some 68) rfl (.int .i64 (r : Int)) rfl (by decide) rfl (fun _ => by kernel_rfl) (by kernel_rfl) (by kernel_rfl) (by kernel_rfl) (fun _ _ _ h => h) K ?_
          simp only [Act.put, List.setIfInBounds_toArray, List.set_cons_zero, List.set_cons_succ]
          refine pureC (i := 25) (some 69) rfl (.int .i64 (q : Int)) rfl (by decide) rfl (fun _ => by kernel_rfl) (by kernel_rfl) (by kernel_rfl) (by kernel_rfl) (fun _ _ _ h => h) K ?_
          simp only [Act.put, List.setIfInBounds_toArray, List.set_cons_zero, List.set_cons_succ]
          refine pureC (i := 26) (some 70) rfl (.int .i64 ((2 * q : Nat) : Int)) rfl (by decide) rfl (fun w => mulI .i64 _ _ _ _ _ _ _ rfl rfl rfl (by rw [IntKind.wrap_i64]; omega) w) (by kernel_rfl) (by kernel_rfl) (by kernel_rfl) (fun _ _ _ h => h) K ?_
          simp only [Act.put, List.setIfInBounds_toArray, List.set_cons_zero, List.set_cons_succ]
          refine pureC (i := 27) (some 71) rfl (.int .i64 ((2 * q + 1 : Nat) : Int)) rfl (by decide) rfl (fun w => addI .i64 _ _ _ _ _ _ _ rfl rfl rfl (by rw [IntKind.wrap_i64]; omega) w) (by kernel_rfl) (by kernel_rfl) (by kernel_rfl) (fun _ _ _ h => h) K ?_
          simp only [Act.put, List.setIfInBounds_toArray, List.set_cons_zero, List.set_cons_succ]
          refine pureC (i := 28) (some 72) rfl (.pointer (some ⟨2, 0 + r * 16, none⟩)) rfl (by decide) rfl (fun w' => idxRows (P := Tryd.prog) 63 62 10 16 .i64 2 0 r _ _ Tryd.underlying63 (fun _ => by kernel_rfl) hlt rfl rfl rfl w') (by kernel_rfl) (by kernel_rfl) (by kernel_rfl) (fun _ _ _ h => h) K ?_
          simp only [Act.put, List.setIfInBounds_toArray, List.set_cons_zero, List.set_cons_succ]
          refine pureC (i := 29) (some 73) rfl (.pointer (some ⟨2, 0 + r * 16 + (2 * q + 1), none⟩)) rfl (by decide) rfl (fun w' => idxArr (P := Tryd.prog) 62 5 16 .i64 2 (0 + r * 16) (2 * q + 1) _ _ Tryd.underlying62 (fun _ => by kernel_rfl) (by omega) rfl rfl rfl w') (by kernel_rfl) (by kernel_rfl) (by kernel_rfl) (fun _ _ _ h => h) K ?_
          simp only [Act.put, List.setIfInBounds_toArray, List.set_cons_zero, List.set_cons_succ]
          refine cellCT (i := 30) 8 (some 74) rfl .u8 (.int .u8 ((sg r (2 * q + 1) : Nat) : Int)) 2 (0 + r * 16 + (2 * q + 1)) 5 _ rfl (by kernel_rfl) (by kernel_rfl) rfl rfl rfl (by kernel_rfl) (by kernel_rfl) (by kernel_rfl) (by kernel_rfl) (fun _ _ _ h => h) Tryd.underlying5 K (fun _ h => (by rw [Nat.zero_add]; exact (hg.below h.below hg.size).sg r (2 * q + 1) hlt (by omega))) ?_
          simp only [Act.put, List.setIfInBounds_toArray, List.set_cons_zero, List.set_cons_succ]
          refine pureC (i := 31) (some 75) rfl (.pointer (some ⟨w.heap.size + 1, sg r (2 * q + 1), none⟩)) rfl (by decide) rfl (fun w' => ixWb (w.heap.size + 1) (sg r (2 * q + 1)) s2 w' _ _ rfl rfl rfl) (by kernel_rfl) (by kernel_rfl) (by kernel_rfl) (fun _ _ _ h => h) K ?_
          simp only [Act.put, List.setIfInBounds_toArray, List.set_cons_zero, List.set_cons_succ]
          refine cellC (i := 32) (some 76) rfl .u32 (.int .u32 (m (sg r (2 * q + 1)))) (w.heap.size + 1) (sg r (2 * q + 1)) 42 _ rfl rfl (by kernel_rfl) rfl rfl rfl (by kernel_rfl) (by kernel_rfl) (by kernel_rfl) (by kernel_rfl) (fun _ _ _ h => h) Tryd.underlying42 K (fun _ h => (h.get _ _ _ _ (List.mem_cons_of_mem _ List.mem_cons_self)).cell (sg r (2 * q + 1)) s2) ?_
          simp only [Act.put, List.setIfInBounds_toArray, List.set_cons_zero, List.set_cons_succ]
          refine callC (S2 := fun _ => True) (some 77) rfl (by kernel_rfl) rfl rfl (fun _ => by kernel_rfl) (bmix_any (v A) (v B) (v C) (v D) (m (sg r (2 * q))) (m (sg r (2 * q + 1))) _) (by kernel_rfl) ?_
          rintro e w' ⟨rfl, rfl⟩
          refine ⟨_, rfl, ?_⟩
          simp only [Act.put, List.setIfInBounds_toArray, List.set_cons_zero, List.set_cons_succ]
          have T : True := trivial
          refine pureH (i := 34) (some 43) rfl (.tuple #[.int .u32 (bA (v A) (v B) (v C) (v D) (m (sg r (2 * q))) (m (sg r (2 * q + 1)))), .int .u32 (bB (v A) (v B) (v C) (v D) (m (sg r (2 * q))) (m (sg r (2 * q + 1)))), .int .u32 (bC (v A) (v B) (v C) (v D) (m (sg r (2 * q))) (m (sg r (2 * q + 1)))), .int .u32 (bD (v A) (v B) (v C) (v D) (m (sg r (2 * q))) (m (sg r (2 * q + 1))))]) rfl rfl (fun _ => by kernel_rfl) (by kernel_rfl) (by kernel_rfl) (by kernel_rfl) (fun _ _ _ h => h) T ?_
          simp only [Act.put, List.setIfInBounds_toArray, List.set_cons_zero, List.set_cons_succ]
          refine pureH (i := 35) (some 78) rfl (.int .u32 (bA (v A) (v B) (v C) (v D) (m (sg r (2 * q))) (m (sg r (2 * q + 1))))) rfl rfl (fun _ => by kernel_rfl) (by kernel_rfl) (by kernel_rfl) (by kernel_rfl) (fun _ _ _ h => h) T ?_
          simp only [Act.put, List.setIfInBounds_toArray, List.set_cons_zero, List.set_cons_succ]
          refine pureH (i := 36) (some 79) rfl (.int .u32 (bB (v A) (v B) (v C) (v D) (m (sg r (2 * q))) (m (sg r (2 * q + 1))))) rfl rfl (fun _ => by kernel_rfl) (by kernel_rfl) (by kernel_rfl) (by kernel_rfl) (fun _ _ _ h => h) T ?_
          simp only [Act.put, List.setIfInBounds_toArray, List.set_cons_zero, List.set_cons_succ]
          refine pureH (i := 37) (some 80) rfl (.int .u32 (bC (v A) (v B) (v C) (v D) (m (sg r (2 * q))) (m (sg r (2 * q + 1))))) rfl rfl (fun _ => by kernel_rfl) (by kernel_rfl) (by kernel_rfl) (by kernel_rfl) (fun _ _ _ h => h) T ?_
          simp only [Act.put, List.setIfInBounds_toArray, List.set_cons_zero, List.set_cons_succ]
          refine pureH (i := 38) (some 81) rfl (.int .u32 (bD (v A) (v B) (v C) (v D) (m (sg r (2 * q))) (m (sg r (2 * q + 1))))) rfl rfl (fun _ => by kernel_rfl) (by kernel_rfl) (by kernel_rfl) (by kernel_rfl) (fun _ _ _ h => h) T ?_
          simp only [Act.put, List.setIfInBounds_toArray, List.set_cons_zero, List.set_cons_succ]
          have h0 := K.get _ _ _ _ List.mem_cons_self
          replace K := K.loose [(w.heap.size + 1, .u32, 16, m), (w.heap.size, .u32, 8, h)] X .u32 16 v List.mem_cons_self (fun p hp => by rcases List.mem_cons.1 hp with rfl | hp; exact (List.mem_cons_of_mem _ List.mem_cons_self); obtain rfl := List.mem_singleton.1 hp; exact (List.mem_cons_of_mem _ (List.mem_cons_of_mem _ List.mem_cons_self))) (fun p hp => by rcases List.mem_cons.1 hp with rfl | hp; simp only; omega; obtain rfl := List.mem_singleton.1 hp; simp only; omega) (by omega)
          refine pureH (i := 39) (some 82) rfl (.pointer (some ⟨X, A, none⟩)) rfl rfl (fun w' => ixWb X A l1 w' _ _ rfl rfl rfl) (by kernel_rfl) (by kernel_rfl) (by kernel_rfl) (fun _ _ _ h => h) T ?_
          simp only [Act.put, List.setIfInBounds_toArray, List.set_cons_zero, List.set_cons_succ]
          refine storeH (i := 40) none rfl .u32 (bA (v A) (v B) (v C) (v D) (m (sg r (2 * q))) (m (sg r (2 * q + 1)))) X A 42 _ _ (by kernel_rfl) rfl rfl rfl rfl rfl (by rw [h0.cell A l1]; rfl) (h0.free A l1) (by kernel_rfl) T ?_
          simp only [Act.put]
          have h1 := h0.set A l1 (bA (v A) (v B) (v C) (v D) (m (sg r (2 * q))) (m (sg r (2 * q + 1))))
          replace K := K.poke X 16 List.mem_cons_self A [.int .u32 (bA (v A) (v B) (v C) (v D) (m (sg r (2 * q))) (m (sg r (2 * q + 1))))]
          clear h0
          refine pureH (i := 41) (some 83) rfl (.pointer (some ⟨X, B, none⟩)) rfl rfl (fun w' => ixWb X B l2 w' _ _ rfl rfl rfl) (by kernel_rfl) (by kernel_rfl) (by kernel_rfl) (fun _ _ _ h => h) T ?_
          simp only [Act.put, List.setIfInBounds_toArray, List.set_cons_zero, List.set_cons_succ]
          refine storeH (i := 42) none rfl .u32 (bB (v A) (v B) (v C) (v D) (m (sg r (2 * q))) (m (sg r (2 * q + 1)))) X B 42 _ _ (by kernel_rfl) rfl rfl rfl rfl rfl (by rw [h1.cell B l2]; rfl) (h1.free B l2) (by kernel_rfl) T ?_
          simp only [Act.put]
          have h2 := h1.set B l2 (bB (v A) (v B) (v C) (v D) (m (sg r (2 * q))) (m (sg r (2 * q + 1))))
          replace K := K.poke X 16 List.mem_cons_self B [.int .u32 (bB (v A) (v B) (v C) (v D) (m (sg r (2 * q))) (m (sg r (2 * q + 1))))]
          clear h1
          refine pureH (i := 43) (some 84) rfl (.pointer (some ⟨X, C, none⟩)) rfl rfl (fun w' => ixWb X C l3 w' _ _ rfl rfl rfl) (by kernel_rfl) (by kernel_rfl) (by kernel_rfl) (fun _ _ _ h => h) T ?_
          simp only [Act.put, List.setIfInBounds_toArray, List.set_cons_zero, List.set_cons_succ]
          refine storeH (i := 44) none rfl .u32 (bC (v A) (v B) (v C) (v D) (m (sg r (2 * q))) (m (sg r (2 * q + 1)))) X C 42 _ _ (by kernel_rfl) rfl rfl rfl rfl rfl (by rw [h2.cell C l3]; rfl) (h2.free C l3) (by kernel_rfl) T ?_
          simp only [Act.put]
          have h3 := h2.set C l3 (bC (v A) (v B) (v C) (v D) (m (sg r (2 * q))) (m (sg r (2 * q + 1))))
          replace K := K.poke X 16 List.mem_cons_self C [.int .u32 (bC (v A) (v B) (v C) (v D) (m (sg r (2 * q))) (m (sg r (2 * q + 1))))]
          clear h2
          refine pureH (i := 45) (some 85) rfl (.pointer (some ⟨X, D, none⟩)) rfl rfl (fun w' => ixWb X D l4 w' _ _ rfl rfl rfl) (by kernel_rfl) (by kernel_rfl) (by kernel_rfl) (fun _ _ _ h => h) T ?_
          simp only [Act.put, List.setIfInBounds_toArray, List.set_cons_zero, List.set_cons_succ]
          refine storeH (i := 46) none rfl .u32 (bD (v A) (v B) (v C) (v D) (m (sg r (2 * q))) (m (sg r (2 * q + 1)))) X D 42 _ _ (by kernel_rfl) rfl rfl rfl rfl rfl (by rw [h3.cell D l4]; rfl) (h3.free D l4) (by kernel_rfl) T ?_
          simp only [Act.put]
          have h4 := h3.set D l4 (bD (v A) (v B) (v C) (v D) (m (sg r (2 * q))) (m (sg r (2 * q + 1))))
          replace K := K.poke X 16 List.mem_cons_self D [.int .u32 (bD (v A) (v B) (v C) (v D) (m (sg r (2 * q))) (m (sg r (2 * q + 1))))]
          clear h3
          refine wpAnyH_done (by kernel_rfl) ?_ _
          rw [← HT.out] at h4
          replace K := K.settle [(w.heap.size + 1 + 1, 8)] X .u32 16 _ List.mem_cons_self (fun q hq => List.mem_cons_of_mem _ hq) (fun q hq => by obtain rfl := List.mem_singleton.1 hq; simp only; omega) h4
          have HS := show Hid _ from K
          clear K h4 T l1 l2 l3 l4 HT
          go_wp2
          go_roundw
          case rel => first | exact ⟨q + 1, by omega, by go_num, HS.out⟩ | ((repeat apply Exists.intro); refine ⟨⟨q + 1, by omega, by go_num, HS.out⟩, rfl⟩)
          case measure => simp [intOf]; omega
        · obtain rfl : q = 8 := by omega
          have HS := show Hid (Kr w (X + 1) [(X, .u32, 16, bR m v0 (r + 1)), (w.heap.size + 1, .u32, 16, m), (w.heap.size, .u32, 8, h)] [(w.heap.size + 1 + 1, 8)] wr) from K
          clear K hlt2 hq g3
          go_wp2
          go_roundw
          case rel => first | exact ⟨r + 1, by omega, by go_num, HS.out⟩ | ((repeat apply Exists.intro); refine ⟨⟨r + 1, by omega, by go_num, HS.out⟩, rfl⟩)
          case measure => simp [intOf]; omega
    · obtain rfl : r = 10 := by omega
      clear hlt hr g1
      generalize bR m v0 10 = F at *
      replace K : Kr w (X + 1) [(w.heap.size, .u32, 8, h), (X, .u32, 16, F)] [(w.heap.size + 1 + 1, 8)] wr := K.sub _ (fun p hp => by rcases List.mem_cons.1 hp with rfl | hp; exact (List.mem_cons_of_mem _ (List.mem_cons_of_mem _ List.mem_cons_self)); obtain rfl := List.mem_singleton.1 hp; exact List.mem_cons_self)
      go_wp2
      go_loopw [88] (fun i w' => ∃ (n : Nat) (f : Nat → Int), n ≤ 8 ∧ i = .int .i64 n ∧ Kr w (X + 1) [(w.heap.size, .u32, 8, f), (X, .u32, 16, F)] [(w.heap.size + 1 + 1, 8)] w' ∧ (∀ j, j < n → f j = G j) ∧ ∀ j, n ≤ j → f j = h j) (fun i _ => 8 - (intOf i).toNat)
      case atStart => exact ⟨0, h, by omega, rfl, K, fun j hj => by omega, fun _ _ => rfl⟩
      case round =>
        clear K
        obtain ⟨n, f, hn, rfl, K, hd, hk⟩ := hrel
        have g1 : (0 : Int) ≤ (n : Int) := by omega
        by_cases hlt : n < 8
        · have g2 : (n : Int) < 8 := by omega
          have hz0 := K.base
          have HX : hxr (f n) (hxr (F n) (F (n + 8))) = G n := by rw [hk n (Nat.le_refl _)]; exact HG.out n hlt
          have l8 : n < 16 := by omega
          have l88 : n + 8 < 16 := by omega
          go_upto_region 15 with fail
          refine wp_region_C (S := fun w' => Kr w (X + 1) [(w.heap.size, .u32, 8, f), (X, .u32, 16, F)] [(w.heap.size + 1 + 1, 8)] w') 13 (by kernel_rfl) K.drew ?_
          clear K
          intro K
          generalize wr.drew = w4 at K ⊢
          refine pureC (i := 0) (some 91) rfl (.int .i64 (n : Int)) rfl (by decide) rfl (fun _ => by kernel_rfl) (by kernel_rfl) (by kernel_rfl) (by kernel_rfl) (fun _ _ _ h => h) K ?_
          simp only [Act.put, List.setIfInBounds_toArray, List.set_cons_zero, List.set_cons_succ]
          refine pureC (i := 1) (some 92) rfl (.pointer (some ⟨w.heap.size, n, none⟩)) rfl (by decide) rfl (fun w' => ixS (w.heap.size) n hlt w' _ _ rfl rfl rfl) (by kernel_rfl) (by kernel_rfl) (by kernel_rfl) (fun _ _ _ h => h) K ?_
          simp only [Act.put, List.setIfInBounds_toArray, List.set_cons_zero, List.set_cons_succ]
          refine cellC (i := 2) (some 93) rfl .u32 (.int .u32 (f n)) (w.heap.size) n 42 _ rfl rfl (by kernel_rfl) rfl rfl rfl (by kernel_rfl) (by kernel_rfl) (by kernel_rfl) (by kernel_rfl) (fun _ _ _ h => h) Tryd.underlying42 K (fun _ h => (h.get _ _ _ _ List.mem_cons_self).cell n hlt) ?_
          simp only [Act.put, List.setIfInBounds_toArray, List.set_cons_zero, List.set_cons_succ]
          refine pureC (i := 3) (some 94) rfl (.int .i64 (n : Int)) rfl (by decide) rfl (fun _ => by kernel_rfl) (by kernel_rfl) (by kernel_rfl) (by kernel_rfl) (fun _ _ _ h => h) K ?_
          simp only [Act.put, List.setIfInBounds_toArray, List.set_cons_zero, List.set_cons_succ]
          refine pureC (i := 4) (some 95) rfl (.pointer (some ⟨X, n, none⟩)) rfl (by decide) rfl (fun w' => ixW X n l8 w' _ _ rfl rfl rfl) (by kernel_rfl) (by kernel_rfl) (by kernel_rfl) (fun _ _ _ h => h) K ?_
          simp only [Act.put, List.setIfInBounds_toArray, List.set_cons_zero, List.set_cons_succ]
          refine cellC (i := 5) (some 96) rfl .u32 (.int .u32 (F n)) X n 42 _ rfl rfl (by kernel_rfl) rfl rfl rfl (by kernel_rfl) (by kernel_rfl) (by kernel_rfl) (by kernel_rfl) (fun _ _ _ h => h) Tryd.underlying42 K (fun _ h => (h.get _ _ _ _ (List.mem_cons_of_mem _ List.mem_cons_self)).cell n l8) ?_
          simp only [Act.put, List.setIfInBounds_toArray, List.set_cons_zero, List.set_cons_succ]
          refine pureC (i := 6) (some 97) rfl (.int .i64 (n : Int)) rfl (by decide) rfl (fun _ => by kernel_rfl) (by kernel_rfl) (by kernel_rfl) (by kernel_rfl) (fun _ _ _ h => h) K ?_
          simp only [Act.put, List.setIfInBounds_toArray, List.set_cons_zero, List.set_cons_succ]
          refine pureC (i := 7) (some 98) rfl (.int .i64 ((n + 8 : Nat) : Int)) rfl (by decide) rfl (fun w => addI .i64 _ _ _ _ _ _ _ rfl rfl rfl (by rw [IntKind.wrap_i64]; omega) w) (by kernel_rfl) (by kernel_rfl) (by kernel_rfl) (fun _ _ _ h => h) K ?_
          simp only [Act.put, List.setIfInBounds_toArray, List.set_cons_zero, List.set_cons_succ]
          refine pureC (i := 8) (some 99) rfl (.pointer (some ⟨X, n + 8, none⟩)) rfl (by decide) rfl (fun w' => ixW X (n + 8) l88 w' _ _ rfl rfl rfl) (by kernel_rfl) (by kernel_rfl) (by kernel_rfl) (fun _ _ _ h => h) K ?_
          simp only [Act.put, List.setIfInBounds_toArray, List.set_cons_zero, List.set_cons_succ]
          refine cellC (i := 9) (some 100) rfl .u32 (.int .u32 (F (n + 8))) X (n + 8) 42 _ rfl rfl (by kernel_rfl) rfl rfl rfl (by kernel_rfl) (by kernel_rfl) (by kernel_rfl) (by kernel_rfl) (fun _ _ _ h => h) Tryd.underlying42 K (fun _ h => (h.get _ _ _ _ (List.mem_cons_of_mem _ List.mem_cons_self)).cell (n + 8) l88) ?_
          simp only [Act.put, List.setIfInBounds_toArray, List.set_cons_zero, List.set_cons_succ]
          refine pureC (i := 10) (some 101) rfl (.int .u32 (hxr (F n) (F (n + 8)))) rfl (by decide) rfl (fun w => xorI .u32 _ _ _ _ _ _ _ rfl rfl rfl rfl w) (by kernel_rfl) (by kernel_rfl) (by kernel_rfl) (fun _ _ _ h => h) K ?_
          simp only [Act.put, List.setIfInBounds_toArray, List.set_cons_zero, List.set_cons_succ]
          refine pureC (i := 11) (some 102) rfl (.int .u32 (G n)) rfl (by decide) rfl (fun w => xorI .u32 _ _ _ _ _ _ _ rfl rfl rfl HX w) (by kernel_rfl) (by kernel_rfl) (by kernel_rfl) (fun _ _ _ h => h) K ?_
          simp only [Act.put, List.setIfInBounds_toArray, List.set_cons_zero, List.set_cons_succ]
          refine pureC (i := 12) (some 103) rfl (.pointer (some ⟨w.heap.size, n, none⟩)) rfl (by decide) rfl (fun w' => ixS (w.heap.size) n hlt w' _ _ rfl rfl rfl) (by kernel_rfl) (by kernel_rfl) (by kernel_rfl) (fun _ _ _ h => h) K ?_
          simp only [Act.put, List.setIfInBounds_toArray, List.set_cons_zero, List.set_cons_succ]
          refine storeC (S2 := fun _ => True) none rfl .u32 (G n) (w.heap.size) n 42 _ _ (by kernel_rfl) rfl rfl rfl rfl rfl (by rw [(K.get _ _ _ _ List.mem_cons_self).cell n hlt]; rfl) ((K.get _ _ _ _ List.mem_cons_self).free n hlt) (by kernel_rfl) (by kernel_rfl) ?_
          simp only [Act.put]
          refine wpAnyH_done (by kernel_rfl) ?_ _
          replace K := K.setCell [(X, .u32, 16, F)] (w.heap.size) .u32 8 f n hlt (G n) List.mem_cons_self (fun p hp => by obtain rfl := List.mem_singleton.1 hp; exact (List.mem_cons_of_mem _ List.mem_cons_self)) (fun p hp => by obtain rfl := List.mem_singleton.1 hp; simp only; omega) (Nat.le_refl _)
          have HS := show Hid _ from (And.intro K (And.intro (show ∀ j, j < n + 1 → upd f n (G n) j = G j from fun j hj => by
            by_cases e : j = n
            · subst e; rw [upd_same]
            · rw [upd_other _ _ _ _ e]; exact hd j (by omega)) (show ∀ j, n + 1 ≤ j → upd f n (G n) j = h j from fun j hj => by rw [upd_other _ _ _ _ (show j ≠ n by omega)]; exact hk j (by omega))))
          clear K hd hk HX
          generalize w4.setCell ⟨w.heap.size, n, none⟩ (.int .u32 (G n)) = w5 at HS ⊢
          generalize upd f n (G n) = f' at HS
          go_wp2
          go_roundw
          case rel => first | exact ⟨n + 1, f', by omega, by go_num, HS.out⟩ | ((repeat apply Exists.intro); refine ⟨⟨n + 1, f', by omega, by go_num, HS.out⟩, rfl⟩)
          case measure => simp [intOf]; omega
        · obtain rfl : n = 8 := by omega
          have HR := (K.get _ _ _ _ List.mem_cons_self).congr (g := G) (fun j hj => hd j hj)
          have hz' := (K.room _ List.mem_cons_self).1
          have hB := (K.fill _ _ List.mem_cons_self (row .u32 8 G)).below
          clear K hd hk hlt hn g1
          go_wp2_with (first | (refine wpList_load_mid rfl 44 _ rfl (w.heap.size) 0 rfl (row .u32 8 (G)) _ (Has.range (HR)) Tryd.underlying44 rfl (bst_info _) ?_) | (refine wpList_store_mid rfl 44 _ _ rfl (w.heap.size + 1 + 1) 0 (row .u32 8 G).toArray rfl rfl (room_of hz') (bst_info' _) (all_oneCell_toArray (row_one _ _ _)) ?_))
          exact bodyPost_ret (v := (.agg (row .u32 8 (G)).toArray)) (results_row Tryd.results36 rfl (Has.all hz' .u32 G).range Tryd.underlying44 rfl (bst_info G)) rfl ⟨by first | rfl | rw [hGe], hB⟩
end Go.Proofs.YtcdbkbcfjdpdoaaDoor

namespace Go.Proofs.YtcdbkbcfjdpdoaaDoor
open Go.RowKit

set_option maxRecDepth 10000 in
set_option maxHeartbeats 8000000 in
theorem bfinish_any (h0 : Nat → Int) (hh : In V 8 h0) (n : Nat) (f : Nat → Int) (c : Nat) (sp : Option Addr) (len cap : Nat) (hn : n ≤ 64 * c + len) (hn' : 64 * c + len ≤ n) (hc : c = 0 ∨ 0 < len) (hlen : n ≤ 281474976710656) (hcap : len ≤ cap) (z : Nat → Int) (hz : In 256 len z) (hf : ∀ j, f (64 * c + j) = padz len z j) (w : World) (hg : BGlob w) (hs : Src w sp len z) :
    Calls Tryd.prog 35 #[(.agg (row .u32 8 (tH h0 n f c)).toArray), .int .u64 ((64 * c : Nat) : Int), .slice sp len cap] w fun e w' => e = .returned (.agg (row .u32 8 (tH h0 n f (nbt n))).toArray) ∧ Below w.heap.size w w' := by
  have K := Kr.init w
  replace K := K.box .u32 8 (tH h0 n f c) 44 (w.heap.size) rfl
  replace K := K.make 8 #[.int .u32 0, .int .u32 0, .int .u32 0, .int .u32 0, .int .u32 0, .int .u32 0, .int .u32 0, .int .u32 0] 44 (w.heap.size + 1) (by simp) (bst_zero _ _ _ (by simp)).there
  go_enter Tryd.func35, Tryd.ntmps35
  go_upto_region 1 with fail
  generalize ((w.alloc (.cells (row .u32 8 (tH h0 n f c)).toArray 44)).alloc (.cells #[.int .u32 0, .int .u32 0, .int .u32 0, .int .u32 0, .int .u32 0, .int .u32 0, .int .u32 0, .int .u32 0] 44)) = w0 at K ⊢
  go_loopw [1, 2] (fun d b w' => ∃ (i L : Nat) (sq : Option Addr) (cq : Nat), 64 * i + L = len ∧ (c + i = 0 ∨ 0 < L) ∧ L ≤ cq ∧ d = .int .u64 ((64 * (c + i) : Nat) : Int) ∧ b = .slice sq L cq ∧ Src w sq L (fun j => z (64 * i + j)) ∧ Kr w (w.heap.size + 1 + 1) [(w.heap.size, .u32, 8, tH h0 n f (c + i))] [(w.heap.size + 1, 8)] w') (fun _ b _ => slen b)
  case atStart => exact ⟨0, len, sp, cap, by omega, by omega, hcap, rfl, rfl, by simpa using hs, K⟩
  case round =>
    clear K hs
    obtain ⟨i, L, sq, cq, hL, hp, hLc, rfl, rfl, hs, K⟩ := hrel
    by_cases hlt : 64 < L
    · have g1 : (64 : Int) < (L : Int) := by omega
      obtain ⟨sh, hh1, hh2⟩ := cut_hi (P := Tryd.prog) (t := 22) (by kernel_rfl) (fun _ => by kernel_rfl) sq L cq 64 (by omega) hLc
      obtain ⟨sl, hl1, hl2⟩ := cut_lo (P := Tryd.prog) (t := 22) (by kernel_rfl) (fun _ => by kernel_rfl) sq L cq 64 (by omega) hLc
      have HP := show Hid _ from (show bpr (tH h0 n f (c + i)) (padz 64 (fun j => z (64 * i + j))) ((64 * (c + i) + 64 : Nat) : Int) false = tH h0 n f (c + i + 1) from by
        have e1 : min (64 * (c + i) + 64) n = 64 * (c + i) + 64 := by omega
        have e2 : decide (c + i + 1 = nbt n) = false := decide_eq_false (by unfold nbt; rw [if_neg (by omega)]; omega)
        conv => rhs; unfold tH; rw [e1, e2]
        refine bpr_congr _ _ _ _ _ (fun j hj => ?_)
        have e3 := hf (64 * i + j)
        rw [show 64 * c + (64 * i + j) = 64 * (c + i) + j by omega] at e3
        rw [e3]
        unfold padz
        rw [if_pos hj, if_pos (by omega)])
      go_upto_region 2 with fail
      refine wp_region_list ?_
      refine pureL (.int .u64 ((64 * (c + i) : Nat) : Int)) rfl (fun _ => by kernel_rfl) ?_
      simp only [Act.put, List.setIfInBounds_toArray, List.set_cons_zero, List.set_cons_succ]
      refine pureL (.int .u64 ((64 * (c + i) + 64 : Nat) : Int)) rfl (fun w => addI .u64 _ _ _ _ _ _ _ rfl rfl rfl (by rw [IntKind.wrap_u64]; omega) w) ?_
      simp only [Act.put, List.setIfInBounds_toArray, List.set_cons_zero, List.set_cons_succ]
      refine pureL (.int .u64 ((64 * (c + i) + 64 : Nat) : Int)) rfl (fun _ => by kernel_rfl) ?_
      simp only [Act.put, List.setIfInBounds_toArray, List.set_cons_zero, List.set_cons_succ]
      show Exit.then _ _ _ _ _
      go_upto_region 3 with fail
      refine wp_region_C (S := fun w' => Kr w (w.heap.size + 1 + 1) [(w.heap.size, .u32, 8, tH h0 n f (c + i))] [(w.heap.size + 1, 8)] w') 6 (by kernel_rfl) K.drew ?_
      clear K
      intro K
      refine rowC (i := 0) (some 12) rfl .u32 8 (tH h0 n f (c + i)) (w.heap.size) 0 44 _ _ rfl rfl (by kernel_rfl) rfl rfl rfl (by kernel_rfl) (by kernel_rfl) (by kernel_rfl) (by kernel_rfl) (fun _ _ _ h => h) Tryd.underlying44 rfl (bst_info _) K (fun _ h => (h.get _ _ _ _ List.mem_cons_self).range) ?_
      simp only [Act.put, List.setIfInBounds_toArray, List.set_cons_zero, List.set_cons_succ]
      refine pureC (i := 1) (some 13) rfl (.slice sq L cq) rfl (by decide) rfl (fun _ => by kernel_rfl) (by kernel_rfl) (by kernel_rfl) (by kernel_rfl) (fun _ _ _ h => h) K ?_
      simp only [Act.put, List.setIfInBounds_toArray, List.set_cons_zero, List.set_cons_succ]
      refine pureC (i := 2) (some 14) rfl (.slice sh 64 cq) rfl (by decide) rfl (fun w => cutHi _ _ _ _ _ _ rfl rfl rfl (hh1 w)) (by kernel_rfl) (by kernel_rfl) (by kernel_rfl) (fun _ _ _ h => h) K ?_
      simp only [Act.put, List.setIfInBounds_toArray, List.set_cons_zero, List.set_cons_succ]
      refine pureC (i := 4) (some 16) rfl (.int .u64 ((64 * (c + i) + 64 : Nat) : Int)) rfl (by decide) rfl (fun _ => by kernel_rfl) (by kernel_rfl) (by kernel_rfl) (by kernel_rfl) (fun _ _ _ h => h) K ?_
      simp only [Act.put, List.setIfInBounds_toArray, List.set_cons_zero, List.set_cons_succ]
      refine callMC (i := 3) (some 15) rfl (by kernel_rfl) rfl rfl (fun _ => by kernel_rfl) (bload_any sh 64 cq (Nat.le_refl _) (fun j => z (64 * i + j)) (fun j hj => hz _ (by omega)) _ ((hh2 _ _ hs).below K.below (Nat.le_refl _))) ?_
      rintro e w2 ⟨rfl, l⟩
      replace K := K.call l
      clear l
      refine ⟨_, rfl, K, ?_⟩
      simp only [Act.put, List.setIfInBounds_toArray, List.set_cons_zero, List.set_cons_succ]
      refine callMC (i := 5) (some 17) rfl (by kernel_rfl) rfl rfl (fun _ => by kernel_rfl) (bpress_any (tH h0 n f (c + i)) (tH_in h0 n f hh _) (padz 64 (fun j => z (64 * i + j))) ((64 * (c + i) + 64 : Nat) : Int) false _ (hg.below K.below hg.size)) ?_
      rintro e w3 ⟨rfl, l⟩
      replace K := K.call l
      clear l
      refine ⟨_, rfl, K, ?_⟩
      simp only [Act.put, List.setIfInBounds_toArray, List.set_cons_zero, List.set_cons_succ]
      rw [HP.out]
      refine storesC (S2 := fun _ => True) none rfl .u32 8 (tH h0 n f (c + i + 1)) (w.heap.size) 44 _ _ (by kernel_rfl) rfl rfl rfl rfl rfl (bst_there (K.get _ _ _ _ List.mem_cons_self)) (bst_info' _) (by kernel_rfl) ?_
      simp only [Act.put]
      refine wpAnyH_done (by kernel_rfl) ?_ _
      replace K := K.set [] (w.heap.size) .u32 8 (tH h0 n f (c + i)) (tH h0 n f (c + i + 1)) List.mem_cons_self (fun _ hp => by cases hp) (fun _ hp => by cases hp) (Nat.le_refl _)
      generalize w3.setCells (w.heap.size) 0 (row .u32 8 (tH h0 n f (c + i + 1))) = w4 at K ⊢
      clear HP hh1 hh2
      go_upto_region 4 with fail
      refine wp_region_list ?_
      refine pureL (.slice sq L cq) rfl (fun _ => by kernel_rfl) ?_
      simp only [Act.put, List.setIfInBounds_toArray, List.set_cons_zero, List.set_cons_succ]
      refine pureL (.slice sl (L - 64) (cq - 64)) rfl (fun w => cutOp _ _ _ _ _ _ rfl rfl rfl (hl1 w)) ?_
      simp only [Act.put, List.setIfInBounds_toArray, List.set_cons_zero, List.set_cons_succ]
      refine pureL (.slice sl (L - 64) (cq - 64)) rfl (fun _ => by kernel_rfl) ?_
      simp only [Act.put, List.setIfInBounds_toArray, List.set_cons_zero, List.set_cons_succ]
      have HS := show Hid _ from (And.intro (show Src w sl (L - 64) (fun j => z (64 * (i + 1) + j)) from (hl2 _ _ hs).congr (fun j hj => by show z (64 * i + (64 + j)) = _; congr 1; omega)) (show Kr w (w.heap.size + 1 + 1) [(w.heap.size, .u32, 8, tH h0 n f (c + (i + 1)))] [(w.heap.size + 1, 8)] w4 from K))
      clear K hs hl1 hl2
      show Exit.inBlock _ _ _ _ _
      go_wp2
      go_roundw
      case rel => first | exact ⟨i + 1, L - 64, sl, cq - 64, by omega, by omega, by omega, by congr 1, rfl, HS.out⟩ | ((repeat apply Exists.intro); refine ⟨⟨i + 1, L - 64, sl, cq - 64, by omega, by omega, by omega, by congr 1, rfl, HS.out⟩, rfl⟩)
      case measure => simp [slen]; omega
    · have g1 : (L : Int) ≤ 64 := by omega
      have HP := show Hid _ from (show bpr (tH h0 n f (c + i)) (padz L (fun j => z (64 * i + j))) ((64 * (c + i) + L : Nat) : Int) true = tH h0 n f (nbt n) from by
        have e0 : nbt n = c + i + 1 := by
          unfold nbt
          split
          · omega
          · omega
        have e1 : min (64 * (c + i) + 64) n = 64 * (c + i) + L := by omega
        have e2 : decide (c + i + 1 = c + i + 1) = true := decide_eq_true rfl
        rw [e0]
        conv => rhs; unfold tH; rw [e1, e0, e2]
        refine bpr_congr _ _ _ _ _ (fun j hj => ?_)
        have e3 := hf (64 * i + j)
        rw [show 64 * c + (64 * i + j) = 64 * (c + i) + j by omega] at e3
        rw [e3]
        unfold padz
        by_cases e : j < L
        · rw [if_pos e, if_pos (by omega)]
        · rw [if_neg e, if_neg (by omega)])
      go_upto_region 5 with fail
      refine wp_region_C (S := fun w' => Kr w (w.heap.size + 1 + 1) [(w.heap.size, .u32, 8, tH h0 n f (c + i))] [(w.heap.size + 1, 8)] w') 9 (by kernel_rfl) K.drew ?_
      clear K
      intro K
      refine rowC (i := 0) (some 20) rfl .u32 8 (tH h0 n f (c + i)) (w.heap.size) 0 44 _ _ rfl rfl (by kernel_rfl) rfl rfl rfl (by kernel_rfl) (by kernel_rfl) (by kernel_rfl) (by kernel_rfl) (fun _ _ _ h => h) Tryd.underlying44 rfl (bst_info _) K (fun _ h => (h.get _ _ _ _ List.mem_cons_self).range) ?_
      simp only [Act.put, List.setIfInBounds_toArray, List.set_cons_zero, List.set_cons_succ]
      refine pureC (i := 1) (some 21) rfl (.slice sq L cq) rfl (by decide) rfl (fun _ => by kernel_rfl) (by kernel_rfl) (by kernel_rfl) (by kernel_rfl) (fun _ _ _ h => h) K ?_
      simp only [Act.put, List.setIfInBounds_toArray, List.set_cons_zero, List.set_cons_succ]
      refine pureC (i := 3) (some 23) rfl (.int .u64 ((64 * (c + i) : Nat) : Int)) rfl (by decide) rfl (fun _ => by kernel_rfl) (by kernel_rfl) (by kernel_rfl) (by kernel_rfl) (fun _ _ _ h => h) K ?_
      simp only [Act.put, List.setIfInBounds_toArray, List.set_cons_zero, List.set_cons_succ]
      refine pureC (i := 4) (some 24) rfl (.slice sq L cq) rfl (by decide) rfl (fun _ => by kernel_rfl) (by kernel_rfl) (by kernel_rfl) (by kernel_rfl) (fun _ _ _ h => h) K ?_
      simp only [Act.put, List.setIfInBounds_toArray, List.set_cons_zero, List.set_cons_succ]
      refine pureC (i := 5) (some 25) rfl (.int .i64 (L : Int)) rfl (by decide) rfl (fun w => lenS _ 22 5 sq L cq rfl Tryd.underlying22 rfl w) (by kernel_rfl) (by kernel_rfl) (by kernel_rfl) (fun _ _ _ h => h) K ?_
      simp only [Act.put, List.setIfInBounds_toArray, List.set_cons_zero, List.set_cons_succ]
      refine pureC (i := 6) (some 26) rfl (.int .u64 (L : Int)) rfl (by decide) rfl (fun w => convI .i64 .u64 _ _ _ _ _ rfl (by kernel_rfl) Tryd.underlying52 (by kernel_rfl) rfl (by rw [IntKind.wrap_u64]; omega) w) (by kernel_rfl) (by kernel_rfl) (by kernel_rfl) (fun _ _ _ h => h) K ?_
      simp only [Act.put, List.setIfInBounds_toArray, List.set_cons_zero, List.set_cons_succ]
      refine pureC (i := 7) (some 27) rfl (.int .u64 ((64 * (c + i) + L : Nat) : Int)) rfl (by decide) rfl (fun w => addI .u64 _ _ _ _ _ _ _ rfl rfl rfl (by rw [IntKind.wrap_u64]; omega) w) (by kernel_rfl) (by kernel_rfl) (by kernel_rfl) (fun _ _ _ h => h) K ?_
      simp only [Act.put, List.setIfInBounds_toArray, List.set_cons_zero, List.set_cons_succ]
      refine callMC (i := 2) (some 22) rfl (by kernel_rfl) rfl rfl (fun _ => by kernel_rfl) (bload_any sq L cq (by omega) (fun j => z (64 * i + j)) (fun j hj => hz _ (by omega)) _ (hs.below K.below (Nat.le_refl _))) ?_
      rintro e w2 ⟨rfl, l⟩
      replace K := K.call l
      clear l
      refine ⟨_, rfl, K, ?_⟩
      simp only [Act.put, List.setIfInBounds_toArray, List.set_cons_zero, List.set_cons_succ]
      refine callMC (i := 8) (some 28) rfl (by kernel_rfl) rfl rfl (fun _ => by kernel_rfl) (bpress_any (tH h0 n f (c + i)) (tH_in h0 n f hh _) (padz L (fun j => z (64 * i + j))) ((64 * (c + i) + L : Nat) : Int) true _ (hg.below K.below hg.size)) ?_
      rintro e w3 ⟨rfl, l⟩
      replace K := K.call l
      clear l
      refine ⟨_, rfl, K, ?_⟩
      simp only [Act.put, List.setIfInBounds_toArray, List.set_cons_zero, List.set_cons_succ]
      rw [HP.out]
      have hz' := (K.room _ List.mem_cons_self).1
      refine storesC (S2 := fun _ => True) none rfl .u32 8 (tH h0 n f (nbt n)) (w.heap.size + 1) 44 _ _ (by kernel_rfl) rfl rfl rfl rfl rfl (room_of hz') (bst_info' _) (by kernel_rfl) ?_
      simp only [Act.put]
      refine wpAnyH_done (by kernel_rfl) ?_ _
      have hB := (K.fill _ _ List.mem_cons_self (row .u32 8 (tH h0 n f (nbt n)))).below
      clear K HP hs hp
      generalize hGe : tH h0 n f (nbt n) = G at *
      go_wp2
      exact bodyPost_ret (v := (.agg (row .u32 8 (G)).toArray)) (results_row Tryd.results35 rfl (Has.all hz' .u32 G).range Tryd.underlying44 rfl (bst_info G)) rfl ⟨by first | rfl | rw [hGe] | (rw [← hGe]; done) | (rw [← hGe, Nat.zero_add]; done) | (rw [← hGe, Nat.add_zero]; done), hB⟩

set_option maxRecDepth 10000 in
set_option maxHeartbeats 8000000 in
theorem brun_any (h0 : Nat → Int) (hh : In V 8 h0) (fp : Option Addr) (fl fc : Nat) (hfl : fl = 0 ∨ fl = 64) (hfc : fl ≤ fc) (y : Nat → Int) (hy : In 256 fl y) (sp : Option Addr) (len cap : Nat) (hlen : len ≤ 140737488355072) (hcap : len ≤ cap) (z : Nat → Int) (hz : In 256 len z) (w : World) (hg : BGlob w) (hf : Src w fp fl y) (hs : Src w sp len z) :
    Calls Tryd.prog 30 #[(.agg (row .u32 8 (h0)).toArray), .slice fp fl fc, .slice sp len cap] w fun e w' => e = .returned (.agg (row .u32 8 (tH h0 (fl + len) (tx2 fl y len z) (nbt (fl + len)))).toArray) ∧ Below w.heap.size w w' := by
  have K := Kr.init w
  replace K := K.box .u32 8 h0 44 (w.heap.size) rfl
  replace K := K.make 8 #[.int .u32 0, .int .u32 0, .int .u32 0, .int .u32 0, .int .u32 0, .int .u32 0, .int .u32 0, .int .u32 0] 44 (w.heap.size + 1) (by simp) (bst_zero _ _ _ (by simp)).there
  go_enter Tryd.func30, Tryd.ntmps30
  go_upto_region 1 with fail
  generalize ((w.alloc (.cells (row .u32 8 h0).toArray 44)).alloc (.cells #[.int .u32 0, .int .u32 0, .int .u32 0, .int .u32 0, .int .u32 0, .int .u32 0, .int .u32 0, .int .u32 0] 44)) = w0 at K ⊢
  rcases hfl with rfl | rfl
  · go_upto_region 2 with fail
    refine wp_region_list ?_
    refine rowKL .u32 8 (h0) (w.heap.size) 0 44 _ _ rfl rfl rfl Tryd.underlying44 rfl (bst_info _) ((K.get _ _ _ _ List.mem_cons_self).range) ?_
    simp only [Act.put, List.setIfInBounds_toArray, List.set_cons_zero, List.set_cons_succ]
    refine pureL (.slice sp len cap) rfl (fun _ => by kernel_rfl) ?_
    simp only [Act.put, List.setIfInBounds_toArray, List.set_cons_zero, List.set_cons_succ]
    refine callL rfl (fun _ => by kernel_rfl) (bfinish_any h0 hh (0 + len) (tx2 0 y len z) 0 sp len cap (by omega) (by omega) (.inl rfl) (by omega) hcap z hz (fun j => by unfold tx2; rw [if_neg (Nat.not_lt_zero _), Nat.sub_zero, Nat.mul_zero, Nat.zero_add]) _ (hg.below K.below hg.size) (hs.below K.below (Nat.le_refl _))) ?_
    rintro e w1 ⟨rfl, l⟩
    replace K := K.call l
    clear l
    refine ⟨_, rfl, ?_⟩
    simp only [Act.put, List.setIfInBounds_toArray, List.set_cons_zero, List.set_cons_succ]
    have hz' := (K.room _ List.mem_cons_self).1
    refine storesL .u32 8 (tH h0 (0 + len) (tx2 0 y len z) (nbt (0 + len))) (w.heap.size + 1) 44 _ _ rfl rfl rfl rfl (room_of hz') (bst_info' _) ?_
    simp only [Act.put]
    have hB := (K.fill _ _ List.mem_cons_self (row .u32 8 (tH h0 (0 + len) (tx2 0 y len z) (nbt (0 + len))))).below
    clear K
    generalize hGe : (tH h0 (0 + len) (tx2 0 y len z) (nbt (0 + len))) = G at *
    show Exit.then _ _ _ _ _
    go_wp2
    exact bodyPost_ret (v := (.agg (row .u32 8 (G)).toArray)) (results_row Tryd.results30 rfl (Has.all hz' .u32 G).range Tryd.underlying44 rfl (bst_info G)) rfl ⟨by first | rfl | rw [hGe] | (rw [← hGe]; done) | (rw [← hGe, Nat.zero_add]; done) | (rw [← hGe, Nat.add_zero]; done), hB⟩
  · by_cases hl0 : len = 0
    · subst hl0
      go_upto_region 4 with fail
      refine wp_region_list ?_
      refine rowKL .u32 8 (h0) (w.heap.size) 0 44 _ _ rfl rfl rfl Tryd.underlying44 rfl (bst_info _) ((K.get _ _ _ _ List.mem_cons_self).range) ?_
      simp only [Act.put, List.setIfInBounds_toArray, List.set_cons_zero, List.set_cons_succ]
      refine pureL (.slice fp 64 fc) rfl (fun _ => by kernel_rfl) ?_
      simp only [Act.put, List.setIfInBounds_toArray, List.set_cons_zero, List.set_cons_succ]
      refine callL rfl (fun _ => by kernel_rfl) (bfinish_any h0 hh (64 + 0) (tx2 64 y 0 z) 0 fp 64 fc (by omega) (by omega) (.inl rfl) (by omega) hfc y hy (tx2_none y z) _ (hg.below K.below hg.size) (hf.below K.below (Nat.le_refl _))) ?_
      rintro e w1 ⟨rfl, l⟩
      replace K := K.call l
      clear l
      refine ⟨_, rfl, ?_⟩
      simp only [Act.put, List.setIfInBounds_toArray, List.set_cons_zero, List.set_cons_succ]
      have hz' := (K.room _ List.mem_cons_self).1
      refine storesL .u32 8 (tH h0 (64 + 0) (tx2 64 y 0 z) (nbt (64 + 0))) (w.heap.size + 1) 44 _ _ rfl rfl rfl rfl (room_of hz') (bst_info' _) ?_
      simp only [Act.put]
      have hB := (K.fill _ _ List.mem_cons_self (row .u32 8 (tH h0 (64 + 0) (tx2 64 y 0 z) (nbt (64 + 0))))).below
      clear K
      generalize hGe : (tH h0 (64 + 0) (tx2 64 y 0 z) (nbt (64 + 0))) = G at *
      show Exit.then _ _ _ _ _
      go_wp2
      exact bodyPost_ret (v := (.agg (row .u32 8 (G)).toArray)) (results_row Tryd.results30 rfl (Has.all hz' .u32 G).range Tryd.underlying44 rfl (bst_info G)) rfl ⟨by first | rfl | rw [hGe] | (rw [← hGe]; done) | (rw [← hGe, Nat.zero_add]; done) | (rw [← hGe, Nat.add_zero]; done), hB⟩
    · have g1 : (len : Int) ≠ 0 := by omega
      have HP := show Hid _ from (show bpr h0 (padz 64 y) ((64 : Nat) : Int) false = tH h0 (64 + len) (tx2 64 y len z) 1 from by
        have e1 : min (64 * 0 + 64) (64 + len) = 64 := by omega
        have e2 : decide (0 + 1 = nbt (64 + len)) = false := decide_eq_false (by unfold nbt; rw [if_neg (by omega)]; omega)
        conv => rhs; unfold tH; rw [e1, e2]
        refine bpr_congr _ _ _ _ _ (fun j hj => ?_)
        unfold padz tx2
        rw [if_pos hj, if_pos (show 64 * 0 + j < 64 by omega), Nat.mul_zero, Nat.zero_add])
      go_upto_region 5 with fail
      refine wp_region_C (S := fun w' => Kr w (w.heap.size + 1 + 1) [(w.heap.size, .u32, 8, h0)] [(w.heap.size + 1, 8)] w') 6 (by kernel_rfl) K.drew ?_
      clear K
      intro K
      refine rowC (i := 0) (some 19) rfl .u32 8 (h0) (w.heap.size) 0 44 _ _ rfl rfl (by kernel_rfl) rfl rfl rfl (by kernel_rfl) (by kernel_rfl) (by kernel_rfl) (by kernel_rfl) (fun _ _ _ h => h) Tryd.underlying44 rfl (bst_info _) K (fun _ h => (h.get _ _ _ _ List.mem_cons_self).range) ?_
      simp only [Act.put, List.setIfInBounds_toArray, List.set_cons_zero, List.set_cons_succ]
      refine pureC (i := 1) (some 20) rfl (.slice fp 64 fc) rfl (by decide) rfl (fun _ => by kernel_rfl) (by kernel_rfl) (by kernel_rfl) (by kernel_rfl) (fun _ _ _ h => h) K ?_
      simp only [Act.put, List.setIfInBounds_toArray, List.set_cons_zero, List.set_cons_succ]
      refine pureC (i := 4) (some 23) rfl (.slice sp len cap) rfl (by decide) rfl (fun _ => by kernel_rfl) (by kernel_rfl) (by kernel_rfl) (by kernel_rfl) (fun _ _ _ h => h) K ?_
      simp only [Act.put, List.setIfInBounds_toArray, List.set_cons_zero, List.set_cons_succ]
      refine callMC (i := 2) (some 21) rfl (by kernel_rfl) rfl rfl (fun _ => by kernel_rfl) (bload_any fp 64 fc (Nat.le_refl _) y hy _ (hf.below K.below (Nat.le_refl _))) ?_
      rintro e w2 ⟨rfl, l⟩
      replace K := K.call l
      clear l
      refine ⟨_, rfl, K, ?_⟩
      simp only [Act.put, List.setIfInBounds_toArray, List.set_cons_zero, List.set_cons_succ]
      refine callMC (i := 3) (some 22) rfl (by kernel_rfl) rfl rfl (fun _ => by kernel_rfl) (bpress_any h0 hh (padz 64 y) ((64 : Nat) : Int) false _ (hg.below K.below hg.size)) ?_
      rintro e w3 ⟨rfl, l⟩
      replace K := K.call l
      clear l
      refine ⟨_, rfl, K, ?_⟩
      simp only [Act.put, List.setIfInBounds_toArray, List.set_cons_zero, List.set_cons_succ]
      rw [HP.out]
      refine callMC (i := 5) (some 24) rfl (by kernel_rfl) rfl rfl (fun _ => by kernel_rfl) (bfinish_any h0 hh (64 + len) (tx2 64 y len z) 1 sp len cap (by omega) (by omega) (.inr (by omega)) (by omega) hcap z hz (fun j => by unfold tx2; rw [if_neg (show ¬ 64 * 1 + j < 64 by omega), show 64 * 1 + j - 64 = j by omega]) _ (hg.below K.below hg.size) (hs.below K.below (Nat.le_refl _))) ?_
      rintro e w4 ⟨rfl, l⟩
      replace K := K.call l
      clear l
      refine ⟨_, rfl, K, ?_⟩
      simp only [Act.put, List.setIfInBounds_toArray, List.set_cons_zero, List.set_cons_succ]
      have hz' := (K.room _ List.mem_cons_self).1
      refine storesC (S2 := fun _ => True) none rfl .u32 8 (tH h0 (64 + len) (tx2 64 y len z) (nbt (64 + len))) (w.heap.size + 1) 44 _ _ (by kernel_rfl) rfl rfl rfl rfl rfl (room_of hz') (bst_info' _) (by kernel_rfl) ?_
      simp only [Act.put]
      refine wpAnyH_done (by kernel_rfl) ?_ _
      have hB := (K.fill _ _ List.mem_cons_self (row .u32 8 (tH h0 (64 + len) (tx2 64 y len z) (nbt (64 + len))))).below
      clear K HP hs
      generalize hGe : (tH h0 (64 + len) (tx2 64 y len z) (nbt (64 + len))) = G at *
      go_wp2
      exact bodyPost_ret (v := (.agg (row .u32 8 (G)).toArray)) (results_row Tryd.results30 rfl (Has.all hz' .u32 G).range Tryd.underlying44 rfl (bst_info G)) rfl ⟨by first | rfl | rw [hGe] | (rw [← hGe]; done) | (rw [← hGe, Nat.zero_add]; done) | (rw [← hGe, Nat.add_zero]; done), hB⟩

set_option maxRecDepth 10000 in
set_option maxHeartbeats 8000000 in
theorem bbehind_any (fp : Option Addr) (fl fc : Nat) (hfl : fl = 0 ∨ fl = 64) (hfc : fl ≤ fc) (y : Nat → Int) (hy : In 256 fl y) (sp : Option Addr) (len cap : Nat) (hlen : len ≤ 140737488355072) (hcap : len ≤ cap) (z : Nat → Int) (hz : In 256 len z) (w : World) (hg : BGlob w) (hf : Src w fp fl y) (hs : Src w sp len z) :
    Calls Tryd.prog 26 #[.slice fp fl fc, .slice sp len cap] w fun e w' => e = .returned (.agg (row .u8 32 (bhash (fl + len) (app y fl z))).toArray) ∧ Below w.heap.size w w' := by
  have HE := show Hid _ from bhash_tx2 fl y len z
  have K := Kr.init w
  replace K := K.make 32 #[.int .u8 0, .int .u8 0, .int .u8 0, .int .u8 0, .int .u8 0, .int .u8 0, .int .u8 0, .int .u8 0, .int .u8 0, .int .u8 0, .int .u8 0, .int .u8 0, .int .u8 0, .int .u8 0, .int .u8 0, .int .u8 0, .int .u8 0, .int .u8 0, .int .u8 0, .int .u8 0, .int .u8 0, .int .u8 0, .int .u8 0, .int .u8 0, .int .u8 0, .int .u8 0, .int .u8 0, .int .u8 0, .int .u8 0, .int .u8 0, .int .u8 0, .int .u8 0] 25 (w.heap.size) rfl (key_zero _ _ _ rfl).there
  go_enter Tryd.func26, Tryd.ntmps26
  go_upto_region 1 with fail
  generalize (w.alloc (.cells #[.int .u8 0, .int .u8 0, .int .u8 0, .int .u8 0, .int .u8 0, .int .u8 0, .int .u8 0, .int .u8 0, .int .u8 0, .int .u8 0, .int .u8 0, .int .u8 0, .int .u8 0, .int .u8 0, .int .u8 0, .int .u8 0, .int .u8 0, .int .u8 0, .int .u8 0, .int .u8 0, .int .u8 0, .int .u8 0, .int .u8 0, .int .u8 0, .int .u8 0, .int .u8 0, .int .u8 0, .int .u8 0, .int .u8 0, .int .u8 0, .int .u8 0, .int .u8 0] 25)) = w0 at K ⊢
  refine wp_region_list ?_
  refine callL rfl (fun _ => by kernel_rfl) (bbegin_any 0 32 (by decide) (by decide) _ (hg.below K.below hg.size)) ?_
  rintro e w1 ⟨rfl, l⟩
  replace K := K.call l
  clear l
  refine ⟨_, rfl, ?_⟩
  simp only [Act.put, List.setIfInBounds_toArray, List.set_cons_zero, List.set_cons_succ]
  refine pureL (.slice fp fl fc) rfl (fun _ => by kernel_rfl) ?_
  simp only [Act.put, List.setIfInBounds_toArray, List.set_cons_zero, List.set_cons_succ]
  refine pureL (.slice sp len cap) rfl (fun _ => by kernel_rfl) ?_
  simp only [Act.put, List.setIfInBounds_toArray, List.set_cons_zero, List.set_cons_succ]
  refine callL rfl (fun _ => by kernel_rfl) (brun_any (bh0 0 32) (bh0_in 0 32 (by decide) (by decide)) fp fl fc hfl hfc y hy sp len cap hlen hcap z hz _ (hg.below K.below hg.size) (hf.below K.below (Nat.le_refl _)) (hs.below K.below (Nat.le_refl _))) ?_
  rintro e w2 ⟨rfl, l⟩
  replace K := K.call l
  clear l
  refine ⟨_, rfl, ?_⟩
  simp only [Act.put, List.setIfInBounds_toArray, List.set_cons_zero, List.set_cons_succ]
  refine callL rfl (fun _ => by kernel_rfl) (bbytes_any (tH (bh0 0 32) (fl + len) (tx2 fl y len z) (nbt (fl + len))) _) ?_
  rintro e w3 ⟨rfl, l⟩
  replace K := K.call l
  clear l
  refine ⟨_, rfl, ?_⟩
  simp only [Act.put, List.setIfInBounds_toArray, List.set_cons_zero, List.set_cons_succ]
  rw [← HE.out]
  have hz' := (K.room _ List.mem_cons_self).1
  refine storesL .u8 32 (bhash (fl + len) (app y fl z)) (w.heap.size) 25 _ _ rfl rfl rfl rfl (room_of hz') (key_info' _) ?_
  simp only [Act.put]
  have hB := (K.fill _ _ List.mem_cons_self (row .u8 32 (bhash (fl + len) (app y fl z)))).below
  clear K HE
  generalize hGe : bhash (fl + len) (app y fl z) = G at *
  show Exit.then _ _ _ _ _
  go_wp2
  exact bodyPost_ret (v := (.agg (row .u8 32 (G)).toArray)) (results_row Tryd.results26 rfl (Has.all hz' .u8 G).range Tryd.underlying25 rfl (key_info G)) rfl ⟨by first | rfl | rw [hGe] | (rw [← hGe]; done) | (rw [← hGe, Nat.zero_add]; done) | (rw [← hGe, Nat.add_zero]; done), hB⟩

set_option maxRecDepth 10000 in
set_option maxHeartbeats 8000000 in
theorem bpad_any (kp : Option Addr) (kl kc : Nat) (hkl : kl ≤ 64) (key : Nat → Int) (c : Int) (w : World) (hk : Src w kp kl key) :
    Calls Tryd.prog 27 #[.slice kp kl kc, .int .u8 c] w fun e w' => ∃ g, e = .returned (.slice (some ⟨g, 0, none⟩) 64 64) ∧ Has w' g .u8 64 (bxx c (padz kl key)) ∧ (w.heap.size ≤ g ∧ g < w'.heap.size) ∧ Below w.heap.size w w' := by
  go_enter Tryd.func27, Tryd.ntmps27
  go_upto_region 1 with fail
  have K := (Kr.init w).box .u8 64 (fun _ => 0) 5 (w.heap.size) rfl
  refine wp_region_list ?_
  refine actL (w' := w.alloc (.cells (row .u8 64 (fun _ => 0)).toArray 5)) (.slice (some ⟨w.heap.size, 0, none⟩) 64 64) rfl (makeOp 22 _ _ _ _ _ rfl rfl rfl (made8 64 (by decide) w)) ?_
  simp only [Act.put, List.setIfInBounds_toArray, List.set_cons_zero, List.set_cons_succ]
  refine pureL (.slice (some ⟨w.heap.size, 0, none⟩) 64 64) rfl (fun _ => by kernel_rfl) ?_
  simp only [Act.put, List.setIfInBounds_toArray, List.set_cons_zero, List.set_cons_succ]
  show Exit.then _ _ _ _ _
  go_upto_region 2 with fail
  generalize w.alloc (.cells (row .u8 64 (fun _ => 0)).toArray 5) = w0 at K ⊢
  have HR := K.get _ _ _ _ List.mem_cons_self
  replace K := K.loose [] (w.heap.size) .u8 64 (fun _ => 0) List.mem_cons_self (fun _ hp => by cases hp) (fun _ hp => by cases hp) (Nat.le_refl _)
  refine wp_region_list ?_
  refine pureL (.slice (some ⟨w.heap.size, 0, none⟩) 64 64) rfl (fun _ => by kernel_rfl) ?_
  simp only [Act.put, List.setIfInBounds_toArray, List.set_cons_zero, List.set_cons_succ]
  refine pureL (.slice kp kl kc) rfl (fun _ => by kernel_rfl) ?_
  simp only [Act.put, List.setIfInBounds_toArray, List.set_cons_zero, List.set_cons_succ]
  refine actL (.int .i64 (kl : Int)) rfl (run_copy_src _ _ 22 22 5 rfl Tryd.underlying22 (by kernel_rfl) (w.heap.size) 64 64 kl kc 64 kp key rfl rfl hkl hkl HR.there (hk.below K.below (Nat.le_refl _))) ?_
  simp only [Act.put, List.setIfInBounds_toArray, List.set_cons_zero, List.set_cons_succ]
  replace K := K.fill (w.heap.size) 64 List.mem_cons_self (row .u8 kl key)
  replace HR := (HR.part 0 kl (by omega) key).congr (g := padz kl key) (fun j hj => by
    unfold over padz
    by_cases e : j < kl
    · rw [if_pos (by omega), if_pos e, Nat.sub_zero]
    · rw [if_neg (by omega), if_neg e])
  replace K := K.settle [] (w.heap.size) .u8 64 (padz kl key) List.mem_cons_self (fun _ hq => by cases hq) (fun _ hq => by cases hq) HR
  generalize w0.setCells (w.heap.size) 0 (row .u8 kl key) = w1 at K ⊢
  clear HR w0 hk hkl
  show Exit.then _ _ _ _ _
  generalize hpe : padz kl key = p at K
  go_wp2
  go_loopw [13] (fun i w' => ∃ (n : Nat) (f : Nat → Int), n ≤ 64 ∧ i = .int .i64 n ∧ Kr w (w.heap.size + 1) [(w.heap.size, .u8, 64, f)] [] w' ∧ (∀ j, j < n → f j = bxx c p j) ∧ ∀ j, n ≤ j → f j = p j) (fun i _ => 64 - (intOf i).toNat)
  case atStart => exact ⟨0, p, by omega, rfl, K, fun j hj => by omega, fun _ _ => rfl⟩
  case round =>
    clear K
    obtain ⟨n, f, hn, rfl, K, hd, hk⟩ := hrel
    have g1 : (0 : Int) ≤ (n : Int) := by omega
    by_cases hlt : n < 64
    · have g2 : (n : Int) < 64 := by omega
      have HX : bits .xor .u8 (f n) c = bxx c p n := by rw [hk n (Nat.le_refl _)]; rfl
      go_upto_region 6 with fail
      refine wp_region_list ?_
      refine pureL (.slice (some ⟨w.heap.size, 0, none⟩) 64 64) rfl (fun _ => by kernel_rfl) ?_
      simp only [Act.put, List.setIfInBounds_toArray, List.set_cons_zero, List.set_cons_succ]
      refine pureL (.int .i64 (n : Int)) rfl (fun _ => by kernel_rfl) ?_
      simp only [Act.put, List.setIfInBounds_toArray, List.set_cons_zero, List.set_cons_succ]
      refine pureL (.pointer (some ⟨w.heap.size, n, none⟩)) rfl (fun w' => idxO (w.heap.size) 64 64 n hlt w' _ _ rfl rfl rfl) ?_
      simp only [Act.put, List.setIfInBounds_toArray, List.set_cons_zero, List.set_cons_succ]
      refine cellL .u8 (.int .u8 (f n)) (w.heap.size) n 5 _ rfl rfl rfl Tryd.underlying5 ((K.get _ _ _ _ List.mem_cons_self).cell n hlt) ?_
      simp only [Act.put, List.setIfInBounds_toArray, List.set_cons_zero, List.set_cons_succ]
      refine pureL (.int .u8 c) rfl (fun _ => by kernel_rfl) ?_
      simp only [Act.put, List.setIfInBounds_toArray, List.set_cons_zero, List.set_cons_succ]
      refine pureL (.int .u8 (bxx c p n)) rfl (fun w => xorI .u8 _ _ _ _ _ _ _ rfl rfl rfl HX w) ?_
      simp only [Act.put, List.setIfInBounds_toArray, List.set_cons_zero, List.set_cons_succ]
      refine pureL (.pointer (some ⟨w.heap.size, n, none⟩)) rfl (fun w' => idxO (w.heap.size) 64 64 n hlt w' _ _ rfl rfl rfl) ?_
      simp only [Act.put, List.setIfInBounds_toArray, List.set_cons_zero, List.set_cons_succ]
      refine storeL .u8 (bxx c p n) (w.heap.size) n 5 _ _ rfl rfl rfl rfl (by rw [(K.get _ _ _ _ List.mem_cons_self).cell n hlt]; rfl) ((K.get _ _ _ _ List.mem_cons_self).free n hlt) (by kernel_rfl) ?_
      simp only [Act.put]
      replace K := K.setCell [] (w.heap.size) .u8 64 f n hlt (bxx c p n) List.mem_cons_self (fun _ hp => by cases hp) (fun _ hp => by cases hp) (Nat.le_refl _)
      have HS := show Hid _ from (And.intro K (And.intro (show ∀ j, j < n + 1 → upd f n (bxx c p n) j = bxx c p j from fun j hj => by
        by_cases e : j = n
        · subst e; rw [upd_same]
        · rw [upd_other _ _ _ _ e]; exact hd j (by omega)) (show ∀ j, n + 1 ≤ j → upd f n (bxx c p n) j = p j from fun j hj => by rw [upd_other _ _ _ _ (show j ≠ n by omega)]; exact hk j (by omega))))
      clear K hd hk HX
      generalize wr.setCell ⟨w.heap.size, n, none⟩ (.int .u8 (bxx c p n)) = w5 at HS ⊢
      generalize upd f n (bxx c p n) = f' at HS
      show Exit.inBlock _ _ _ _ _
      go_wp2
      go_roundw
      case rel => first | exact ⟨n + 1, f', by omega, by go_num, HS.out⟩ | ((repeat apply Exists.intro); refine ⟨⟨n + 1, f', by omega, by go_num, HS.out⟩, rfl⟩)
      case measure => simp [intOf]; omega
    · obtain rfl : n = 64 := by omega
      have HR := (K.get _ _ _ _ List.mem_cons_self).congr (g := bxx c p) (fun j hj => hd j hj)
      have hB := K.below
      have hz := K.size
      clear K hd hk hlt hn g1
      go_wp2
      go_ret
      exact ⟨w.heap.size, rfl, by rw [hpe]; exact HR, ⟨Nat.le_refl _, by omega⟩, hB⟩
end Go.Proofs.YtcdbkbcfjdpdoaaDoor

namespace Go.Proofs.YtcdbkbcfjdpdoaaDoor
open Go.RowKit

theorem bcutAll_key (b : Nat) (w : World) : (Instr.sliceAt 25 (.pointer (some ⟨b, 0, none⟩)) none none none).run Tryd.prog w = .ok (.slice (some ⟨b, 0, none⟩) 32 32) w := by kernel_rfl
theorem app_none (y z : Nat → Int) : app y 0 z = z := by
  funext j
  unfold app
  rw [if_neg (Nat.not_lt_zero j), Nat.sub_zero]

set_option maxRecDepth 10000 in
set_option maxHeartbeats 8000000 in
theorem bhash_any : BHashOK := by
  intro sp len cap hlen hcap _ z hz w hg hs
  have K := Kr.init w
  replace K := K.make 32 #[.int .u8 0, .int .u8 0, .int .u8 0, .int .u8 0, .int .u8 0, .int .u8 0, .int .u8 0, .int .u8 0, .int .u8 0, .int .u8 0, .int .u8 0, .int .u8 0, .int .u8 0, .int .u8 0, .int .u8 0, .int .u8 0, .int .u8 0, .int .u8 0, .int .u8 0, .int .u8 0, .int .u8 0, .int .u8 0, .int .u8 0, .int .u8 0, .int .u8 0, .int .u8 0, .int .u8 0, .int .u8 0, .int .u8 0, .int .u8 0, .int .u8 0, .int .u8 0] 25 (w.heap.size) rfl (key_zero _ _ _ rfl).there
  go_enter Tryd.func25, Tryd.ntmps25
  go_upto_region 1 with fail
  generalize (w.alloc (.cells #[.int .u8 0, .int .u8 0, .int .u8 0, .int .u8 0, .int .u8 0, .int .u8 0, .int .u8 0, .int .u8 0, .int .u8 0, .int .u8 0, .int .u8 0, .int .u8 0, .int .u8 0, .int .u8 0, .int .u8 0, .int .u8 0, .int .u8 0, .int .u8 0, .int .u8 0, .int .u8 0, .int .u8 0, .int .u8 0, .int .u8 0, .int .u8 0, .int .u8 0, .int .u8 0, .int .u8 0, .int .u8 0, .int .u8 0, .int .u8 0, .int .u8 0, .int .u8 0] 25)) = w0 at K ⊢
  refine wp_region_list ?_
  refine pureL (.slice sp len cap) rfl (fun _ => by kernel_rfl) ?_
  simp only [Act.put, List.setIfInBounds_toArray, List.set_cons_zero, List.set_cons_succ]
  refine callL rfl (fun _ => by kernel_rfl) (bbehind_any none 0 0 (.inl rfl) (Nat.le_refl _) (fun _ => 0) (fun j hj => absurd hj (Nat.not_lt_zero j)) sp len cap hlen hcap z hz _ (hg.below K.below hg.size) (fun j hj => absurd hj (Nat.not_lt_zero j)) (hs.below K.below (Nat.le_refl _))) ?_
  rintro e w1 ⟨rfl, l⟩
  replace K := K.call l
  clear l
  refine ⟨_, rfl, ?_⟩
  simp only [Act.put, List.setIfInBounds_toArray, List.set_cons_zero, List.set_cons_succ]
  rw [app_none, Nat.zero_add]
  have hz' := (K.room _ List.mem_cons_self).1
  refine storesL .u8 32 (bhash len z) (w.heap.size) 25 _ _ rfl rfl rfl rfl (room_of hz') (key_info' _) ?_
  simp only [Act.put]
  have hB := (K.fill _ _ List.mem_cons_self (row .u8 32 (bhash len z))).below
  clear K
  generalize hGe : bhash len z = G at *
  show Exit.then _ _ _ _ _
  go_wp2
  exact bodyPost_ret (v := (.agg (row .u8 32 (G)).toArray)) (results_row Tryd.results25 rfl (Has.all hz' .u8 G).range Tryd.underlying25 rfl (key_info G)) rfl ⟨by first | rfl | rw [hGe] | (rw [← hGe]; done), hB⟩

theorem bkk_short (kl : Nat) (key : Nat → Int) (h : kl ≤ 64) : bkk kl key = padz kl key := by
  funext j
  unfold bkk padz
  rw [if_pos h]
theorem bkk_long (kl : Nat) (key : Nat → Int) (h : ¬ kl ≤ 64) : bkk kl key = padz 32 (bhash kl key) := by
  funext j
  unfold bkk padz
  rw [if_neg h]
set_option maxRecDepth 10000 in
set_option maxHeartbeats 8000000 in
theorem bmac_any : BMacOK := by
  intro kp kl kc hkl hkc _ key hkk sp len cap hlen hcap _ z hz w hg hk hs
  have K := Kr.init w
  replace K := K.make 32 #[.int .u8 0, .int .u8 0, .int .u8 0, .int .u8 0, .int .u8 0, .int .u8 0, .int .u8 0, .int .u8 0, .int .u8 0, .int .u8 0, .int .u8 0, .int .u8 0, .int .u8 0, .int .u8 0, .int .u8 0, .int .u8 0, .int .u8 0, .int .u8 0, .int .u8 0, .int .u8 0, .int .u8 0, .int .u8 0, .int .u8 0, .int .u8 0, .int .u8 0, .int .u8 0, .int .u8 0, .int .u8 0, .int .u8 0, .int .u8 0, .int .u8 0, .int .u8 0] 25 (w.heap.size) rfl (key_zero _ _ _ rfl).there
  go_enter Tryd.func20, Tryd.ntmps20
  go_upto_region 1 with fail
  generalize (w.alloc (.cells #[.int .u8 0, .int .u8 0, .int .u8 0, .int .u8 0, .int .u8 0, .int .u8 0, .int .u8 0, .int .u8 0, .int .u8 0, .int .u8 0, .int .u8 0, .int .u8 0, .int .u8 0, .int .u8 0, .int .u8 0, .int .u8 0, .int .u8 0, .int .u8 0, .int .u8 0, .int .u8 0, .int .u8 0, .int .u8 0, .int .u8 0, .int .u8 0, .int .u8 0, .int .u8 0, .int .u8 0, .int .u8 0, .int .u8 0, .int .u8 0, .int .u8 0, .int .u8 0] 25)) = w0 at K ⊢
  by_cases hl : kl ≤ 64
  · have g1 : (kl : Int) ≤ 64 := by omega
    have HE := show Hid _ from (show (bhash (64 + 32) (app (bxx 92 (padz (kl) key)) 64 (bhash (64 + len) (app (bxx 54 (padz (kl) key)) 64 z)))) = bmac kl key len z from by unfold bmac; rw [bkk_short kl key hl])
    have hp54 := bxx_in 54 (by decide) (padz (kl) key) 64 (padz_in (kl) key hkk 64)
    have hp92 := bxx_in 92 (by decide) (padz (kl) key) 64 (padz_in (kl) key hkk 64)
    go_upto_region 4 with fail
    refine wp_region_list ?_
    refine pureL (.slice kp kl kc) rfl (fun _ => by kernel_rfl) ?_
    simp only [Act.put, List.setIfInBounds_toArray, List.set_cons_zero, List.set_cons_succ]
    refine callL rfl (fun _ => by kernel_rfl) (bpad_any kp (kl) kc hl key 54 _ (hk.below K.below (Nat.le_refl _))) ?_
    rintro e wa ⟨g, rfl, hG, ⟨_, hgl⟩, l⟩
    replace K := K.call l
    clear l
    refine ⟨_, rfl, ?_⟩
    simp only [Act.put, List.setIfInBounds_toArray, List.set_cons_zero, List.set_cons_succ]
    refine pureL (.slice sp len cap) rfl (fun _ => by kernel_rfl) ?_
    simp only [Act.put, List.setIfInBounds_toArray, List.set_cons_zero, List.set_cons_succ]
    refine callL rfl (fun _ => by kernel_rfl) (bbehind_any (some ⟨g, 0, none⟩) 64 64 (.inr rfl) (Nat.le_refl _) (bxx 54 (padz (kl) key)) hp54 sp len cap (by omega) hcap z hz _ (hg.below K.below hg.size) hG.src0 (hs.below K.below (Nat.le_refl _))) ?_
    rintro e wb ⟨rfl, l⟩
    replace K := K.call l
    clear l
    refine ⟨_, rfl, ?_⟩
    simp only [Act.put, List.setIfInBounds_toArray, List.set_cons_zero, List.set_cons_succ]
    clear hG hgl
    refine allocL #[.int .u8 0, .int .u8 0, .int .u8 0, .int .u8 0, .int .u8 0, .int .u8 0, .int .u8 0, .int .u8 0, .int .u8 0, .int .u8 0, .int .u8 0, .int .u8 0, .int .u8 0, .int .u8 0, .int .u8 0, .int .u8 0, .int .u8 0, .int .u8 0, .int .u8 0, .int .u8 0, .int .u8 0, .int .u8 0, .int .u8 0, .int .u8 0, .int .u8 0, .int .u8 0, .int .u8 0, .int .u8 0, .int .u8 0, .int .u8 0, .int .u8 0, .int .u8 0] 25 rfl (fun _ => by kernel_rfl) ?_
    simp only [Act.put, List.setIfInBounds_toArray, List.set_cons_zero, List.set_cons_succ]
    refine storesL .u8 32 ((bhash (64 + len) (app (bxx 54 (padz (kl) key)) 64 z))) wb.heap.size 25 _ _ rfl rfl rfl rfl (room_of (key_zero _ _ _ rfl).there) (key_info' _) ?_
    simp only [Act.put]
    have zJ := K.size
    replace K := K.fresh .u8 32 ((bhash (64 + len) (app (bxx 54 (padz (kl) key)) 64 z))) #[.int .u8 0, .int .u8 0, .int .u8 0, .int .u8 0, .int .u8 0, .int .u8 0, .int .u8 0, .int .u8 0, .int .u8 0, .int .u8 0, .int .u8 0, .int .u8 0, .int .u8 0, .int .u8 0, .int .u8 0, .int .u8 0, .int .u8 0, .int .u8 0, .int .u8 0, .int .u8 0, .int .u8 0, .int .u8 0, .int .u8 0, .int .u8 0, .int .u8 0, .int .u8 0, .int .u8 0, .int .u8 0, .int .u8 0, .int .u8 0, .int .u8 0, .int .u8 0] 25 (key_zero _ _ _ rfl).there
    generalize ((wb.alloc (.cells #[.int .u8 0, .int .u8 0, .int .u8 0, .int .u8 0, .int .u8 0, .int .u8 0, .int .u8 0, .int .u8 0, .int .u8 0, .int .u8 0, .int .u8 0, .int .u8 0, .int .u8 0, .int .u8 0, .int .u8 0, .int .u8 0, .int .u8 0, .int .u8 0, .int .u8 0, .int .u8 0, .int .u8 0, .int .u8 0, .int .u8 0, .int .u8 0, .int .u8 0, .int .u8 0, .int .u8 0, .int .u8 0, .int .u8 0, .int .u8 0, .int .u8 0, .int .u8 0] 25)).setCells wb.heap.size 0 (row .u8 32 ((bhash (64 + len) (app (bxx 54 (padz (kl) key)) 64 z))))) = wc at K ⊢
    generalize wb.heap.size = J at *
    show Exit.then _ _ _ _ _
    go_upto_region 5 with fail
    refine wp_region_C (S := fun w' => Kr w (J + 1) [(J, .u8, 32, (bhash (64 + len) (app (bxx 54 (padz (kl) key)) 64 z)))] [(w.heap.size, 32)] w') 4 (by kernel_rfl) K.drew ?_
    clear K
    intro K
    refine pureC (i := 0) (some 17) rfl (.slice kp kl kc) rfl (by decide) rfl (fun _ => by kernel_rfl) (by kernel_rfl) (by kernel_rfl) (by kernel_rfl) (fun _ _ _ h => h) K ?_
    simp only [Act.put, List.setIfInBounds_toArray, List.set_cons_zero, List.set_cons_succ]
    refine pureC (i := 2) (some 19) rfl (.slice (some ⟨J, 0, none⟩) 32 32) rfl (by decide) rfl (fun w' => cutAll _ _ _ _ rfl rfl (bcutAll_key J w')) (by kernel_rfl) (by kernel_rfl) (by kernel_rfl) (fun _ _ _ h => h) K ?_
    simp only [Act.put, List.setIfInBounds_toArray, List.set_cons_zero, List.set_cons_succ]
    refine callMC (i := 1) (some 18) rfl (by kernel_rfl) rfl rfl (fun _ => by kernel_rfl) (bpad_any kp (kl) kc hl key 92 _ (hk.below K.below (Nat.le_refl _))) ?_
    rintro e wd ⟨g2, rfl, hG, ⟨_, hgl⟩, l⟩
    replace K := K.call l
    clear l
    refine ⟨_, rfl, K, ?_⟩
    simp only [Act.put, List.setIfInBounds_toArray, List.set_cons_zero, List.set_cons_succ]
    refine callMC (i := 3) (some 20) rfl (by kernel_rfl) rfl rfl (fun _ => by kernel_rfl) (bbehind_any (some ⟨g2, 0, none⟩) 64 64 (.inr rfl) (Nat.le_refl _) (bxx 92 (padz (kl) key)) hp92 (some ⟨J, 0, none⟩) 32 32 (by decide) (Nat.le_refl _) (bhash (64 + len) (app (bxx 54 (padz (kl) key)) 64 z)) (bhash_in _ _ 32) _ (hg.below K.below hg.size) hG.src0 (K.get _ _ _ _ List.mem_cons_self).src0) ?_
    rintro e we ⟨rfl, l⟩
    replace K := K.call l
    clear l
    refine ⟨_, rfl, K, ?_⟩
    simp only [Act.put, List.setIfInBounds_toArray, List.set_cons_zero, List.set_cons_succ]
    rw [HE.out]
    have hz' := (K.room _ List.mem_cons_self).1
    refine storesC (S2 := fun _ => True) none rfl .u8 32 (bmac kl key len z) (w.heap.size) 25 _ _ (by kernel_rfl) rfl rfl rfl rfl rfl (room_of hz') (key_info' _) (by kernel_rfl) ?_
    simp only [Act.put]
    refine wpAnyH_done (by kernel_rfl) ?_ _
    have hB := (K.fill _ _ List.mem_cons_self (row .u8 32 (bmac kl key len z))).below
    clear K HE hG hgl
    generalize hGe : bmac kl key len z = G at *
    go_wp2
    exact bodyPost_ret (v := (.agg (row .u8 32 (G)).toArray)) (results_row Tryd.results20 rfl (Has.all hz' .u8 G).range Tryd.underlying25 rfl (key_info G)) rfl ⟨by first | rfl | rw [hGe] | (rw [← hGe]; done), hB⟩
  · have g1 : (64 : Int) < (kl : Int) := by omega
    go_upto_region 2 with fail
    refine wp_region_list ?_
    refine pureL (.slice kp kl kc) rfl (fun _ => by kernel_rfl) ?_
    simp only [Act.put, List.setIfInBounds_toArray, List.set_cons_zero, List.set_cons_succ]
    refine callL rfl (fun _ => by kernel_rfl) (bhash_any kp kl kc hkl hkc (fun e => by have h0 := hk.none e; omega) key hkk _ (hg.below K.below hg.size) (hk.below K.below (Nat.le_refl _))) ?_
    rintro e w1 ⟨rfl, l⟩
    replace K := K.call l
    clear l
    refine ⟨_, rfl, ?_⟩
    simp only [Act.put, List.setIfInBounds_toArray, List.set_cons_zero, List.set_cons_succ]
    refine allocL #[.int .u8 0, .int .u8 0, .int .u8 0, .int .u8 0, .int .u8 0, .int .u8 0, .int .u8 0, .int .u8 0, .int .u8 0, .int .u8 0, .int .u8 0, .int .u8 0, .int .u8 0, .int .u8 0, .int .u8 0, .int .u8 0, .int .u8 0, .int .u8 0, .int .u8 0, .int .u8 0, .int .u8 0, .int .u8 0, .int .u8 0, .int .u8 0, .int .u8 0, .int .u8 0, .int .u8 0, .int .u8 0, .int .u8 0, .int .u8 0, .int .u8 0, .int .u8 0] 25 rfl (fun _ => by kernel_rfl) ?_
    simp only [Act.put, List.setIfInBounds_toArray, List.set_cons_zero, List.set_cons_succ]
    refine storesL .u8 32 (bhash kl key) w1.heap.size 25 _ _ rfl rfl rfl rfl (room_of (key_zero _ _ _ rfl).there) (key_info' _) ?_
    simp only [Act.put]
    have zX := K.size
    replace K := K.fresh .u8 32 (bhash kl key) #[.int .u8 0, .int .u8 0, .int .u8 0, .int .u8 0, .int .u8 0, .int .u8 0, .int .u8 0, .int .u8 0, .int .u8 0, .int .u8 0, .int .u8 0, .int .u8 0, .int .u8 0, .int .u8 0, .int .u8 0, .int .u8 0, .int .u8 0, .int .u8 0, .int .u8 0, .int .u8 0, .int .u8 0, .int .u8 0, .int .u8 0, .int .u8 0, .int .u8 0, .int .u8 0, .int .u8 0, .int .u8 0, .int .u8 0, .int .u8 0, .int .u8 0, .int .u8 0] 25 (key_zero _ _ _ rfl).there
    generalize ((w1.alloc (.cells #[.int .u8 0, .int .u8 0, .int .u8 0, .int .u8 0, .int .u8 0, .int .u8 0, .int .u8 0, .int .u8 0, .int .u8 0, .int .u8 0, .int .u8 0, .int .u8 0, .int .u8 0, .int .u8 0, .int .u8 0, .int .u8 0, .int .u8 0, .int .u8 0, .int .u8 0, .int .u8 0, .int .u8 0, .int .u8 0, .int .u8 0, .int .u8 0, .int .u8 0, .int .u8 0, .int .u8 0, .int .u8 0, .int .u8 0, .int .u8 0, .int .u8 0, .int .u8 0] 25)).setCells w1.heap.size 0 (row .u8 32 (bhash kl key))) = w2 at K ⊢
    generalize w1.heap.size = X at *
    show Exit.then _ _ _ _ _
    go_upto_region 3 with fail
    refine wp_region_list ?_
    refine pureL (.slice (some ⟨X, 0, none⟩) 32 32) rfl (fun w' => cutAll _ _ _ _ rfl rfl (bcutAll_key X w')) ?_
    simp only [Act.put, List.setIfInBounds_toArray, List.set_cons_zero, List.set_cons_succ]
    refine pureL (.slice (some ⟨X, 0, none⟩) 32 32) rfl (fun _ => by kernel_rfl) ?_
    simp only [Act.put, List.setIfInBounds_toArray, List.set_cons_zero]
    show Exit.then _ _ _ _ _
    have HE := show Hid _ from (show (bhash (64 + 32) (app (bxx 92 (padz (32) (bhash kl key))) 64 (bhash (64 + len) (app (bxx 54 (padz (32) (bhash kl key))) 64 z)))) = bmac kl key len z from by unfold bmac; rw [bkk_long kl key hl])
    have hp54 := bxx_in 54 (by decide) (padz (32) (bhash kl key)) 64 (padz_in (32) (bhash kl key) (bhash_in kl key 32) 64)
    have hp92 := bxx_in 92 (by decide) (padz (32) (bhash kl key)) 64 (padz_in (32) (bhash kl key) (bhash_in kl key 32) 64)
    go_upto_region 4 with fail
    refine wp_region_list ?_
    refine pureL (.slice (some ⟨X, 0, none⟩) 32 32) rfl (fun _ => by kernel_rfl) ?_
    simp only [Act.put, List.setIfInBounds_toArray, List.set_cons_zero, List.set_cons_succ]
    refine callL rfl (fun _ => by kernel_rfl) (bpad_any (some ⟨X, 0, none⟩) (32) 32 (by decide) (bhash kl key) 54 _ (K.get _ _ _ _ List.mem_cons_self).src0) ?_
    rintro e wa ⟨g, rfl, hG, ⟨_, hgl⟩, l⟩
    replace K := K.call l
    clear l
    refine ⟨_, rfl, ?_⟩
    simp only [Act.put, List.setIfInBounds_toArray, List.set_cons_zero, List.set_cons_succ]
    refine pureL (.slice sp len cap) rfl (fun _ => by kernel_rfl) ?_
    simp only [Act.put, List.setIfInBounds_toArray, List.set_cons_zero, List.set_cons_succ]
    refine callL rfl (fun _ => by kernel_rfl) (bbehind_any (some ⟨g, 0, none⟩) 64 64 (.inr rfl) (Nat.le_refl _) (bxx 54 (padz (32) (bhash kl key))) hp54 sp len cap (by omega) hcap z hz _ (hg.below K.below hg.size) hG.src0 (hs.below K.below (Nat.le_refl _))) ?_
    rintro e wb ⟨rfl, l⟩
    replace K := K.call l
    clear l
    refine ⟨_, rfl, ?_⟩
    simp only [Act.put, List.setIfInBounds_toArray, List.set_cons_zero, List.set_cons_succ]
    clear hG hgl
    refine allocL #[.int .u8 0, .int .u8 0, .int .u8 0, .int .u8 0, .int .u8 0, .int .u8 0, .int .u8 0, .int .u8 0, .int .u8 0, .int .u8 0, .int .u8 0, .int .u8 0, .int .u8 0, .int .u8 0, .int .u8 0, .int .u8 0, .int .u8 0, .int .u8 0, .int .u8 0, .int .u8 0, .int .u8 0, .int .u8 0, .int .u8 0, .int .u8 0, .int .u8 0, .int .u8 0, .int .u8 0, .int .u8 0, .int .u8 0, .int .u8 0, .int .u8 0, .int .u8 0] 25 rfl (fun _ => by kernel_rfl) ?_
    simp only [Act.put, List.setIfInBounds_toArray, List.set_cons_zero, List.set_cons_succ]
    refine storesL .u8 32 ((bhash (64 + len) (app (bxx 54 (padz (32) (bhash kl key))) 64 z))) wb.heap.size 25 _ _ rfl rfl rfl rfl (room_of (key_zero _ _ _ rfl).there) (key_info' _) ?_
    simp only [Act.put]
    have zJ := K.size
    replace K := K.fresh .u8 32 ((bhash (64 + len) (app (bxx 54 (padz (32) (bhash kl key))) 64 z))) #[.int .u8 0, .int .u8 0, .int .u8 0, .int .u8 0, .int .u8 0, .int .u8 0, .int .u8 0, .int .u8 0, .int .u8 0, .int .u8 0, .int .u8 0, .int .u8 0, .int .u8 0, .int .u8 0, .int .u8 0, .int .u8 0, .int .u8 0, .int .u8 0, .int .u8 0, .int .u8 0, .int .u8 0, .int .u8 0, .int .u8 0, .int .u8 0, .int .u8 0, .int .u8 0, .int .u8 0, .int .u8 0, .int .u8 0, .int .u8 0, .int .u8 0, .int .u8 0] 25 (key_zero _ _ _ rfl).there
    generalize ((wb.alloc (.cells #[.int .u8 0, .int .u8 0, .int .u8 0, .int .u8 0, .int .u8 0, .int .u8 0, .int .u8 0, .int .u8 0, .int .u8 0, .int .u8 0, .int .u8 0, .int .u8 0, .int .u8 0, .int .u8 0, .int .u8 0, .int .u8 0, .int .u8 0, .int .u8 0, .int .u8 0, .int .u8 0, .int .u8 0, .int .u8 0, .int .u8 0, .int .u8 0, .int .u8 0, .int .u8 0, .int .u8 0, .int .u8 0, .int .u8 0, .int .u8 0, .int .u8 0, .int .u8 0] 25)).setCells wb.heap.size 0 (row .u8 32 ((bhash (64 + len) (app (bxx 54 (padz (32) (bhash kl key))) 64 z))))) = wc at K ⊢
    generalize wb.heap.size = J at *
    show Exit.then _ _ _ _ _
    go_upto_region 5 with fail
    refine wp_region_C (S := fun w' => Kr w (J + 1) [(J, .u8, 32, (bhash (64 + len) (app (bxx 54 (padz (32) (bhash kl key))) 64 z))), (X, .u8, 32, bhash kl key)] [(w.heap.size, 32)] w') 4 (by kernel_rfl) K.drew ?_
    clear K
    intro K
    refine pureC (i := 0) (some 17) rfl (.slice (some ⟨X, 0, none⟩) 32 32) rfl (by decide) rfl (fun _ => by kernel_rfl) (by kernel_rfl) (by kernel_rfl) (by kernel_rfl) (fun _ _ _ h => h) K ?_
    simp only [Act.put, List.setIfInBounds_toArray, List.set_cons_zero, List.set_cons_succ]
    refine pureC (i := 2) (some 19) rfl (.slice (some ⟨J, 0, none⟩) 32 32) rfl (by decide) rfl (fun w' => cutAll _ _ _ _ rfl rfl (bcutAll_key J w')) (by kernel_rfl) (by kernel_rfl) (by kernel_rfl) (fun _ _ _ h => h) K ?_
    simp only [Act.put, List.setIfInBounds_toArray, List.set_cons_zero, List.set_cons_succ]
    refine callMC (i := 1) (some 18) rfl (by kernel_rfl) rfl rfl (fun _ => by kernel_rfl) (bpad_any (some ⟨X, 0, none⟩) (32) 32 (by decide) (bhash kl key) 92 _ (K.get _ _ _ _ (List.mem_cons_of_mem _ List.mem_cons_self)).src0) ?_
    rintro e wd ⟨g2, rfl, hG, ⟨_, hgl⟩, l⟩
    replace K := K.call l
    clear l
    refine ⟨_, rfl, K, ?_⟩
    simp only [Act.put, List.setIfInBounds_toArray, List.set_cons_zero, List.set_cons_succ]
    refine callMC (i := 3) (some 20) rfl (by kernel_rfl) rfl rfl (fun _ => by kernel_rfl) (bbehind_any (some ⟨g2, 0, none⟩) 64 64 (.inr rfl) (Nat.le_refl _) (bxx 92 (padz (32) (bhash kl key))) hp92 (some ⟨J, 0, none⟩) 32 32 (by decide) (Nat.le_refl _) (bhash (64 + len) (app (bxx 54 (padz (32) (bhash kl key))) 64 z)) (bhash_in _ _ 32) _ (hg.below K.below hg.size) hG.src0 (K.get _ _ _ _ List.mem_cons_self).src0) ?_
    rintro e we ⟨rfl, l⟩
    replace K := K.call l
    clear l
    refine ⟨_, rfl, K, ?_⟩
    simp only [Act.put, List.setIfInBounds_toArray, List.set_cons_zero, List.set_cons_succ]
    rw [HE.out]
    have hz' := (K.room _ List.mem_cons_self).1
    refine storesC (S2 := fun _ => True) none rfl .u8 32 (bmac kl key len z) (w.heap.size) 25 _ _ (by kernel_rfl) rfl rfl rfl rfl rfl (room_of hz') (key_info' _) (by kernel_rfl) ?_
    simp only [Act.put]
    refine wpAnyH_done (by kernel_rfl) ?_ _
    have hB := (K.fill _ _ List.mem_cons_self (row .u8 32 (bmac kl key len z))).below
    clear K HE hG hgl
    generalize hGe : bmac kl key len z = G at *
    go_wp2
    exact bodyPost_ret (v := (.agg (row .u8 32 (G)).toArray)) (results_row Tryd.results20 rfl (Has.all hz' .u8 G).range Tryd.underlying25 rfl (key_info G)) rfl ⟨by first | rfl | rw [hGe] | (rw [← hGe]; done), hB⟩
end Go.Proofs.YtcdbkbcfjdpdoaaDoor
