/- Texts of Bu Vl Bv Pz, joined. -/
import Derived.Test.YtckohmdmjhaknaaDoorP1KeysEnd
import Derived.Test.YtckohmdmjhaknaaDoorP3KeysEnd
import Derived.Laws.Bits128
import Derived.Test.YtckohmdmjhaknaaDoorP2KeysEnd
set_option maxRecDepth 20000
set_option maxHeartbeats 64000000
namespace Go.Proofs.YtckohmdmjhaknaaDoor
open Go.RowKit
theorem b32_shift (x : Int) (e : Nat) (he : e < 4) : IntKind.u8.wrap (x / 2 ^ (8 * e)) = b32 x e := by
  rw [IntKind.wrap_u8']
  match e, he with
  | 0, _ => show x / 1 % 256 = x % 256; rw [Int.ediv_one]
  | 1, _ => rfl
  | 2, _ => rfl
  | 3, _ => rfl
theorem appendOp2 {P : Program} {o : Oper} {a : Act} {w w' : World} (s x : Operand) (t u : TypeId) (v y r : Value) (ho : o.op = .call { callee := .builtin .append, args := #[s, x], argTypes := #[t, u] }) (hs : a.eval s = v) (hx : a.eval x = y) (hr : (Builtin.append_ #[t, u] o.type #[v, y]).run P w = .ok r w') :
    (execOp a.eval o).run P w = .ok (.value r) w' := by
  unfold execOp
  simp only [ho, resolve, invoke, builtin, Sem.run_bind, Sem.run_pure, Result.andThen_ok, List.map_toArray, List.map_cons, List.map_nil, hs, hx, hr]
theorem wrapQ (n : Int) (h0 : 0 ≤ n) (h : n < 18446744073709551616) : IntKind.u64.wrap n = n := by
  simp [IntKind.wrap, IntKind.bits, IntKind.signed]
  omega
theorem btx_pad (kl : Nat) (key : Nat → Int) (len : Nat) (z : Nat → Int) (j : Nat) (h : btl kl len ≤ j) : btx kl key len z j = 0 := by
  unfold btl at h
  unfold btx
  by_cases e : kl = 0
  · rw [if_pos e] at h ⊢
    rw [if_neg (by omega)]
  · rw [if_neg e] at h ⊢
    rw [if_neg (by omega), if_neg (by omega)]
theorem shr_min (x : Int) (e : Nat) (he : e < 4) : x / 2 ^ min (((8 * e : Nat) : Int)).toNat IntKind.u32.bits = x / 2 ^ (8 * e) := by
  rw [Int.toNat_natCast, Nat.min_eq_left (by show 8 * e ≤ 32; omega)]
theorem refSum_good (kp : Option Addr) (kl kc : Nat) (key : Nat → Int) (hkl : kl ≤ 32) (hkk : In 256 kl key) (hkn : kp = none → kc = 0) (size : Nat) (hs1 : 1 ≤ size) (hs2 : size ≤ 32) (sp : Option Addr) (len cap : Nat) (hlen : len ≤ 140737488355072) (hn0 : sp = none → cap = 0) (z : Nat → Int) (hz : In 256 len z) (w : World) (hks : Src w kp kl key) (hs : Src w sp len z) :
    Calls Tryd.prog 40 #[.slice kp kl kc, .int .i64 (size : Int), .slice sp len cap] w fun e w' => ∃ sp' cap', e = .returned (.tuple #[.slice sp' size cap', .int .i64 0]) ∧ (size ≤ cap' ∧ Src w' sp' size (bsum kl key size len z)) ∧ Below w.heap.size w w' := by
  have h1 : ¬ (size : Int) < 1 := by omega
  have h1' : ¬ (size : Int) ≤ 0 := by omega
  have h2 : ¬ 32 < (size : Int) := by omega
  have h2' : ¬ 33 ≤ (size : Int) := by omega
  have h3 : ¬ (32 : Int) < (kl : Int) := by omega
  have h3' : ¬ (33 : Int) ≤ (kl : Int) := by omega
  have K := Kr.init w
  go_enter Tryd.func40, Tryd.ntmps40
  go_upto_region 3 with fail
  refine wp_region_list ?_
  refine callL rfl (fun _ => by kernel_rfl) (refStart_any _) ?_
  rintro e w1 ⟨S, rfl, ⟨hS1, hS2, HS⟩, l⟩
  replace K := (K.call l).own hS1 hS2 HS
  clear l HS
  refine ⟨_, rfl, ?_⟩
  simp only [aP, lI, l0, lS]
  refine pureL (.slice (some ⟨S, 0, none⟩) 8 8) rfl (fun _ => by kernel_rfl) ?_
  simp only [aP, lI, l0, lS]
  show Exit.then _ _ _ _ _
  go_upto_region 4 with fail
  refine wp_region_list ?_
  refine pureL (.slice (some ⟨S, 0, none⟩) 8 8) rfl (fun _ => by kernel_rfl) ?_
  simp only [aP, lI, l0, lS]
  refine pureL (.slice (some ⟨S, 0, none⟩) 8 8) rfl (fun _ => by kernel_rfl) ?_
  simp only [aP, lI, l0, lS]
  refine pureL (.pointer (some ⟨S, 0, none⟩)) rfl (fun w' => idxW S 8 8 0 (by decide) w' _ _ rfl rfl rfl) ?_
  simp only [aP, lI, l0, lS]
  refine cellL .u32 (.int .u32 (iv 0)) S 0 60 _ rfl rfl rfl Tryd.underlying60 ((K.get _ _ _ _ mS).cell 0 (by decide)) ?_
  simp only [aP, lI, l0, lS]
  refine pureL (.int .u32 (hxr (iv 0) 16842752)) rfl (fun w => xorI .u32 _ _ _ _ _ _ _ rfl rfl rfl rfl w) ?_
  simp only [aP, lI, l0, lS]
  refine pureL (.slice kp kl kc) rfl (fun _ => by kernel_rfl) ?_
  simp only [aP, lI, l0, lS]
  refine pureL (.int .i64 (kl : Int)) rfl (fun w => lenS _ 51 5 kp kl kc rfl Tryd.underlying51 rfl w) ?_
  simp only [aP, lI, l0, lS]
  refine pureL (.int .i64 (256 * (kl : Int))) rfl (fun w => mulI .i64 _ _ _ _ _ _ _ rfl rfl rfl (by rw [IntKind.wrap_i64]; omega) w) ?_
  simp only [aP, lI, l0, lS]
  refine pureL (.int .u32 (256 * (kl : Int))) rfl (fun w => convI .i64 .u32 _ _ _ _ _ rfl (by kernel_rfl) Tryd.underlying60 (by kernel_rfl) rfl (by rw [IntKind.wrap_u32']; omega) w) ?_
  simp only [aP, lI, l0, lS]
  refine pureL (.int .u32 (hxr (hxr (iv 0) 16842752) (256 * (kl : Int)))) rfl (fun w => xorI .u32 _ _ _ _ _ _ _ rfl rfl rfl rfl w) ?_
  simp only [aP, lI, l0, lS]
  refine pureL (.int .i64 (size : Int)) rfl (fun _ => by kernel_rfl) ?_
  simp only [aP, lI, l0, lS]
  refine pureL (.int .u32 (size : Int)) rfl (fun w => convI .i64 .u32 _ _ _ _ _ rfl (by kernel_rfl) Tryd.underlying60 (by kernel_rfl) rfl (by rw [IntKind.wrap_u32']; omega) w) ?_
  simp only [aP, lI, l0, lS]
  refine pureL (.int .u32 (hxr (hxr (hxr (iv 0) 16842752) (256 * (kl : Int))) (size : Int))) rfl (fun w => xorI .u32 _ _ _ _ _ _ _ rfl rfl rfl rfl w) ?_
  simp only [aP, lI, l0, lS]
  refine pureL (.pointer (some ⟨S, 0, none⟩)) rfl (fun w' => idxW S 8 8 0 (by decide) w' _ _ rfl rfl rfl) ?_
  simp only [aP, lI, l0, lS]
  refine storeL .u32 (hxr (hxr (hxr (iv 0) 16842752) (256 * (kl : Int))) (size : Int)) S 0 60 _ _ rfl rfl rfl rfl (by rw [(K.get _ _ _ _ mS).cell 0 (by decide)]; rfl) ((K.get _ _ _ _ mS).free 0 (by decide)) (by kernel_rfl) ?_
  simp only [Act.put]
  replace K : Kr w w1.heap.size [(S, .u32, 8, bh0 kl size)] [] (w1.setCell ⟨S, 0, none⟩ (.int .u32 (hxr (hxr (hxr (iv 0) 16842752) (256 * (kl : Int))) (size : Int)))) := K.setCell [] S .u32 8 iv 0 (by decide) (hxr (hxr (hxr (iv 0) 16842752) (256 * (kl : Int))) (size : Int)) mS (fun _ hp => by cases hp) (fun _ hp => by cases hp) hS1
  generalize w1.setCell ⟨S, 0, none⟩ (.int .u32 (hxr (hxr (hxr (iv 0) 16842752) (256 * (kl : Int))) (size : Int))) = w2 at K ⊢
  show Exit.then _ _ _ _ _
  go_upto_region 5 with fail
  refine wp_region_list ?_
  refine actL (w' := w2.alloc (.cells #[] 5)) (.slice (some ⟨w2.heap.size, 0, none⟩) 0 0) rfl (by kernel_rfl) ?_
  simp only [aP, lI, l0, lS]
  refine pureL (.slice (some ⟨w2.heap.size, 0, none⟩) 0 0) rfl (fun _ => by kernel_rfl) ?_
  simp only [aP, lI, l0, lS]
  have HT : Own (w2.alloc (.cells #[] 5)) w1.heap.size 5 .u8 0 (btx kl key len z) (.slice (some ⟨w2.heap.size, 0, none⟩) 0 0) := Own.lit w2 w1.heap.size 5 .u8 0 (btx kl key len z) K.size (by unfold maxLen; omega)
  replace K := K.call ((Below.refl w2.heap.size w2).alloc (Nat.le_refl _) (.cells #[] 5))
  generalize w2.alloc (.cells #[] 5) = w3 at K HT ⊢
  generalize Value.slice (some ⟨w2.heap.size, 0, none⟩) 0 0 = tv at HT ⊢
  generalize w1.heap.size = B at K HT hS2
  show Exit.then _ _ _ _ _
  by_cases hk0 : kl = 0
  · obtain rfl : kl = 0 := hk0
    have hk0 : (0 : Nat) = 0 := rfl
    by_cases hl0 : len = 0
    · obtain rfl : len = 0 := hl0
      obtain ⟨ts, tc, rfl, _, _⟩ := HT.bytes
      go_upto_region 8 with fail
      refine wp_region_list ?_
      refine pureL (.slice ts 0 tc) rfl (fun _ => by kernel_rfl) ?_
      simp only [aP, lI, l0, lS]
      refine pureL (.slice sp 0 cap) rfl (fun _ => by kernel_rfl) ?_
      simp only [aP, lI, l0, lS]
      obtain ⟨v, w4, hr, ho, hg, _⟩ := run_append_Own (P := Tryd.prog) (ty := 51) Tryd.underlying51 one8 HT sp 0 cap z (hs.below K.below (Nat.le_refl _)) hn0 (by unfold maxLen; omega) (by omega) K.size
      replace K := K.grown hg (fun b hb => (World.ownsRow.lt HT b hb).1)
      refine actL v rfl (appendOp _ _ 51 _ _ _ rfl rfl rfl hr) ?_
      simp only [aP, lI, l0, lS]
      refine pureL v rfl (fun _ => by kernel_rfl) ?_
      simp only [aP, lI, l0, lS]
      replace HT : Own w4 B 5 .u8 (btl 0 0) (btx 0 key 0 z) v := by
        have e : 0 + 0 = btl 0 0 := by unfold btl; rw [if_pos hk0]
        rw [← e]
        exact ho.congr fun j hj => absurd hj (Nat.not_lt_zero j)
      clear hr ho hg
      obtain ⟨ts, tc, rfl, _, _⟩ := HT.bytes
      show Exit.then _ _ _ _ _
      go_upto_region 9 with fail
      refine wp_region_list ?_
      refine pureL (.slice ts (btl 0 0) tc) rfl (fun _ => by kernel_rfl) ?_
      simp only [aP, lI, l0, lS]
      refine pureL (.int .i64 0) rfl (fun w => lenS _ 51 5 ts (btl 0 0) tc rfl Tryd.underlying51 rfl w) ?_
      simp only [aP, lI, l0, lS]
      refine pureL (.int .i64 0) rfl (fun _ => by kernel_rfl) ?_
      simp only [aP, lI, l0, lS]
      generalize Value.slice ts (btl 0 0) tc = tv at HT ⊢
      show Exit.then _ _ _ _ _
      replace HT : Own w4 B 5 .u8 0 (btx 0 key 0 z) tv := HT
      go_wp2
      go_loopw [9] (fun tw w' => ∃ (n : Nat) (v : Value), v = tw ∧ n < 64 ∧ Own w' B 5 .u8 n (btx 0 key 0 z) v ∧ Kr w B [(S, .u32, 8, bh0 0 size)] [] w') (fun tw _ => 64 - slen tw)
      case atStart => exact ⟨0, _, rfl, by omega, HT, K⟩
      case round =>
        clear K HT
        obtain ⟨n, v, rfl, hn1, HT, K⟩ := hrel
        obtain ⟨ts, tc, rfl, _, _⟩ := HT.bytes
        have hpz : btl 0 0 ≤ n := Nat.zero_le n
        go_upto_region 11 with fail
        refine wp_region_list ?_
        refine pureL (.slice ts n tc) rfl (fun _ => by kernel_rfl) ?_
        simp only [aP, lI, l0, lS]
        refine actL (w' := wr.alloc (.cells #[.int .u8 0] 5)) (.slice (some ⟨wr.heap.size, 0, none⟩) 1 1) rfl (by kernel_rfl) ?_
        simp only [aP, lI, l0, lS]
        obtain ⟨v, w5, hr, ho, hg⟩ := HT.more8 (by omega) 0 (btx_pad 0 key 0 z n hpz) 51 K.size
        replace K := (K.call ((Below.refl wr.heap.size wr).alloc (Nat.le_refl _) (.cells #[.int .u8 0] 5))).grown hg (fun b hb => (World.ownsRow.lt HT b hb).1)
        refine actL v rfl (appendOp _ _ 51 _ _ _ rfl rfl rfl hr) ?_
        simp only [aP, lI, l0, lS]
        refine pureL v rfl (fun _ => by kernel_rfl) ?_
        simp only [aP, lI, l0, lS]
        show Exit.then _ _ _ _ _
        obtain ⟨ts2, tc2, rfl, _, _⟩ := ho.bytes
        replace HT := ho
        clear hr ho hg hpz
        by_cases hm : n + 1 = 64
        · obtain rfl : n = 63 := by omega
          clear hm hn1
          replace HT : Own w5 B 5 .u8 64 (btx 0 key 0 z) (.slice ts2 64 tc2) := HT
          obtain ⟨_, _, hve, htcap, hsrc⟩ := HT.bytes
          injection hve with hve1 _ hve3
          subst hve1 hve3
          have hN1 : 64 ≤ 64 * bnb 0 0 := by decide
          have hN2 : 64 * bnb 0 0 ≤ 64 := by decide
          have hbt2 : btl 0 0 ≤ 0 := by decide
          have hA := K.get _ _ _ _ mS
          have hAl := Nat.lt_of_lt_of_le (K.rows _ mS).2 K.size
          have hB := K.below
          clear K HT
          go_wp2
          go_loopw [8, 11] (fun hw i w' => ∃ (p A capA : Nat), p ≤ bnb 0 0 ∧ i = .int .i64 (64 * (p : Int)) ∧ hw = .slice (some ⟨A, 0, none⟩) 8 capA ∧ Has w' A .u32 8 (bH 0 key size 0 z p) ∧ A < w'.heap.size ∧ Src w' ts2 64 (btx 0 key 0 z) ∧ Below w.heap.size w w') (fun _ i _ => 64 - (intOf i).toNat)
          case atStart => exact ⟨0, S, 8, by omega, rfl, rfl, hA, hAl, hsrc, hB⟩
          case round =>
            clear hA hAl hsrc hB
            obtain ⟨p, A, capA, hp, rfl, rfl, hA, hAl, hsrc, hB⟩ := hrel
            have g1 : (0 : Int) ≤ 64 * (p : Int) := by omega
            by_cases hlt : p < bnb 0 0
            · have g2 : 64 * (p : Int) < 64 := by omega
              obtain ⟨D, hD⟩ : ∃ D : Nat, D = min (64 * p + 64) (btl 0 0) := ⟨_, rfl⟩
              have hm : (if (0 : Int) < 64 * (p : Int) + 64 then (0 : Int) else 64 * (p : Int) + 64) = (D : Int) := by rw [hD]; split <;> omega
              obtain ⟨sq, hq1, hq2⟩ := cut_lh (P := Tryd.prog) (t := 51) (by kernel_rfl) (fun _ => by kernel_rfl) ts2 64 tc2 (64 * p) (64 * p + 64) (by omega) (by omega) htcap
              have hpc : 64 * p + 64 - 64 * p = 64 := by omega
              rw [hpc] at hq1 hq2
              have ec : ((64 * p : Nat) : Int) = 64 * (p : Int) := by omega
              have ec2 : ((64 * p + 64 : Nat) : Int) = 64 * (p : Int) + 64 := by omega
              rw [ec, ec2] at hq1
              have hla : (64 * (p : Int) + 64 == 64) = decide (p + 1 = bnb 0 0) := by
                by_cases e : p + 1 = bnb 0 0
                · rw [decide_eq_true e]; simp; omega
                · rw [decide_eq_false e]; simp; omega
              go_upto_region 16 with fail
              refine wp_region_list ?_
              refine pureL (.int .i64 (64 * (p : Int))) rfl (fun _ => by kernel_rfl) ?_
              simp only [aP, lI, l0, lS]
              refine pureL (.int .i64 (64 * (p : Int) + 64)) rfl (fun w => addI .i64 _ _ _ _ _ _ _ rfl rfl rfl (by rw [IntKind.wrap_i64]; omega) w) ?_
              simp only [aP, lI, l0, lS]
              refine pureL (.int .i64 0) rfl (fun _ => by kernel_rfl) ?_
              simp only [aP, lI, l0, lS]
              refine pureL (.int .i64 (D : Int)) rfl (fun w => minI .i64 .i64 _ _ _ _ _ _ _ rfl rfl rfl hm w) ?_
              simp only [aP, lI, l0, lS]
              refine pureL (.int .i64 (D : Int)) rfl (fun _ => by kernel_rfl) ?_
              simp only [aP, lI, l0, lS]
              show Exit.then _ _ _ _ _
              go_upto_region 17 with fail
              refine wp_region_list ?_
              refine pureL (.slice (some ⟨A, 0, none⟩) 8 capA) rfl (fun _ => by kernel_rfl) ?_
              simp only [aP, lI, l0, lS]
              refine pureL (.slice ts2 64 tc2) rfl (fun _ => by kernel_rfl) ?_
              simp only [aP, lI, l0, lS]
              refine pureL (.int .i64 (64 * (p : Int))) rfl (fun _ => by kernel_rfl) ?_
              simp only [aP, lI, l0, lS]
              refine pureL (.int .i64 (64 * (p : Int))) rfl (fun _ => by kernel_rfl) ?_
              simp only [aP, lI, l0, lS]
              refine pureL (.int .i64 (64 * (p : Int) + 64)) rfl (fun w => addI .i64 _ _ _ _ _ _ _ rfl rfl rfl (by rw [IntKind.wrap_i64]; omega) w) ?_
              simp only [aP, lI, l0, lS]
              refine pureL (.slice sq 64 (tc2 - 64 * p)) rfl (fun w => cutLHop _ _ _ _ _ _ _ _ rfl rfl rfl rfl (hq1 w)) ?_
              simp only [aP, lI, l0, lS]
              refine pureL (.int .i64 (D : Int)) rfl (fun _ => by kernel_rfl) ?_
              simp only [aP, lI, l0, lS]
              refine pureL (.int .u64 (D : Int)) rfl (fun w => convI .i64 .u64 _ _ _ _ _ rfl (by kernel_rfl) Tryd.underlying68 (by kernel_rfl) rfl (wrapQ _ (by omega) (by omega)) w) ?_
              simp only [aP, lI, l0, lS]
              refine pureL (.int .i64 (64 * (p : Int))) rfl (fun _ => by kernel_rfl) ?_
              simp only [aP, lI, l0, lS]
              refine pureL (.int .i64 (64 * (p : Int) + 64)) rfl (fun w => addI .i64 _ _ _ _ _ _ _ rfl rfl rfl (by rw [IntKind.wrap_i64]; omega) w) ?_
              simp only [aP, lI, l0, lS]
              refine pureL (.slice ts2 64 tc2) rfl (fun _ => by kernel_rfl) ?_
              simp only [aP, lI, l0, lS]
              refine pureL (.int .i64 64) rfl (fun w => lenS _ 51 5 ts2 64 tc2 rfl Tryd.underlying51 rfl w) ?_
              simp only [aP, lI, l0, lS]
              refine pureL (.bool (decide (p + 1 = bnb 0 0))) rfl (fun w => eqlI .i64 _ _ _ _ _ _ rfl rfl rfl _ hla w) ?_
              simp only [aP, lI, l0, lS]
              refine callL rfl (fun _ => by kernel_rfl) (refPress_any (bH 0 key size 0 z p) (bH_in 0 key size 0 z hkl hs2 p) A capA sq (tc2 - 64 * p) (fun j => (btx 0 key 0 z) (64 * p + j)) (fun j _ => btx_in 0 key 0 z hkk hz _) (D : Int) (by omega) (decide (p + 1 = bnb 0 0)) _ hA hAl (hq2 _ _ hsrc)) ?_
              rintro e w7 ⟨O, cap2, rfl, ⟨hO1, hO2, HO⟩, l⟩
              replace hsrc := hsrc.below l (Nat.le_refl _)
              replace hB := hB.trans (l.mono hB.size)
              refine ⟨_, rfl, ?_⟩
              simp only [aP, lI, l0, lS]
              refine pureL (.slice (some ⟨O, 0, none⟩) 8 cap2) rfl (fun _ => by kernel_rfl) ?_
              simp only [aP, lI, l0, lS]
              show Exit.inBlock _ _ _ _ _
              rw [hD] at HO
              have HS := show Hid _ from (And.intro (show Has w7 O .u32 8 (bH 0 key size 0 z (p + 1)) from HO) (And.intro hO2 (And.intro hsrc hB)))
              clear HO hsrc hB hA hAl hm hq1 hq2 hpc ec ec2 hla hD l
              go_wp2
              go_roundw
              case rel => first | exact ⟨p + 1, O, cap2, by omega, by go_num, rfl, HS.out⟩ | ((repeat apply Exists.intro); refine ⟨⟨p + 1, O, cap2, by omega, by go_num, rfl, HS.out⟩, rfl⟩)
              case measure => simp [intOf]; omega
            · obtain rfl : p = bnb 0 0 := by omega
              have K : Kr w wr.heap.size [(A, .u32, 8, bH 0 key size 0 z (bnb 0 0))] [] wr := ⟨fun p hp => by obtain rfl := List.mem_singleton.1 hp; exact ⟨hA, hAl⟩, fun _ h => (by cases h), fun _ _ _ h => (by cases h), Nat.le_refl _, hB.size, hB⟩
              have hbs : ∀ n, b32 (bH 0 key size 0 z (bnb 0 0) (n / 4)) (n % 4) = bsum 0 key size 0 z n := fun _ => rfl
              clear hA hAl hsrc hB
              generalize bH 0 key size 0 z (bnb 0 0) = F at K hbs
              generalize hG : bsum 0 key size 0 z = G at hbs
              replace hG := show Hid _ from hG
              go_upto_region 18 with fail
              refine wp_region_list ?_
              refine actL (w' := wr.alloc (.cells #[] 5)) (.slice (some ⟨wr.heap.size, 0, none⟩) 0 0) rfl (by kernel_rfl) ?_
              simp only [aP, lI, l0, lS]
              refine pureL (.slice (some ⟨wr.heap.size, 0, none⟩) 0 0) rfl (fun _ => by kernel_rfl) ?_
              simp only [aP, lI, l0, lS]
              have HO : Own (wr.alloc (.cells #[] 5)) wr.heap.size 5 .u8 0 G (.slice (some ⟨wr.heap.size, 0, none⟩) 0 0) := Own.lit wr wr.heap.size 5 .u8 0 G (Nat.le_refl _) (by unfold maxLen; omega)
              replace K := K.call ((Below.refl wr.heap.size wr).alloc (Nat.le_refl _) (.cells #[] 5))
              generalize wr.alloc (.cells #[] 5) = w8 at K HO ⊢
              generalize Value.slice (some ⟨wr.heap.size, 0, none⟩) 0 0 = ov0 at HO ⊢
              generalize wr.heap.size = B2 at K HO
              show Exit.then _ _ _ _ _
              go_wp2
              go_loopw [13, 14] (fun ow i w' => ∃ (n : Nat) (ov : Value), n ≤ size ∧ i = .int .i64 (n : Int) ∧ ov = ow ∧ Own w' B2 5 .u8 n G ov ∧ Kr w B2 [(A, .u32, 8, F)] [] w') (fun _ i _ => size - (intOf i).toNat)
              case atStart => exact ⟨0, _, by omega, rfl, rfl, HO, K⟩
              case round =>
                clear K HO
                obtain ⟨n, ov, hn, rfl, rfl, HO, K⟩ := hrel
                have g3 : (0 : Int) ≤ (n : Int) := by omega
                by_cases hlt2 : n < size
                · have g4 : (n : Int) < (size : Int) := by omega
                  go_upto_region 22 with fail
                  refine wp_region_list ?_
                  refine pureL ov rfl (fun _ => by kernel_rfl) ?_
                  simp only [aP, lI, l0, lS]
                  refine pureL (.slice (some ⟨A, 0, none⟩) 8 capA) rfl (fun _ => by kernel_rfl) ?_
                  simp only [aP, lI, l0, lS]
                  refine pureL (.int .i64 (n : Int)) rfl (fun _ => by kernel_rfl) ?_
                  simp only [aP, lI, l0, lS]
                  refine pureL (.int .i64 ((n / 4 : Nat) : Int)) rfl (fun w => quoI .i64 _ _ _ _ _ _ _ rfl rfl rfl (by decide) (by rw [Int.tdiv_eq_ediv_of_nonneg g3, IntKind.wrap_i64]; omega) w) ?_
                  simp only [aP, lI, l0, lS]
                  refine pureL (.pointer (some ⟨A, n / 4, none⟩)) rfl (fun w' => idxW A 8 capA (n / 4) (by omega) w' _ _ rfl rfl rfl) ?_
                  simp only [aP, lI, l0, lS]
                  refine cellL .u32 (.int .u32 (F (n / 4))) A (n / 4) 60 _ rfl rfl rfl Tryd.underlying60 ((K.get _ _ _ _ mS).cell (n / 4) (by omega)) ?_
                  simp only [aP, lI, l0, lS]
                  refine pureL (.int .i64 (n : Int)) rfl (fun _ => by kernel_rfl) ?_
                  simp only [aP, lI, l0, lS]
                  refine pureL (.int .i64 ((n % 4 : Nat) : Int)) rfl (fun w => remI .i64 _ _ _ _ _ _ _ rfl rfl rfl (by decide) (by rw [Int.tmod_eq_emod_of_nonneg g3]; omega) w) ?_
                  simp only [aP, lI, l0, lS]
                  refine pureL (.int .i64 ((8 * (n % 4) : Nat) : Int)) rfl (fun w => mulI .i64 _ _ _ _ _ _ _ rfl rfl rfl (by rw [IntKind.wrap_i64]; omega) w) ?_
                  simp only [aP, lI, l0, lS]
                  refine pureL (.int .u32 (F (n / 4) / 2 ^ (8 * (n % 4)))) rfl (fun w => shrI .u32 .i64 _ _ _ _ _ _ _ rfl rfl rfl (by omega) (shr_min _ _ (Nat.mod_lt _ (by decide))) w) ?_
                  simp only [aP, lI, l0, lS]
                  refine pureL (.int .u8 (G n)) rfl (fun w => convI .u32 .u8 _ _ _ _ _ rfl (by kernel_rfl) Tryd.underlying5 (by kernel_rfl) rfl ((b32_shift _ _ (Nat.mod_lt _ (by decide))).trans (hbs n)) w) ?_
                  simp only [aP, lI, l0, lS]
                  refine actL (w' := wr.alloc (.cells #[.int .u8 (G n)] 5)) (.slice (some ⟨wr.heap.size, 0, none⟩) 1 1) rfl (by kernel_rfl) ?_
                  simp only [aP, lI, l0, lS]
                  obtain ⟨v, w9, hr, ho, hg⟩ := HO.more8 (by omega) (G n) rfl 51 K.size
                  replace K := (K.call ((Below.refl wr.heap.size wr).alloc (Nat.le_refl _) (.cells #[.int .u8 (G n)] 5))).grown hg (fun b hb => (World.ownsRow.lt HO b hb).1)
                  refine actL v rfl (appendOp _ _ 51 _ _ _ rfl rfl rfl hr) ?_
                  simp only [aP, lI, l0, lS]
                  refine pureL v rfl (fun _ => by kernel_rfl) ?_
                  simp only [aP, lI, l0, lS]
                  show Exit.inBlock _ _ _ _ _
                  have HS := show Hid _ from (And.intro ho K)
                  clear K HO hr ho hg
                  go_wp2
                  go_roundw
                  case rel => first | exact ⟨n + 1, v, by omega, by go_num, rfl, HS.out⟩ | ((repeat apply Exists.intro); refine ⟨⟨n + 1, v, by omega, by go_num, rfl, HS.out⟩, rfl⟩)
                  case measure => simp [intOf]; omega
                · obtain rfl : n = size := by omega
                  obtain ⟨sp2, cap2, rfl, hc2, hsr2⟩ := HO.bytes
                  have hB := K.below
                  clear K HO hlt2 hn g3
                  go_wp2
                  go_ret2
                  exact ⟨sp2, cap2, rfl, ⟨hc2, by rw [hG.out]; exact hsr2⟩, hB⟩
        · have hm1 : ¬ ((n + 1 : Nat) : Int) = 64 := by omega
          have hm2 : ¬ ((n : Int) + 1) = 64 := by omega
          have hm3 : ¬ (n : Int) = 63 := by omega
          have HS := show Hid _ from (And.intro HT K)
          clear HT K
          go_wp2
          go_roundw
          case rel => first | exact ⟨n + 1, _, rfl, by omega, HS.out⟩ | ((repeat apply Exists.intro); refine ⟨⟨n + 1, _, rfl, by omega, HS.out⟩, rfl⟩)
          case measure => simp [slen]; omega
    · obtain ⟨ts, tc, rfl, _, _⟩ := HT.bytes
      go_upto_region 8 with fail
      refine wp_region_list ?_
      refine pureL (.slice ts 0 tc) rfl (fun _ => by kernel_rfl) ?_
      simp only [aP, lI, l0, lS]
      refine pureL (.slice sp len cap) rfl (fun _ => by kernel_rfl) ?_
      simp only [aP, lI, l0, lS]
      obtain ⟨v, w4, hr, ho, hg, _⟩ := run_append_Own (P := Tryd.prog) (ty := 51) Tryd.underlying51 one8 HT sp len cap z (hs.below K.below (Nat.le_refl _)) hn0 (by unfold maxLen; omega) (by omega) K.size
      replace K := K.grown hg (fun b hb => (World.ownsRow.lt HT b hb).1)
      refine actL v rfl (appendOp _ _ 51 _ _ _ rfl rfl rfl hr) ?_
      simp only [aP, lI, l0, lS]
      refine pureL v rfl (fun _ => by kernel_rfl) ?_
      simp only [aP, lI, l0, lS]
      replace HT : Own w4 B 5 .u8 (btl 0 len) (btx 0 key len z) v := by
        have e : 0 + len = btl 0 len := by unfold btl; rw [if_pos hk0]
        rw [← e]
        refine ho.congr fun j hj => ?_
        unfold app btx
        rw [if_neg (by omega), if_pos hk0, if_pos (by omega), Nat.sub_zero]
      clear hr ho hg
      obtain ⟨ts, tc, rfl, _, _⟩ := HT.bytes
      show Exit.then _ _ _ _ _
      go_upto_region 9 with fail
      refine wp_region_list ?_
      refine pureL (.slice ts (btl 0 len) tc) rfl (fun _ => by kernel_rfl) ?_
      simp only [aP, lI, l0, lS]
      refine pureL (.int .i64 ((btl 0 len : Nat) : Int)) rfl (fun w => lenS _ 51 5 ts (btl 0 len) tc rfl Tryd.underlying51 rfl w) ?_
      simp only [aP, lI, l0, lS]
      refine pureL (.int .i64 ((btl 0 len : Nat) : Int)) rfl (fun _ => by kernel_rfl) ?_
      simp only [aP, lI, l0, lS]
      generalize Value.slice ts (btl 0 len) tc = tv at HT ⊢
      show Exit.then _ _ _ _ _
      have hbt : 0 < btl 0 len := by unfold btl; rw [if_pos hk0]; omega
      have hbt2 : btl 0 len ≤ 140737488355072 := by unfold btl; rw [if_pos hk0]; omega
      have hT1 : ¬ ((btl 0 len : Nat) : Int) = 0 := by omega
      have hTb : btl 0 len ≤ 64 * bnb 0 len ∧ 64 * bnb 0 len ≤ btl 0 len + 63 := by unfold bnb; rw [if_neg (by omega)]; omega
      go_wp2
      go_loopw [9] (fun tw w' => ∃ (n : Nat) (v : Value), v = tw ∧ btl 0 len ≤ n ∧ n ≤ 64 * bnb 0 len ∧ Own w' B 5 .u8 n (btx 0 key len z) v ∧ Kr w B [(S, .u32, 8, bh0 0 size)] [] w') (fun tw _ => 64 * bnb 0 len - slen tw)
      case atStart => exact ⟨_, _, rfl, Nat.le_refl _, hTb.1, HT, K⟩
      case round =>
        clear K HT
        obtain ⟨NP, v, rfl, hn1, hn2, HT, K⟩ := hrel
        obtain ⟨ts, tc, rfl, _, _⟩ := HT.bytes
        by_cases hm : NP % 64 = 0
        · have hm1 : ¬ 0 < (NP : Int) % 64 := by omega
          have hm2 : (NP : Int) % 64 = 0 := by omega
          have hm3 : (NP : Int).tmod 64 = 0 := by rw [Int.tmod_eq_emod_of_nonneg (by omega)]; omega
          have hN1 : NP ≤ 64 * bnb 0 len := hn2
          have hN2 : 64 * bnb 0 len ≤ NP := by omega
          obtain ⟨_, _, hve, htcap, hsrc⟩ := HT.bytes
          injection hve with hve1 _ hve3
          subst hve1 hve3
          have hA := K.get _ _ _ _ mS
          have hAl := Nat.lt_of_lt_of_le (K.rows _ mS).2 K.size
          have hB := K.below
          clear K HT
          go_wp2
          go_loopw [8, 11] (fun hw i w' => ∃ (p A capA : Nat), p ≤ bnb 0 len ∧ i = .int .i64 (64 * (p : Int)) ∧ hw = .slice (some ⟨A, 0, none⟩) 8 capA ∧ Has w' A .u32 8 (bH 0 key size len z p) ∧ A < w'.heap.size ∧ Src w' ts NP (btx 0 key len z) ∧ Below w.heap.size w w') (fun _ i _ => NP - (intOf i).toNat)
          case atStart => exact ⟨0, S, 8, by omega, rfl, rfl, hA, hAl, hsrc, hB⟩
          case round =>
            clear hA hAl hsrc hB
            obtain ⟨p, A, capA, hp, rfl, rfl, hA, hAl, hsrc, hB⟩ := hrel
            have g1 : (0 : Int) ≤ 64 * (p : Int) := by omega
            by_cases hlt : p < bnb 0 len
            · have g2 : 64 * (p : Int) < (NP : Int) := by omega
              obtain ⟨D, hD⟩ : ∃ D : Nat, D = min (64 * p + 64) (btl 0 len) := ⟨_, rfl⟩
              have hm : (if (((btl 0 len : Nat) : Int) : Int) < 64 * (p : Int) + 64 then (((btl 0 len : Nat) : Int) : Int) else 64 * (p : Int) + 64) = (D : Int) := by rw [hD]; split <;> omega
              obtain ⟨sq, hq1, hq2⟩ := cut_lh (P := Tryd.prog) (t := 51) (by kernel_rfl) (fun _ => by kernel_rfl) ts NP tc (64 * p) (64 * p + 64) (by omega) (by omega) htcap
              have hpc : 64 * p + 64 - 64 * p = 64 := by omega
              rw [hpc] at hq1 hq2
              have ec : ((64 * p : Nat) : Int) = 64 * (p : Int) := by omega
              have ec2 : ((64 * p + 64 : Nat) : Int) = 64 * (p : Int) + 64 := by omega
              rw [ec, ec2] at hq1
              have hla : (64 * (p : Int) + 64 == (NP : Int)) = decide (p + 1 = bnb 0 len) := by
                by_cases e : p + 1 = bnb 0 len
                · rw [decide_eq_true e]; simp; omega
                · rw [decide_eq_false e]; simp; omega
              go_upto_region 16 with fail
              refine wp_region_list ?_
              refine pureL (.int .i64 (64 * (p : Int))) rfl (fun _ => by kernel_rfl) ?_
              simp only [aP, lI, l0, lS]
              refine pureL (.int .i64 (64 * (p : Int) + 64)) rfl (fun w => addI .i64 _ _ _ _ _ _ _ rfl rfl rfl (by rw [IntKind.wrap_i64]; omega) w) ?_
              simp only [aP, lI, l0, lS]
              refine pureL (.int .i64 ((btl 0 len : Nat) : Int)) rfl (fun _ => by kernel_rfl) ?_
              simp only [aP, lI, l0, lS]
              refine pureL (.int .i64 (D : Int)) rfl (fun w => minI .i64 .i64 _ _ _ _ _ _ _ rfl rfl rfl hm w) ?_
              simp only [aP, lI, l0, lS]
              refine pureL (.int .i64 (D : Int)) rfl (fun _ => by kernel_rfl) ?_
              simp only [aP, lI, l0, lS]
              show Exit.then _ _ _ _ _
              go_upto_region 17 with fail
              refine wp_region_list ?_
              refine pureL (.slice (some ⟨A, 0, none⟩) 8 capA) rfl (fun _ => by kernel_rfl) ?_
              simp only [aP, lI, l0, lS]
              refine pureL (.slice ts NP tc) rfl (fun _ => by kernel_rfl) ?_
              simp only [aP, lI, l0, lS]
              refine pureL (.int .i64 (64 * (p : Int))) rfl (fun _ => by kernel_rfl) ?_
              simp only [aP, lI, l0, lS]
              refine pureL (.int .i64 (64 * (p : Int))) rfl (fun _ => by kernel_rfl) ?_
              simp only [aP, lI, l0, lS]
              refine pureL (.int .i64 (64 * (p : Int) + 64)) rfl (fun w => addI .i64 _ _ _ _ _ _ _ rfl rfl rfl (by rw [IntKind.wrap_i64]; omega) w) ?_
              simp only [aP, lI, l0, lS]
              refine pureL (.slice sq 64 (tc - 64 * p)) rfl (fun w => cutLHop _ _ _ _ _ _ _ _ rfl rfl rfl rfl (hq1 w)) ?_
              simp only [aP, lI, l0, lS]
              refine pureL (.int .i64 (D : Int)) rfl (fun _ => by kernel_rfl) ?_
              simp only [aP, lI, l0, lS]
              refine pureL (.int .u64 (D : Int)) rfl (fun w => convI .i64 .u64 _ _ _ _ _ rfl (by kernel_rfl) Tryd.underlying68 (by kernel_rfl) rfl (wrapQ _ (by omega) (by omega)) w) ?_
              simp only [aP, lI, l0, lS]
              refine pureL (.int .i64 (64 * (p : Int))) rfl (fun _ => by kernel_rfl) ?_
              simp only [aP, lI, l0, lS]
              refine pureL (.int .i64 (64 * (p : Int) + 64)) rfl (fun w => addI .i64 _ _ _ _ _ _ _ rfl rfl rfl (by rw [IntKind.wrap_i64]; omega) w) ?_
              simp only [aP, lI, l0, lS]
              refine pureL (.slice ts NP tc) rfl (fun _ => by kernel_rfl) ?_
              simp only [aP, lI, l0, lS]
              refine pureL (.int .i64 (NP : Int)) rfl (fun w => lenS _ 51 5 ts NP tc rfl Tryd.underlying51 rfl w) ?_
              simp only [aP, lI, l0, lS]
              refine pureL (.bool (decide (p + 1 = bnb 0 len))) rfl (fun w => eqlI .i64 _ _ _ _ _ _ rfl rfl rfl _ hla w) ?_
              simp only [aP, lI, l0, lS]
              refine callL rfl (fun _ => by kernel_rfl) (refPress_any (bH 0 key size len z p) (bH_in 0 key size len z hkl hs2 p) A capA sq (tc - 64 * p) (fun j => (btx 0 key len z) (64 * p + j)) (fun j _ => btx_in 0 key len z hkk hz _) (D : Int) (by omega) (decide (p + 1 = bnb 0 len)) _ hA hAl (hq2 _ _ hsrc)) ?_
              rintro e w7 ⟨O, cap2, rfl, ⟨hO1, hO2, HO⟩, l⟩
              replace hsrc := hsrc.below l (Nat.le_refl _)
              replace hB := hB.trans (l.mono hB.size)
              refine ⟨_, rfl, ?_⟩
              simp only [aP, lI, l0, lS]
              refine pureL (.slice (some ⟨O, 0, none⟩) 8 cap2) rfl (fun _ => by kernel_rfl) ?_
              simp only [aP, lI, l0, lS]
              show Exit.inBlock _ _ _ _ _
              rw [hD] at HO
              have HS := show Hid _ from (And.intro (show Has w7 O .u32 8 (bH 0 key size len z (p + 1)) from HO) (And.intro hO2 (And.intro hsrc hB)))
              clear HO hsrc hB hA hAl hm hq1 hq2 hpc ec ec2 hla hD l
              go_wp2
              go_roundw
              case rel => first | exact ⟨p + 1, O, cap2, by omega, by go_num, rfl, HS.out⟩ | ((repeat apply Exists.intro); refine ⟨⟨p + 1, O, cap2, by omega, by go_num, rfl, HS.out⟩, rfl⟩)
              case measure => simp [intOf]; omega
            · obtain rfl : p = bnb 0 len := by omega
              have K : Kr w wr.heap.size [(A, .u32, 8, bH 0 key size len z (bnb 0 len))] [] wr := ⟨fun p hp => by obtain rfl := List.mem_singleton.1 hp; exact ⟨hA, hAl⟩, fun _ h => (by cases h), fun _ _ _ h => (by cases h), Nat.le_refl _, hB.size, hB⟩
              have hbs : ∀ n, b32 (bH 0 key size len z (bnb 0 len) (n / 4)) (n % 4) = bsum 0 key size len z n := fun _ => rfl
              clear hA hAl hsrc hB
              generalize bH 0 key size len z (bnb 0 len) = F at K hbs
              generalize hG : bsum 0 key size len z = G at hbs
              replace hG := show Hid _ from hG
              go_upto_region 18 with fail
              refine wp_region_list ?_
              refine actL (w' := wr.alloc (.cells #[] 5)) (.slice (some ⟨wr.heap.size, 0, none⟩) 0 0) rfl (by kernel_rfl) ?_
              simp only [aP, lI, l0, lS]
              refine pureL (.slice (some ⟨wr.heap.size, 0, none⟩) 0 0) rfl (fun _ => by kernel_rfl) ?_
              simp only [aP, lI, l0, lS]
              have HO : Own (wr.alloc (.cells #[] 5)) wr.heap.size 5 .u8 0 G (.slice (some ⟨wr.heap.size, 0, none⟩) 0 0) := Own.lit wr wr.heap.size 5 .u8 0 G (Nat.le_refl _) (by unfold maxLen; omega)
              replace K := K.call ((Below.refl wr.heap.size wr).alloc (Nat.le_refl _) (.cells #[] 5))
              generalize wr.alloc (.cells #[] 5) = w8 at K HO ⊢
              generalize Value.slice (some ⟨wr.heap.size, 0, none⟩) 0 0 = ov0 at HO ⊢
              generalize wr.heap.size = B2 at K HO
              show Exit.then _ _ _ _ _
              go_wp2
              go_loopw [13, 14] (fun ow i w' => ∃ (n : Nat) (ov : Value), n ≤ size ∧ i = .int .i64 (n : Int) ∧ ov = ow ∧ Own w' B2 5 .u8 n G ov ∧ Kr w B2 [(A, .u32, 8, F)] [] w') (fun _ i _ => size - (intOf i).toNat)
              case atStart => exact ⟨0, _, by omega, rfl, rfl, HO, K⟩
              case round =>
                clear K HO
                obtain ⟨n, ov, hn, rfl, rfl, HO, K⟩ := hrel
                have g3 : (0 : Int) ≤ (n : Int) := by omega
                by_cases hlt2 : n < size
                · have g4 : (n : Int) < (size : Int) := by omega
                  go_upto_region 22 with fail
                  refine wp_region_list ?_
                  refine pureL ov rfl (fun _ => by kernel_rfl) ?_
                  simp only [aP, lI, l0, lS]
                  refine pureL (.slice (some ⟨A, 0, none⟩) 8 capA) rfl (fun _ => by kernel_rfl) ?_
                  simp only [aP, lI, l0, lS]
                  refine pureL (.int .i64 (n : Int)) rfl (fun _ => by kernel_rfl) ?_
                  simp only [aP, lI, l0, lS]
                  refine pureL (.int .i64 ((n / 4 : Nat) : Int)) rfl (fun w => quoI .i64 _ _ _ _ _ _ _ rfl rfl rfl (by decide) (by rw [Int.tdiv_eq_ediv_of_nonneg g3, IntKind.wrap_i64]; omega) w) ?_
                  simp only [aP, lI, l0, lS]
                  refine pureL (.pointer (some ⟨A, n / 4, none⟩)) rfl (fun w' => idxW A 8 capA (n / 4) (by omega) w' _ _ rfl rfl rfl) ?_
                  simp only [aP, lI, l0, lS]
                  refine cellL .u32 (.int .u32 (F (n / 4))) A (n / 4) 60 _ rfl rfl rfl Tryd.underlying60 ((K.get _ _ _ _ mS).cell (n / 4) (by omega)) ?_
                  simp only [aP, lI, l0, lS]
                  refine pureL (.int .i64 (n : Int)) rfl (fun _ => by kernel_rfl) ?_
                  simp only [aP, lI, l0, lS]
                  refine pureL (.int .i64 ((n % 4 : Nat) : Int)) rfl (fun w => remI .i64 _ _ _ _ _ _ _ rfl rfl rfl (by decide) (by rw [Int.tmod_eq_emod_of_nonneg g3]; omega) w) ?_
                  simp only [aP, lI, l0, lS]
                  refine pureL (.int .i64 ((8 * (n % 4) : Nat) : Int)) rfl (fun w => mulI .i64 _ _ _ _ _ _ _ rfl rfl rfl (by rw [IntKind.wrap_i64]; omega) w) ?_
                  simp only [aP, lI, l0, lS]
                  refine pureL (.int .u32 (F (n / 4) / 2 ^ (8 * (n % 4)))) rfl (fun w => shrI .u32 .i64 _ _ _ _ _ _ _ rfl rfl rfl (by omega) (shr_min _ _ (Nat.mod_lt _ (by decide))) w) ?_
                  simp only [aP, lI, l0, lS]
                  refine pureL (.int .u8 (G n)) rfl (fun w => convI .u32 .u8 _ _ _ _ _ rfl (by kernel_rfl) Tryd.underlying5 (by kernel_rfl) rfl ((b32_shift _ _ (Nat.mod_lt _ (by decide))).trans (hbs n)) w) ?_
                  simp only [aP, lI, l0, lS]
                  refine actL (w' := wr.alloc (.cells #[.int .u8 (G n)] 5)) (.slice (some ⟨wr.heap.size, 0, none⟩) 1 1) rfl (by kernel_rfl) ?_
                  simp only [aP, lI, l0, lS]
                  obtain ⟨v, w9, hr, ho, hg⟩ := HO.more8 (by omega) (G n) rfl 51 K.size
                  replace K := (K.call ((Below.refl wr.heap.size wr).alloc (Nat.le_refl _) (.cells #[.int .u8 (G n)] 5))).grown hg (fun b hb => (World.ownsRow.lt HO b hb).1)
                  refine actL v rfl (appendOp _ _ 51 _ _ _ rfl rfl rfl hr) ?_
                  simp only [aP, lI, l0, lS]
                  refine pureL v rfl (fun _ => by kernel_rfl) ?_
                  simp only [aP, lI, l0, lS]
                  show Exit.inBlock _ _ _ _ _
                  have HS := show Hid _ from (And.intro ho K)
                  clear K HO hr ho hg
                  go_wp2
                  go_roundw
                  case rel => first | exact ⟨n + 1, v, by omega, by go_num, rfl, HS.out⟩ | ((repeat apply Exists.intro); refine ⟨⟨n + 1, v, by omega, by go_num, rfl, HS.out⟩, rfl⟩)
                  case measure => simp [intOf]; omega
                · obtain rfl : n = size := by omega
                  obtain ⟨sp2, cap2, rfl, hc2, hsr2⟩ := HO.bytes
                  have hB := K.below
                  clear K HO hlt2 hn g3
                  go_wp2
                  go_ret2
                  exact ⟨sp2, cap2, rfl, ⟨hc2, by rw [hG.out]; exact hsr2⟩, hB⟩
        · have hm1 : 0 < (NP : Int) % 64 := by omega
          have hm4 : 1 ≤ (NP : Int) % 64 := by omega
          have hm3 : (NP : Int).tmod 64 = (NP : Int) % 64 := Int.tmod_eq_emod_of_nonneg (by omega)
          go_upto_region 11 with fail
          refine wp_region_list ?_
          refine pureL (.slice ts NP tc) rfl (fun _ => by kernel_rfl) ?_
          simp only [aP, lI, l0, lS]
          refine actL (w' := wr.alloc (.cells #[.int .u8 0] 5)) (.slice (some ⟨wr.heap.size, 0, none⟩) 1 1) rfl (by kernel_rfl) ?_
          simp only [aP, lI, l0, lS]
          obtain ⟨v, w5, hr, ho, hg⟩ := HT.more8 (by omega) 0 (btx_pad 0 key len z NP (by omega)) 51 K.size
          replace K := (K.call ((Below.refl wr.heap.size wr).alloc (Nat.le_refl _) (.cells #[.int .u8 0] 5))).grown hg (fun b hb => (World.ownsRow.lt HT b hb).1)
          refine actL v rfl (appendOp _ _ 51 _ _ _ rfl rfl rfl hr) ?_
          simp only [aP, lI, l0, lS]
          refine pureL v rfl (fun _ => by kernel_rfl) ?_
          simp only [aP, lI, l0, lS]
          show Exit.then _ _ _ _ _
          obtain ⟨ts2, tc2, rfl, _, _⟩ := ho.bytes
          have HS := show Hid _ from (And.intro ho K)
          clear HT K hr ho hg
          go_wp2
          go_roundw
          case rel => first | exact ⟨NP + 1, _, rfl, by omega, by omega, HS.out⟩ | ((repeat apply Exists.intro); refine ⟨⟨NP + 1, _, rfl, by omega, by omega, HS.out⟩, rfl⟩)
          case measure => simp [slen]; omega
  · have hk1 : (0 : Int) < (kl : Int) := by omega
    have hk2 : (1 : Int) ≤ (kl : Int) := by omega
    obtain ⟨ts, tc, rfl, _, _⟩ := HT.bytes
    go_upto_region 7 with fail
    refine wp_region_list ?_
    refine pureL (.slice ts 0 tc) rfl (fun _ => by kernel_rfl) ?_
    simp only [aP, lI, l0, lS]
    refine pureL (.slice kp kl kc) rfl (fun _ => by kernel_rfl) ?_
    simp only [aP, lI, l0, lS]
    obtain ⟨v1, w4, hr, ho, hg, _⟩ := run_append_Own (P := Tryd.prog) (ty := 51) Tryd.underlying51 one8 HT kp kl kc key (hks.below K.below (Nat.le_refl _)) hkn (by unfold maxLen; omega) (by omega) K.size
    replace K := K.grown hg (fun b hb => (World.ownsRow.lt HT b hb).1)
    refine actL v1 rfl (appendOp _ _ 51 _ _ _ rfl rfl rfl hr) ?_
    simp only [aP, lI, l0, lS]
    refine pureL (.slice kp kl kc) rfl (fun _ => by kernel_rfl) ?_
    simp only [aP, lI, l0, lS]
    refine pureL (.int .i64 (kl : Int)) rfl (fun w => lenS _ 51 5 kp kl kc rfl Tryd.underlying51 rfl w) ?_
    simp only [aP, lI, l0, lS]
    refine pureL (.int .i64 ((64 - kl : Nat) : Int)) rfl (fun w => subI .i64 _ _ _ _ _ _ _ rfl rfl rfl (by rw [IntKind.wrap_i64]; omega) w) ?_
    simp only [aP, lI, l0, lS]
    obtain ⟨v2, w5, hr2, ho2, hg2, _⟩ := run_append_zeros (P := Tryd.prog) (ty := 51) (u := 3) Tryd.underlying51 Tryd.underlying3 one8 ho (64 - kl) (by omega) (by unfold maxLen; omega) (by omega) K.size
    replace K := K.grown hg2 (fun b hb => (World.ownsRow.lt ho b hb).1)
    refine actL v2 rfl (appendOp2 _ _ 51 3 _ _ _ rfl rfl rfl hr2) ?_
    simp only [aP, lI, l0, lS]
    refine pureL v2 rfl (fun _ => by kernel_rfl) ?_
    simp only [aP, lI, l0, lS]
    replace HT : Own w5 B 5 .u8 64 (btx kl key len z) v2 := by
      have e : 0 + kl + (64 - kl) = 64 := by omega
      rw [← e]
      refine ho2.congr fun j hj => ?_
      have e1 : btx kl key len z j = if j < kl then key j else 0 := by unfold btx; rw [if_neg hk0, if_pos (by omega)]
      rw [e1]
      unfold app
      by_cases e2 : j < kl
      · rw [if_pos (show j < 0 + kl by omega), if_neg (show ¬ j < 0 by omega), if_pos e2, Nat.sub_zero]
      · rw [if_neg (show ¬ j < 0 + kl by omega), if_neg e2]
    clear hr ho hg hr2 ho2 hg2
    show Exit.then _ _ _ _ _
    obtain ⟨ts, tc, rfl, _, _⟩ := HT.bytes
    go_upto_region 8 with fail
    refine wp_region_list ?_
    refine pureL (.slice ts 64 tc) rfl (fun _ => by kernel_rfl) ?_
    simp only [aP, lI, l0, lS]
    refine pureL (.slice sp len cap) rfl (fun _ => by kernel_rfl) ?_
    simp only [aP, lI, l0, lS]
    obtain ⟨v, w6, hr, ho, hg, _⟩ := run_append_Own (P := Tryd.prog) (ty := 51) Tryd.underlying51 one8 HT sp len cap z (hs.below K.below (Nat.le_refl _)) hn0 (by unfold maxLen; omega) (by omega) K.size
    replace K := K.grown hg (fun b hb => (World.ownsRow.lt HT b hb).1)
    refine actL v rfl (appendOp _ _ 51 _ _ _ rfl rfl rfl hr) ?_
    simp only [aP, lI, l0, lS]
    refine pureL v rfl (fun _ => by kernel_rfl) ?_
    simp only [aP, lI, l0, lS]
    replace HT : Own w6 B 5 .u8 (btl kl len) (btx kl key len z) v := by
      have e : 64 + len = btl kl len := by unfold btl; rw [if_neg hk0]
      rw [← e]
      refine ho.congr fun j hj => ?_
      unfold app
      by_cases e3 : j < 64
      · rw [if_pos e3]
      · rw [if_neg e3]; unfold btx; rw [if_neg hk0, if_neg e3, if_pos (by omega)]
    clear hr ho hg
    obtain ⟨ts, tc, rfl, _, _⟩ := HT.bytes
    show Exit.then _ _ _ _ _
    go_upto_region 9 with fail
    refine wp_region_list ?_
    refine pureL (.slice ts (btl kl len) tc) rfl (fun _ => by kernel_rfl) ?_
    simp only [aP, lI, l0, lS]
    refine pureL (.int .i64 ((btl kl len : Nat) : Int)) rfl (fun w => lenS _ 51 5 ts (btl kl len) tc rfl Tryd.underlying51 rfl w) ?_
    simp only [aP, lI, l0, lS]
    refine pureL (.int .i64 ((btl kl len : Nat) : Int)) rfl (fun _ => by kernel_rfl) ?_
    simp only [aP, lI, l0, lS]
    generalize Value.slice ts (btl kl len) tc = tv at HT ⊢
    show Exit.then _ _ _ _ _
    have hbt : 0 < btl kl len := by unfold btl; rw [if_neg hk0]; omega
    have hbt2 : btl kl len ≤ 140737488355136 := by unfold btl; rw [if_neg hk0]; omega
    have hT1 : ¬ ((btl kl len : Nat) : Int) = 0 := by omega
    have hTb : btl kl len ≤ 64 * bnb kl len ∧ 64 * bnb kl len ≤ btl kl len + 63 := by unfold bnb; rw [if_neg (by omega)]; omega
    go_wp2
    go_loopw [9] (fun tw w' => ∃ (n : Nat) (v : Value), v = tw ∧ btl kl len ≤ n ∧ n ≤ 64 * bnb kl len ∧ Own w' B 5 .u8 n (btx kl key len z) v ∧ Kr w B [(S, .u32, 8, bh0 kl size)] [] w') (fun tw _ => 64 * bnb kl len - slen tw)
    case atStart => exact ⟨_, _, rfl, Nat.le_refl _, hTb.1, HT, K⟩
    case round =>
      clear K HT
      obtain ⟨NP, v, rfl, hn1, hn2, HT, K⟩ := hrel
      obtain ⟨ts, tc, rfl, _, _⟩ := HT.bytes
      by_cases hm : NP % 64 = 0
      · have hm1 : ¬ 0 < (NP : Int) % 64 := by omega
        have hm2 : (NP : Int) % 64 = 0 := by omega
        have hm3 : (NP : Int).tmod 64 = 0 := by rw [Int.tmod_eq_emod_of_nonneg (by omega)]; omega
        have hN1 : NP ≤ 64 * bnb kl len := hn2
        have hN2 : 64 * bnb kl len ≤ NP := by omega
        obtain ⟨_, _, hve, htcap, hsrc⟩ := HT.bytes
        injection hve with hve1 _ hve3
        subst hve1 hve3
        have hA := K.get _ _ _ _ mS
        have hAl := Nat.lt_of_lt_of_le (K.rows _ mS).2 K.size
        have hB := K.below
        clear K HT
        go_wp2
        go_loopw [8, 11] (fun hw i w' => ∃ (p A capA : Nat), p ≤ bnb kl len ∧ i = .int .i64 (64 * (p : Int)) ∧ hw = .slice (some ⟨A, 0, none⟩) 8 capA ∧ Has w' A .u32 8 (bH kl key size len z p) ∧ A < w'.heap.size ∧ Src w' ts NP (btx kl key len z) ∧ Below w.heap.size w w') (fun _ i _ => NP - (intOf i).toNat)
        case atStart => exact ⟨0, S, 8, by omega, rfl, rfl, hA, hAl, hsrc, hB⟩
        case round =>
          clear hA hAl hsrc hB
          obtain ⟨p, A, capA, hp, rfl, rfl, hA, hAl, hsrc, hB⟩ := hrel
          have g1 : (0 : Int) ≤ 64 * (p : Int) := by omega
          by_cases hlt : p < bnb kl len
          · have g2 : 64 * (p : Int) < (NP : Int) := by omega
            obtain ⟨D, hD⟩ : ∃ D : Nat, D = min (64 * p + 64) (btl kl len) := ⟨_, rfl⟩
            have hm : (if (((btl kl len : Nat) : Int) : Int) < 64 * (p : Int) + 64 then (((btl kl len : Nat) : Int) : Int) else 64 * (p : Int) + 64) = (D : Int) := by rw [hD]; split <;> omega
            obtain ⟨sq, hq1, hq2⟩ := cut_lh (P := Tryd.prog) (t := 51) (by kernel_rfl) (fun _ => by kernel_rfl) ts NP tc (64 * p) (64 * p + 64) (by omega) (by omega) htcap
            have hpc : 64 * p + 64 - 64 * p = 64 := by omega
            rw [hpc] at hq1 hq2
            have ec : ((64 * p : Nat) : Int) = 64 * (p : Int) := by omega
            have ec2 : ((64 * p + 64 : Nat) : Int) = 64 * (p : Int) + 64 := by omega
            rw [ec, ec2] at hq1
            have hla : (64 * (p : Int) + 64 == (NP : Int)) = decide (p + 1 = bnb kl len) := by
              by_cases e : p + 1 = bnb kl len
              · rw [decide_eq_true e]; simp; omega
              · rw [decide_eq_false e]; simp; omega
            go_upto_region 16 with fail
            refine wp_region_list ?_
            refine pureL (.int .i64 (64 * (p : Int))) rfl (fun _ => by kernel_rfl) ?_
            simp only [aP, lI, l0, lS]
            refine pureL (.int .i64 (64 * (p : Int) + 64)) rfl (fun w => addI .i64 _ _ _ _ _ _ _ rfl rfl rfl (by rw [IntKind.wrap_i64]; omega) w) ?_
            simp only [aP, lI, l0, lS]
            refine pureL (.int .i64 ((btl kl len : Nat) : Int)) rfl (fun _ => by kernel_rfl) ?_
            simp only [aP, lI, l0, lS]
            refine pureL (.int .i64 (D : Int)) rfl (fun w => minI .i64 .i64 _ _ _ _ _ _ _ rfl rfl rfl hm w) ?_
            simp only [aP, lI, l0, lS]
            refine pureL (.int .i64 (D : Int)) rfl (fun _ => by kernel_rfl) ?_
            simp only [aP, lI, l0, lS]
            show Exit.then _ _ _ _ _
            go_upto_region 17 with fail
            refine wp_region_list ?_
            refine pureL (.slice (some ⟨A, 0, none⟩) 8 capA) rfl (fun _ => by kernel_rfl) ?_
            simp only [aP, lI, l0, lS]
            refine pureL (.slice ts NP tc) rfl (fun _ => by kernel_rfl) ?_
            simp only [aP, lI, l0, lS]
            refine pureL (.int .i64 (64 * (p : Int))) rfl (fun _ => by kernel_rfl) ?_
            simp only [aP, lI, l0, lS]
            refine pureL (.int .i64 (64 * (p : Int))) rfl (fun _ => by kernel_rfl) ?_
            simp only [aP, lI, l0, lS]
            refine pureL (.int .i64 (64 * (p : Int) + 64)) rfl (fun w => addI .i64 _ _ _ _ _ _ _ rfl rfl rfl (by rw [IntKind.wrap_i64]; omega) w) ?_
            simp only [aP, lI, l0, lS]
            refine pureL (.slice sq 64 (tc - 64 * p)) rfl (fun w => cutLHop _ _ _ _ _ _ _ _ rfl rfl rfl rfl (hq1 w)) ?_
            simp only [aP, lI, l0, lS]
            refine pureL (.int .i64 (D : Int)) rfl (fun _ => by kernel_rfl) ?_
            simp only [aP, lI, l0, lS]
            refine pureL (.int .u64 (D : Int)) rfl (fun w => convI .i64 .u64 _ _ _ _ _ rfl (by kernel_rfl) Tryd.underlying68 (by kernel_rfl) rfl (wrapQ _ (by omega) (by omega)) w) ?_
            simp only [aP, lI, l0, lS]
            refine pureL (.int .i64 (64 * (p : Int))) rfl (fun _ => by kernel_rfl) ?_
            simp only [aP, lI, l0, lS]
            refine pureL (.int .i64 (64 * (p : Int) + 64)) rfl (fun w => addI .i64 _ _ _ _ _ _ _ rfl rfl rfl (by rw [IntKind.wrap_i64]; omega) w) ?_
            simp only [aP, lI, l0, lS]
            refine pureL (.slice ts NP tc) rfl (fun _ => by kernel_rfl) ?_
            simp only [aP, lI, l0, lS]
            refine pureL (.int .i64 (NP : Int)) rfl (fun w => lenS _ 51 5 ts NP tc rfl Tryd.underlying51 rfl w) ?_
            simp only [aP, lI, l0, lS]
            refine pureL (.bool (decide (p + 1 = bnb kl len))) rfl (fun w => eqlI .i64 _ _ _ _ _ _ rfl rfl rfl _ hla w) ?_
            simp only [aP, lI, l0, lS]
            refine callL rfl (fun _ => by kernel_rfl) (refPress_any (bH kl key size len z p) (bH_in kl key size len z hkl hs2 p) A capA sq (tc - 64 * p) (fun j => (btx kl key len z) (64 * p + j)) (fun j _ => btx_in kl key len z hkk hz _) (D : Int) (by omega) (decide (p + 1 = bnb kl len)) _ hA hAl (hq2 _ _ hsrc)) ?_
            rintro e w7 ⟨O, cap2, rfl, ⟨hO1, hO2, HO⟩, l⟩
            replace hsrc := hsrc.below l (Nat.le_refl _)
            replace hB := hB.trans (l.mono hB.size)
            refine ⟨_, rfl, ?_⟩
            simp only [aP, lI, l0, lS]
            refine pureL (.slice (some ⟨O, 0, none⟩) 8 cap2) rfl (fun _ => by kernel_rfl) ?_
            simp only [aP, lI, l0, lS]
            show Exit.inBlock _ _ _ _ _
            rw [hD] at HO
            have HS := show Hid _ from (And.intro (show Has w7 O .u32 8 (bH kl key size len z (p + 1)) from HO) (And.intro hO2 (And.intro hsrc hB)))
            clear HO hsrc hB hA hAl hm hq1 hq2 hpc ec ec2 hla hD l
            go_wp2
            go_roundw
            case rel => first | exact ⟨p + 1, O, cap2, by omega, by go_num, rfl, HS.out⟩ | ((repeat apply Exists.intro); refine ⟨⟨p + 1, O, cap2, by omega, by go_num, rfl, HS.out⟩, rfl⟩)
            case measure => simp [intOf]; omega
          · obtain rfl : p = bnb kl len := by omega
            have K : Kr w wr.heap.size [(A, .u32, 8, bH kl key size len z (bnb kl len))] [] wr := ⟨fun p hp => by obtain rfl := List.mem_singleton.1 hp; exact ⟨hA, hAl⟩, fun _ h => (by cases h), fun _ _ _ h => (by cases h), Nat.le_refl _, hB.size, hB⟩
            have hbs : ∀ n, b32 (bH kl key size len z (bnb kl len) (n / 4)) (n % 4) = bsum kl key size len z n := fun _ => rfl
            clear hA hAl hsrc hB
            generalize bH kl key size len z (bnb kl len) = F at K hbs
            generalize hG : bsum kl key size len z = G at hbs
            replace hG := show Hid _ from hG
            go_upto_region 18 with fail
            refine wp_region_list ?_
            refine actL (w' := wr.alloc (.cells #[] 5)) (.slice (some ⟨wr.heap.size, 0, none⟩) 0 0) rfl (by kernel_rfl) ?_
            simp only [aP, lI, l0, lS]
            refine pureL (.slice (some ⟨wr.heap.size, 0, none⟩) 0 0) rfl (fun _ => by kernel_rfl) ?_
            simp only [aP, lI, l0, lS]
            have HO : Own (wr.alloc (.cells #[] 5)) wr.heap.size 5 .u8 0 G (.slice (some ⟨wr.heap.size, 0, none⟩) 0 0) := Own.lit wr wr.heap.size 5 .u8 0 G (Nat.le_refl _) (by unfold maxLen; omega)
            replace K := K.call ((Below.refl wr.heap.size wr).alloc (Nat.le_refl _) (.cells #[] 5))
            generalize wr.alloc (.cells #[] 5) = w8 at K HO ⊢
            generalize Value.slice (some ⟨wr.heap.size, 0, none⟩) 0 0 = ov0 at HO ⊢
            generalize wr.heap.size = B2 at K HO
            show Exit.then _ _ _ _ _
            go_wp2
            go_loopw [13, 14] (fun ow i w' => ∃ (n : Nat) (ov : Value), n ≤ size ∧ i = .int .i64 (n : Int) ∧ ov = ow ∧ Own w' B2 5 .u8 n G ov ∧ Kr w B2 [(A, .u32, 8, F)] [] w') (fun _ i _ => size - (intOf i).toNat)
            case atStart => exact ⟨0, _, by omega, rfl, rfl, HO, K⟩
            case round =>
              clear K HO
              obtain ⟨n, ov, hn, rfl, rfl, HO, K⟩ := hrel
              have g3 : (0 : Int) ≤ (n : Int) := by omega
              by_cases hlt2 : n < size
              · have g4 : (n : Int) < (size : Int) := by omega
                go_upto_region 22 with fail
                refine wp_region_list ?_
                refine pureL ov rfl (fun _ => by kernel_rfl) ?_
                simp only [aP, lI, l0, lS]
                refine pureL (.slice (some ⟨A, 0, none⟩) 8 capA) rfl (fun _ => by kernel_rfl) ?_
                simp only [aP, lI, l0, lS]
                refine pureL (.int .i64 (n : Int)) rfl (fun _ => by kernel_rfl) ?_
                simp only [aP, lI, l0, lS]
                refine pureL (.int .i64 ((n / 4 : Nat) : Int)) rfl (fun w => quoI .i64 _ _ _ _ _ _ _ rfl rfl rfl (by decide) (by rw [Int.tdiv_eq_ediv_of_nonneg g3, IntKind.wrap_i64]; omega) w) ?_
                simp only [aP, lI, l0, lS]
                refine pureL (.pointer (some ⟨A, n / 4, none⟩)) rfl (fun w' => idxW A 8 capA (n / 4) (by omega) w' _ _ rfl rfl rfl) ?_
                simp only [aP, lI, l0, lS]
                refine cellL .u32 (.int .u32 (F (n / 4))) A (n / 4) 60 _ rfl rfl rfl Tryd.underlying60 ((K.get _ _ _ _ mS).cell (n / 4) (by omega)) ?_
                simp only [aP, lI, l0, lS]
                refine pureL (.int .i64 (n : Int)) rfl (fun _ => by kernel_rfl) ?_
                simp only [aP, lI, l0, lS]
                refine pureL (.int .i64 ((n % 4 : Nat) : Int)) rfl (fun w => remI .i64 _ _ _ _ _ _ _ rfl rfl rfl (by decide) (by rw [Int.tmod_eq_emod_of_nonneg g3]; omega) w) ?_
                simp only [aP, lI, l0, lS]
                refine pureL (.int .i64 ((8 * (n % 4) : Nat) : Int)) rfl (fun w => mulI .i64 _ _ _ _ _ _ _ rfl rfl rfl (by rw [IntKind.wrap_i64]; omega) w) ?_
                simp only [aP, lI, l0, lS]
                refine pureL (.int .u32 (F (n / 4) / 2 ^ (8 * (n % 4)))) rfl (fun w => shrI .u32 .i64 _ _ _ _ _ _ _ rfl rfl rfl (by omega) (shr_min _ _ (Nat.mod_lt _ (by decide))) w) ?_
                simp only [aP, lI, l0, lS]
                refine pureL (.int .u8 (G n)) rfl (fun w => convI .u32 .u8 _ _ _ _ _ rfl (by kernel_rfl) Tryd.underlying5 (by kernel_rfl) rfl ((b32_shift _ _ (Nat.mod_lt _ (by decide))).trans (hbs n)) w) ?_
                simp only [aP, lI, l0, lS]
                refine actL (w' := wr.alloc (.cells #[.int .u8 (G n)] 5)) (.slice (some ⟨wr.heap.size, 0, none⟩) 1 1) rfl (by kernel_rfl) ?_
                simp only [aP, lI, l0, lS]
                obtain ⟨v, w9, hr, ho, hg⟩ := HO.more8 (by omega) (G n) rfl 51 K.size
                replace K := (K.call ((Below.refl wr.heap.size wr).alloc (Nat.le_refl _) (.cells #[.int .u8 (G n)] 5))).grown hg (fun b hb => (World.ownsRow.lt HO b hb).1)
                refine actL v rfl (appendOp _ _ 51 _ _ _ rfl rfl rfl hr) ?_
                simp only [aP, lI, l0, lS]
                refine pureL v rfl (fun _ => by kernel_rfl) ?_
                simp only [aP, lI, l0, lS]
                show Exit.inBlock _ _ _ _ _
                have HS := show Hid _ from (And.intro ho K)
                clear K HO hr ho hg
                go_wp2
                go_roundw
                case rel => first | exact ⟨n + 1, v, by omega, by go_num, rfl, HS.out⟩ | ((repeat apply Exists.intro); refine ⟨⟨n + 1, v, by omega, by go_num, rfl, HS.out⟩, rfl⟩)
                case measure => simp [intOf]; omega
              · obtain rfl : n = size := by omega
                obtain ⟨sp2, cap2, rfl, hc2, hsr2⟩ := HO.bytes
                have hB := K.below
                clear K HO hlt2 hn g3
                go_wp2
                go_ret2
                exact ⟨sp2, cap2, rfl, ⟨hc2, by rw [hG.out]; exact hsr2⟩, hB⟩
      · have hm1 : 0 < (NP : Int) % 64 := by omega
        have hm4 : 1 ≤ (NP : Int) % 64 := by omega
        have hm3 : (NP : Int).tmod 64 = (NP : Int) % 64 := Int.tmod_eq_emod_of_nonneg (by omega)
        go_upto_region 11 with fail
        refine wp_region_list ?_
        refine pureL (.slice ts NP tc) rfl (fun _ => by kernel_rfl) ?_
        simp only [aP, lI, l0, lS]
        refine actL (w' := wr.alloc (.cells #[.int .u8 0] 5)) (.slice (some ⟨wr.heap.size, 0, none⟩) 1 1) rfl (by kernel_rfl) ?_
        simp only [aP, lI, l0, lS]
        obtain ⟨v, w5, hr, ho, hg⟩ := HT.more8 (by omega) 0 (btx_pad kl key len z NP (by omega)) 51 K.size
        replace K := (K.call ((Below.refl wr.heap.size wr).alloc (Nat.le_refl _) (.cells #[.int .u8 0] 5))).grown hg (fun b hb => (World.ownsRow.lt HT b hb).1)
        refine actL v rfl (appendOp _ _ 51 _ _ _ rfl rfl rfl hr) ?_
        simp only [aP, lI, l0, lS]
        refine pureL v rfl (fun _ => by kernel_rfl) ?_
        simp only [aP, lI, l0, lS]
        show Exit.then _ _ _ _ _
        obtain ⟨ts2, tc2, rfl, _, _⟩ := ho.bytes
        have HS := show Hid _ from (And.intro ho K)
        clear HT K hr ho hg
        go_wp2
        go_roundw
        case rel => first | exact ⟨NP + 1, _, rfl, by omega, by omega, HS.out⟩ | ((repeat apply Exists.intro); refine ⟨⟨NP + 1, _, rfl, by omega, by omega, HS.out⟩, rfl⟩)
        case measure => simp [slen]; omega
section
section
variable {P : Program} {o : Oper} {a : Act}
theorem gtrI (k : IntKind) (n n' : Int) (t t' : TypeId) (x y : Operand) (ho : o.op = .binOp .gtr t x y t') (hx : a.eval x = .int k n) (hy : a.eval y = .int k n') (r : Bool) (hr : decide (n > n') = r) (w : World) : (execOp a.eval o).run P w = .ok (.value (.bool r)) w := by
  unfold execOp
  simp only [ho, hx, hy, Sem.run_bind, eqGuard_at_int, binOp_gtr, Sem.run_pure, Result.andThen_ok, hr]
theorem geqI (k : IntKind) (n n' : Int) (t t' : TypeId) (x y : Operand) (ho : o.op = .binOp .geq t x y t') (hx : a.eval x = .int k n) (hy : a.eval y = .int k n') (r : Bool) (hr : decide (n ≥ n') = r) (w : World) : (execOp a.eval o).run P w = .ok (.value (.bool r)) w := by
  unfold execOp
  simp only [ho, hx, hy, Sem.run_bind, eqGuard_at_int, binOp_geq, Sem.run_pure, Result.andThen_ok, hr]
end
theorem loadAny {P : Program} {o : Oper} {a : Act} {w : World} (ty : TypeId) (k : IntKind) (x : Operand) (p : Addr) (v : Value) (ho : o.op = .load ty x) (hx : a.eval x = .pointer (some p)) (hu : P.underlying ty = some (.int k)) (hc : w.cell? p = some v) : (execOp a.eval o).run P w = .ok (.value v) w := by
  have hagg : (isAgg ty).run P w = .ok false w := by
    unfold isAgg
    rw [Sem.run_bind, run_underlying hu w]
    rfl
  have e : (loadVar ty p).run P w = .ok v w := by simp [loadVar, Sem.run_bind, hagg, hc]
  unfold execOp
  simp only [ho, hx, Instr.loadAt, Instr.sureAddr, Sem.run_bind, Sem.run_pure, Result.andThen_ok, e]
end
theorem bidxK (b i : Nat) (hi : i < 32) (w : World) {o : Oper} {a : Act} (x y : Operand) (ho : o.op = .indexAddr 23 x y) (hx : a.eval x = .pointer (some ⟨b, 0, none⟩)) (hy : a.eval y = .int .i64 (i : Int)) :
    (execOp a.eval o).run Tryd.prog w = .ok (.value (.pointer (some ⟨b, i, none⟩))) w := by
  have h := idxArr (P := Tryd.prog) 23 5 32 .i64 b 0 i x y Tryd.underlying23 (fun _ => by kernel_rfl) hi ho hx hy w
  rw [Nat.zero_add] at h
  exact h
theorem refHash_any (sp : Option Addr) (len cap : Nat) (hlen : len ≤ 140737488355072) (hn0 : sp = none → cap = 0) (z : Nat → Int) (hz : In 256 len z) (w : World) (hs : Src w sp len z) :
    Calls Tryd.prog 36 #[.slice sp len cap] w fun e w' => e = .returned (.agg (row .u8 32 (bhash len z)).toArray) ∧ Below w.heap.size w w' := by
  have K := Kr.init w
  replace K := K.make 32 zu8_32 23 (w.heap.size) rfl (key_zero _ _ _ rfl).there
  go_enter Tryd.func36, Tryd.ntmps36
  go_upto_region 1 with fail
  generalize (w.alloc (.cells zu8_32 23)) = w0 at K ⊢
  refine wp_region_list ?_
  refine pureL (.slice sp len cap) rfl (fun _ => by kernel_rfl) ?_
  simp only [aP, lI, l0, lS]
  refine callL rfl (fun _ => by kernel_rfl) (refSum_good none 0 0 (fun _ => 0) (by omega) (fun _ hj => absurd hj (Nat.not_lt_zero _)) (fun _ => rfl) 32 (by omega) (by omega) sp len cap hlen hn0 z hz _ (fun _ hj => absurd hj (Nat.not_lt_zero _)) (hs.below K.below (Nat.le_refl _))) ?_
  rintro e w1 ⟨tp, tc, rfl, ⟨_, hsrc⟩, l⟩
  replace K := K.call l
  clear l
  refine ⟨_, rfl, ?_⟩
  simp only [aP, lI, l0, lS]
  refine pureL (.tuple #[.slice tp 32 tc, .int .i64 0]) rfl (fun _ => by kernel_rfl) ?_
  simp only [aP, lI, l0, lS]
  refine pureL (.slice tp 32 tc) rfl (fun _ => by kernel_rfl) ?_
  simp only [aP, lI, l0, lS]
  refine pureL (.int .i64 0) rfl (fun _ => by kernel_rfl) ?_
  simp only [aP, lI, l0, lS]
  refine pureL (.slice tp 32 tc) rfl (fun _ => by kernel_rfl) ?_
  simp only [aP, lI, l0, lS]
  refine pureL (.int .i64 0) rfl (fun _ => by kernel_rfl) ?_
  simp only [aP, lI, l0, lS]
  show Exit.then _ _ _ _ _
  go_upto_region 2 with fail
  refine wp_region_list ?_
  refine pureL (.agg (row .u8 32 (fun _ => 0)).toArray) rfl (fun _ => by kernel_rfl) ?_
  simp only [aP, lI, l0, lS]
  refine allocL zu8_32 23 rfl (fun _ => by kernel_rfl) ?_
  simp only [aP, lI, l0, lS]
  refine storesL .u8 32 (fun _ => 0) w1.heap.size 23 _ _ rfl rfl rfl rfl (room_of (key_zero _ _ _ rfl).there) (key_info' _) ?_
  simp only [Act.put]
  have K1 := (Kr.init w1).fresh .u8 32 (fun _ => 0) zu8_32 23 (key_zero _ _ _ rfl).there
  generalize ((w1.alloc (.cells zu8_32 23)).setCells w1.heap.size 0 (row .u8 32 (fun _ => 0))) = w2 at K1 ⊢
  show Exit.then _ _ _ _ _
  go_wp2
  go_loopw [6] (fun i w' => ∃ (m : Nat) (f : Nat → Int), m ≤ 32 ∧ i = .int .i64 m ∧ Kr w1 (w1.heap.size + 1) [(w1.heap.size, .u8, 32, f)] [] w' ∧ ∀ j, j < m → f j = bhash len z j) (fun i _ => 32 - (intOf i).toNat)
  case atStart => exact ⟨0, _, by omega, rfl, K1, fun j hj => absurd hj (Nat.not_lt_zero j)⟩
  case round =>
    clear K1
    obtain ⟨m, f, hm, rfl, K1, hf⟩ := hrel
    have g1 : (0 : Int) ≤ (m : Int) := by omega
    by_cases hlt : m < 32
    · have g2 : (m : Int) < 32 := by omega
      obtain ⟨ad, rfl, hc⟩ := (hsrc.below K1.below (Nat.le_refl _)) m hlt
      go_upto_region 6 with fail
      refine wp_region_list ?_
      refine pureL (.int .i64 (m : Int)) rfl (fun _ => by kernel_rfl) ?_
      simp only [aP, lI, l0, lS]
      refine pureL (.slice (some ad) 32 tc) rfl (fun _ => by kernel_rfl) ?_
      simp only [aP, lI, l0, lS]
      refine pureL (.int .i64 (m : Int)) rfl (fun _ => by kernel_rfl) ?_
      simp only [aP, lI, l0, lS]
      refine pureL (.pointer (some (ad.add m))) rfl (fun w => idxSl 51 5 32 tc .i64 ad m _ _ Tryd.underlying51 (fun _ => by kernel_rfl) hlt rfl rfl rfl w) ?_
      simp only [aP, lI, l0, lS]
      refine readL (.int .u8 (bhash len z m)) rfl (loadAny 5 .u8 _ (ad.add m) _ rfl rfl Tryd.underlying5 hc) ?_
      simp only [aP, lI, l0, lS]
      refine pureL (.pointer (some ⟨w1.heap.size, m, none⟩)) rfl (fun w' => bidxK w1.heap.size m hlt w' _ _ rfl rfl rfl) ?_
      simp only [aP, lI, l0, lS]
      refine storeL .u8 (bhash len z m) w1.heap.size m 5 _ _ rfl rfl rfl rfl (by rw [(K1.get _ _ _ _ mS).cell m hlt]; rfl) ((K1.get _ _ _ _ mS).free m hlt) (by kernel_rfl) ?_
      simp only [Act.put]
      replace K1 := K1.setCell [] w1.heap.size .u8 32 f m hlt (bhash len z m) mS (fun _ hp => by cases hp) (fun _ hp => by cases hp) (Nat.le_refl _)
      have HS := show Hid _ from (And.intro K1 (show ∀ j, j < m + 1 → upd f m (bhash len z m) j = bhash len z j from fun j hj => by
        by_cases e : j = m
        · subst e; rw [upd_same]
        · rw [upd_other _ _ _ _ e]; exact hf j (by omega)))
      clear K1 hf hc
      generalize wr.setCell ⟨w1.heap.size, m, none⟩ (.int .u8 (bhash len z m)) = w3 at HS ⊢
      show Exit.inBlock _ _ _ _ _
      go_wp2
      go_roundw
      case rel => first | exact ⟨m + 1, _, by omega, by go_num, HS.out⟩ | ((repeat apply Exists.intro); refine ⟨⟨m + 1, _, by omega, by go_num, HS.out⟩, rfl⟩)
      case measure => simp [intOf]; omega
    · obtain rfl : m = 32 := by omega
      replace K := K.call K1.below
      have HR := (K1.get _ _ _ _ mS).congr (g := bhash len z) hf
      have hz' := (K.room _ mS).1
      have hB := (K.fill _ _ mS (row .u8 32 (bhash len z))).below
      clear K K1 hf hlt hm g1 hsrc
      generalize hj : bhash len z = f at *
      go_wp2_with (first | (refine wpList_load_mid rfl 23 _ rfl (w1.heap.size) 0 rfl (row .u8 32 (f)) _ (Has.range (HR)) Tryd.underlying23 rfl (key_info _) ?_) | (refine wpList_store_mid rfl 23 _ _ rfl (w.heap.size) 0 (row .u8 32 f).toArray rfl rfl (room_of hz') (key_info' _) (all_oneCell_toArray (row_one _ _ _)) ?_))
      exact bodyPost_ret (v := (.agg (row .u8 32 (f)).toArray)) (results_row Tryd.results36 rfl (Has.all hz' .u8 f).range Tryd.underlying23 rfl (key_info f)) rfl ⟨rfl, hB⟩
structure Two8 (w : World) (B n : Nat) (f : Nat → Int) (a : Value) (m : Nat) (g : Nat → Int) (b : Value) : Prop where
  one : Own w B 5 .u8 n f a
  two : Own w B 5 .u8 m g b
  ne : a.ownBlock ≠ b.ownBlock
theorem Two8.symm {w : World} {B n : Nat} {f : Nat → Int} {a : Value} {m : Nat} {g : Nat → Int} {b : Value} (h : Two8 w B n f a m g b) : Two8 w B m g b n f a := ⟨h.two, h.one, fun e => h.ne e.symm⟩
theorem Two8.more {w' : World} {B n : Nat} {f : Nat → Int} {a : Value} {m : Nat} {g : Nat → Int} {b : Value} (h : Two8 w' B n f a m g b) (hn : n < 140737488355328) (x : Int) (hx : f n = x) (ty : TypeId) (hb : B ≤ w'.heap.size) :
    ∃ v w'', (Builtin.append_ #[51, 51] ty #[a, .slice (some ⟨w'.heap.size, 0, none⟩) 1 1]).run Tryd.prog (w'.alloc (.cells #[.int .u8 x] 5)) = .ok v w'' ∧ Two8 w'' B (n + 1) f v m g b ∧ (w'.alloc (.cells #[.int .u8 x] 5)).grownBy w'' a.ownBlock := by
  have H1 := Has.new w' .u8 1 (fun _ => x) 5 w'.heap.size rfl
  obtain ⟨v, w'', hr, ho, hg, hw⟩ := run_append_Own (P := Tryd.prog) (ty := ty) Tryd.underlying51 one8 (h.one.alloc (.cells (row .u8 1 (fun _ => x)).toArray 5)) (some ⟨w'.heap.size, 0, none⟩) 1 1 (fun _ => x) (fun j hj => ⟨_, rfl, by rw [Addr.add_mid, Nat.zero_add]; exact H1.cell j hj⟩) (fun e => by cases e) (by unfold maxLen; omega) (by omega) (by simp; omega)
  refine ⟨v, w'', hr, ⟨ho.congr fun j hj => ?_, World.ownsRow.kept (h.two.alloc _) hg (.inr fun e => h.ne e.symm), fun e => ?_⟩, hg⟩
  · unfold app
    by_cases e : j < n
    · rw [if_pos e]
    · rw [if_neg e, ← hx, show j = n by omega]
  · obtain ⟨q, cap, rfl, _⟩ := ho.has (by omega)
    rcases hw q rfl with h1 | h1
    · exact h.ne (h1.trans e)
    · have := (World.ownsRow.lt h.two q e.symm).2
      simp at h1
      omega
theorem refMac_any (kp : Option Addr) (kl kc : Nat) (hkl : kl ≤ 140737488355072) (hkn : kp = none → kc = 0) (key : Nat → Int) (hk : In 256 kl key) (sp : Option Addr) (len cap : Nat) (hlen : len ≤ 140737488354816) (hn0 : sp = none → cap = 0) (z : Nat → Int) (hz : In 256 len z) (w : World) (hks : Src w kp kl key) (hs : Src w sp len z) :
    Calls Tryd.prog 31 #[.slice kp kl kc, .slice sp len cap] w fun e w' => e = .returned (.agg (row .u8 32 (bmac kl key len z)).toArray) ∧ Below w.heap.size w w' := by
  have K := Kr.init w
  replace K := K.make 32 zu8_32 23 (w.heap.size) rfl (key_zero _ _ _ rfl).there
  go_enter Tryd.func31, Tryd.ntmps31
  go_upto_region 1 with fail
  generalize (w.alloc (.cells zu8_32 23)) = w0 at K ⊢
  refine wp_region_list ?_
  refine actL (w' := w0.alloc (.cells #[] 5)) (.slice (some ⟨w0.heap.size, 0, none⟩) 0 0) rfl (by kernel_rfl) ?_
  simp only [aP, lI, l0, lS]
  refine pureL (.slice kp kl kc) rfl (fun _ => by kernel_rfl) ?_
  simp only [aP, lI, l0, lS]
  have hO : Own (w0.alloc (.cells #[] 5)) (w.heap.size + 1) 5 .u8 0 key (.slice (some ⟨w0.heap.size, 0, none⟩) 0 0) := Own.lit w0 (w.heap.size + 1) 5 .u8 0 key K.size (by unfold maxLen; omega)
  replace K := K.call ((Below.refl w0.heap.size w0).alloc (Nat.le_refl _) (.cells #[] 5))
  generalize w0.alloc (.cells #[] 5) = w1 at K hO ⊢
  obtain ⟨v, w2, hr, ho, hg, _⟩ := run_append_Own (P := Tryd.prog) (ty := 51) Tryd.underlying51 one8 hO kp kl kc key (hks.below K.below (Nat.le_refl _)) hkn (by unfold maxLen; omega) (by omega) K.size
  replace K := K.grown hg (fun b hb => (World.ownsRow.lt hO b hb).1)
  refine actL v rfl (appendOp _ _ 51 _ _ _ rfl rfl rfl hr) ?_
  simp only [aP, lI, l0, lS]
  refine pureL v rfl (fun _ => by kernel_rfl) ?_
  simp only [aP, lI, l0, lS]
  replace hO : Own w2 (w.heap.size + 1) 5 .u8 kl key v := by
    rw [Nat.zero_add] at ho
    exact ho.congr fun j hj => by unfold app; rw [if_neg (by omega), Nat.sub_zero]
  clear hr ho hg
  obtain ⟨ts, tc, rfl, htc, hts⟩ := hO.bytes
  show Exit.then _ _ _ _ _
  by_cases hl : kl ≤ 64
  · have h1 : ¬ (64 : Int) < (kl : Int) := by omega
    have h2 : ¬ (65 : Int) ≤ (kl : Int) := by omega
    have HT : Own w2 (w.heap.size + 1) 5 .u8 kl (bkk kl key) (.slice ts kl tc) := hO.congr fun j hj => by unfold bkk; rw [if_pos hl, if_pos hj]
    have hpad : ∀ n, kl ≤ n → bkk kl key n = 0 := fun n hn => by unfold bkk; rw [if_pos hl, if_neg (by omega)]
    clear hO hts
    go_wp2
    go_loopw [5] (fun tw w' => ∃ (n : Nat) (v : Value), v = tw ∧ kl ≤ n ∧ n ≤ 64 ∧ Own w' (w.heap.size + 1) 5 .u8 n (bkk kl key) v ∧ Kr w (w.heap.size + 1) [] [(w.heap.size, 32)] w') (fun tw _ => 64 - slen tw)
    case atStart => exact ⟨_, _, rfl, Nat.le_refl _, by omega, HT, K⟩
    case round =>
      clear K HT
      obtain ⟨n, v, rfl, hn1, hn2, HT, K⟩ := hrel
      obtain ⟨us, uc, rfl, huc, hus⟩ := HT.bytes
      by_cases hlt : n < 64
      · have g1 : (n : Int) < 64 := by omega
        go_upto_region 6 with fail
        refine wp_region_list ?_
        refine pureL (.slice us n uc) rfl (fun _ => by kernel_rfl) ?_
        simp only [aP, lI, l0, lS]
        refine actL (w' := wr.alloc (.cells #[.int .u8 0] 5)) (.slice (some ⟨wr.heap.size, 0, none⟩) 1 1) rfl (by kernel_rfl) ?_
        simp only [aP, lI, l0, lS]
        obtain ⟨v, w5, hr, ho, hg⟩ := HT.more8 (by omega) 0 (hpad n hn1) 51 K.size
        replace K := (K.call ((Below.refl wr.heap.size wr).alloc (Nat.le_refl _) (.cells #[.int .u8 0] 5))).grown hg (fun b hb => (World.ownsRow.lt HT b hb).1)
        refine actL v rfl (appendOp _ _ 51 _ _ _ rfl rfl rfl hr) ?_
        simp only [aP, lI, l0, lS]
        refine pureL v rfl (fun _ => by kernel_rfl) ?_
        simp only [aP, lI, l0, lS]
        show Exit.inBlock _ _ _ _ _
        obtain ⟨ts2, tc2, rfl, _, _⟩ := ho.bytes
        have HS := show Hid _ from (And.intro ho K)
        clear HT K hr ho hg hus
        go_wp2
        go_roundw
        case rel => first | exact ⟨n + 1, _, rfl, by omega, by omega, HS.out⟩ | ((repeat apply Exists.intro); refine ⟨⟨n + 1, _, rfl, by omega, by omega, HS.out⟩, rfl⟩)
        case measure => simp [slen]; omega
      · obtain rfl : n = 64 := by omega
        obtain ⟨G, _, hve, hG1, hG2, HG⟩ := HT.has (by omega)
        injection hve with hve1 _ hve3
        subst hve1 hve3
        replace K := K.own hG1 hG2 HG
        clear HG HT hus hpad hlt hn1 hn2
        go_upto_region 7 with fail
        refine wp_region_list ?_
        refine actL (w' := wr.alloc (.cells #[] 5)) (.slice (some ⟨wr.heap.size, 0, none⟩) 0 0) rfl (by kernel_rfl) ?_
        simp only [aP, lI, l0, lS]
        refine pureL (.slice (some ⟨wr.heap.size, 0, none⟩) 0 0) rfl (fun _ => by kernel_rfl) ?_
        simp only [aP, lI, l0, lS]
        show Exit.then _ _ _ _ _
        go_upto_region 8 with fail
        refine wp_region_list ?_
        refine actL (w' := (wr.alloc (.cells #[] 5)).alloc (.cells #[] 5)) (.slice (some ⟨(wr.alloc (.cells #[] 5)).heap.size, 0, none⟩) 0 0) rfl (by kernel_rfl) ?_
        simp only [aP, lI, l0, lS]
        refine pureL (.slice (some ⟨(wr.alloc (.cells #[] 5)).heap.size, 0, none⟩) 0 0) rfl (fun _ => by kernel_rfl) ?_
        simp only [aP, lI, l0, lS]
        have H2 : Two8 ((wr.alloc (.cells #[] 5)).alloc (.cells #[] 5)) wr.heap.size 0 (bxx 54 (bkk kl key)) (.slice (some ⟨wr.heap.size, 0, none⟩) 0 0) 0 (bxx 92 (bkk kl key)) (.slice (some ⟨(wr.alloc (.cells #[] 5)).heap.size, 0, none⟩) 0 0) :=
          ⟨Own.alloc (Own.lit wr wr.heap.size 5 .u8 0 _ (Nat.le_refl _) (by unfold maxLen; omega)) _, Own.lit (wr.alloc (.cells #[] 5)) wr.heap.size 5 .u8 0 _ (by simp) (by unfold maxLen; omega), fun e => by injection e with e; simp at e⟩
        replace K := (K.call ((Below.refl wr.heap.size wr).alloc (Nat.le_refl _) (.cells #[] 5))).call ((Below.refl _ _).alloc (Nat.le_refl _) (.cells #[] 5))
        generalize (wr.alloc (.cells #[] 5)).alloc (.cells #[] 5) = w6 at K H2 ⊢
        generalize Value.slice (some ⟨(wr.alloc (.cells #[] 5)).heap.size, 0, none⟩) 0 0 = vb at H2 ⊢
        generalize Value.slice (some ⟨wr.heap.size, 0, none⟩) 0 0 = va at H2 ⊢
        generalize wr.heap.size = Q at K H2
        show Exit.then _ _ _ _ _
        go_wp2
        go_loopw [7, 8, 9] (fun aw bw i w' => ∃ (n : Nat) (va vb : Value), n ≤ 64 ∧ va = aw ∧ vb = bw ∧ i = .int .i64 (n : Int) ∧ Two8 w' Q n (bxx 54 (bkk kl key)) va n (bxx 92 (bkk kl key)) vb ∧ Kr w Q [(G, .u8, 64, bkk kl key)] [(w.heap.size, 32)] w') (fun _ _ i _ => 64 - (intOf i).toNat)
        case atStart => exact ⟨0, _, _, by omega, rfl, rfl, rfl, H2, K⟩
        case round =>
          clear K H2
          obtain ⟨n, va, vb, hn, rfl, rfl, rfl, H2, K⟩ := hrel
          have g1 : (0 : Int) ≤ (n : Int) := by omega
          by_cases hlt : n < 64
          · have g2 : (n : Int) < 64 := by omega
            go_upto_region 12 with fail
            refine wp_region_list ?_
            refine pureL va rfl (fun _ => by kernel_rfl) ?_
            simp only [aP, lI, l0, lS]
            refine pureL (.slice (some ⟨G, 0, none⟩) 64 uc) rfl (fun _ => by kernel_rfl) ?_
            simp only [aP, lI, l0, lS]
            refine pureL (.int .i64 (n : Int)) rfl (fun _ => by kernel_rfl) ?_
            simp only [aP, lI, l0, lS]
            refine pureL (.pointer (some ⟨G, n, none⟩)) rfl (fun w' => idxO G 64 uc n hlt w' _ _ rfl rfl rfl) ?_
            simp only [aP, lI, l0, lS]
            refine cellL .u8 (.int .u8 (bkk kl key n)) G n 5 _ rfl rfl rfl Tryd.underlying5 ((K.get _ _ _ _ mS).cell n hlt) ?_
            simp only [aP, lI, l0, lS]
            refine pureL (.int .u8 (bxx 54 (bkk kl key) n)) rfl (fun w => xorI .u8 _ _ _ _ _ _ _ rfl rfl rfl rfl w) ?_
            simp only [aP, lI, l0, lS]
            refine actL (w' := wr.alloc (.cells #[.int .u8 (bxx 54 (bkk kl key) n)] 5)) (.slice (some ⟨wr.heap.size, 0, none⟩) 1 1) rfl (by kernel_rfl) ?_
            simp only [aP, lI, l0, lS]
            obtain ⟨va1, w7, hr, h2, hg⟩ := H2.more (by omega) (bxx 54 (bkk kl key) n) rfl 51 K.size
            replace K := (K.call ((Below.refl wr.heap.size wr).alloc (Nat.le_refl _) (.cells #[.int .u8 (bxx 54 (bkk kl key) n)] 5))).grown hg (fun b hb => (World.ownsRow.lt H2.one b hb).1)
            refine actL va1 rfl (appendOp _ _ 51 _ _ _ rfl rfl rfl hr) ?_
            simp only [aP, lI, l0, lS]
            refine pureL va1 rfl (fun _ => by kernel_rfl) ?_
            simp only [aP, lI, l0, lS]
            replace H2 := h2.symm
            clear hr hg h2
            show Exit.then _ _ _ _ _
            go_upto_region 13 with fail
            refine wp_region_list ?_
            refine pureL vb rfl (fun _ => by kernel_rfl) ?_
            simp only [aP, lI, l0, lS]
            refine pureL (.slice (some ⟨G, 0, none⟩) 64 uc) rfl (fun _ => by kernel_rfl) ?_
            simp only [aP, lI, l0, lS]
            refine pureL (.int .i64 (n : Int)) rfl (fun _ => by kernel_rfl) ?_
            simp only [aP, lI, l0, lS]
            refine pureL (.pointer (some ⟨G, n, none⟩)) rfl (fun w' => idxO G 64 uc n hlt w' _ _ rfl rfl rfl) ?_
            simp only [aP, lI, l0, lS]
            refine cellL .u8 (.int .u8 (bkk kl key n)) G n 5 _ rfl rfl rfl Tryd.underlying5 ((K.get _ _ _ _ mS).cell n hlt) ?_
            simp only [aP, lI, l0, lS]
            refine pureL (.int .u8 (bxx 92 (bkk kl key) n)) rfl (fun w => xorI .u8 _ _ _ _ _ _ _ rfl rfl rfl rfl w) ?_
            simp only [aP, lI, l0, lS]
            refine actL (w' := w7.alloc (.cells #[.int .u8 (bxx 92 (bkk kl key) n)] 5)) (.slice (some ⟨w7.heap.size, 0, none⟩) 1 1) rfl (by kernel_rfl) ?_
            simp only [aP, lI, l0, lS]
            obtain ⟨vb1, w8, hr, h2, hg⟩ := H2.more (by omega) (bxx 92 (bkk kl key) n) rfl 51 K.size
            replace K := (K.call ((Below.refl w7.heap.size w7).alloc (Nat.le_refl _) (.cells #[.int .u8 (bxx 92 (bkk kl key) n)] 5))).grown hg (fun b hb => (World.ownsRow.lt H2.one b hb).1)
            refine actL vb1 rfl (appendOp _ _ 51 _ _ _ rfl rfl rfl hr) ?_
            simp only [aP, lI, l0, lS]
            refine pureL vb1 rfl (fun _ => by kernel_rfl) ?_
            simp only [aP, lI, l0, lS]
            replace H2 := h2.symm
            clear hr hg h2
            show Exit.inBlock _ _ _ _ _
            have HS := show Hid _ from (And.intro H2 K)
            clear H2 K
            go_wp2
            go_roundw
            case rel => first | exact ⟨n + 1, _, _, by omega, rfl, rfl, by go_num, HS.out⟩ | ((repeat apply Exists.intro); refine ⟨⟨n + 1, _, _, by omega, rfl, rfl, by go_num, HS.out⟩, rfl⟩)
            case measure => simp [intOf]; omega
          · obtain rfl : n = 64 := by omega
            clear hlt hn g1
            have hk64 := bkk_in kl key hk 64
            go_upto_region 14 with fail
            refine wp_region_list ?_
            refine pureL va rfl (fun _ => by kernel_rfl) ?_
            simp only [aP, lI, l0, lS]
            refine pureL (.slice sp len cap) rfl (fun _ => by kernel_rfl) ?_
            simp only [aP, lI, l0, lS]
            obtain ⟨v1, w7, hr, ho, hg, _⟩ := run_append_Own (P := Tryd.prog) (ty := 51) Tryd.underlying51 one8 H2.one sp len cap z (hs.below K.below (Nat.le_refl _)) hn0 (by unfold maxLen; omega) (by omega) K.size
            replace K := K.grown hg (fun b hb => (World.ownsRow.lt H2.one b hb).1)
            have hob : Own w7 Q 5 .u8 64 (bxx 92 (bkk kl key)) vb := World.ownsRow.kept H2.two hg (.inr fun e => H2.ne e.symm)
            refine actL v1 rfl (appendOp _ _ 51 _ _ _ rfl rfl rfl hr) ?_
            simp only [aP, lI, l0, lS]
            obtain ⟨ip, ic, rfl, hic, his⟩ := ho.bytes
            refine callL rfl (fun _ => by kernel_rfl) (refHash_any ip (64 + len) ic (by omega) ho.nilCap (app (bxx 54 (bkk kl key)) 64 z) (app_in 64 len _ _ (bxx_in 54 (by decide) _ 64 hk64) hz) _ his) ?_
            rintro e w8 ⟨rfl, l⟩
            replace K := K.call l
            replace hob := hob.below l
            clear l H2 ho hr hg his
            refine ⟨_, rfl, ?_⟩
            simp only [aP, lI, l0, lS]
            obtain ⟨hi, hhi⟩ : ∃ f, f = bhash (64 + len) (app (bxx 54 (bkk kl key)) 64 z) := ⟨_, rfl⟩
            rw [← hhi]
            replace hhi := show Hid _ from hhi
            refine allocL zu8_32 23 rfl (fun _ => by kernel_rfl) ?_
            simp only [aP, lI, l0, lS]
            refine storesL .u8 32 hi w8.heap.size 23 _ _ rfl rfl rfl rfl (room_of (key_zero _ _ _ rfl).there) (key_info' _) ?_
            simp only [Act.put]
            have zT := K.size
            have hQ1 : w.heap.size < Q := (K.room _ mS).2.1
            have hbl : Below w8.heap.size w8 ((w8.alloc (.cells zu8_32 23)).setCells w8.heap.size 0 (row .u8 32 hi)) := below_setAll ((Below.refl w8.heap.size w8).alloc (Nat.le_refl _) _) _ (Nat.le_refl _) 0 _
            replace hob := hob.below hbl
            replace K := K.fresh .u8 32 hi zu8_32 23 (key_zero _ _ _ rfl).there
            clear hbl
            generalize ((w8.alloc (.cells zu8_32 23)).setCells w8.heap.size 0 (row .u8 32 hi)) = w9 at K hob ⊢
            generalize w8.heap.size = T at *
            show Exit.then _ _ _ _ _
            go_upto_region 15 with fail
            refine wp_region_list ?_
            refine pureL vb rfl (fun _ => by kernel_rfl) ?_
            simp only [aP, lI, l0, lS]
            refine pureL (.slice (some ⟨T, 0, none⟩) 32 32) rfl (fun _ => by kernel_rfl) ?_
            simp only [aP, lI, l0, lS]
            obtain ⟨v2, w10, hr, ho, hg, _⟩ := run_append_Own (P := Tryd.prog) (ty := 51) Tryd.underlying51 one8 hob (some ⟨T, 0, none⟩) 32 32 hi (fun j hj => ⟨_, rfl, by rw [Addr.add_mid, Nat.zero_add]; exact (K.get _ _ _ _ mS).cell j hj⟩) (fun e => by cases e) (by unfold maxLen; omega) (by omega) (by have := K.size; omega)
            replace K := (K.back [] Q (fun _ hp => by cases hp) (fun _ hp => by cases hp) (fun q hq => by obtain rfl := List.mem_singleton.1 hq; simp only; omega) (by omega) (by omega)).grown hg (fun b hb => (World.ownsRow.lt hob b hb).1)
            refine actL v2 rfl (appendOp _ _ 51 _ _ _ rfl rfl rfl hr) ?_
            simp only [aP, lI, l0, lS]
            obtain ⟨op, oc, rfl, hoc, hos⟩ := ho.bytes
            have hhi2 := hhi.out
            refine callL rfl (fun _ => by kernel_rfl) (refHash_any op 96 oc (by omega) ho.nilCap (app (bxx 92 (bkk kl key)) 64 hi) (app_in 64 32 _ _ (bxx_in 92 (by decide) _ 64 hk64) (by rw [hhi2]; exact bhash_in _ _ _)) _ hos) ?_
            rintro e w11 ⟨rfl, l⟩
            replace K := K.call l
            clear l ho hr hg hos hob
            refine ⟨_, rfl, ?_⟩
            simp only [aP, lI, l0, lS]
            have hz' := (K.room _ mS).1
            have hB := (K.fill _ _ mS (row .u8 32 (bhash 96 (app (bxx 92 (bkk kl key)) 64 hi)))).below
            have hres : bhash 96 (app (bxx 92 (bkk kl key)) 64 hi) = bmac kl key len z := by rw [hhi2]; rfl
            rw [hres] at hB ⊢
            clear K hhi2 hres
            generalize hj : bmac kl key len z = f at *
            refine storesL .u8 32 f (w.heap.size) 23 _ _ rfl rfl rfl rfl (room_of hz') (key_info' _) ?_
            simp only [Act.put]
            show Exit.then _ _ _ _ _
            go_wp2
            exact bodyPost_ret (v := (.agg (row .u8 32 (f)).toArray)) (results_row Tryd.results31 rfl (Has.all hz' .u8 f).range Tryd.underlying23 rfl (key_info f)) rfl ⟨rfl, hB⟩
  · have h1 : (64 : Int) < (kl : Int) := by omega
    have h2 : (65 : Int) ≤ (kl : Int) := by omega
    go_upto_region 3 with fail
    refine wp_region_list ?_
    refine pureL (.slice ts kl tc) rfl (fun _ => by kernel_rfl) ?_
    simp only [aP, lI, l0, lS]
    refine callL rfl (fun _ => by kernel_rfl) (refHash_any ts kl tc (by omega) hO.nilCap key hk _ hts) ?_
    rintro e w3 ⟨rfl, l⟩
    replace K := K.call l
    clear l hO hts
    refine ⟨_, rfl, ?_⟩
    simp only [aP, lI, l0, lS]
    refine allocL zu8_32 23 rfl (fun _ => by kernel_rfl) ?_
    simp only [aP, lI, l0, lS]
    refine storesL .u8 32 (bhash kl key) w3.heap.size 23 _ _ rfl rfl rfl rfl (room_of (key_zero _ _ _ rfl).there) (key_info' _) ?_
    simp only [Act.put]
    have zT := K.size
    replace K := K.fresh .u8 32 (bhash kl key) zu8_32 23 (key_zero _ _ _ rfl).there
    generalize ((w3.alloc (.cells zu8_32 23)).setCells w3.heap.size 0 (row .u8 32 (bhash kl key))) = w4 at K ⊢
    generalize w3.heap.size = T at *
    show Exit.then _ _ _ _ _
    go_upto_region 4 with fail
    refine wp_region_list ?_
    refine actL (w' := w4.alloc (.cells #[] 5)) (.slice (some ⟨w4.heap.size, 0, none⟩) 0 0) rfl (by kernel_rfl) ?_
    simp only [aP, lI, l0, lS]
    refine pureL (.slice (some ⟨T, 0, none⟩) 32 32) rfl (fun _ => by kernel_rfl) ?_
    simp only [aP, lI, l0, lS]
    have hO : Own (w4.alloc (.cells #[] 5)) (T + 1) 5 .u8 0 key (.slice (some ⟨w4.heap.size, 0, none⟩) 0 0) := Own.lit w4 (T + 1) 5 .u8 0 key K.size (by unfold maxLen; omega)
    replace K := K.call ((Below.refl w4.heap.size w4).alloc (Nat.le_refl _) (.cells #[] 5))
    generalize w4.alloc (.cells #[] 5) = w5 at K hO ⊢
    obtain ⟨v, w6, hr, ho, hg, _⟩ := run_append_Own (P := Tryd.prog) (ty := 51) Tryd.underlying51 one8 hO (some ⟨T, 0, none⟩) 32 32 (bhash kl key) (fun j hj => ⟨_, rfl, by rw [Addr.add_mid, Nat.zero_add]; exact (K.get _ _ _ _ mS).cell j hj⟩) (fun e => by cases e) (by unfold maxLen; omega) (by omega) K.size
    replace K := (K.sub [] (fun _ hp => by cases hp)).grown hg (fun b hb => (World.ownsRow.lt hO b hb).1)
    refine actL v rfl (appendOp _ _ 51 _ _ _ rfl rfl rfl hr) ?_
    simp only [aP, lI, l0, lS]
    refine pureL v rfl (fun _ => by kernel_rfl) ?_
    simp only [aP, lI, l0, lS]
    have HT : Own w6 (T + 1) 5 .u8 32 (bkk kl key) v := by
      rw [Nat.zero_add] at ho
      exact ho.congr fun j hj => by unfold app bkk; rw [if_neg (by omega), if_neg hl, if_pos hj, Nat.sub_zero]
    have hpad : ∀ n, 32 ≤ n → bkk kl key n = 0 := fun n hn => by unfold bkk; rw [if_neg hl, if_neg (by omega)]
    clear hr ho hg hO
    show Exit.then _ _ _ _ _
    go_wp2
    go_loopw [5] (fun tw w' => ∃ (n : Nat) (v : Value), v = tw ∧ 32 ≤ n ∧ n ≤ 64 ∧ Own w' (T + 1) 5 .u8 n (bkk kl key) v ∧ Kr w (T + 1) [] [(w.heap.size, 32)] w') (fun tw _ => 64 - slen tw)
    case atStart => exact ⟨_, _, rfl, Nat.le_refl _, by omega, HT, K⟩
    case round =>
      clear K HT
      obtain ⟨n, v, rfl, hn1, hn2, HT, K⟩ := hrel
      obtain ⟨us, uc, rfl, huc, hus⟩ := HT.bytes
      by_cases hlt : n < 64
      · have g1 : (n : Int) < 64 := by omega
        go_upto_region 6 with fail
        refine wp_region_list ?_
        refine pureL (.slice us n uc) rfl (fun _ => by kernel_rfl) ?_
        simp only [aP, lI, l0, lS]
        refine actL (w' := wr.alloc (.cells #[.int .u8 0] 5)) (.slice (some ⟨wr.heap.size, 0, none⟩) 1 1) rfl (by kernel_rfl) ?_
        simp only [aP, lI, l0, lS]
        obtain ⟨v, w5, hr, ho, hg⟩ := HT.more8 (by omega) 0 (hpad n hn1) 51 K.size
        replace K := (K.call ((Below.refl wr.heap.size wr).alloc (Nat.le_refl _) (.cells #[.int .u8 0] 5))).grown hg (fun b hb => (World.ownsRow.lt HT b hb).1)
        refine actL v rfl (appendOp _ _ 51 _ _ _ rfl rfl rfl hr) ?_
        simp only [aP, lI, l0, lS]
        refine pureL v rfl (fun _ => by kernel_rfl) ?_
        simp only [aP, lI, l0, lS]
        show Exit.inBlock _ _ _ _ _
        obtain ⟨ts2, tc2, rfl, _, _⟩ := ho.bytes
        have HS := show Hid _ from (And.intro ho K)
        clear HT K hr ho hg hus
        go_wp2
        go_roundw
        case rel => first | exact ⟨n + 1, _, rfl, by omega, by omega, HS.out⟩ | ((repeat apply Exists.intro); refine ⟨⟨n + 1, _, rfl, by omega, by omega, HS.out⟩, rfl⟩)
        case measure => simp [slen]; omega
      · obtain rfl : n = 64 := by omega
        obtain ⟨G, _, hve, hG1, hG2, HG⟩ := HT.has (by omega)
        injection hve with hve1 _ hve3
        subst hve1 hve3
        replace K := K.own hG1 hG2 HG
        clear HG HT hus hpad hlt hn1 hn2
        go_upto_region 7 with fail
        refine wp_region_list ?_
        refine actL (w' := wr.alloc (.cells #[] 5)) (.slice (some ⟨wr.heap.size, 0, none⟩) 0 0) rfl (by kernel_rfl) ?_
        simp only [aP, lI, l0, lS]
        refine pureL (.slice (some ⟨wr.heap.size, 0, none⟩) 0 0) rfl (fun _ => by kernel_rfl) ?_
        simp only [aP, lI, l0, lS]
        show Exit.then _ _ _ _ _
        go_upto_region 8 with fail
        refine wp_region_list ?_
        refine actL (w' := (wr.alloc (.cells #[] 5)).alloc (.cells #[] 5)) (.slice (some ⟨(wr.alloc (.cells #[] 5)).heap.size, 0, none⟩) 0 0) rfl (by kernel_rfl) ?_
        simp only [aP, lI, l0, lS]
        refine pureL (.slice (some ⟨(wr.alloc (.cells #[] 5)).heap.size, 0, none⟩) 0 0) rfl (fun _ => by kernel_rfl) ?_
        simp only [aP, lI, l0, lS]
        have H2 : Two8 ((wr.alloc (.cells #[] 5)).alloc (.cells #[] 5)) wr.heap.size 0 (bxx 54 (bkk kl key)) (.slice (some ⟨wr.heap.size, 0, none⟩) 0 0) 0 (bxx 92 (bkk kl key)) (.slice (some ⟨(wr.alloc (.cells #[] 5)).heap.size, 0, none⟩) 0 0) :=
          ⟨Own.alloc (Own.lit wr wr.heap.size 5 .u8 0 _ (Nat.le_refl _) (by unfold maxLen; omega)) _, Own.lit (wr.alloc (.cells #[] 5)) wr.heap.size 5 .u8 0 _ (by simp) (by unfold maxLen; omega), fun e => by injection e with e; simp at e⟩
        replace K := (K.call ((Below.refl wr.heap.size wr).alloc (Nat.le_refl _) (.cells #[] 5))).call ((Below.refl _ _).alloc (Nat.le_refl _) (.cells #[] 5))
        generalize (wr.alloc (.cells #[] 5)).alloc (.cells #[] 5) = w6 at K H2 ⊢
        generalize Value.slice (some ⟨(wr.alloc (.cells #[] 5)).heap.size, 0, none⟩) 0 0 = vb at H2 ⊢
        generalize Value.slice (some ⟨wr.heap.size, 0, none⟩) 0 0 = va at H2 ⊢
        generalize wr.heap.size = Q at K H2
        show Exit.then _ _ _ _ _
        go_wp2
        go_loopw [7, 8, 9] (fun aw bw i w' => ∃ (n : Nat) (va vb : Value), n ≤ 64 ∧ va = aw ∧ vb = bw ∧ i = .int .i64 (n : Int) ∧ Two8 w' Q n (bxx 54 (bkk kl key)) va n (bxx 92 (bkk kl key)) vb ∧ Kr w Q [(G, .u8, 64, bkk kl key)] [(w.heap.size, 32)] w') (fun _ _ i _ => 64 - (intOf i).toNat)
        case atStart => exact ⟨0, _, _, by omega, rfl, rfl, rfl, H2, K⟩
        case round =>
          clear K H2
          obtain ⟨n, va, vb, hn, rfl, rfl, rfl, H2, K⟩ := hrel
          have g1 : (0 : Int) ≤ (n : Int) := by omega
          by_cases hlt : n < 64
          · have g2 : (n : Int) < 64 := by omega
            go_upto_region 12 with fail
            refine wp_region_list ?_
            refine pureL va rfl (fun _ => by kernel_rfl) ?_
            simp only [aP, lI, l0, lS]
            refine pureL (.slice (some ⟨G, 0, none⟩) 64 uc) rfl (fun _ => by kernel_rfl) ?_
            simp only [aP, lI, l0, lS]
            refine pureL (.int .i64 (n : Int)) rfl (fun _ => by kernel_rfl) ?_
            simp only [aP, lI, l0, lS]
            refine pureL (.pointer (some ⟨G, n, none⟩)) rfl (fun w' => idxO G 64 uc n hlt w' _ _ rfl rfl rfl) ?_
            simp only [aP, lI, l0, lS]
            refine cellL .u8 (.int .u8 (bkk kl key n)) G n 5 _ rfl rfl rfl Tryd.underlying5 ((K.get _ _ _ _ mS).cell n hlt) ?_
            simp only [aP, lI, l0, lS]
            refine pureL (.int .u8 (bxx 54 (bkk kl key) n)) rfl (fun w => xorI .u8 _ _ _ _ _ _ _ rfl rfl rfl rfl w) ?_
            simp only [aP, lI, l0, lS]
            refine actL (w' := wr.alloc (.cells #[.int .u8 (bxx 54 (bkk kl key) n)] 5)) (.slice (some ⟨wr.heap.size, 0, none⟩) 1 1) rfl (by kernel_rfl) ?_
            simp only [aP, lI, l0, lS]
            obtain ⟨va1, w7, hr, h2, hg⟩ := H2.more (by omega) (bxx 54 (bkk kl key) n) rfl 51 K.size
            replace K := (K.call ((Below.refl wr.heap.size wr).alloc (Nat.le_refl _) (.cells #[.int .u8 (bxx 54 (bkk kl key) n)] 5))).grown hg (fun b hb => (World.ownsRow.lt H2.one b hb).1)
            refine actL va1 rfl (appendOp _ _ 51 _ _ _ rfl rfl rfl hr) ?_
            simp only [aP, lI, l0, lS]
            refine pureL va1 rfl (fun _ => by kernel_rfl) ?_
            simp only [aP, lI, l0, lS]
            replace H2 := h2.symm
            clear hr hg h2
            show Exit.then _ _ _ _ _
            go_upto_region 13 with fail
            refine wp_region_list ?_
            refine pureL vb rfl (fun _ => by kernel_rfl) ?_
            simp only [aP, lI, l0, lS]
            refine pureL (.slice (some ⟨G, 0, none⟩) 64 uc) rfl (fun _ => by kernel_rfl) ?_
            simp only [aP, lI, l0, lS]
            refine pureL (.int .i64 (n : Int)) rfl (fun _ => by kernel_rfl) ?_
            simp only [aP, lI, l0, lS]
            refine pureL (.pointer (some ⟨G, n, none⟩)) rfl (fun w' => idxO G 64 uc n hlt w' _ _ rfl rfl rfl) ?_
            simp only [aP, lI, l0, lS]
            refine cellL .u8 (.int .u8 (bkk kl key n)) G n 5 _ rfl rfl rfl Tryd.underlying5 ((K.get _ _ _ _ mS).cell n hlt) ?_
            simp only [aP, lI, l0, lS]
            refine pureL (.int .u8 (bxx 92 (bkk kl key) n)) rfl (fun w => xorI .u8 _ _ _ _ _ _ _ rfl rfl rfl rfl w) ?_
            simp only [aP, lI, l0, lS]
            refine actL (w' := w7.alloc (.cells #[.int .u8 (bxx 92 (bkk kl key) n)] 5)) (.slice (some ⟨w7.heap.size, 0, none⟩) 1 1) rfl (by kernel_rfl) ?_
            simp only [aP, lI, l0, lS]
            obtain ⟨vb1, w8, hr, h2, hg⟩ := H2.more (by omega) (bxx 92 (bkk kl key) n) rfl 51 K.size
            replace K := (K.call ((Below.refl w7.heap.size w7).alloc (Nat.le_refl _) (.cells #[.int .u8 (bxx 92 (bkk kl key) n)] 5))).grown hg (fun b hb => (World.ownsRow.lt H2.one b hb).1)
            refine actL vb1 rfl (appendOp _ _ 51 _ _ _ rfl rfl rfl hr) ?_
            simp only [aP, lI, l0, lS]
            refine pureL vb1 rfl (fun _ => by kernel_rfl) ?_
            simp only [aP, lI, l0, lS]
            replace H2 := h2.symm
            clear hr hg h2
            show Exit.inBlock _ _ _ _ _
            have HS := show Hid _ from (And.intro H2 K)
            clear H2 K
            go_wp2
            go_roundw
            case rel => first | exact ⟨n + 1, _, _, by omega, rfl, rfl, by go_num, HS.out⟩ | ((repeat apply Exists.intro); refine ⟨⟨n + 1, _, _, by omega, rfl, rfl, by go_num, HS.out⟩, rfl⟩)
            case measure => simp [intOf]; omega
          · obtain rfl : n = 64 := by omega
            clear hlt hn g1
            have hk64 := bkk_in kl key hk 64
            go_upto_region 14 with fail
            refine wp_region_list ?_
            refine pureL va rfl (fun _ => by kernel_rfl) ?_
            simp only [aP, lI, l0, lS]
            refine pureL (.slice sp len cap) rfl (fun _ => by kernel_rfl) ?_
            simp only [aP, lI, l0, lS]
            obtain ⟨v1, w7, hr, ho, hg, _⟩ := run_append_Own (P := Tryd.prog) (ty := 51) Tryd.underlying51 one8 H2.one sp len cap z (hs.below K.below (Nat.le_refl _)) hn0 (by unfold maxLen; omega) (by omega) K.size
            replace K := K.grown hg (fun b hb => (World.ownsRow.lt H2.one b hb).1)
            have hob : Own w7 Q 5 .u8 64 (bxx 92 (bkk kl key)) vb := World.ownsRow.kept H2.two hg (.inr fun e => H2.ne e.symm)
            refine actL v1 rfl (appendOp _ _ 51 _ _ _ rfl rfl rfl hr) ?_
            simp only [aP, lI, l0, lS]
            obtain ⟨ip, ic, rfl, hic, his⟩ := ho.bytes
            refine callL rfl (fun _ => by kernel_rfl) (refHash_any ip (64 + len) ic (by omega) ho.nilCap (app (bxx 54 (bkk kl key)) 64 z) (app_in 64 len _ _ (bxx_in 54 (by decide) _ 64 hk64) hz) _ his) ?_
            rintro e w8 ⟨rfl, l⟩
            replace K := K.call l
            replace hob := hob.below l
            clear l H2 ho hr hg his
            refine ⟨_, rfl, ?_⟩
            simp only [aP, lI, l0, lS]
            obtain ⟨hi, hhi⟩ : ∃ f, f = bhash (64 + len) (app (bxx 54 (bkk kl key)) 64 z) := ⟨_, rfl⟩
            rw [← hhi]
            replace hhi := show Hid _ from hhi
            refine allocL zu8_32 23 rfl (fun _ => by kernel_rfl) ?_
            simp only [aP, lI, l0, lS]
            refine storesL .u8 32 hi w8.heap.size 23 _ _ rfl rfl rfl rfl (room_of (key_zero _ _ _ rfl).there) (key_info' _) ?_
            simp only [Act.put]
            have zT := K.size
            have hQ1 : w.heap.size < Q := (K.room _ mS).2.1
            have hbl : Below w8.heap.size w8 ((w8.alloc (.cells zu8_32 23)).setCells w8.heap.size 0 (row .u8 32 hi)) := below_setAll ((Below.refl w8.heap.size w8).alloc (Nat.le_refl _) _) _ (Nat.le_refl _) 0 _
            replace hob := hob.below hbl
            replace K := K.fresh .u8 32 hi zu8_32 23 (key_zero _ _ _ rfl).there
            clear hbl
            generalize ((w8.alloc (.cells zu8_32 23)).setCells w8.heap.size 0 (row .u8 32 hi)) = w9 at K hob ⊢
            generalize w8.heap.size = T at *
            show Exit.then _ _ _ _ _
            go_upto_region 15 with fail
            refine wp_region_list ?_
            refine pureL vb rfl (fun _ => by kernel_rfl) ?_
            simp only [aP, lI, l0, lS]
            refine pureL (.slice (some ⟨T, 0, none⟩) 32 32) rfl (fun _ => by kernel_rfl) ?_
            simp only [aP, lI, l0, lS]
            obtain ⟨v2, w10, hr, ho, hg, _⟩ := run_append_Own (P := Tryd.prog) (ty := 51) Tryd.underlying51 one8 hob (some ⟨T, 0, none⟩) 32 32 hi (fun j hj => ⟨_, rfl, by rw [Addr.add_mid, Nat.zero_add]; exact (K.get _ _ _ _ mS).cell j hj⟩) (fun e => by cases e) (by unfold maxLen; omega) (by omega) (by have := K.size; omega)
            replace K := (K.back [] Q (fun _ hp => by cases hp) (fun _ hp => by cases hp) (fun q hq => by obtain rfl := List.mem_singleton.1 hq; simp only; omega) (by omega) (by omega)).grown hg (fun b hb => (World.ownsRow.lt hob b hb).1)
            refine actL v2 rfl (appendOp _ _ 51 _ _ _ rfl rfl rfl hr) ?_
            simp only [aP, lI, l0, lS]
            obtain ⟨op, oc, rfl, hoc, hos⟩ := ho.bytes
            have hhi2 := hhi.out
            refine callL rfl (fun _ => by kernel_rfl) (refHash_any op 96 oc (by omega) ho.nilCap (app (bxx 92 (bkk kl key)) 64 hi) (app_in 64 32 _ _ (bxx_in 92 (by decide) _ 64 hk64) (by rw [hhi2]; exact bhash_in _ _ _)) _ hos) ?_
            rintro e w11 ⟨rfl, l⟩
            replace K := K.call l
            clear l ho hr hg hos hob
            refine ⟨_, rfl, ?_⟩
            simp only [aP, lI, l0, lS]
            have hz' := (K.room _ mS).1
            have hB := (K.fill _ _ mS (row .u8 32 (bhash 96 (app (bxx 92 (bkk kl key)) 64 hi)))).below
            have hres : bhash 96 (app (bxx 92 (bkk kl key)) 64 hi) = bmac kl key len z := by rw [hhi2]; rfl
            rw [hres] at hB ⊢
            clear K hhi2 hres
            generalize hj : bmac kl key len z = f at *
            refine storesL .u8 32 f (w.heap.size) 23 _ _ rfl rfl rfl rfl (room_of hz') (key_info' _) ?_
            simp only [Act.put]
            show Exit.then _ _ _ _ _
            go_wp2
            exact bodyPost_ret (v := (.agg (row .u8 32 (f)).toArray)) (results_row Tryd.results31 rfl (Has.all hz' .u8 f).range Tryd.underlying23 rfl (key_info f)) rfl ⟨rfl, hB⟩
def padz (len : Nat) (z : Nat → Int) : Nat → Int := fun j => if j < len then z j else 0
theorem padz_in (len : Nat) (z : Nat → Int) (hz : In 256 len z) (n : Nat) : In 256 n (padz len z) := fun j _ => by
  unfold padz
  split
  · exact hz j (by assumption)
  · omega
end Go.Proofs.YtckohmdmjhaknaaDoor
