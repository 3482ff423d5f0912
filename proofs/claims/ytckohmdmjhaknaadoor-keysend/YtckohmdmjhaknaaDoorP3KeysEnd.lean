/- Texts of Bp Az Bb Sc, joined. -/
import Derived.Test.YtckohmdmjhaknaaDoorP2KeysEnd
import Derived.Test.YtckohmdmjhaknaaDoorP1KeysEnd
set_option maxRecDepth 20000
set_option maxHeartbeats 64000000
namespace Go.Proofs.YtckohmdmjhaknaaDoor
open Go.RowKit
theorem bshlI {P : Program} {o : Oper} {a : Act} (k yk : IntKind) (n y r : Int) (t t' : TypeId) (x x' : Operand) (ho : o.op = .binOp .shl t x x' t') (hx : a.eval x = .int k n) (hy : a.eval x' = .int yk y) (h0 : 0 ≤ y) (hr : k.wrap (n * 2 ^ min y.toNat k.bits) = r) (w : World) : (execOp a.eval o).run P w = .ok (.value (.int k r)) w := by
  unfold execOp
  simp only [ho, hx, hy, Sem.run_bind, eqGuard_at_int, binOp_shl, shift_shl_any k yk n y h0, Sem.run_pure, Result.andThen_ok, hr]
theorem orW {P : Program} {o : Oper} {a : Act} (k : IntKind) (n n' r : Int) (t t' : TypeId) (x y : Operand) (ho : o.op = .binOp .or t x y t') (hx : a.eval x = .int k n) (hy : a.eval y = .int k n') (hr : bits .or k n n' = r) (w : World) : (execOp a.eval o).run P w = .ok (.value (.int k r)) w := by
  unfold execOp
  simp only [ho, hx, hy, Sem.run_bind, eqGuard_at_int, binOp_or, intBits_or, Sem.run_pure, Result.andThen_ok, hr]
theorem Own.more32 {w' : World} {base m : Nat} {f : Nat → Int} {s : Value} (h : Own w' base 60 .u32 m f s) (hm : m < 4294967296) (x : Int) (hx : f m = x) (ty : TypeId) (hb : base ≤ w'.heap.size) :
    ∃ v w'', (Builtin.append_ #[74, 74] ty #[s, .slice (some ⟨w'.heap.size, 0, none⟩) 1 1]).run Tryd.prog (w'.alloc (.cells #[.int .u32 x] 60)) = .ok v w'' ∧ Own w'' base 60 .u32 (m + 1) f v ∧ (w'.alloc (.cells #[.int .u32 x] 60)).grownBy w'' s.ownBlock := by
  have H1 := Has.new w' .u32 1 (fun _ => x) 60 w'.heap.size rfl
  obtain ⟨v, w'', hr, ho, hg, _⟩ := run_append_Own (P := Tryd.prog) (ty := ty) Tryd.underlying74 one32 (h.alloc (.cells (row .u32 1 (fun _ => x)).toArray 60)) (some ⟨w'.heap.size, 0, none⟩) 1 1 (fun _ => x) (fun j hj => ⟨_, rfl, by rw [Addr.add_mid, Nat.zero_add]; exact H1.cell j hj⟩) (fun e => by cases e) (by unfold maxLen; omega) (by omega) (by simp; omega)
  refine ⟨v, w'', hr, ho.congr fun j hj => ?_, hg⟩
  unfold app
  by_cases e : j < m
  · rw [if_pos e]
  · rw [if_neg e, ← hx, show j = m by omega]
theorem idxP (ad : Addr) (cap i : Nat) (hi : i < 64) (w : World) {o : Oper} {a : Act} (x y : Operand) (ho : o.op = .indexAddr 51 x y) (hx : a.eval x = .slice (some ad) 64 cap) (hy : a.eval y = .int .i64 (i : Int)) :
    (execOp a.eval o).run Tryd.prog w = .ok (.value (.pointer (some (ad.add i)))) w :=
  idxSl (P := Tryd.prog) 51 5 64 cap .i64 ad i x y Tryd.underlying51 (fun _ => by kernel_rfl) hi ho hx hy w
theorem bpw_glued (z : Nat → Int) (hz : In 256 64 z) (n : Nat) (hn : n < 16) :
    bits .or .u32 (bits .or .u32 (bits .or .u32 (z (4 * n) % 4294967296) (z (4 * n + 1) % 4294967296 * 256 % 4294967296)) (z (4 * n + 2) % 4294967296 * 65536 % 4294967296)) (z (4 * n + 3) % 4294967296 * 16777216 % 4294967296) = bpw z n :=
  glued32 _ _ _ _ (hz _ (by omega)) (hz _ (by omega)) (hz _ (by omega)) (hz _ (by omega))
theorem andI {P : Program} {o : Oper} {a : Act} (k : IntKind) (n n' r : Int) (t t' : TypeId) (x y : Operand) (ho : o.op = .binOp .and t x y t') (hx : a.eval x = .int k n) (hy : a.eval y = .int k n') (hr : bits .and k n n' = r) (w : World) : (execOp a.eval o).run P w = .ok (.value (.int k r)) w := by
  unfold execOp
  simp only [ho, hx, hy, Sem.run_bind, eqGuard_at_int, binOp_and, intBits_and, Sem.run_pure, Result.andThen_ok, hr]
theorem notI {P : Program} {o : Oper} {a : Act} (k : IntKind) (n r : Int) (t : TypeId) (x : Operand) (ho : o.op = .unOp .xor t x) (hx : a.eval x = .int k n) (hr : bits .xor k (if k.signed then -1 else k.max) n = r) (w : World) : (execOp a.eval o).run P w = .ok (.value (.int k r)) w := by
  unfold execOp
  simp only [ho, hx, unary_xor, intBits_xor, Sem.run_bind, Sem.run_pure, Result.andThen_ok, hr]
theorem and_low (t : Int) (ht : 0 ≤ t ∧ t < 18446744073709551616) : bits .and .u64 t 4294967295 = t % 4294967296 := by
  obtain ⟨t, rfl⟩ := Int.eq_ofNat_of_zero_le ht.1
  have h := u64_and_nat t 4294967295 (by omega) (by decide)
  have e : t &&& 4294967295 = t % 4294967296 := Nat.and_two_pow_sub_one_eq_mod t 32
  rw [e] at h
  exact h.trans (by omega)
theorem bst_of (h : Nat → Int) (t : Int) (f : Nat → Int) (last : Bool) (he : ∀ j, f j = upd (upd (app h 8 iv) 12 (hxr (iv 4) (t % 4294967296))) 13 (hxr (iv 5) (t / 4294967296 % 4294967296)) j) : ∀ j, j < 16 → (if last then upd f 14 (4294967295 - iv 6) else f) j = bst h t last j := fun j hj => by
  have e14 : bst h t last 14 = if last then 4294967295 - iv 6 else iv 6 := rfl
  have hne : j ≠ 14 → f j = bst h t last j := fun e => by
    rw [he j]
    match j, hj, e with
    | 0, _, _ | 1, _, _ | 2, _, _ | 3, _, _ | 4, _, _ | 5, _, _ | 6, _, _ | 7, _, _ | 8, _, _ | 9, _, _ | 10, _, _ | 11, _, _ | 12, _, _ | 13, _, _ | 15, _, _ => rfl
    | 14, _, e => exact absurd rfl e
    | _ + 16, hj, _ => omega
  have h14 : f 14 = iv 6 := he 14
  by_cases e : j = 14
  · subst e
    rw [e14]
    cases last
    · rw [if_neg (by decide), if_neg (by decide)]; exact h14
    · rw [if_pos rfl, if_pos rfl, upd_same]
  · cases last
    · rw [if_neg (by decide)]; exact hne e
    · rw [if_pos rfl, upd_other _ _ _ _ e]; exact hne e
structure PI (z : Nat → Int) (w : World) (X M O : Nat) (bs : Nat → Nat) (f : Nat → Int) (w' : World) : Prop where
  has : Has w' X .u32 16 f
  hm : Has w' M .u32 16 (bpw z)
  sg : SGT w' O bs
  lt : X < w'.heap.size
  ltM : M < w'.heap.size
  below : Below w.heap.size w w'
theorem PI.call {z : Nat → Int} {w w' w'' : World} {X M O : Nat} {bs : Nat → Nat} {f : Nat → Int} (h : PI z w X M O bs f w') (l : Below w'.heap.size w' w'') : PI z w X M O bs f w'' :=
  ⟨h.has.below l h.lt, h.hm.below l h.ltM, h.sg.below l (Nat.le_refl _), Nat.lt_of_lt_of_le h.lt l.size, Nat.lt_of_lt_of_le h.ltM l.size, h.below.trans (l.mono h.below.size)⟩
theorem PI.drew {z : Nat → Int} {w w' : World} {X M O : Nat} {bs : Nat → Nat} {f : Nat → Int} (h : PI z w X M O bs f w') : PI z w X M O bs f w'.drew := h.call (Below.refl _ _).drew
theorem PI.mix {z : Nat → Int} {w w' w'' : World} {X M O : Nat} {bs : Nat → Nat} {f f' : Nat → Int} (h : PI z w X M O bs f w') (g : MI w' X f' w'') (hX0 : w.heap.size ≤ X) (hXM : M < X) (hXO : X < O) (hXb : ∀ r, r < 10 → X < bs r) : PI z w X M O bs f' w'' :=
  ⟨g.has, h.hm.grown g.gr h.ltM (fun e => by injection e with e; omega), ⟨fun r hr => by rw [World.cell?_of_block (a := ⟨O, r, none⟩) (g.gr.block O h.sg.lt (fun e => by injection e with e; omega))]; exact h.sg.top r hr, fun r hr => ⟨(h.sg.rows r hr).1.grown g.gr (h.sg.rows r hr).2 (fun e => by injection e with e; have := hXb r hr; omega), Nat.lt_of_lt_of_le (h.sg.rows r hr).2 g.gr.size⟩, Nat.lt_of_lt_of_le h.sg.lt g.gr.size⟩,
   Nat.lt_of_lt_of_le h.lt g.gr.size, Nat.lt_of_lt_of_le h.ltM g.gr.size, Below.grown h.below g.gr h.below.size (fun b hb => by injection hb with hb; omega)⟩
structure PM (z : Nat → Int) (w : World) (M O : Nat) (bs : Nat → Nat) (w' : World) : Prop where
  hm : Has w' M .u32 16 (bpw z)
  sg : SGT w' O bs
  ltM : M < w'.heap.size
  below : Below w.heap.size w w'
theorem PI.pm {z : Nat → Int} {w w' : World} {X M O : Nat} {bs : Nat → Nat} {f : Nat → Int} (h : PI z w X M O bs f w') : PM z w M O bs w' := ⟨h.hm, h.sg, h.ltM, h.below⟩
theorem at_lo (m : Nat → Int) (s : Nat → Nat) (v : Nat → Int) (q : Nat) (hq : q < 4) : bAt m s v q = bMx v q (4 + q) (8 + q) (12 + q) (m (s (2 * q))) (m (s (2 * q + 1))) := by
  match q, hq with
  | 0, _ | 1, _ | 2, _ | 3, _ => rfl
theorem at_hi (m : Nat → Int) (s : Nat → Nat) (v : Nat → Int) (q : Nat) (hq : q < 4) : bAt m s v (4 + q) = bMx v q (4 + (q + 1) % 4) (8 + (q + 2) % 4) (12 + (q + 3) % 4) (m (s (8 + 2 * q))) (m (s (9 + 2 * q))) := by
  match q, hq with
  | 0, _ | 1, _ | 2, _ | 3, _ => rfl
theorem idxI (b i : Nat) (hi : i < 16) (w : World) {o : Oper} {a : Act} (x y : Operand) (ho : o.op = .indexAddr 24 x y) (hx : a.eval x = .slice (some ⟨b, 0, none⟩) 16 16) (hy : a.eval y = .int .i64 (i : Int)) :
    (execOp a.eval o).run Tryd.prog w = .ok (.value (.pointer (some ⟨b, i, none⟩))) w := by
  have h := idxSl (P := Tryd.prog) 24 3 16 16 .i64 ⟨b, 0, none⟩ i x y Tryd.underlying24 (fun _ => by kernel_rfl) hi ho hx hy w
  rw [Addr.add_mid, Nat.zero_add] at h
  exact h
theorem idxII (b i : Nat) (hi : i < 10) (w : World) {o : Oper} {a : Act} (x y : Operand) (ho : o.op = .indexAddr 86 x y) (hx : a.eval x = .slice (some ⟨b, 0, none⟩) 10 10) (hy : a.eval y = .int .i64 (i : Int)) :
    (execOp a.eval o).run Tryd.prog w = .ok (.value (.pointer (some ⟨b, i, none⟩))) w := by
  have h := idxSl (P := Tryd.prog) 86 24 10 10 .i64 ⟨b, 0, none⟩ i x y Tryd.underlying86 (fun _ => by kernel_rfl) hi ho hx hy w
  rw [Addr.add_mid, Nat.zero_add] at h
  exact h
theorem bloadSl {P : Program} {o : Oper} {a : Act} {w : World} (ty e : TypeId) (x : Operand) (p : Addr) (v : Value) (ho : o.op = .load ty x) (hx : a.eval x = .pointer (some p)) (hu : P.underlying ty = some (.slice e)) (hc : w.cell? p = some v) : (execOp a.eval o).run P w = .ok (.value v) w := by
  have hagg : (isAgg ty).run P w = .ok false w := by
    unfold isAgg
    rw [Sem.run_bind, run_underlying hu w]
    rfl
  have e : (loadVar ty p).run P w = .ok v w := by simp [loadVar, Sem.run_bind, hagg, hc]
  unfold execOp
  simp only [ho, hx, Instr.loadAt, Instr.sureAddr, Sem.run_bind, Sem.run_pure, Result.andThen_ok, e]
theorem refPress_any (h : Nat → Int) (hh : In V 8 h) (A capA : Nat) (sp : Option Addr) (capP : Nat) (z : Nat → Int) (hz : In 256 64 z) (t : Int) (ht : 0 ≤ t ∧ t < 18446744073709551616) (last : Bool) (w : World) (hA : Has w A .u32 8 h) (hAl : A < w.heap.size) (hs : Src w sp 64 z) :
    Calls Tryd.prog 46 #[.slice (some ⟨A, 0, none⟩) 8 capA, .slice sp 64 capP, .int .u64 t, .bool last] w fun e w' => ∃ O cap, e = .returned (.slice (some ⟨O, 0, none⟩) 8 cap) ∧ (w.heap.size ≤ O ∧ O < w'.heap.size ∧ Has w' O .u32 8 (bpr h z t last)) ∧ Below w.heap.size w w' := by
  obtain ⟨ad, rfl, _⟩ := hs 0 (by omega)
  have hsrc : ∀ j, j < 64 → ∀ w', Below w.heap.size w w' → w'.cell? (ad.add j) = some (.int .u8 (z j)) := fun j hj w' l => by
    obtain ⟨ad', e, hc⟩ := hs j hj
    injection e with e
    subst e
    rw [l.cell (p := ad.add j) (World.block_lt_of_cell? w _ hc)]
    exact hc
  clear hs
  go_enter Tryd.func46, Tryd.ntmps46
  go_upto_region 1 with fail
  refine wp_region_list ?_
  refine actL (w' := w.alloc (.cells #[] 60)) (.slice (some ⟨w.heap.size, 0, none⟩) 0 0) rfl (by kernel_rfl) ?_
  simp only [aP, lI, l0, lS]
  refine pureL (.slice (some ⟨w.heap.size, 0, none⟩) 0 0) rfl (fun _ => by kernel_rfl) ?_
  simp only [aP, lI, l0, lS]
  have K := (Below.refl w.heap.size w).alloc (Nat.le_refl _) (.cells #[] 60)
  have HO : Own (w.alloc (.cells #[] 60)) w.heap.size 60 .u32 0 (bpw z) (.slice (some ⟨w.heap.size, 0, none⟩) 0 0) := Own.lit w w.heap.size 60 .u32 0 (bpw z) (Nat.le_refl _) (by unfold maxLen; omega)
  generalize w.alloc (.cells #[] 60) = w0 at K HO ⊢
  generalize Value.slice (some ⟨w.heap.size, 0, none⟩) 0 0 = mv0 at HO ⊢
  show Exit.then _ _ _ _ _
  go_wp2
  go_loopw [9, 10] (fun mw i w' => ∃ (n : Nat) (mv : Value), n ≤ 16 ∧ i = .int .i64 ((4 * n : Nat) : Int) ∧ mv = mw ∧ Own w' w.heap.size 60 .u32 n (bpw z) mv ∧ Below w.heap.size w w') (fun _ i _ => 64 - (intOf i).toNat)
  case atStart => exact ⟨0, _, by omega, rfl, rfl, HO, K⟩
  case round =>
    clear K HO
    obtain ⟨n, mv, hn, rfl, rfl, HO, K⟩ := hrel
    have g1 : (0 : Int) ≤ ((4 * n : Nat) : Int) := by omega
    by_cases hlt : n < 16
    · have g2 : ((4 * n : Nat) : Int) < 64 := by omega
      go_upto_region 5 with fail
      refine wp_region_held_drew (S := fun w' => Below w.heap.size w w') (by kernel_rfl) K.drew ?_
      clear K
      intro K
      replace HO := HO.drew
      generalize wr.drew = w1 at K HO ⊢
      refine pureHg (i := 0) (some 24) rfl mv rfl rfl (fun _ => by kernel_rfl) K ?_
      simp only [aP, lI, l0, lS]
      refine pureHg (i := 1) (some 25) rfl (.slice (some ad) 64 capP) rfl rfl (fun _ => by kernel_rfl) K ?_
      simp only [aP, lI, l0, lS]
      refine pureHg (i := 2) (some 26) rfl (.int .i64 ((4 * n : Nat) : Int)) rfl rfl (fun _ => by kernel_rfl) K ?_
      simp only [aP, lI, l0, lS]
      refine pureHg (i := 3) (some 27) rfl (.pointer (some (ad.add (4 * n)))) rfl rfl (fun w' => idxP ad capP (4 * n) (by omega) w' _ _ rfl rfl rfl) K ?_
      simp only [aP, lI, l0, lS]
      refine cellPH (i := 4) (some 28) rfl .u8 (.int .u8 (z (4 * n))) (ad.add (4 * n)) 5 _ rfl rfl rfl rfl (by kernel_rfl) (by kernel_rfl) (by kernel_rfl) (fun _ _ _ h => h) Tryd.underlying5 K (fun w' h => hsrc _ (by omega) w' h) ?_
      simp only [aP, lI, l0, lS]
      refine pureHg (i := 5) (some 29) rfl (.int .u32 (z (4 * n) % 4294967296)) rfl rfl (fun w => convI .u8 .u32 _ _ _ _ _ rfl (by kernel_rfl) Tryd.underlying60 (by kernel_rfl) rfl (IntKind.wrap_u32' _) w) K ?_
      simp only [aP, lI, l0, lS]
      refine pureHg (i := 6) (some 30) rfl (.slice (some ad) 64 capP) rfl rfl (fun _ => by kernel_rfl) K ?_
      simp only [aP, lI, l0, lS]
      refine pureHg (i := 7) (some 31) rfl (.int .i64 ((4 * n : Nat) : Int)) rfl rfl (fun _ => by kernel_rfl) K ?_
      simp only [aP, lI, l0, lS]
      refine pureHg (i := 8) (some 32) rfl (.int .i64 ((4 * n + 1 : Nat) : Int)) rfl rfl (fun w => addI .i64 _ _ _ _ _ _ _ rfl rfl rfl (by rw [IntKind.wrap_i64]; omega) w) K ?_
      simp only [aP, lI, l0, lS]
      refine pureHg (i := 9) (some 33) rfl (.pointer (some (ad.add (4 * n + 1)))) rfl rfl (fun w' => idxP ad capP (4 * n + 1) (by omega) w' _ _ rfl rfl rfl) K ?_
      simp only [aP, lI, l0, lS]
      refine cellPH (i := 10) (some 34) rfl .u8 (.int .u8 (z (4 * n + 1))) (ad.add (4 * n + 1)) 5 _ rfl rfl rfl rfl (by kernel_rfl) (by kernel_rfl) (by kernel_rfl) (fun _ _ _ h => h) Tryd.underlying5 K (fun w' h => hsrc _ (by omega) w' h) ?_
      simp only [aP, lI, l0, lS]
      refine pureHg (i := 11) (some 35) rfl (.int .u32 (z (4 * n + 1) % 4294967296)) rfl rfl (fun w => convI .u8 .u32 _ _ _ _ _ rfl (by kernel_rfl) Tryd.underlying60 (by kernel_rfl) rfl (IntKind.wrap_u32' _) w) K ?_
      simp only [aP, lI, l0, lS]
      refine pureHg (i := 12) (some 36) rfl (.int .u32 (z (4 * n + 1) % 4294967296 * 256 % 4294967296)) rfl rfl (fun w => bshlI .u32 .u64 _ 8 _ _ _ _ _ rfl rfl rfl (by decide) (IntKind.wrap_u32' _) w) K ?_
      simp only [aP, lI, l0, lS]
      refine pureHg (i := 13) (some 37) rfl (.int .u32 (bits .or .u32 (z (4 * n) % 4294967296) (z (4 * n + 1) % 4294967296 * 256 % 4294967296))) rfl rfl (fun w => orW .u32 _ _ _ _ _ _ _ rfl rfl rfl rfl w) K ?_
      simp only [aP, lI, l0, lS]
      refine pureHg (i := 14) (some 38) rfl (.slice (some ad) 64 capP) rfl rfl (fun _ => by kernel_rfl) K ?_
      simp only [aP, lI, l0, lS]
      refine pureHg (i := 15) (some 39) rfl (.int .i64 ((4 * n : Nat) : Int)) rfl rfl (fun _ => by kernel_rfl) K ?_
      simp only [aP, lI, l0, lS]
      refine pureHg (i := 16) (some 40) rfl (.int .i64 ((4 * n + 2 : Nat) : Int)) rfl rfl (fun w => addI .i64 _ _ _ _ _ _ _ rfl rfl rfl (by rw [IntKind.wrap_i64]; omega) w) K ?_
      simp only [aP, lI, l0, lS]
      refine pureHg (i := 17) (some 41) rfl (.pointer (some (ad.add (4 * n + 2)))) rfl rfl (fun w' => idxP ad capP (4 * n + 2) (by omega) w' _ _ rfl rfl rfl) K ?_
      simp only [aP, lI, l0, lS]
      refine cellPH (i := 18) (some 42) rfl .u8 (.int .u8 (z (4 * n + 2))) (ad.add (4 * n + 2)) 5 _ rfl rfl rfl rfl (by kernel_rfl) (by kernel_rfl) (by kernel_rfl) (fun _ _ _ h => h) Tryd.underlying5 K (fun w' h => hsrc _ (by omega) w' h) ?_
      simp only [aP, lI, l0, lS]
      refine pureHg (i := 19) (some 43) rfl (.int .u32 (z (4 * n + 2) % 4294967296)) rfl rfl (fun w => convI .u8 .u32 _ _ _ _ _ rfl (by kernel_rfl) Tryd.underlying60 (by kernel_rfl) rfl (IntKind.wrap_u32' _) w) K ?_
      simp only [aP, lI, l0, lS]
      refine pureHg (i := 20) (some 44) rfl (.int .u32 (z (4 * n + 2) % 4294967296 * 65536 % 4294967296)) rfl rfl (fun w => bshlI .u32 .u64 _ 16 _ _ _ _ _ rfl rfl rfl (by decide) (IntKind.wrap_u32' _) w) K ?_
      simp only [aP, lI, l0, lS]
      refine pureHg (i := 21) (some 45) rfl (.int .u32 (bits .or .u32 (bits .or .u32 (z (4 * n) % 4294967296) (z (4 * n + 1) % 4294967296 * 256 % 4294967296)) (z (4 * n + 2) % 4294967296 * 65536 % 4294967296))) rfl rfl (fun w => orW .u32 _ _ _ _ _ _ _ rfl rfl rfl rfl w) K ?_
      simp only [aP, lI, l0, lS]
      refine pureHg (i := 22) (some 46) rfl (.slice (some ad) 64 capP) rfl rfl (fun _ => by kernel_rfl) K ?_
      simp only [aP, lI, l0, lS]
      refine pureHg (i := 23) (some 47) rfl (.int .i64 ((4 * n : Nat) : Int)) rfl rfl (fun _ => by kernel_rfl) K ?_
      simp only [aP, lI, l0, lS]
      refine pureHg (i := 24) (some 48) rfl (.int .i64 ((4 * n + 3 : Nat) : Int)) rfl rfl (fun w => addI .i64 _ _ _ _ _ _ _ rfl rfl rfl (by rw [IntKind.wrap_i64]; omega) w) K ?_
      simp only [aP, lI, l0, lS]
      refine pureHg (i := 25) (some 49) rfl (.pointer (some (ad.add (4 * n + 3)))) rfl rfl (fun w' => idxP ad capP (4 * n + 3) (by omega) w' _ _ rfl rfl rfl) K ?_
      simp only [aP, lI, l0, lS]
      refine cellPH (i := 26) (some 50) rfl .u8 (.int .u8 (z (4 * n + 3))) (ad.add (4 * n + 3)) 5 _ rfl rfl rfl rfl (by kernel_rfl) (by kernel_rfl) (by kernel_rfl) (fun _ _ _ h => h) Tryd.underlying5 K (fun w' h => hsrc _ (by omega) w' h) ?_
      simp only [aP, lI, l0, lS]
      refine pureHg (i := 27) (some 51) rfl (.int .u32 (z (4 * n + 3) % 4294967296)) rfl rfl (fun w => convI .u8 .u32 _ _ _ _ _ rfl (by kernel_rfl) Tryd.underlying60 (by kernel_rfl) rfl (IntKind.wrap_u32' _) w) K ?_
      simp only [aP, lI, l0, lS]
      refine pureHg (i := 28) (some 52) rfl (.int .u32 (z (4 * n + 3) % 4294967296 * 16777216 % 4294967296)) rfl rfl (fun w => bshlI .u32 .u64 _ 24 _ _ _ _ _ rfl rfl rfl (by decide) (IntKind.wrap_u32' _) w) K ?_
      simp only [aP, lI, l0, lS]
      refine pureHg (i := 29) (some 53) rfl (.int .u32 (bpw z n)) rfl rfl (fun w => orW .u32 _ _ _ _ _ _ _ rfl rfl rfl (bpw_glued z hz n hlt) w) K ?_
      simp only [aP, lI, l0, lS]
      have hb1 := K.alloc K.size (.cells #[.int .u32 (bpw z n)] 60)
      refine actH (i := 30) (w' := w1.alloc (.cells #[.int .u32 (bpw z n)] 60)) (some 54) rfl (.slice (some ⟨w1.heap.size, 0, none⟩) 1 1) (by kernel_rfl) rfl rfl (by kernel_rfl) hb1 ?_
      simp only [aP, lI, l0, lS]
      obtain ⟨v, w2, hr, ho, hg⟩ := HO.more32 (by omega) (bpw z n) rfl 74 K.size
      have hb2 := Below.grown hb1 hg (by have := K.size; simp; omega) (fun b hb => (World.ownsRow.lt HO b hb).1)
      refine actH (i := 31) (some 55) rfl v (by kernel_rfl) rfl rfl (appendOp _ _ 74 _ _ _ rfl rfl rfl hr) hb2 ?_
      simp only [aP, lI, l0, lS]
      refine pureHg (i := 32) (some 9) rfl v rfl rfl (fun _ => by kernel_rfl) hb2 ?_
      simp only [aP, lI, l0, lS]
      refine wpAnyH_done (by kernel_rfl) ?_ _
      have HS := show Hid _ from (And.intro ho hb2)
      clear K HO hr ho hg hb1 hb2
      go_wp2
      go_roundw
      case rel => first | exact ⟨n + 1, v, by omega, by go_num, rfl, HS.out⟩ | ((repeat apply Exists.intro); refine ⟨⟨n + 1, v, by omega, by go_num, rfl, HS.out⟩, rfl⟩)
      case measure => simp [intOf]; omega
    · obtain rfl : n = 16 := by omega
      clear hlt hn g1
      obtain ⟨M, capM, rfl, hM1, hM2, HM⟩ := HO.has (by omega)
      have K0 : Kr w w.heap.size [] [] wr := ⟨fun _ h => (by cases h), fun _ h => (by cases h), fun _ h => (by cases h), K.size, Nat.le_refl _, K⟩
      replace K := K0.own hM1 hM2 HM
      clear K0 HO HM
      go_upto_region 6 with fail
      refine wp_region_list ?_
      refine actL (w' := wr.alloc (.cells #[] 60)) (.slice (some ⟨wr.heap.size, 0, none⟩) 0 0) rfl (by kernel_rfl) ?_
      simp only [aP, lI, l0, lS]
      refine pureL (.slice (some ⟨A, 0, none⟩) 8 capA) rfl (fun _ => by kernel_rfl) ?_
      simp only [aP, lI, l0, lS]
      have K1 := K.call ((Below.refl wr.heap.size wr).alloc (Nat.le_refl _) (.cells #[] 60))
      have HA := hA.below K1.below hAl
      obtain ⟨u1, w2, hr1, ho1, hg1, _⟩ := run_append_Own (P := Tryd.prog) (ty := 74) Tryd.underlying74 one32 (show Own (wr.alloc (.cells #[] 60)) wr.heap.size 60 .u32 0 (fun _ => 0) (.slice (some ⟨wr.heap.size, 0, none⟩) 0 0) from Own.lit wr wr.heap.size 60 .u32 0 (fun _ => 0) (Nat.le_refl _) (by decide)) (some ⟨A, 0, none⟩) 8 capA h (fun j hj => ⟨_, rfl, by rw [Addr.add_mid, Nat.zero_add]; exact HA.cell j hj⟩) (fun e => by cases e) (by decide) (by decide) (by simp)
      have K2 := K1.grown hg1 (fun b hb => by injection hb with hb; simp only at hb; omega)
      refine actL u1 rfl (appendOp _ _ 74 _ _ _ rfl rfl rfl hr1) ?_
      simp only [aP, lI, l0, lS]
      replace ho1 : Own w2 wr.heap.size 60 .u32 8 h u1 := ho1.congr (fun j _ => by unfold app; rw [if_neg (by omega), Nat.sub_zero])
      refine callL rfl (fun _ => by kernel_rfl) (refStart_any _) ?_
      rintro e w3 ⟨S, rfl, ⟨hS1, hS2, HS⟩, l⟩
      have K3 := K2.call l
      replace ho1 := ho1.below l
      refine ⟨_, rfl, ?_⟩
      simp only [aP, lI, l0, lS]
      obtain ⟨u2, w4, hr2, ho2, hg2, _⟩ := run_append_Own (P := Tryd.prog) (ty := 74) Tryd.underlying74 one32 ho1 (some ⟨S, 0, none⟩) 8 8 iv (fun j hj => ⟨_, rfl, by rw [Addr.add_mid, Nat.zero_add]; exact HS.cell j hj⟩) (fun e => by cases e) (by decide) (by decide) K3.size
      have K4 := K3.grown hg2 (fun b hb => (World.ownsRow.lt ho1 b hb).1)
      refine actL u2 rfl (appendOp _ _ 74 _ _ _ rfl rfl rfl hr2) ?_
      simp only [aP, lI, l0, lS]
      refine pureL u2 rfl (fun _ => by kernel_rfl) ?_
      simp only [aP, lI, l0, lS]
      obtain ⟨X, capX, rfl, hX1, hX2, HX⟩ := ho2.has (by omega)
      replace K := K4.own hX1 hX2 HX
      have hXM : M < X := Nat.lt_of_lt_of_le hM2 hX1
      have hX0 : w.heap.size ≤ X := Nat.le_trans hM1 (Nat.le_of_lt hXM)
      clear K1 K2 K3 K4 HA hr1 hr2 ho1 ho2 hg1 hg2 HX HS hS1 hS2 l hX1 hX2 hM2
      generalize w4.heap.size = m4 at K
      show Exit.then _ _ _ _ _
      go_upto_region 7 with fail
      refine wp_region_list ?_
      refine pureL (.slice (some ⟨X, 0, none⟩) 16 capX) rfl (fun _ => by kernel_rfl) ?_
      simp only [aP, lI, l0, lS]
      refine pureL (.slice (some ⟨X, 0, none⟩) 16 capX) rfl (fun _ => by kernel_rfl) ?_
      simp only [aP, lI, l0, lS]
      refine pureL (.pointer (some ⟨X, 12, none⟩)) rfl (fun w' => idxW X 16 capX 12 (by decide) w' _ _ rfl rfl rfl) ?_
      simp only [aP, lI, l0, lS]
      refine cellL .u32 (.int .u32 (iv 4)) X 12 60 _ rfl rfl rfl Tryd.underlying60 ((K.get _ _ _ _ mS).cell 12 (by decide)) ?_
      simp only [aP, lI, l0, lS]
      refine pureL (.int .u64 t) rfl (fun _ => by kernel_rfl) ?_
      simp only [aP, lI, l0, lS]
      refine pureL (.int .u64 (t % 4294967296)) rfl (fun w => andI .u64 _ _ _ _ _ _ _ rfl rfl rfl (and_low t ht) w) ?_
      simp only [aP, lI, l0, lS]
      refine pureL (.int .u32 (t % 4294967296)) rfl (fun w => convI .u64 .u32 _ _ _ _ _ rfl (by kernel_rfl) Tryd.underlying60 (by kernel_rfl) rfl (by rw [IntKind.wrap_u32']; omega) w) ?_
      simp only [aP, lI, l0, lS]
      refine pureL (.int .u32 (hxr (iv 4) (t % 4294967296))) rfl (fun w => xorI .u32 _ _ _ _ _ _ _ rfl rfl rfl rfl w) ?_
      simp only [aP, lI, l0, lS]
      refine pureL (.pointer (some ⟨X, 12, none⟩)) rfl (fun w' => idxW X 16 capX 12 (by decide) w' _ _ rfl rfl rfl) ?_
      simp only [aP, lI, l0, lS]
      refine storeL .u32 (hxr (iv 4) (t % 4294967296)) X 12 60 _ _ rfl rfl rfl rfl (by rw [(K.get _ _ _ _ mS).cell 12 (by decide)]; rfl) ((K.get _ _ _ _ mS).free 12 (by decide)) (by kernel_rfl) ?_
      simp only [Act.put]
      replace K := K.setCell [(M, .u32, 16, bpw z)] X .u32 16 (app h 8 iv) 12 (by decide) (hxr (iv 4) (t % 4294967296)) mS (fun p hp => by obtain rfl := List.mem_singleton.1 hp; exact (mT _ mS)) (fun p hp => by obtain rfl := List.mem_singleton.1 hp; simp only; omega) hX0
      generalize w4.setCell ⟨X, 12, none⟩ (.int .u32 (hxr (iv 4) (t % 4294967296))) = w5 at K ⊢
      show Exit.then _ _ _ _ _
      go_upto_region 8 with fail
      refine wp_region_list ?_
      refine pureL (.slice (some ⟨X, 0, none⟩) 16 capX) rfl (fun _ => by kernel_rfl) ?_
      simp only [aP, lI, l0, lS]
      refine pureL (.slice (some ⟨X, 0, none⟩) 16 capX) rfl (fun _ => by kernel_rfl) ?_
      simp only [aP, lI, l0, lS]
      refine pureL (.pointer (some ⟨X, 13, none⟩)) rfl (fun w' => idxW X 16 capX 13 (by decide) w' _ _ rfl rfl rfl) ?_
      simp only [aP, lI, l0, lS]
      refine cellL .u32 (.int .u32 (iv 5)) X 13 60 _ rfl rfl rfl Tryd.underlying60 ((K.get _ _ _ _ mS).cell 13 (by decide)) ?_
      simp only [aP, lI, l0, lS]
      refine pureL (.int .u64 t) rfl (fun _ => by kernel_rfl) ?_
      simp only [aP, lI, l0, lS]
      refine pureL (.int .u64 (t / 4294967296)) rfl (fun w => shrI .u64 .u64 _ 32 _ _ _ _ _ rfl rfl rfl (by decide) rfl w) ?_
      simp only [aP, lI, l0, lS]
      refine pureL (.int .u32 (t / 4294967296 % 4294967296)) rfl (fun w => convI .u64 .u32 _ _ _ _ _ rfl (by kernel_rfl) Tryd.underlying60 (by kernel_rfl) rfl (IntKind.wrap_u32' _) w) ?_
      simp only [aP, lI, l0, lS]
      refine pureL (.int .u32 (hxr (iv 5) (t / 4294967296 % 4294967296))) rfl (fun w => xorI .u32 _ _ _ _ _ _ _ rfl rfl rfl rfl w) ?_
      simp only [aP, lI, l0, lS]
      refine pureL (.pointer (some ⟨X, 13, none⟩)) rfl (fun w' => idxW X 16 capX 13 (by decide) w' _ _ rfl rfl rfl) ?_
      simp only [aP, lI, l0, lS]
      refine storeL .u32 (hxr (iv 5) (t / 4294967296 % 4294967296)) X 13 60 _ _ rfl rfl rfl rfl (by rw [(K.get _ _ _ _ mS).cell 13 (by decide)]; rfl) ((K.get _ _ _ _ mS).free 13 (by decide)) (by kernel_rfl) ?_
      simp only [Act.put]
      replace K := K.setCell [(M, .u32, 16, bpw z)] X .u32 16 (upd (app h 8 iv) 12 (hxr (iv 4) (t % 4294967296))) 13 (by decide) (hxr (iv 5) (t / 4294967296 % 4294967296)) mS (fun p hp => by obtain rfl := List.mem_singleton.1 hp; exact (mT _ mS)) (fun p hp => by obtain rfl := List.mem_singleton.1 hp; simp only; omega) hX0
      generalize w5.setCell ⟨X, 13, none⟩ (.int .u32 (hxr (iv 5) (t / 4294967296 % 4294967296))) = w6 at K ⊢
      show Exit.then _ _ _ _ _
      have hcon := bst_of h t (upd (upd (app h 8 iv) 12 (hxr (iv 4) (t % 4294967296))) 13 (hxr (iv 5) (t / 4294967296 % 4294967296))) last (fun _ => rfl)
      cases last
      · replace K : Kr w m4 [(X, .u32, 16, bst h t false), (M, .u32, 16, bpw z)] [] w6 := ⟨fun p hp => by
          rcases List.mem_cons.1 hp with rfl | hp
          · exact ⟨(K.get _ _ _ _ mS).congr hcon, (K.rows _ mS).2⟩
          · exact K.rows p (mT _ hp), K.room, (fun p hp q hq => by cases hq), K.size, K.base, K.below⟩
        clear hcon
        go_upto_region 11 with fail
        refine wp_region_list ?_
        have hlt4 := (K.rows _ mS).2
        have hs4 := K.size
        refine callL rfl (fun _ => by kernel_rfl) (refRows_any _) ?_
        rintro e w8 ⟨O, bs, rfl, ⟨hO1, hbs, hSG⟩, l⟩
        replace K := K.call l
        clear l
        refine ⟨_, rfl, ?_⟩
        simp only [aP, lI, l0, lS]
        refine pureL (.slice (some ⟨O, 0, none⟩) 10 10) rfl (fun _ => by kernel_rfl) ?_
        simp only [aP, lI, l0, lS]
        have P0 : PI z w X M O bs (bst h t false) w8 := ⟨K.get _ _ _ _ mS, K.get _ _ _ _ (mT _ mS), hSG, Nat.lt_of_lt_of_le (K.rows _ mS).2 K.size, Nat.lt_of_lt_of_le (K.rows _ (mT _ mS)).2 K.size, K.below⟩
        have hXO : X < O := by simp only at hlt4; omega
        have hXb : ∀ r, r < 10 → X < bs r := fun r hr => by have := hbs r hr; simp only at hlt4; omega
        have hst := bst_in h t false hh
        clear K hSG hbs hO1 hlt4 hs4
        show Exit.then _ _ _ _ _
        go_wp2
        go_loopw [13] (fun i w' => ∃ r : Nat, r ≤ 10 ∧ i = .int .i64 r ∧ PI z w X M O bs (bR (bpw z) (bst h t false) r) w') (fun i _ => 10 - (intOf i).toNat)
        case atStart => exact ⟨0, by omega, rfl, P0⟩
        case round =>
          clear P0
          obtain ⟨r, hr, rfl, P⟩ := hrel
          have g1 : (0 : Int) ≤ (r : Int) := by omega
          by_cases hlt : r < 10
          · have g2 : (r : Int) < 10 := by omega
            have hin := bR_in (bpw z) _ hst r
            go_upto_region 15 with fail
            refine wp_region_list ?_
            refine pureL (.slice (some ⟨O, 0, none⟩) 10 10) rfl (fun _ => by kernel_rfl) ?_
            simp only [aP, lI, l0, lS]
            refine pureL (.int .i64 (r : Int)) rfl (fun _ => by kernel_rfl) ?_
            simp only [aP, lI, l0, lS]
            refine pureL (.pointer (some ⟨O, r, none⟩)) rfl (fun w' => idxII O r hlt w' _ _ rfl rfl rfl) ?_
            simp only [aP, lI, l0, lS]
            refine readL (.slice (some ⟨bs r, 0, none⟩) 16 16) rfl (bloadSl 24 3 _ ⟨O, r, none⟩ _ rfl rfl Tryd.underlying24 (P.sg.top r hlt)) ?_
            simp only [aP, lI, l0, lS]
            refine pureL (.slice (some ⟨bs r, 0, none⟩) 16 16) rfl (fun _ => by kernel_rfl) ?_
            simp only [aP, lI, l0, lS]
            show Exit.then _ _ _ _ _
            go_wp2
            go_loopw [15] (fun i w' => ∃ q : Nat, q ≤ 4 ∧ i = .int .i64 q ∧ PI z w X M O bs (bN (bpw z) (sg r) (bR (bpw z) (bst h t false) r) q) w') (fun i _ => 4 - (intOf i).toNat)
            case atStart => exact ⟨0, by omega, rfl, P⟩
            case round =>
              clear P
              obtain ⟨q, hq, rfl, P⟩ := hrel
              have g3 : (0 : Int) ≤ (q : Int) := by omega
              by_cases hlt2 : q < 4
              · have g4 : (q : Int) < 4 := by omega
                have hin2 := bN_in (bpw z) (sg r) _ hin (q)
                go_upto_region 19 with fail
                replace P := P.drew
                refine wp_region_held_drew (S := fun w' => PM z w M O bs w') (by kernel_rfl) P.pm ?_
                intro K
                generalize wr.drew = w9 at P K ⊢
                refine pureHg (i := 0) (some 99) rfl (.slice (some ⟨X, 0, none⟩) 16 capX) rfl rfl (fun _ => by kernel_rfl) K ?_
                simp only [aP, lI, l0, lS]
                refine pureHg (i := 1) (some 100) rfl (.int .i64 (q : Int)) rfl rfl (fun _ => by kernel_rfl) K ?_
                simp only [aP, lI, l0, lS]
                refine pureHg (i := 2) (some 101) rfl (.int .i64 (q : Int)) rfl rfl (fun _ => by kernel_rfl) K ?_
                simp only [aP, lI, l0, lS]
                refine pureHg (i := 3) (some 102) rfl (.int .i64 ((4 + q : Nat) : Int)) rfl rfl (fun w => addI .i64 _ _ _ _ _ _ _ rfl rfl rfl (by rw [IntKind.wrap_i64]; omega) w) K ?_
                simp only [aP, lI, l0, lS]
                refine pureHg (i := 4) (some 103) rfl (.int .i64 (q : Int)) rfl rfl (fun _ => by kernel_rfl) K ?_
                simp only [aP, lI, l0, lS]
                refine pureHg (i := 5) (some 104) rfl (.int .i64 ((8 + q : Nat) : Int)) rfl rfl (fun w => addI .i64 _ _ _ _ _ _ _ rfl rfl rfl (by rw [IntKind.wrap_i64]; omega) w) K ?_
                simp only [aP, lI, l0, lS]
                refine pureHg (i := 6) (some 105) rfl (.int .i64 (q : Int)) rfl rfl (fun _ => by kernel_rfl) K ?_
                simp only [aP, lI, l0, lS]
                refine pureHg (i := 7) (some 106) rfl (.int .i64 ((12 + q : Nat) : Int)) rfl rfl (fun w => addI .i64 _ _ _ _ _ _ _ rfl rfl rfl (by rw [IntKind.wrap_i64]; omega) w) K ?_
                simp only [aP, lI, l0, lS]
                refine pureHg (i := 8) (some 107) rfl (.slice (some ⟨M, 0, none⟩) 16 capM) rfl rfl (fun _ => by kernel_rfl) K ?_
                simp only [aP, lI, l0, lS]
                refine pureHg (i := 9) (some 108) rfl (.slice (some ⟨bs r, 0, none⟩) 16 16) rfl rfl (fun _ => by kernel_rfl) K ?_
                simp only [aP, lI, l0, lS]
                refine pureHg (i := 10) (some 109) rfl (.int .i64 (q : Int)) rfl rfl (fun _ => by kernel_rfl) K ?_
                simp only [aP, lI, l0, lS]
                refine pureHg (i := 11) (some 110) rfl (.int .i64 ((2 * q : Nat) : Int)) rfl rfl (fun w => mulI .i64 _ _ _ _ _ _ _ rfl rfl rfl (by rw [IntKind.wrap_i64]; omega) w) K ?_
                simp only [aP, lI, l0, lS]
                refine pureHg (i := 12) (some 111) rfl (.pointer (some ⟨bs r, 2 * q, none⟩)) rfl rfl (fun w' => idxI (bs r) (2 * q) (by omega) w' _ _ rfl rfl rfl) K ?_
                simp only [aP, lI, l0, lS]
                refine cellH (i := 13) (some 112) rfl .i64 (.int .i64 ((sg r (2 * q) : Nat) : Int)) (bs r) (2 * q) 3 _ rfl rfl rfl rfl (by kernel_rfl) (by kernel_rfl) (by kernel_rfl) (fun _ _ _ h => h) Tryd.underlying3 K (fun _ h => (h.sg.rows r hlt).1.cell (2 * q) (by omega)) ?_
                simp only [aP, lI, l0, lS]
                refine pureHg (i := 14) (some 113) rfl (.pointer (some ⟨M, sg r (2 * q), none⟩)) rfl rfl (fun w' => idxW M 16 capM (sg r (2 * q)) (sg_lt _ _) w' _ _ rfl rfl rfl) K ?_
                simp only [aP, lI, l0, lS]
                refine cellH (i := 15) (some 114) rfl .u32 (.int .u32 (bpw z (sg r (2 * q)))) M (sg r (2 * q)) 60 _ rfl rfl rfl rfl (by kernel_rfl) (by kernel_rfl) (by kernel_rfl) (fun _ _ _ h => h) Tryd.underlying60 K (fun _ h => h.hm.cell (sg r (2 * q)) (sg_lt _ _)) ?_
                simp only [aP, lI, l0, lS]
                refine pureHg (i := 16) (some 115) rfl (.slice (some ⟨M, 0, none⟩) 16 capM) rfl rfl (fun _ => by kernel_rfl) K ?_
                simp only [aP, lI, l0, lS]
                refine pureHg (i := 17) (some 116) rfl (.slice (some ⟨bs r, 0, none⟩) 16 16) rfl rfl (fun _ => by kernel_rfl) K ?_
                simp only [aP, lI, l0, lS]
                refine pureHg (i := 18) (some 117) rfl (.int .i64 (q : Int)) rfl rfl (fun _ => by kernel_rfl) K ?_
                simp only [aP, lI, l0, lS]
                refine pureHg (i := 19) (some 118) rfl (.int .i64 ((2 * q : Nat) : Int)) rfl rfl (fun w => mulI .i64 _ _ _ _ _ _ _ rfl rfl rfl (by rw [IntKind.wrap_i64]; omega) w) K ?_
                simp only [aP, lI, l0, lS]
                refine pureHg (i := 20) (some 119) rfl (.int .i64 ((2 * q + 1 : Nat) : Int)) rfl rfl (fun w => addI .i64 _ _ _ _ _ _ _ rfl rfl rfl (by rw [IntKind.wrap_i64]; omega) w) K ?_
                simp only [aP, lI, l0, lS]
                refine pureHg (i := 21) (some 120) rfl (.pointer (some ⟨bs r, 2 * q + 1, none⟩)) rfl rfl (fun w' => idxI (bs r) (2 * q + 1) (by omega) w' _ _ rfl rfl rfl) K ?_
                simp only [aP, lI, l0, lS]
                refine cellH (i := 22) (some 121) rfl .i64 (.int .i64 ((sg r (2 * q + 1) : Nat) : Int)) (bs r) (2 * q + 1) 3 _ rfl rfl rfl rfl (by kernel_rfl) (by kernel_rfl) (by kernel_rfl) (fun _ _ _ h => h) Tryd.underlying3 K (fun _ h => (h.sg.rows r hlt).1.cell (2 * q + 1) (by omega)) ?_
                simp only [aP, lI, l0, lS]
                refine pureHg (i := 23) (some 122) rfl (.pointer (some ⟨M, sg r (2 * q + 1), none⟩)) rfl rfl (fun w' => idxW M 16 capM (sg r (2 * q + 1)) (sg_lt _ _) w' _ _ rfl rfl rfl) K ?_
                simp only [aP, lI, l0, lS]
                refine cellH (i := 24) (some 123) rfl .u32 (.int .u32 (bpw z (sg r (2 * q + 1)))) M (sg r (2 * q + 1)) 60 _ rfl rfl rfl rfl (by kernel_rfl) (by kernel_rfl) (by kernel_rfl) (fun _ _ _ h => h) Tryd.underlying60 K (fun _ h => h.hm.cell (sg r (2 * q + 1)) (sg_lt _ _)) ?_
                simp only [aP, lI, l0, lS]
                refine callH (i := 25) (some 124) rfl (by kernel_rfl) rfl rfl (fun _ => by kernel_rfl) (refMix_any X capX (q) (4 + q) (8 + q) (12 + q) (bpw z (sg r (2 * q))) (bpw z (sg r (2 * q + 1))) (bN (bpw z) (sg r) (bR (bpw z) (bst h t false) r) q) hin2 (by omega) (by omega) (by omega) (by omega) (by omega) (by omega) (by omega) (by omega) (by omega) (by omega) _ P.has P.lt) ?_
                rintro e w10 ⟨rfl, G⟩
                refine ⟨_, rfl, (P.mix G hX0 hXM hXO hXb).pm, ?_⟩
                simp only [aP, lI, l0, lS]
                refine wpAnyH_done (by kernel_rfl) ?_ _
                rw [← at_lo (bpw z) (sg r) _ q hlt2] at G
                have HS := show Hid _ from P.mix G hX0 hXM hXO hXb
                clear P K G hin2
                go_wp2
                go_roundw
                case rel => first | exact ⟨q + 1, by omega, by go_num, HS.out⟩ | ((repeat apply Exists.intro); refine ⟨⟨q + 1, by omega, by go_num, HS.out⟩, rfl⟩)
                case measure => simp [intOf]; omega
              · obtain rfl : q = 4 := by omega
                clear hlt2 hq g3
                go_wp2
                go_loopw [16] (fun i w' => ∃ q : Nat, q ≤ 4 ∧ i = .int .i64 q ∧ PI z w X M O bs (bN (bpw z) (sg r) (bR (bpw z) (bst h t false) r) (4 + q)) w') (fun i _ => 4 - (intOf i).toNat)
                case atStart => exact ⟨0, by omega, rfl, P⟩
                case round =>
                  clear P
                  obtain ⟨q, hq, rfl, P⟩ := hrel
                  have g3 : (0 : Int) ≤ (q : Int) := by omega
                  by_cases hlt2 : q < 4
                  · have g4 : (q : Int) < 4 := by omega
                    have hin2 := bN_in (bpw z) (sg r) _ hin ((4 + q))
                    go_upto_region 23 with fail
                    replace P := P.drew
                    refine wp_region_held_drew (S := fun w' => PM z w M O bs w') (by kernel_rfl) P.pm ?_
                    intro K
                    generalize wr.drew = w9 at P K ⊢
                    refine pureHg (i := 0) (some 129) rfl (.slice (some ⟨X, 0, none⟩) 16 capX) rfl rfl (fun _ => by kernel_rfl) K ?_
                    simp only [aP, lI, l0, lS]
                    refine pureHg (i := 1) (some 130) rfl (.int .i64 (q : Int)) rfl rfl (fun _ => by kernel_rfl) K ?_
                    simp only [aP, lI, l0, lS]
                    refine pureHg (i := 2) (some 131) rfl (.int .i64 (q : Int)) rfl rfl (fun _ => by kernel_rfl) K ?_
                    simp only [aP, lI, l0, lS]
                    refine pureHg (i := 3) (some 132) rfl (.int .i64 ((q + 1 : Nat) : Int)) rfl rfl (fun w => addI .i64 _ _ _ _ _ _ _ rfl rfl rfl (by rw [IntKind.wrap_i64]; omega) w) K ?_
                    simp only [aP, lI, l0, lS]
                    refine pureHg (i := 4) (some 133) rfl (.int .i64 (((q + 1) % 4 : Nat) : Int)) rfl rfl (fun w => remI .i64 _ _ _ _ _ _ _ rfl rfl rfl (by decide) (by rw [Int.tmod_eq_emod_of_nonneg (by omega)]; omega) w) K ?_
                    simp only [aP, lI, l0, lS]
                    refine pureHg (i := 5) (some 134) rfl (.int .i64 ((4 + (q + 1) % 4 : Nat) : Int)) rfl rfl (fun w => addI .i64 _ _ _ _ _ _ _ rfl rfl rfl (by rw [IntKind.wrap_i64]; omega) w) K ?_
                    simp only [aP, lI, l0, lS]
                    refine pureHg (i := 6) (some 135) rfl (.int .i64 (q : Int)) rfl rfl (fun _ => by kernel_rfl) K ?_
                    simp only [aP, lI, l0, lS]
                    refine pureHg (i := 7) (some 136) rfl (.int .i64 ((q + 2 : Nat) : Int)) rfl rfl (fun w => addI .i64 _ _ _ _ _ _ _ rfl rfl rfl (by rw [IntKind.wrap_i64]; omega) w) K ?_
                    simp only [aP, lI, l0, lS]
                    refine pureHg (i := 8) (some 137) rfl (.int .i64 (((q + 2) % 4 : Nat) : Int)) rfl rfl (fun w => remI .i64 _ _ _ _ _ _ _ rfl rfl rfl (by decide) (by rw [Int.tmod_eq_emod_of_nonneg (by omega)]; omega) w) K ?_
                    simp only [aP, lI, l0, lS]
                    refine pureHg (i := 9) (some 138) rfl (.int .i64 ((8 + (q + 2) % 4 : Nat) : Int)) rfl rfl (fun w => addI .i64 _ _ _ _ _ _ _ rfl rfl rfl (by rw [IntKind.wrap_i64]; omega) w) K ?_
                    simp only [aP, lI, l0, lS]
                    refine pureHg (i := 10) (some 139) rfl (.int .i64 (q : Int)) rfl rfl (fun _ => by kernel_rfl) K ?_
                    simp only [aP, lI, l0, lS]
                    refine pureHg (i := 11) (some 140) rfl (.int .i64 ((q + 3 : Nat) : Int)) rfl rfl (fun w => addI .i64 _ _ _ _ _ _ _ rfl rfl rfl (by rw [IntKind.wrap_i64]; omega) w) K ?_
                    simp only [aP, lI, l0, lS]
                    refine pureHg (i := 12) (some 141) rfl (.int .i64 (((q + 3) % 4 : Nat) : Int)) rfl rfl (fun w => remI .i64 _ _ _ _ _ _ _ rfl rfl rfl (by decide) (by rw [Int.tmod_eq_emod_of_nonneg (by omega)]; omega) w) K ?_
                    simp only [aP, lI, l0, lS]
                    refine pureHg (i := 13) (some 142) rfl (.int .i64 ((12 + (q + 3) % 4 : Nat) : Int)) rfl rfl (fun w => addI .i64 _ _ _ _ _ _ _ rfl rfl rfl (by rw [IntKind.wrap_i64]; omega) w) K ?_
                    simp only [aP, lI, l0, lS]
                    refine pureHg (i := 14) (some 143) rfl (.slice (some ⟨M, 0, none⟩) 16 capM) rfl rfl (fun _ => by kernel_rfl) K ?_
                    simp only [aP, lI, l0, lS]
                    refine pureHg (i := 15) (some 144) rfl (.slice (some ⟨bs r, 0, none⟩) 16 16) rfl rfl (fun _ => by kernel_rfl) K ?_
                    simp only [aP, lI, l0, lS]
                    refine pureHg (i := 16) (some 145) rfl (.int .i64 (q : Int)) rfl rfl (fun _ => by kernel_rfl) K ?_
                    simp only [aP, lI, l0, lS]
                    refine pureHg (i := 17) (some 146) rfl (.int .i64 ((2 * q : Nat) : Int)) rfl rfl (fun w => mulI .i64 _ _ _ _ _ _ _ rfl rfl rfl (by rw [IntKind.wrap_i64]; omega) w) K ?_
                    simp only [aP, lI, l0, lS]
                    refine pureHg (i := 18) (some 147) rfl (.int .i64 ((8 + 2 * q : Nat) : Int)) rfl rfl (fun w => addI .i64 _ _ _ _ _ _ _ rfl rfl rfl (by rw [IntKind.wrap_i64]; omega) w) K ?_
                    simp only [aP, lI, l0, lS]
                    refine pureHg (i := 19) (some 148) rfl (.pointer (some ⟨bs r, 8 + 2 * q, none⟩)) rfl rfl (fun w' => idxI (bs r) (8 + 2 * q) (by omega) w' _ _ rfl rfl rfl) K ?_
                    simp only [aP, lI, l0, lS]
                    refine cellH (i := 20) (some 149) rfl .i64 (.int .i64 ((sg r (8 + 2 * q) : Nat) : Int)) (bs r) (8 + 2 * q) 3 _ rfl rfl rfl rfl (by kernel_rfl) (by kernel_rfl) (by kernel_rfl) (fun _ _ _ h => h) Tryd.underlying3 K (fun _ h => (h.sg.rows r hlt).1.cell (8 + 2 * q) (by omega)) ?_
                    simp only [aP, lI, l0, lS]
                    refine pureHg (i := 21) (some 150) rfl (.pointer (some ⟨M, sg r (8 + 2 * q), none⟩)) rfl rfl (fun w' => idxW M 16 capM (sg r (8 + 2 * q)) (sg_lt _ _) w' _ _ rfl rfl rfl) K ?_
                    simp only [aP, lI, l0, lS]
                    refine cellH (i := 22) (some 151) rfl .u32 (.int .u32 (bpw z (sg r (8 + 2 * q)))) M (sg r (8 + 2 * q)) 60 _ rfl rfl rfl rfl (by kernel_rfl) (by kernel_rfl) (by kernel_rfl) (fun _ _ _ h => h) Tryd.underlying60 K (fun _ h => h.hm.cell (sg r (8 + 2 * q)) (sg_lt _ _)) ?_
                    simp only [aP, lI, l0, lS]
                    refine pureHg (i := 23) (some 152) rfl (.slice (some ⟨M, 0, none⟩) 16 capM) rfl rfl (fun _ => by kernel_rfl) K ?_
                    simp only [aP, lI, l0, lS]
                    refine pureHg (i := 24) (some 153) rfl (.slice (some ⟨bs r, 0, none⟩) 16 16) rfl rfl (fun _ => by kernel_rfl) K ?_
                    simp only [aP, lI, l0, lS]
                    refine pureHg (i := 25) (some 154) rfl (.int .i64 (q : Int)) rfl rfl (fun _ => by kernel_rfl) K ?_
                    simp only [aP, lI, l0, lS]
                    refine pureHg (i := 26) (some 155) rfl (.int .i64 ((2 * q : Nat) : Int)) rfl rfl (fun w => mulI .i64 _ _ _ _ _ _ _ rfl rfl rfl (by rw [IntKind.wrap_i64]; omega) w) K ?_
                    simp only [aP, lI, l0, lS]
                    refine pureHg (i := 27) (some 156) rfl (.int .i64 ((9 + 2 * q : Nat) : Int)) rfl rfl (fun w => addI .i64 _ _ _ _ _ _ _ rfl rfl rfl (by rw [IntKind.wrap_i64]; omega) w) K ?_
                    simp only [aP, lI, l0, lS]
                    refine pureHg (i := 28) (some 157) rfl (.pointer (some ⟨bs r, 9 + 2 * q, none⟩)) rfl rfl (fun w' => idxI (bs r) (9 + 2 * q) (by omega) w' _ _ rfl rfl rfl) K ?_
                    simp only [aP, lI, l0, lS]
                    refine cellH (i := 29) (some 158) rfl .i64 (.int .i64 ((sg r (9 + 2 * q) : Nat) : Int)) (bs r) (9 + 2 * q) 3 _ rfl rfl rfl rfl (by kernel_rfl) (by kernel_rfl) (by kernel_rfl) (fun _ _ _ h => h) Tryd.underlying3 K (fun _ h => (h.sg.rows r hlt).1.cell (9 + 2 * q) (by omega)) ?_
                    simp only [aP, lI, l0, lS]
                    refine pureHg (i := 30) (some 159) rfl (.pointer (some ⟨M, sg r (9 + 2 * q), none⟩)) rfl rfl (fun w' => idxW M 16 capM (sg r (9 + 2 * q)) (sg_lt _ _) w' _ _ rfl rfl rfl) K ?_
                    simp only [aP, lI, l0, lS]
                    refine cellH (i := 31) (some 160) rfl .u32 (.int .u32 (bpw z (sg r (9 + 2 * q)))) M (sg r (9 + 2 * q)) 60 _ rfl rfl rfl rfl (by kernel_rfl) (by kernel_rfl) (by kernel_rfl) (fun _ _ _ h => h) Tryd.underlying60 K (fun _ h => h.hm.cell (sg r (9 + 2 * q)) (sg_lt _ _)) ?_
                    simp only [aP, lI, l0, lS]
                    refine callH (i := 32) (some 161) rfl (by kernel_rfl) rfl rfl (fun _ => by kernel_rfl) (refMix_any X capX (q) (4 + (q + 1) % 4) (8 + (q + 2) % 4) (12 + (q + 3) % 4) (bpw z (sg r (8 + 2 * q))) (bpw z (sg r (9 + 2 * q))) (bN (bpw z) (sg r) (bR (bpw z) (bst h t false) r) (4 + q)) hin2 (by omega) (by omega) (by omega) (by omega) (by omega) (by omega) (by omega) (by omega) (by omega) (by omega) _ P.has P.lt) ?_
                    rintro e w10 ⟨rfl, G⟩
                    refine ⟨_, rfl, (P.mix G hX0 hXM hXO hXb).pm, ?_⟩
                    simp only [aP, lI, l0, lS]
                    refine wpAnyH_done (by kernel_rfl) ?_ _
                    rw [← at_hi (bpw z) (sg r) _ q hlt2] at G
                    have HS := show Hid _ from P.mix G hX0 hXM hXO hXb
                    clear P K G hin2
                    go_wp2
                    go_roundw
                    case rel => first | exact ⟨q + 1, by omega, by go_num, HS.out⟩ | ((repeat apply Exists.intro); refine ⟨⟨q + 1, by omega, by go_num, HS.out⟩, rfl⟩)
                    case measure => simp [intOf]; omega
                  · obtain rfl : q = 4 := by omega
                    have HS := show Hid (PI z w X M O bs (bR (bpw z) (bst h t false) (r + 1)) wr) from P
                    clear P hlt2 hq g3
                    go_wp2
                    go_roundw
                    case rel => first | exact ⟨r + 1, by omega, by go_num, HS.out⟩ | ((repeat apply Exists.intro); refine ⟨⟨r + 1, by omega, by go_num, HS.out⟩, rfl⟩)
                    case measure => simp [intOf]; omega
          · obtain rfl : r = 10 := by omega
            clear hlt hr g1 hXM hXO hXb
            have hbp : ∀ n, hxr (hxr (h n) (bR (bpw z) (bst h t false) 10 n)) (bR (bpw z) (bst h t false) 10 (n + 8)) = bpr h z t false n := fun _ => rfl
            generalize bR (bpw z) (bst h t false) 10 = F at P hbp
            generalize hG : bpr h z t false = G at hbp
            replace hG := show Hid _ from hG
            have K : Kr w wr.heap.size [(X, .u32, 16, F)] [] wr := ⟨fun p hp => by obtain rfl := List.mem_singleton.1 hp; exact ⟨P.has, P.lt⟩, fun _ h => (by cases h), fun _ _ _ h => (by cases h), Nat.le_refl _, P.below.size, P.below⟩
            clear P hst
            go_upto_region 24 with fail
            refine wp_region_list ?_
            refine actL (w' := wr.alloc (.cells #[] 60)) (.slice (some ⟨wr.heap.size, 0, none⟩) 0 0) rfl (by kernel_rfl) ?_
            simp only [aP, lI, l0, lS]
            refine pureL (.slice (some ⟨wr.heap.size, 0, none⟩) 0 0) rfl (fun _ => by kernel_rfl) ?_
            simp only [aP, lI, l0, lS]
            replace K := K.call ((Below.refl wr.heap.size wr).alloc (Nat.le_refl _) (.cells #[] 60))
            have HO : Own (wr.alloc (.cells #[] 60)) wr.heap.size 60 .u32 0 G (.slice (some ⟨wr.heap.size, 0, none⟩) 0 0) := Own.lit wr wr.heap.size 60 .u32 0 G (Nat.le_refl _) (by unfold maxLen; omega)
            generalize wr.alloc (.cells #[] 60) = w11 at K HO ⊢
            generalize Value.slice (some ⟨wr.heap.size, 0, none⟩) 0 0 = ov0 at HO ⊢
            generalize wr.heap.size = B at K HO
            show Exit.then _ _ _ _ _
            go_wp2
            go_loopw [17, 18] (fun ow i w' => ∃ (n : Nat) (ov : Value), n ≤ 8 ∧ i = .int .i64 (n : Int) ∧ ov = ow ∧ Own w' B 60 .u32 n G ov ∧ Kr w B [(X, .u32, 16, F)] [] w') (fun _ i _ => 8 - (intOf i).toNat)
            case atStart => exact ⟨0, _, by omega, rfl, rfl, HO, K⟩
            case round =>
              clear K HO
              obtain ⟨n, ov, hn, rfl, rfl, HO, K⟩ := hrel
              have g1 : (0 : Int) ≤ (n : Int) := by omega
              by_cases hlt : n < 8
              · have g2 : (n : Int) < 8 := by omega
                go_upto_region 28 with fail
                refine wp_region_held_drew (S := fun w' => Kr w B [(X, .u32, 16, F)] [] w') (by kernel_rfl) K.drew ?_
                clear K
                intro K
                replace HO := HO.drew
                generalize wr.drew = w12 at K HO ⊢
                refine pureHg (i := 0) (some 167) rfl ov rfl rfl (fun _ => by kernel_rfl) K ?_
                simp only [aP, lI, l0, lS]
                refine pureHg (i := 1) (some 168) rfl (.slice (some ⟨A, 0, none⟩) 8 capA) rfl rfl (fun _ => by kernel_rfl) K ?_
                simp only [aP, lI, l0, lS]
                refine pureHg (i := 2) (some 169) rfl (.int .i64 (n : Int)) rfl rfl (fun _ => by kernel_rfl) K ?_
                simp only [aP, lI, l0, lS]
                refine pureHg (i := 3) (some 170) rfl (.pointer (some ⟨A, n, none⟩)) rfl rfl (fun w' => idxW A 8 capA n hlt w' _ _ rfl rfl rfl) K ?_
                simp only [aP, lI, l0, lS]
                refine cellH (i := 4) (some 171) rfl .u32 (.int .u32 (h n)) A n 60 _ rfl rfl rfl rfl (by kernel_rfl) (by kernel_rfl) (by kernel_rfl) (fun _ _ _ h => h) Tryd.underlying60 K (fun _ h => (hA.below h.below hAl).cell n hlt) ?_
                simp only [aP, lI, l0, lS]
                refine pureHg (i := 5) (some 172) rfl (.slice (some ⟨X, 0, none⟩) 16 capX) rfl rfl (fun _ => by kernel_rfl) K ?_
                simp only [aP, lI, l0, lS]
                refine pureHg (i := 6) (some 173) rfl (.int .i64 (n : Int)) rfl rfl (fun _ => by kernel_rfl) K ?_
                simp only [aP, lI, l0, lS]
                refine pureHg (i := 7) (some 174) rfl (.pointer (some ⟨X, n, none⟩)) rfl rfl (fun w' => idxW X 16 capX n (by omega) w' _ _ rfl rfl rfl) K ?_
                simp only [aP, lI, l0, lS]
                refine cellH (i := 8) (some 175) rfl .u32 (.int .u32 (F n)) X n 60 _ rfl rfl rfl rfl (by kernel_rfl) (by kernel_rfl) (by kernel_rfl) (fun _ _ _ h => h) Tryd.underlying60 K (fun _ h => (h.get _ _ _ _ mS).cell n (by omega)) ?_
                simp only [aP, lI, l0, lS]
                refine pureHg (i := 9) (some 176) rfl (.int .u32 (hxr (h n) (F n))) rfl rfl (fun w => xorI .u32 _ _ _ _ _ _ _ rfl rfl rfl rfl w) K ?_
                simp only [aP, lI, l0, lS]
                refine pureHg (i := 10) (some 177) rfl (.slice (some ⟨X, 0, none⟩) 16 capX) rfl rfl (fun _ => by kernel_rfl) K ?_
                simp only [aP, lI, l0, lS]
                refine pureHg (i := 11) (some 178) rfl (.int .i64 (n : Int)) rfl rfl (fun _ => by kernel_rfl) K ?_
                simp only [aP, lI, l0, lS]
                refine pureHg (i := 12) (some 179) rfl (.int .i64 ((n + 8 : Nat) : Int)) rfl rfl (fun w => addI .i64 _ _ _ _ _ _ _ rfl rfl rfl (by rw [IntKind.wrap_i64]; omega) w) K ?_
                simp only [aP, lI, l0, lS]
                refine pureHg (i := 13) (some 180) rfl (.pointer (some ⟨X, n + 8, none⟩)) rfl rfl (fun w' => idxW X 16 capX (n + 8) (by omega) w' _ _ rfl rfl rfl) K ?_
                simp only [aP, lI, l0, lS]
                refine cellH (i := 14) (some 181) rfl .u32 (.int .u32 (F (n + 8))) X (n + 8) 60 _ rfl rfl rfl rfl (by kernel_rfl) (by kernel_rfl) (by kernel_rfl) (fun _ _ _ h => h) Tryd.underlying60 K (fun _ h => (h.get _ _ _ _ mS).cell (n + 8) (by omega)) ?_
                simp only [aP, lI, l0, lS]
                refine pureHg (i := 15) (some 182) rfl (.int .u32 (G n)) rfl rfl (fun w => xorI .u32 _ _ _ _ _ _ _ rfl rfl rfl (hbp n) w) K ?_
                simp only [aP, lI, l0, lS]
                have hb1 := K.call ((Below.refl w12.heap.size w12).alloc (Nat.le_refl _) (.cells #[.int .u32 (G n)] 60))
                refine actH (i := 16) (w' := w12.alloc (.cells #[.int .u32 (G n)] 60)) (some 183) rfl (.slice (some ⟨w12.heap.size, 0, none⟩) 1 1) (by kernel_rfl) rfl rfl (by kernel_rfl) hb1 ?_
                simp only [aP, lI, l0, lS]
                obtain ⟨v, w13, hr, ho, hg⟩ := HO.more32 (by omega) (G n) rfl 74 K.size
                have hb2 := hb1.grown hg (fun b hb => (World.ownsRow.lt HO b hb).1)
                refine actH (i := 17) (some 184) rfl v (by kernel_rfl) rfl rfl (appendOp _ _ 74 _ _ _ rfl rfl rfl hr) hb2 ?_
                simp only [aP, lI, l0, lS]
                refine pureHg (i := 18) (some 17) rfl v rfl rfl (fun _ => by kernel_rfl) hb2 ?_
                simp only [aP, lI, l0, lS]
                refine wpAnyH_done (by kernel_rfl) ?_ _
                have HS := show Hid _ from (And.intro ho hb2)
                clear K HO hr ho hg hb1 hb2
                go_wp2
                go_roundw
                case rel => first | exact ⟨n + 1, v, by omega, by go_num, rfl, HS.out⟩ | ((repeat apply Exists.intro); refine ⟨⟨n + 1, v, by omega, by go_num, rfl, HS.out⟩, rfl⟩)
                case measure => simp [intOf]; omega
              · obtain rfl : n = 8 := by omega
                obtain ⟨O2, capO, rfl, hO1, hO2, HH⟩ := HO.has (by omega)
                have hB := K.below
                have hBB := K.base
                clear K HO hlt hn g1
                go_wp2
                go_ret
                exact ⟨O2, capO, rfl, ⟨by omega, hO2, by rw [hG.out]; exact HH⟩, hB⟩
      · go_upto_region 10 with fail
        refine wp_region_list ?_
        refine pureL (.slice (some ⟨X, 0, none⟩) 16 capX) rfl (fun _ => by kernel_rfl) ?_
        simp only [aP, lI, l0, lS]
        refine pureL (.slice (some ⟨X, 0, none⟩) 16 capX) rfl (fun _ => by kernel_rfl) ?_
        simp only [aP, lI, l0, lS]
        refine pureL (.pointer (some ⟨X, 14, none⟩)) rfl (fun w' => idxW X 16 capX 14 (by decide) w' _ _ rfl rfl rfl) ?_
        simp only [aP, lI, l0, lS]
        refine cellL .u32 (.int .u32 (iv 6)) X 14 60 _ rfl rfl rfl Tryd.underlying60 ((K.get _ _ _ _ mS).cell 14 (by decide)) ?_
        simp only [aP, lI, l0, lS]
        refine pureL (.int .u32 (4294967295 - iv 6)) rfl (fun w => notI .u32 _ _ _ _ rfl rfl (by decide +kernel) w) ?_
        simp only [aP, lI, l0, lS]
        refine pureL (.pointer (some ⟨X, 14, none⟩)) rfl (fun w' => idxW X 16 capX 14 (by decide) w' _ _ rfl rfl rfl) ?_
        simp only [aP, lI, l0, lS]
        refine storeL .u32 (4294967295 - iv 6) X 14 60 _ _ rfl rfl rfl rfl (by rw [(K.get _ _ _ _ mS).cell 14 (by decide)]; rfl) ((K.get _ _ _ _ mS).free 14 (by decide)) (by kernel_rfl) ?_
        simp only [Act.put]
        replace K := K.setCell [(M, .u32, 16, bpw z)] X .u32 16 (upd (upd (app h 8 iv) 12 (hxr (iv 4) (t % 4294967296))) 13 (hxr (iv 5) (t / 4294967296 % 4294967296))) 14 (by decide) (4294967295 - iv 6) mS (fun p hp => by obtain rfl := List.mem_singleton.1 hp; exact (mT _ mS)) (fun p hp => by obtain rfl := List.mem_singleton.1 hp; simp only; omega) hX0
        generalize w6.setCell ⟨X, 14, none⟩ (.int .u32 (4294967295 - iv 6)) = w7 at K ⊢
        show Exit.then _ _ _ _ _
        replace K : Kr w m4 [(X, .u32, 16, bst h t true), (M, .u32, 16, bpw z)] [] w7 := ⟨fun p hp => by
          rcases List.mem_cons.1 hp with rfl | hp
          · exact ⟨(K.get _ _ _ _ mS).congr hcon, (K.rows _ mS).2⟩
          · exact K.rows p (mT _ hp), K.room, (fun p hp q hq => by cases hq), K.size, K.base, K.below⟩
        clear hcon
        go_upto_region 11 with fail
        refine wp_region_list ?_
        have hlt4 := (K.rows _ mS).2
        have hs4 := K.size
        refine callL rfl (fun _ => by kernel_rfl) (refRows_any _) ?_
        rintro e w8 ⟨O, bs, rfl, ⟨hO1, hbs, hSG⟩, l⟩
        replace K := K.call l
        clear l
        refine ⟨_, rfl, ?_⟩
        simp only [aP, lI, l0, lS]
        refine pureL (.slice (some ⟨O, 0, none⟩) 10 10) rfl (fun _ => by kernel_rfl) ?_
        simp only [aP, lI, l0, lS]
        have P0 : PI z w X M O bs (bst h t true) w8 := ⟨K.get _ _ _ _ mS, K.get _ _ _ _ (mT _ mS), hSG, Nat.lt_of_lt_of_le (K.rows _ mS).2 K.size, Nat.lt_of_lt_of_le (K.rows _ (mT _ mS)).2 K.size, K.below⟩
        have hXO : X < O := by simp only at hlt4; omega
        have hXb : ∀ r, r < 10 → X < bs r := fun r hr => by have := hbs r hr; simp only at hlt4; omega
        have hst := bst_in h t true hh
        clear K hSG hbs hO1 hlt4 hs4
        show Exit.then _ _ _ _ _
        go_wp2
        go_loopw [13] (fun i w' => ∃ r : Nat, r ≤ 10 ∧ i = .int .i64 r ∧ PI z w X M O bs (bR (bpw z) (bst h t true) r) w') (fun i _ => 10 - (intOf i).toNat)
        case atStart => exact ⟨0, by omega, rfl, P0⟩
        case round =>
          clear P0
          obtain ⟨r, hr, rfl, P⟩ := hrel
          have g1 : (0 : Int) ≤ (r : Int) := by omega
          by_cases hlt : r < 10
          · have g2 : (r : Int) < 10 := by omega
            have hin := bR_in (bpw z) _ hst r
            go_upto_region 15 with fail
            refine wp_region_list ?_
            refine pureL (.slice (some ⟨O, 0, none⟩) 10 10) rfl (fun _ => by kernel_rfl) ?_
            simp only [aP, lI, l0, lS]
            refine pureL (.int .i64 (r : Int)) rfl (fun _ => by kernel_rfl) ?_
            simp only [aP, lI, l0, lS]
            refine pureL (.pointer (some ⟨O, r, none⟩)) rfl (fun w' => idxII O r hlt w' _ _ rfl rfl rfl) ?_
            simp only [aP, lI, l0, lS]
            refine readL (.slice (some ⟨bs r, 0, none⟩) 16 16) rfl (bloadSl 24 3 _ ⟨O, r, none⟩ _ rfl rfl Tryd.underlying24 (P.sg.top r hlt)) ?_
            simp only [aP, lI, l0, lS]
            refine pureL (.slice (some ⟨bs r, 0, none⟩) 16 16) rfl (fun _ => by kernel_rfl) ?_
            simp only [aP, lI, l0, lS]
            show Exit.then _ _ _ _ _
            go_wp2
            go_loopw [15] (fun i w' => ∃ q : Nat, q ≤ 4 ∧ i = .int .i64 q ∧ PI z w X M O bs (bN (bpw z) (sg r) (bR (bpw z) (bst h t true) r) q) w') (fun i _ => 4 - (intOf i).toNat)
            case atStart => exact ⟨0, by omega, rfl, P⟩
            case round =>
              clear P
              obtain ⟨q, hq, rfl, P⟩ := hrel
              have g3 : (0 : Int) ≤ (q : Int) := by omega
              by_cases hlt2 : q < 4
              · have g4 : (q : Int) < 4 := by omega
                have hin2 := bN_in (bpw z) (sg r) _ hin (q)
                go_upto_region 19 with fail
                replace P := P.drew
                refine wp_region_held_drew (S := fun w' => PM z w M O bs w') (by kernel_rfl) P.pm ?_
                intro K
                generalize wr.drew = w9 at P K ⊢
                refine pureHg (i := 0) (some 99) rfl (.slice (some ⟨X, 0, none⟩) 16 capX) rfl rfl (fun _ => by kernel_rfl) K ?_
                simp only [aP, lI, l0, lS]
                refine pureHg (i := 1) (some 100) rfl (.int .i64 (q : Int)) rfl rfl (fun _ => by kernel_rfl) K ?_
                simp only [aP, lI, l0, lS]
                refine pureHg (i := 2) (some 101) rfl (.int .i64 (q : Int)) rfl rfl (fun _ => by kernel_rfl) K ?_
                simp only [aP, lI, l0, lS]
                refine pureHg (i := 3) (some 102) rfl (.int .i64 ((4 + q : Nat) : Int)) rfl rfl (fun w => addI .i64 _ _ _ _ _ _ _ rfl rfl rfl (by rw [IntKind.wrap_i64]; omega) w) K ?_
                simp only [aP, lI, l0, lS]
                refine pureHg (i := 4) (some 103) rfl (.int .i64 (q : Int)) rfl rfl (fun _ => by kernel_rfl) K ?_
                simp only [aP, lI, l0, lS]
                refine pureHg (i := 5) (some 104) rfl (.int .i64 ((8 + q : Nat) : Int)) rfl rfl (fun w => addI .i64 _ _ _ _ _ _ _ rfl rfl rfl (by rw [IntKind.wrap_i64]; omega) w) K ?_
                simp only [aP, lI, l0, lS]
                refine pureHg (i := 6) (some 105) rfl (.int .i64 (q : Int)) rfl rfl (fun _ => by kernel_rfl) K ?_
                simp only [aP, lI, l0, lS]
                refine pureHg (i := 7) (some 106) rfl (.int .i64 ((12 + q : Nat) : Int)) rfl rfl (fun w => addI .i64 _ _ _ _ _ _ _ rfl rfl rfl (by rw [IntKind.wrap_i64]; omega) w) K ?_
                simp only [aP, lI, l0, lS]
                refine pureHg (i := 8) (some 107) rfl (.slice (some ⟨M, 0, none⟩) 16 capM) rfl rfl (fun _ => by kernel_rfl) K ?_
                simp only [aP, lI, l0, lS]
                refine pureHg (i := 9) (some 108) rfl (.slice (some ⟨bs r, 0, none⟩) 16 16) rfl rfl (fun _ => by kernel_rfl) K ?_
                simp only [aP, lI, l0, lS]
                refine pureHg (i := 10) (some 109) rfl (.int .i64 (q : Int)) rfl rfl (fun _ => by kernel_rfl) K ?_
                simp only [aP, lI, l0, lS]
                refine pureHg (i := 11) (some 110) rfl (.int .i64 ((2 * q : Nat) : Int)) rfl rfl (fun w => mulI .i64 _ _ _ _ _ _ _ rfl rfl rfl (by rw [IntKind.wrap_i64]; omega) w) K ?_
                simp only [aP, lI, l0, lS]
                refine pureHg (i := 12) (some 111) rfl (.pointer (some ⟨bs r, 2 * q, none⟩)) rfl rfl (fun w' => idxI (bs r) (2 * q) (by omega) w' _ _ rfl rfl rfl) K ?_
                simp only [aP, lI, l0, lS]
                refine cellH (i := 13) (some 112) rfl .i64 (.int .i64 ((sg r (2 * q) : Nat) : Int)) (bs r) (2 * q) 3 _ rfl rfl rfl rfl (by kernel_rfl) (by kernel_rfl) (by kernel_rfl) (fun _ _ _ h => h) Tryd.underlying3 K (fun _ h => (h.sg.rows r hlt).1.cell (2 * q) (by omega)) ?_
                simp only [aP, lI, l0, lS]
                refine pureHg (i := 14) (some 113) rfl (.pointer (some ⟨M, sg r (2 * q), none⟩)) rfl rfl (fun w' => idxW M 16 capM (sg r (2 * q)) (sg_lt _ _) w' _ _ rfl rfl rfl) K ?_
                simp only [aP, lI, l0, lS]
                refine cellH (i := 15) (some 114) rfl .u32 (.int .u32 (bpw z (sg r (2 * q)))) M (sg r (2 * q)) 60 _ rfl rfl rfl rfl (by kernel_rfl) (by kernel_rfl) (by kernel_rfl) (fun _ _ _ h => h) Tryd.underlying60 K (fun _ h => h.hm.cell (sg r (2 * q)) (sg_lt _ _)) ?_
                simp only [aP, lI, l0, lS]
                refine pureHg (i := 16) (some 115) rfl (.slice (some ⟨M, 0, none⟩) 16 capM) rfl rfl (fun _ => by kernel_rfl) K ?_
                simp only [aP, lI, l0, lS]
                refine pureHg (i := 17) (some 116) rfl (.slice (some ⟨bs r, 0, none⟩) 16 16) rfl rfl (fun _ => by kernel_rfl) K ?_
                simp only [aP, lI, l0, lS]
                refine pureHg (i := 18) (some 117) rfl (.int .i64 (q : Int)) rfl rfl (fun _ => by kernel_rfl) K ?_
                simp only [aP, lI, l0, lS]
                refine pureHg (i := 19) (some 118) rfl (.int .i64 ((2 * q : Nat) : Int)) rfl rfl (fun w => mulI .i64 _ _ _ _ _ _ _ rfl rfl rfl (by rw [IntKind.wrap_i64]; omega) w) K ?_
                simp only [aP, lI, l0, lS]
                refine pureHg (i := 20) (some 119) rfl (.int .i64 ((2 * q + 1 : Nat) : Int)) rfl rfl (fun w => addI .i64 _ _ _ _ _ _ _ rfl rfl rfl (by rw [IntKind.wrap_i64]; omega) w) K ?_
                simp only [aP, lI, l0, lS]
                refine pureHg (i := 21) (some 120) rfl (.pointer (some ⟨bs r, 2 * q + 1, none⟩)) rfl rfl (fun w' => idxI (bs r) (2 * q + 1) (by omega) w' _ _ rfl rfl rfl) K ?_
                simp only [aP, lI, l0, lS]
                refine cellH (i := 22) (some 121) rfl .i64 (.int .i64 ((sg r (2 * q + 1) : Nat) : Int)) (bs r) (2 * q + 1) 3 _ rfl rfl rfl rfl (by kernel_rfl) (by kernel_rfl) (by kernel_rfl) (fun _ _ _ h => h) Tryd.underlying3 K (fun _ h => (h.sg.rows r hlt).1.cell (2 * q + 1) (by omega)) ?_
                simp only [aP, lI, l0, lS]
                refine pureHg (i := 23) (some 122) rfl (.pointer (some ⟨M, sg r (2 * q + 1), none⟩)) rfl rfl (fun w' => idxW M 16 capM (sg r (2 * q + 1)) (sg_lt _ _) w' _ _ rfl rfl rfl) K ?_
                simp only [aP, lI, l0, lS]
                refine cellH (i := 24) (some 123) rfl .u32 (.int .u32 (bpw z (sg r (2 * q + 1)))) M (sg r (2 * q + 1)) 60 _ rfl rfl rfl rfl (by kernel_rfl) (by kernel_rfl) (by kernel_rfl) (fun _ _ _ h => h) Tryd.underlying60 K (fun _ h => h.hm.cell (sg r (2 * q + 1)) (sg_lt _ _)) ?_
                simp only [aP, lI, l0, lS]
                refine callH (i := 25) (some 124) rfl (by kernel_rfl) rfl rfl (fun _ => by kernel_rfl) (refMix_any X capX (q) (4 + q) (8 + q) (12 + q) (bpw z (sg r (2 * q))) (bpw z (sg r (2 * q + 1))) (bN (bpw z) (sg r) (bR (bpw z) (bst h t true) r) q) hin2 (by omega) (by omega) (by omega) (by omega) (by omega) (by omega) (by omega) (by omega) (by omega) (by omega) _ P.has P.lt) ?_
                rintro e w10 ⟨rfl, G⟩
                refine ⟨_, rfl, (P.mix G hX0 hXM hXO hXb).pm, ?_⟩
                simp only [aP, lI, l0, lS]
                refine wpAnyH_done (by kernel_rfl) ?_ _
                rw [← at_lo (bpw z) (sg r) _ q hlt2] at G
                have HS := show Hid _ from P.mix G hX0 hXM hXO hXb
                clear P K G hin2
                go_wp2
                go_roundw
                case rel => first | exact ⟨q + 1, by omega, by go_num, HS.out⟩ | ((repeat apply Exists.intro); refine ⟨⟨q + 1, by omega, by go_num, HS.out⟩, rfl⟩)
                case measure => simp [intOf]; omega
              · obtain rfl : q = 4 := by omega
                clear hlt2 hq g3
                go_wp2
                go_loopw [16] (fun i w' => ∃ q : Nat, q ≤ 4 ∧ i = .int .i64 q ∧ PI z w X M O bs (bN (bpw z) (sg r) (bR (bpw z) (bst h t true) r) (4 + q)) w') (fun i _ => 4 - (intOf i).toNat)
                case atStart => exact ⟨0, by omega, rfl, P⟩
                case round =>
                  clear P
                  obtain ⟨q, hq, rfl, P⟩ := hrel
                  have g3 : (0 : Int) ≤ (q : Int) := by omega
                  by_cases hlt2 : q < 4
                  · have g4 : (q : Int) < 4 := by omega
                    have hin2 := bN_in (bpw z) (sg r) _ hin ((4 + q))
                    go_upto_region 23 with fail
                    replace P := P.drew
                    refine wp_region_held_drew (S := fun w' => PM z w M O bs w') (by kernel_rfl) P.pm ?_
                    intro K
                    generalize wr.drew = w9 at P K ⊢
                    refine pureHg (i := 0) (some 129) rfl (.slice (some ⟨X, 0, none⟩) 16 capX) rfl rfl (fun _ => by kernel_rfl) K ?_
                    simp only [aP, lI, l0, lS]
                    refine pureHg (i := 1) (some 130) rfl (.int .i64 (q : Int)) rfl rfl (fun _ => by kernel_rfl) K ?_
                    simp only [aP, lI, l0, lS]
                    refine pureHg (i := 2) (some 131) rfl (.int .i64 (q : Int)) rfl rfl (fun _ => by kernel_rfl) K ?_
                    simp only [aP, lI, l0, lS]
                    refine pureHg (i := 3) (some 132) rfl (.int .i64 ((q + 1 : Nat) : Int)) rfl rfl (fun w => addI .i64 _ _ _ _ _ _ _ rfl rfl rfl (by rw [IntKind.wrap_i64]; omega) w) K ?_
                    simp only [aP, lI, l0, lS]
                    refine pureHg (i := 4) (some 133) rfl (.int .i64 (((q + 1) % 4 : Nat) : Int)) rfl rfl (fun w => remI .i64 _ _ _ _ _ _ _ rfl rfl rfl (by decide) (by rw [Int.tmod_eq_emod_of_nonneg (by omega)]; omega) w) K ?_
                    simp only [aP, lI, l0, lS]
                    refine pureHg (i := 5) (some 134) rfl (.int .i64 ((4 + (q + 1) % 4 : Nat) : Int)) rfl rfl (fun w => addI .i64 _ _ _ _ _ _ _ rfl rfl rfl (by rw [IntKind.wrap_i64]; omega) w) K ?_
                    simp only [aP, lI, l0, lS]
                    refine pureHg (i := 6) (some 135) rfl (.int .i64 (q : Int)) rfl rfl (fun _ => by kernel_rfl) K ?_
                    simp only [aP, lI, l0, lS]
                    refine pureHg (i := 7) (some 136) rfl (.int .i64 ((q + 2 : Nat) : Int)) rfl rfl (fun w => addI .i64 _ _ _ _ _ _ _ rfl rfl rfl (by rw [IntKind.wrap_i64]; omega) w) K ?_
                    simp only [aP, lI, l0, lS]
                    refine pureHg (i := 8) (some 137) rfl (.int .i64 (((q + 2) % 4 : Nat) : Int)) rfl rfl (fun w => remI .i64 _ _ _ _ _ _ _ rfl rfl rfl (by decide) (by rw [Int.tmod_eq_emod_of_nonneg (by omega)]; omega) w) K ?_
                    simp only [aP, lI, l0, lS]
                    refine pureHg (i := 9) (some 138) rfl (.int .i64 ((8 + (q + 2) % 4 : Nat) : Int)) rfl rfl (fun w => addI .i64 _ _ _ _ _ _ _ rfl rfl rfl (by rw [IntKind.wrap_i64]; omega) w) K ?_
                    simp only [aP, lI, l0, lS]
                    refine pureHg (i := 10) (some 139) rfl (.int .i64 (q : Int)) rfl rfl (fun _ => by kernel_rfl) K ?_
                    simp only [aP, lI, l0, lS]
                    refine pureHg (i := 11) (some 140) rfl (.int .i64 ((q + 3 : Nat) : Int)) rfl rfl (fun w => addI .i64 _ _ _ _ _ _ _ rfl rfl rfl (by rw [IntKind.wrap_i64]; omega) w) K ?_
                    simp only [aP, lI, l0, lS]
                    refine pureHg (i := 12) (some 141) rfl (.int .i64 (((q + 3) % 4 : Nat) : Int)) rfl rfl (fun w => remI .i64 _ _ _ _ _ _ _ rfl rfl rfl (by decide) (by rw [Int.tmod_eq_emod_of_nonneg (by omega)]; omega) w) K ?_
                    simp only [aP, lI, l0, lS]
                    refine pureHg (i := 13) (some 142) rfl (.int .i64 ((12 + (q + 3) % 4 : Nat) : Int)) rfl rfl (fun w => addI .i64 _ _ _ _ _ _ _ rfl rfl rfl (by rw [IntKind.wrap_i64]; omega) w) K ?_
                    simp only [aP, lI, l0, lS]
                    refine pureHg (i := 14) (some 143) rfl (.slice (some ⟨M, 0, none⟩) 16 capM) rfl rfl (fun _ => by kernel_rfl) K ?_
                    simp only [aP, lI, l0, lS]
                    refine pureHg (i := 15) (some 144) rfl (.slice (some ⟨bs r, 0, none⟩) 16 16) rfl rfl (fun _ => by kernel_rfl) K ?_
                    simp only [aP, lI, l0, lS]
                    refine pureHg (i := 16) (some 145) rfl (.int .i64 (q : Int)) rfl rfl (fun _ => by kernel_rfl) K ?_
                    simp only [aP, lI, l0, lS]
                    refine pureHg (i := 17) (some 146) rfl (.int .i64 ((2 * q : Nat) : Int)) rfl rfl (fun w => mulI .i64 _ _ _ _ _ _ _ rfl rfl rfl (by rw [IntKind.wrap_i64]; omega) w) K ?_
                    simp only [aP, lI, l0, lS]
                    refine pureHg (i := 18) (some 147) rfl (.int .i64 ((8 + 2 * q : Nat) : Int)) rfl rfl (fun w => addI .i64 _ _ _ _ _ _ _ rfl rfl rfl (by rw [IntKind.wrap_i64]; omega) w) K ?_
                    simp only [aP, lI, l0, lS]
                    refine pureHg (i := 19) (some 148) rfl (.pointer (some ⟨bs r, 8 + 2 * q, none⟩)) rfl rfl (fun w' => idxI (bs r) (8 + 2 * q) (by omega) w' _ _ rfl rfl rfl) K ?_
                    simp only [aP, lI, l0, lS]
                    refine cellH (i := 20) (some 149) rfl .i64 (.int .i64 ((sg r (8 + 2 * q) : Nat) : Int)) (bs r) (8 + 2 * q) 3 _ rfl rfl rfl rfl (by kernel_rfl) (by kernel_rfl) (by kernel_rfl) (fun _ _ _ h => h) Tryd.underlying3 K (fun _ h => (h.sg.rows r hlt).1.cell (8 + 2 * q) (by omega)) ?_
                    simp only [aP, lI, l0, lS]
                    refine pureHg (i := 21) (some 150) rfl (.pointer (some ⟨M, sg r (8 + 2 * q), none⟩)) rfl rfl (fun w' => idxW M 16 capM (sg r (8 + 2 * q)) (sg_lt _ _) w' _ _ rfl rfl rfl) K ?_
                    simp only [aP, lI, l0, lS]
                    refine cellH (i := 22) (some 151) rfl .u32 (.int .u32 (bpw z (sg r (8 + 2 * q)))) M (sg r (8 + 2 * q)) 60 _ rfl rfl rfl rfl (by kernel_rfl) (by kernel_rfl) (by kernel_rfl) (fun _ _ _ h => h) Tryd.underlying60 K (fun _ h => h.hm.cell (sg r (8 + 2 * q)) (sg_lt _ _)) ?_
                    simp only [aP, lI, l0, lS]
                    refine pureHg (i := 23) (some 152) rfl (.slice (some ⟨M, 0, none⟩) 16 capM) rfl rfl (fun _ => by kernel_rfl) K ?_
                    simp only [aP, lI, l0, lS]
                    refine pureHg (i := 24) (some 153) rfl (.slice (some ⟨bs r, 0, none⟩) 16 16) rfl rfl (fun _ => by kernel_rfl) K ?_
                    simp only [aP, lI, l0, lS]
                    refine pureHg (i := 25) (some 154) rfl (.int .i64 (q : Int)) rfl rfl (fun _ => by kernel_rfl) K ?_
                    simp only [aP, lI, l0, lS]
                    refine pureHg (i := 26) (some 155) rfl (.int .i64 ((2 * q : Nat) : Int)) rfl rfl (fun w => mulI .i64 _ _ _ _ _ _ _ rfl rfl rfl (by rw [IntKind.wrap_i64]; omega) w) K ?_
                    simp only [aP, lI, l0, lS]
                    refine pureHg (i := 27) (some 156) rfl (.int .i64 ((9 + 2 * q : Nat) : Int)) rfl rfl (fun w => addI .i64 _ _ _ _ _ _ _ rfl rfl rfl (by rw [IntKind.wrap_i64]; omega) w) K ?_
                    simp only [aP, lI, l0, lS]
                    refine pureHg (i := 28) (some 157) rfl (.pointer (some ⟨bs r, 9 + 2 * q, none⟩)) rfl rfl (fun w' => idxI (bs r) (9 + 2 * q) (by omega) w' _ _ rfl rfl rfl) K ?_
                    simp only [aP, lI, l0, lS]
                    refine cellH (i := 29) (some 158) rfl .i64 (.int .i64 ((sg r (9 + 2 * q) : Nat) : Int)) (bs r) (9 + 2 * q) 3 _ rfl rfl rfl rfl (by kernel_rfl) (by kernel_rfl) (by kernel_rfl) (fun _ _ _ h => h) Tryd.underlying3 K (fun _ h => (h.sg.rows r hlt).1.cell (9 + 2 * q) (by omega)) ?_
                    simp only [aP, lI, l0, lS]
                    refine pureHg (i := 30) (some 159) rfl (.pointer (some ⟨M, sg r (9 + 2 * q), none⟩)) rfl rfl (fun w' => idxW M 16 capM (sg r (9 + 2 * q)) (sg_lt _ _) w' _ _ rfl rfl rfl) K ?_
                    simp only [aP, lI, l0, lS]
                    refine cellH (i := 31) (some 160) rfl .u32 (.int .u32 (bpw z (sg r (9 + 2 * q)))) M (sg r (9 + 2 * q)) 60 _ rfl rfl rfl rfl (by kernel_rfl) (by kernel_rfl) (by kernel_rfl) (fun _ _ _ h => h) Tryd.underlying60 K (fun _ h => h.hm.cell (sg r (9 + 2 * q)) (sg_lt _ _)) ?_
                    simp only [aP, lI, l0, lS]
                    refine callH (i := 32) (some 161) rfl (by kernel_rfl) rfl rfl (fun _ => by kernel_rfl) (refMix_any X capX (q) (4 + (q + 1) % 4) (8 + (q + 2) % 4) (12 + (q + 3) % 4) (bpw z (sg r (8 + 2 * q))) (bpw z (sg r (9 + 2 * q))) (bN (bpw z) (sg r) (bR (bpw z) (bst h t true) r) (4 + q)) hin2 (by omega) (by omega) (by omega) (by omega) (by omega) (by omega) (by omega) (by omega) (by omega) (by omega) _ P.has P.lt) ?_
                    rintro e w10 ⟨rfl, G⟩
                    refine ⟨_, rfl, (P.mix G hX0 hXM hXO hXb).pm, ?_⟩
                    simp only [aP, lI, l0, lS]
                    refine wpAnyH_done (by kernel_rfl) ?_ _
                    rw [← at_hi (bpw z) (sg r) _ q hlt2] at G
                    have HS := show Hid _ from P.mix G hX0 hXM hXO hXb
                    clear P K G hin2
                    go_wp2
                    go_roundw
                    case rel => first | exact ⟨q + 1, by omega, by go_num, HS.out⟩ | ((repeat apply Exists.intro); refine ⟨⟨q + 1, by omega, by go_num, HS.out⟩, rfl⟩)
                    case measure => simp [intOf]; omega
                  · obtain rfl : q = 4 := by omega
                    have HS := show Hid (PI z w X M O bs (bR (bpw z) (bst h t true) (r + 1)) wr) from P
                    clear P hlt2 hq g3
                    go_wp2
                    go_roundw
                    case rel => first | exact ⟨r + 1, by omega, by go_num, HS.out⟩ | ((repeat apply Exists.intro); refine ⟨⟨r + 1, by omega, by go_num, HS.out⟩, rfl⟩)
                    case measure => simp [intOf]; omega
          · obtain rfl : r = 10 := by omega
            clear hlt hr g1 hXM hXO hXb
            have hbp : ∀ n, hxr (hxr (h n) (bR (bpw z) (bst h t true) 10 n)) (bR (bpw z) (bst h t true) 10 (n + 8)) = bpr h z t true n := fun _ => rfl
            generalize bR (bpw z) (bst h t true) 10 = F at P hbp
            generalize hG : bpr h z t true = G at hbp
            replace hG := show Hid _ from hG
            have K : Kr w wr.heap.size [(X, .u32, 16, F)] [] wr := ⟨fun p hp => by obtain rfl := List.mem_singleton.1 hp; exact ⟨P.has, P.lt⟩, fun _ h => (by cases h), fun _ _ _ h => (by cases h), Nat.le_refl _, P.below.size, P.below⟩
            clear P hst
            go_upto_region 24 with fail
            refine wp_region_list ?_
            refine actL (w' := wr.alloc (.cells #[] 60)) (.slice (some ⟨wr.heap.size, 0, none⟩) 0 0) rfl (by kernel_rfl) ?_
            simp only [aP, lI, l0, lS]
            refine pureL (.slice (some ⟨wr.heap.size, 0, none⟩) 0 0) rfl (fun _ => by kernel_rfl) ?_
            simp only [aP, lI, l0, lS]
            replace K := K.call ((Below.refl wr.heap.size wr).alloc (Nat.le_refl _) (.cells #[] 60))
            have HO : Own (wr.alloc (.cells #[] 60)) wr.heap.size 60 .u32 0 G (.slice (some ⟨wr.heap.size, 0, none⟩) 0 0) := Own.lit wr wr.heap.size 60 .u32 0 G (Nat.le_refl _) (by unfold maxLen; omega)
            generalize wr.alloc (.cells #[] 60) = w11 at K HO ⊢
            generalize Value.slice (some ⟨wr.heap.size, 0, none⟩) 0 0 = ov0 at HO ⊢
            generalize wr.heap.size = B at K HO
            show Exit.then _ _ _ _ _
            go_wp2
            go_loopw [17, 18] (fun ow i w' => ∃ (n : Nat) (ov : Value), n ≤ 8 ∧ i = .int .i64 (n : Int) ∧ ov = ow ∧ Own w' B 60 .u32 n G ov ∧ Kr w B [(X, .u32, 16, F)] [] w') (fun _ i _ => 8 - (intOf i).toNat)
            case atStart => exact ⟨0, _, by omega, rfl, rfl, HO, K⟩
            case round =>
              clear K HO
              obtain ⟨n, ov, hn, rfl, rfl, HO, K⟩ := hrel
              have g1 : (0 : Int) ≤ (n : Int) := by omega
              by_cases hlt : n < 8
              · have g2 : (n : Int) < 8 := by omega
                go_upto_region 28 with fail
                refine wp_region_held_drew (S := fun w' => Kr w B [(X, .u32, 16, F)] [] w') (by kernel_rfl) K.drew ?_
                clear K
                intro K
                replace HO := HO.drew
                generalize wr.drew = w12 at K HO ⊢
                refine pureHg (i := 0) (some 167) rfl ov rfl rfl (fun _ => by kernel_rfl) K ?_
                simp only [aP, lI, l0, lS]
                refine pureHg (i := 1) (some 168) rfl (.slice (some ⟨A, 0, none⟩) 8 capA) rfl rfl (fun _ => by kernel_rfl) K ?_
                simp only [aP, lI, l0, lS]
                refine pureHg (i := 2) (some 169) rfl (.int .i64 (n : Int)) rfl rfl (fun _ => by kernel_rfl) K ?_
                simp only [aP, lI, l0, lS]
                refine pureHg (i := 3) (some 170) rfl (.pointer (some ⟨A, n, none⟩)) rfl rfl (fun w' => idxW A 8 capA n hlt w' _ _ rfl rfl rfl) K ?_
                simp only [aP, lI, l0, lS]
                refine cellH (i := 4) (some 171) rfl .u32 (.int .u32 (h n)) A n 60 _ rfl rfl rfl rfl (by kernel_rfl) (by kernel_rfl) (by kernel_rfl) (fun _ _ _ h => h) Tryd.underlying60 K (fun _ h => (hA.below h.below hAl).cell n hlt) ?_
                simp only [aP, lI, l0, lS]
                refine pureHg (i := 5) (some 172) rfl (.slice (some ⟨X, 0, none⟩) 16 capX) rfl rfl (fun _ => by kernel_rfl) K ?_
                simp only [aP, lI, l0, lS]
                refine pureHg (i := 6) (some 173) rfl (.int .i64 (n : Int)) rfl rfl (fun _ => by kernel_rfl) K ?_
                simp only [aP, lI, l0, lS]
                refine pureHg (i := 7) (some 174) rfl (.pointer (some ⟨X, n, none⟩)) rfl rfl (fun w' => idxW X 16 capX n (by omega) w' _ _ rfl rfl rfl) K ?_
                simp only [aP, lI, l0, lS]
                refine cellH (i := 8) (some 175) rfl .u32 (.int .u32 (F n)) X n 60 _ rfl rfl rfl rfl (by kernel_rfl) (by kernel_rfl) (by kernel_rfl) (fun _ _ _ h => h) Tryd.underlying60 K (fun _ h => (h.get _ _ _ _ mS).cell n (by omega)) ?_
                simp only [aP, lI, l0, lS]
                refine pureHg (i := 9) (some 176) rfl (.int .u32 (hxr (h n) (F n))) rfl rfl (fun w => xorI .u32 _ _ _ _ _ _ _ rfl rfl rfl rfl w) K ?_
                simp only [aP, lI, l0, lS]
                refine pureHg (i := 10) (some 177) rfl (.slice (some ⟨X, 0, none⟩) 16 capX) rfl rfl (fun _ => by kernel_rfl) K ?_
                simp only [aP, lI, l0, lS]
                refine pureHg (i := 11) (some 178) rfl (.int .i64 (n : Int)) rfl rfl (fun _ => by kernel_rfl) K ?_
                simp only [aP, lI, l0, lS]
                refine pureHg (i := 12) (some 179) rfl (.int .i64 ((n + 8 : Nat) : Int)) rfl rfl (fun w => addI .i64 _ _ _ _ _ _ _ rfl rfl rfl (by rw [IntKind.wrap_i64]; omega) w) K ?_
                simp only [aP, lI, l0, lS]
                refine pureHg (i := 13) (some 180) rfl (.pointer (some ⟨X, n + 8, none⟩)) rfl rfl (fun w' => idxW X 16 capX (n + 8) (by omega) w' _ _ rfl rfl rfl) K ?_
                simp only [aP, lI, l0, lS]
                refine cellH (i := 14) (some 181) rfl .u32 (.int .u32 (F (n + 8))) X (n + 8) 60 _ rfl rfl rfl rfl (by kernel_rfl) (by kernel_rfl) (by kernel_rfl) (fun _ _ _ h => h) Tryd.underlying60 K (fun _ h => (h.get _ _ _ _ mS).cell (n + 8) (by omega)) ?_
                simp only [aP, lI, l0, lS]
                refine pureHg (i := 15) (some 182) rfl (.int .u32 (G n)) rfl rfl (fun w => xorI .u32 _ _ _ _ _ _ _ rfl rfl rfl (hbp n) w) K ?_
                simp only [aP, lI, l0, lS]
                have hb1 := K.call ((Below.refl w12.heap.size w12).alloc (Nat.le_refl _) (.cells #[.int .u32 (G n)] 60))
                refine actH (i := 16) (w' := w12.alloc (.cells #[.int .u32 (G n)] 60)) (some 183) rfl (.slice (some ⟨w12.heap.size, 0, none⟩) 1 1) (by kernel_rfl) rfl rfl (by kernel_rfl) hb1 ?_
                simp only [aP, lI, l0, lS]
                obtain ⟨v, w13, hr, ho, hg⟩ := HO.more32 (by omega) (G n) rfl 74 K.size
                have hb2 := hb1.grown hg (fun b hb => (World.ownsRow.lt HO b hb).1)
                refine actH (i := 17) (some 184) rfl v (by kernel_rfl) rfl rfl (appendOp _ _ 74 _ _ _ rfl rfl rfl hr) hb2 ?_
                simp only [aP, lI, l0, lS]
                refine pureHg (i := 18) (some 17) rfl v rfl rfl (fun _ => by kernel_rfl) hb2 ?_
                simp only [aP, lI, l0, lS]
                refine wpAnyH_done (by kernel_rfl) ?_ _
                have HS := show Hid _ from (And.intro ho hb2)
                clear K HO hr ho hg hb1 hb2
                go_wp2
                go_roundw
                case rel => first | exact ⟨n + 1, v, by omega, by go_num, rfl, HS.out⟩ | ((repeat apply Exists.intro); refine ⟨⟨n + 1, v, by omega, by go_num, rfl, HS.out⟩, rfl⟩)
                case measure => simp [intOf]; omega
              · obtain rfl : n = 8 := by omega
                obtain ⟨O2, capO, rfl, hO1, hO2, HH⟩ := HO.has (by omega)
                have hB := K.below
                have hBB := K.base
                clear K HO hlt hn g1
                go_wp2
                go_ret
                exact ⟨O2, capO, rfl, ⟨by omega, hO2, by rw [hG.out]; exact HH⟩, hB⟩
section
theorem zeros_row (k : IntKind) (m : Nat) : Builtin.zeroCells (Value.int k 0).cells m = (row k m (fun _ => 0)).toArray := by
  refine Array.toList_inj.1 ?_
  unfold Builtin.zeroCells row
  simp [Value.cells, Nat.mod_one]
section
variable {P : Program}
theorem run_append_zeros {w : World} {base : Nat} {t u ty e : TypeId} {k : IntKind} {bytes n : Nat} {f : Nat → Int} {v : Value} (ht : P.underlying t = some (.slice e)) (hu : P.underlying u = some (.int .i64)) (he : One P e k bytes) (h : Own w base e k n f v)
    (m : Nat) (hm0 : m < 9223372036854775808) (h63 : n + m ≤ maxLen) (hb : (n + m) * bytes ≤ 140737488355328) (hbase : base ≤ w.heap.size) :
    ∃ v' w', (Builtin.append_ #[t, u] ty #[v, .int .i64 (m : Int)]).run P w = .ok v' w' ∧ Own w' base e k (n + m) (app f n (fun _ => 0)) v' ∧ w.grownBy w' v.ownBlock ∧ (∀ g, v'.ownBlock = some g → v.ownBlock = some g ∨ g = w.heap.size) := by
  obtain ⟨i, hi, hq⟩ := Option.map_eq_some_iff.1 he.info
  simp only [Prod.mk.injEq] at hq
  obtain ⟨h1, h2, h3⟩ := hq
  have hw : IntKind.i64.wrap (m : Int) = (m : Int) := by rw [IntKind.wrap_i64]; omega
  have hasI : ∀ w, (asInt (.int .i64 (m : Int))).run P w = .ok (m : Int) w := fun w => by simp [asInt, asIntOf]
  have hneg : ¬ ((m : Int) < 0) := by omega
  have hbm : m * bytes ≤ 140737488355328 := Nat.le_trans (Nat.mul_le_mul_right _ (Nat.le_add_left _ _)) hb
  have h48 : ¬ (281474976710656 < (m : Int) * (bytes : Int)) := by
    have : ((m * bytes : Nat) : Int) ≤ 140737488355328 := by omega
    rw [Int.natCast_mul] at this
    omega
  have hsmall : n + m ≤ 9223372036854775807 := by simp only [maxLen] at h63; omega
  have h63' : ¬ (9223372036854775807 < ((n : Int) + (m : Int))) := by omega
  have hzc : Builtin.zeroCells (Value.int k 0).cells m = (row k m (fun _ => 0)).toArray := zeros_row k m
  have hlen : (row k n f ++ row k m (fun _ => 0)).length = (n + m) * 1 := by rw [List.length_append, row_length, row_length, Nat.mul_one]
  have hval : row k n f ++ row k m (fun _ => 0) = row k (n + m) (app f n (fun _ => 0)) := row_app k n m f _
  have grown : ∀ (old : Nat), old < n + m → ∀ (rw_ : Option Nat),
      Own (w.drew.alloc (.cells ((row k n f).toArray ++ (row k m (fun _ => 0)).toArray ++ Builtin.zeroCells (Value.int k 0).cells (grownCap w (n + m) old e - (n + m))) e)) base e k (n + m) (app f n (fun _ => 0))
        (.slice (some ⟨w.heap.size, 0, none⟩) (n + m) (grownCap w (n + m) old e)) ∧
      w.grownBy (w.drew.alloc (.cells ((row k n f).toArray ++ (row k m (fun _ => 0)).toArray ++ Builtin.zeroCells (Value.int k 0).cells (grownCap w (n + m) old e - (n + m))) e)) rw_ := by
    intro old ho rw_
    have hge := grownCap_ge w (n + m) old e
    have hcm : grownCap w (n + m) old e ≤ maxLen := grownCap_le_maxLen w (n + m) old e h63
    have hz1 : (Value.int k 0).cells.size = 1 := rfl
    unfold Own
    rw [← hval]
    refine ⟨⟨hlen, .inr ⟨w.heap.size, _, _, rfl, hbase, heap_alloc_new w.drew _, hge, hcm, ?_, ?_⟩⟩, ⟨rfl, rfl, rfl, by simp, fun q hq _ => heap_alloc_old w.drew _ hq⟩⟩
    · simp only [Array.size_append, List.size_toArray, size_zeroCells, hz1, row_length]
      omega
    · simp only [Array.toList_append, List.append_assoc]
      rw [← List.append_assoc, ← hlen]
      exact List.take_left
  rcases h.2 with ⟨rfl, rfl⟩ | ⟨g, cap, cur, rfl, hbg, hg, hnc, hcm, hcs, htake⟩
  · by_cases hm : m = 0
    · subst hm
      refine ⟨.slice none 0 0, w, ?_, h.congr (fun j hj => by omega), ⟨rfl, rfl, rfl, Nat.le_refl _, fun _ _ _ => rfl⟩, fun g hg => .inl hg⟩
      have hasI' : ∀ w, (asInt (.int .i64 0)).run P w = .ok 0 w := hasI
      simp [Builtin.append_, run_underlying ht, run_underlying hu, sizeOf, typeInfo, zeroValue, hi, h1, h2, hasI', IntKind.wrap_i64]
    · have h48' : ¬ (281474976710656 < Builtin.nextslicecap m 0 * bytes) := by rw [nextslicecap_zero (by omega)]; omega
      have hgr := grown 0 (by omega) (Value.ownBlock (.slice none 0 0))
      refine ⟨_, _, ?_, hgr.1, hgr.2, fun g hg => ?_⟩
      · simp only [Nat.zero_add] at h63' ⊢
        simp [Builtin.append_, run_underlying ht, run_underlying hu, sizeOf, typeInfo, zeroValue, hi, h1, h2, h3, hasI, hw, hneg, h48, hm, hzc, h48', Question.forced, run_firstCells_none, newRow, grownCap, row]
        intro hh
        omega
      · injection hg with hg
        exact .inr hg.symm
  · by_cases hroom : n + m ≤ cap
    · have hst := run_storeCells_at P g n e (row k m (fun _ => 0)) 0 cur w hg (by rw [row_length, hcs]; omega) (row_one k m _)
      simp only [Nat.add_zero, row_length] at hst
      rw [Nat.mul_one] at htake hcs
      refine ⟨.slice (some ⟨g, 0, none⟩) (n + m) cap, w.setRow g (cur.toList.take n ++ row k m (fun _ => 0) ++ cur.toList.drop (n + m)).toArray, ?_, ?_, ?_, fun g' hg' => .inl hg'⟩
      · by_cases hm : m = 0
        · subst hm
          have hasI' : ∀ w, (asInt (.int .i64 0)).run P w = .ok 0 w := hasI
          have hst' : (storeCells { block := g, off := n, spot := none } []).run P w = _ := hst
          simp [Builtin.append_, run_underlying ht, run_underlying hu, sizeOf, typeInfo, zeroValue, hi, h1, h2, h3, hasI', IntKind.wrap_i64, hnc, Addr.add_lit, hst']
        · simp [Builtin.append_, run_underlying ht, run_underlying hu, sizeOf, typeInfo, zeroValue, hi, h1, h2, h3, hasI, hw, hneg, h48, hroom, hm, hzc, Addr.add_lit, hst]
      · unfold Own
        rw [← hval]
        refine ⟨hlen, .inr ⟨g, cap, _, rfl, hbg, setRow_heap w g cur _ e _ hg, hroom, hcm, ?_, ?_⟩⟩
        · simp only [List.size_toArray, List.length_append, List.length_take, List.length_drop, Array.length_toList, row_length]
          omega
        · rw [htake, ← hlen]
          exact List.take_left
      · exact ⟨rfl, rfl, rfl, by simp, fun k _ hk => setRow_other w g k _ (fun e => hk (by simp [Value.ownBlock, e]))⟩
    · have hm : m ≠ 0 := by omega
      have h48' : ¬ (281474976710656 < Builtin.nextslicecap (n + m) cap * bytes) := by have := growslice_fits (need := n + m) (old := cap) (by omega) hb; omega
      have hfo := run_firstCells_some (P := P) w.drew 1 n ⟨g, 0, none⟩ n cap (row k n f) (by rw [row_length, Nat.mul_one]) (by simpa using World.ownsRow.cells h (g := g) rfl)
      have hgr := grown cap (by omega) (Value.ownBlock (.slice (some ⟨g, 0, none⟩) n cap))
      refine ⟨_, _, ?_, hgr.1, hgr.2, fun g hg => ?_⟩
      · simp [Builtin.append_, run_underlying ht, run_underlying hu, sizeOf, typeInfo, zeroValue, hi, h1, h2, h3, hasI, hw, hneg, h48, hroom, hm, hzc, h63', h48', Question.forced, hfo, newRow, grownCap]
        congr 2
        apply Array.ext'
        simp [List.append_assoc]
      · injection hg with hg
        exact .inr hg.symm
end
end
def bkk (kl : Nat) (key : Nat → Int) : Nat → Int := fun j => if kl ≤ 64 then (if j < kl then key j else 0) else if j < 32 then bhash kl key j else 0
def bxx (c : Int) (k : Nat → Int) : Nat → Int := fun j => bits .xor .u8 (k j) c
def bmac (kl : Nat) (key : Nat → Int) (len : Nat) (z : Nat → Int) : Nat → Int := bhash 96 (app (bxx 92 (bkk kl key)) 64 (bhash (64 + len) (app (bxx 54 (bkk kl key)) 64 z)))
theorem bhash_in (len : Nat) (z : Nat → Int) (n : Nat) : In 256 n (bhash len z) := bsum_in _ _ _ _ _ _
theorem bkk_in (kl : Nat) (key : Nat → Int) (hk : In 256 kl key) (n : Nat) : In 256 n (bkk kl key) := fun j _ => by
  unfold bkk
  split
  · split
    · exact hk j (by assumption)
    · omega
  · split
    · exact bhash_in kl key 32 j (by assumption)
    · omega
theorem bxx_in (c : Int) (hc : 0 ≤ c ∧ c < 256) (k : Nat → Int) (n : Nat) (hk : In 256 n k) : In 256 n (bxx c k) := fun j hj => by
  unfold bxx
  obtain ⟨x, hx⟩ := Int.eq_ofNat_of_zero_le (hk j hj).1
  obtain ⟨y, rfl⟩ := Int.eq_ofNat_of_zero_le hc.1
  have h1 := (hk j hj).2
  rw [hx] at h1 ⊢
  have h : x ^^^ y < 2 ^ 8 := Nat.xor_lt_two_pow (by omega) (by omega)
  rw [u8_xor_nat x y (by omega) (by omega)]
  omega
theorem app_in (n m : Nat) (f g : Nat → Int) (hf : In 256 n f) (hg : In 256 m g) : In 256 (n + m) (app f n g) := fun j hj => by
  unfold app
  split
  · exact hf j (by assumption)
  · exact hg _ (by omega)
section
theorem Src.none {w : World} {sp : Option Addr} {len : Nat} {z : Nat → Int} (h : Src w sp len z) : sp = none → len = 0 := fun e => by
  rcases Nat.eq_zero_or_pos len with h0 | h0
  · exact h0
  · obtain ⟨ad, he, _⟩ := h 0 h0
    rw [e] at he
    cases he
section
variable {P : Program} {o : Oper} {a : Act}
theorem negI (k : IntKind) (n r : Int) (t : TypeId) (x : Operand) (ho : o.op = .unOp .neg t x) (hx : a.eval x = .int k n) (hr : k.wrap (0 - n) = r) (w : World) : (execOp a.eval o).run P w = .ok (.value (.int k r)) w := by
  unfold execOp
  simp only [ho, hx, Op.unary, Op.intArith, Sem.run_bind, Sem.run_pure, Result.andThen_ok, hr]
theorem cut_hi {t : TypeId} (ht : P.underlying t = some (.slice (P.elem t))) (hsz : ∀ w, (sizeOf (P.elem t)).run P w = .ok 1 w) (sp : Option Addr) (len cap m : Nat) (hm : m ≤ len) (hc : len ≤ cap) :
    ∃ sp', (∀ w, (Instr.sliceAt t (.slice sp len cap) none (some (.int .i64 (m : Int))) none).run P w = .ok (.slice sp' m cap) w) ∧ ∀ w z, Src w sp len z → Src w sp' m z := by
  refine ⟨if cap = 0 then sp else sp.map (·.add (0 * 1)), fun w => ?_, fun w z h j hj => ?_⟩
  · rw [run_sliceAt_slice w t _ _ _ _ ht, run_slice_h w t sp len cap ht .i64 (m : Int) (by omega) (by omega), hsz]
    simp only [Result.andThen, sliced, Int.toNat_natCast, Nat.sub_zero]
  · obtain ⟨ad, rfl, hc'⟩ := h j (by omega)
    rw [if_neg (by omega)]
    exact ⟨ad.add (0 * 1), rfl, by rw [Nat.zero_mul, Addr.add_add, Nat.zero_add]; exact hc'⟩
theorem cut_lo {t : TypeId} (ht : P.underlying t = some (.slice (P.elem t))) (hsz : ∀ w, (sizeOf (P.elem t)).run P w = .ok 1 w) (sp : Option Addr) (len cap m : Nat) (hm : m ≤ len) (hc : len ≤ cap) :
    ∃ sp', (∀ w, (Instr.sliceAt t (.slice sp len cap) (some (.int .i64 (m : Int))) none none).run P w = .ok (.slice sp' (len - m) (cap - m)) w) ∧ ∀ w z, Src w sp len z → Src w sp' (len - m) (fun j => z (m + j)) := by
  refine ⟨if cap = m then sp else sp.map (·.add (m * 1)), fun w => ?_, fun w z h j hj => ?_⟩
  · rw [run_sliceAt_slice w t _ _ _ _ ht, run_slice_l w t sp len cap ht .i64 (m : Int) (by omega) (by omega), hsz]
    simp only [Result.andThen, sliced, Int.toNat_natCast]
  · obtain ⟨ad, rfl, hc'⟩ := h (m + j) (by omega)
    rw [if_neg (by omega)]
    exact ⟨ad.add (m * 1), rfl, by rw [Nat.mul_one, Addr.add_add]; exact hc'⟩
theorem cut_lh {t : TypeId} (ht : P.underlying t = some (.slice (P.elem t))) (hsz : ∀ w, (sizeOf (P.elem t)).run P w = .ok 1 w) (sp : Option Addr) (len cap l h : Nat) (hl : l ≤ h) (hh : h ≤ len) (hc : len ≤ cap) :
    ∃ sp', (∀ w, (Instr.sliceAt t (.slice sp len cap) (some (.int .i64 (l : Int))) (some (.int .i64 (h : Int))) none).run P w = .ok (.slice sp' (h - l) (cap - l)) w) ∧ ∀ w z, Src w sp len z → Src w sp' (h - l) (fun j => z (l + j)) := by
  refine ⟨if cap = l then sp else sp.map (·.add (l * 1)), fun w => ?_, fun w z hs j hj => ?_⟩
  · rw [run_sliceAt_slice w t _ _ _ _ ht, run_slice_lh w t sp len cap ht .i64 .i64 (l : Int) (h : Int) (by omega) (by omega) (by omega), hsz]
    simp only [Result.andThen, sliced, Int.toNat_natCast]
  · obtain ⟨ad, rfl, hc'⟩ := hs (l + j) (by omega)
    rw [if_neg (by omega)]
    exact ⟨ad.add (l * 1), rfl, by rw [Nat.mul_one, Addr.add_add]; exact hc'⟩
theorem cutLHop {w : World} (t : TypeId) (x y z : Operand) (p q r v : Value) (ho : o.op = .slice t x (some y) (some z) none) (hx : a.eval x = p) (hy : a.eval y = q) (hz : a.eval z = r) (hr : (Instr.sliceAt t p (some q) (some r) none).run P w = .ok v w) :
    (execOp a.eval o).run P w = .ok (.value v) w := by
  unfold execOp
  simp only [ho, hx, hy, hz, Option.map_some, Option.map_none, Sem.run_bind, hr, Result.andThen_ok, Sem.run_pure]
end
end
end Go.Proofs.YtckohmdmjhaknaaDoor
