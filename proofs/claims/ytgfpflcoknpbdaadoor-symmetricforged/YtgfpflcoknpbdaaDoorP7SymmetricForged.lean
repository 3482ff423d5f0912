/- Texts of Zr Gw Gx Wr Re Rc Pr Ps, joined. -/
import Derived.Test.YtgfpflcoknpbdaaDoorP6SymmetricForged
import Derived.Test.YtgfpflcoknpbdaaDoorP1SymmetricForged
import Derived.Lib.AppendZerosOnto
import Derived.Deep.DeepAppendWide
import Derived.Deep.Cut
import Derived.Test.YtgfpflcoknpbdaaDoorP4SymmetricForged
import Derived.Test.YtgfpflcoknpbdaaDoorP2SymmetricForged
import Derived.Test.YtgfpflcoknpbdaaDoorP3SymmetricForged
import Derived.BigRegion
import Derived.Lib.SlBytesConst
import Derived.Deep.QuietTactic
import Derived.BigQuiet
import Derived.Test.YtgfpflcoknpbdaaDoorP5SymmetricForged
set_option maxRecDepth 20000
set_option maxHeartbeats 64000000
namespace Go.Proofs.YtgfpflcoknpbdaaDoor
open Go.RowKit
section
def vcap : Value → Nat
  | .slice _ _ c => c
  | _ => 0
section
variable {P : Program}
theorem run_append_Room {w : World} {base : Nat} {t ty e : TypeId} {k : IntKind} {bytes n : Nat} {f : Nat → Int} {v : Value} (ht : P.underlying t = some (.slice e)) (he : One P e k bytes) (h : Own w base e k n f v)
    (sp : Option Addr) (m c : Nat) (hv : Nat → Int) (hs : ∀ j, j < m → ∃ ad, sp = some ad ∧ w.cell? (ad.add j) = some (.int k (hv j))) (hz : sp = none → c = 0) (hroom : n + m ≤ vcap v) :
    ∃ v' w', (Builtin.append_ #[t, t] ty #[v, .slice sp m c]).run P w = .ok v' w' ∧ Own w' base e k (n + m) (app f n hv) v' ∧ w.grownBy w' v.ownBlock ∧ vcap v' = vcap v ∧ v'.ownBlock = v.ownBlock := by
  obtain ⟨i, hi, hq⟩ := Option.map_eq_some_iff.1 he.info
  simp only [Prod.mk.injEq] at hq
  obtain ⟨_, _, h3⟩ := hq
  cases sp with
  | none =>
    have hm : m = 0 := by
      rcases Nat.eq_zero_or_pos m with h0 | h0
      · exact h0
      · obtain ⟨ad, e, _⟩ := hs 0 h0; cases e
    subst hm
    obtain rfl := hz rfl
    exact ⟨v, w, run_append_owned_none (P := P) (w := w) base t ty e i 1 ht hi v n _ h, h.congr fun j hj => by unfold app; rw [if_pos hj], ⟨rfl, rfl, rfl, Nat.le_refl _, fun _ _ _ => rfl⟩, rfl, rfl⟩
  | some ad =>
    have hnews : ∀ j u, (row k m hv)[j]? = some u → w.cell? (ad.add j) = some u := fun j u hu => by
      obtain ⟨hj, rfl⟩ := row_get_some hu
      obtain ⟨ad', e', hc⟩ := hs j hj
      injection e' with e'
      subst e'
      exact hc
    have hml : (row k m hv).length = m * i.size := by rw [row_length, h3, Nat.mul_one]
    have hlen : (row k n f ++ row k m hv).length = (n + m) * 1 := by rw [List.length_append, row_length, row_length, Nat.mul_one]
    rcases h.2 with ⟨rfl, rfl⟩ | ⟨g, cap, cur, rfl, hbg, hgg, hnc, hcm, hcs, htake⟩
    · have hm : m = 0 := by simp only [vcap] at hroom; omega
      subst hm
      refine ⟨.slice none 0 0, w, ?_, h.congr fun j hj => absurd hj (Nat.not_lt_zero j), ⟨rfl, rfl, rfl, Nat.le_refl _, fun _ _ _ => rfl⟩, rfl, rfl⟩
      simp [Builtin.append_, run_underlying ht, sizeOf, typeInfo, hi, Builtin.lenOf, Builtin.firstCells, loadCells, loadCellsFrom]
    · have hroom' : n + m ≤ cap := hroom
      have hr2 := run_append_room (P := P) w t ty e i ht hi g n cap cur hgg ad m c (row k m hv) hml hnews (row_one k m hv) hroom' (by rw [hml, hcs, h3]; omega)
      refine ⟨_, _, hr2, ?_, ⟨rfl, rfl, rfl, by simp, fun q _ hq => setRow_other w g q _ (fun e => hq (by simp [Value.ownBlock, e]))⟩, rfl, rfl⟩
      unfold Own
      rw [← row_app]
      rw [Nat.mul_one] at htake hcs
      refine ⟨hlen, .inr ⟨g, cap, _, rfl, hbg, setRow_heap w g cur _ e _ hgg, hroom', hcm, ?_, ?_⟩⟩
      · simp only [List.size_toArray, List.length_append, List.length_take, List.length_drop, Array.length_toList, row_length, h3, Nat.mul_one]
        omega
      · simp only [h3, Nat.mul_one, htake]
        have e2 : n + m = (row k n f ++ row k m hv).length := by rw [hlen, Nat.mul_one]
        rw [e2]
        exact List.take_left
theorem run_append_full {w : World} {t u ty e : TypeId} (ht : P.underlying t = some (.slice e)) (hu : P.underlying u = some (.int .i64)) (he : One P e .u8 1) (sp : Option Addr) (len : Nat) (z : Nat → Int) (hs : Src w sp len z) (m : Nat) (hm : m ≤ 281474976710656) (hl : len + m + (len + m) / 4 + 192 ≤ 281474976710656) :
    ∃ sp' cap' w', (Builtin.append_ #[t, u] ty #[.slice sp len len, .int .i64 (m : Int)]).run P w = .ok (.slice sp' (len + m) cap') w' ∧ len + m ≤ cap' ∧ Src w' sp' (len + m) (padz len z) ∧ Below w.heap.size w w' ∧ (sp' = none → cap' = 0) := by
  obtain ⟨i, hi, hq⟩ := Option.map_eq_some_iff.1 he.info
  simp only [Prod.mk.injEq] at hq
  obtain ⟨h1, h2, h3⟩ := hq
  rcases Nat.eq_zero_or_pos m with h0 | h0
  · subst h0
    refine ⟨sp, len, w, ?_, Nat.le_refl _, hs.congr (fun j hj => by unfold padz; rw [if_pos hj]), Below.refl _ _, fun e => hs.none e⟩
    have hasI' : ∀ w, (asInt (.int .i64 0)).run P w = .ok 0 w := fun w => by simp [asInt, asIntOf]
    cases sp with
    | none => simp [Builtin.append_, run_underlying ht, run_underlying hu, sizeOf, typeInfo, hi, h2, hasI', IntKind.wrap_i64]
    | some ad => simp [Builtin.append_, run_underlying ht, run_underlying hu, sizeOf, typeInfo, hi, h2, hasI', IntKind.wrap_i64, storeCells]
  · have hold : (Builtin.firstCells i.size len (.slice sp len len)).run P w.drew = .ok (row .u8 len z).toArray w.drew := by
      cases sp with
      | none =>
        obtain rfl := hs.none rfl
        rfl
      | some ad =>
        rw [h3]
        exact run_firstCells_some (P := P) w.drew 1 len ad len len (row .u8 len z) (by rw [row_length, Nat.mul_one]) (fun j u hj => by
          obtain ⟨hjl, rfl⟩ := row_get_some hj
          obtain ⟨ad', he', hc⟩ := hs j hjl
          injection he' with he'
          subst he'
          exact hc)
    have hr := Lib.run_append_grow_zeros (P := P) w t u ty e i (.int .u8 0) .i64 .i64 ht hu hi h1 sp len len (row .u8 len z) hold m h0 (by rw [h3]; decide) (by omega) (by omega) (by rw [h2]; omega) (by rw [h2]; exact growslice_fits_wide (by omega) (by omega))
    have hge := grownCap_ge w (len + m) len e
    refine ⟨_, _, _, hr, hge, fun j hj => ⟨_, rfl, ?_⟩, (Below.refl _ _).drew.alloc (Nat.le_refl _) _, fun e => by cases e⟩
    rw [Addr.add_mid, Nat.zero_add]
    show (w.drew.alloc _).cell? ⟨w.drew.heap.size, j, none⟩ = _
    rw [World.cell?_alloc_at _ _ _ _ rfl, zeros_row]
    unfold padz
    by_cases ej : j < len
    · rw [if_pos ej]
      rw [Array.append_assoc, Array.getElem?_append_left (by rw [List.size_toArray, row_length]; exact ej)]
      simpa using row_get .u8 len z j ej
    · rw [if_neg ej]
      rw [Array.getElem?_append_left (by rw [Array.size_append, List.size_toArray, List.size_toArray, row_length, row_length]; exact hj), Array.getElem?_append_right (by rw [List.size_toArray, row_length]; omega), List.size_toArray, row_length]
      simpa using row_get .u8 m (fun _ => 0) (j - len) (by omega)
end
section
variable {P : Program} {o : Oper} {a : Act}
theorem cut_full {t : TypeId} (ht : P.underlying t = some (.slice (P.elem t))) (hsz : ∀ w, (sizeOf (P.elem t)).run P w = .ok 1 w) (sp : Option Addr) (len cap : Nat) (hc : len ≤ cap) :
    ∃ sp', (∀ w, (Instr.sliceAt t (.slice sp len cap) none (some (.int .i64 (len : Int))) (some (.int .i64 (len : Int)))).run P w = .ok (.slice sp' len len) w) ∧ ∀ w z, Src w sp len z → Src w sp' len z := by
  refine ⟨if len = 0 then sp else sp.map (·.add (0 * 1)), fun w => ?_, fun w z h j hj => ?_⟩
  · rw [run_sliceAt_slice w t _ _ _ _ ht, run_slice_hm w t sp len cap ht .i64 .i64 (len : Int) (len : Int) (by omega) (by omega) (by omega), hsz]
    simp only [Result.andThen, sliced, Int.toNat_natCast, Nat.sub_zero]
  · obtain ⟨ad, rfl, hc'⟩ := h j (by omega)
    rw [if_neg (by omega)]
    exact ⟨ad.add (0 * 1), rfl, by rw [Nat.zero_mul, Addr.add_add, Nat.zero_add]; exact hc'⟩
theorem cutHMop {w : World} (t : TypeId) (x y z : Operand) (p q r v : Value) (ho : o.op = .slice t x none (some y) (some z)) (hx : a.eval x = p) (hy : a.eval y = q) (hz : a.eval z = r) (hr : (Instr.sliceAt t p none (some q) (some r)).run P w = .ok v w) :
    (execOp a.eval o).run P w = .ok (.value v) w := by
  unfold execOp
  simp only [ho, hx, hy, hz, Option.map_some, Option.map_none, Sem.run_bind, hr, Result.andThen_ok, Sem.run_pure]
theorem appendNOp {w w' : World} (s x : Operand) (t u : TypeId) (v n r : Value) (ho : o.op = .call { callee := .builtin .append, args := #[s, x], argTypes := #[t, u] }) (hs : a.eval s = v) (hx : a.eval x = n) (hr : (Builtin.append_ #[t, u] o.type #[v, n]).run P w = .ok r w') :
    (execOp a.eval o).run P w = .ok (.value r) w' := by
  unfold execOp
  simp only [ho, resolve, invoke, builtin, Sem.run_bind, Sem.run_pure, Result.andThen_ok, List.map_toArray, List.map_cons, List.map_nil, hs, hx, hr]
end
end
def tot (ln : Nat → Nat) : Nat → Nat
  | 0 => 0
  | j + 1 => tot ln j + ln j
def catz (ln : Nat → Nat) (zz : Nat → Nat → Int) : Nat → Nat → Int
  | 0 => fun _ => 0
  | j + 1 => app (catz ln zz j) (tot ln j) (zz j)
theorem tot_mono (ln : Nat → Nat) {i : Nat} : ∀ {j : Nat}, i ≤ j → tot ln i ≤ tot ln j
  | 0, h => by obtain rfl : i = 0 := by omega
               exact Nat.le_refl _
  | j + 1, h => by
    rcases Nat.lt_or_ge j i with h' | h'
    · obtain rfl : i = j + 1 := by omega
      exact Nat.le_refl _
    · have := tot_mono ln h'
      show _ ≤ tot ln j + ln j
      omega
theorem loadSl {P : Program} {o : Oper} {a : Act} {w : World} (ty e : TypeId) (x : Operand) (p : Addr) (v : Value) (ho : o.op = .load ty x) (hx : a.eval x = .pointer (some p)) (hu : P.underlying ty = some (.slice e)) (hc : w.cell? p = some v) : (execOp a.eval o).run P w = .ok (.value v) w := by
  have hagg : (isAgg ty).run P w = .ok false w := by
    unfold isAgg
    rw [Sem.run_bind, run_underlying hu w]
    rfl
  have e : (loadVar ty p).run P w = .ok v w := by simp [loadVar, Sem.run_bind, hagg, hc]
  unfold execOp
  simp only [ho, hx, Instr.loadAt, Instr.sureAddr, Sem.run_bind, Sem.run_pure, Result.andThen_ok, e]
theorem cut_none (g n cap : Nat) (w : World) : (Instr.sliceAt 27 (.slice (some ⟨g, 0, none⟩) n cap) none (some (.int .i64 0)) none).run Tryd.prog w = .ok (.slice (some ⟨g, 0, none⟩) 0 cap) w := by
  rw [run_sliceAt_slice w 27 _ _ _ _ (by kernel_rfl), run_slice_h w 27 _ n cap (by kernel_rfl) .i64 0 (by omega) (by omega), show (sizeOf (Tryd.prog.elem 27)).run Tryd.prog w = .ok 1 w by kernel_rfl]
  simp [Result.andThen, sliced, Addr.add_mid]
theorem grow_any (n : Nat) (hn : n ≤ 281474976710656) (w : World) :
    Calls Tryd.prog 22 #[.slice none 0 0, .int .i64 (n : Int)] w fun e w' => ∃ v, e = .returned v ∧ Own w' w.heap.size 5 .u8 0 (fun _ => 0) v ∧ n ≤ vcap v ∧ Below w.heap.size w w' := by
  have h0 : ¬ (n : Int) < 0 := by omega
  go_enter Tryd.func22, Tryd.ntmps22
  go_upto_region 3 with fail
  clear h0
  refine wp_region_list ?_
  refine pureL (.int .i64 (n : Int)) rfl (fun _ => by kernel_rfl) ?_
  simp only [aP, lI, l0, lS]
  refine pureL (.slice none 0 0) rfl (fun _ => by kernel_rfl) ?_
  simp only [aP, lI, l0, lS]
  refine pureL (.int .i64 0) rfl (fun _ => by kernel_rfl) ?_
  simp only [aP, lI, l0, lS]
  refine pureL (.slice none 0 0) rfl (fun _ => by kernel_rfl) ?_
  simp only [aP, lI, l0, lS]
  refine pureL (.int .i64 0) rfl (fun _ => by kernel_rfl) ?_
  simp only [aP, lI, l0, lS]
  refine pureL (.int .i64 0) rfl (fun _ => by kernel_rfl) ?_
  simp only [aP, lI, l0, lS]
  refine pureL (.int .i64 (n : Int)) rfl (fun w => subI .i64 _ _ _ _ _ _ _ rfl rfl rfl (by rw [IntKind.wrap_i64]; omega) w) ?_
  simp only [aP, lI, l0, lS]
  refine pureL (.int .i64 (n : Int)) rfl (fun _ => by kernel_rfl) ?_
  simp only [aP, lI, l0, lS]
  show Exit.then _ _ _ _ _
  rcases Nat.eq_zero_or_pos n with hz | hz
  · subst hz
    go_wp2
    go_ret
    exact ⟨.slice none 0 0, rfl, World.ownsRow_nil w _ _ 1, Nat.le_refl _, Below.refl _ _⟩
  · have g1 : (0 : Int) < (n : Int) := by omega
    go_upto_region 5 with fail
    refine wp_region_list ?_
    refine pureL (.slice none 0 0) rfl (fun _ => by kernel_rfl) ?_
    simp only [aP, lI, l0, lS]
    refine pureL (.slice none 0 0) rfl (fun _ => by kernel_rfl) ?_
    simp only [aP, lI, l0, lS]
    refine pureL (.int .i64 0) rfl (fun _ => by kernel_rfl) ?_
    simp only [aP, lI, l0, lS]
    refine pureL (.slice none 0 0) rfl (fun _ => by kernel_rfl) ?_
    simp only [aP, lI, l0, lS]
    refine pureL (.int .i64 (n : Int)) rfl (fun _ => by kernel_rfl) ?_
    simp only [aP, lI, l0, lS]
    have h1 : (Tryd.prog.info? 5).map (fun i => (i.zero, i.bytes, i.size)) = some (some (.int .u8 0), 1, 1) := by kernel_rfl
    obtain ⟨i, hi, he⟩ := Option.map_eq_some_iff.1 h1
    simp only [Prod.mk.injEq] at he
    obtain ⟨e1, e2, e3⟩ := he
    have hr : ∀ ty, _ := fun ty => Lib.run_append_nil_zeros (P := Tryd.prog) w 27 3 ty 5 i (.int .u8 0) .i64 .i64 Tryd.underlying27 Tryd.underlying3 hi e1 n (by omega) (by rw [e3]; decide) (by omega) (by rw [e2]; omega)
    refine actL _ rfl (appendNOp _ _ 27 3 _ _ _ rfl rfl rfl (hr _)) ?_
    clear hr
    have hge := grownCap_ge w n 0 5
    have hle := grownCap_le_maxLen w n 0 5 (by unfold maxLen; omega)
    have hz1 : (Value.int .u8 0).cells.size = 1 := rfl
    have hsz : (Builtin.zeroCells (Value.int .u8 0).cells n ++ Builtin.zeroCells (Value.int .u8 0).cells (grownCap w n 0 5 - n)).size = grownCap w n 0 5 * 1 := by
      rw [Array.size_append, size_zeroCells, size_zeroCells, hz1]
      omega
    have O : Own (w.drew.alloc (.cells (Builtin.zeroCells (Value.int .u8 0).cells n ++ Builtin.zeroCells (Value.int .u8 0).cells (grownCap w n 0 5 - n)) 5)) w.heap.size 5 .u8 0 (fun _ => 0) (.slice (some ⟨w.heap.size, 0, none⟩) 0 (grownCap w n 0 5)) :=
      ⟨rfl, .inr ⟨w.heap.size, _, _, rfl, Nat.le_refl _, heap_alloc_new w.drew _, Nat.zero_le _, hle, hsz, by rw [Nat.zero_mul, List.take_zero]; rfl⟩⟩
    have hB : Below w.heap.size w (w.drew.alloc (.cells (Builtin.zeroCells (Value.int .u8 0).cells n ++ Builtin.zeroCells (Value.int .u8 0).cells (grownCap w n 0 5 - n)) 5)) := (Below.refl _ _).drew.alloc (Nat.le_refl _) _
    generalize (w.drew.alloc (.cells (Builtin.zeroCells (Value.int .u8 0).cells n ++ Builtin.zeroCells (Value.int .u8 0).cells (grownCap w n 0 5 - n)) 5)) = w1 at O hB ⊢
    clear hle hsz hz1 h1 hi e1 e2 e3
    generalize grownCap w n 0 5 = cp at O hge ⊢
    generalize hg : w.heap.size = g at O hB ⊢
    simp only [aP, lI, l0, lS]
    refine pureL (.slice none 0 0) rfl (fun _ => by kernel_rfl) ?_
    simp only [aP, lI, l0, lS]
    refine pureL (.int .i64 0) rfl (fun _ => by kernel_rfl) ?_
    simp only [aP, lI, l0, lS]
    refine pureL (.slice (some ⟨g, 0, none⟩) 0 cp) rfl (fun w' => cutHi _ _ _ _ _ _ rfl rfl rfl (cut_none g n cp w')) ?_
    simp only [aP, lI, l0, lS]
    refine pureL (.slice (some ⟨g, 0, none⟩) 0 cp) rfl (fun _ => by kernel_rfl) ?_
    simp only [aP, lI, l0]
    subst hg
    show Exit.then _ _ _ _ _
    go_wp2
    go_ret
    exact ⟨_, rfl, O, hge, hB⟩
structure CatIn (w : World) (p : Addr) (c : Nat) (sp : Nat → Option Addr) (ln cp : Nat → Nat) (zz : Nat → Nat → Int) : Prop where
  cell : ∀ j, j < c → w.cell? (p.add j) = some (.slice (sp j) (ln j) (cp j))
  src : ∀ j, j < c → Src w (sp j) (ln j) (zz j)
  nil : ∀ j, j < c → sp j = none → cp j = 0
theorem CatIn.below {w w' : World} {p : Addr} {c : Nat} {sp : Nat → Option Addr} {ln cp : Nat → Nat} {zz : Nat → Nat → Int} (h : CatIn w p c sp ln cp zz) (l : Below w.heap.size w w') : CatIn w' p c sp ln cp zz :=
  ⟨fun j hj => by rw [l.cell (World.block_lt_of_cell? w _ (h.cell j hj))]; exact h.cell j hj, fun j hj => (h.src j hj).below l (Nat.le_refl _), h.nil⟩
structure CatI (w : World) (ln : Nat → Nat) (zz : Nat → Nat → Int) (c j : Nat) (s : Value) (w' : World) : Prop where
  own : Own w' w.heap.size 5 .u8 (tot ln j) (catz ln zz j) s
  room : tot ln c ≤ vcap s
  below : Below w.heap.size w w'
theorem concat_any (p : Addr) (c c' : Nat) (sp : Nat → Option Addr) (ln cp : Nat → Nat) (zz : Nat → Nat → Int) (hc : c < 1000000) (ht : tot ln c ≤ 281474976710656) (w : World) (hin : CatIn w p c sp ln cp zz) :
    Calls Tryd.prog 15 #[.slice (some p) c c'] w fun e w' => ∃ v, e = .returned v ∧ Own w' w.heap.size 5 .u8 (tot ln c) (catz ln zz c) v ∧ Below w.heap.size w w' := by
  go_enter Tryd.func15, Tryd.ntmps15
  go_wp2
  go_loopw [3, 11] (fun s i w' => ∃ j : Nat, j ≤ c ∧ s = .int .i64 ((tot ln j : Nat) : Int) ∧ i = .int .i64 (j : Int) ∧ w = w') (fun _ i _ => c - (intOf i).toNat)
  case atStart => exact ⟨0, Nat.zero_le _, rfl, rfl, rfl⟩
  case round =>
    obtain ⟨j, hj, rfl, rfl, rfl⟩ := hrel
    by_cases hlt : j < c
    · have g1 : (j : Int) < (c : Int) := by omega
      have hm : tot ln j + ln j ≤ tot ln c := tot_mono ln (show j + 1 ≤ c by omega)
      go_upto_region 4 with fail
      refine wp_region_list ?_
      refine pureL (.pointer (some (p.add j))) rfl (fun w => idxSl 56 27 c c' .i64 p j _ _ Tryd.underlying56 (fun _ => by kernel_rfl) hlt rfl rfl rfl w) ?_
      simp only [aP, lI, l0, lS]
      refine readL (.slice (sp j) (ln j) (cp j)) rfl (loadSl 27 5 _ (p.add j) _ rfl rfl Tryd.underlying27 (hin.cell j hlt)) ?_
      simp only [aP, lI, l0, lS]
      refine pureL (.slice (sp j) (ln j) (cp j)) rfl (fun _ => by kernel_rfl) ?_
      simp only [aP, lI, l0, lS]
      show Exit.then _ _ _ _ _
      go_upto_region 5 with fail
      refine wp_region_list ?_
      refine pureL (.int .i64 ((tot ln j : Nat) : Int)) rfl (fun _ => by kernel_rfl) ?_
      simp only [aP, lI, l0, lS]
      refine pureL (.slice (sp j) (ln j) (cp j)) rfl (fun _ => by kernel_rfl) ?_
      simp only [aP, lI, l0, lS]
      refine pureL (.int .i64 ((ln j : Nat) : Int)) rfl (fun w => lenS _ 27 5 (sp j) (ln j) (cp j) rfl Tryd.underlying27 rfl w) ?_
      simp only [aP, lI, l0, lS]
      refine pureL (.int .i64 ((tot ln (j + 1) : Nat) : Int)) rfl (fun w => addI .i64 _ _ _ _ _ _ _ rfl rfl rfl (by rw [IntKind.wrap_i64]; show _ = ((tot ln j + ln j : Nat) : Int); omega) w) ?_
      simp only [aP, lI, l0, lS]
      refine pureL (.int .i64 ((tot ln (j + 1) : Nat) : Int)) rfl (fun _ => by kernel_rfl) ?_
      simp only [aP, lI, l0, lS]
      show Exit.then _ _ _ _ _
      have g2 : ¬ ((tot ln (j + 1) : Nat) : Int) < 0 := by omega
      clear hm
      go_wp2
      go_roundw
      case rel => exact ⟨j + 1, by omega, rfl, by go_num, trivial⟩
      case measure => simp [intOf]; omega
    · obtain rfl : j = c := by omega
      have g1 : ¬ (j : Int) < (j : Int) := by omega
      clear hlt hj
      go_upto_region 9 with fail
      refine wp_region_list ?_
      refine pureL (.int .i64 ((tot ln j : Nat) : Int)) rfl (fun _ => by kernel_rfl) ?_
      simp only [aP, lI, l0, lS]
      refine callL rfl (fun _ => by kernel_rfl) (grow_any (tot ln j) ht _) ?_
      rintro e w1 ⟨v, rfl, O, hro, hB⟩
      refine ⟨_, rfl, ?_⟩
      simp only [aP, lI, l0, lS]
      refine pureL v rfl (fun _ => by kernel_rfl) ?_
      simp only [aP, lI, l0, lS]
      have HI : CatI w ln zz j 0 v w1 := ⟨O, hro, hB⟩
      clear O hro hB
      show Exit.then _ _ _ _ _
      go_wp2
      go_loopw [6, 27] (fun s i w' => ∃ q : Nat, q ≤ j ∧ i = .int .i64 (q : Int) ∧ CatI w ln zz j q s w') (fun _ i _ => j - (intOf i).toNat)
      case atStart => exact ⟨0, Nat.zero_le _, rfl, HI⟩
      case round =>
        clear HI
        obtain ⟨q, hq, rfl, HI⟩ := hrel
        by_cases hlt : q < j
        · have g2 : (q : Int) < (j : Int) := by omega
          have hm : tot ln q + ln q ≤ tot ln j := tot_mono ln (show q + 1 ≤ j by omega)
          go_upto_region 12 with fail
          refine wp_region_list ?_
          refine pureL (.pointer (some (p.add q))) rfl (fun w => idxSl 56 27 j c' .i64 p q _ _ Tryd.underlying56 (fun _ => by kernel_rfl) hlt rfl rfl rfl w) ?_
          simp only [aP, lI, l0, lS]
          refine readL (.slice (sp q) (ln q) (cp q)) rfl (loadSl 27 5 _ (p.add q) _ rfl rfl Tryd.underlying27 ((hin.below HI.below).cell q hlt)) ?_
          simp only [aP, lI, l0, lS]
          refine pureL (.slice (sp q) (ln q) (cp q)) rfl (fun _ => by kernel_rfl) ?_
          simp only [aP, lI, l0, lS]
          show Exit.then _ _ _ _ _
          go_upto_region 13 with fail
          refine wp_region_list ?_
          refine pureL u6 rfl (fun _ => by kernel_rfl) ?_
          simp only [aP, lI, l0, lS]
          refine pureL (.slice (sp q) (ln q) (cp q)) rfl (fun _ => by kernel_rfl) ?_
          simp only [aP, lI, l0, lS]
          obtain ⟨v', w2, hr, O, hg, hv, _⟩ := run_append_Room (P := Tryd.prog) (ty := 27) Tryd.underlying27 one8 HI.own (sp q) (ln q) (cp q) (zz q) ((hin.below HI.below).src q hlt) (hin.nil q hlt) (Nat.le_trans hm HI.room)
          refine actL _ rfl (appendOp _ _ 27 _ _ _ rfl rfl rfl hr) ?_
          simp only [aP, lI, l0, lS]
          refine pureL v' rfl (fun _ => by kernel_rfl) ?_
          simp only [aP, lI, l0, lS]
          have HS := show Hid _ from (show CatI w ln zz j (q + 1) v' w2 from ⟨O, by rw [hv]; exact HI.room, Below.grown HI.below hg HI.below.size (fun b hb => (World.ownsRow.lt HI.own b hb).1)⟩)
          clear O hg hv hr HI hm
          show Exit.inBlock _ _ _ _ _
          go_wp2
          go_roundw
          case rel => first | exact ⟨q + 1, by omega, by go_num, HS.out⟩ | ((repeat apply Exists.intro); refine ⟨⟨q + 1, by omega, ?_, HS.out⟩, rfl⟩ <;> first | rfl | go_num)
          case measure => simp [intOf]; omega
        · obtain rfl : q = j := by omega
          have g2 : ¬ (q : Int) < (q : Int) := by omega
          have HS := show Hid _ from HI
          clear HI hlt hq
          go_wp2
          go_ret
          exact ⟨_, rfl, HS.out.own, HS.out.below⟩
theorem Has.head {w : World} {b : Nat} {k : IntKind} {n : Nat} {f : Nat → Int} (h : Has w b k n f) (m : Nat) (hm : m ≤ n) : w.rangeAt b 0 (row k m f) := fun j v hv => by
  obtain ⟨hj, rfl⟩ := row_get_some hv
  rw [Nat.zero_add]
  exact h.cell j (by omega)
theorem Kr.part {w w' : World} {m : Nat} {l : List (Nat × IntKind × Nat × (Nat → Int))} {R : List (Nat × Nat)} (h : Kr w m l R w') (l' : List (Nat × IntKind × Nat × (Nat → Int))) (b : Nat) (k : IntKind) (n : Nat) (f : Nat → Int) (o q : Nat) (ho : o + q ≤ n) (g : Nat → Int) (hp : (b, k, n, f) ∈ l) (hl : ∀ p ∈ l', p ∈ l) (hne : ∀ p ∈ l', p.1 ≠ b) (hlo : w.heap.size ≤ b) :
    Kr w m ((b, k, n, over f o q g) :: l') R (w'.setCells b o (row k q g)) :=
  ((h.loose l' b k n f hp hl hne hlo).poke b n mS o _).settle R b k n _ mS (fun _ hq => mT _ hq) (fun q hq => (h.apart _ hp q hq).symm) ((h.get _ _ _ _ hp).part o q ho g)
theorem Kr.headC {w w' : World} {m : Nat} {l : List (Nat × IntKind × Nat × (Nat → Int))} {R : List (Nat × Nat)} {b : Nat} {k : IntKind} {n : Nat} {f : Nat → Int} (h : Kr w m ((b, k, n, f) :: l) R w') (g : Nat → Int) (e : ∀ j, j < n → f j = g j) : Kr w m ((b, k, n, g) :: l) R w' :=
  ⟨fun p hp => by
    rcases List.mem_cons.1 hp with rfl | hp
    · exact ⟨(h.rows _ mS).1.congr e, (h.rows _ mS).2⟩
    · exact h.rows p (mT _ hp), h.room, fun p hp q hq => by
    rcases List.mem_cons.1 hp with rfl | hp
    · exact h.apart _ mS q hq
    · exact h.apart p (mT _ hp) q hq, h.size, h.base, h.below⟩
def pk3 {α : Type} (a b c : α) : Nat → α
  | 0 => a
  | 1 => b
  | _ => c
theorem tot3 (a b c : Nat) : tot (pk3 a b c) 3 = a + b + c := by show 0 + a + b + c = _; omega
theorem catIn3 {w : World} (C : Nat) (p1 p2 p3 : Option Addr) (l1 l2 l3 c1 c2 c3 : Nat) (z1 z2 z3 : Nat → Int) (t : TypeId) (hC : C = w.heap.size) (h1 : Src w p1 l1 z1) (h2 : Src w p2 l2 z2) (h3 : Src w p3 l3 z3) (n1 : p1 = none → c1 = 0) (n2 : p2 = none → c2 = 0) (n3 : p3 = none → c3 = 0) :
    CatIn (w.alloc (.cells #[.slice p1 l1 c1, .slice p2 l2 c2, .slice p3 l3 c3] t)) ⟨C, 0, none⟩ 3 (pk3 p1 p2 p3) (pk3 l1 l2 l3) (pk3 c1 c2 c3) (pk3 z1 z2 z3) := by
  have hb := (Below.refl w.heap.size w).alloc (Nat.le_refl _) (.cells #[.slice p1 l1 c1, .slice p2 l2 c2, .slice p3 l3 c3] t)
  refine ⟨fun j hj => ?_, fun j hj => ?_, fun j hj => ?_⟩
  · rw [Addr.add_mid, World.cell?_alloc_at _ _ _ _ hC]
    match j, hj with
    | 0, _ | 1, _ | 2, _ => rfl
    | _ + 3, h => omega
  · match j, hj with
    | 0, _ => exact h1.below hb (Nat.le_refl _)
    | 1, _ => exact h2.below hb (Nat.le_refl _)
    | 2, _ => exact h3.below hb (Nat.le_refl _)
    | _ + 3, h => omega
  · match j, hj with
    | 0, _ => exact n1
    | 1, _ => exact n2
    | 2, _ => exact n3
    | _ + 3, h => omega
theorem put_raw16 (B o c : Nat) (x : Int) (y0 y1 y2 y3 y4 y5 y6 y7 : Int) (w : World) (c0 : w.cell? ⟨B, o, none⟩ = some (.int .u8 y0)) (f0 : w.frozen? ⟨B, o, none⟩ = false) (c1 : w.cell? ⟨B, o + 1, none⟩ = some (.int .u8 y1)) (f1 : w.frozen? ⟨B, o + 1, none⟩ = false) (c2 : w.cell? ⟨B, o + 2, none⟩ = some (.int .u8 y2)) (f2 : w.frozen? ⟨B, o + 2, none⟩ = false) (c3 : w.cell? ⟨B, o + 3, none⟩ = some (.int .u8 y3)) (f3 : w.frozen? ⟨B, o + 3, none⟩ = false) (c4 : w.cell? ⟨B, o + 4, none⟩ = some (.int .u8 y4)) (f4 : w.frozen? ⟨B, o + 4, none⟩ = false) (c5 : w.cell? ⟨B, o + 5, none⟩ = some (.int .u8 y5)) (f5 : w.frozen? ⟨B, o + 5, none⟩ = false) (c6 : w.cell? ⟨B, o + 6, none⟩ = some (.int .u8 y6)) (f6 : w.frozen? ⟨B, o + 6, none⟩ = false) (c7 : w.cell? ⟨B, o + 7, none⟩ = some (.int .u8 y7)) (f7 : w.frozen? ⟨B, o + 7, none⟩ = false) :
    Calls Tryd.prog 32 #[.slice (some ⟨B, o, none⟩) 16 c, .int .u64 x] w fun e w' => e = .returned (.tuple #[]) ∧ w' = ((((((((w.setCell ⟨B, o, none⟩ (.int .u8 (x % 256))).setCell ⟨B, o + 1, none⟩ (.int .u8 (x / 256 % 256))).setCell ⟨B, o + 2, none⟩ (.int .u8 (x / 65536 % 256))).setCell ⟨B, o + 3, none⟩ (.int .u8 (x / 16777216 % 256))).setCell ⟨B, o + 4, none⟩ (.int .u8 (x / 4294967296 % 256))).setCell ⟨B, o + 5, none⟩ (.int .u8 (x / 1099511627776 % 256))).setCell ⟨B, o + 6, none⟩ (.int .u8 (x / 281474976710656 % 256))).setCell ⟨B, o + 7, none⟩ (.int .u8 (x / 72057594037927936 % 256))) := by
  go_enter Tryd.func32, Tryd.ntmps32
  go_wp2
  go_end0
  exact ⟨rfl, rfl⟩
theorem put16_any (B o n c : Nat) (g : Nat → Int) (x : Int) (ho : o + 8 ≤ n) (w : World) (h : Has w B .u8 n g) :
    Calls Tryd.prog 32 #[.slice (some ⟨B, o, none⟩) 16 c, .int .u64 x] w fun e w' => e = .returned (.tuple #[]) ∧ w' = w.setCells B o (row .u8 8 (byt x)) :=
  put_raw16 B o c x _ _ _ _ _ _ _ _ w (h.cell o (by omega)) (h.free o (by omega)) (h.cell (o + 1) (by omega)) (h.free (o + 1) (by omega)) (h.cell (o + 2) (by omega)) (h.free (o + 2) (by omega)) (h.cell (o + 3) (by omega)) (h.free (o + 3) (by omega)) (h.cell (o + 4) (by omega)) (h.free (o + 4) (by omega)) (h.cell (o + 5) (by omega)) (h.free (o + 5) (by omega)) (h.cell (o + 6) (by omega)) (h.free (o + 6) (by omega)) (h.cell (o + 7) (by omega)) (h.free (o + 7) (by omega))
abbrev D : Int := 67108864
structure Two (a b : Nat → Int) (w w' : World) : Prop where
  ha : Has w' w.heap.size .u8 17 a
  hb : Has w' (w.heap.size + 1) .u8 17 b
  hr : w'.there (w.heap.size + 1 + 1) 0 17
  fr : Fr w 3 w'
theorem idxTag (b i : Nat) (hi : i < 16) (w : World) {o : Oper} {a : Act} (x y : Operand) (ho : o.op = .indexAddr 42 x y) (hx : a.eval x = .pointer (some ⟨b, 0, none⟩)) (hy : a.eval y = .int .i64 (i : Int)) :
    (execOp a.eval o).run Tryd.prog w = .ok (.value (.pointer (some ⟨b, i, none⟩))) w := by
  have h := idxArr (P := Tryd.prog) 42 5 16 .i64 b 0 i x y Tryd.underlying42 (fun _ => by kernel_rfl) hi ho hx hy w
  rw [Nat.zero_add] at h
  exact h
theorem Has.mid {w : World} {b : Nat} {k : IntKind} {n : Nat} {f : Nat → Int} (h : Has w b k n f) (o m : Nat) (ho : o + m ≤ n) : w.rangeAt b o (row k m (fun j => f (o + j))) := fun j v hv => by
  obtain ⟨hj, rfl⟩ := row_get_some hv
  exact h.cell (o + j) (by omega)
theorem pfactor_any (r : Nat → Int) (hr : In 256 16 r) (w : World) (hg : Glob w) :
    Calls Tryd.prog 42 #[(.agg (row .u8 16 (r)).toArray)] w fun e w' => e = .returned (.agg (row .u8 17 (byB (trimT r))).toArray) ∧ Below w.heap.size w w' := by
  have K := Kr.init w
  replace K := K.box .u8 16 r 42 (w.heap.size) rfl
  replace K := K.make 17 zu8_17 80 (w.heap.size + 1) (by simp) (big_zero _ _ _ (by simp)).there
  go_enter Tryd.func42, Tryd.ntmps42
  go_upto_region 1 with fail
  generalize ((w.alloc (.cells (row .u8 16 r).toArray 42)).alloc (.cells zu8_17 80)) = w0 at K ⊢
  refine wp_region_list ?_
  refine rowKL .u8 16 (r) (w.heap.size) 0 42 _ _ rfl rfl rfl Tryd.underlying42 rfl (tag_info _) ((K.get _ _ _ _ mS).range) ?_
  simp only [aP, lI, l0, lS]
  refine callL rfl (fun _ => by kernel_rfl) (ctrim_any r hr _ (hg.below K.below hg.size)) ?_
  rintro e w1 ⟨rfl, l⟩
  replace K := K.call l
  clear l
  refine ⟨_, rfl, ?_⟩
  simp only [aP, lI, l0, lS]
  refine storesL .u8 16 (trimT r) (w.heap.size) 42 _ _ rfl rfl rfl rfl (tag_there (K.get _ _ _ _ mS)) (tag_info' _) ?_
  simp only [Act.put]
  replace K := K.set [] (w.heap.size) .u8 16 r (trimT r) mS (fun _ hp => by cases hp) (fun _ hp => by cases hp) (Nat.le_refl _)
  generalize w1.setCells (w.heap.size) 0 (row .u8 16 (trimT r)) = w2 at K ⊢
  show Exit.then _ _ _ _ _
  go_upto_region 2 with fail
  have zX := K.size
  replace K := K.boxO .u8 17 (fun _ => 0) (.cells zu8_17 80) w2.heap.size rfl (big_zero _ _ _ rfl)
  go_upto_region 3 with fail
  generalize hw : w2.alloc (.cells zu8_17 80) = w3 at K ⊢
  clear hw
  generalize w2.heap.size = X at *
  have HR := K.get _ _ _ _ mS
  replace K := K.loose [(w.heap.size, .u8, 16, trimT r)] X .u8 17 (fun _ => 0) mS (fun p hp => by obtain rfl := List.mem_singleton.1 hp; exact (mT _ mS)) (fun p hp => by obtain rfl := List.mem_singleton.1 hp; simp only; omega) (by omega)
  refine wp_region_held_drew (S := fun w' => Kr w (X + 1) [(w.heap.size, .u8, 16, trimT r)] [(X, 17), (w.heap.size + 1, 17)] w') (by kernel_rfl) K.drew ?_
  clear K
  intro K
  replace HR := HR.drew
  generalize w3.drew = w4 at K HR ⊢
  refine pureHg (i := 0) (some 6) rfl (.slice (some ⟨X, 0, none⟩) 17 17) rfl rfl (fun _ => by kernel_rfl) K ?_
  simp only [aP, lI, l0, lS]
  refine pureHg (i := 1) (some 7) rfl (.slice (some ⟨w.heap.size, 0, none⟩) 16 16) rfl rfl (fun _ => by kernel_rfl) K ?_
  simp only [aP, lI, l0, lS]
  refine actH (i := 2) (some 8) rfl (.int .i64 ((16 : Nat) : Int)) (by kernel_rfl) rfl rfl (run_copy_src _ _ 27 27 5 rfl Tryd.underlying27 (by kernel_rfl) X 17 17 16 16 17 (some ⟨w.heap.size, 0, none⟩) (trimT r) rfl rfl (by decide) (by decide) HR.there (K.get _ _ _ _ mS).src0) (K.fill X 17 mS (row .u8 16 (trimT r))) ?_
  simp only [aP, lI, l0, lS]
  refine wpAnyH_done (by kernel_rfl) ?_ _
  replace K := K.fill X 17 mS (row .u8 16 (trimT r))
  replace HR := (HR.part 0 16 (by decide) (trimT r)).congr (g := byB (trimT r)) (fun j hj => by
    unfold over byB
    by_cases e : j < 16
    · rw [if_pos (by omega), if_pos e, Nat.sub_zero]
    · rw [if_neg (by omega), if_neg e])
  generalize w4.setCells X 0 (row .u8 16 (trimT r)) = w5 at K HR ⊢
  go_upto_region 4 with fail
  have hz := (K.room _ (mT _ mS)).1
  have hB := (K.fill _ _ (mT _ mS) (row .u8 17 (byB (trimT r)))).below
  clear K
  generalize hj : byB (trimT r) = f at *
  go_wp2_with (first | (refine wpList_load_mid rfl 80 _ rfl (X) 0 rfl (row .u8 17 (f)) _ (Has.range (HR)) Tryd.underlying80 rfl (big_info _) ?_) | (refine wpList_store_mid rfl 80 _ _ rfl (w.heap.size + 1) 0 (row .u8 17 f).toArray rfl rfl (room_of hz) (big_info' _) (all_oneCell_toArray (row_one _ _ _)) ?_))
  exact bodyPost_ret (v := (.agg (row .u8 17 (f)).toArray)) (results_row Tryd.results42 rfl (Has.all hz .u8 f).range Tryd.underlying80 rfl (big_info f)) rfl ⟨rfl, hB⟩
theorem pnumber_any (sp : Option Addr) (len cap : Nat) (z : Nat → Int) (w : World) (hs : Src w sp len z) :
    Calls Tryd.prog 45 #[.slice sp len cap] w fun e w' => e = .returned (.agg (row .u8 17 (blk len z)).toArray) ∧ Below w.heap.size w w' := by
  have K := Kr.init w
  replace K := K.make 17 zu8_17 80 (w.heap.size) rfl (big_zero _ _ _ rfl).there
  go_enter Tryd.func45, Tryd.ntmps45
  go_upto_region 1 with fail
  generalize (w.alloc (.cells zu8_17 80)) = w0 at K ⊢
  refine wp_region_list ?_
  refine pureL (.slice sp len cap) rfl (fun _ => by kernel_rfl) ?_
  simp only [aP, lI, l0, lS]
  refine callL rfl (fun _ => by kernel_rfl) (cblock_any sp len cap z _ (hs.below K.below (Nat.le_refl _))) ?_
  rintro e w1 ⟨rfl, l⟩
  replace K := K.call l
  clear l
  refine ⟨_, rfl, ?_⟩
  simp only [aP, lI, l0, lS]
  refine pureL (.tuple #[.agg (row .u8 17 (blk len z)).toArray, .int .i64 (blkE len)]) rfl (fun _ => by kernel_rfl) ?_
  simp only [aP, lI, l0, lS]
  refine pureL (.agg (row .u8 17 (blk len z)).toArray) rfl (fun _ => by kernel_rfl) ?_
  simp only [aP, lI, l0, lS]
  refine pureL (.int .i64 (blkE len)) rfl (fun _ => by kernel_rfl) ?_
  simp only [aP, lI, l0, lS]
  refine allocL zu8_17 80 rfl (fun _ => by kernel_rfl) ?_
  simp only [aP, lI, l0, lS]
  refine storesL .u8 17 (blk len z) w1.heap.size 80 _ _ rfl rfl rfl rfl (room_of (big_zero _ _ _ rfl).there) (big_info' _) ?_
  simp only [Act.put]
  have zG := K.size
  replace K := K.fresh .u8 17 (blk len z) zu8_17 80 (big_zero _ _ _ rfl).there
  generalize ((w1.alloc (.cells zu8_17 80)).setCells w1.heap.size 0 (row .u8 17 (blk len z))) = w2 at K ⊢
  generalize w1.heap.size = G at *
  refine pureL (.int .i64 (blkE len)) rfl (fun _ => by kernel_rfl) ?_
  simp only [aP, lI, l0, lS]
  show Exit.then _ _ _ _ _
  go_upto_region 2 with fail
  have HR := K.get _ _ _ _ mS
  have hz := (K.room _ mS).1
  have hB := (K.fill _ _ mS (row .u8 17 (blk len z))).below
  clear K hs
  generalize hj : blk len z = f at *
  go_wp2_with (first | (refine wpList_load_mid rfl 80 _ rfl (G) 0 rfl (row .u8 17 (f)) _ (Has.range (HR)) Tryd.underlying80 rfl (big_info _) ?_) | (refine wpList_store_mid rfl 80 _ _ rfl (w.heap.size) 0 (row .u8 17 f).toArray rfl rfl (room_of hz) (big_info' _) (all_oneCell_toArray (row_one _ _ _)) ?_))
  exact bodyPost_ret (v := (.agg (row .u8 17 (f)).toArray)) (results_row Tryd.results45 rfl (Has.all hz .u8 f).range Tryd.underlying80 rfl (big_info f)) rfl ⟨rfl, hB⟩
theorem psum_any : SumOK := by
  intro k hk sp len cap hlen hcap z hz w hg hs
  have hk1 : In 256 16 k := fun j hj => hk j (by omega)
  have hk2 : In 256 16 (fun j => k (16 + j)) := fun j hj => hk (16 + j) (by omega)
  have K := Kr.init w
  replace K := K.box .u8 32 k 36 (w.heap.size) rfl
  replace K := K.make 16 zu8_16 42 (w.heap.size + 1) (by simp) (tag_zero _ _ _ (by simp)).there
  go_enter Tryd.func33, Tryd.ntmps33
  go_upto_region 1 with fail
  generalize ((w.alloc (.cells (row .u8 32 k).toArray 36)).alloc (.cells zu8_16 42)) = w0 at K ⊢
  refine wp_region_list ?_
  refine pureL (.slice (some ⟨w.heap.size, 0, none⟩) 16 32) rfl (fun _ => by kernel_rfl) ?_
  simp only [aP, lI, l0, lS]
  refine pureL (.pointer (some ⟨w.heap.size, 0, none⟩)) rfl (fun _ => by kernel_rfl) ?_
  simp only [aP, lI, l0, lS]
  refine rowKL .u8 16 k (w.heap.size) 0 42 _ _ rfl rfl rfl Tryd.underlying42 rfl (tag_info _) (by have h := (K.get _ _ _ _ mS).mid 0 16 (by decide); simpa using h) ?_
  simp only [aP, lI, l0, lS]
  refine callL rfl (fun _ => by kernel_rfl) (pfactor_any k hk1 _ (hg.below K.below hg.size)) ?_
  rintro e w1 ⟨rfl, l⟩
  replace K := K.call l
  clear l
  refine ⟨_, rfl, ?_⟩
  simp only [aP, lI, l0, lS]
  refine allocL zu8_17 80 rfl (fun _ => by kernel_rfl) ?_
  simp only [aP, lI, l0, lS]
  refine storesL .u8 17 (byB (trimT k)) w1.heap.size 80 _ _ rfl rfl rfl rfl (room_of (big_zero _ _ _ rfl).there) (big_info' _) ?_
  simp only [Act.put]
  have zT := K.size
  replace K := K.fresh .u8 17 (byB (trimT k)) zu8_17 80 (big_zero _ _ _ rfl).there
  generalize ((w1.alloc (.cells zu8_17 80)).setCells w1.heap.size 0 (row .u8 17 (byB (trimT k)))) = w2 at K ⊢
  generalize w1.heap.size = T at *
  show Exit.then _ _ _ _ _
  go_upto_region 2 with fail
  have zX := K.size
  replace K := K.boxO .u8 17 (fun _ => 0) (.cells zu8_17 80) w2.heap.size rfl (big_zero _ _ _ rfl)
  go_upto_region 3 with fail
  generalize hw : w2.alloc (.cells zu8_17 80) = w5 at K ⊢
  clear hw
  generalize w2.heap.size = X at *
  go_wp2
  go_loopw [7] (fun i w' => ∃ (t : Nat) (a : Nat → Int), 16 * t < len + 16 ∧ i = .int .i64 (16 * (t : Int)) ∧ Kr w (X + 1) [(X, .u8, 17, a), (T, .u8, 17, byB (trimT k)), (w.heap.size, .u8, 32, k)] [(w.heap.size + 1, 16)] w' ∧ In 256 17 a ∧ val 256 a 17 = acc (pR k) len z t) (fun i _ => len + 16 - (intOf i).toNat)
  case atStart => exact ⟨0, _, by omega, rfl, K, fun _ _ => ⟨Int.le_refl 0, (by decide : (0 : Int) < 256)⟩, by show val 256 (fun _ => 0) 17 = 0; decide⟩
  case round =>
    clear K
    obtain ⟨t, a, ht, rfl, K, ha, hv⟩ := hrel
    have g1 : (0 : Int) ≤ 16 * (t : Int) := by omega
    by_cases hlt : 16 * t < len
    · have g2 : 16 * (t : Int) < (len : Int) := by omega
      obtain ⟨M, hM⟩ : ∃ M : Nat, M = min (16 * t + 16) len := ⟨_, rfl⟩
      have hm : (if (len : Int) < 16 * (t : Int) + 16 then (len : Int) else 16 * (t : Int) + 16) = (M : Int) := by rw [hM]; split <;> omega
      obtain ⟨sq, hq1, hq2⟩ := cut_lh (P := Tryd.prog) (t := 27) (by kernel_rfl) (fun _ => by kernel_rfl) sp len cap (16 * t) M (by omega) (by omega) hcap
      have hpc : M - 16 * t = pcN len t := by unfold pcN; omega
      rw [hpc] at hq1 hq2
      have ec : ((16 * t : Nat) : Int) = 16 * (t : Int) := by omega
      rw [ec] at hq1
      go_upto_region 6 with fail
      refine wp_region_C (S := fun w' => Kr w (X + 1) [(X, .u8, 17, a), (T, .u8, 17, byB (trimT k)), (w.heap.size, .u8, 32, k)] [(w.heap.size + 1, 16)] w') 13 (by kernel_rfl) K.drew ?_
      clear K
      intro K
      refine rowC (i := 0) (some 18) rfl .u8 17 (a) (X) 0 80 _ _ rfl rfl (by kernel_rfl) rfl rfl rfl (by kernel_rfl) (by kernel_rfl) (by kernel_rfl) (by kernel_rfl) (fun _ _ _ h => h) Tryd.underlying80 rfl (big_info _) K (fun _ h => (h.get _ _ _ _ mS).range) ?_
      simp only [aP, lI, l0, lS]
      refine pureCg (i := 1) (some 19) rfl (.slice sp len cap) rfl (by decide) rfl (fun _ => by kernel_rfl) K ?_
      simp only [aP, lI, l0, lS]
      refine pureCg (i := 2) (some 20) rfl (.int .i64 (16 * (t : Int))) rfl (by decide) rfl (fun _ => by kernel_rfl) K ?_
      simp only [aP, lI, l0, lS]
      refine pureCg (i := 3) (some 21) rfl (.int .i64 (16 * (t : Int))) rfl (by decide) rfl (fun _ => by kernel_rfl) K ?_
      simp only [aP, lI, l0, lS]
      refine pureCg (i := 4) (some 22) rfl (.int .i64 (16 * (t : Int) + 16)) rfl (by decide) rfl (fun w => addI .i64 _ _ _ _ _ _ _ rfl rfl rfl (by rw [IntKind.wrap_i64]; omega) w) K ?_
      simp only [aP, lI, l0, lS]
      refine pureCg (i := 5) (some 23) rfl (.slice sp len cap) rfl (by decide) rfl (fun _ => by kernel_rfl) K ?_
      simp only [aP, lI, l0, lS]
      refine rowC (i := 11) (some 29) rfl .u8 17 (byB (trimT k)) (T) 0 80 _ _ rfl rfl (by kernel_rfl) rfl rfl rfl (by kernel_rfl) (by kernel_rfl) (by kernel_rfl) (by kernel_rfl) (fun _ _ _ h => h) Tryd.underlying80 rfl (big_info _) K (fun _ h => (h.get _ _ _ _ (mT _ mS)).range) ?_
      simp only [aP, lI, l0, lS]
      refine pureCg (i := 6) (some 24) rfl (.int .i64 (len : Int)) rfl (by decide) rfl (fun w => lenS _ 27 5 sp len cap rfl Tryd.underlying27 rfl w) K ?_
      simp only [aP, lI, l0, lS]
      refine pureCg (i := 7) (some 25) rfl (.int .i64 (M : Int)) rfl (by decide) rfl (fun w => minI .i64 .i64 _ _ _ _ _ _ _ rfl rfl rfl hm w) K ?_
      simp only [aP, lI, l0, lS]
      refine pureCg (i := 8) (some 26) rfl (.slice sq (pcN len t) (cap - 16 * t)) rfl (by decide) rfl (fun w => cutLHop _ _ _ _ _ _ _ _ rfl rfl rfl rfl (hq1 w)) K ?_
      simp only [aP, lI, l0, lS]
      refine callMC (i := 9) (some 27) rfl (by kernel_rfl) rfl rfl (fun _ => by kernel_rfl) (pnumber_any sq (pcN len t) (cap - 16 * t) (fun j => z (16 * t + j)) _ ((hq2 _ _ hs).below K.below (Nat.le_refl _))) ?_
      rintro e w9 ⟨rfl, l⟩
      replace K := K.call l
      clear l
      refine ⟨_, rfl, K, ?_⟩
      simp only [aP, lI, l0, lS]
      refine callMC (i := 10) (some 28) rfl (by kernel_rfl) rfl rfl (fun _ => by kernel_rfl) (cadd_any a (piece len z t) ha (piece_in len z t hz) _ (hg.below K.below hg.size)) ?_
      rintro e w11 ⟨f1, rfl, s1, l⟩
      replace K := K.call l
      clear l
      refine ⟨_, rfl, K, ?_⟩
      simp only [aP, lI, l0, lS]
      refine callMC (i := 12) (some 30) rfl (by kernel_rfl) rfl rfl (fun _ => by kernel_rfl) (cmul_any f1 (byB (trimT k)) s1.1 (byB_in _ (trimT_in k hk1)) _ (hg.below K.below hg.size)) ?_
      rintro e w12 ⟨f2, rfl, s2, l⟩
      replace K := K.call l
      clear l
      refine ⟨_, rfl, K, ?_⟩
      simp only [aP, lI, l0, lS]
      refine storesC (S2 := fun _ => True) none rfl .u8 17 f2 X 80 _ _ (by kernel_rfl) rfl rfl rfl rfl rfl (big_there (K.get _ _ _ _ mS)) (big_info' _) (by kernel_rfl) ?_
      simp only [Act.put]
      refine wpAnyH_done (by kernel_rfl) ?_ _
      have hv2 : val 256 f2 17 = acc (pR k) len z (t + 1) := acc_step (by rw [s1.2, hv]) (byB_val (trimT k)) s2.2
      replace K := K.set [(T, .u8, 17, byB (trimT k)), (w.heap.size, .u8, 32, k)] X .u8 17 a f2 mS (fun p hp => by rcases List.mem_cons.1 hp with rfl | hp; exact (mT _ mS); obtain rfl := List.mem_singleton.1 hp; exact (mT _ (mT _ mS))) (fun p hp => by rcases List.mem_cons.1 hp with rfl | hp; simp only; omega; obtain rfl := List.mem_singleton.1 hp; simp only; omega) (by omega)
      have HS := show Hid _ from (And.intro K (And.intro s2.1 hv2))
      clear K s1 s2 hv hv2 ha hm hM hq1 hq2 hpc ec
      generalize w12.setCells X 0 (row .u8 17 f2) = w13 at HS ⊢
      go_wp2
      go_roundw
      case rel => first | exact ⟨t + 1, f2, by omega, by go_num, HS.out⟩ | ((repeat apply Exists.intro); refine ⟨⟨t + 1, f2, by omega, by go_num, HS.out⟩, rfl⟩)
      case measure => simp [intOf]; omega
    · obtain rfl : t = npc len := by unfold npc; omega
      go_upto_region 7 with fail
      refine wp_region_C (S := fun w' => Kr w (X + 1) [(X, .u8, 17, a), (T, .u8, 17, byB (trimT k)), (w.heap.size, .u8, 32, k)] [(w.heap.size + 1, 16)] w') 5 (by kernel_rfl) K.drew ?_
      clear K
      intro K
      refine rowC (i := 0) (some 31) rfl .u8 17 (a) (X) 0 80 _ _ rfl rfl (by kernel_rfl) rfl rfl rfl (by kernel_rfl) (by kernel_rfl) (by kernel_rfl) (by kernel_rfl) (fun _ _ _ h => h) Tryd.underlying80 rfl (big_info _) K (fun _ h => (h.get _ _ _ _ mS).range) ?_
      simp only [aP, lI, l0, lS]
      refine pureCg (i := 1) (some 32) rfl (.slice (some ⟨w.heap.size, 16, none⟩) 16 16) rfl (by decide) rfl (fun _ => by kernel_rfl) K ?_
      simp only [aP, lI, l0, lS]
      refine pureCg (i := 2) (some 33) rfl (.pointer (some ⟨w.heap.size, 16, none⟩)) rfl (by decide) rfl (fun _ => by kernel_rfl) K ?_
      simp only [aP, lI, l0, lS]
      refine rowC (i := 3) (some 34) rfl .u8 16 (fun j => k (16 + j)) (w.heap.size) 16 42 _ _ rfl rfl (by kernel_rfl) rfl rfl rfl (by kernel_rfl) (by kernel_rfl) (by kernel_rfl) (by kernel_rfl) (fun _ _ _ h => h) Tryd.underlying42 rfl (tag_info _) K (fun _ h => (h.get _ _ _ _ (mT _ (mT _ mS))).mid 16 16 (by decide)) ?_
      simp only [aP, lI, l0, lS]
      refine callMC (i := 4) (some 35) rfl (by kernel_rfl) rfl rfl (fun _ => by kernel_rfl) (clow_any a (fun j => k (16 + j)) ha hk2 _ (hg.below K.below hg.size)) ?_
      rintro e w9 ⟨f, rfl, s1, l⟩
      replace K := K.call l
      clear l
      refine ⟨_, rfl, K, ?_⟩
      simp only [aP, lI, l0, lS]
      have hz' := (K.room _ mS).1
      refine storesC (S2 := fun _ => True) none rfl .u8 16 f (w.heap.size + 1) 42 _ _ (by kernel_rfl) rfl rfl rfl rfl rfl (room_of hz') (tag_info' _) (by kernel_rfl) ?_
      simp only [Act.put]
      refine wpAnyH_done (by kernel_rfl) ?_ _
      have hB := (K.fill _ _ mS (row .u8 16 f)).below
      have HE := show Hid _ from (And.intro s1.1 (show val 256 f 16 = ptag k len z by rw [s1.2, hv]; rfl))
      clear K s1 hv ha hlt ht g1
      go_wp2
      exact bodyPost_ret (v := (.agg (row .u8 16 (f)).toArray)) (results_row Tryd.results33 rfl (Has.all hz' .u8 f).range Tryd.underlying42 rfl (tag_info f)) rfl ⟨f, rfl, HE.out, hB⟩
theorem or_byte (d x y : Int) (hd : 0 ≤ d ∧ d < 256) (hx : 0 ≤ x ∧ x < 256) (hy : 0 ≤ y ∧ y < 256) :
    (0 ≤ bits .or .u8 d (bits .xor .u8 x y) ∧ bits .or .u8 d (bits .xor .u8 x y) < 256) ∧ (bits .or .u8 d (bits .xor .u8 x y) = 0 ↔ d = 0 ∧ x = y) := by
  obtain ⟨d, rfl⟩ := Int.eq_ofNat_of_zero_le hd.1
  obtain ⟨x, rfl⟩ := Int.eq_ofNat_of_zero_le hx.1
  obtain ⟨y, rfl⟩ := Int.eq_ofNat_of_zero_le hy.1
  have h1 : x ^^^ y < 2 ^ 8 := Nat.xor_lt_two_pow (by omega) (by omega)
  have h2 : d ||| (x ^^^ y) < 2 ^ 8 := Nat.or_lt_two_pow (by omega) h1
  rw [u8_xor_nat x y (by omega) (by omega), u8_or_nat d _ (by omega) (by omega)]
  refine ⟨by omega, ?_⟩
  have e : ((d ||| (x ^^^ y) : Nat) : Int) = 0 ↔ d ||| (x ^^^ y) = 0 := by omega
  have e2 : x ^^^ y = 0 ↔ x = y := by
    constructor
    · intro h
      have h' : x ^^^ (x ^^^ y) = x := by rw [h, Nat.xor_zero]
      rw [← Nat.xor_assoc, Nat.xor_self, Nat.zero_xor] at h'
      exact h'.symm
    · intro h; rw [h, Nat.xor_self]
  rw [e, Nat.or_eq_zero_iff, e2]
  omega
theorem orI {P : Program} {o : Oper} {a : Act} (k : IntKind) (n n' r : Int) (t t' : TypeId) (x y : Operand) (ho : o.op = .binOp .or t x y t') (hx : a.eval x = .int k n) (hy : a.eval y = .int k n') (hr : bits .or k n n' = r) (w : World) : (execOp a.eval o).run P w = .ok (.value (.int k r)) w := by
  unfold execOp
  simp only [ho, hx, hy, Sem.run_bind, eqGuard_at_int, binOp_or, intBits_or, Sem.run_pure, Result.andThen_ok, hr]
theorem same_iff (a b : Nat → Int) (ha : In 256 16 a) (hb : In 256 16 b) (d : Int) (h : d = 0 ↔ ∀ j, j < 16 → a j = b j) : (d == 0) = decide (val 256 a 16 = val 256 b 16) := by
  have e : d = 0 ↔ val 256 a 16 = val 256 b 16 := h.trans ⟨fun h => val_congr 256 16 h, fun h => val_inj 256 (by decide) a b 16 ha hb h⟩
  by_cases hd : d = 0
  · rw [decide_eq_true (e.1 hd), hd]; rfl
  · rw [decide_eq_false (fun h => hd (e.2 h))]; simpa using hd
theorem psame_any : SameOK := by
  intro a b ha hb w _
  have K := ((Kr.init w).box .u8 16 a 42 (w.heap.size) rfl).box .u8 16 b 42 (w.heap.size + 1) (by simp)
  go_enter Tryd.func25, Tryd.ntmps25
  go_upto_region 1 with fail
  generalize ((w.alloc (.cells (row .u8 16 a).toArray 42)).alloc (.cells (row .u8 16 b).toArray 42)) = w0 at K ⊢
  go_wp2
  go_loopw [5, 7] (fun so i w' => ∃ (m : Nat) (d : Int), m ≤ 16 ∧ i = .int .i64 m ∧ so = .int .u8 d ∧ Kr w (w.heap.size + 1 + 1) [(w.heap.size + 1, .u8, 16, b), (w.heap.size, .u8, 16, a)] [] w' ∧ (0 ≤ d ∧ d < 256) ∧ (d = 0 ↔ ∀ j, j < m → a j = b j)) (fun _ i _ => 16 - (intOf i).toNat)
  case atStart => exact ⟨0, 0, by omega, rfl, rfl, K, by omega, by simp⟩
  case round =>
    clear K
    obtain ⟨m, d, hm, rfl, rfl, K, hd, hz⟩ := hrel
    have g1 : (0 : Int) ≤ (m : Int) := by omega
    by_cases hlt : m < 16
    · have g2 : (m : Int) < 16 := by omega
      go_upto_region 5 with fail
      refine wp_region_held_drew (S := fun w' => Kr w (w.heap.size + 1 + 1) [(w.heap.size + 1, .u8, 16, b), (w.heap.size, .u8, 16, a)] [] w') (by kernel_rfl) K.drew ?_
      clear K
      intro K
      generalize wr.drew = w1 at K ⊢
      refine pureHg (i := 0) (some 10) rfl (.int .u8 d) rfl rfl (fun _ => by kernel_rfl) K ?_
      simp only [aP, lI, l0, lS]
      refine pureHg (i := 1) (some 11) rfl (.int .i64 (m : Int)) rfl rfl (fun _ => by kernel_rfl) K ?_
      simp only [aP, lI, l0, lS]
      refine pureHg (i := 2) (some 12) rfl (.pointer (some ⟨w.heap.size, m, none⟩)) rfl rfl (fun w' => idxTag (w.heap.size) m hlt w' _ _ rfl rfl rfl) K ?_
      simp only [aP, lI, l0, lS]
      refine cellH (i := 3) (some 13) rfl .u8 (.int .u8 (a m)) (w.heap.size) m 5 _ rfl rfl rfl rfl (by kernel_rfl) (by kernel_rfl) (by kernel_rfl) (fun _ _ _ h => h) Tryd.underlying5 K (fun _ h => (h.get _ _ _ _ (mT _ mS)).cell m hlt) ?_
      simp only [aP, lI, l0, lS]
      refine pureHg (i := 4) (some 14) rfl (.int .i64 (m : Int)) rfl rfl (fun _ => by kernel_rfl) K ?_
      simp only [aP, lI, l0, lS]
      refine pureHg (i := 5) (some 15) rfl (.pointer (some ⟨w.heap.size + 1, m, none⟩)) rfl rfl (fun w' => idxTag (w.heap.size + 1) m hlt w' _ _ rfl rfl rfl) K ?_
      simp only [aP, lI, l0, lS]
      refine cellH (i := 6) (some 16) rfl .u8 (.int .u8 (b m)) (w.heap.size + 1) m 5 _ rfl rfl rfl rfl (by kernel_rfl) (by kernel_rfl) (by kernel_rfl) (fun _ _ _ h => h) Tryd.underlying5 K (fun _ h => (h.get _ _ _ _ mS).cell m hlt) ?_
      simp only [aP, lI, l0, lS]
      refine pureHg (i := 7) (some 17) rfl (.int .u8 (bits .xor .u8 (a m) (b m))) rfl rfl (fun w => xorI .u8 _ _ _ _ _ _ _ rfl rfl rfl rfl w) K ?_
      simp only [aP, lI, l0, lS]
      refine pureHg (i := 8) (some 18) rfl (.int .u8 (bits .or .u8 d (bits .xor .u8 (a m) (b m)))) rfl rfl (fun w => orI .u8 _ _ _ _ _ _ _ rfl rfl rfl rfl w) K ?_
      simp only [aP, lI, l0, lS]
      refine pureHg (i := 9) (some 5) rfl (.int .u8 (bits .or .u8 d (bits .xor .u8 (a m) (b m)))) rfl rfl (fun _ => by kernel_rfl) K ?_
      simp only [aP, lI, l0, lS]
      refine wpAnyH_done (by kernel_rfl) ?_ _
      have ho := or_byte d (a m) (b m) hd (ha m hlt) (hb m hlt)
      have HS := show Hid _ from (And.intro K (And.intro ho.1 (show bits .or .u8 d (bits .xor .u8 (a m) (b m)) = 0 ↔ ∀ j, j < m + 1 → a j = b j from by
        rw [ho.2, hz]
        constructor
        · intro h j hj
          by_cases e : j = m
          · subst e; exact h.2
          · exact h.1 j (by omega)
        · intro h
          exact ⟨fun j hj => h j (by omega), h m (by omega)⟩)))
      clear K hz ho
      generalize bits .or .u8 d (bits .xor .u8 (a m) (b m)) = d2 at HS ⊢
      go_wp2
      go_roundw
      case rel => first | exact ⟨m + 1, d2, by omega, by go_num, rfl, HS.out⟩ | ((repeat apply Exists.intro); refine ⟨⟨m + 1, d2, by omega, by go_num, rfl, HS.out⟩, rfl⟩)
      case measure => simp [intOf]; omega
    · obtain rfl : m = 16 := by omega
      clear hlt hm g1
      have hr := same_iff a b ha hb d hz
      have hB := K.below
      clear K hz
      go_upto_region 7 with fail
      refine wp_region_list ?_
      refine pureL (.int .u8 d) rfl (fun _ => by kernel_rfl) ?_
      simp only [aP, lI, l0, lS]
      refine pureL (.bool (decide (val 256 a 16 = val 256 b 16))) rfl (fun w => eqlI .u8 _ _ _ _ _ _ rfl rfl rfl _ hr w) ?_
      simp only [aP, lI, l0, lS]
      refine pureL (.bool (decide (val 256 a 16 = val 256 b 16))) rfl (fun _ => by kernel_rfl) ?_
      simp only [aP, lI, l0, lS]
      show Exit.then _ _ _ _ _
      go_wp2
      go_ret
      exact ⟨rfl, hB⟩
end Go.Proofs.YtgfpflcoknpbdaaDoor
