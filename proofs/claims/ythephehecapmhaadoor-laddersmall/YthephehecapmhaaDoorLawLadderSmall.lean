/- What the statement's function answers, whatever the bytes: true. -/
import Derived.Test.YthephehecapmhaaDoorShown2
import Derived.Test.YthephehecapmhaaDoorSolo
import Derived.Deep.Cut
namespace Go.Proofs.YthephehecapmhaaDoor
open Go.RowKit

/-- A point at the end of the numbers. -/
def lastk (x : Int) : Nat → Int := fun j => if j = 31 then 127 else if j = 0 then x else 255
theorem lastk_in (x : Int) (h : 0 ≤ x ∧ x < 256) : In 256 32 (lastk x) := fun j _ => by
  unfold lastk; split
  · omega
  · split
    · exact h
    · omega
/-- The five points, and their bytes in a row. -/
def pts (n : Nat) : Nat → Int := if n = 0 then one 0 else if n = 1 then one 1 else lastk (234 + n)
def cat (j : Nat) : Int := pts (j / 32) (j % 32)
theorem cat_at (n j : Nat) (h : j < 32) : cat (32 * n + j) = pts n j := by
  unfold cat
  rw [show (32 * n + j) / 32 = n by omega, show (32 * n + j) % 32 = j by omega]
theorem cat_row (n : Nat) : row .u8 32 (fun j => cat (32 * n + j)) = row .u8 32 (pts n) := row_congr _ _ fun j hj => cat_at n j hj
theorem row_more (f : Nat → Int) (n m : Nat) : row .u8 (n + m) f = row .u8 n f ++ row .u8 m (fun j => f (n + j)) := by
  unfold row
  rw [List.range_add, List.map_append, List.map_map]
  rfl
theorem cat_more (n : Nat) : row .u8 (32 * n) cat ++ row .u8 32 (pts n) = row .u8 (32 * (n + 1)) cat := by
  rw [Nat.mul_succ, row_more, cat_row]
theorem pts_in (n : Nat) (h : n < 5) : In 256 32 (pts n) := by
  unfold pts
  split
  · exact byte_in' 0 (by decide) (by decide)
  · split
    · exact byte_in' 1 (by decide) (by decide)
    · exact lastk_in _ (by omega)
theorem tm_pts (k : Nat → Int) : ∀ n, n < 5 → tm k (pts n) = 0
  | 0, _ => tm_at0 k
  | 1, _ => tm_at1 k
  | 2, _ => tm_small k _ (by rw [show pts 2 = lastk 236 from rfl, kz_of _ 57896044618658097711785492504343953926634992332820282019728792003956564819948 (-1) (by decide +kernel) (by decide +kernel)]; decide +kernel)
  | 3, _ => tm_nought k _ (by rw [show pts 3 = lastk 237 from rfl]; exact kz_of _ 57896044618658097711785492504343953926634992332820282019728792003956564819949 0 (by decide +kernel) (by decide +kernel))
  | 4, _ => tm_small k _ (by rw [show pts 4 = lastk 238 from rfl, kz_of _ 57896044618658097711785492504343953926634992332820282019728792003956564819950 1 (by decide +kernel) (by decide +kernel)]; decide +kernel)
  | _ + 5, h => by omega

theorem Kq.low {w w' w'' : World} {m : Nat} {l : List (Nat × Nat × (Nat → Int))} {R : List (Nat × Nat)} (h : Kq w m l R w') (b : Below m w' w'') : Kq w m l R w'' :=
  ⟨fun p hp => ⟨(h.rows p hp).1.below b (h.rows p hp).2, (h.rows p hp).2⟩, fun q hq => ⟨there_below (h.room q hq).1 b (h.room q hq).2.1, (h.room q hq).2⟩, h.apart, Nat.le_trans h.size b.size, h.base, h.below.trans (b.mono h.base)⟩

theorem addr_add (g j : Nat) : (⟨g, 0, none⟩ : Addr).add j = ⟨g, j, none⟩ := by
  unfold Addr.add
  by_cases h : j = 0
  · subst h; rfl
  · simp [h]
theorem pts_last (t : Nat) : lastk (236 + (t : Int)) = pts (2 + t) := by
  unfold pts
  rw [if_neg (by omega), if_neg (by omega)]
  congr 1
  omega
theorem idxV {o : Oper} {a : Act} (g cap t : Nat) (x y : Operand) (ho : o.op = .indexAddr 32 x y) (hx : a.eval x = .slice (some ⟨g, 0, none⟩) 5 cap) (hy : a.eval y = .int .i64 (t : Int)) (h : t < 5) (w : World) :
    (execOp a.eval o).run Tryd.prog w = .ok (.value (.pointer (some ⟨g, 32 * t, none⟩))) w := by
  have hs : ∀ w, (sizeOf 23).run Tryd.prog w = .ok 32 w := fun w => by kernel_rfl
  have he : Tryd.prog.elem 32 = 23 := by kernel_rfl
  unfold execOp
  simp only [ho, hx, hy]
  rw [Sem.run_bind, run_indexAt_slice w 32 ⟨g, 0, none⟩ 5 cap .i64 (t : Int) (by kernel_rfl)]
  rw [he, hs]
  simp only [Result.andThen_ok, addr_add]
  rw [if_pos (by omega), Int.toNat_natCast, Nat.mul_comm]
  rfl
/-- What Shared answers here, and its first part. -/
def Sh (v : Value) : Prop := ∃ f : Nat → Int, v = .tuple #[(.agg (row .u8 32 (f)).toArray), .int .i64 20] ∧ In 256 32 f
def first (v : Value) : Value := match v with
  | .tuple a => a.getD 0 undef
  | _ => undef
theorem first_at (f : Nat → Int) (x : Value) : first (.tuple #[(.agg (row .u8 32 (f)).toArray), x]) = (.agg (row .u8 32 (f)).toArray) := rfl
section
variable {P : Program} {ops : Array Oper} {Q : Exit → Act → World → Prop}
theorem makeL {o : Oper} {rest : List Oper} {a : Act} {w : World} (v : World → Value) (c : Array Value) (t : TypeId) (hw : Region.wanted o (yielded ops a.tmps) = true)
    (hv : ∀ w, (execOp a.eval o).run P w = .ok (.value (v w)) (w.alloc (.cells c t)))
    (h : wpList P ops Q rest (a.put o.dst (v w)) (w.alloc (.cells c t))) : wpList P ops Q (o :: rest) a w := by
  unfold wpList
  rw [if_pos hw]
  refine .inl ?_
  unfold Oper.wp
  rw [hv w]
  exact h
end
theorem infoKey : (Tryd.prog.info? 23).map (fun i => (i.zero, i.size, i.bytes)) = some (some (.agg #[.int .u8 0, .int .u8 0, .int .u8 0, .int .u8 0, .int .u8 0, .int .u8 0, .int .u8 0, .int .u8 0, .int .u8 0, .int .u8 0, .int .u8 0, .int .u8 0, .int .u8 0, .int .u8 0, .int .u8 0, .int .u8 0, .int .u8 0, .int .u8 0, .int .u8 0, .int .u8 0, .int .u8 0, .int .u8 0, .int .u8 0, .int .u8 0, .int .u8 0, .int .u8 0, .int .u8 0, .int .u8 0, .int .u8 0, .int .u8 0, .int .u8 0, .int .u8 0]), 32, 32) := by kernel_rfl
theorem owns_two (w : World) (base : Nat) (hb : base ≤ w.heap.size) : (w.alloc (.cells (row .u8 64 cat).toArray 23)).ownsRow base 23 32 (.slice (some ⟨w.heap.size, 0, none⟩) 2 2) 2 (row .u8 (32 * 2) cat) :=
  ⟨by rw [row_length], .inr ⟨w.heap.size, 2, (row .u8 64 cat).toArray, rfl, hb, heap_alloc_new w _, by omega, by unfold maxLen; omega, by rw [List.size_toArray, row_length], by
    rw [List.toList_toArray]; exact List.take_of_length_le (by rw [row_length]; omega)⟩⟩

set_option maxRecDepth 10000 in
set_option maxHeartbeats 8000000 in
theorem law_LadderSmall (k : Nat → Int) (hk : In 256 32 k) (w : World) (hg : Glob w) (ht : Trs w) :
    Calls Tryd.prog 7 #[(.agg (row .u8 32 (k)).toArray)] w fun e w' => e = .returned (.bool true) ∧ Below w.heap.size w w' := by
  have K := Kq.init w
  replace K := K.box 32 k 23 (w.heap.size) rfl
  go_enter Tryd.func7, Tryd.ntmps7
  go_upto_region 1 with fail
  refine wp_region_list ?_
  refine callL rfl (fun _ => by kernel_rfl) (shown_any _ (hg.below K.below hg.size) (ht.below K.below hg.size)) ?_
  rintro e w1 ⟨rfl, l⟩
  replace K := K.call l
  clear l
  refine ⟨_, rfl, ?_⟩
  simp only [Act.put, List.setIfInBounds_toArray, List.set_cons_zero, List.set_cons_succ]
  refine pureL (.bool true) rfl (fun _ => by kernel_rfl) ?_
  simp only [Act.put, List.setIfInBounds_toArray, List.set_cons_zero, List.set_cons_succ]
  show Exit.then _ _ _ _ _
  go_upto_region 2 with fail
  refine wp_region_list ?_
  refine pureL (.agg (row .u8 32 (one 0)).toArray) rfl (fun _ => by kernel_rfl) ?_
  simp only [Act.put, List.setIfInBounds_toArray, List.set_cons_zero, List.set_cons_succ]
  refine allocL #[.int .u8 0, .int .u8 0, .int .u8 0, .int .u8 0, .int .u8 0, .int .u8 0, .int .u8 0, .int .u8 0, .int .u8 0, .int .u8 0, .int .u8 0, .int .u8 0, .int .u8 0, .int .u8 0, .int .u8 0, .int .u8 0, .int .u8 0, .int .u8 0, .int .u8 0, .int .u8 0, .int .u8 0, .int .u8 0, .int .u8 0, .int .u8 0, .int .u8 0, .int .u8 0, .int .u8 0, .int .u8 0, .int .u8 0, .int .u8 0, .int .u8 0, .int .u8 0] 23 rfl (fun _ => by kernel_rfl) ?_
  simp only [Act.put, List.setIfInBounds_toArray, List.set_cons_zero, List.set_cons_succ]
  have z1 := K.size
  replace K := K.make 32 #[.int .u8 0, .int .u8 0, .int .u8 0, .int .u8 0, .int .u8 0, .int .u8 0, .int .u8 0, .int .u8 0, .int .u8 0, .int .u8 0, .int .u8 0, .int .u8 0, .int .u8 0, .int .u8 0, .int .u8 0, .int .u8 0, .int .u8 0, .int .u8 0, .int .u8 0, .int .u8 0, .int .u8 0, .int .u8 0, .int .u8 0, .int .u8 0, .int .u8 0, .int .u8 0, .int .u8 0, .int .u8 0, .int .u8 0, .int .u8 0, .int .u8 0, .int .u8 0] 23 w1.heap.size rfl (key_zero _ _ _ rfl).there
  refine storesL .u8 32 (one 0) (w1.heap.size) 23 _ _ rfl rfl rfl rfl (K.roomy _ _ _ List.mem_cons_self) (key_info' _) ?_
  simp only [Act.put]
  have V := Has.all (K.room _ List.mem_cons_self).1 .u8 (one 0)
  replace K := K.fill _ _ List.mem_cons_self (row .u8 32 (one 0))
  generalize ((w1.alloc (.cells #[.int .u8 0, .int .u8 0, .int .u8 0, .int .u8 0, .int .u8 0, .int .u8 0, .int .u8 0, .int .u8 0, .int .u8 0, .int .u8 0, .int .u8 0, .int .u8 0, .int .u8 0, .int .u8 0, .int .u8 0, .int .u8 0, .int .u8 0, .int .u8 0, .int .u8 0, .int .u8 0, .int .u8 0, .int .u8 0, .int .u8 0, .int .u8 0, .int .u8 0, .int .u8 0, .int .u8 0, .int .u8 0, .int .u8 0, .int .u8 0, .int .u8 0, .int .u8 0] 23)).setCells w1.heap.size 0 (row .u8 32 (one 0))) = w2 at K V ⊢
  generalize w1.heap.size = B at *
  show Exit.then _ _ _ _ _
  go_wp2
  go_loopw [5] (fun i w' => ∃ (t : Nat) (f : Nat → Int), t ≤ 32 ∧ i = .int .i64 t ∧ (∀ j, j < t → f j = 255) ∧ Kq w (B + 1) [(w.heap.size, 32, k)] [(B, 32)] w' ∧ Has w' B .u8 32 f) (fun i _ => 32 - (intOf i).toNat)
  case atStart => exact ⟨0, _, by omega, rfl, fun j hj => by omega, K, V⟩
  case round =>
    clear K V
    obtain ⟨t, f, h32, rfl, hf, K, V⟩ := hrel
    by_cases hlt : t < 32
    · have c1 := V.cell t hlt
      have f1 := V.free t hlt
      have HF := show Hid _ from hf
      clear hf
      replace K := K.poke B 32 List.mem_cons_self t [.int .u8 255]
      replace V := V.set t hlt 255
      go_wp2
      go_roundw
      case rel =>
        exact ⟨t + 1, _, by omega, by go_num, fun j hj => by
          by_cases e : j = t
          · subst e; rw [upd_same]
          · rw [upd_other _ _ _ _ e]; exact HF.out j (by omega), K, V⟩
      case measure => simp [intOf]; omega
    · obtain rfl : t = 32 := by omega
      have c1 := V.cell 31 (by omega)
      have f1 := V.free 31 (by omega)
      replace K := K.poke B 32 List.mem_cons_self 31 [.int .u8 127]
      replace V := V.set 31 (by omega) 127
      have V' := V.congr (g := lastk 255) (fun j hj => by
        unfold lastk
        by_cases e : j = 31
        · subst e; rw [upd_same]; simp
        · rw [upd_other _ _ _ _ e, hf j hj, if_neg e]; split <;> rfl)
      clear V hf hlt h32
      replace K : Kq w (B + 1) [(w.heap.size, 32, k)] [(B, 32)] (wr.setCell ⟨B, 31, none⟩ (.int .u8 127)) := K
      go_upto_region 8 with fail
      clear c1 f1
      generalize (wr.setCell ⟨B, 31, none⟩ (.int .u8 127)) = w3 at K V' ⊢
      refine wp_region_list ?_
      refine pureL (.agg (row .u8 32 (one 0)).toArray) rfl (fun _ => by kernel_rfl) ?_
      simp only [Act.put, List.setIfInBounds_toArray, List.set_cons_zero, List.set_cons_succ]
      refine pureL (.agg (row .u8 32 (one 1)).toArray) rfl (fun _ => by kernel_rfl) ?_
      simp only [Act.put, List.setIfInBounds_toArray, List.set_cons_zero, List.set_cons_succ]
      refine makeL (fun w => .slice (some ⟨w.heap.size, 0, none⟩) 2 2) (row .u8 64 cat).toArray 23 rfl (fun _ => by kernel_rfl) ?_
      simp only [Act.put, List.setIfInBounds_toArray, List.set_cons_zero, List.set_cons_succ]
      refine pureL (.slice (some ⟨w3.heap.size, 0, none⟩) 2 2) rfl (fun _ => by kernel_rfl) ?_
      simp only [Act.put, List.setIfInBounds_toArray, List.set_cons_zero, List.set_cons_succ]
      have z3 := K.size
      have O := owns_two w3 (B + 1) z3
      replace K := K.low ((Below.refl (B + 1) w3).alloc z3 (.cells (row .u8 64 cat).toArray 23))
      replace V' := V'.alloc (.cells (row .u8 64 cat).toArray 23) (by omega)
      generalize (w3.alloc (.cells (row .u8 64 cat).toArray 23)) = w4 at K V' O ⊢
      generalize (Value.slice (some ⟨w3.heap.size, 0, none⟩) 2 2) = sv at O ⊢
      show Exit.then _ _ _ _ _
      go_wp2
      go_loopw [6, 7] (fun s i w' => ∃ (t : Nat) (x : Int), t ≤ 3 ∧ i = .int .i64 t ∧ Kq w (B + 1) [(w.heap.size, 32, k)] [(B, 32)] w' ∧ Has w' B .u8 32 (lastk x) ∧ w'.ownsRow (B + 1) 23 32 s (2 + t) (row .u8 (32 * (2 + t)) cat)) (fun _ i _ => 3 - (intOf i).toNat)
      case atStart => exact ⟨0, 255, by omega, rfl, K, V', O⟩
      case round =>
        clear K V' O
        obtain ⟨t, x, h3, rfl, K, V, O⟩ := hrel
        by_cases hlt : t < 3
        · have c1 := V.cell 0 (by omega)
          have f1 := V.free 0 (by omega)
          replace K := K.poke B 32 List.mem_cons_self 0 [.int .u8 (236 + t)]
          replace V := (V.set 0 (by omega) (236 + t)).congr (g := lastk (236 + t)) (fun j hj => by
            unfold lastk
            by_cases e : j = 0
            · subst e; rw [upd_same]; simp
            · rw [upd_other _ _ _ _ e]; simp [e])
          replace O := ownsRow_setCell_below O (a := ⟨B, 0, none⟩) (by show B < B + 1; omega) (.int .u8 (236 + t))
          replace K : Kq w (B + 1) [(w.heap.size, 32, k)] [(B, 32)] (wr.setCell ⟨B, 0, none⟩ (.int .u8 (236 + t))) := K
          have q1 : (0 : Int) ≤ (t : Int) := by omega
          have q2 : (t : Int) < 3 := by omega
          go_upto_region 13 with fail
          clear c1 f1
          generalize (wr.setCell ⟨B, 0, none⟩ (.int .u8 (236 + (t : Int)))) = w5 at K V O ⊢
          refine wp_region_list ?_
          refine pureL u6 rfl (fun _ => by kernel_rfl) ?_
          simp only [Act.put, List.setIfInBounds_toArray, List.set_cons_zero, List.set_cons_succ]
          refine rowAtL 32 (lastk (236 + t)) B 0 23 _ _ rfl rfl rfl Tryd.underlying23 rfl (key_info _) V.range ?_
          simp only [Act.put, List.setIfInBounds_toArray, List.set_cons_zero, List.set_cons_succ]
          refine makeL (fun w => .slice (some ⟨w.heap.size, 0, none⟩) 1 1) (row .u8 32 (lastk (236 + t))).toArray 23 rfl (fun _ => by kernel_rfl) ?_
          simp only [Act.put, List.setIfInBounds_toArray, List.set_cons_zero, List.set_cons_succ]
          have z5 := K.size
          have N := Has.new w5 .u8 32 (lastk (236 + t)) 23 w5.heap.size rfl
          replace O := O.alloc (.cells (row .u8 32 (lastk (236 + t))).toArray 23)
          replace K := K.low ((Below.refl (B + 1) w5).alloc z5 (.cells (row .u8 32 (lastk (236 + t))).toArray 23))
          replace V := V.alloc (.cells (row .u8 32 (lastk (236 + t))).toArray 23) (by omega)
          obtain ⟨i0, hi0, hi1, hi2, hi3⟩ := info_parts infoKey
          refine wpList_append_own _ rfl _ _ 32 rfl (B + 1) 23 i0 (.agg #[.int .u8 0, .int .u8 0, .int .u8 0, .int .u8 0, .int .u8 0, .int .u8 0, .int .u8 0, .int .u8 0, .int .u8 0, .int .u8 0, .int .u8 0, .int .u8 0, .int .u8 0, .int .u8 0, .int .u8 0, .int .u8 0, .int .u8 0, .int .u8 0, .int .u8 0, .int .u8 0, .int .u8 0, .int .u8 0, .int .u8 0, .int .u8 0, .int .u8 0, .int .u8 0, .int .u8 0, .int .u8 0, .int .u8 0, .int .u8 0, .int .u8 0, .int .u8 0]) 32 32 Tryd.underlying32 hi0 hi1 hi2 hi3 rfl (by decide) _ _ _ rfl O ⟨w5.heap.size, 0, none⟩ 1 1 (row .u8 32 (lastk (236 + t))) rfl (by rw [row_length]) (fun j u hj => by obtain ⟨h, rfl⟩ := row_get_some hj; rw [addr_add]; exact N.cell j h) (row_one _ _ _) (by unfold maxLen; omega) (by omega) (by simp; omega) ?_
          intro v' w6 O' G _
          simp only [Act.put, List.setIfInBounds_toArray, List.set_cons_zero, List.set_cons_succ]
          have bl := (Below.refl (B + 1) (w5.alloc (.cells (row .u8 32 (lastk (236 + t))).toArray 23))).grown G (by simp; omega) (fun q hq => (O.lt q hq).1)
          replace K := K.low bl
          replace V := V.below bl (by omega)
          have O2 : w6.ownsRow (B + 1) 23 32 v' (2 + (t + 1)) (row .u8 (32 * (2 + (t + 1))) cat) := by
            rw [pts_last, cat_more] at O'
            exact O'
          clear O O' G N bl hi0 hi1 hi2 hi3
          refine pureL v' rfl (fun _ => by kernel_rfl) ?_
          simp only [Act.put, List.setIfInBounds_toArray, List.set_cons_zero, List.set_cons_succ]
          show Exit.inBlock _ _ _ _ _
          go_wp2
          go_roundw
          case rel => exact ⟨t + 1, _, by omega, by go_num, K, V, O2⟩
          case measure => simp [intOf]; omega
        · obtain rfl : t = 3 := by omega
          replace O : wr.ownsRow (B + 1) 23 32 u6 5 (row .u8 160 cat) := O
          have O1 := O
          obtain ⟨_, hO⟩ := O
          rcases hO with ⟨_, h0⟩ | ⟨g, cap, cur, rfl, hgb, hheap, hle, hcap, hsz, htake⟩
          · omega
          have hgs := (O1.lt g rfl).2
          have X : Has wr g .u8 160 cat := ⟨fun j hj => by have := O1.cells (g := g) rfl j _ (row_get .u8 160 cat j hj); rwa [addr_add] at this, fun j hj => by simp [World.frozen?, hheap]⟩
          have K2 : Kq w wr.heap.size [(g, 160, cat), (w.heap.size, 32, k)] [] wr :=
            ⟨List.forall_mem_cons.2 ⟨⟨X, hgs⟩, List.forall_mem_cons.2 ⟨⟨K.get _ _ _ List.mem_cons_self, by have := K.size; show w.heap.size < wr.heap.size; omega⟩, List.forall_mem_nil _⟩⟩, List.forall_mem_nil _, fun _ _ _ hq => (by cases hq), Nat.le_refl _, Nat.le_trans K.base K.size, K.below⟩
          clear K V O1 X hheap hsz htake hcap hlt h3 hgs hgb cur
          generalize wr.heap.size = M at K2
          go_wp2
          go_loopw [8] (fun i w' => ∃ t : Nat, t ≤ 5 ∧ i = .int .i64 t ∧ Kq w M [(g, 160, cat), (w.heap.size, 32, k)] [] w') (fun i _ => 5 - (intOf i).toNat)
          case atStart => exact ⟨0, by omega, rfl, K2⟩
          case round =>
            clear K2
            obtain ⟨t, h5, rfl, K⟩ := hrel
            by_cases hlt : t < 5
            · have q1 : (0 : Int) ≤ (t : Int) := by omega
              have q2 : (t : Int) < 5 := by omega
              go_upto_region 17 with fail
              refine wp_region_held_drew (S := fun w' => Kq w M [(g, 160, cat), (w.heap.size, 32, k)] [] w') (by kernel_rfl) K.drew ?_
              clear K
              intro K
              refine rowAtH (i := 0) (some 42) rfl 32 k (w.heap.size) 0 23 _ _ rfl rfl rfl rfl (by kernel_rfl) (by kernel_rfl) (by kernel_rfl) (fun _ _ _ h => h) Tryd.underlying23 rfl (key_info _) K (fun _ h => h.whole _ _ (List.mem_cons_of_mem _ List.mem_cons_self)) ?_
              simp only [Act.put, List.setIfInBounds_toArray, List.set_cons_zero, List.set_cons_succ]
              refine pureH (i := 1) (some 43) rfl (.slice (some ⟨g, 0, none⟩) 5 cap) rfl rfl (fun _ => by kernel_rfl) (by kernel_rfl) (by kernel_rfl) (by kernel_rfl) (fun _ _ _ h => h) K ?_
              simp only [Act.put, List.setIfInBounds_toArray, List.set_cons_zero, List.set_cons_succ]
              refine pureH (i := 2) (some 44) rfl (.int .i64 (t : Int)) rfl rfl (fun _ => by kernel_rfl) (by kernel_rfl) (by kernel_rfl) (by kernel_rfl) (fun _ _ _ h => h) K ?_
              simp only [Act.put, List.setIfInBounds_toArray, List.set_cons_zero, List.set_cons_succ]
              refine pureH (i := 3) (some 45) rfl (.pointer (some ⟨g, 32 * t, none⟩)) rfl rfl (fun w => idxV g cap t _ _ rfl rfl rfl hlt w) (by kernel_rfl) (by kernel_rfl) (by kernel_rfl) (fun _ _ _ h => h) K ?_
              simp only [Act.put, List.setIfInBounds_toArray, List.set_cons_zero, List.set_cons_succ]
              refine rowAtH (i := 4) (some 46) rfl 32 (pts t) g (32 * t) 23 _ _ rfl rfl rfl rfl (by kernel_rfl) (by kernel_rfl) (by kernel_rfl) (fun _ _ _ h => h) Tryd.underlying23 rfl (key_info _) K (fun _ h => by have := (h.get g 160 cat List.mem_cons_self).from (32 * t) (by omega); rwa [cat_row] at this) ?_
              simp only [Act.put, List.setIfInBounds_toArray, List.set_cons_zero, List.set_cons_succ]
              refine soloH (c := 5) (b := 9) (p1 := 6) (p2 := 7) (p3 := 8) 47 9 41 48 49 #[.int .u8 0, .int .u8 0, .int .u8 0, .int .u8 0, .int .u8 0, .int .u8 0, .int .u8 0, .int .u8 0, .int .u8 0, .int .u8 0, .int .u8 0, .int .u8 0, .int .u8 0, .int .u8 0, .int .u8 0, .int .u8 0, .int .u8 0, .int .u8 0, .int .u8 0, .int .u8 0, .int .u8 0, .int .u8 0, .int .u8 0, .int .u8 0, .int .u8 0, .int .u8 0, .int .u8 0, .int .u8 0, .int .u8 0, .int .u8 0, .int .u8 0, .int .u8 0] 23 Sh (fun v => v) first (fun _ => .int .i64 20) rfl rfl rfl rfl rfl (by decide) (by decide) (by decide) (by decide) (by decide) (by decide) (by decide) (by decide) rfl rfl rfl rfl rfl rfl rfl rfl rfl rfl (fun _ _ h => by cases h) (fun _ _ h => by cases h) (fun _ _ h => by cases h) (fun _ _ h => by cases h) (by decide +kernel) (by decide +kernel) (by decide +kernel) (by decide +kernel) (by kernel_rfl) (by kernel_rfl) (by kernel_rfl) (by kernel_rfl) (by kernel_rfl) (by kernel_rfl) (by kernel_rfl) (by kernel_rfl) (by kernel_rfl) (by kernel_rfl) (by kernel_rfl) (by kernel_rfl) (by kernel_rfl) (by kernel_rfl) (by kernel_rfl) (by kernel_rfl) (fun _ => by kernel_rfl) (fun _ _ => by kernel_rfl) (fun v hv _ => by obtain ⟨f, rfl, _⟩ := hv; kernel_rfl) (fun v hv _ => by obtain ⟨f, rfl, _⟩ := hv; kernel_rfl) (fun v hv _ => by obtain ⟨f, rfl, _⟩ := hv; kernel_rfl) (fun d _ _ _ _ h => by cases d <;> exact h) (fun _ => (key_zero _ _ _ rfl).there) K (fun _ h => h.size) (fun _ _ h l => h.call l)
                (fun w' h => (shared_any k (pts t) hk (pts_in t hlt) w' (hg.below h.below hg.size) (ht.below h.below hg.size)).mono fun _ _ q => by obtain ⟨f, rfl, hf, l⟩ := q; exact ⟨_, rfl, ⟨f, by rw [if_pos (tm_pts k t hlt)], hf.1⟩, l⟩) ?_
              rintro v B1 w7 ⟨f, rfl, hf⟩ K b1
              simp only [Act.put, List.setIfInBounds_toArray, List.set_cons_zero, List.set_cons_succ]
              simp only [first_at]
              refine storesH (i := 10) none rfl .u8 32 f B1 23 _ _ (by kernel_rfl) rfl rfl rfl rfl rfl (room_of b1.th) (key_info' _) (K.past _ b1.lo _) ?_
              simp only [Act.put]
              replace K := K.past _ b1.lo (row .u8 32 f)
              clear b1
              generalize (w7.setCells B1 0 (row .u8 32 f)) = w8 at K ⊢
              refine pureH (i := 11) (some 10) rfl (.int .i64 20) rfl rfl (fun _ => by kernel_rfl) (by kernel_rfl) (by kernel_rfl) (by kernel_rfl) (fun _ _ _ h => h) K ?_
              simp only [Act.put, List.setIfInBounds_toArray, List.set_cons_zero, List.set_cons_succ]
              refine wpAnyH_done (by kernel_rfl) ?_ _
              go_wp2
              go_roundw
              case rel => exact ⟨t + 1, by omega, by go_num, K⟩
              case measure => simp [intOf]; omega
            · obtain rfl : t = 5 := by omega
              have hL := K.below
              clear K
              go_wp2
              go_ret
              exact ⟨rfl, hL⟩
end Go.Proofs.YthephehecapmhaaDoor
