/- What Block answers: a piece as a number, or that it is too long. -/
import Derived.Test.YthpcbijeahcpmaaDoorCt
import Derived.Test.YthpcbijeahcpmaaDoorFloat
namespace Go.Proofs.YthpcbijeahcpmaaDoor
open Go.RowKit

/-- A slice's first bytes, wherever they lie. -/
def Src (w : World) (sp : Option Addr) (len : Nat) (z : Nat → Int) : Prop := ∀ j, j < len → ∃ ad, sp = some ad ∧ w.cell? (ad.add j) = some (.int .u8 (z j))
theorem Src.below {w w' : World} {sp : Option Addr} {len : Nat} {z : Nat → Int} (h : Src w sp len z) {B : Nat} (l : Below B w w') (hB : w.heap.size ≤ B) : Src w' sp len z := fun j hj => by
  obtain ⟨ad, he, hc⟩ := h j hj
  have hb := World.block_lt_of_cell? w _ hc
  exact ⟨ad, he, by rw [l.cell (p := ad.add j) (Nat.lt_of_lt_of_le hb hB)]; exact hc⟩

def blk (len : Nat) (z : Nat → Int) : Nat → Int := fun j => if len ≤ 16 then (if j < len then z j else if j = len then 1 else 0) else 0
def blkE (len : Nat) : Int := if len ≤ 16 then 0 else 2
theorem blk_in (len : Nat) (z : Nat → Int) (hz : In 256 len z) : In 256 17 (blk len z) := fun j _ => by
  unfold blk
  split
  · split
    · exact hz j (by assumption)
    · split <;> omega
  · omega

section
variable {P : Program}
theorem run_copy_src {o : Oper} {a : Act} {w : World} (d s : Operand) (dT sT elem : TypeId) (ho : o.op = .call { callee := .builtin .copy, args := #[d, s], argTypes := #[dT, sT] }) (hu : P.underlying dT = some (.slice elem)) (hsz : (P.info? elem).map (·.size) = some 1)
    (b dLen dCap len cap n : Nat) (sp : Option Addr) (z : Nat → Int) (hd : a.eval d = .slice (some ⟨b, 0, none⟩) dLen dCap) (hs : a.eval s = .slice sp len cap) (hl : len ≤ dLen) (hn : len ≤ n) (hb : w.there b 0 n) (hc : Src w sp len z) :
    (execOp a.eval o).run P w = .ok (.value (.int .i64 (len : Int))) (w.setCells b 0 (row .u8 len z)) := by
  by_cases h0 : len = 0
  · subst h0
    have hrun := run_copy_none (P := P) w dT sT o.type elem (some ⟨b, 0, none⟩) sp dLen dCap 0 cap hu hsz (Nat.zero_min _)
    simp [execOp, ho, resolve, invoke, builtin, hd, hs, hrun, Result.andThen, goInt, row, World.setCells]
  · obtain ⟨ad, rfl, _⟩ := hc 0 (by omega)
    have hrun := run_copy_cells (P := P) w dT sT o.type elem b 0 dLen dCap ad len cap (row .u8 len z) hu hsz (by rw [row_length]; exact (Nat.min_eq_left hl).symm) (fun j v hv => by
      obtain ⟨hj, rfl⟩ := row_get_some hv
      obtain ⟨ad', he, hc'⟩ := hc j hj
      injection he with he
      subst he
      exact hc') (fun j hj => by rw [row_length] at hj; exact (hb j (by omega)).1) (fun j hj => by rw [row_length] at hj; exact (hb j (by omega)).2) (row_one .u8 len z)
    rw [row_length] at hrun
    simp [execOp, ho, resolve, invoke, builtin, hd, hs, hrun, Result.andThen, goInt]
end

set_option maxRecDepth 10000 in
set_option maxHeartbeats 2000000 in
theorem cblock_long (sp : Option Addr) (len cap : Nat) (z : Nat → Int) (hlen : 16 < len) (w : World) :
    Calls Tryd.prog 11 #[.slice sp len cap] w fun e w' => e = .returned (.tuple #[(.agg (row .u8 17 (blk len z)).toArray), .int .i64 (blkE len)]) ∧ Below w.heap.size w w' := by
  have eb : (row .u8 17 (blk len z)) = row .u8 17 (fun _ => 0) := row_congr _ _ fun j _ => by unfold blk; rw [if_neg (by omega)]
  have ee : blkE len = 2 := by unfold blkE; rw [if_neg (by omega)]
  rw [eb, ee]
  have z0 : Has ((w.alloc (.cells #[.int .u8 0, .int .u8 0, .int .u8 0, .int .u8 0, .int .u8 0, .int .u8 0, .int .u8 0, .int .u8 0, .int .u8 0, .int .u8 0, .int .u8 0, .int .u8 0, .int .u8 0, .int .u8 0, .int .u8 0, .int .u8 0, .int .u8 0] 28)).alloc (.cells #[.int .u8 0, .int .u8 0, .int .u8 0, .int .u8 0, .int .u8 0, .int .u8 0, .int .u8 0, .int .u8 0, .int .u8 0, .int .u8 0, .int .u8 0, .int .u8 0, .int .u8 0, .int .u8 0, .int .u8 0, .int .u8 0, .int .u8 0] 28)) w.heap.size .u8 17 (fun _ => 0) := (big_zero _ _ _ rfl).alloc _ (by simp)
  have g0 : Fr w 2 ((w.alloc (.cells #[.int .u8 0, .int .u8 0, .int .u8 0, .int .u8 0, .int .u8 0, .int .u8 0, .int .u8 0, .int .u8 0, .int .u8 0, .int .u8 0, .int .u8 0, .int .u8 0, .int .u8 0, .int .u8 0, .int .u8 0, .int .u8 0, .int .u8 0] 28)).alloc (.cells #[.int .u8 0, .int .u8 0, .int .u8 0, .int .u8 0, .int .u8 0, .int .u8 0, .int .u8 0, .int .u8 0, .int .u8 0, .int .u8 0, .int .u8 0, .int .u8 0, .int .u8 0, .int .u8 0, .int .u8 0, .int .u8 0, .int .u8 0] 28)) := ((Fr.refl w).alloc _).alloc _
  have hB := (g0.setAll w.heap.size (Nat.le_refl _) (row .u8 17 (fun _ => 0))).below
  have hl : (17 : Int) ≤ (len : Int) := by omega
  clear eb ee g0 hlen
  go_enter Tryd.func11, Tryd.ntmps11
  go_wp2_with (refine wpList_store_mid rfl 28 _ _ rfl (w.heap.size) 0 (row .u8 17 (fun _ => 0)).toArray rfl rfl (big_there (z0)) (big_info' _) (all_oneCell_toArray (row_one _ _ _)) ?_)
  exact bodyPost_ret (v := .tuple #[(.agg (row .u8 17 (fun _ => 0)).toArray), .int .i64 2]) (results_row_tmp Tryd.results11 rfl rfl (Has.all z0.there .u8 _).range Tryd.underlying28 rfl (big_info _)) rfl ⟨rfl, hB⟩

set_option maxRecDepth 10000 in
set_option maxHeartbeats 2000000 in
theorem cblock_short (sp : Option Addr) (len cap : Nat) (z : Nat → Int) (hlen : len ≤ 16) (w : World) (hs : Src w sp len z) :
    Calls Tryd.prog 11 #[.slice sp len cap] w fun e w' => e = .returned (.tuple #[(.agg (row .u8 17 (blk len z)).toArray), .int .i64 (blkE len)]) ∧ Below w.heap.size w w' := by
  have ee : blkE len = 0 := by unfold blkE; rw [if_pos hlen]
  rw [ee]
  have K := Kr.init w
  replace K := K.make 17 #[.int .u8 0, .int .u8 0, .int .u8 0, .int .u8 0, .int .u8 0, .int .u8 0, .int .u8 0, .int .u8 0, .int .u8 0, .int .u8 0, .int .u8 0, .int .u8 0, .int .u8 0, .int .u8 0, .int .u8 0, .int .u8 0, .int .u8 0] 28 w.heap.size rfl (big_zero _ _ _ rfl).there
  have H : Has ((w.alloc (.cells #[.int .u8 0, .int .u8 0, .int .u8 0, .int .u8 0, .int .u8 0, .int .u8 0, .int .u8 0, .int .u8 0, .int .u8 0, .int .u8 0, .int .u8 0, .int .u8 0, .int .u8 0, .int .u8 0, .int .u8 0, .int .u8 0, .int .u8 0] 28)).alloc (.cells #[.int .u8 0, .int .u8 0, .int .u8 0, .int .u8 0, .int .u8 0, .int .u8 0, .int .u8 0, .int .u8 0, .int .u8 0, .int .u8 0, .int .u8 0, .int .u8 0, .int .u8 0, .int .u8 0, .int .u8 0, .int .u8 0, .int .u8 0] 28)) (w.heap.size + 1) .u8 17 (fun _ => 0) := big_zero _ _ _ (by simp)
  replace K := K.make 17 #[.int .u8 0, .int .u8 0, .int .u8 0, .int .u8 0, .int .u8 0, .int .u8 0, .int .u8 0, .int .u8 0, .int .u8 0, .int .u8 0, .int .u8 0, .int .u8 0, .int .u8 0, .int .u8 0, .int .u8 0, .int .u8 0, .int .u8 0] 28 (w.heap.size + 1) (by simp) H.there
  have hs' := hs.below (w' := ((w.alloc (.cells #[.int .u8 0, .int .u8 0, .int .u8 0, .int .u8 0, .int .u8 0, .int .u8 0, .int .u8 0, .int .u8 0, .int .u8 0, .int .u8 0, .int .u8 0, .int .u8 0, .int .u8 0, .int .u8 0, .int .u8 0, .int .u8 0, .int .u8 0] 28)).alloc (.cells #[.int .u8 0, .int .u8 0, .int .u8 0, .int .u8 0, .int .u8 0, .int .u8 0, .int .u8 0, .int .u8 0, .int .u8 0, .int .u8 0, .int .u8 0, .int .u8 0, .int .u8 0, .int .u8 0, .int .u8 0, .int .u8 0, .int .u8 0] 28))) K.below (Nat.le_refl _)
  have hl : ¬ (17 : Int) ≤ (len : Int) := by omega
  have hl2 : (len : Int) < 17 := by omega
  have hl3 : (0 : Int) ≤ (len : Int) := by omega
  clear ee hs
  go_enter Tryd.func11, Tryd.ntmps11
  go_upto_region 4 with fail
  generalize ((w.alloc (.cells #[.int .u8 0, .int .u8 0, .int .u8 0, .int .u8 0, .int .u8 0, .int .u8 0, .int .u8 0, .int .u8 0, .int .u8 0, .int .u8 0, .int .u8 0, .int .u8 0, .int .u8 0, .int .u8 0, .int .u8 0, .int .u8 0, .int .u8 0] 28)).alloc (.cells #[.int .u8 0, .int .u8 0, .int .u8 0, .int .u8 0, .int .u8 0, .int .u8 0, .int .u8 0, .int .u8 0, .int .u8 0, .int .u8 0, .int .u8 0, .int .u8 0, .int .u8 0, .int .u8 0, .int .u8 0, .int .u8 0, .int .u8 0] 28)) = w1 at K H hs' ⊢
  refine wp_region_list ?_
  refine pureL (.slice (some ⟨w.heap.size + 1, 0, none⟩) 17 17) rfl (fun _ => by kernel_rfl) ?_
  simp only [Act.put, List.setIfInBounds_toArray, List.set_cons_zero, List.set_cons_succ]
  refine pureL (.slice sp len cap) rfl (fun _ => by kernel_rfl) ?_
  simp only [Act.put, List.setIfInBounds_toArray, List.set_cons_zero, List.set_cons_succ]
  refine actL (.int .i64 (len : Int)) rfl (run_copy_src _ _ 24 24 5 rfl Tryd.underlying24 (by kernel_rfl) (w.heap.size + 1) 17 17 len cap 17 sp z rfl rfl (by omega) (by omega) H.there hs') ?_
  simp only [Act.put, List.setIfInBounds_toArray, List.set_cons_zero, List.set_cons_succ]
  replace K := K.fill (w.heap.size + 1) 17 List.mem_cons_self (row .u8 len z)
  replace H := H.part 0 len (by omega) z
  clear hs'
  generalize w1.setCells (w.heap.size + 1) 0 (row .u8 len z) = w2 at K H ⊢
  have c1 := H.cell len (by omega)
  have f1 := H.free len (by omega)
  replace H := H.set len (by omega) 1
  have H' := H.congr (g := blk len z) (fun j hj => by
    unfold blk
    rw [if_pos hlen]
    by_cases e : j = len
    · subst e; rw [upd_same, if_neg (by omega), if_pos rfl]
    · rw [upd_other _ _ _ _ e]
      unfold over
      by_cases e2 : j < len
      · rw [if_pos (by omega), if_pos e2, Nat.sub_zero]
      · rw [if_neg (by omega), if_neg e2, if_neg e])
  have K' : Kr w _ [] [(w.heap.size + 1, 17), (w.heap.size, 17)] (w2.setCell ⟨w.heap.size + 1, len, none⟩ (.int .u8 1)) := K.poke (w.heap.size + 1) 17 List.mem_cons_self len [.int .u8 1]
  clear H K
  generalize over (fun _ => 0) 0 len z len = y at *
  go_upto_region 5 with fail
  generalize w2.setCell ⟨w.heap.size + 1, len, none⟩ (.int .u8 1) = w3 at K' H' ⊢
  have hz := (K'.room _ (List.mem_cons_of_mem _ List.mem_cons_self)).1
  have hB := (K'.fill _ _ (List.mem_cons_of_mem _ List.mem_cons_self) (row .u8 17 (blk len z))).below
  clear K' c1 f1 hl hl2 hl3 hlen
  generalize hj : blk len z = f at *
  go_wp2_with (first | (refine wpList_load_mid rfl 28 _ rfl (w.heap.size + 1) 0 rfl (row .u8 17 (f)) _ (Has.range (H')) Tryd.underlying28 rfl (big_info _) ?_) | (refine wpList_store_mid rfl 28 _ _ rfl w.heap.size 0 (row .u8 17 f).toArray rfl rfl (room_of hz) (big_info' _) (all_oneCell_toArray (row_one _ _ _)) ?_))
  exact bodyPost_ret (v := .tuple #[(.agg (row .u8 17 (f)).toArray), .int .i64 0]) (results_row_tmp Tryd.results11 rfl rfl (Has.all hz .u8 f).range Tryd.underlying28 rfl (big_info f)) rfl ⟨rfl, hB⟩

theorem cblock_any (sp : Option Addr) (len cap : Nat) (z : Nat → Int) (w : World) (hs : Src w sp len z) :
    Calls Tryd.prog 11 #[.slice sp len cap] w fun e w' => e = .returned (.tuple #[(.agg (row .u8 17 (blk len z)).toArray), .int .i64 (blkE len)]) ∧ Below w.heap.size w w' := by
  by_cases h : len ≤ 16
  · exact cblock_short sp len cap z h w hs
  · exact cblock_long sp len cap z (by omega) w
end Go.Proofs.YthpcbijeahcpmaaDoor
