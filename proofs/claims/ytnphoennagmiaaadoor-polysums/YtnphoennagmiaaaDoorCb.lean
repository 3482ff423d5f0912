/- What Block answers: a piece as a number, or that it is too long. -/
import Derived.Test.YtnphoennagmiaaaDoorCt
import Derived.Test.YtnphoennagmiaaaDoorFloat
import Derived.Test.YtnphoennagmiaaaDoorSr
namespace Go.Proofs.YtnphoennagmiaaaDoor
open Go.RowKit

def blk (len : Nat) (z : Nat → Int) : Nat → Int := fun j => if len ≤ 16 then (if j < len then z j else if j = len then 1 else 0) else 0
def blkE (len : Nat) : Int := if len ≤ 16 then 0 else 2
theorem blk_in (len : Nat) (z : Nat → Int) (hz : In 256 len z) : In 256 17 (blk len z) := fun j _ => by
  unfold blk
  split
  · split
    · exact hz j (by assumption)
    · split <;> omega
  · omega


set_option maxRecDepth 10000 in
set_option maxHeartbeats 2000000 in
theorem cblock_long (sp : Option Addr) (len cap : Nat) (z : Nat → Int) (hlen : 16 < len) (w : World) :
    Calls Tryd.prog 31 #[.slice sp len cap] w fun e w' => e = .returned (.tuple #[(.agg (row .u8 17 (blk len z)).toArray), .int .i64 (blkE len)]) ∧ Below w.heap.size w w' := by
  have eb : (row .u8 17 (blk len z)) = row .u8 17 (fun _ => 0) := row_congr _ _ fun j _ => by unfold blk; rw [if_neg (by omega)]
  have ee : blkE len = 2 := by unfold blkE; rw [if_neg (by omega)]
  rw [eb, ee]
  have z0 : Has ((w.alloc (.cells #[.int .u8 0, .int .u8 0, .int .u8 0, .int .u8 0, .int .u8 0, .int .u8 0, .int .u8 0, .int .u8 0, .int .u8 0, .int .u8 0, .int .u8 0, .int .u8 0, .int .u8 0, .int .u8 0, .int .u8 0, .int .u8 0, .int .u8 0] 33)).alloc (.cells #[.int .u8 0, .int .u8 0, .int .u8 0, .int .u8 0, .int .u8 0, .int .u8 0, .int .u8 0, .int .u8 0, .int .u8 0, .int .u8 0, .int .u8 0, .int .u8 0, .int .u8 0, .int .u8 0, .int .u8 0, .int .u8 0, .int .u8 0] 33)) w.heap.size .u8 17 (fun _ => 0) := (big_zero _ _ _ rfl).alloc _ (by simp)
  have g0 : Fr w 2 ((w.alloc (.cells #[.int .u8 0, .int .u8 0, .int .u8 0, .int .u8 0, .int .u8 0, .int .u8 0, .int .u8 0, .int .u8 0, .int .u8 0, .int .u8 0, .int .u8 0, .int .u8 0, .int .u8 0, .int .u8 0, .int .u8 0, .int .u8 0, .int .u8 0] 33)).alloc (.cells #[.int .u8 0, .int .u8 0, .int .u8 0, .int .u8 0, .int .u8 0, .int .u8 0, .int .u8 0, .int .u8 0, .int .u8 0, .int .u8 0, .int .u8 0, .int .u8 0, .int .u8 0, .int .u8 0, .int .u8 0, .int .u8 0, .int .u8 0] 33)) := ((Fr.refl w).alloc _).alloc _
  have hB := (g0.setAll w.heap.size (Nat.le_refl _) (row .u8 17 (fun _ => 0))).below
  have hl : (17 : Int) ≤ (len : Int) := by omega
  clear eb ee g0 hlen
  go_enter Tryd.func31, Tryd.ntmps31
  go_wp2_with (refine wpList_store_mid rfl 33 _ _ rfl (w.heap.size) 0 (row .u8 17 (fun _ => 0)).toArray rfl rfl (big_there (z0)) (big_info' _) (all_oneCell_toArray (row_one _ _ _)) ?_)
  exact bodyPost_ret (v := .tuple #[(.agg (row .u8 17 (fun _ => 0)).toArray), .int .i64 2]) (results_row_tmp Tryd.results31 rfl rfl (Has.all z0.there .u8 _).range Tryd.underlying33 rfl (big_info _)) rfl ⟨rfl, hB⟩

set_option maxRecDepth 10000 in
set_option maxHeartbeats 2000000 in
theorem cblock_short (sp : Option Addr) (len cap : Nat) (z : Nat → Int) (hlen : len ≤ 16) (w : World) (hs : Src w sp len z) :
    Calls Tryd.prog 31 #[.slice sp len cap] w fun e w' => e = .returned (.tuple #[(.agg (row .u8 17 (blk len z)).toArray), .int .i64 (blkE len)]) ∧ Below w.heap.size w w' := by
  have ee : blkE len = 0 := by unfold blkE; rw [if_pos hlen]
  rw [ee]
  have K := Kr.init w
  replace K := K.make 17 #[.int .u8 0, .int .u8 0, .int .u8 0, .int .u8 0, .int .u8 0, .int .u8 0, .int .u8 0, .int .u8 0, .int .u8 0, .int .u8 0, .int .u8 0, .int .u8 0, .int .u8 0, .int .u8 0, .int .u8 0, .int .u8 0, .int .u8 0] 33 w.heap.size rfl (big_zero _ _ _ rfl).there
  have H : Has ((w.alloc (.cells #[.int .u8 0, .int .u8 0, .int .u8 0, .int .u8 0, .int .u8 0, .int .u8 0, .int .u8 0, .int .u8 0, .int .u8 0, .int .u8 0, .int .u8 0, .int .u8 0, .int .u8 0, .int .u8 0, .int .u8 0, .int .u8 0, .int .u8 0] 33)).alloc (.cells #[.int .u8 0, .int .u8 0, .int .u8 0, .int .u8 0, .int .u8 0, .int .u8 0, .int .u8 0, .int .u8 0, .int .u8 0, .int .u8 0, .int .u8 0, .int .u8 0, .int .u8 0, .int .u8 0, .int .u8 0, .int .u8 0, .int .u8 0] 33)) (w.heap.size + 1) .u8 17 (fun _ => 0) := big_zero _ _ _ (by simp)
  replace K := K.make 17 #[.int .u8 0, .int .u8 0, .int .u8 0, .int .u8 0, .int .u8 0, .int .u8 0, .int .u8 0, .int .u8 0, .int .u8 0, .int .u8 0, .int .u8 0, .int .u8 0, .int .u8 0, .int .u8 0, .int .u8 0, .int .u8 0, .int .u8 0] 33 (w.heap.size + 1) (by simp) H.there
  have hs' := hs.below (w' := ((w.alloc (.cells #[.int .u8 0, .int .u8 0, .int .u8 0, .int .u8 0, .int .u8 0, .int .u8 0, .int .u8 0, .int .u8 0, .int .u8 0, .int .u8 0, .int .u8 0, .int .u8 0, .int .u8 0, .int .u8 0, .int .u8 0, .int .u8 0, .int .u8 0] 33)).alloc (.cells #[.int .u8 0, .int .u8 0, .int .u8 0, .int .u8 0, .int .u8 0, .int .u8 0, .int .u8 0, .int .u8 0, .int .u8 0, .int .u8 0, .int .u8 0, .int .u8 0, .int .u8 0, .int .u8 0, .int .u8 0, .int .u8 0, .int .u8 0] 33))) K.below (Nat.le_refl _)
  have hl : ¬ (17 : Int) ≤ (len : Int) := by omega
  have hl2 : (len : Int) < 17 := by omega
  have hl3 : (0 : Int) ≤ (len : Int) := by omega
  clear ee hs
  go_enter Tryd.func31, Tryd.ntmps31
  go_upto_region 4 with fail
  generalize ((w.alloc (.cells #[.int .u8 0, .int .u8 0, .int .u8 0, .int .u8 0, .int .u8 0, .int .u8 0, .int .u8 0, .int .u8 0, .int .u8 0, .int .u8 0, .int .u8 0, .int .u8 0, .int .u8 0, .int .u8 0, .int .u8 0, .int .u8 0, .int .u8 0] 33)).alloc (.cells #[.int .u8 0, .int .u8 0, .int .u8 0, .int .u8 0, .int .u8 0, .int .u8 0, .int .u8 0, .int .u8 0, .int .u8 0, .int .u8 0, .int .u8 0, .int .u8 0, .int .u8 0, .int .u8 0, .int .u8 0, .int .u8 0, .int .u8 0] 33)) = w1 at K H hs' ⊢
  refine wp_region_list ?_
  refine pureL (.slice (some ⟨w.heap.size + 1, 0, none⟩) 17 17) rfl (fun _ => by kernel_rfl) ?_
  simp only [Act.put, List.setIfInBounds_toArray, List.set_cons_zero, List.set_cons_succ]
  refine pureL (.slice sp len cap) rfl (fun _ => by kernel_rfl) ?_
  simp only [Act.put, List.setIfInBounds_toArray, List.set_cons_zero, List.set_cons_succ]
  refine actL (.int .i64 (len : Int)) rfl (run_copy_src _ _ 24 24 5 rfl Tryd.underlying24 (by kernel_rfl) (w.heap.size + 1) 17 17 len cap 17 sp z rfl rfl (by omega) (by omega) H.there hs') ?_
  simp only [Act.put, List.setIfInBounds_toArray, List.set_cons_zero, List.set_cons_succ]
  replace K := K.fill (w.heap.size + 1) 17 List.mem_cons_self (row .u8 len z)
  replace H := H.part 0 len (by omega) z
  clear hs'
  generalize w1.setCells (w.heap.size + 1) 0 (row .u8 len z) = w2 at K H ⊢
  have c1 := H.cell len (by omega)
  have f1 := H.free len (by omega)
  replace H := H.set len (by omega) 1
  have H' := H.congr (g := blk len z) (fun j hj => by
    unfold blk
    rw [if_pos hlen]
    by_cases e : j = len
    · subst e; rw [upd_same, if_neg (by omega), if_pos rfl]
    · rw [upd_other _ _ _ _ e]
      unfold over
      by_cases e2 : j < len
      · rw [if_pos (by omega), if_pos e2, Nat.sub_zero]
      · rw [if_neg (by omega), if_neg e2, if_neg e])
  have K' : Kr w _ [] [(w.heap.size + 1, 17), (w.heap.size, 17)] (w2.setCell ⟨w.heap.size + 1, len, none⟩ (.int .u8 1)) := K.poke (w.heap.size + 1) 17 List.mem_cons_self len [.int .u8 1]
  clear H K
  generalize over (fun _ => 0) 0 len z len = y at *
  go_upto_region 5 with fail
  generalize w2.setCell ⟨w.heap.size + 1, len, none⟩ (.int .u8 1) = w3 at K' H' ⊢
  have hz := (K'.room _ (List.mem_cons_of_mem _ List.mem_cons_self)).1
  have hB := (K'.fill _ _ (List.mem_cons_of_mem _ List.mem_cons_self) (row .u8 17 (blk len z))).below
  clear K' c1 f1 hl hl2 hl3 hlen
  generalize hj : blk len z = f at *
  go_wp2_with (first | (refine wpList_load_mid rfl 33 _ rfl (w.heap.size + 1) 0 rfl (row .u8 17 (f)) _ (Has.range (H')) Tryd.underlying33 rfl (big_info _) ?_) | (refine wpList_store_mid rfl 33 _ _ rfl w.heap.size 0 (row .u8 17 f).toArray rfl rfl (room_of hz) (big_info' _) (all_oneCell_toArray (row_one _ _ _)) ?_))
  exact bodyPost_ret (v := .tuple #[(.agg (row .u8 17 (f)).toArray), .int .i64 0]) (results_row_tmp Tryd.results31 rfl rfl (Has.all hz .u8 f).range Tryd.underlying33 rfl (big_info f)) rfl ⟨rfl, hB⟩

theorem cblock_any (sp : Option Addr) (len cap : Nat) (z : Nat → Int) (w : World) (hs : Src w sp len z) :
    Calls Tryd.prog 31 #[.slice sp len cap] w fun e w' => e = .returned (.tuple #[(.agg (row .u8 17 (blk len z)).toArray), .int .i64 (blkE len)]) ∧ Below w.heap.size w w' := by
  by_cases h : len ≤ 16
  · exact cblock_short sp len cap z h w hs
  · exact cblock_long sp len cap z (by omega) w
end Go.Proofs.YtnphoennagmiaaaDoor
