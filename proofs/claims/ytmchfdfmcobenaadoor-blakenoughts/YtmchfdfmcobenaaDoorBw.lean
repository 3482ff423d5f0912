/- The head of all statements of this layer: the document's examples hold. -/
import Derived.Test.YtmchfdfmcobenaaDoorBd
import Derived.Test.YtmchfdfmcobenaaDoorKr
import Derived.Test.YtmchfdfmcobenaaDoorHold
import Derived.BigQuiet
import Derived.Deep.Cut
import Derived.Test.YtmchfdfmcobenaaDoorMk
import Derived.Test.YtmchfdfmcobenaaDoorGn
namespace Go.Proofs.YtmchfdfmcobenaaDoor
open Go.RowKit

theorem idxKey (b i : Nat) (hi : i < 32) (w : World) {o : Oper} {a : Act} (x y : Operand) (ho : o.op = .indexAddr 29 x y) (hx : a.eval x = .pointer (some ⟨b, 0, none⟩)) (hy : a.eval y = .int .i64 (i : Int)) :
    (execOp a.eval o).run Tryd.prog w = .ok (.value (.pointer (some ⟨b, i, none⟩))) w := by
  have h := idxArr (P := Tryd.prog) 29 5 32 .i64 b 0 i x y Tryd.underlying29 (fun _ => by kernel_rfl) hi ho hx hy w
  rw [Nat.zero_add] at h
  exact h
/-- Rows, and one slice that stands. -/
structure KB (w : World) (m : Nat) (l : List (Nat × IntKind × Nat × (Nat → Int))) (R : List (Nat × Nat)) (sp : Option Addr) (len : Nat) (z : Nat → Int) (w' : World) : Prop where
  kr : Kr w m l R w'
  src : Src w' sp len z
theorem KB.call {w w' w'' : World} {m : Nat} {l : List (Nat × IntKind × Nat × (Nat → Int))} {R : List (Nat × Nat)} {sp : Option Addr} {len : Nat} {z : Nat → Int} (h : KB w m l R sp len z w') (b : Below w'.heap.size w' w'') : KB w m l R sp len z w'' := ⟨h.kr.call b, h.src.below b (Nat.le_refl _)⟩
theorem KB.drew {w w' : World} {m : Nat} {l : List (Nat × IntKind × Nat × (Nat → Int))} {R : List (Nat × Nat)} {sp : Option Addr} {len : Nat} {z : Nat → Int} (h : KB w m l R sp len z w') : KB w m l R sp len z w'.drew := h.call (Below.refl _ _).drew
def znone : Nat → Int := fun _ => 0
theorem znone_in (n : Nat) : In 256 n znone := fun _ _ => ⟨Int.le_refl 0, (by decide : (0 : Int) < 256)⟩
theorem znone_src (w : World) (z : Nat → Int) : Src w none 0 z := fun _ hj => absurd hj (Nat.not_lt_zero _)
set_option maxRecDepth 10000 in
set_option maxHeartbeats 8000000 in
theorem bshown_any (hS : BSumOK) (hH : BHashOK) (w : World) (hg : BGlob w) :
    Calls Tryd.prog 9 #[] w fun e w' => e = .returned (.bool true) ∧ Below w.heap.size w w' := by
  have hb2 := (Below.refl w.heap.size w).alloc (Nat.le_refl _) (.cells (row .u8 3 zabc).toArray 5 ((row .u8 3 zabc).toArray.size, (row .u8 3 zabc).toArray.size + 1))
  have K := (Kr.init w).call hb2
  clear hb2
  have hc := (has_marked w .u8 3 zabc 5).src0
  go_enter Tryd.func9, Tryd.ntmps9
  go_upto_region 1 with fail
  refine wp_region_list ?_
  refine actL (w' := w.alloc (.cells (row .u8 3 zabc).toArray 5)) (.slice (some ⟨w.heap.size, 0, none⟩) 3 3) rfl (by kernel_rfl) ?_
  simp only [Act.put, List.setIfInBounds_toArray, List.set_cons_zero, List.set_cons_succ]
  refine actL (.slice (some ⟨w.heap.size, 0, none⟩) 3 3) rfl (conv_const 22 5 (row .u8 3 zabc).toArray 3 3 _ rfl rfl Tryd.underlying22 Tryd.underlying5) ?_
  simp only [Act.put, List.setIfInBounds_toArray, List.set_cons_zero, List.set_cons_succ]
  generalize w.alloc (.cells (row .u8 3 zabc).toArray 5 ((row .u8 3 zabc).toArray.size, (row .u8 3 zabc).toArray.size + 1)) = w0 at K hc ⊢
  refine callL rfl (fun _ => by kernel_rfl) (hH (some ⟨w.heap.size, 0, none⟩) 3 3 (by decide) (by decide) (fun e => by cases e) zabc (bl_in _ _ (by decide)) _ (hg.below K.below hg.size) hc) ?_
  rintro e w1 ⟨rfl, l⟩
  replace K := K.call l
  clear l
  refine ⟨_, rfl, ?_⟩
  simp only [Act.put, List.setIfInBounds_toArray, List.set_cons_zero, List.set_cons_succ]
  refine allocL #[.int .u8 0, .int .u8 0, .int .u8 0, .int .u8 0, .int .u8 0, .int .u8 0, .int .u8 0, .int .u8 0, .int .u8 0, .int .u8 0, .int .u8 0, .int .u8 0, .int .u8 0, .int .u8 0, .int .u8 0, .int .u8 0, .int .u8 0, .int .u8 0, .int .u8 0, .int .u8 0, .int .u8 0, .int .u8 0, .int .u8 0, .int .u8 0, .int .u8 0, .int .u8 0, .int .u8 0, .int .u8 0, .int .u8 0, .int .u8 0, .int .u8 0, .int .u8 0] 29 rfl (fun _ => by kernel_rfl) ?_
  simp only [Act.put, List.setIfInBounds_toArray, List.set_cons_zero, List.set_cons_succ]
  refine storesL .u8 32 (bhash 3 zabc) w1.heap.size 29 _ _ rfl rfl rfl rfl (room_of (key_zero _ _ _ rfl).there) (key_info' _) ?_
  simp only [Act.put]
  have zT := K.size
  replace K := K.fresh .u8 32 (bhash 3 zabc) #[.int .u8 0, .int .u8 0, .int .u8 0, .int .u8 0, .int .u8 0, .int .u8 0, .int .u8 0, .int .u8 0, .int .u8 0, .int .u8 0, .int .u8 0, .int .u8 0, .int .u8 0, .int .u8 0, .int .u8 0, .int .u8 0, .int .u8 0, .int .u8 0, .int .u8 0, .int .u8 0, .int .u8 0, .int .u8 0, .int .u8 0, .int .u8 0, .int .u8 0, .int .u8 0, .int .u8 0, .int .u8 0, .int .u8 0, .int .u8 0, .int .u8 0, .int .u8 0] 29 (key_zero _ _ _ rfl).there
  generalize ((w1.alloc (.cells #[.int .u8 0, .int .u8 0, .int .u8 0, .int .u8 0, .int .u8 0, .int .u8 0, .int .u8 0, .int .u8 0, .int .u8 0, .int .u8 0, .int .u8 0, .int .u8 0, .int .u8 0, .int .u8 0, .int .u8 0, .int .u8 0, .int .u8 0, .int .u8 0, .int .u8 0, .int .u8 0, .int .u8 0, .int .u8 0, .int .u8 0, .int .u8 0, .int .u8 0, .int .u8 0, .int .u8 0, .int .u8 0, .int .u8 0, .int .u8 0, .int .u8 0, .int .u8 0] 29)).setCells w1.heap.size 0 (row .u8 32 (bhash 3 zabc))) = w2 at K ⊢
  generalize w1.heap.size = T at *
  show Exit.then _ _ _ _ _
  go_upto_region 2 with fail
  refine wp_region_list ?_
  refine callL rfl (fun _ => by kernel_rfl) (hH none 0 0 (by decide) (by decide) (fun _ => rfl) znone (znone_in 0) _ (hg.below K.below hg.size) (znone_src _ _)) ?_
  rintro e w3 ⟨rfl, l⟩
  replace K := K.call l
  clear l
  refine ⟨_, rfl, ?_⟩
  simp only [Act.put, List.setIfInBounds_toArray, List.set_cons_zero, List.set_cons_succ]
  refine allocL #[.int .u8 0, .int .u8 0, .int .u8 0, .int .u8 0, .int .u8 0, .int .u8 0, .int .u8 0, .int .u8 0, .int .u8 0, .int .u8 0, .int .u8 0, .int .u8 0, .int .u8 0, .int .u8 0, .int .u8 0, .int .u8 0, .int .u8 0, .int .u8 0, .int .u8 0, .int .u8 0, .int .u8 0, .int .u8 0, .int .u8 0, .int .u8 0, .int .u8 0, .int .u8 0, .int .u8 0, .int .u8 0, .int .u8 0, .int .u8 0, .int .u8 0, .int .u8 0] 29 rfl (fun _ => by kernel_rfl) ?_
  simp only [Act.put, List.setIfInBounds_toArray, List.set_cons_zero, List.set_cons_succ]
  refine storesL .u8 32 (bhash 0 znone) w3.heap.size 29 _ _ rfl rfl rfl rfl (room_of (key_zero _ _ _ rfl).there) (key_info' _) ?_
  simp only [Act.put]
  have zX := K.size
  replace K := K.fresh .u8 32 (bhash 0 znone) #[.int .u8 0, .int .u8 0, .int .u8 0, .int .u8 0, .int .u8 0, .int .u8 0, .int .u8 0, .int .u8 0, .int .u8 0, .int .u8 0, .int .u8 0, .int .u8 0, .int .u8 0, .int .u8 0, .int .u8 0, .int .u8 0, .int .u8 0, .int .u8 0, .int .u8 0, .int .u8 0, .int .u8 0, .int .u8 0, .int .u8 0, .int .u8 0, .int .u8 0, .int .u8 0, .int .u8 0, .int .u8 0, .int .u8 0, .int .u8 0, .int .u8 0, .int .u8 0] 29 (key_zero _ _ _ rfl).there
  generalize ((w3.alloc (.cells #[.int .u8 0, .int .u8 0, .int .u8 0, .int .u8 0, .int .u8 0, .int .u8 0, .int .u8 0, .int .u8 0, .int .u8 0, .int .u8 0, .int .u8 0, .int .u8 0, .int .u8 0, .int .u8 0, .int .u8 0, .int .u8 0, .int .u8 0, .int .u8 0, .int .u8 0, .int .u8 0, .int .u8 0, .int .u8 0, .int .u8 0, .int .u8 0, .int .u8 0, .int .u8 0, .int .u8 0, .int .u8 0, .int .u8 0, .int .u8 0, .int .u8 0, .int .u8 0] 29)).setCells w3.heap.size 0 (row .u8 32 (bhash 0 znone))) = w4 at K ⊢
  generalize w3.heap.size = X at *
  show Exit.then _ _ _ _ _
  go_upto_region 3 with fail
  refine wp_region_list ?_
  refine callL rfl (fun _ => by kernel_rfl) (hS none 0 0 (by decide) (by decide) (fun _ => rfl) znone (znone_in 0) 0 (by decide) none 0 0 (by decide) (by decide) (fun _ => rfl) znone (znone_in 0) _ (hg.below K.below hg.size) (znone_src _ _) (znone_src _ _)) ?_
  rintro e w5 ⟨s1, c1, rfl, _, l⟩
  replace K := K.call l
  clear l
  refine ⟨_, rfl, ?_⟩
  simp only [Act.put, List.setIfInBounds_toArray, List.set_cons_zero, List.set_cons_succ]
  refine pureL (.tuple #[.slice s1 0 c1, .int .i64 1]) rfl (fun _ => by kernel_rfl) ?_
  simp only [Act.put, List.setIfInBounds_toArray, List.set_cons_zero, List.set_cons_succ]
  refine pureL (.slice s1 0 c1) rfl (fun _ => by kernel_rfl) ?_
  simp only [Act.put, List.setIfInBounds_toArray, List.set_cons_zero, List.set_cons_succ]
  refine pureL (.int .i64 1) rfl (fun _ => by kernel_rfl) ?_
  simp only [Act.put, List.setIfInBounds_toArray, List.set_cons_zero, List.set_cons_succ]
  refine pureL (.slice s1 0 c1) rfl (fun _ => by kernel_rfl) ?_
  simp only [Act.put, List.setIfInBounds_toArray, List.set_cons_zero, List.set_cons_succ]
  refine pureL (.int .i64 1) rfl (fun _ => by kernel_rfl) ?_
  simp only [Act.put, List.setIfInBounds_toArray, List.set_cons_zero, List.set_cons_succ]
  show Exit.then _ _ _ _ _
  go_upto_region 4 with fail
  refine wp_region_list ?_
  refine actL (w' := w5.alloc (.cells (row .u8 33 (fun _ => 0)).toArray 5)) (.slice (some ⟨w5.heap.size, 0, none⟩) 33 33) rfl (makeOp 22 _ _ _ _ _ rfl rfl rfl (made8 33 (by decide) w5)) ?_
  simp only [Act.put, List.setIfInBounds_toArray, List.set_cons_zero, List.set_cons_succ]
  have zB := K.size
  replace K := K.boxO .u8 33 (fun _ => 0) (.cells (row .u8 33 (fun _ => 0)).toArray 5) w5.heap.size rfl (Has.new w5 .u8 33 (fun _ => 0) 5 w5.heap.size rfl)
  generalize w5.alloc (.cells (row .u8 33 (fun _ => 0)).toArray 5) = w6 at K ⊢
  generalize w5.heap.size = Y at *
  refine callL rfl (fun _ => by kernel_rfl) (hS (some ⟨Y, 0, none⟩) 33 33 (by decide) (by decide) (fun e => by cases e) (fun _ => 0) (znone_in 33) 32 (by decide) none 0 0 (by decide) (by decide) (fun _ => rfl) znone (znone_in 0) _ (hg.below K.below hg.size) (K.get _ _ _ _ List.mem_cons_self).src0 (znone_src _ _)) ?_
  rintro e w7 ⟨s2, c2, rfl, _, l⟩
  replace K := K.call l
  clear l
  refine ⟨_, rfl, ?_⟩
  simp only [Act.put, List.setIfInBounds_toArray, List.set_cons_zero, List.set_cons_succ]
  refine pureL (.tuple #[.slice s2 0 c2, .int .i64 1]) rfl (fun _ => by kernel_rfl) ?_
  simp only [Act.put, List.setIfInBounds_toArray, List.set_cons_zero, List.set_cons_succ]
  refine pureL (.slice s2 0 c2) rfl (fun _ => by kernel_rfl) ?_
  simp only [Act.put, List.setIfInBounds_toArray, List.set_cons_zero, List.set_cons_succ]
  refine pureL (.int .i64 1) rfl (fun _ => by kernel_rfl) ?_
  simp only [Act.put, List.setIfInBounds_toArray, List.set_cons_zero, List.set_cons_succ]
  refine pureL (.slice s2 0 c2) rfl (fun _ => by kernel_rfl) ?_
  simp only [Act.put, List.setIfInBounds_toArray, List.set_cons_zero, List.set_cons_succ]
  refine pureL (.int .i64 1) rfl (fun _ => by kernel_rfl) ?_
  simp only [Act.put, List.setIfInBounds_toArray, List.set_cons_zero, List.set_cons_succ]
  show Exit.then _ _ _ _ _
  go_upto_region 5 with fail
  refine wp_region_list ?_
  refine pureL (.pointer (some ⟨T, 0, none⟩)) rfl (fun w' => idxKey T 0 (by decide) w' _ _ rfl rfl rfl) ?_
  simp only [Act.put, List.setIfInBounds_toArray, List.set_cons_zero, List.set_cons_succ]
  refine cellL .u8 (.int .u8 (bhash 3 zabc 0)) T 0 5 _ rfl rfl rfl Tryd.underlying5 ((K.get _ _ _ _ (List.mem_cons_of_mem _ (List.mem_cons_of_mem _ List.mem_cons_self))).cell 0 (by decide)) ?_
  simp only [Act.put, List.setIfInBounds_toArray, List.set_cons_zero, List.set_cons_succ]
  refine pureL (.bool true) rfl (fun w => eqlI .u8 _ _ _ _ _ _ rfl rfl rfl _ (by rw [hash_abc.1]; rfl) w) ?_
  simp only [Act.put, List.setIfInBounds_toArray, List.set_cons_zero, List.set_cons_succ]
  refine pureL (.bool true) rfl (fun _ => by kernel_rfl) ?_
  simp only [Act.put, List.setIfInBounds_toArray, List.set_cons_zero, List.set_cons_succ]
  refine pureL (.pointer (some ⟨T, 1, none⟩)) rfl (fun w' => idxKey T 1 (by decide) w' _ _ rfl rfl rfl) ?_
  simp only [Act.put, List.setIfInBounds_toArray, List.set_cons_zero, List.set_cons_succ]
  refine cellL .u8 (.int .u8 (bhash 3 zabc 1)) T 1 5 _ rfl rfl rfl Tryd.underlying5 ((K.get _ _ _ _ (List.mem_cons_of_mem _ (List.mem_cons_of_mem _ List.mem_cons_self))).cell 1 (by decide)) ?_
  simp only [Act.put, List.setIfInBounds_toArray, List.set_cons_zero, List.set_cons_succ]
  refine pureL (.bool true) rfl (fun w => eqlI .u8 _ _ _ _ _ _ rfl rfl rfl _ (by rw [hash_abc.2.1]; rfl) w) ?_
  simp only [Act.put, List.setIfInBounds_toArray, List.set_cons_zero, List.set_cons_succ]
  refine pureL (.bool true) rfl (fun _ => by kernel_rfl) ?_
  simp only [Act.put, List.setIfInBounds_toArray, List.set_cons_zero, List.set_cons_succ]
  refine pureL (.bool true) rfl (fun _ => by kernel_rfl) ?_
  simp only [Act.put, List.setIfInBounds_toArray, List.set_cons_zero, List.set_cons_succ]
  refine pureL (.pointer (some ⟨T, 30, none⟩)) rfl (fun w' => idxKey T 30 (by decide) w' _ _ rfl rfl rfl) ?_
  simp only [Act.put, List.setIfInBounds_toArray, List.set_cons_zero, List.set_cons_succ]
  refine cellL .u8 (.int .u8 (bhash 3 zabc 30)) T 30 5 _ rfl rfl rfl Tryd.underlying5 ((K.get _ _ _ _ (List.mem_cons_of_mem _ (List.mem_cons_of_mem _ List.mem_cons_self))).cell 30 (by decide)) ?_
  simp only [Act.put, List.setIfInBounds_toArray, List.set_cons_zero, List.set_cons_succ]
  refine pureL (.bool true) rfl (fun w => eqlI .u8 _ _ _ _ _ _ rfl rfl rfl _ (by rw [hash_abc.2.2.1]; rfl) w) ?_
  simp only [Act.put, List.setIfInBounds_toArray, List.set_cons_zero, List.set_cons_succ]
  refine pureL (.bool true) rfl (fun _ => by kernel_rfl) ?_
  simp only [Act.put, List.setIfInBounds_toArray, List.set_cons_zero, List.set_cons_succ]
  refine pureL (.bool true) rfl (fun _ => by kernel_rfl) ?_
  simp only [Act.put, List.setIfInBounds_toArray, List.set_cons_zero, List.set_cons_succ]
  refine pureL (.pointer (some ⟨T, 31, none⟩)) rfl (fun w' => idxKey T 31 (by decide) w' _ _ rfl rfl rfl) ?_
  simp only [Act.put, List.setIfInBounds_toArray, List.set_cons_zero, List.set_cons_succ]
  refine cellL .u8 (.int .u8 (bhash 3 zabc 31)) T 31 5 _ rfl rfl rfl Tryd.underlying5 ((K.get _ _ _ _ (List.mem_cons_of_mem _ (List.mem_cons_of_mem _ List.mem_cons_self))).cell 31 (by decide)) ?_
  simp only [Act.put, List.setIfInBounds_toArray, List.set_cons_zero, List.set_cons_succ]
  refine pureL (.bool true) rfl (fun w => eqlI .u8 _ _ _ _ _ _ rfl rfl rfl _ (by rw [hash_abc.2.2.2]; rfl) w) ?_
  simp only [Act.put, List.setIfInBounds_toArray, List.set_cons_zero, List.set_cons_succ]
  refine pureL (.bool true) rfl (fun _ => by kernel_rfl) ?_
  simp only [Act.put, List.setIfInBounds_toArray, List.set_cons_zero, List.set_cons_succ]
  refine pureL (.bool true) rfl (fun _ => by kernel_rfl) ?_
  simp only [Act.put, List.setIfInBounds_toArray, List.set_cons_zero, List.set_cons_succ]
  refine pureL (.pointer (some ⟨X, 0, none⟩)) rfl (fun w' => idxKey X 0 (by decide) w' _ _ rfl rfl rfl) ?_
  simp only [Act.put, List.setIfInBounds_toArray, List.set_cons_zero, List.set_cons_succ]
  refine cellL .u8 (.int .u8 (bhash 0 znone 0)) X 0 5 _ rfl rfl rfl Tryd.underlying5 ((K.get _ _ _ _ (List.mem_cons_of_mem _ List.mem_cons_self)).cell 0 (by decide)) ?_
  simp only [Act.put, List.setIfInBounds_toArray, List.set_cons_zero, List.set_cons_succ]
  refine pureL (.bool true) rfl (fun w => eqlI .u8 _ _ _ _ _ _ rfl rfl rfl _ (by rw [(hash_none znone).1]; rfl) w) ?_
  simp only [Act.put, List.setIfInBounds_toArray, List.set_cons_zero, List.set_cons_succ]
  refine pureL (.bool true) rfl (fun _ => by kernel_rfl) ?_
  simp only [Act.put, List.setIfInBounds_toArray, List.set_cons_zero, List.set_cons_succ]
  refine pureL (.bool true) rfl (fun _ => by kernel_rfl) ?_
  simp only [Act.put, List.setIfInBounds_toArray, List.set_cons_zero, List.set_cons_succ]
  refine pureL (.pointer (some ⟨X, 1, none⟩)) rfl (fun w' => idxKey X 1 (by decide) w' _ _ rfl rfl rfl) ?_
  simp only [Act.put, List.setIfInBounds_toArray, List.set_cons_zero, List.set_cons_succ]
  refine cellL .u8 (.int .u8 (bhash 0 znone 1)) X 1 5 _ rfl rfl rfl Tryd.underlying5 ((K.get _ _ _ _ (List.mem_cons_of_mem _ List.mem_cons_self)).cell 1 (by decide)) ?_
  simp only [Act.put, List.setIfInBounds_toArray, List.set_cons_zero, List.set_cons_succ]
  refine pureL (.bool true) rfl (fun w => eqlI .u8 _ _ _ _ _ _ rfl rfl rfl _ (by rw [(hash_none znone).2.1]; rfl) w) ?_
  simp only [Act.put, List.setIfInBounds_toArray, List.set_cons_zero, List.set_cons_succ]
  refine pureL (.bool true) rfl (fun _ => by kernel_rfl) ?_
  simp only [Act.put, List.setIfInBounds_toArray, List.set_cons_zero, List.set_cons_succ]
  refine pureL (.bool true) rfl (fun _ => by kernel_rfl) ?_
  simp only [Act.put, List.setIfInBounds_toArray, List.set_cons_zero, List.set_cons_succ]
  refine pureL (.pointer (some ⟨X, 31, none⟩)) rfl (fun w' => idxKey X 31 (by decide) w' _ _ rfl rfl rfl) ?_
  simp only [Act.put, List.setIfInBounds_toArray, List.set_cons_zero, List.set_cons_succ]
  refine cellL .u8 (.int .u8 (bhash 0 znone 31)) X 31 5 _ rfl rfl rfl Tryd.underlying5 ((K.get _ _ _ _ (List.mem_cons_of_mem _ List.mem_cons_self)).cell 31 (by decide)) ?_
  simp only [Act.put, List.setIfInBounds_toArray, List.set_cons_zero, List.set_cons_succ]
  refine pureL (.bool true) rfl (fun w => eqlI .u8 _ _ _ _ _ _ rfl rfl rfl _ (by rw [(hash_none znone).2.2]; rfl) w) ?_
  simp only [Act.put, List.setIfInBounds_toArray, List.set_cons_zero, List.set_cons_succ]
  refine pureL (.bool true) rfl (fun _ => by kernel_rfl) ?_
  simp only [Act.put, List.setIfInBounds_toArray, List.set_cons_zero, List.set_cons_succ]
  refine pureL (.bool true) rfl (fun _ => by kernel_rfl) ?_
  simp only [Act.put, List.setIfInBounds_toArray, List.set_cons_zero, List.set_cons_succ]
  refine pureL (.int .i64 1) rfl (fun _ => by kernel_rfl) ?_
  simp only [Act.put, List.setIfInBounds_toArray, List.set_cons_zero, List.set_cons_succ]
  refine pureL (.bool true) rfl (fun w => eqlI .i64 1 1 _ _ _ _ rfl rfl rfl true (by decide) w) ?_
  simp only [Act.put, List.setIfInBounds_toArray, List.set_cons_zero, List.set_cons_succ]
  refine pureL (.bool true) rfl (fun _ => by kernel_rfl) ?_
  simp only [Act.put, List.setIfInBounds_toArray, List.set_cons_zero, List.set_cons_succ]
  refine pureL (.bool true) rfl (fun _ => by kernel_rfl) ?_
  simp only [Act.put, List.setIfInBounds_toArray, List.set_cons_zero, List.set_cons_succ]
  refine pureL (.int .i64 1) rfl (fun _ => by kernel_rfl) ?_
  simp only [Act.put, List.setIfInBounds_toArray, List.set_cons_zero, List.set_cons_succ]
  refine pureL (.bool true) rfl (fun w => eqlI .i64 1 1 _ _ _ _ rfl rfl rfl true (by decide) w) ?_
  simp only [Act.put, List.setIfInBounds_toArray, List.set_cons_zero, List.set_cons_succ]
  refine pureL (.bool true) rfl (fun _ => by kernel_rfl) ?_
  simp only [Act.put, List.setIfInBounds_toArray, List.set_cons_zero, List.set_cons_succ]
  refine pureL (.bool true) rfl (fun _ => by kernel_rfl) ?_
  simp only [Act.put, List.setIfInBounds_toArray, List.set_cons_zero]
  show Exit.then _ _ _ _ _
  have hB := K.below
  clear K
  go_wp2
  go_ret
  exact ⟨rfl, hB⟩
end Go.Proofs.YtmchfdfmcobenaaDoor
