/- PROVED: sheavelaw10.FramesJoin answers true for every input that holds at most 1048576 values (any frames, any more frames), and leaves it as it was. Its conditions: none but that. -/
import Derived.Test.YteaamgjlkohfcaaP2FramesJoin
import Derived.Test.YteaamgjlkohfcaaP4FramesJoin
namespace Go.Proofs.Yteaamgjlkohfcaa
open Go.ChangeShapes Go.WideShapes Go.ChangeAt Go.WideMaps Go.WideElems Go.RowKit

set_option maxRecDepth 100000 in
theorem framesJoin_lifted (os : Os) (started : os.Started) (H : Type) (enc : TypeId × Value → H) (F : Stop.Interp) :
    ReturnsInHanded {} Try.checked os 7 .any ((Rows.OpenSpec.upto Rows.framesJoinSpec).pre6 enc Try.prog Try.f7 Rows.framesJoinUptoRow.domain false) (((Rows.OpenSpec.upto Rows.framesJoinSpec).at F).post enc Try.prog Try.f7 false true false false) := by
  refine returnsInHanded_of_cond (C := Try.checked) (s := Rows.OpenSpec.upto Rows.framesJoinSpec) (k := Rows.uptoSmall) rfl own started (by kernel_rfl) Try.func7
    (OpenSpec.witness (enc := enc) (C := Try.checked) (s := Rows.OpenSpec.upto Rows.framesJoinSpec) (k := Rows.uptoSmall) rfl false ⟨#[], #[.slice none 0 0, .slice none 0 0], []⟩ 8 (by kernel_rfl) (by kernel_rfl) (by kernel_rfl)
      (x := ([.nil, .nil], [], [])) (by kernel_rfl) rfl (by kernel_rfl)) ?_
  intro W base args ds gs before hval0 hW _ hk0 _
  have hval : ∀ (j : Nat) t v, Try.f7.params[j]? = some t → args[j]? = some v → Value.okWide Try.prog W .any base t v := hval0
  have hbk := bulk_bound hk0
  have hW' := hW
  obtain ⟨p, q, hA0, hV, rfl, hfz, hnd⟩ := hW
  have hA : DataW.TrodAll enc Try.prog W 0 (fun _ => true) true Try.f7.params.toList args.toList ds p := hA0
  rw [Try.params7] at hA hval
  obtain ⟨v0, v1, d0, d1, p0, p1, rfl, rfl, rfl, h0, h1⟩ := trodAll_two hA
  obtain ⟨rfl, rfl⟩ := trodVars_none hV
  have shx := again (by kernel_rfl) (of_decide_eq_true (by kernel_rfl)) h0
  obtain ⟨spx, capx, x, rfl, frx, lex, nilx, maxx, datx⟩ := arg_frames (fitBok H) (hval 0 32 v0 rfl rfl) h0 (Nat.le_trans (bulk_mem (List.mem_append_left _ List.mem_cons_self)) hbk)
  have shy := again (by kernel_rfl) (of_decide_eq_true (by kernel_rfl)) h1
  obtain ⟨spy, capy, y, rfl, fry, ley, nily, maxy, daty⟩ := arg_frames (fitBok H) (hval 1 32 v1 rfl rfl) h1 (Nat.le_trans (bulk_mem (List.mem_append_left _ (List.mem_cons_of_mem _ List.mem_cons_self))) hbk)
  have rchx := bulk_slice datx
  have rchy := bulk_slice daty
  have hsum : x.length + y.length ≤ 1048576 := by
    have h := hbk
    simp only [List.cons_append, List.nil_append, Rows.uptoBulkAll] at h
    omega
  clear hA0 hval0
  simp only [List.append_nil] at hW'
  refine (law_FramesJoin vcheck_any vsize_any vencode_any vdecode_any spx capx x maxx lex nilx spy capy y maxy ley nily hsum W frx fry).mono fun e W' ⟨he, hlow⟩ => ?_
  subst he
  exact ⟨_, rfl, _, _, _, [], p0 ++ p1, [], hW', trodAll_mk1 (shut_bool Try.underlying4 _), trodAll_mk2 (shx W' hlow) (shy W' hlow), rfl, hlow.frame _, fun h => by cases h⟩

theorem framesJoinUpto_holds : Rows.FramesJoinUptoSaid :=
  OpenClaim.holds_of_cond 7 Try.f7 rfl rfl rfl rfl rfl rfl rfl ⟨rfl, rfl, rfl, rfl, rfl⟩ rfl rfl rfl rfl rfl (by kernel_rfl) Try.func7 (by kernel_rfl)
    (of_decide_eq_true (by kernel_rfl)) (by unfold Func.isWrapper; first | (rw [if_pos (by decide +kernel)]; kernel_rfl) | (rw [if_neg (by decide +kernel)]; exact ⟨rfl, rfl⟩))
    (fun os started H enc _ F => framesJoin_lifted os started H enc F)
#print axioms framesJoinUpto_holds
end Go.Proofs.Yteaamgjlkohfcaa
