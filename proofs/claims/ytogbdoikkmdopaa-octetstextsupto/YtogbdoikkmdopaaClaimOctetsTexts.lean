/- PROVED: sheavelaw09.OctetsTexts answers true for every input that holds at most 1048576 values (any bytes, any text, any number), and leaves it as it was. Its conditions: none but that. -/
import Derived.Test.YtogbdoikkmdopaaLawOctetsTexts
import Derived.Test.YtogbdoikkmdopaaG3
namespace Go.Proofs.Ytogbdoikkmdopaa
open Go.ChangeShapes Go.WideShapes Go.ChangeAt Go.WideMaps Go.WideElems Go.RowKit

set_option maxRecDepth 100000 in
theorem octetsTexts_lifted (os : Os) (started : os.Started) (H : Type) (enc : TypeId × Value → H) (F : Stop.Interp) :
    ReturnsInHanded {} Try.checked os 6 .any ((Rows.OpenSpec.upto Rows.octetsTextsSpec).pre6 enc Try.prog Try.f6 Rows.octetsTextsUptoRow.domain false) (((Rows.OpenSpec.upto Rows.octetsTextsSpec).at F).post enc Try.prog Try.f6 false true false false) := by
  refine returnsInHanded_of_cond (C := Try.checked) (s := Rows.OpenSpec.upto Rows.octetsTextsSpec) (k := Rows.uptoSmall) rfl own started (by kernel_rfl) Try.func6
    (OpenSpec.witness (enc := enc) (C := Try.checked) (s := Rows.OpenSpec.upto Rows.octetsTextsSpec) (k := Rows.uptoSmall) rfl false ⟨#[], #[.slice none 0 0, .slice none 0 0, .int .i64 0], []⟩ 8 (by kernel_rfl) (by kernel_rfl) (by kernel_rfl)
      (x := ([.nil, .nil, .lit (.int .i64 0)], [], [])) (by kernel_rfl) rfl (by kernel_rfl)) ?_
  intro W base args ds gs before hval0 hW _ hk0 _
  have hval : ∀ (j : Nat) t v, Try.f6.params[j]? = some t → args[j]? = some v → Value.okWide Try.prog W .any base t v := hval0
  have hbk := bulk_bound hk0
  have hW' := hW
  obtain ⟨p, q, hA0, hV, rfl, hfz, hnd⟩ := hW
  have hA : DataW.TrodAll enc Try.prog W 0 (fun _ => true) true Try.f6.params.toList args.toList ds p := hA0
  rw [Try.params6] at hA hval
  obtain ⟨v0, v1, v2, d0, d1, d2, p0, p1, p2, rfl, rfl, rfl, h0, h1, h2⟩ := trodAll_three hA
  obtain ⟨rfl, rfl⟩ := trodVars_none hV
  obtain ⟨spb, lenb, capb, zb, rfl, inb, srcb, leb, nilb, datb, shb⟩ := open_bytes Try.underlying22 Try.underlying5 cellsByte (hval 0 22 v0 rfl rfl) h0
  obtain ⟨spy, leny, capy, zy, rfl, iny, srcy, ley, nily, daty, shy⟩ := open_bytes Try.underlying22 Try.underlying5 cellsByte (hval 1 22 v1 rfl rfl) h1
  obtain ⟨n, rfl, rfl, rfl, wn⟩ := open_int Try.underlying3 (hval 2 3 v2 rfl rfl) h2
  have rchb : lenb ≤ 1048576 := Nat.le_trans (bulk_slice datb) (Nat.le_trans (bulk_mem (List.mem_append_left _ List.mem_cons_self)) hbk)
  have rchy : leny ≤ 1048576 := Nat.le_trans (bulk_slice daty) (Nat.le_trans (bulk_mem (List.mem_append_left _ (List.mem_cons_of_mem _ List.mem_cons_self))) hbk)
  clear hA0 hval0
  simp only [List.append_nil] at hW'
  refine (law_OctetsTexts vputvar_any vtakevar_any vputfixed_any vtakefixed_any vputbytes_any vtakebytes_any spb lenb capb (by omega) leb nilb zb inb spy leny capy (by omega) ley nily zy iny n (by have := wf_i64.1 wn; omega) (by omega) W srcb srcy).mono fun e W' ⟨he, hlow⟩ => ?_
  subst he
  exact ⟨_, rfl, _, _, _, [], p0 ++ p1, [], hW', trodAll_mk1 (shut_bool Try.underlying4 _), (by have h := trodAll_mk3 (shb W' hlow) (shy W' hlow) (shut_int Try.underlying3 wn); simp only [List.append_nil] at h; exact h), rfl, hlow.frame _, fun h => by cases h⟩

theorem octetsTextsUpto_holds : Rows.OctetsTextsUptoSaid :=
  OpenClaim.holds_of_cond 6 Try.f6 rfl rfl rfl rfl rfl rfl rfl ⟨rfl, rfl, rfl, rfl, rfl⟩ rfl rfl rfl rfl rfl (by kernel_rfl) Try.func6 (by kernel_rfl)
    (of_decide_eq_true (by kernel_rfl)) (by unfold Func.isWrapper; first | (rw [if_pos (by decide +kernel)]; kernel_rfl) | (rw [if_neg (by decide +kernel)]; exact ⟨rfl, rfl⟩))
    (fun os started H enc _ F => octetsTexts_lifted os started H enc F)
#print axioms octetsTextsUpto_holds
end Go.Proofs.Ytogbdoikkmdopaa
