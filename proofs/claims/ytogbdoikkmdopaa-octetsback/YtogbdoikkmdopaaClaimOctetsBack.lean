/- PROVED: sheavelaw09.OctetsBack answers true for every input (any number; any bytes, however many, nil too, wherever they lie), and leaves it as it was. Its conditions: a slice that comes in takes no more memory than a process can have (the form's own reach). -/
import Derived.Test.YtogbdoikkmdopaaLawOctetsBack
import Derived.Test.YtogbdoikkmdopaaG3
namespace Go.Proofs.Ytogbdoikkmdopaa
open Go.ChangeShapes Go.WideShapes Go.ChangeAt Go.WideMaps Go.WideElems Go.RowKit

set_option maxRecDepth 100000 in
theorem octetsBack_lifted (os : Os) (started : os.Started) (H : Type) (enc : TypeId × Value → H) :
    ReturnsInHanded {} Try.checked os 7 .any (Rows.octetsBackSpec.pre6 enc Try.prog Try.f7 [] false) (Rows.octetsBackSpec.post enc Try.prog Try.f7 false true false false) := by
  refine returnsInHanded_of_change_sized (C := Try.checked) own started (by kernel_rfl) Try.func7
    (ChangeSpec.witness6 (enc := enc) (C := Try.checked) (s := Rows.octetsBackSpec) false ⟨#[], #[.int .i64 0, .slice none 0 0], []⟩ 8 (by kernel_rfl) (by kernel_rfl) (by kernel_rfl) (by kernel_rfl)) ?_
  intro W base args ds gs before hval0 hW _ hsz0 _
  have hval : ∀ (j : Nat) t v, Try.f7.params[j]? = some t → args[j]? = some v → Value.okWide Try.prog W .any base t v := hval0
  have hsz : (DataW.weightsEach Try.prog (Try.f7.params.toList ++ Rows.octetsBackSpec.plain.varTypes Try.prog) (ds ++ gs)).all (· ≤ reachBytes) = true := hsz0
  have hW' := hW
  obtain ⟨p, q, hA0, hV, rfl, hfz, hnd⟩ := hW
  have hA : DataW.TrodAll enc Try.prog W 0 (fun _ => true) true Try.f7.params.toList args.toList ds p := hA0
  rw [Try.params7] at hA hval hsz
  obtain ⟨v0, v1, d0, d1, p0, p1, rfl, rfl, rfl, h0, h1⟩ := trodAll_two hA
  obtain ⟨rfl, rfl⟩ := trodVars_none hV
  obtain ⟨n, rfl, rfl, rfl, wn⟩ := open_int Try.underlying3 (hval 0 3 v0 rfl rfl) h0
  obtain ⟨spb, lenb, capb, zb, rfl, inb, srcb, leb, nilb, datb, shb⟩ := open_bytes Try.underlying22 Try.underlying5 cellsByte (hval 1 22 v1 rfl rfl) h1
  have rchb := reach_len hsz (j := 1) rfl rfl Try.underlying22 (by kernel_rfl) datb
  clear hA0 hval0
  simp only [List.append_nil, List.nil_append] at hW'
  refine (law_OctetsBack vputvar_any vtakevar_any vputfixed_any vtakefixed_any vputbytes_any vtakebytes_any n (by have := wf_i64.1 wn; omega) spb lenb capb (by omega) leb nilb zb inb W srcb).mono fun e W' ⟨he, hlow⟩ => ?_
  subst he
  exact ⟨_, rfl, _, _, _, [], p1, [], hW', trodAll_mk1 (shut_bool Try.underlying4 _), (by have h := trodAll_mk2 (shut_int Try.underlying3 wn) (shb W' hlow); simp only [List.nil_append] at h; exact h), rfl, hlow.frame _, fun h => by cases h⟩

theorem octetsBack_holds : Rows.OctetsBackSaid :=
  OpenClaim.holds_of_wide 7 Try.f7 rfl rfl rfl rfl rfl rfl rfl ⟨rfl, rfl, rfl, rfl, rfl⟩ rfl rfl rfl rfl rfl (by kernel_rfl) Try.func7 (by kernel_rfl)
    (of_decide_eq_true (by kernel_rfl)) (by unfold Func.isWrapper; first | (rw [if_pos (by decide +kernel)]; kernel_rfl) | (rw [if_neg (by decide +kernel)]; exact ⟨rfl, rfl⟩))
    (fun os started H enc _ => octetsBack_lifted os started H enc)
#print axioms octetsBack_holds
end Go.Proofs.Ytogbdoikkmdopaa
