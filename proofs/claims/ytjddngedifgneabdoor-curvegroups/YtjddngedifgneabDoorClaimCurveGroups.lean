/- PROVED: sheavelaw01.CurveGroups answers true for every three keys of 32 bytes, and leaves them as they were. Its conditions: the package variables curve.prime and curve.power hold what the program's text lays there (the card ties them to it). -/
import Derived.Test.YtjddngedifgneabDoorLawCurveGroups
import Derived.Test.YtjddngedifgneabDoorOpen
import Derived.Test.YtjddngedifgneabDoorTie
import Derived.Test.YtjddngedifgneabDoorCards
namespace Go.Proofs.YtjddngedifgneabDoor
open Go.ChangeShapes Go.WideShapes Go.ChangeAt Go.WideMaps Go.WideElems Go.RowKit

set_option maxRecDepth 100000 in
theorem curveGroups_lifted (os : Os) (started : os.Started) (H : Type) (enc : TypeId × Value → H) :
    ReturnsInHanded {} Tryd.checked os 5 .any (fun w args => (Rows.curveGroupsSpec.pre enc Tryd.prog Tryd.f5 [] false w args ∧ laidMetH Tryd.prog laidTwo w) ∧ sizedMet enc Tryd.prog Tryd.f5 (OpenSpec.ofChange Rows.curveGroupsSpec) false w args)
      (Rows.curveGroupsSpec.post enc Tryd.prog Tryd.f5 false true false false) := by
  refine returnsInHanded_of_change_and (C := Tryd.checked) (X := fun w _ => laidMetH Tryd.prog laidTwo w) (fun _ _ _ hh h => h.of_heap hh) own started (by kernel_rfl) Tryd.func5
    (ChangeSpec.witness_shaped (enc := enc) (C := Tryd.checked) (os := os) (X := fun w _ => laidMetH Tryd.prog laidTwo w) false (World.doorLaid Tryd.prog 19 os) #[keyNought, keyNought, keyNought] 8 rfl (World.shaped_of_RefB (by kernel_rfl) (by kernel_rfl)) (by kernel_rfl) (by kernel_rfl) (by kernel_rfl) (door_met os _)) ?_
  intro W base args ds gs before hval0 hW _ _ hL _
  have hval : ∀ (j : Nat) t v, Tryd.f5.params[j]? = some t → args[j]? = some v → Value.okWide Tryd.prog W .any base t v := hval0
  have hW' := hW
  obtain ⟨p, q, hA0, hV, rfl, hfz, hnd⟩ := hW
  have hA : DataW.TrodAll enc Tryd.prog W 0 (fun _ => true) true Tryd.f5.params.toList args.toList ds p := hA0
  rw [Tryd.params5] at hA hval
  obtain ⟨v0, v1, v2, d0, d1, d2, p0, p1, p2, rfl, rfl, rfl, h0, h1, h2⟩ := trodAll_three hA
  obtain ⟨rfl, rfl⟩ := trodVars_none hV
  obtain ⟨a, ha, rfl, rfl, rfl⟩ := open_key (hval 0 23 v0 rfl rfl) h0
  obtain ⟨b, hb, rfl, rfl, rfl⟩ := open_key (hval 1 23 v1 rfl rfl) h1
  obtain ⟨c, hc, rfl, rfl, rfl⟩ := open_key (hval 2 23 v2 rfl rfl) h2
  have hG := glob_of_laid hL
  clear hA0 hval0
  simp only [List.append_nil] at hW'
  refine (law_CurveGroups a b c ha hb hc W hG).mono fun e W' ⟨he, hlow⟩ => ?_
  subst he
  exact ⟨_, rfl, _, _, _, [], [], [], hW', trodAll_mk1 (shut_bool Tryd.underlying4 _), (fun sp => trodAll_mk3 (shut_key enc W' 0 sp true a ha) (shut_key enc W' 0 sp true b hb) (shut_key enc W' 0 sp true c hc)) _, rfl, hlow.frame _, fun h => by cases h⟩

theorem curveGroups_holds : Rows.CurveGroupsSaid :=
  OpenClaim.holds_of_wide 5 Tryd.f5 rfl rfl rfl rfl rfl rfl rfl ⟨rfl, rfl, rfl, rfl, rfl⟩ rfl rfl rfl rfl rfl (by kernel_rfl) Tryd.func5 (by kernel_rfl)
    (of_decide_eq_true (by kernel_rfl)) (by unfold Func.isWrapper; first | (rw [if_pos (by decide +kernel)]; kernel_rfl) | (rw [if_neg (by decide +kernel)]; exact ⟨rfl, rfl⟩))
    (fun os started H enc _ => curveGroups_lifted os started H enc)

theorem curveGroups_card : Rows.CurveGroupsCardSaid :=
  Claim7.holds_tied_plain_at .later [] [.data, .data] true (true, "e320b8d4eec53c7b498c189e91e70ea0663b058026400a3b62e2bd64263d1748") false
    curveGroups_holds (fun _ h => by cases h) (by kernel_rfl) (fun _ h => by cases h) curveGroups_row_tie rfl ⟨rfl, rfl⟩ (by kernel_rfl) rfl
    (fun f fn hf hfn => by
      obtain rfl : f = 5 := Option.some.inj ((show Tryd.prog.funcNamed "sheave/sheavelaw01.CurveGroups" = some 5 by kernel_rfl).symm.trans hf) |>.symm
      obtain rfl : fn = Tryd.f5 := (Option.some.inj (Tryd.func5.symm.trans hfn)).symm
      exact ⟨by kernel_rfl, fun j t ht => by
        rw [Tryd.params5] at ht
        have hm : t ∈ [23, 23, 23] := by simpa using Array.mem_of_getElem? ht
        have hall : ([23, 23, 23].all fun u => !Tryd.prog.wantsStandIn u) = true := by kernel_rfl
        exact (show Tryd.prog.wantsStandIn t = false by simpa using List.all_eq_true.1 hall t hm)⟩)
    (by kernel_rfl)
#print axioms curveGroups_card
end Go.Proofs.YtjddngedifgneabDoor
