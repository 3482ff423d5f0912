/- PROVED: sheavelaw08.KdfEpochs answers true for every input (any secret), and leaves it as it was. Its conditions: the package variables that blake reads hold what the program's text lays there (the card ties them to it). -/
import Derived.Test.YtcdbkbcfjdpdoaaDoorLawKdfEpochs
import Derived.Test.YtcdbkbcfjdpdoaaDoorG4
import Derived.Test.YtcdbkbcfjdpdoaaDoorTie
import Derived.Test.YtcdbkbcfjdpdoaaDoorCards
namespace Go.Proofs.YtcdbkbcfjdpdoaaDoor
open Go.ChangeShapes Go.WideShapes Go.ChangeAt Go.WideMaps Go.WideElems Go.RowKit

set_option maxRecDepth 100000 in
theorem kdfEpochs_lifted (os : Os) (started : os.Started) (H : Type) (enc : TypeId × Value → H) :
    ReturnsInHanded {} Tryd.checked os 7 .any (fun w args => (Rows.kdfEpochsSpec.pre enc Tryd.prog Tryd.f7 [] false w args ∧ laidMetH Tryd.prog laidB w) ∧ sizedMet enc Tryd.prog Tryd.f7 (OpenSpec.ofChange Rows.kdfEpochsSpec) false w args)
      (Rows.kdfEpochsSpec.post enc Tryd.prog Tryd.f7 false true false false) := by
  refine returnsInHanded_of_change_and (C := Tryd.checked) (X := fun w _ => laidMetH Tryd.prog laidB w) (fun _ _ _ hh h => h.of_heap hh) own started (by kernel_rfl) Tryd.func7
    (ChangeSpec.witness_shaped (enc := enc) (C := Tryd.checked) (os := os) (X := fun w _ => laidMetH Tryd.prog laidB w) false (World.doorLaid Tryd.prog 37 os) #[keyNought] 8 rfl (World.shaped_of_RefB (by kernel_rfl) (by kernel_rfl)) (by kernel_rfl) (by kernel_rfl) (by kernel_rfl) (door_metB os _)) ?_
  intro W base args ds gs before hval0 hW _ _ hL _
  have hval : ∀ (j : Nat) t v, Tryd.f7.params[j]? = some t → args[j]? = some v → Value.okWide Tryd.prog W .any base t v := hval0
  have hW' := hW
  obtain ⟨p, q, hA0, hV, rfl, hfz, hnd⟩ := hW
  have hA : DataW.TrodAll enc Tryd.prog W 0 (fun _ => true) true Tryd.f7.params.toList args.toList ds p := hA0
  rw [Tryd.params7] at hA hval
  obtain ⟨v0, d0, rfl, rfl, h0⟩ := trodAll_one hA
  obtain ⟨rfl, rfl⟩ := trodVars_none hV
  obtain ⟨k, wk, rfl, rfl, rfl⟩ := open_array Tryd.underlying25 Tryd.underlying5 cellsKey cellsByte (hval 0 25 v0 rfl rfl) h0
  have hG := glob_of_laidB hL
  clear hA0 hval0
  simp only [List.append_nil] at hW'
  refine (law_KdfEpochs k (fun j hj => wf_u8.1 (wk j hj)) W hG).mono fun e W' ⟨he, hlow⟩ => ?_
  subst he
  exact ⟨_, rfl, _, _, _, [], [], [], hW', trodAll_mk1 (shut_bool Tryd.underlying4 _), (fun sp => trodAll_mk1 (shut_array Tryd.underlying25 Tryd.underlying5 cellsKey cellsByte k wk)) _, rfl, hlow.frame _, fun h => by cases h⟩

theorem kdfEpochs_holds : Rows.KdfEpochsSaid :=
  OpenClaim.holds_of_wide 7 Tryd.f7 rfl rfl rfl rfl rfl rfl rfl ⟨rfl, rfl, rfl, rfl, rfl⟩ rfl rfl rfl rfl rfl (by kernel_rfl) Tryd.func7 (by kernel_rfl)
    (of_decide_eq_true (by kernel_rfl)) (by unfold Func.isWrapper; first | (rw [if_pos (by decide +kernel)]; kernel_rfl) | (rw [if_neg (by decide +kernel)]; exact ⟨rfl, rfl⟩))
    (fun os started H enc _ => kdfEpochs_lifted os started H enc)

theorem kdfEpochs_card : Rows.KdfEpochsCardSaid :=
  Claim7.holds_tied_plain_at .later [] [.data, .data, .data] true (true, "839c596068fbcb2eb783ed7a5e6d642ce09818128d5943a1960957cb2e7dbcad") false
    kdfEpochs_holds (fun _ h => by cases h) (by kernel_rfl) (fun _ h => by cases h) kdfEpochs_row_tie rfl ⟨rfl, rfl⟩ (by kernel_rfl) rfl
    (fun f fn hf hfn => by
      obtain rfl : f = 7 := Option.some.inj ((show Tryd.prog.funcNamed "sheave/sheavelaw08.KdfEpochs" = some 7 by kernel_rfl).symm.trans hf) |>.symm
      obtain rfl : fn = Tryd.f7 := (Option.some.inj (Tryd.func7.symm.trans hfn)).symm
      exact ⟨by kernel_rfl, fun j t ht => by
        rw [Tryd.params7] at ht
        have hm : t ∈ [25] := by simpa using Array.mem_of_getElem? ht
        have hall : ([25].all fun u => !Tryd.prog.wantsStandIn u) = true := by kernel_rfl
        exact (show Tryd.prog.wantsStandIn t = false by simpa using List.all_eq_true.1 hall t hm)⟩)
    (by kernel_rfl)
#print axioms kdfEpochs_card
end Go.Proofs.YtcdbkbcfjdpdoaaDoor
