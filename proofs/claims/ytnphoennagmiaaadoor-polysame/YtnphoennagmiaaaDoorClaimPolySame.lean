/- PROVED: sheavelaw05.PolySame answers true for every input (any two tags), and leaves it as it was. Its conditions: the package variables clamp.kept and clamp.modulus hold what the program's text lays there (the card ties them to it). -/
import Derived.Test.YtnphoennagmiaaaDoorLawPolySame
import Derived.Test.YtnphoennagmiaaaDoorPs
import Derived.Test.YtnphoennagmiaaaDoorOpen5
import Derived.Test.YtnphoennagmiaaaDoorTie
import Derived.Test.YtnphoennagmiaaaDoorCards
namespace Go.Proofs.YtnphoennagmiaaaDoor
open Go.ChangeShapes Go.WideShapes Go.ChangeAt Go.WideMaps Go.WideElems Go.RowKit

set_option maxRecDepth 100000 in
theorem polySame_lifted (os : Os) (started : os.Started) (H : Type) (enc : TypeId × Value → H) :
    ReturnsInHanded {} Tryd.checked os 4 .any (fun w args => (Rows.polySameSpec.pre enc Tryd.prog Tryd.f4 [] false w args ∧ laidMetH Tryd.prog laidTwo w) ∧ sizedMet enc Tryd.prog Tryd.f4 (OpenSpec.ofChange Rows.polySameSpec) false w args)
      (Rows.polySameSpec.post enc Tryd.prog Tryd.f4 false true false false) := by
  refine returnsInHanded_of_change_and (C := Tryd.checked) (X := fun w _ => laidMetH Tryd.prog laidTwo w) (fun _ _ _ hh h => h.of_heap hh) own started (by kernel_rfl) Tryd.func4
    (ChangeSpec.witness_shaped (enc := enc) (C := Tryd.checked) (os := os) (X := fun w _ => laidMetH Tryd.prog laidTwo w) false (World.doorLaid Tryd.prog 19 os) #[tagNought, tagNought] 8 rfl (World.shaped_of_RefB (by kernel_rfl) (by kernel_rfl)) (by kernel_rfl) (by kernel_rfl) (by kernel_rfl) (door_met os _)) ?_
  intro W base args ds gs before hval0 hW _ _ hL _
  have hval : ∀ (j : Nat) t v, Tryd.f4.params[j]? = some t → args[j]? = some v → Value.okWide Tryd.prog W .any base t v := hval0
  have hW' := hW
  obtain ⟨p, q, hA0, hV, rfl, hfz, hnd⟩ := hW
  have hA : DataW.TrodAll enc Tryd.prog W 0 (fun _ => true) true Tryd.f4.params.toList args.toList ds p := hA0
  rw [Tryd.params4] at hA hval
  obtain ⟨v0, v1, d0, d1, p0, p1, rfl, rfl, rfl, h0, h1⟩ := trodAll_two hA
  obtain ⟨rfl, rfl⟩ := trodVars_none hV
  obtain ⟨x, wx, rfl, rfl, rfl⟩ := open_array Tryd.underlying27 Tryd.underlying5 cellsTag cellsByte (hval 0 27 v0 rfl rfl) h0
  obtain ⟨y, wy, rfl, rfl, rfl⟩ := open_array Tryd.underlying27 Tryd.underlying5 cellsTag cellsByte (hval 1 27 v1 rfl rfl) h1
  have hG := glob_of_laid hL
  clear hA0 hval0
  simp only [List.append_nil] at hW'
  refine (law_PolySame psum_any psame_any x y (fun j hj => wf_u8.1 (wx j hj)) (fun j hj => wf_u8.1 (wy j hj)) W hG).mono fun e W' ⟨he, hlow⟩ => ?_
  subst he
  exact ⟨_, rfl, _, _, _, [], [], [], hW', trodAll_mk1 (shut_bool Tryd.underlying4 _), (fun sp => trodAll_mk2 (shut_array Tryd.underlying27 Tryd.underlying5 cellsTag cellsByte x wx) (shut_array Tryd.underlying27 Tryd.underlying5 cellsTag cellsByte y wy)) _, rfl, hlow.frame _, fun h => by cases h⟩

theorem polySame_holds : Rows.PolySameSaid :=
  OpenClaim.holds_of_wide 4 Tryd.f4 rfl rfl rfl rfl rfl rfl rfl ⟨rfl, rfl, rfl, rfl, rfl⟩ rfl rfl rfl rfl rfl (by kernel_rfl) Tryd.func4 (by kernel_rfl)
    (of_decide_eq_true (by kernel_rfl)) (by unfold Func.isWrapper; first | (rw [if_pos (by decide +kernel)]; kernel_rfl) | (rw [if_neg (by decide +kernel)]; exact ⟨rfl, rfl⟩))
    (fun os started H enc _ => polySame_lifted os started H enc)

theorem polySame_card : Rows.PolySameCardSaid :=
  Claim7.holds_tied_plain_at .later [] [.data, .data] true (true, "6a5a1211dd3b75c95cb81789a538ef15338b903d3092f0338afe144c5d425528") false
    polySame_holds (fun _ h => by cases h) (by kernel_rfl) (fun _ h => by cases h) polySame_row_tie rfl ⟨rfl, rfl⟩ (by kernel_rfl) rfl
    (fun f fn hf hfn => by
      obtain rfl : f = 4 := Option.some.inj ((show Tryd.prog.funcNamed "sheave/sheavelaw05.PolySame" = some 4 by kernel_rfl).symm.trans hf) |>.symm
      obtain rfl : fn = Tryd.f4 := (Option.some.inj (Tryd.func4.symm.trans hfn)).symm
      exact ⟨by kernel_rfl, fun j t ht => by
        rw [Tryd.params4] at ht
        have hm : t ∈ [27, 27] := by simpa using Array.mem_of_getElem? ht
        have hall : ([27, 27].all fun u => !Tryd.prog.wantsStandIn u) = true := by kernel_rfl
        exact (show Tryd.prog.wantsStandIn t = false by simpa using List.all_eq_true.1 hall t hm)⟩)
    (by kernel_rfl)
#print axioms polySame_card
end Go.Proofs.YtnphoennagmiaaaDoor
