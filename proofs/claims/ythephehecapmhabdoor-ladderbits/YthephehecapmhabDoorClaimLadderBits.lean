/- PROVED: sheavelaw02.LadderBits answers true for every two keys of 32 bytes, and leaves them as they were. Its conditions: the package variables curve.prime, curve.power and ladder.trims hold what the program's text lays there (the card ties them to it). -/
import Derived.Test.YthephehecapmhabDoorLawLadderBits
import Derived.Test.YthephehecapmhabDoorOpen2
import Derived.Test.YthephehecapmhabDoorTie
import Derived.Test.YthephehecapmhabDoorCards
namespace Go.Proofs.YthephehecapmhabDoor
open Go.ChangeShapes Go.WideShapes Go.ChangeAt Go.WideMaps Go.WideElems Go.RowKit

set_option maxRecDepth 100000 in
theorem ladderBits_lifted (os : Os) (started : os.Started) (H : Type) (enc : TypeId × Value → H) :
    ReturnsInHanded {} Tryd.checked os 3 .any (fun w args => (Rows.ladderBitsSpec.pre enc Tryd.prog Tryd.f3 [] false w args ∧ laidMetH Tryd.prog laidThree w) ∧ sizedMet enc Tryd.prog Tryd.f3 (OpenSpec.ofChange Rows.ladderBitsSpec) false w args)
      (Rows.ladderBitsSpec.post enc Tryd.prog Tryd.f3 false true false false) := by
  refine returnsInHanded_of_change_and (C := Tryd.checked) (X := fun w _ => laidMetH Tryd.prog laidThree w) (fun _ _ _ hh h => h.of_heap hh) own started (by kernel_rfl) Tryd.func3
    (ChangeSpec.witness_shaped (enc := enc) (C := Tryd.checked) (os := os) (X := fun w _ => laidMetH Tryd.prog laidThree w) false (World.doorLaid Tryd.prog 28 os) #[keyNought, keyNought] 8 rfl (World.shaped_of_RefB (by kernel_rfl) (by kernel_rfl)) (by kernel_rfl) (by kernel_rfl) (by kernel_rfl) (door_met os _)) ?_
  intro W base args ds gs before hval0 hW _ _ hL _
  have hval : ∀ (j : Nat) t v, Tryd.f3.params[j]? = some t → args[j]? = some v → Value.okWide Tryd.prog W .any base t v := hval0
  have hW' := hW
  obtain ⟨p, q, hA0, hV, rfl, hfz, hnd⟩ := hW
  have hA : DataW.TrodAll enc Tryd.prog W 0 (fun _ => true) true Tryd.f3.params.toList args.toList ds p := hA0
  rw [Tryd.params3] at hA hval
  obtain ⟨v0, v1, d0, d1, p0, p1, rfl, rfl, rfl, h0, h1⟩ := trodAll_two hA
  obtain ⟨rfl, rfl⟩ := trodVars_none hV
  obtain ⟨k, hk, rfl, rfl, rfl⟩ := open_key (hval 0 23 v0 rfl rfl) h0
  obtain ⟨u, hu, rfl, rfl, rfl⟩ := open_key (hval 1 23 v1 rfl rfl) h1
  obtain ⟨hG, hT⟩ := glob_of_laid hL
  clear hA0 hval0
  simp only [List.append_nil] at hW'
  refine (law_LadderBits k u hk hu W hG hT).mono fun e W' ⟨he, hlow⟩ => ?_
  subst he
  exact ⟨_, rfl, _, _, _, [], [], [], hW', trodAll_mk1 (shut_bool Tryd.underlying4 _), (fun sp => trodAll_mk2 (shut_key enc W' 0 sp true k hk) (shut_key enc W' 0 sp true u hu)) _, rfl, hlow.frame _, fun h => by cases h⟩

theorem ladderBits_holds : Rows.LadderBitsSaid :=
  OpenClaim.holds_of_wide 3 Tryd.f3 rfl rfl rfl rfl rfl rfl rfl ⟨rfl, rfl, rfl, rfl, rfl⟩ rfl rfl rfl rfl rfl (by kernel_rfl) Tryd.func3 (by kernel_rfl)
    (of_decide_eq_true (by kernel_rfl)) (by unfold Func.isWrapper; first | (rw [if_pos (by decide +kernel)]; kernel_rfl) | (rw [if_neg (by decide +kernel)]; exact ⟨rfl, rfl⟩))
    (fun os started H enc _ => ladderBits_lifted os started H enc)

theorem ladderBits_card : Rows.LadderBitsCardSaid :=
  Claim7.holds_tied_plain_at .later [] [.data, .data, .data] true (true, "c00d0202121a8ab3ca8006e2475c9e7b5877809051bcc693b07bd90934c3f9d0") false
    ladderBits_holds (fun _ h => by cases h) (by kernel_rfl) (fun _ h => by cases h) ladderBits_row_tie rfl ⟨rfl, rfl⟩ (by kernel_rfl) rfl
    (fun f fn hf hfn => by
      obtain rfl : f = 3 := Option.some.inj ((show Tryd.prog.funcNamed "sheave/sheavelaw02.LadderBits" = some 3 by kernel_rfl).symm.trans hf) |>.symm
      obtain rfl : fn = Tryd.f3 := (Option.some.inj (Tryd.func3.symm.trans hfn)).symm
      exact ⟨by kernel_rfl, fun j t ht => by
        rw [Tryd.params3] at ht
        have hm : t ∈ [23, 23] := by simpa using Array.mem_of_getElem? ht
        have hall : ([23, 23].all fun u => !Tryd.prog.wantsStandIn u) = true := by kernel_rfl
        exact (show Tryd.prog.wantsStandIn t = false by simpa using List.all_eq_true.1 hall t hm)⟩)
    (by kernel_rfl)
#print axioms ladderBits_card
end Go.Proofs.YthephehecapmhabDoor
