/- PROVED: sheavelaw12.SymmetricForged answers true for every input (any key, any text, any bits), and leaves it as it was. Its conditions: the package variables that blake, chacha and clamp read hold what the program's text lays there (the card ties them to it); a slice that comes in takes no more memory than a process can have (the form's own reach). -/
import Derived.Test.YtgfpflcoknpbdaaDoorP10SymmetricForged
import Derived.Test.YtgfpflcoknpbdaaDoorP14SymmetricForged
import Derived.Test.YtgfpflcoknpbdaaDoorTie
import Derived.Test.YtgfpflcoknpbdaaDoorCards
set_option maxRecDepth 100000
set_option maxHeartbeats 64000000
namespace Go.Proofs.YtgfpflcoknpbdaaDoor
open Go.RowKit
section
open Go.ChangeShapes Go.WideShapes Go.ChangeAt Go.WideMaps Go.WideElems Go.RowKit
theorem symmetricForged_lifted (os : Os) (started : os.Started) (H : Type) (enc : TypeId × Value → H) :
    ReturnsInHanded {} Tryd.checked os 4 .any (fun w args => (Rows.symmetricForgedSpec.pre enc Tryd.prog Tryd.f4 [] false w args ∧ laidMetH Tryd.prog laidS w) ∧ sizedMet enc Tryd.prog Tryd.f4 (OpenSpec.ofChange Rows.symmetricForgedSpec) false w args)
      (Rows.symmetricForgedSpec.post enc Tryd.prog Tryd.f4 false true false false) := by
  refine returnsInHanded_of_change_and (C := Tryd.checked) (X := fun w _ => laidMetH Tryd.prog laidS w) (fun _ _ _ hh h => h.of_heap hh) own started (by kernel_rfl) Tryd.func4
    (ChangeSpec.witness_shaped (enc := enc) (C := Tryd.checked) (os := os) (X := fun w _ => laidMetH Tryd.prog laidS w) false (World.doorLaid Tryd.prog 100 os) #[.slice none 0 0, .slice none 0 0, tagNought] 8 rfl (World.shaped_of_RefB (by kernel_rfl) (by kernel_rfl)) (by kernel_rfl) (by kernel_rfl) (by kernel_rfl) (door_metS os _)) ?_
  intro W base args ds gs before hval0 hW _ hsz0 hL _
  have hG := glob_of_laidS hL
  have hval : ∀ (j : Nat) t v, Tryd.f4.params[j]? = some t → args[j]? = some v → Value.okWide Tryd.prog W .any base t v := hval0
  have hsz : (DataW.weightsEach Tryd.prog (Tryd.f4.params.toList ++ Rows.symmetricForgedSpec.plain.varTypes Tryd.prog) (ds ++ gs)).all (· ≤ reachBytes) = true := hsz0
  have hW' := hW
  obtain ⟨p, q, hA0, hV, rfl, hfz, hnd⟩ := hW
  have hA : DataW.TrodAll enc Tryd.prog W 0 (fun _ => true) true Tryd.f4.params.toList args.toList ds p := hA0
  rw [Tryd.params4] at hA hval hsz
  obtain ⟨v0, v1, v2, d0, d1, d2, p0, p1, p2, rfl, rfl, rfl, h0, h1, h2⟩ := trodAll_three hA
  obtain ⟨rfl, rfl⟩ := trodVars_none hV
  have shk := again (by kernel_rfl) (of_decide_eq_true (by kernel_rfl)) h0
  obtain ⟨spk, capk, k, rfl, srck, lek, nilk, maxk, byk⟩ := arg_bytes (fitWok H) (hval 0 27 v0 rfl rfl) h0 (fun n hn => of_decide_eq_true (List.all_eq_true.1 hsz n (DataW.weights_mem_each (j := 0) rfl rfl n hn)))
  have shb := again (by kernel_rfl) (of_decide_eq_true (by kernel_rfl)) h1
  obtain ⟨spb, capb, b, rfl, srcb, leb, nilb, maxb, byb⟩ := arg_bytes (fitWok H) (hval 1 27 v1 rfl rfl) h1 (fun n hn => of_decide_eq_true (List.all_eq_true.1 hsz n (DataW.weights_mem_each (j := 1) rfl rfl n hn)))
  obtain ⟨t, wt, rfl, rfl, rfl⟩ := open_array Tryd.underlying42 Tryd.underlying5 cellsTag cellsByte (hval 2 42 v2 rfl rfl) h2
  clear hA0 hval0
  simp only [List.append_nil] at hW'
  refine (law_SymmetricForged pcs12 vsym_any spk capk k maxk lek nilk byk spb capb b maxb leb nilb byb t (fun j hj => wf_u8.1 (wt j hj)) W hG srck srcb).mono fun e W' ⟨he, hlow⟩ => ?_
  subst he
  exact ⟨_, rfl, _, _, _, [], p0 ++ p1, [], hW', trodAll_mk1 (shut_bool Tryd.underlying4 _), (by have h := trodAll_mk3 (shk W' hlow) (shb W' hlow) (shut_array Tryd.underlying42 Tryd.underlying5 cellsTag cellsByte t wt); simp only [List.append_nil] at h; exact h), rfl, hlow.frame _, fun h => by cases h⟩
theorem symmetricForged_holds : Rows.SymmetricForgedSaid :=
  OpenClaim.holds_of_wide 4 Tryd.f4 rfl rfl rfl rfl rfl rfl rfl ⟨rfl, rfl, rfl, rfl, rfl⟩ rfl rfl rfl rfl rfl (by kernel_rfl) Tryd.func4 (by kernel_rfl)
    (of_decide_eq_true (by kernel_rfl)) (by unfold Func.isWrapper; first | (rw [if_pos (by decide +kernel)]; kernel_rfl) | (rw [if_neg (by decide +kernel)]; exact ⟨rfl, rfl⟩))
    (fun os started H enc _ => symmetricForged_lifted os started H enc)
theorem symmetricForged_card : Rows.SymmetricForgedCardSaid :=
  Claim7.holds_tied_plain_at .later [] [.data, .data, .data, .data, .data, .data, .data] true (true, "9d66ed4058dfefb5fe296441cfd926b4e89cead356cb58d3747d6dd8387a53ee") false
    symmetricForged_holds (fun _ h => by cases h) (by kernel_rfl) (fun _ h => by cases h) symmetricForged_row_tie rfl ⟨rfl, rfl⟩ (by kernel_rfl) rfl
    (fun f fn hf hfn => by
      obtain rfl : f = 4 := Option.some.inj ((show Tryd.prog.funcNamed "sheave/sheavelaw12.SymmetricForged" = some 4 by kernel_rfl).symm.trans hf) |>.symm
      obtain rfl : fn = Tryd.f4 := (Option.some.inj (Tryd.func4.symm.trans hfn)).symm
      exact ⟨by kernel_rfl, fun j t ht => by
            rw [Tryd.params4] at ht
            have hm : t ∈ [27, 27, 42] := by simpa using Array.mem_of_getElem? ht
            have hall : ([27, 27, 42].all fun u => !Tryd.prog.wantsStandIn u) = true := by kernel_rfl
            exact (show Tryd.prog.wantsStandIn t = false by simpa using List.all_eq_true.1 hall t hm)⟩)
    (by kernel_rfl)
#print axioms symmetricForged_card
end
end Go.Proofs.YtgfpflcoknpbdaaDoor
