/- PROVED: sheavelaw15.KeysEnd answers true for every input (any secret, any epoch, any number), and leaves it as it was. Its conditions: the package variables that blake reads hold what the program's text lays there (the card ties them to it); a slice that comes in takes no more memory than a process can have (the form's own reach). -/
import Derived.Test.YtckohmdmjhaknaaDoorP7KeysEnd
import Derived.Test.YtckohmdmjhaknaaDoorP10KeysEnd
import Derived.Test.YtckohmdmjhaknaaDoorTie
import Derived.Test.YtckohmdmjhaknaaDoorCards
set_option maxRecDepth 100000
set_option maxHeartbeats 64000000
namespace Go.Proofs.YtckohmdmjhaknaaDoor
open Go.RowKit
section
open Go.ChangeShapes Go.WideShapes Go.ChangeAt Go.WideMaps Go.WideElems Go.RowKit
theorem keysEnd_lifted (os : Os) (started : os.Started) (H : Type) (enc : TypeId × Value → H) :
    ReturnsInHanded {} Tryd.checked os 5 .any (fun w args => (Rows.keysEndSpec.pre enc Tryd.prog Tryd.f5 [] false w args ∧ laidMetH Tryd.prog laidK w) ∧ sizedMet enc Tryd.prog Tryd.f5 (OpenSpec.ofChange Rows.keysEndSpec) false w args)
      (Rows.keysEndSpec.post enc Tryd.prog Tryd.f5 false true false false) := by
  refine returnsInHanded_of_change_and (C := Tryd.checked) (X := fun w _ => laidMetH Tryd.prog laidK w) (fun _ _ _ hh h => h.of_heap hh) own started (by kernel_rfl) Tryd.func5
    (ChangeSpec.witness_shaped (enc := enc) (C := Tryd.checked) (os := os) (X := fun w _ => laidMetH Tryd.prog laidK w) false (World.doorLaid Tryd.prog 37 os) #[keyNought, .int .i64 0, .int .i64 0] 8 rfl (World.shaped_of_RefB (by kernel_rfl) (by kernel_rfl)) (by kernel_rfl) (by kernel_rfl) (by kernel_rfl) (door_metK os _)) ?_
  intro W base args ds gs before hval0 hW _ hsz0 hL _
  have hG := glob_of_laidK hL
  have hval : ∀ (j : Nat) t v, Tryd.f5.params[j]? = some t → args[j]? = some v → Value.okWide Tryd.prog W .any base t v := hval0
  have hsz : (DataW.weightsEach Tryd.prog (Tryd.f5.params.toList ++ Rows.keysEndSpec.plain.varTypes Tryd.prog) (ds ++ gs)).all (· ≤ reachBytes) = true := hsz0
  have hW' := hW
  obtain ⟨p, q, hA0, hV, rfl, hfz, hnd⟩ := hW
  have hA : DataW.TrodAll enc Tryd.prog W 0 (fun _ => true) true Tryd.f5.params.toList args.toList ds p := hA0
  rw [Tryd.params5] at hA hval hsz
  obtain ⟨v0, v1, v2, d0, d1, d2, p0, p1, p2, rfl, rfl, rfl, h0, h1, h2⟩ := trodAll_three hA
  obtain ⟨rfl, rfl⟩ := trodVars_none hV
  obtain ⟨r, wr, rfl, rfl, rfl⟩ := open_array Tryd.underlying23 Tryd.underlying5 cellsKey cellsByte (hval 0 23 v0 rfl rfl) h0
  obtain ⟨p, rfl, rfl, rfl, wp⟩ := open_int Tryd.underlying3 (hval 1 3 v1 rfl rfl) h1
  obtain ⟨z, rfl, rfl, rfl, wz⟩ := open_int Tryd.underlying3 (hval 2 3 v2 rfl rfl) h2
  clear hA0 hval0
  simp only [List.append_nil] at hW'
  refine (law_KeysEnd vkeys_any vkat_any r (fun j hj => wf_u8.1 (wr j hj)) p (i64_of wp) z (i64_of wz) W hG).mono fun e W' ⟨he, hlow⟩ => ?_
  subst he
  exact ⟨_, rfl, _, _, _, [], [], [], hW', trodAll_mk1 (shut_bool Tryd.underlying4 _), trodAll_mk3 (shut_array Tryd.underlying23 Tryd.underlying5 cellsKey cellsByte r wr) (shut_int Tryd.underlying3 wp) (shut_int Tryd.underlying3 wz), rfl, hlow.frame _, fun h => by cases h⟩
theorem keysEnd_holds : Rows.KeysEndSaid :=
  OpenClaim.holds_of_wide 5 Tryd.f5 rfl rfl rfl rfl rfl rfl rfl ⟨rfl, rfl, rfl, rfl, rfl⟩ rfl rfl rfl rfl rfl (by kernel_rfl) Tryd.func5 (by kernel_rfl)
    (of_decide_eq_true (by kernel_rfl)) (by unfold Func.isWrapper; first | (rw [if_pos (by decide +kernel)]; kernel_rfl) | (rw [if_neg (by decide +kernel)]; exact ⟨rfl, rfl⟩))
    (fun os started H enc _ => keysEnd_lifted os started H enc)
theorem keysEnd_card : Rows.KeysEndCardSaid :=
  Claim7.holds_tied_plain_at .later [] [.data, .data, .data] true (true, "05a711edf0d2863d327e6fea78498aafb5926e3dd28f03faa90a1c3cdb9854a8") false
    keysEnd_holds (fun _ h => by cases h) (by kernel_rfl) (fun _ h => by cases h) keysEnd_row_tie rfl ⟨rfl, rfl⟩ (by kernel_rfl) rfl
    (fun f fn hf hfn => by
      obtain rfl : f = 5 := Option.some.inj ((show Tryd.prog.funcNamed "sheave/sheavelaw15.KeysEnd" = some 5 by kernel_rfl).symm.trans hf) |>.symm
      obtain rfl : fn = Tryd.f5 := (Option.some.inj (Tryd.func5.symm.trans hfn)).symm
      exact ⟨by kernel_rfl, fun j t ht => by
            rw [Tryd.params5] at ht
            have hm : t ∈ [23, 3, 3] := by simpa using Array.mem_of_getElem? ht
            have hall : ([23, 3, 3].all fun u => !Tryd.prog.wantsStandIn u) = true := by kernel_rfl
            exact (show Tryd.prog.wantsStandIn t = false by simpa using List.all_eq_true.1 hall t hm)⟩)
    (by kernel_rfl)
#print axioms keysEnd_card
end
end Go.Proofs.YtckohmdmjhaknaaDoor
