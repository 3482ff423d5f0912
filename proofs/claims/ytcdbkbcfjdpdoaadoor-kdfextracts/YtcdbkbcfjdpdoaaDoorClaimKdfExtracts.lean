/- PROVED: sheavelaw08.KdfExtracts answers true for every input (salt and secret any bytes, however many, nil too, wherever they lie), and leaves it as it was. Its conditions: the package variables that blake reads hold what the program's text lays there (the card ties them to it); a slice that comes in takes no more memory than a process can have (the form's own reach). -/
import Derived.Test.YtcdbkbcfjdpdoaaDoorLawKdfExtracts
import Derived.Test.YtcdbkbcfjdpdoaaDoorG4
import Derived.Test.YtcdbkbcfjdpdoaaDoorTie
import Derived.Test.YtcdbkbcfjdpdoaaDoorCards
namespace Go.Proofs.YtcdbkbcfjdpdoaaDoor
open Go.ChangeShapes Go.WideShapes Go.ChangeAt Go.WideMaps Go.WideElems Go.RowKit

set_option maxRecDepth 100000 in
theorem kdfExtracts_lifted (os : Os) (started : os.Started) (H : Type) (enc : TypeId × Value → H) :
    ReturnsInHanded {} Tryd.checked os 3 .any (fun w args => (Rows.kdfExtractsSpec.pre enc Tryd.prog Tryd.f3 [] false w args ∧ laidMetH Tryd.prog laidB w) ∧ sizedMet enc Tryd.prog Tryd.f3 (OpenSpec.ofChange Rows.kdfExtractsSpec) false w args)
      (Rows.kdfExtractsSpec.post enc Tryd.prog Tryd.f3 false true false false) := by
  refine returnsInHanded_of_change_and (C := Tryd.checked) (X := fun w _ => laidMetH Tryd.prog laidB w) (fun _ _ _ hh h => h.of_heap hh) own started (by kernel_rfl) Tryd.func3
    (ChangeSpec.witness_shaped (enc := enc) (C := Tryd.checked) (os := os) (X := fun w _ => laidMetH Tryd.prog laidB w) false (World.doorLaid Tryd.prog 37 os) #[.slice none 0 0, .slice none 0 0] 8 rfl (World.shaped_of_RefB (by kernel_rfl) (by kernel_rfl)) (by kernel_rfl) (by kernel_rfl) (by kernel_rfl) (door_metB os _)) ?_
  intro W base args ds gs before hval0 hW _ hsz0 hL _
  have hval : ∀ (j : Nat) t v, Tryd.f3.params[j]? = some t → args[j]? = some v → Value.okWide Tryd.prog W .any base t v := hval0
  have hsz : (DataW.weightsEach Tryd.prog (Tryd.f3.params.toList ++ Rows.kdfExtractsSpec.plain.varTypes Tryd.prog) (ds ++ gs)).all (· ≤ reachBytes) = true := hsz0
  have hW' := hW
  obtain ⟨p, q, hA0, hV, rfl, hfz, hnd⟩ := hW
  have hA : DataW.TrodAll enc Tryd.prog W 0 (fun _ => true) true Tryd.f3.params.toList args.toList ds p := hA0
  rw [Tryd.params3] at hA hval hsz
  obtain ⟨v0, v1, d0, d1, p0, p1, rfl, rfl, rfl, h0, h1⟩ := trodAll_two hA
  obtain ⟨rfl, rfl⟩ := trodVars_none hV
  obtain ⟨sps, lens, caps, zs, rfl, ins, srcs, les, nils, dats, shs⟩ := open_bytes Tryd.underlying22 Tryd.underlying5 cellsByte (hval 0 22 v0 rfl rfl) h0
  obtain ⟨spb, lenb, capb, zb, rfl, inb, srcb, leb, nilb, datb, shb⟩ := open_bytes Tryd.underlying22 Tryd.underlying5 cellsByte (hval 1 22 v1 rfl rfl) h1
  have rchs := reach_len hsz (j := 0) rfl rfl Tryd.underlying22 (by kernel_rfl) dats
  have rchb := reach_len hsz (j := 1) rfl rfl Tryd.underlying22 (by kernel_rfl) datb
  have hG := glob_of_laidB hL
  clear hA0 hval0
  simp only [List.append_nil] at hW'
  refine (law_KdfExtracts sps lens caps (by omega) les nils zs ins spb lenb capb (by omega) leb nilb zb inb W hG srcs srcb).mono fun e W' ⟨he, hlow⟩ => ?_
  subst he
  exact ⟨_, rfl, _, _, _, [], p0 ++ p1, [], hW', trodAll_mk1 (shut_bool Tryd.underlying4 _), trodAll_mk2 (shs W' hlow) (shb W' hlow), rfl, hlow.frame _, fun h => by cases h⟩

theorem kdfExtracts_holds : Rows.KdfExtractsSaid :=
  OpenClaim.holds_of_wide 3 Tryd.f3 rfl rfl rfl rfl rfl rfl rfl ⟨rfl, rfl, rfl, rfl, rfl⟩ rfl rfl rfl rfl rfl (by kernel_rfl) Tryd.func3 (by kernel_rfl)
    (of_decide_eq_true (by kernel_rfl)) (by unfold Func.isWrapper; first | (rw [if_pos (by decide +kernel)]; kernel_rfl) | (rw [if_neg (by decide +kernel)]; exact ⟨rfl, rfl⟩))
    (fun os started H enc _ => kdfExtracts_lifted os started H enc)

theorem kdfExtracts_card : Rows.KdfExtractsCardSaid :=
  Claim7.holds_tied_plain_at .later [] [.data, .data, .data] true (true, "839c596068fbcb2eb783ed7a5e6d642ce09818128d5943a1960957cb2e7dbcad") false
    kdfExtracts_holds (fun _ h => by cases h) (by kernel_rfl) (fun _ h => by cases h) kdfExtracts_row_tie rfl ⟨rfl, rfl⟩ (by kernel_rfl) rfl
    (fun f fn hf hfn => by
      obtain rfl : f = 3 := Option.some.inj ((show Tryd.prog.funcNamed "sheave/sheavelaw08.KdfExtracts" = some 3 by kernel_rfl).symm.trans hf) |>.symm
      obtain rfl : fn = Tryd.f3 := (Option.some.inj (Tryd.func3.symm.trans hfn)).symm
      exact ⟨by kernel_rfl, fun j t ht => by
        rw [Tryd.params3] at ht
        have hm : t ∈ [22, 22] := by simpa using Array.mem_of_getElem? ht
        have hall : ([22, 22].all fun u => !Tryd.prog.wantsStandIn u) = true := by kernel_rfl
        exact (show Tryd.prog.wantsStandIn t = false by simpa using List.all_eq_true.1 hall t hm)⟩)
    (by kernel_rfl)
#print axioms kdfExtracts_card
end Go.Proofs.YtcdbkbcfjdpdoaaDoor
