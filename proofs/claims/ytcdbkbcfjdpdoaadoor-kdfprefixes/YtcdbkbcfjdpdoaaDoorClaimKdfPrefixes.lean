/- PROVED: sheavelaw08.KdfPrefixes answers true for every input (any key, any number; any bytes, however many, nil too, wherever they lie), and leaves it as it was. Its conditions: the package variables that blake reads hold what the program's text lays there (the card ties them to it); a slice that comes in takes no more memory than a process can have (the form's own reach). -/
import Derived.Test.YtcdbkbcfjdpdoaaDoorLawKdfPrefixes
import Derived.Test.YtcdbkbcfjdpdoaaDoorG4
import Derived.Test.YtcdbkbcfjdpdoaaDoorTie
import Derived.Test.YtcdbkbcfjdpdoaaDoorCards
namespace Go.Proofs.YtcdbkbcfjdpdoaaDoor
open Go.ChangeShapes Go.WideShapes Go.ChangeAt Go.WideMaps Go.WideElems Go.RowKit

set_option maxRecDepth 100000 in
theorem kdfPrefixes_lifted (os : Os) (started : os.Started) (H : Type) (enc : TypeId × Value → H) :
    ReturnsInHanded {} Tryd.checked os 5 .any (fun w args => (Rows.kdfPrefixesSpec.pre enc Tryd.prog Tryd.f5 [] false w args ∧ laidMetH Tryd.prog laidB w) ∧ sizedMet enc Tryd.prog Tryd.f5 (OpenSpec.ofChange Rows.kdfPrefixesSpec) false w args)
      (Rows.kdfPrefixesSpec.post enc Tryd.prog Tryd.f5 false true false false) := by
  refine returnsInHanded_of_change_and (C := Tryd.checked) (X := fun w _ => laidMetH Tryd.prog laidB w) (fun _ _ _ hh h => h.of_heap hh) own started (by kernel_rfl) Tryd.func5
    (ChangeSpec.witness_shaped (enc := enc) (C := Tryd.checked) (os := os) (X := fun w _ => laidMetH Tryd.prog laidB w) false (World.doorLaid Tryd.prog 37 os) #[keyNought, .slice none 0 0, .int .i64 0] 8 rfl (World.shaped_of_RefB (by kernel_rfl) (by kernel_rfl)) (by kernel_rfl) (by kernel_rfl) (by kernel_rfl) (door_metB os _)) ?_
  intro W base args ds gs before hval0 hW _ hsz0 hL _
  have hval : ∀ (j : Nat) t v, Tryd.f5.params[j]? = some t → args[j]? = some v → Value.okWide Tryd.prog W .any base t v := hval0
  have hsz : (DataW.weightsEach Tryd.prog (Tryd.f5.params.toList ++ Rows.kdfPrefixesSpec.plain.varTypes Tryd.prog) (ds ++ gs)).all (· ≤ reachBytes) = true := hsz0
  have hW' := hW
  obtain ⟨p, q, hA0, hV, rfl, hfz, hnd⟩ := hW
  have hA : DataW.TrodAll enc Tryd.prog W 0 (fun _ => true) true Tryd.f5.params.toList args.toList ds p := hA0
  rw [Tryd.params5] at hA hval hsz
  obtain ⟨v0, v1, v2, d0, d1, d2, p0, p1, p2, rfl, rfl, rfl, h0, h1, h2⟩ := trodAll_three hA
  obtain ⟨rfl, rfl⟩ := trodVars_none hV
  obtain ⟨k, wk, rfl, rfl, rfl⟩ := open_array Tryd.underlying25 Tryd.underlying5 cellsKey cellsByte (hval 0 25 v0 rfl rfl) h0
  obtain ⟨spb, lenb, capb, zb, rfl, inb, srcb, leb, nilb, datb, shb⟩ := open_bytes Tryd.underlying22 Tryd.underlying5 cellsByte (hval 1 22 v1 rfl rfl) h1
  obtain ⟨n, rfl, rfl, rfl, wn⟩ := open_int Tryd.underlying3 (hval 2 3 v2 rfl rfl) h2
  have rchb := reach_len hsz (j := 1) rfl rfl Tryd.underlying22 (by kernel_rfl) datb
  have hG := glob_of_laidB hL
  clear hA0 hval0
  simp only [List.append_nil, List.nil_append] at hW'
  refine (law_KdfPrefixes k (fun j hj => wf_u8.1 (wk j hj)) spb lenb capb (by omega) leb nilb zb inb n (by have := wf_i64.1 wn; omega) W hG srcb).mono fun e W' ⟨he, hlow⟩ => ?_
  subst he
  exact ⟨_, rfl, _, _, _, [], [] ++ (p1 ++ []), [], hW', trodAll_mk1 (shut_bool Tryd.underlying4 _), trodAll_mk3 (shut_array Tryd.underlying25 Tryd.underlying5 cellsKey cellsByte k wk) (shb W' hlow) (shut_int Tryd.underlying3 wn), rfl, hlow.frame _, fun h => by cases h⟩

theorem kdfPrefixes_holds : Rows.KdfPrefixesSaid :=
  OpenClaim.holds_of_wide 5 Tryd.f5 rfl rfl rfl rfl rfl rfl rfl ⟨rfl, rfl, rfl, rfl, rfl⟩ rfl rfl rfl rfl rfl (by kernel_rfl) Tryd.func5 (by kernel_rfl)
    (of_decide_eq_true (by kernel_rfl)) (by unfold Func.isWrapper; first | (rw [if_pos (by decide +kernel)]; kernel_rfl) | (rw [if_neg (by decide +kernel)]; exact ⟨rfl, rfl⟩))
    (fun os started H enc _ => kdfPrefixes_lifted os started H enc)

theorem kdfPrefixes_card : Rows.KdfPrefixesCardSaid :=
  Claim7.holds_tied_plain_at .later [] [.data, .data, .data] true (true, "839c596068fbcb2eb783ed7a5e6d642ce09818128d5943a1960957cb2e7dbcad") false
    kdfPrefixes_holds (fun _ h => by cases h) (by kernel_rfl) (fun _ h => by cases h) kdfPrefixes_row_tie rfl ⟨rfl, rfl⟩ (by kernel_rfl) rfl
    (fun f fn hf hfn => by
      obtain rfl : f = 5 := Option.some.inj ((show Tryd.prog.funcNamed "sheave/sheavelaw08.KdfPrefixes" = some 5 by kernel_rfl).symm.trans hf) |>.symm
      obtain rfl : fn = Tryd.f5 := (Option.some.inj (Tryd.func5.symm.trans hfn)).symm
      exact ⟨by kernel_rfl, fun j t ht => by
        rw [Tryd.params5] at ht
        have hm : t ∈ [25, 22, 3] := by simpa using Array.mem_of_getElem? ht
        have hall : ([25, 22, 3].all fun u => !Tryd.prog.wantsStandIn u) = true := by kernel_rfl
        exact (show Tryd.prog.wantsStandIn t = false by simpa using List.all_eq_true.1 hall t hm)⟩)
    (by kernel_rfl)
#print axioms kdfPrefixes_card
end Go.Proofs.YtcdbkbcfjdpdoaaDoor
