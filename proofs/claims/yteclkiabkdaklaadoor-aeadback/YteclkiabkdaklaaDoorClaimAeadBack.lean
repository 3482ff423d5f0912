/- PROVED: sheavelaw07.AeadBack answers true for every input (any key, nonce, bytes beside and text), and leaves it as it was. Its conditions: the package variables that chacha and clamp read hold what the program's text lays there (the card ties them to it). -/
import Derived.Test.YteclkiabkdaklaaDoorLawAeadBack
import Derived.Test.YteclkiabkdaklaaDoorG6
import Derived.Test.YteclkiabkdaklaaDoorTie
import Derived.Test.YteclkiabkdaklaaDoorCards
namespace Go.Proofs.YteclkiabkdaklaaDoor
open Go.ChangeShapes Go.WideShapes Go.ChangeAt Go.WideMaps Go.WideElems Go.RowKit

set_option maxRecDepth 100000 in
theorem aeadBack_lifted (os : Os) (started : os.Started) (H : Type) (enc : TypeId × Value → H) :
    ReturnsInHanded {} Tryd.checked os 5 .any (fun w args => (Rows.aeadBackSpec.pre enc Tryd.prog Tryd.f5 [] false w args ∧ laidMetH Tryd.prog laidA w) ∧ sizedMet enc Tryd.prog Tryd.f5 (OpenSpec.ofChange Rows.aeadBackSpec) false w args)
      (Rows.aeadBackSpec.post enc Tryd.prog Tryd.f5 false true false false) := by
  refine returnsInHanded_of_change_and (C := Tryd.checked) (X := fun w _ => laidMetH Tryd.prog laidA w) (fun _ _ _ hh h => h.of_heap hh) own started (by kernel_rfl) Tryd.func5
    (ChangeSpec.witness_shaped (enc := enc) (C := Tryd.checked) (os := os) (X := fun w _ => laidMetH Tryd.prog laidA w) false (World.doorLaid Tryd.prog 40 os) #[boxNought, .slice none 0 0] 8 rfl (World.shaped_of_RefB (by kernel_rfl) (by kernel_rfl)) (by kernel_rfl) (by kernel_rfl) (by kernel_rfl) (door_metA os _)) ?_
  intro W base args ds gs before hval0 hW _ hsz0 hL _
  have hval : ∀ (j : Nat) t v, Tryd.f5.params[j]? = some t → args[j]? = some v → Value.okWide Tryd.prog W .any base t v := hval0
  have hsz : (DataW.weightsEach Tryd.prog (Tryd.f5.params.toList ++ Rows.aeadBackSpec.plain.varTypes Tryd.prog) (ds ++ gs)).all (· ≤ reachBytes) = true := hsz0
  have hW' := hW
  obtain ⟨p, q, hA0, hV, rfl, hfz, hnd⟩ := hW
  have hA : DataW.TrodAll enc Tryd.prog W 0 (fun _ => true) true Tryd.f5.params.toList args.toList ds p := hA0
  rw [Tryd.params5] at hA hval hsz
  obtain ⟨v0, v1, d0, d1, p0, p1, rfl, rfl, rfl, h0, h1⟩ := trodAll_two hA
  obtain ⟨rfl, rfl⟩ := trodVars_none hV
  obtain ⟨k, n, bp, bl, bc, b, dc, hk, hn, rfl, rfl, hb, hsb, hbc, hbn, hdb, shx⟩ := open_box (hval 0 28 v0 rfl rfl) h0
  obtain ⟨spa, lena, capa, za, rfl, ina, srca, lea, nila, data, sha⟩ := open_bytes Tryd.underlying26 Tryd.underlying5 cellsByte (hval 1 26 v1 rfl rfl) h1
  have rcx := reach_field hsz (j := 0) (i := 2) rfl rfl Tryd.underlying28 rfl rfl Tryd.underlying26 (by kernel_rfl) hdb
  have rcha := reach_len hsz (j := 1) rfl rfl Tryd.underlying26 (by kernel_rfl) data
  have hG := glob_of_laidA hL
  clear hA0 hval0
  simp only [List.append_nil] at hW'
  refine (law_AeadBack aseal_any aopen_any k n hk hn bp bl bc rcx hbc hbn b hb spa lena capa rcha lea nila za ina W hG hsb srca).mono fun e W' ⟨he, hlow⟩ => ?_
  subst he
  exact ⟨_, rfl, _, _, _, [], p0 ++ p1, [], hW', trodAll_mk1 (shut_bool Tryd.underlying4 _), trodAll_mk2 (shx W' hlow) (sha W' hlow), rfl, hlow.frame _, fun h => by cases h⟩

theorem aeadBack_holds : Rows.AeadBackSaid :=
  OpenClaim.holds_of_wide 5 Tryd.f5 rfl rfl rfl rfl rfl rfl rfl ⟨rfl, rfl, rfl, rfl, rfl⟩ rfl rfl rfl rfl rfl (by kernel_rfl) Tryd.func5 (by kernel_rfl)
    (of_decide_eq_true (by kernel_rfl)) (by unfold Func.isWrapper; first | (rw [if_pos (by decide +kernel)]; kernel_rfl) | (rw [if_neg (by decide +kernel)]; exact ⟨rfl, rfl⟩))
    (fun os started H enc _ => aeadBack_lifted os started H enc)

theorem aeadBack_card : Rows.AeadBackCardSaid :=
  Claim7.holds_tied_plain_at .later [] [.data, .data, .data, .data] true (true, "fde2b43e3a0a1e458acf17c42b34c48c5999fd1c0f32fcbb3643fef18c6c1848") false
    aeadBack_holds (fun _ h => by cases h) (by kernel_rfl) (fun _ h => by cases h) aeadBack_row_tie rfl ⟨rfl, rfl⟩ (by kernel_rfl) rfl
    (fun f fn hf hfn => by
      obtain rfl : f = 5 := Option.some.inj ((show Tryd.prog.funcNamed "sheave/sheavelaw07.AeadBack" = some 5 by kernel_rfl).symm.trans hf) |>.symm
      obtain rfl : fn = Tryd.f5 := (Option.some.inj (Tryd.func5.symm.trans hfn)).symm
      exact ⟨by kernel_rfl, fun j t ht => by
        rw [Tryd.params5] at ht
        have hm : t ∈ [28, 26] := by simpa using Array.mem_of_getElem? ht
        have hall : ([28, 26].all fun u => !Tryd.prog.wantsStandIn u) = true := by kernel_rfl
        exact (show Tryd.prog.wantsStandIn t = false by simpa using List.all_eq_true.1 hall t hm)⟩)
    (by kernel_rfl)
#print axioms aeadBack_card
end Go.Proofs.YteclkiabkdaklaaDoor
