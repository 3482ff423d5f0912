/- PROVED: sheavelaw07.AeadTurned answers true for every input (any key, nonce, bytes beside, text and bits), and leaves it as it was. Its conditions: the package variables that chacha and clamp read hold what the program's text lays there (the card ties them to it). -/
import Derived.Test.YteclkiabkdaklaaDoorLawAeadTurned
import Derived.Test.YteclkiabkdaklaaDoorG6
import Derived.Test.YteclkiabkdaklaaDoorTie
import Derived.Test.YteclkiabkdaklaaDoorCards
namespace Go.Proofs.YteclkiabkdaklaaDoor
open Go.ChangeShapes Go.WideShapes Go.ChangeAt Go.WideMaps Go.WideElems Go.RowKit

set_option maxRecDepth 100000 in
theorem aeadTurned_lifted (os : Os) (started : os.Started) (H : Type) (enc : TypeId × Value → H) :
    ReturnsInHanded {} Tryd.checked os 6 .any (fun w args => (Rows.aeadTurnedSpec.pre enc Tryd.prog Tryd.f6 [] false w args ∧ laidMetH Tryd.prog laidA w) ∧ sizedMet enc Tryd.prog Tryd.f6 (OpenSpec.ofChange Rows.aeadTurnedSpec) false w args)
      (Rows.aeadTurnedSpec.post enc Tryd.prog Tryd.f6 false true false false) := by
  refine returnsInHanded_of_change_and (C := Tryd.checked) (X := fun w _ => laidMetH Tryd.prog laidA w) (fun _ _ _ hh h => h.of_heap hh) own started (by kernel_rfl) Tryd.func6
    (ChangeSpec.witness_shaped (enc := enc) (C := Tryd.checked) (os := os) (X := fun w _ => laidMetH Tryd.prog laidA w) false (World.doorLaid Tryd.prog 40 os) #[boxNought, .slice none 0 0, tagNought] 8 rfl (World.shaped_of_RefB (by kernel_rfl) (by kernel_rfl)) (by kernel_rfl) (by kernel_rfl) (by kernel_rfl) (door_metA os _)) ?_
  intro W base args ds gs before hval0 hW _ hsz0 hL _
  have hval : ∀ (j : Nat) t v, Tryd.f6.params[j]? = some t → args[j]? = some v → Value.okWide Tryd.prog W .any base t v := hval0
  have hsz : (DataW.weightsEach Tryd.prog (Tryd.f6.params.toList ++ Rows.aeadTurnedSpec.plain.varTypes Tryd.prog) (ds ++ gs)).all (· ≤ reachBytes) = true := hsz0
  have hW' := hW
  obtain ⟨p, q, hA0, hV, rfl, hfz, hnd⟩ := hW
  have hA : DataW.TrodAll enc Tryd.prog W 0 (fun _ => true) true Tryd.f6.params.toList args.toList ds p := hA0
  rw [Tryd.params6] at hA hval hsz
  obtain ⟨v0, v1, v2, d0, d1, d2, p0, p1, p2, rfl, rfl, rfl, h0, h1, h2⟩ := trodAll_three hA
  obtain ⟨rfl, rfl⟩ := trodVars_none hV
  obtain ⟨k, n, bp, bl, bc, b, dc, hk, hn, rfl, rfl, hb, hsb, hbc, hbn, hdb, shx⟩ := open_box (hval 0 28 v0 rfl rfl) h0
  obtain ⟨spa, lena, capa, za, rfl, ina, srca, lea, nila, data, sha⟩ := open_bytes Tryd.underlying26 Tryd.underlying5 cellsByte (hval 1 26 v1 rfl rfl) h1
  obtain ⟨t2, wt2, rfl, rfl, rfl⟩ := open_array Tryd.underlying36 Tryd.underlying5 cellsTag cellsByte (hval 2 36 v2 rfl rfl) h2
  have rcx := reach_field hsz (j := 0) (i := 2) rfl rfl Tryd.underlying28 rfl rfl Tryd.underlying26 (by kernel_rfl) hdb
  have rcha := reach_len hsz (j := 1) rfl rfl Tryd.underlying26 (by kernel_rfl) data
  have hG := glob_of_laidA hL
  clear hA0 hval0
  simp only [List.append_nil] at hW'
  refine (law_AeadTurned aseal_any aopen_any k n hk hn bp bl bc rcx hbc hbn b hb spa lena capa rcha lea nila za ina t2 (fun j hj => wf_u8.1 (wt2 j hj)) W hG hsb srca).mono fun e W' ⟨he, hlow⟩ => ?_
  subst he
  exact ⟨_, rfl, _, _, _, [], p0 ++ p1, [], hW', trodAll_mk1 (shut_bool Tryd.underlying4 _), (by have h := trodAll_mk3 (shx W' hlow) (sha W' hlow) (shut_array Tryd.underlying36 Tryd.underlying5 cellsTag cellsByte t2 wt2); simp only [List.append_nil] at h; exact h), rfl, hlow.frame _, fun h => by cases h⟩

theorem aeadTurned_holds : Rows.AeadTurnedSaid :=
  OpenClaim.holds_of_wide 6 Tryd.f6 rfl rfl rfl rfl rfl rfl rfl ⟨rfl, rfl, rfl, rfl, rfl⟩ rfl rfl rfl rfl rfl (by kernel_rfl) Tryd.func6 (by kernel_rfl)
    (of_decide_eq_true (by kernel_rfl)) (by unfold Func.isWrapper; first | (rw [if_pos (by decide +kernel)]; kernel_rfl) | (rw [if_neg (by decide +kernel)]; exact ⟨rfl, rfl⟩))
    (fun os started H enc _ => aeadTurned_lifted os started H enc)

theorem aeadTurned_card : Rows.AeadTurnedCardSaid :=
  Claim7.holds_tied_plain_at .later [] [.data, .data, .data, .data] true (true, "fde2b43e3a0a1e458acf17c42b34c48c5999fd1c0f32fcbb3643fef18c6c1848") false
    aeadTurned_holds (fun _ h => by cases h) (by kernel_rfl) (fun _ h => by cases h) aeadTurned_row_tie rfl ⟨rfl, rfl⟩ (by kernel_rfl) rfl
    (fun f fn hf hfn => by
      obtain rfl : f = 6 := Option.some.inj ((show Tryd.prog.funcNamed "sheave/sheavelaw07.AeadTurned" = some 6 by kernel_rfl).symm.trans hf) |>.symm
      obtain rfl : fn = Tryd.f6 := (Option.some.inj (Tryd.func6.symm.trans hfn)).symm
      exact ⟨by kernel_rfl, fun j t ht => by
        rw [Tryd.params6] at ht
        have hm : t ∈ [28, 26, 36] := by simpa using Array.mem_of_getElem? ht
        have hall : ([28, 26, 36].all fun u => !Tryd.prog.wantsStandIn u) = true := by kernel_rfl
        exact (show Tryd.prog.wantsStandIn t = false by simpa using List.all_eq_true.1 hall t hm)⟩)
    (by kernel_rfl)
#print axioms aeadTurned_card
end Go.Proofs.YteclkiabkdaklaaDoor
