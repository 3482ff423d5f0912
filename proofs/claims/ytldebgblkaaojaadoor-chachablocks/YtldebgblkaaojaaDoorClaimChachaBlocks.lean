/- PROVED: sheavelaw04.ChachaBlocks answers true for every input (any key, counter and nonce), and leaves it as it was. Its conditions: the package variables chacha.first and chacha.places hold what the program's text lays there (the card ties them to it). -/
import Derived.Test.YtldebgblkaaojaaDoorLawChachaBlocks
import Derived.Test.YtldebgblkaaojaaDoorOpen4
import Derived.Test.YtldebgblkaaojaaDoorTie
import Derived.Test.YtldebgblkaaojaaDoorCards
namespace Go.Proofs.YtldebgblkaaojaaDoor
open Go.ChangeShapes Go.WideShapes Go.ChangeAt Go.WideMaps Go.WideElems Go.RowKit

set_option maxRecDepth 100000 in
theorem chachaBlocks_lifted (os : Os) (started : os.Started) (H : Type) (enc : TypeId × Value → H) :
    ReturnsInHanded {} Tryd.checked os 4 .any (fun w args => (Rows.chachaBlocksSpec.pre enc Tryd.prog Tryd.f4 [] false w args ∧ laidMetH Tryd.prog laidH w) ∧ sizedMet enc Tryd.prog Tryd.f4 (OpenSpec.ofChange Rows.chachaBlocksSpec) false w args)
      (Rows.chachaBlocksSpec.post enc Tryd.prog Tryd.f4 false true false false) := by
  refine returnsInHanded_of_change_and (C := Tryd.checked) (X := fun w _ => laidMetH Tryd.prog laidH w) (fun _ _ _ hh h => h.of_heap hh) own started (by kernel_rfl) Tryd.func4
    (ChangeSpec.witness_shaped (enc := enc) (C := Tryd.checked) (os := os) (X := fun w _ => laidMetH Tryd.prog laidH w) false (World.doorLaid Tryd.prog 19 os) #[keyNought, .int .u32 0, nonNought] 8 rfl (World.shaped_of_RefB (by kernel_rfl) (by kernel_rfl)) (by kernel_rfl) (by kernel_rfl) (by kernel_rfl) (door_metH os _)) ?_
  intro W base args ds gs before hval0 hW _ _ hL _
  have hval : ∀ (j : Nat) t v, Tryd.f4.params[j]? = some t → args[j]? = some v → Value.okWide Tryd.prog W .any base t v := hval0
  have hW' := hW
  obtain ⟨p, q, hA0, hV, rfl, hfz, hnd⟩ := hW
  have hA : DataW.TrodAll enc Tryd.prog W 0 (fun _ => true) true Tryd.f4.params.toList args.toList ds p := hA0
  rw [Tryd.params4] at hA hval
  obtain ⟨v0, v1, v2, d0, d1, d2, p0, p1, p2, rfl, rfl, rfl, h0, h1, h2⟩ := trodAll_three hA
  obtain ⟨rfl, rfl⟩ := trodVars_none hV
  obtain ⟨k, wk, rfl, rfl, rfl⟩ := open_array Tryd.underlying28 Tryd.underlying5 cellsKey cellsByte (hval 0 28 v0 rfl rfl) h0
  obtain ⟨c, rfl, rfl, rfl, wc⟩ := open_int Tryd.underlying22 (hval 1 22 v1 rfl rfl) h1
  obtain ⟨n, wn, rfl, rfl, rfl⟩ := open_array Tryd.underlying30 Tryd.underlying5 cellsNon cellsByte (hval 2 30 v2 rfl rfl) h2
  have hG := glob_of_laidH hL
  clear hA0 hval0
  simp only [List.append_nil] at hW'
  refine (law_ChachaBlocks k c n (fun j hj => wf_u8.1 (wk j hj)) (fun j hj => wf_u8.1 (wn j hj)) W hG).mono fun e W' ⟨he, hlow⟩ => ?_
  subst he
  exact ⟨_, rfl, _, _, _, [], [], [], hW', trodAll_mk1 (shut_bool Tryd.underlying4 _), (fun sp => trodAll_mk3 (shut_array Tryd.underlying28 Tryd.underlying5 cellsKey cellsByte k wk) (shut_int Tryd.underlying22 wc) (shut_array Tryd.underlying30 Tryd.underlying5 cellsNon cellsByte n wn)) _, rfl, hlow.frame _, fun h => by cases h⟩

theorem chachaBlocks_holds : Rows.ChachaBlocksSaid :=
  OpenClaim.holds_of_wide 4 Tryd.f4 rfl rfl rfl rfl rfl rfl rfl ⟨rfl, rfl, rfl, rfl, rfl⟩ rfl rfl rfl rfl rfl (by kernel_rfl) Tryd.func4 (by kernel_rfl)
    (of_decide_eq_true (by kernel_rfl)) (by unfold Func.isWrapper; first | (rw [if_pos (by decide +kernel)]; kernel_rfl) | (rw [if_neg (by decide +kernel)]; exact ⟨rfl, rfl⟩))
    (fun os started H enc _ => chachaBlocks_lifted os started H enc)

theorem chachaBlocks_card : Rows.ChachaBlocksCardSaid :=
  Claim7.holds_tied_plain_at .later [] [.data, .data] true (true, "6ab1959a9a91923aef0d62e404d3e094ee5ef0b2b70c1bf74655bcfc0995d8a4") false
    chachaBlocks_holds (fun _ h => by cases h) (by kernel_rfl) (fun _ h => by cases h) chachaBlocks_row_tie rfl ⟨rfl, rfl⟩ (by kernel_rfl) rfl
    (fun f fn hf hfn => by
      obtain rfl : f = 4 := Option.some.inj ((show Tryd.prog.funcNamed "sheave/sheavelaw04.ChachaBlocks" = some 4 by kernel_rfl).symm.trans hf) |>.symm
      obtain rfl : fn = Tryd.f4 := (Option.some.inj (Tryd.func4.symm.trans hfn)).symm
      exact ⟨by kernel_rfl, fun j t ht => by
        rw [Tryd.params4] at ht
        have hm : t ∈ [28, 22, 30] := by simpa using Array.mem_of_getElem? ht
        have hall : ([28, 22, 30].all fun u => !Tryd.prog.wantsStandIn u) = true := by kernel_rfl
        exact (show Tryd.prog.wantsStandIn t = false by simpa using List.all_eq_true.1 hall t hm)⟩)
    (by kernel_rfl)
#print axioms chachaBlocks_card
end Go.Proofs.YtldebgblkaaojaaDoor
