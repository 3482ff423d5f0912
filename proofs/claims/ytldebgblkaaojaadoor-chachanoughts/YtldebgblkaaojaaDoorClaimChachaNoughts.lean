/- PROVED: sheavelaw04.ChachaNoughts answers true for every input (any key, counter and nonce), and leaves it as it was. Its conditions: the package variables chacha.first and chacha.places hold what the program's text lays there (the card ties them to it). -/
import Derived.Test.YtldebgblkaaojaaDoorLawChachaNoughts
import Derived.Test.YtldebgblkaaojaaDoorOpen4
import Derived.Test.YtldebgblkaaojaaDoorTie
import Derived.Test.YtldebgblkaaojaaDoorCards
namespace Go.Proofs.YtldebgblkaaojaaDoor
open Go.ChangeShapes Go.WideShapes Go.ChangeAt Go.WideMaps Go.WideElems Go.RowKit

set_option maxRecDepth 100000 in
theorem chachaNoughts_lifted (os : Os) (started : os.Started) (H : Type) (enc : TypeId × Value → H) :
    ReturnsInHanded {} Tryd.checked os 8 .any (fun w args => (Rows.chachaNoughtsSpec.pre enc Tryd.prog Tryd.f8 [] false w args ∧ laidMetH Tryd.prog laidH w) ∧ sizedMet enc Tryd.prog Tryd.f8 (OpenSpec.ofChange Rows.chachaNoughtsSpec) false w args)
      (Rows.chachaNoughtsSpec.post enc Tryd.prog Tryd.f8 false true false false) := by
  refine returnsInHanded_of_change_and (C := Tryd.checked) (X := fun w _ => laidMetH Tryd.prog laidH w) (fun _ _ _ hh h => h.of_heap hh) own started (by kernel_rfl) Tryd.func8
    (ChangeSpec.witness_shaped (enc := enc) (C := Tryd.checked) (os := os) (X := fun w _ => laidMetH Tryd.prog laidH w) false (World.doorLaid Tryd.prog 19 os) #[stmNought] 8 rfl (World.shaped_of_RefB (by kernel_rfl) (by kernel_rfl)) (by kernel_rfl) (by kernel_rfl) (by kernel_rfl) (door_metH os _)) ?_
  intro W base args ds gs before hval0 hW _ _ hL _
  have hval : ∀ (j : Nat) t v, Tryd.f8.params[j]? = some t → args[j]? = some v → Value.okWide Tryd.prog W .any base t v := hval0
  have hW' := hW
  obtain ⟨p, q, hA0, hV, rfl, hfz, hnd⟩ := hW
  have hA : DataW.TrodAll enc Tryd.prog W 0 (fun _ => true) true Tryd.f8.params.toList args.toList ds p := hA0
  rw [Tryd.params8] at hA hval
  obtain ⟨v0, d0, rfl, rfl, h0⟩ := trodAll_one hA
  obtain ⟨rfl, rfl⟩ := trodVars_none hV
  obtain ⟨k, c, n, hk, hn, hc, rfl, rfl, rfl⟩ := open_stm (hval 0 35 v0 rfl rfl) h0
  have hG := glob_of_laidH hL
  clear hA0 hval0
  simp only [List.append_nil] at hW'
  refine (law_ChachaNoughts k c n hk hn hc W hG).mono fun e W' ⟨he, hlow⟩ => ?_
  subst he
  exact ⟨_, rfl, _, _, _, [], [], [], hW', trodAll_mk1 (shut_bool Tryd.underlying4 _), (fun sp => trodAll_mk1 (shut_stm k c n hk hn hc)) _, rfl, hlow.frame _, fun h => by cases h⟩

theorem chachaNoughts_holds : Rows.ChachaNoughtsSaid :=
  OpenClaim.holds_of_wide 8 Tryd.f8 rfl rfl rfl rfl rfl rfl rfl ⟨rfl, rfl, rfl, rfl, rfl⟩ rfl rfl rfl rfl rfl (by kernel_rfl) Tryd.func8 (by kernel_rfl)
    (of_decide_eq_true (by kernel_rfl)) (by unfold Func.isWrapper; first | (rw [if_pos (by decide +kernel)]; kernel_rfl) | (rw [if_neg (by decide +kernel)]; exact ⟨rfl, rfl⟩))
    (fun os started H enc _ => chachaNoughts_lifted os started H enc)

theorem chachaNoughts_card : Rows.ChachaNoughtsCardSaid :=
  Claim7.holds_tied_plain_at .later [] [.data, .data] true (true, "6ab1959a9a91923aef0d62e404d3e094ee5ef0b2b70c1bf74655bcfc0995d8a4") false
    chachaNoughts_holds (fun _ h => by cases h) (by kernel_rfl) (fun _ h => by cases h) chachaNoughts_row_tie rfl ⟨rfl, rfl⟩ (by kernel_rfl) rfl
    (fun f fn hf hfn => by
      obtain rfl : f = 8 := Option.some.inj ((show Tryd.prog.funcNamed "sheave/sheavelaw04.ChachaNoughts" = some 8 by kernel_rfl).symm.trans hf) |>.symm
      obtain rfl : fn = Tryd.f8 := (Option.some.inj (Tryd.func8.symm.trans hfn)).symm
      exact ⟨by kernel_rfl, fun j t ht => by
        rw [Tryd.params8] at ht
        have hm : t ∈ [35] := by simpa using Array.mem_of_getElem? ht
        have hall : ([35].all fun u => !Tryd.prog.wantsStandIn u) = true := by kernel_rfl
        exact (show Tryd.prog.wantsStandIn t = false by simpa using List.all_eq_true.1 hall t hm)⟩)
    (by kernel_rfl)
#print axioms chachaNoughts_card
end Go.Proofs.YtldebgblkaaojaaDoor
