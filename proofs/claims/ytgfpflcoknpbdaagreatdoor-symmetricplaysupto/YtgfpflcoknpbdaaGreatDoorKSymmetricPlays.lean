/- PROVED: sheavelaw12.SymmetricPlays answers true for every input that holds at most 1048576 values (any row of calls, each with any bytes), and leaves it as it was. Its conditions: the package variables that blake, chacha and clamp read hold what the program's text lays there (the card ties them to it). -/
import Derived.Test.YtgfpflcoknpbdaaGreatDoorP23SymmetricPlays
import Derived.Test.YtgfpflcoknpbdaaGreatDoorP27SymmetricPlays
import Derived.Test.YtgfpflcoknpbdaaGreatDoorP28SymmetricPlays
import Derived.Test.YtgfpflcoknpbdaaGreatDoorTie
import Derived.Test.YtgfpflcoknpbdaaGreatDoorCards
import Derived.Deep.DeepHandedRow
set_option maxRecDepth 100000
set_option maxHeartbeats 64000000
namespace Go.Proofs.YtgfpflcoknpbdaaGreatDoor
open Go.RowKit
section
open Go.ChangeShapes Go.WideShapes Go.ChangeAt Go.WideMaps Go.WideElems Go.RowKit
theorem symmetricPlays_reads (os : Os) {H : Type} (enc : TypeId × Value → H) : ∃ places, DataW.whole enc Tryz.prog ((World.doorLaid Tryz.prog 100 os).forCall (fun _ _ => 0) ⟨#[], #[.slice none 0 0], []⟩).memory Tryz.f3.params.toList Rows.symmetricPlaysSpec.vars false #[.slice none 0 0].toList 8 = some ([.nil], [], places) :=
  ⟨[], by kernel_rfl⟩
theorem symmetricPlays_lifted (os : Os) (started : os.Started) (H : Type) (enc : TypeId × Value → H) (F : Stop.Interp) :
    ReturnsInHanded {} Tryz.checked os 3 .any ((Rows.OpenSpec.upto Rows.symmetricPlaysSpec).preRow enc Tryz.prog Tryz.f3 Rows.symmetricPlaysUptoRow.domain false Rows.symmetricPlaysUptoRow.laid) (((Rows.OpenSpec.upto Rows.symmetricPlaysSpec).at F).post enc Tryz.prog Tryz.f3 false true false false) := by
  obtain ⟨places, hx⟩ := symmetricPlays_reads os enc
  refine returnsInHanded_of_row (C := Tryz.checked) (s := Rows.OpenSpec.upto Rows.symmetricPlaysSpec) own started (by kernel_rfl) Tryz.func3
    (witness_row_at (enc := enc) (C := Tryz.checked) false (World.doorLaid Tryz.prog 100 os) #[.slice none 0 0] rfl (by kernel_rfl) (by kernel_rfl) (by kernel_rfl)
      (OpenSpec.preRow_of_cond 8 hx (by kernel_rfl) (fun k hk => by cases hk; kernel_rfl) (by kernel_rfl) (door_metS0 os _))) ?_
  intro W base args ds gs before hval0 hW _ hcond _ hL _ _
  have hG := glob_of_laidS (show laidMetH Tryz.prog laidS W from hL)
  have hval : ∀ (j : Nat) t v, Tryz.f3.params[j]? = some t → args[j]? = some v → Value.okWide Tryz.prog W .any base t v := hval0
  have hbk := bulk_bound (hcond _ rfl)
  have hW' := hW
  obtain ⟨p, q, hA0, hV, rfl, hfz, hnd⟩ := hW
  have hA : DataW.TrodAll enc Tryz.prog W 0 (fun _ => true) true Tryz.f3.params.toList args.toList ds p := hA0
  rw [Tryz.params3] at hA hval
  obtain ⟨v0, d0, rfl, rfl, h0⟩ := trodAll_one hA
  obtain ⟨rfl, rfl⟩ := trodVars_none hV
  have shl := again (by kernel_rfl) (of_decide_eq_true (by kernel_rfl)) h0
  obtain ⟨spl, capl, l, rfl, inl, lel, nill, maxl⟩ := arg_Ops (fitBok H) (hval 0 22 v0 rfl rfl) h0 (Nat.le_trans (bulk_mem (List.mem_append_left _ mS)) hbk)
  clear hA0 hval0
  simp only [List.append_nil] at hW'
  refine (law_SymmetricPlays pcs12 vsym_any vsclone_any spl capl l W hG (inl.at (by decide)) inl.small).mono fun e W' ⟨he, hlow⟩ => ?_
  subst he
  exact ⟨_, rfl, _, _, _, [], p, [], hW', trodAll_mk1 (shut_bool Tryz.underlying4 _), trodAll_mk1 (shl W' hlow), rfl, hlow.frame _, fun h => by cases h⟩
theorem symmetricPlays_holds : Rows.SymmetricPlaysUptoSaid :=
  OpenClaim.holds_of_cond 3 Tryz.f3 rfl rfl rfl rfl rfl rfl rfl ⟨rfl, rfl, rfl, rfl, rfl⟩ rfl rfl rfl rfl rfl (by kernel_rfl) Tryz.func3 (by kernel_rfl)
    (of_decide_eq_true (by kernel_rfl)) (by unfold Func.isWrapper; first | (rw [if_pos (by decide +kernel)]; kernel_rfl) | (rw [if_neg (by decide +kernel)]; exact ⟨rfl, rfl⟩))
    (fun os started H enc _ F => by rw [OpenClaim.pre_eq_preRow]; exact symmetricPlays_lifted os started H enc F)
theorem symmetricPlaysUpto_card : Rows.SymmetricPlaysUptoCardSaid :=
  Claim7.holds_tied_plain_at .later [] _ _ _ _ symmetricPlays_holds (fun _ h => by cases h) (by kernel_rfl) (fun _ h => by cases h) symmetricPlaysUpto_row_tie rfl ⟨rfl, rfl⟩ (by kernel_rfl) rfl
    (fun f fn hf hfn => by
      obtain rfl : f = 3 := Option.some.inj ((show Tryz.prog.funcNamed "sheave/sheavelaw12.SymmetricPlays" = some 3 by kernel_rfl).symm.trans hf) |>.symm
      obtain rfl : fn = Tryz.f3 := (Option.some.inj (Tryz.func3.symm.trans hfn)).symm
      exact ⟨by kernel_rfl, fun j t ht => by
        rw [Tryz.params3] at ht
        have hm : t ∈ [22] := by simpa using Array.mem_of_getElem? ht
        have hall : ([22].all fun u => !Tryz.prog.wantsStandIn u) = true := by kernel_rfl
        exact (show Tryz.prog.wantsStandIn t = false by simpa using List.all_eq_true.1 hall t hm)⟩)
    (by kernel_rfl)
#print axioms symmetricPlaysUpto_card
end
end Go.Proofs.YtgfpflcoknpbdaaGreatDoor
