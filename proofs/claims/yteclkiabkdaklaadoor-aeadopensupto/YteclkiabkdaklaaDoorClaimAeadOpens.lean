/- PROVED: sheavelaw07.AeadOpens answers true for every input that holds, with the package variables it reads, at most 1048576 values (any key, nonce, bytes beside and bytes), and leaves it as it was. Its conditions: the package variables that chacha and clamp read hold what the program's text lays there (the card ties them to it). -/
import Derived.Test.YteclkiabkdaklaaDoorLawAeadOpens
import Derived.Test.YteclkiabkdaklaaDoorG6
import Derived.Test.YteclkiabkdaklaaDoorTie
import Derived.Test.YteclkiabkdaklaaDoorCards
import Derived.Deep.DeepHandedRow
namespace Go.Proofs.YteclkiabkdaklaaDoor
open Go.ChangeShapes Go.WideShapes Go.ChangeAt Go.WideMaps Go.WideElems Go.RowKit

theorem aeadOpens_reads (os : Os) {H : Type} (enc : TypeId × Value → H) : ∃ places, DataW.whole enc Tryd.prog ((World.doorLaid Tryd.prog 40 os).forCall (fun _ _ => 0) ⟨#[], #[boxNought, .slice none 0 0], []⟩).memory Tryd.f4.params.toList Rows.aeadOpensSpec.vars false #[boxNought, .slice none 0 0].toList 8 = some ([.agg [litR .u8 32 (fun _ => 0), litR .u8 12 (fun _ => 0), .nil], .nil], [], places) :=
  ⟨[], by kernel_rfl⟩
set_option maxRecDepth 100000 in
theorem aeadOpens_lifted (os : Os) (started : os.Started) (H : Type) (enc : TypeId × Value → H) (F : Stop.Interp) :
    ReturnsInHanded {} Tryd.checked os 4 .any ((Rows.OpenSpec.upto Rows.aeadOpensSpec).preRow enc Tryd.prog Tryd.f4 Rows.aeadOpensUptoRow.domain false Rows.aeadOpensUptoRow.laid) (((Rows.OpenSpec.upto Rows.aeadOpensSpec).at F).post enc Tryd.prog Tryd.f4 false true false false) := by
  obtain ⟨places, hx⟩ := aeadOpens_reads os enc
  refine returnsInHanded_of_row (C := Tryd.checked) (s := Rows.OpenSpec.upto Rows.aeadOpensSpec) own started (by kernel_rfl) Tryd.func4
    (witness_row_at (enc := enc) (C := Tryd.checked) false (World.doorLaid Tryd.prog 40 os) #[boxNought, .slice none 0 0] rfl (by kernel_rfl) (by kernel_rfl) (by kernel_rfl)
      (OpenSpec.preRow_of_cond 8 hx (by kernel_rfl) (fun k hk => by cases hk; kernel_rfl) (by kernel_rfl) (door_metA os _))) ?_
  intro W base args ds gs before hval0 hW _ hcond _ hL _ _
  have hval : ∀ (j : Nat) t v, Tryd.f4.params[j]? = some t → args[j]? = some v → Value.okWide Tryd.prog W .any base t v := hval0
  have hbk := bulk_bound (hcond _ rfl)
  have hW' := hW
  obtain ⟨p, q, hA0, hV, rfl, hfz, hnd⟩ := hW
  have hA : DataW.TrodAll enc Tryd.prog W 0 (fun _ => true) true Tryd.f4.params.toList args.toList ds p := hA0
  rw [Tryd.params4] at hA hval
  obtain ⟨v0, v1, d0, d1, p0, p1, rfl, rfl, rfl, h0, h1⟩ := trodAll_two hA
  obtain ⟨rfl, rfl⟩ := trodVars_none hV
  obtain ⟨k, n, bp, bl, bc, b, dc, hk, hn, rfl, rfl, hb, hsb, hbc, hbn, hdb, shx⟩ := open_box (hval 0 28 v0 rfl rfl) h0
  obtain ⟨spa, lena, capa, za, rfl, ina, srca, lea, nila, data, sha⟩ := open_bytes Tryd.underlying26 Tryd.underlying5 cellsByte (hval 1 26 v1 rfl rfl) h1
  have rcx : bl ≤ 1048576 := Nat.le_trans (bulk_slice hdb) (Nat.le_trans (bulk_agg (l := [litR .u8 32 k, litR .u8 12 n, dc]) (List.mem_cons_of_mem _ (List.mem_cons_of_mem _ List.mem_cons_self))) (Nat.le_trans (bulk_mem (List.mem_append_left _ List.mem_cons_self)) hbk))
  have rca : lena ≤ 1048576 := Nat.le_trans (bulk_slice data) (Nat.le_trans (bulk_mem (List.mem_append_left _ (List.mem_cons_of_mem _ List.mem_cons_self))) hbk)
  have hG := glob_of_laidA (show laidMetH Tryd.prog laidA W from hL)
  clear hA0 hval0
  simp only [List.append_nil] at hW'
  refine (law_AeadOpens aseal_any aopen_any k n hk hn bp bl bc rcx hbc hbn b hb spa lena capa rca lea nila za ina W hG hsb srca).mono fun e W' ⟨he, hlow⟩ => ?_
  subst he
  exact ⟨_, rfl, _, _, _, [], p0 ++ p1, [], hW', trodAll_mk1 (shut_bool Tryd.underlying4 _), trodAll_mk2 (shx W' hlow) (sha W' hlow), rfl, hlow.frame _, fun h => by cases h⟩

theorem aeadOpens_holds : Rows.AeadOpensUptoSaid :=
  OpenClaim.holds_of_cond 4 Tryd.f4 rfl rfl rfl rfl rfl rfl rfl ⟨rfl, rfl, rfl, rfl, rfl⟩ rfl rfl rfl rfl rfl (by kernel_rfl) Tryd.func4 (by kernel_rfl)
    (of_decide_eq_true (by kernel_rfl)) (by unfold Func.isWrapper; first | (rw [if_pos (by decide +kernel)]; kernel_rfl) | (rw [if_neg (by decide +kernel)]; exact ⟨rfl, rfl⟩))
    (fun os started H enc _ F => by rw [OpenClaim.pre_eq_preRow]; exact aeadOpens_lifted os started H enc F)

theorem aeadOpensUpto_card : Rows.AeadOpensUptoCardSaid :=
  Claim7.holds_tied_plain_at .later [] _ _ _ _ aeadOpens_holds (fun _ h => by cases h) (by kernel_rfl) (fun _ h => by cases h) aeadOpensUpto_row_tie rfl ⟨rfl, rfl⟩ (by kernel_rfl) rfl
    (fun f fn hf hfn => by
      obtain rfl : f = 4 := Option.some.inj ((show Tryd.prog.funcNamed "sheave/sheavelaw07.AeadOpens" = some 4 by kernel_rfl).symm.trans hf) |>.symm
      obtain rfl : fn = Tryd.f4 := (Option.some.inj (Tryd.func4.symm.trans hfn)).symm
      exact ⟨by kernel_rfl, fun j t ht => by
        rw [Tryd.params4] at ht
        have hm : t ∈ [28, 26] := by simpa using Array.mem_of_getElem? ht
        have hall : ([28, 26].all fun u => !Tryd.prog.wantsStandIn u) = true := by kernel_rfl
        exact (show Tryd.prog.wantsStandIn t = false by simpa using List.all_eq_true.1 hall t hm)⟩)
    (by kernel_rfl)
#print axioms aeadOpensUpto_card
end Go.Proofs.YteclkiabkdaklaaDoor
