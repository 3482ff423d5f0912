/- PROVED: sheavelaw06.BlakeNoughts answers true for every input (any key, any number of noughts; any bytes, however many, nil too, wherever they lie), and leaves it as it was. Its conditions: the package variables that blake reads hold what the program's text lays there (the card ties them to it); a slice that comes in takes no more memory than a process can have (the form's own reach). -/
import Derived.Test.YtmchfdfmcobenaaDoorLawBlakeNoughts
import Derived.Test.YtmchfdfmcobenaaDoorBz
import Derived.Test.YtmchfdfmcobenaaDoorOpen6
import Derived.Test.YtmchfdfmcobenaaDoorTie
import Derived.Test.YtmchfdfmcobenaaDoorCards
namespace Go.Proofs.YtmchfdfmcobenaaDoor
open Go.ChangeShapes Go.WideShapes Go.ChangeAt Go.WideMaps Go.WideElems Go.RowKit

set_option maxRecDepth 100000 in
theorem blakeNoughts_lifted (os : Os) (started : os.Started) (H : Type) (enc : TypeId × Value → H) :
    ReturnsInHanded {} Tryd.checked os 6 .any (fun w args => (Rows.blakeNoughtsSpec.pre enc Tryd.prog Tryd.f6 [] false w args ∧ laidMetH Tryd.prog laidB w) ∧ sizedMet enc Tryd.prog Tryd.f6 (OpenSpec.ofChange Rows.blakeNoughtsSpec) false w args)
      (Rows.blakeNoughtsSpec.post enc Tryd.prog Tryd.f6 false true false false) := by
  refine returnsInHanded_of_change_and (C := Tryd.checked) (X := fun w _ => laidMetH Tryd.prog laidB w) (fun _ _ _ hh h => h.of_heap hh) own started (by kernel_rfl) Tryd.func6
    (ChangeSpec.witness_shaped (enc := enc) (C := Tryd.checked) (os := os) (X := fun w _ => laidMetH Tryd.prog laidB w) false (World.doorLaid Tryd.prog 37 os) #[.slice none 0 0, .slice none 0 0, .int .i64 0] 8 rfl (World.shaped_of_RefB (by kernel_rfl) (by kernel_rfl)) (by kernel_rfl) (by kernel_rfl) (by kernel_rfl) (door_metB os _)) ?_
  intro W base args ds gs before hval0 hW _ hsz0 hL _
  have hval : ∀ (j : Nat) t v, Tryd.f6.params[j]? = some t → args[j]? = some v → Value.okWide Tryd.prog W .any base t v := hval0
  have hsz : (DataW.weightsEach Tryd.prog (Tryd.f6.params.toList ++ Rows.blakeNoughtsSpec.plain.varTypes Tryd.prog) (ds ++ gs)).all (· ≤ reachBytes) = true := hsz0
  have hW' := hW
  obtain ⟨p, q, hA0, hV, rfl, hfz, hnd⟩ := hW
  have hA : DataW.TrodAll enc Tryd.prog W 0 (fun _ => true) true Tryd.f6.params.toList args.toList ds p := hA0
  rw [Tryd.params6] at hA hval hsz
  obtain ⟨v0, v1, v2, d0, d1, d2, p0, p1, p2, rfl, rfl, rfl, h0, h1, h2⟩ := trodAll_three hA
  obtain ⟨rfl, rfl⟩ := trodVars_none hV
  obtain ⟨spk, lenk, capk, zk, rfl, ink, srck, lek, nilk, datk, shk⟩ := open_bytes Tryd.underlying22 Tryd.underlying5 cellsByte (hval 0 22 v0 rfl rfl) h0
  obtain ⟨spb, lenb, capb, zb, rfl, inb, srcb, leb, nilb, datb, shb⟩ := open_bytes Tryd.underlying22 Tryd.underlying5 cellsByte (hval 1 22 v1 rfl rfl) h1
  obtain ⟨n, rfl, rfl, rfl, wn⟩ := open_int Tryd.underlying3 (hval 2 3 v2 rfl rfl) h2
  have rchk := reach_len hsz (j := 0) rfl rfl Tryd.underlying22 (by kernel_rfl) datk
  have rchb := reach_len hsz (j := 1) rfl rfl Tryd.underlying22 (by kernel_rfl) datb
  have hG := glob_of_laidB hL
  clear hA0 hval0
  simp only [List.append_nil] at hW'
  refine (law_BlakeNoughts bsum_any bhash_any bmac_any spk lenk capk (by omega) lek nilk zk ink spb lenb capb (by omega) leb nilb zb inb n (by have := wf_i64.1 wn; omega) W hG srck srcb).mono fun e W' ⟨he, hlow⟩ => ?_
  subst he
  exact ⟨_, rfl, _, _, _, [], p0 ++ p1, [], hW', trodAll_mk1 (shut_bool Tryd.underlying4 _), (by have h := trodAll_mk3 (shk W' hlow) (shb W' hlow) (shut_int Tryd.underlying3 wn); simp only [List.append_nil] at h; exact h), rfl, hlow.frame _, fun h => by cases h⟩

theorem blakeNoughts_holds : Rows.BlakeNoughtsSaid :=
  OpenClaim.holds_of_wide 6 Tryd.f6 rfl rfl rfl rfl rfl rfl rfl ⟨rfl, rfl, rfl, rfl, rfl⟩ rfl rfl rfl rfl rfl (by kernel_rfl) Tryd.func6 (by kernel_rfl)
    (of_decide_eq_true (by kernel_rfl)) (by unfold Func.isWrapper; first | (rw [if_pos (by decide +kernel)]; kernel_rfl) | (rw [if_neg (by decide +kernel)]; exact ⟨rfl, rfl⟩))
    (fun os started H enc _ => blakeNoughts_lifted os started H enc)

theorem blakeNoughts_card : Rows.BlakeNoughtsCardSaid :=
  Claim7.holds_tied_plain_at .later [] [.data, .data, .data] true (true, "69ec90a050b90b7d6d3a7ac63070ff1d1ecad0d35baf3e4dbb0a64c948d656b4") false
    blakeNoughts_holds (fun _ h => by cases h) (by kernel_rfl) (fun _ h => by cases h) blakeNoughts_row_tie rfl ⟨rfl, rfl⟩ (by kernel_rfl) rfl
    (fun f fn hf hfn => by
      obtain rfl : f = 6 := Option.some.inj ((show Tryd.prog.funcNamed "sheave/sheavelaw06.BlakeNoughts" = some 6 by kernel_rfl).symm.trans hf) |>.symm
      obtain rfl : fn = Tryd.f6 := (Option.some.inj (Tryd.func6.symm.trans hfn)).symm
      exact ⟨by kernel_rfl, fun j t ht => by
        rw [Tryd.params6] at ht
        have hm : t ∈ [22, 22, 3] := by simpa using Array.mem_of_getElem? ht
        have hall : ([22, 22, 3].all fun u => !Tryd.prog.wantsStandIn u) = true := by kernel_rfl
        exact (show Tryd.prog.wantsStandIn t = false by simpa using List.all_eq_true.1 hall t hm)⟩)
    (by kernel_rfl)
#print axioms blakeNoughts_card
end Go.Proofs.YtmchfdfmcobenaaDoor
