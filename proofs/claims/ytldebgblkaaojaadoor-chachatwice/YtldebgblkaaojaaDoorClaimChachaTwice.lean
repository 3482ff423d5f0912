/- PROVED: sheavelaw04.ChachaTwice answers true for every input (any key, counter and nonce; any bytes, however many, nil too, wherever they lie; any number to cut at), and leaves it as it was. Its conditions: the package variables chacha.first and chacha.places hold what the program's text lays there (the card ties them to it); a slice that comes in takes no more memory than a process can have (the form's own reach). -/
import Derived.Test.YtldebgblkaaojaaDoorLawChachaTwice
import Derived.Test.YtldebgblkaaojaaDoorOpen4
import Derived.Test.YtldebgblkaaojaaDoorTie
import Derived.Test.YtldebgblkaaojaaDoorCards
namespace Go.Proofs.YtldebgblkaaojaaDoor
open Go.ChangeShapes Go.WideShapes Go.ChangeAt Go.WideMaps Go.WideElems Go.RowKit

set_option maxRecDepth 100000 in
theorem chachaTwice_lifted (os : Os) (started : os.Started) (H : Type) (enc : TypeId × Value → H) :
    ReturnsInHanded {} Tryd.checked os 6 .any (fun w args => (Rows.chachaTwiceSpec.pre enc Tryd.prog Tryd.f6 [] false w args ∧ laidMetH Tryd.prog laidH w) ∧ sizedMet enc Tryd.prog Tryd.f6 (OpenSpec.ofChange Rows.chachaTwiceSpec) false w args)
      (Rows.chachaTwiceSpec.post enc Tryd.prog Tryd.f6 false true false false) := by
  refine returnsInHanded_of_change_and (C := Tryd.checked) (X := fun w _ => laidMetH Tryd.prog laidH w) (fun _ _ _ hh h => h.of_heap hh) own started (by kernel_rfl) Tryd.func6
    (ChangeSpec.witness_shaped (enc := enc) (C := Tryd.checked) (os := os) (X := fun w _ => laidMetH Tryd.prog laidH w) false (World.doorLaid Tryd.prog 19 os) #[stmNought, .slice none 0 0, .int .i64 0] 8 rfl (World.shaped_of_RefB (by kernel_rfl) (by kernel_rfl)) (by kernel_rfl) (by kernel_rfl) (by kernel_rfl) (door_metH os _)) ?_
  intro W base args ds gs before hval0 hW _ hsz0 hL _
  have hval : ∀ (j : Nat) t v, Tryd.f6.params[j]? = some t → args[j]? = some v → Value.okWide Tryd.prog W .any base t v := hval0
  have hsz : (DataW.weightsEach Tryd.prog (Tryd.f6.params.toList ++ Rows.chachaTwiceSpec.plain.varTypes Tryd.prog) (ds ++ gs)).all (· ≤ reachBytes) = true := hsz0
  have hW' := hW
  obtain ⟨p, q, hA0, hV, rfl, hfz, hnd⟩ := hW
  have hA : DataW.TrodAll enc Tryd.prog W 0 (fun _ => true) true Tryd.f6.params.toList args.toList ds p := hA0
  rw [Tryd.params6] at hA hval hsz
  obtain ⟨v0, v1, v2, d0, d1, d2, p0, p1, p2, rfl, rfl, rfl, h0, h1, h2⟩ := trodAll_three hA
  obtain ⟨rfl, rfl⟩ := trodVars_none hV
  obtain ⟨k, c, n, hk, hn, hc, rfl, rfl, rfl⟩ := open_stm (hval 0 35 v0 rfl rfl) h0
  obtain ⟨spb, lenb, capb, zb, rfl, inb, srcb, leb, nilb, datb, shb⟩ := open_bytes Tryd.underlying36 Tryd.underlying5 cellsByte (hval 1 36 v1 rfl rfl) h1
  obtain ⟨cut, rfl, rfl, rfl, wcut⟩ := open_int Tryd.underlying3 (hval 2 3 v2 rfl rfl) h2
  have rchb := reach_len hsz (j := 1) rfl rfl Tryd.underlying36 (by kernel_rfl) datb
  have hG := glob_of_laidH hL
  clear hA0 hval0
  simp only [List.append_nil, List.nil_append] at hW'
  refine (law_ChachaTwice k c n hk hn hc spb lenb capb (by omega) leb zb inb cut (wf_i64.1 wcut) W hG srcb).mono fun e W' ⟨he, hlow⟩ => ?_
  subst he
  exact ⟨_, rfl, _, _, _, [], [] ++ (p1 ++ []), [], hW', trodAll_mk1 (shut_bool Tryd.underlying4 _), trodAll_mk3 (shut_stm k c n hk hn hc) (shb W' hlow) (shut_int Tryd.underlying3 wcut), rfl, hlow.frame _, fun h => by cases h⟩

theorem chachaTwice_holds : Rows.ChachaTwiceSaid :=
  OpenClaim.holds_of_wide 6 Tryd.f6 rfl rfl rfl rfl rfl rfl rfl ⟨rfl, rfl, rfl, rfl, rfl⟩ rfl rfl rfl rfl rfl (by kernel_rfl) Tryd.func6 (by kernel_rfl)
    (of_decide_eq_true (by kernel_rfl)) (by unfold Func.isWrapper; first | (rw [if_pos (by decide +kernel)]; kernel_rfl) | (rw [if_neg (by decide +kernel)]; exact ⟨rfl, rfl⟩))
    (fun os started H enc _ => chachaTwice_lifted os started H enc)

theorem chachaTwice_card : Rows.ChachaTwiceCardSaid :=
  Claim7.holds_tied_plain_at .later [] [.data, .data] true (true, "6ab1959a9a91923aef0d62e404d3e094ee5ef0b2b70c1bf74655bcfc0995d8a4") false
    chachaTwice_holds (fun _ h => by cases h) (by kernel_rfl) (fun _ h => by cases h) chachaTwice_row_tie rfl ⟨rfl, rfl⟩ (by kernel_rfl) rfl
    (fun f fn hf hfn => by
      obtain rfl : f = 6 := Option.some.inj ((show Tryd.prog.funcNamed "sheave/sheavelaw04.ChachaTwice" = some 6 by kernel_rfl).symm.trans hf) |>.symm
      obtain rfl : fn = Tryd.f6 := (Option.some.inj (Tryd.func6.symm.trans hfn)).symm
      exact ⟨by kernel_rfl, fun j t ht => by
        rw [Tryd.params6] at ht
        have hm : t ∈ [35, 36, 3] := by simpa using Array.mem_of_getElem? ht
        have hall : ([35, 36, 3].all fun u => !Tryd.prog.wantsStandIn u) = true := by kernel_rfl
        exact (show Tryd.prog.wantsStandIn t = false by simpa using List.all_eq_true.1 hall t hm)⟩)
    (by kernel_rfl)
#print axioms chachaTwice_card
end Go.Proofs.YtldebgblkaaojaaDoor
