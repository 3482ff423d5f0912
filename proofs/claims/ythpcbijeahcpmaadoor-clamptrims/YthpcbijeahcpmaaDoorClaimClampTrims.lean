/- PROVED: sheavelaw03.ClampTrims answers true for every input (16 bytes; any bytes, however many), and leaves it as it was. Its conditions: the package variables clamp.kept and clamp.modulus hold what the program's text lays there (the card ties them to it). -/
import Derived.Test.YthpcbijeahcpmaaDoorLawClampTrims
import Derived.Test.YthpcbijeahcpmaaDoorOpen3
import Derived.Test.YthpcbijeahcpmaaDoorTie
import Derived.Test.YthpcbijeahcpmaaDoorCards
namespace Go.Proofs.YthpcbijeahcpmaaDoor
open Go.ChangeShapes Go.WideShapes Go.ChangeAt Go.WideMaps Go.WideElems Go.RowKit

set_option maxRecDepth 100000 in
theorem clampTrims_lifted (os : Os) (started : os.Started) (H : Type) (enc : TypeId × Value → H) :
    ReturnsInHanded {} Tryd.checked os 3 .any (fun w args => (Rows.clampTrimsSpec.pre enc Tryd.prog Tryd.f3 [] false w args ∧ laidMetH Tryd.prog laidTwo w) ∧ sizedMet enc Tryd.prog Tryd.f3 (OpenSpec.ofChange Rows.clampTrimsSpec) false w args)
      (Rows.clampTrimsSpec.post enc Tryd.prog Tryd.f3 false true false false) := by
  refine returnsInHanded_of_change_and (C := Tryd.checked) (X := fun w _ => laidMetH Tryd.prog laidTwo w) (fun _ _ _ hh h => h.of_heap hh) own started (by kernel_rfl) Tryd.func3
    (ChangeSpec.witness_shaped (enc := enc) (C := Tryd.checked) (os := os) (X := fun w _ => laidMetH Tryd.prog laidTwo w) false (World.doorLaid Tryd.prog 19 os) #[tagNought, .slice none 0 0] 8 rfl (World.shaped_of_RefB (by kernel_rfl) (by kernel_rfl)) (by kernel_rfl) (by kernel_rfl) (by kernel_rfl) (door_met os _)) ?_
  intro W base args ds gs before hval0 hW _ _ hL _
  have hval : ∀ (j : Nat) t v, Tryd.f3.params[j]? = some t → args[j]? = some v → Value.okWide Tryd.prog W .any base t v := hval0
  have hW' := hW
  obtain ⟨p, q, hA0, hV, rfl, hfz, hnd⟩ := hW
  have hA : DataW.TrodAll enc Tryd.prog W 0 (fun _ => true) true Tryd.f3.params.toList args.toList ds p := hA0
  rw [Tryd.params3] at hA hval
  obtain ⟨v0, v1, d0, d1, p0, p1, rfl, rfl, rfl, h0, h1⟩ := trodAll_two hA
  obtain ⟨rfl, rfl⟩ := trodVars_none hV
  obtain ⟨r, hr, rfl, rfl, rfl⟩ := open_tag (hval 0 23 v0 rfl rfl) h0
  obtain ⟨sp, len, cap, rfl⟩ := okWide_slice Tryd.underlying24 (hval 1 24 v1 rfl rfl)
  have hG := glob_of_laid hL
  obtain ⟨fuel, hf⟩ := h1
  clear hA0 hval0
  rcases open_ints Tryd.underlying24 Tryd.underlying5 cellsByte hf with ⟨hcs, hx⟩ | ⟨ad, len', cap', zs, hcs, _, hle, hmax, hall, hx, hcell, hwf⟩
  · simp [Value.cells] at hcs
    obtain ⟨rfl, rfl, rfl⟩ := hcs
    simp only [Prod.mk.injEq] at hx
    obtain ⟨rfl, rfl⟩ := hx
    simp only [List.append_nil] at hW'
    refine (law_ClampTrims r hr none 0 0 (fun _ => 0) (fun j hj => by omega) W (fun j hj => by omega) hG).mono fun e W' ⟨he, hlow⟩ => ?_
    subst he
    exact ⟨_, rfl, _, _, _, [], [], [], hW', trodAll_mk1 (shut_bool Tryd.underlying4 _), (fun sp => trodAll_mk2 (shut_tag enc W' 0 sp true r hr) (shut_slice_nil Tryd.underlying24)) _, rfl, hlow.frame _, fun h => by cases h⟩
  · simp [Value.cells] at hcs
    obtain ⟨rfl, rfl, rfl⟩ := hcs
    simp only [Prod.mk.injEq] at hx
    obtain ⟨rfl, rfl⟩ := hx
    simp only [if_true] at hall
    have hin : In 256 len (fun j => zs.getD j 0) := fun j hj => by
      have hj' : j < zs.length := by omega
      refine wf_byte (hwf _ ?_)
      have e : zs.getD j 0 = zs[j] := by simp [List.getD, hj']
      show zs.getD j 0 ∈ zs
      rw [e]
      exact List.getElem_mem hj'
    refine (law_ClampTrims r hr (some ad) len cap (fun j => zs.getD j 0) hin W (fun j hj => ⟨ad, rfl, hcell j (by omega)⟩) hG).mono fun e W' ⟨he, hlow⟩ => ?_
    subst he
    have hcell' : ∀ i, i < zs.length → W'.cell? (ad.add i) = some (.int .u8 (zs.getD i 0)) := fun i hi => by
      rw [hlow.cell (p := ad.add i) (World.block_lt_of_cell? W _ (hcell i hi))]
      exact hcell i hi
    have hz' : zs.length = (if (fun b => decide (b < W.heap.size)) ad.block then cap else len) := by
      by_cases h0 : 0 < zs.length
      · have hb := World.block_lt_of_cell? W _ (hcell 0 h0)
        rw [block_add] at hb
        simp [hb, hall]
      · split <;> omega
    have t0 := shut_ints (enc := enc) (w := W') (base := 0) (spare := fun b => decide (b < W.heap.size)) (held := true) (a := ad) (len := len) (cap := cap) (zs := zs) 0 Tryd.underlying24 Tryd.underlying5 cellsByte (Nat.zero_le _) hle hmax hz' hcell' hwf
    have t1 : DataW.Trod enc Tryd.prog W' 0 (fun b => decide (b < W.heap.size)) true 24 (.slice (some ad) len cap) (.slice (lits .u8 (zs.take len)) (lits .u8 (zs.drop len))) (MemPlace.row ad zs.length) := ⟨2, t0⟩
    exact ⟨_, rfl, _, _, _, [], MemPlace.row ad zs.length, [], hW', trodAll_mk1 (shut_bool Tryd.underlying4 _), trodAll_mk2 (shut_tag enc W' 0 _ true r hr) t1, rfl, hlow.frame _, fun h => by cases h⟩

theorem clampTrims_holds : Rows.ClampTrimsSaid :=
  OpenClaim.holds_of_wide 3 Tryd.f3 rfl rfl rfl rfl rfl rfl rfl ⟨rfl, rfl, rfl, rfl, rfl⟩ rfl rfl rfl rfl rfl (by kernel_rfl) Tryd.func3 (by kernel_rfl)
    (of_decide_eq_true (by kernel_rfl)) (by unfold Func.isWrapper; first | (rw [if_pos (by decide +kernel)]; kernel_rfl) | (rw [if_neg (by decide +kernel)]; exact ⟨rfl, rfl⟩))
    (fun os started H enc _ => clampTrims_lifted os started H enc)

theorem clampTrims_card : Rows.ClampTrimsCardSaid :=
  Claim7.holds_tied_plain_at .later [] [.data, .data] true (true, "b7c60a51f5a4d7228306064a624fa0bddd827f0ad80916468d5d260639f1a2a3") false
    clampTrims_holds (fun _ h => by cases h) (by kernel_rfl) (fun _ h => by cases h) clampTrims_row_tie rfl ⟨rfl, rfl⟩ (by kernel_rfl) rfl
    (fun f fn hf hfn => by
      obtain rfl : f = 3 := Option.some.inj ((show Tryd.prog.funcNamed "sheave/sheavelaw03.ClampTrims" = some 3 by kernel_rfl).symm.trans hf) |>.symm
      obtain rfl : fn = Tryd.f3 := (Option.some.inj (Tryd.func3.symm.trans hfn)).symm
      exact ⟨by kernel_rfl, fun j t ht => by
        rw [Tryd.params3] at ht
        have hm : t ∈ [23, 24] := by simpa using Array.mem_of_getElem? ht
        have hall : ([23, 24].all fun u => !Tryd.prog.wantsStandIn u) = true := by kernel_rfl
        exact (show Tryd.prog.wantsStandIn t = false by simpa using List.all_eq_true.1 hall t hm)⟩)
    (by kernel_rfl)
#print axioms clampTrims_card
end Go.Proofs.YthpcbijeahcpmaaDoor
