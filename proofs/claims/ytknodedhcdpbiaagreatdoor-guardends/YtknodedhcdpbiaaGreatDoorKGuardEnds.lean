/- PROVED: sheavelaw16.GuardEnds answers true for every input (any roots, any path), and leaves it as it was. Its conditions: the package variables that blake, chacha, clamp and packet read hold what the program's text lays there (the card ties them to it); a slice that comes in takes no more memory than a process can have (the form's own reach). -/
import Derived.Test.YtknodedhcdpbiaaGreatDoorP16GuardEnds
import Derived.Test.YtknodedhcdpbiaaGreatDoorTie
import Derived.Test.YtknodedhcdpbiaaGreatDoorCards
set_option maxRecDepth 100000
set_option maxHeartbeats 64000000
namespace Go.Proofs.YtknodedhcdpbiaaGreatDoor
open Go.RowKit
section
open Go.ChangeShapes Go.WideShapes Go.ChangeAt Go.WideMaps Go.WideElems Go.RowKit
theorem guardEnds_lifted (os:Os) (started:os.Started) (H:Type) (enc:TypeId × Value→H) :
 ReturnsInHanded {} Tryz.checked os 5 .any (fun w args=>(Rows.guardEndsSpec.pre enc Tryz.prog Tryz.f5 [] false w args∧laidMetH Tryz.prog laidG w)∧sizedMet enc Tryz.prog Tryz.f5 (OpenSpec.ofChange Rows.guardEndsSpec) false w args)
  (Rows.guardEndsSpec.post enc Tryz.prog Tryz.f5 false true false false):=by
 refine returnsInHanded_of_change_and (C:=Tryz.checked) (X:=fun w _=>laidMetH Tryz.prog laidG w) (fun _ _ _ hh h=>h.of_heap hh) own started (by kernel_rfl) Tryz.func5
  (ChangeSpec.witness_shaped (enc:=enc) (C:=Tryz.checked) (os:=os) (X:=fun w _=>laidMetH Tryz.prog laidG w) false (World.doorLaid Tryz.prog 110 os) #[keyNought,keyNought,.int .i64 0] 8 rfl (World.shaped_of_RefB (by kernel_rfl) (by kernel_rfl)) (by kernel_rfl) (by kernel_rfl) (by kernel_rfl) (door_metG os _)) ?_
 intro W base args ds gs before hval0 hW _ hsz0 hL _; have hG:=glob_of_laidG hL
 have hval:∀ (j:Nat) t v,Tryz.f5.params[j]?=some t→args[j]?=some v→Value.okWide Tryz.prog W .any base t v:=hval0
 have hsz:(DataW.weightsEach Tryz.prog (Tryz.f5.params.toList++Rows.guardEndsSpec.plain.varTypes Tryz.prog) (ds++gs)).all (·≤reachBytes)=true:=hsz0
 have hW':=hW
 obtain ⟨p,q,hA0,hV,rfl,hfz,hnd⟩:=hW
 have hA:DataW.TrodAll enc Tryz.prog W 0 (fun _=>true) true Tryz.f5.params.toList args.toList ds p:=hA0
 rw [Tryz.params5] at hA hval hsz
 obtain ⟨v0,v1,v2,d0,d1,d2,p0,p1,p2,rfl,rfl,rfl,h0,h1,h2⟩:=trodAll_three hA
 obtain ⟨rfl,rfl⟩:=trodVars_none hV
 obtain ⟨x,wx,rfl,rfl,rfl⟩:=open_array Tryz.underlying23 Tryz.underlying5 cellsKey cellsByte (hval 0 23 v0 rfl rfl) h0
 obtain ⟨y,wy,rfl,rfl,rfl⟩:=open_array Tryz.underlying23 Tryz.underlying5 cellsKey cellsByte (hval 1 23 v1 rfl rfl) h1
 obtain ⟨c,rfl,rfl,rfl,wc⟩:=open_int Tryz.underlying3 (hval 2 3 v2 rfl rfl) h2
 clear hA0 hval0
 simp only [List.append_nil] at hW'
 refine (law_GuardEnds vgrd_any vgnew_any x y (fun j hj=>wf_u8.1 (wx j hj)) (fun j hj=>wf_u8.1 (wy j hj)) c (i64_of wc) W hG).mono fun e W' ⟨he,hlow⟩=>?_; subst he
 exact ⟨_,rfl,_,_,_,[],[],[],hW',trodAll_mk1 (shut_bool Tryz.underlying4 _),trodAll_mk3 (shut_array Tryz.underlying23 Tryz.underlying5 cellsKey cellsByte x wx) (shut_array Tryz.underlying23 Tryz.underlying5 cellsKey cellsByte y wy) (shut_int Tryz.underlying3 wc),rfl,hlow.frame _,fun h=>by cases h⟩
theorem guardEnds_holds:Rows.GuardEndsSaid :=
 OpenClaim.holds_of_wide 5 Tryz.f5 rfl rfl rfl rfl rfl rfl rfl ⟨rfl,rfl,rfl,rfl,rfl⟩ rfl rfl rfl rfl rfl (by kernel_rfl) Tryz.func5 (by kernel_rfl)
  (of_decide_eq_true (by kernel_rfl)) (by unfold Func.isWrapper; first | (rw [if_pos (by decide +kernel)]; kernel_rfl) | (rw [if_neg (by decide +kernel)]; exact ⟨rfl,rfl⟩))
  (fun os started H enc _=>guardEnds_lifted os started H enc)
theorem guardEnds_card : Rows.GuardEndsCardSaid :=
  Claim7.holds_tied_plain_at .later [] [.data, .data, .data, .data, .data, .data, .data, .data] true (true, "f1749e0bd2f43ad733bc7e7132f75b5bb4f80fafa45a62a0e7f33061c899facc") false
    guardEnds_holds (fun _ h => by cases h) (by kernel_rfl) (fun _ h => by cases h) guardEnds_row_tie rfl ⟨rfl, rfl⟩ (by kernel_rfl) rfl
    (fun f fn hf hfn => by
      obtain rfl : f = 5 := Option.some.inj ((show Tryz.prog.funcNamed "sheave/sheavelaw16.GuardEnds" = some 5 by kernel_rfl).symm.trans hf) |>.symm
      obtain rfl : fn = Tryz.f5 := (Option.some.inj (Tryz.func5.symm.trans hfn)).symm
      exact ⟨by kernel_rfl, fun j t ht => by
            rw [Tryz.params5] at ht
            have hm : t ∈ [23, 23, 3] := by simpa using Array.mem_of_getElem? ht
            have hall : ([23, 23, 3].all fun u => !Tryz.prog.wantsStandIn u) = true := by kernel_rfl
            exact (show Tryz.prog.wantsStandIn t = false by simpa using List.all_eq_true.1 hall t hm)⟩)
    (by kernel_rfl)
#print axioms guardEnds_card
end
end Go.Proofs.YtknodedhcdpbiaaGreatDoor
