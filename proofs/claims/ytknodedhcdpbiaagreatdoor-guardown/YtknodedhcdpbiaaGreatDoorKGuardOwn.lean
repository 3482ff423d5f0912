/- PROVED: sheavelaw16.GuardOwn answers true for every input (any root, any path, any text), and leaves it as it was. Its conditions: the package variables that blake, chacha, clamp and packet read hold what the program's text lays there (the card ties them to it); a slice that comes in takes no more memory than a process can have (the form's own reach). -/
import Derived.Test.YtknodedhcdpbiaaGreatDoorP13GuardOwn
import Derived.Test.YtknodedhcdpbiaaGreatDoorTie
import Derived.Test.YtknodedhcdpbiaaGreatDoorCards
set_option maxRecDepth 100000
set_option maxHeartbeats 64000000
namespace Go.Proofs.YtknodedhcdpbiaaGreatDoor
open Go.RowKit
section
open Go.ChangeShapes Go.WideShapes Go.ChangeAt Go.WideMaps Go.WideElems Go.RowKit
theorem guardOwn_lifted (os:Os) (started:os.Started) (H:Type) (enc:TypeId × Value→H) :
 ReturnsInHanded {} Tryz.checked os 7 .any (fun w args=>(Rows.guardOwnSpec.pre enc Tryz.prog Tryz.f7 [] false w args∧laidMetH Tryz.prog laidG w)∧sizedMet enc Tryz.prog Tryz.f7 (OpenSpec.ofChange Rows.guardOwnSpec) false w args)
  (Rows.guardOwnSpec.post enc Tryz.prog Tryz.f7 false true false false):=by
 refine returnsInHanded_of_change_and (C:=Tryz.checked) (X:=fun w _=>laidMetH Tryz.prog laidG w) (fun _ _ _ hh h=>h.of_heap hh) own started (by kernel_rfl) Tryz.func7
  (ChangeSpec.witness_shaped (enc:=enc) (C:=Tryz.checked) (os:=os) (X:=fun w _=>laidMetH Tryz.prog laidG w) false (World.doorLaid Tryz.prog 110 os) #[keyNought,.int .i64 0,.slice none 0 0] 8 rfl (World.shaped_of_RefB (by kernel_rfl) (by kernel_rfl)) (by kernel_rfl) (by kernel_rfl) (by kernel_rfl) (door_metG os _)) ?_
 intro W base args ds gs before hval0 hW _ hsz0 hL _; have hG:=glob_of_laidG hL
 have hval:∀ (j:Nat) t v,Tryz.f7.params[j]?=some t→args[j]?=some v→Value.okWide Tryz.prog W .any base t v:=hval0
 have hsz:(DataW.weightsEach Tryz.prog (Tryz.f7.params.toList++Rows.guardOwnSpec.plain.varTypes Tryz.prog) (ds++gs)).all (·≤reachBytes)=true:=hsz0
 have hW':=hW
 obtain ⟨p,q,hA0,hV,rfl,hfz,hnd⟩:=hW
 have hA:DataW.TrodAll enc Tryz.prog W 0 (fun _=>true) true Tryz.f7.params.toList args.toList ds p:=hA0
 rw [Tryz.params7] at hA hval hsz
 obtain ⟨v0,v1,v2,d0,d1,d2,p0,p1,p2,rfl,rfl,rfl,h0,h1,h2⟩:=trodAll_three hA
 obtain ⟨rfl,rfl⟩:=trodVars_none hV
 obtain ⟨r,wr,rfl,rfl,rfl⟩:=open_array Tryz.underlying23 Tryz.underlying5 cellsKey cellsByte (hval 0 23 v0 rfl rfl) h0
 obtain ⟨p,rfl,rfl,rfl,wp⟩:=open_int Tryz.underlying3 (hval 1 3 v1 rfl rfl) h1
 have shu:=again (by kernel_rfl) (of_decide_eq_true (by kernel_rfl)) h2
 obtain ⟨spu,capu,u,rfl,srcu,leu,nilu,maxu,byu⟩:=arg_bytes (fitWok H) (hval 2 29 v2 rfl rfl) h2 (fun n hn=>of_decide_eq_true (List.all_eq_true.1 hsz n (DataW.weights_mem_each (j:=2) rfl rfl n hn)))
 clear hA0 hval0
 simp only [List.append_nil,List.nil_append] at hW'
 refine (law_GuardOwn vgrd_any vgnew_any r (fun j hj=>wf_u8.1 (wr j hj)) p (i64_of wp) spu capu u maxu leu nilu byu W hG srcu).mono fun e W' ⟨he,hlow⟩=>?_; subst he
 exact ⟨_,rfl,_,_,_,[],p2,[],hW',trodAll_mk1 (shut_bool Tryz.underlying4 _),(by have h:=trodAll_mk3 (shut_array Tryz.underlying23 Tryz.underlying5 cellsKey cellsByte r wr) (shut_int Tryz.underlying3 wp) (shu W' hlow); simp only [List.nil_append] at h; exact h),rfl,hlow.frame _,fun h=>by cases h⟩
theorem guardOwn_holds:Rows.GuardOwnSaid :=
 OpenClaim.holds_of_wide 7 Tryz.f7 rfl rfl rfl rfl rfl rfl rfl ⟨rfl,rfl,rfl,rfl,rfl⟩ rfl rfl rfl rfl rfl (by kernel_rfl) Tryz.func7 (by kernel_rfl)
  (of_decide_eq_true (by kernel_rfl)) (by unfold Func.isWrapper; first | (rw [if_pos (by decide +kernel)]; kernel_rfl) | (rw [if_neg (by decide +kernel)]; exact ⟨rfl,rfl⟩))
  (fun os started H enc _=>guardOwn_lifted os started H enc)
theorem guardOwn_card : Rows.GuardOwnCardSaid :=
  Claim7.holds_tied_plain_at .later [] [.data, .data, .data, .data, .data, .data, .data, .data] true (true, "f1749e0bd2f43ad733bc7e7132f75b5bb4f80fafa45a62a0e7f33061c899facc") false
    guardOwn_holds (fun _ h => by cases h) (by kernel_rfl) (fun _ h => by cases h) guardOwn_row_tie rfl ⟨rfl, rfl⟩ (by kernel_rfl) rfl
    (fun f fn hf hfn => by
      obtain rfl : f = 7 := Option.some.inj ((show Tryz.prog.funcNamed "sheave/sheavelaw16.GuardOwn" = some 7 by kernel_rfl).symm.trans hf) |>.symm
      obtain rfl : fn = Tryz.f7 := (Option.some.inj (Tryz.func7.symm.trans hfn)).symm
      exact ⟨by kernel_rfl, fun j t ht => by
            rw [Tryz.params7] at ht
            have hm : t ∈ [23, 3, 29] := by simpa using Array.mem_of_getElem? ht
            have hall : ([23, 3, 29].all fun u => !Tryz.prog.wantsStandIn u) = true := by kernel_rfl
            exact (show Tryz.prog.wantsStandIn t = false by simpa using List.all_eq_true.1 hall t hm)⟩)
    (by kernel_rfl)
#print axioms guardOwn_card
end
end Go.Proofs.YtknodedhcdpbiaaGreatDoor
