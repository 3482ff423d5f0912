/- PROVED: sheavelaw16.GuardEpochs answers true for every input (any secrets, any epochs, any texts), and leaves it as it was. Its conditions: the package variables that blake, chacha, clamp and packet read hold what the program's text lays there (the card ties them to it); a slice that comes in takes no more memory than a process can have (the form's own reach). -/
import Derived.Test.YtknodedhcdpbiaaGreatDoorP14GuardEpochs
import Derived.Test.YtknodedhcdpbiaaGreatDoorTie
import Derived.Test.YtknodedhcdpbiaaGreatDoorCards
set_option maxRecDepth 100000
set_option maxHeartbeats 64000000
namespace Go.Proofs.YtknodedhcdpbiaaGreatDoor
open Go.RowKit
section
open Go.ChangeShapes Go.WideShapes Go.ChangeAt Go.WideMaps Go.WideElems Go.RowKit
theorem guardEpochs_lifted (os:Os) (started:os.Started) (H:Type) (enc:TypeId × Value→H) :
 ReturnsInHanded {} Tryz.checked os 6 .any (fun w args=>(Rows.guardEpochsSpec.pre enc Tryz.prog Tryz.f6 [] false w args∧laidMetH Tryz.prog laidG w)∧sizedMet enc Tryz.prog Tryz.f6 (OpenSpec.ofChange Rows.guardEpochsSpec) false w args)
  (Rows.guardEpochsSpec.post enc Tryz.prog Tryz.f6 false true false false):=by
 refine returnsInHanded_of_change_and (C:=Tryz.checked) (X:=fun w _=>laidMetH Tryz.prog laidG w) (fun _ _ _ hh h=>h.of_heap hh) own started (by kernel_rfl) Tryz.func6
  (ChangeSpec.witness_shaped (enc:=enc) (C:=Tryz.checked) (os:=os) (X:=fun w _=>laidMetH Tryz.prog laidG w) false (World.doorLaid Tryz.prog 110 os) #[.agg #[.int .u8 0,.int .u8 0,.int .u8 0,.int .u8 0,.int .u8 0,.int .u8 0,.int .u8 0,.int .u8 0,.int .u8 0,.int .u8 0,.int .u8 0,.int .u8 0,.int .u8 0,.int .u8 0,.int .u8 0,.int .u8 0,.int .u8 0,.int .u8 0,.int .u8 0,.int .u8 0,.int .u8 0,.int .u8 0,.int .u8 0,.int .u8 0,.int .u8 0,.int .u8 0,.int .u8 0,.int .u8 0,.int .u8 0,.int .u8 0,.int .u8 0,.int .u8 0,.int .u8 0,.int .u8 0,.int .u8 0,.int .u8 0,.int .u8 0,.int .u8 0,.int .u8 0,.int .u8 0,.int .u8 0,.int .u8 0,.int .u8 0,.int .u8 0,.int .u8 0,.int .u8 0,.int .u8 0,.int .u8 0,.int .u8 0,.int .u8 0,.int .u8 0,.int .u8 0,.int .u8 0,.int .u8 0,.int .u8 0,.int .u8 0,.int .u8 0,.int .u8 0,.int .u8 0,.int .u8 0,.int .u8 0,.int .u8 0,.int .u8 0,.int .u8 0,.int .i64 0,.int .i64 0],.slice none 0 0,.slice none 0 0] 8 rfl (World.shaped_of_RefB (by kernel_rfl) (by kernel_rfl)) (by kernel_rfl) (by kernel_rfl) (by kernel_rfl) (door_metG os _)) ?_
 intro W base args ds gs before hval0 hW _ hsz0 hL _; have hG:=glob_of_laidG hL
 have hval:∀ (j:Nat) t v,Tryz.f6.params[j]?=some t→args[j]?=some v→Value.okWide Tryz.prog W .any base t v:=hval0
 have hsz:(DataW.weightsEach Tryz.prog (Tryz.f6.params.toList++Rows.guardEpochsSpec.plain.varTypes Tryz.prog) (ds++gs)).all (·≤reachBytes)=true:=hsz0
 have hW':=hW
 obtain ⟨p,q,hA0,hV,rfl,hfz,hnd⟩:=hW
 have hA:DataW.TrodAll enc Tryz.prog W 0 (fun _=>true) true Tryz.f6.params.toList args.toList ds p:=hA0
 rw [Tryz.params6] at hA hval hsz
 obtain ⟨v0,v1,v2,d0,d1,d2,p0,p1,p2,rfl,rfl,rfl,h0,h1,h2⟩:=trodAll_three hA
 obtain ⟨rfl,rfl⟩:=trodVars_none hV
 have shE:=again (by kernel_rfl) (of_decide_eq_true (by kernel_rfl)) h0
 obtain ⟨kxE,kyE,fE,tE,rfl,ixE,iyE,wfE,wtE⟩:=arg_roots (hval 0 50 v0 rfl rfl) h0
 have sha:=again (by kernel_rfl) (of_decide_eq_true (by kernel_rfl)) h1
 obtain ⟨spa,capa,a,rfl,srca,lea,nila,maxa,bya⟩:=arg_bytes (fitWok H) (hval 1 29 v1 rfl rfl) h1 (fun n hn=>of_decide_eq_true (List.all_eq_true.1 hsz n (DataW.weights_mem_each (j:=1) rfl rfl n hn)))
 have shb:=again (by kernel_rfl) (of_decide_eq_true (by kernel_rfl)) h2
 obtain ⟨spb,capb,b,rfl,srcb,leb,nilb,maxb,byb⟩:=arg_bytes (fitWok H) (hval 2 29 v2 rfl rfl) h2 (fun n hn=>of_decide_eq_true (List.all_eq_true.1 hsz n (DataW.weights_mem_each (j:=2) rfl rfl n hn)))
 clear hA0 hval0
 simp only [List.append_nil] at hW'
 refine (law_GuardEpochs vgrd_any vgnew_any vgat_any vgepo_any kxE kyE fE tE ixE iyE wfE wtE spa capa a maxa lea nila bya spb capb b maxb leb nilb byb W hG srca srcb).mono fun e W' ⟨he,hlow⟩=>?_; subst he
 exact ⟨_,rfl,_,_,_,[],p0++(p1++p2),[],hW',trodAll_mk1 (shut_bool Tryz.underlying4 _),trodAll_mk3 (shE W' hlow) (sha W' hlow) (shb W' hlow),rfl,hlow.frame _,fun h=>by cases h⟩
theorem guardEpochs_holds:Rows.GuardEpochsSaid :=
 OpenClaim.holds_of_wide 6 Tryz.f6 rfl rfl rfl rfl rfl rfl rfl ⟨rfl,rfl,rfl,rfl,rfl⟩ rfl rfl rfl rfl rfl (by kernel_rfl) Tryz.func6 (by kernel_rfl)
  (of_decide_eq_true (by kernel_rfl)) (by unfold Func.isWrapper; first | (rw [if_pos (by decide +kernel)]; kernel_rfl) | (rw [if_neg (by decide +kernel)]; exact ⟨rfl,rfl⟩))
  (fun os started H enc _=>guardEpochs_lifted os started H enc)
theorem guardEpochs_card : Rows.GuardEpochsCardSaid :=
  Claim7.holds_tied_plain_at .later [] [.data, .data, .data, .data, .data, .data, .data, .data] true (true, "f1749e0bd2f43ad733bc7e7132f75b5bb4f80fafa45a62a0e7f33061c899facc") false
    guardEpochs_holds (fun _ h => by cases h) (by kernel_rfl) (fun _ h => by cases h) guardEpochs_row_tie rfl ⟨rfl, rfl⟩ (by kernel_rfl) rfl
    (fun f fn hf hfn => by
      obtain rfl : f = 6 := Option.some.inj ((show Tryz.prog.funcNamed "sheave/sheavelaw16.GuardEpochs" = some 6 by kernel_rfl).symm.trans hf) |>.symm
      obtain rfl : fn = Tryz.f6 := (Option.some.inj (Tryz.func6.symm.trans hfn)).symm
      exact ⟨by kernel_rfl, fun j t ht => by
            rw [Tryz.params6] at ht
            have hm : t ∈ [50, 29, 29] := by simpa using Array.mem_of_getElem? ht
            have hall : ([50, 29, 29].all fun u => !Tryz.prog.wantsStandIn u) = true := by kernel_rfl
            exact (show Tryz.prog.wantsStandIn t = false by simpa using List.all_eq_true.1 hall t hm)⟩)
    (by kernel_rfl)
#print axioms guardEpochs_card
end
end Go.Proofs.YtknodedhcdpbiaaGreatDoor
