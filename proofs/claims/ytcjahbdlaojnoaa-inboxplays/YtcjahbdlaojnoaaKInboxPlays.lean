/- PROVED: sheavelaw19.InboxPlays answers true for every input (any size, any row of calls), and leaves it as it was. Its conditions: a slice that comes in takes no more memory than a process can have (the form's own reach). -/
import Derived.Test.YtcjahbdlaojnoaaP8InboxPlays
set_option maxRecDepth 100000
set_option maxHeartbeats 64000000
namespace Go.Proofs.Ytcjahbdlaojnoaa
open Go.RowKit
section
open Go.ChangeShapes Go.WideShapes Go.ChangeAt Go.WideMaps Go.WideElems Go.RowKit
theorem inboxPlays_lifted (os:Os) (started:os.Started) (H:Type) (enc:TypeId × Value→H) :
 ReturnsInHanded {} Try.checked os 3 .any (Rows.inboxPlaysSpec.pre6 enc Try.prog Try.f3 [] false) (Rows.inboxPlaysSpec.post enc Try.prog Try.f3 false true false false):=by
 refine returnsInHanded_of_change_sized (C:=Try.checked) own started (by kernel_rfl) Try.func3
  (ChangeSpec.witness6 (enc:=enc) (C:=Try.checked) (s:=Rows.inboxPlaysSpec) false ⟨#[],#[.int .i64 0,.slice none 0 0],[]⟩ 8 (by kernel_rfl) (by kernel_rfl) (by kernel_rfl) (by kernel_rfl)) ?_
 intro W base args ds gs before hval0 hW _ hsz0 _
 have hval:∀ (j:Nat) t v,Try.f3.params[j]?=some t→args[j]?=some v→Value.okWide Try.prog W .any base t v:=hval0
 have hsz:(DataW.weightsEach Try.prog (Try.f3.params.toList++Rows.inboxPlaysSpec.plain.varTypes Try.prog) (ds++gs)).all (·≤reachBytes)=true:=hsz0
 have hW':=hW
 obtain ⟨p,q,hA0,hV,rfl,hfz,hnd⟩:=hW
 have hA:DataW.TrodAll enc Try.prog W 0 (fun _=>true) true Try.f3.params.toList args.toList ds p:=hA0
 rw [Try.params3] at hA hval hsz
 obtain ⟨v0,v1,d0,d1,p0,p1,rfl,rfl,rfl,h0,h1⟩:=trodAll_two hA
 obtain ⟨rfl,rfl⟩:=trodVars_none hV
 obtain ⟨z,rfl,rfl,rfl,wz⟩:=open_int Try.underlying3 (hval 0 3 v0 rfl rfl) h0
 have shl:=again (by kernel_rfl) (of_decide_eq_true (by kernel_rfl)) h1
 obtain ⟨spl,capl,l,rfl,inl,lel,nill,maxl⟩:=arg_Ops (fitWok H) (hval 1 22 v1 rfl rfl) h1 (fun n hn=>of_decide_eq_true (List.all_eq_true.1 hsz n (DataW.weights_mem_each (j:=1) rfl rfl n hn)))
 clear hA0 hval0
 simp only [List.append_nil,List.nil_append] at hW'
 refine (law_InboxPlays vin_any vicl_any z (i64_of wz) spl capl l maxl W inl).mono fun e W' ⟨he,hlow⟩=>?_; subst he
 exact ⟨_,rfl,_,_,_,[],p1,[],hW',trodAll_mk1 (shut_bool Try.underlying4 _),(by have h:=trodAll_mk2 (shut_int Try.underlying3 wz) (shl W' hlow); simp only [List.nil_append] at h; exact h),rfl,hlow.frame _,fun h=>by cases h⟩
theorem inboxPlays_holds:Rows.InboxPlaysSaid :=
 OpenClaim.holds_of_wide 3 Try.f3 rfl rfl rfl rfl rfl rfl rfl ⟨rfl,rfl,rfl,rfl,rfl⟩ rfl rfl rfl rfl rfl (by kernel_rfl) Try.func3 (by kernel_rfl)
  (of_decide_eq_true (by kernel_rfl)) (by unfold Func.isWrapper; first | (rw [if_pos (by decide +kernel)]; kernel_rfl) | (rw [if_neg (by decide +kernel)]; exact ⟨rfl,rfl⟩))
  (fun os started H enc _=>inboxPlays_lifted os started H enc)
#print axioms inboxPlays_holds
end
end Go.Proofs.Ytcjahbdlaojnoaa
