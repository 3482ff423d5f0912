/- PROVED: sheavelaw19.InboxBounds answers true for every input (any size, any row of calls), and leaves it as it was. Its conditions: a slice that comes in takes no more memory than a process can have (the form's own reach). -/
import Derived.Test.YtcjahbdlaojnoaaP6InboxBounds
set_option maxRecDepth 100000
set_option maxHeartbeats 64000000
namespace Go.Proofs.Ytcjahbdlaojnoaa
open Go.RowKit
section
open Go.ChangeShapes Go.WideShapes Go.ChangeAt Go.WideMaps Go.WideElems Go.RowKit
theorem inboxBounds_lifted (os:Os) (started:os.Started) (H:Type) (enc:TypeId × Value→H) :
 ReturnsInHanded {} Try.checked os 5 .any (Rows.inboxBoundsSpec.pre6 enc Try.prog Try.f5 [] false) (Rows.inboxBoundsSpec.post enc Try.prog Try.f5 false true false false):=by
 refine returnsInHanded_of_change_sized (C:=Try.checked) own started (by kernel_rfl) Try.func5
  (ChangeSpec.witness6 (enc:=enc) (C:=Try.checked) (s:=Rows.inboxBoundsSpec) false ⟨#[],#[.int .i64 0,.slice none 0 0],[]⟩ 8 (by kernel_rfl) (by kernel_rfl) (by kernel_rfl) (by kernel_rfl)) ?_
 intro W base args ds gs before hval0 hW _ hsz0 _
 have hval:∀ (j:Nat) t v,Try.f5.params[j]?=some t→args[j]?=some v→Value.okWide Try.prog W .any base t v:=hval0
 have hsz:(DataW.weightsEach Try.prog (Try.f5.params.toList++Rows.inboxBoundsSpec.plain.varTypes Try.prog) (ds++gs)).all (·≤reachBytes)=true:=hsz0
 have hW':=hW
 obtain ⟨p,q,hA0,hV,rfl,hfz,hnd⟩:=hW
 have hA:DataW.TrodAll enc Try.prog W 0 (fun _=>true) true Try.f5.params.toList args.toList ds p:=hA0
 rw [Try.params5] at hA hval hsz
 obtain ⟨v0,v1,d0,d1,p0,p1,rfl,rfl,rfl,h0,h1⟩:=trodAll_two hA
 obtain ⟨rfl,rfl⟩:=trodVars_none hV
 obtain ⟨z,rfl,rfl,rfl,wz⟩:=open_int Try.underlying3 (hval 0 3 v0 rfl rfl) h0
 have shl:=again (by kernel_rfl) (of_decide_eq_true (by kernel_rfl)) h1
 obtain ⟨spl,capl,l,rfl,inl,lel,nill,maxl⟩:=arg_Ops (fitWok H) (hval 1 22 v1 rfl rfl) h1 (fun n hn=>of_decide_eq_true (List.all_eq_true.1 hsz n (DataW.weights_mem_each (j:=1) rfl rfl n hn)))
 clear hA0 hval0
 simp only [List.append_nil,List.nil_append] at hW'
 refine (law_InboxBounds vin_any z (i64_of wz) spl capl l maxl W inl).mono fun e W' ⟨he,hlow⟩=>?_; subst he
 exact ⟨_,rfl,_,_,_,[],p1,[],hW',trodAll_mk1 (shut_bool Try.underlying4 _),(by have h:=trodAll_mk2 (shut_int Try.underlying3 wz) (shl W' hlow); simp only [List.nil_append] at h; exact h),rfl,hlow.frame _,fun h=>by cases h⟩
theorem inboxBounds_holds:Rows.InboxBoundsSaid :=
 OpenClaim.holds_of_wide 5 Try.f5 rfl rfl rfl rfl rfl rfl rfl ⟨rfl,rfl,rfl,rfl,rfl⟩ rfl rfl rfl rfl rfl (by kernel_rfl) Try.func5 (by kernel_rfl)
  (of_decide_eq_true (by kernel_rfl)) (by unfold Func.isWrapper; first | (rw [if_pos (by decide +kernel)]; kernel_rfl) | (rw [if_neg (by decide +kernel)]; exact ⟨rfl,rfl⟩))
  (fun os started H enc _=>inboxBounds_lifted os started H enc)
#print axioms inboxBounds_holds
end
end Go.Proofs.Ytcjahbdlaojnoaa
