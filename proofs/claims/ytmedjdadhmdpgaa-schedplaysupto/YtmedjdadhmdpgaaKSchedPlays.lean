/- PROVED: sheavelaw21.SchedPlays answers true for every input that holds at most 1048576 values (any policy, any row of calls), and leaves it as it was. Its conditions: the arguments' bulk is at most 1048576 (the second form). -/
import Derived.Test.YtmedjdadhmdpgaaP9SchedPlays
import Derived.Test.YtmedjdadhmdpgaaP10SchedPlays
set_option maxRecDepth 100000
set_option maxHeartbeats 64000000
namespace Go.Proofs.Ytmedjdadhmdpgaa
open Go.RowKit
section
open Go.ChangeShapes Go.WideShapes Go.ChangeAt Go.WideMaps Go.WideElems Go.RowKit
theorem schedPlays_lifted (os:Os) (started:os.Started) (H:Type) (enc:TypeId × Value→H) (F:Stop.Interp) :
 ReturnsInHanded {} Try.checked os 3 .any ((Rows.OpenSpec.upto Rows.schedPlaysSpec).pre6 enc Try.prog Try.f3 Rows.schedPlaysUptoRow.domain false) (((Rows.OpenSpec.upto Rows.schedPlaysSpec).at F).post enc Try.prog Try.f3 false true false false):=by
 refine returnsInHanded_of_cond (C:=Try.checked) (s:=Rows.OpenSpec.upto Rows.schedPlaysSpec) (k:=Rows.uptoSmall) rfl own started (by kernel_rfl) Try.func3
  (OpenSpec.witness (enc:=enc) (C:=Try.checked) (s:=Rows.OpenSpec.upto Rows.schedPlaysSpec) (k:=Rows.uptoSmall) rfl false ⟨#[],#[.int .i64 0,.slice none 0 0],[]⟩ 8 (by kernel_rfl) (by kernel_rfl) (by kernel_rfl)
   (x:=([.lit (.int .i64 0),.nil],[],[])) (by kernel_rfl) rfl (by kernel_rfl)) ?_
 intro W base args ds gs before hval0 hW _ hk0 _
 have hval:∀ (j:Nat) t v,Try.f3.params[j]?=some t→args[j]?=some v→Value.okWide Try.prog W .any base t v:=hval0
 have hbk:=bulk_bound hk0
 have hW':=hW
 obtain ⟨p,q,hA0,hV,rfl,hfz,hnd⟩:=hW
 have hA:DataW.TrodAll enc Try.prog W 0 (fun _=>true) true Try.f3.params.toList args.toList ds p:=hA0
 rw [Try.params3] at hA hval
 obtain ⟨v0,v1,d0,d1,p0,p1,rfl,rfl,rfl,h0,h1⟩:=trodAll_two hA
 obtain ⟨rfl,rfl⟩:=trodVars_none hV
 obtain ⟨p,rfl,rfl,rfl,wp⟩:=open_int Try.underlying3 (hval 0 3 v0 rfl rfl) h0
 have shl:=again (by kernel_rfl) (of_decide_eq_true (by kernel_rfl)) h1
 obtain ⟨spl,capl,l,rfl,inl,lel,nill,maxl⟩:=arg_Ops (fitBok H) (hval 1 22 v1 rfl rfl) h1 (xnT (bulk_mem (List.mem_append_left _ (mT _ mS))) hbk)
 clear hA0 hval0
 simp only [List.append_nil,List.nil_append] at hW'
 refine (law_SchedPlays vsch_any dch_any vtw_any p (i64_of wp) spl capl l maxl W inl).mono fun e W' ⟨he,hlow⟩=>?_; subst he
 exact ⟨_,rfl,_,_,_,[],p1,[],hW',trodAll_mk1 (shut_bool Try.underlying4 _),(by have h:=trodAll_mk2 (shut_int Try.underlying3 wp) (shl W' hlow); simp only [List.nil_append] at h; exact h),rfl,hlow.frame _,fun h=>by cases h⟩
theorem schedPlaysUpto_holds:Rows.SchedPlaysUptoSaid :=
 OpenClaim.holds_of_cond 3 Try.f3 rfl rfl rfl rfl rfl rfl rfl ⟨rfl,rfl,rfl,rfl,rfl⟩ rfl rfl rfl rfl rfl (by kernel_rfl) Try.func3 (by kernel_rfl)
  (of_decide_eq_true (by kernel_rfl)) (by unfold Func.isWrapper; first | (rw [if_pos (by decide +kernel)]; kernel_rfl) | (rw [if_neg (by decide +kernel)]; exact ⟨rfl,rfl⟩))
  (fun os started H enc _ F=>schedPlays_lifted os started H enc F)
#print axioms schedPlaysUpto_holds
end
end Go.Proofs.Ytmedjdadhmdpgaa
