/- PROVED: sheavelaw17.RangesGaps answers true for every input (any row of calls, any two numbers), and leaves it as it was. Its conditions: a slice that comes in takes no more memory than a process can have (the form's own reach). -/
import Derived.Test.YtakfcgbiodfmhaaP4RangesGaps
set_option maxRecDepth 100000
set_option maxHeartbeats 64000000
namespace Go.Proofs.Ytakfcgbiodfmhaa
open Go.RowKit
section
open Go.ChangeShapes Go.WideShapes Go.ChangeAt Go.WideMaps Go.WideElems Go.RowKit
theorem rangesGaps_lifted (os:Os) (started:os.Started) (H:Type) (enc:TypeId × Value→H) :
 ReturnsInHanded {} Try.checked os 5 .any (Rows.rangesGapsSpec.pre6 enc Try.prog Try.f5 [] false) (Rows.rangesGapsSpec.post enc Try.prog Try.f5 false true false false):=by
 refine returnsInHanded_of_change_sized (C:=Try.checked) own started (by kernel_rfl) Try.func5
  (ChangeSpec.witness6 (enc:=enc) (C:=Try.checked) (s:=Rows.rangesGapsSpec) false ⟨#[],#[.slice none 0 0,.int .i64 0,.int .i64 0],[]⟩ 8 (by kernel_rfl) (by kernel_rfl) (by kernel_rfl) (by kernel_rfl)) ?_
 intro W base args ds gs before hval0 hW _ hsz0 _
 have hval:∀ (j:Nat) t v,Try.f5.params[j]?=some t→args[j]?=some v→Value.okWide Try.prog W .any base t v:=hval0
 have hsz:(DataW.weightsEach Try.prog (Try.f5.params.toList++Rows.rangesGapsSpec.plain.varTypes Try.prog) (ds++gs)).all (·≤reachBytes)=true:=hsz0
 have hW':=hW
 obtain ⟨p,q,hA0,hV,rfl,hfz,hnd⟩:=hW
 have hA:DataW.TrodAll enc Try.prog W 0 (fun _=>true) true Try.f5.params.toList args.toList ds p:=hA0
 rw [Try.params5] at hA hval hsz
 obtain ⟨v0,v1,v2,d0,d1,d2,p0,p1,p2,rfl,rfl,rfl,h0,h1,h2⟩:=trodAll_three hA
 obtain ⟨rfl,rfl⟩:=trodVars_none hV
 have shl:=again (by kernel_rfl) (of_decide_eq_true (by kernel_rfl)) h0
 obtain ⟨spl,capl,l,rfl,inl,lel,nill,maxl⟩:=arg_Ops (fitWok H) (hval 0 22 v0 rfl rfl) h0 (fun n hn=>of_decide_eq_true (List.all_eq_true.1 hsz n (DataW.weights_mem_each (j:=0) rfl rfl n hn)))
 obtain ⟨c,rfl,rfl,rfl,wc⟩:=open_int Try.underlying3 (hval 1 3 v1 rfl rfl) h1
 obtain ⟨d,rfl,rfl,rfl,wd⟩:=open_int Try.underlying3 (hval 2 3 v2 rfl rfl) h2
 clear hA0 hval0
 simp only [List.append_nil] at hW'
 refine (law_RangesGaps vrng_any spl capl l maxl c d (i64_of wc) (i64_of wd) W inl).mono fun e W' ⟨he,hlow⟩=>?_; subst he
 exact ⟨_,rfl,_,_,_,[],p0,[],hW',trodAll_mk1 (shut_bool Try.underlying4 _),(by have h:=trodAll_mk3 (shl W' hlow) (shut_int Try.underlying3 wc) (shut_int Try.underlying3 wd); simp only [List.append_nil] at h; exact h),rfl,hlow.frame _,fun h=>by cases h⟩
theorem rangesGaps_holds:Rows.RangesGapsSaid :=
 OpenClaim.holds_of_wide 5 Try.f5 rfl rfl rfl rfl rfl rfl rfl ⟨rfl,rfl,rfl,rfl,rfl⟩ rfl rfl rfl rfl rfl (by kernel_rfl) Try.func5 (by kernel_rfl)
  (of_decide_eq_true (by kernel_rfl)) (by unfold Func.isWrapper; first | (rw [if_pos (by decide +kernel)]; kernel_rfl) | (rw [if_neg (by decide +kernel)]; exact ⟨rfl,rfl⟩))
  (fun os started H enc _=>rangesGaps_lifted os started H enc)
#print axioms rangesGaps_holds
end
end Go.Proofs.Ytakfcgbiodfmhaa
