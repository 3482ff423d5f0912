/- PROVED: sheavelaw19.InboxOrder answers true for every input (any bytes, any pieces of them), and leaves it as it was. Its conditions: a slice that comes in takes no more memory than a process can have (the form's own reach). -/
import Derived.Test.YtcjahbdlaojnoaaP6InboxOrder
set_option maxRecDepth 100000
set_option maxHeartbeats 64000000
namespace Go.Proofs.Ytcjahbdlaojnoaa
open Go.RowKit
section
open Go.ChangeShapes Go.WideShapes Go.ChangeAt Go.WideMaps Go.WideElems Go.RowKit
theorem inboxOrder_lifted (os:Os) (started:os.Started) (H:Type) (enc:TypeId × Value→H) :
 ReturnsInHanded {} Try.checked os 4 .any (Rows.inboxOrderSpec.pre6 enc Try.prog Try.f4 [] false) (Rows.inboxOrderSpec.post enc Try.prog Try.f4 false true false false):=by
 refine returnsInHanded_of_change_sized (C:=Try.checked) own started (by kernel_rfl) Try.func4
  (ChangeSpec.witness6 (enc:=enc) (C:=Try.checked) (s:=Rows.inboxOrderSpec) false ⟨#[],#[.slice none 0 0,.slice none 0 0,.slice none 0 0],[]⟩ 8 (by kernel_rfl) (by kernel_rfl) (by kernel_rfl) (by kernel_rfl)) ?_
 intro W base args ds gs before hval0 hW _ hsz0 _
 have hval:∀ (j:Nat) t v,Try.f4.params[j]?=some t→args[j]?=some v→Value.okWide Try.prog W .any base t v:=hval0
 have hsz:(DataW.weightsEach Try.prog (Try.f4.params.toList++Rows.inboxOrderSpec.plain.varTypes Try.prog) (ds++gs)).all (·≤reachBytes)=true:=hsz0
 have hW':=hW
 obtain ⟨p,q,hA0,hV,rfl,hfz,hnd⟩:=hW
 have hA:DataW.TrodAll enc Try.prog W 0 (fun _=>true) true Try.f4.params.toList args.toList ds p:=hA0
 rw [Try.params4] at hA hval hsz
 obtain ⟨v0,v1,v2,d0,d1,d2,p0,p1,p2,rfl,rfl,rfl,h0,h1,h2⟩:=trodAll_three hA
 obtain ⟨rfl,rfl⟩:=trodVars_none hV
 have shb:=again (by kernel_rfl) (of_decide_eq_true (by kernel_rfl)) h0
 obtain ⟨spb,capb,b,rfl,srcb,leb,nilb,maxb,byb⟩:=arg_bytes (fitWok H) (hval 0 28 v0 rfl rfl) h0 (fun n hn=>of_decide_eq_true (List.all_eq_true.1 hsz n (DataW.weights_mem_each (j:=0) rfl rfl n hn)))
 have shl:=again (by kernel_rfl) (of_decide_eq_true (by kernel_rfl)) h1
 obtain ⟨spl,capl,l,rfl,inl,lel,nill,maxl⟩:=arg_ints (fitWok H) (hval 1 37 v1 rfl rfl) h1 (fun n hn=>of_decide_eq_true (List.all_eq_true.1 hsz n (DataW.weights_mem_each (j:=1) rfl rfl n hn)))
 have shx:=again (by kernel_rfl) (of_decide_eq_true (by kernel_rfl)) h2
 obtain ⟨spx,capx,x,rfl,inx,lex,nilx,maxx⟩:=arg_ints (fitWok H) (hval 2 37 v2 rfl rfl) h2 (fun n hn=>of_decide_eq_true (List.all_eq_true.1 hsz n (DataW.weights_mem_each (j:=2) rfl rfl n hn)))
 clear hA0 hval0
 simp only [List.append_nil] at hW'
 refine (law_InboxOrder vin_any spb capb b maxb leb nilb byb spl capl l maxl inl.2 spx capx x maxx inx.2 W srcb inl.1 inx.1).mono fun e W' ⟨he,hlow⟩=>?_; subst he
 exact ⟨_,rfl,_,_,_,[],p0++(p1++p2),[],hW',trodAll_mk1 (shut_bool Try.underlying4 _),trodAll_mk3 (shb W' hlow) (shl W' hlow) (shx W' hlow),rfl,hlow.frame _,fun h=>by cases h⟩
theorem inboxOrder_holds:Rows.InboxOrderSaid :=
 OpenClaim.holds_of_wide 4 Try.f4 rfl rfl rfl rfl rfl rfl rfl ⟨rfl,rfl,rfl,rfl,rfl⟩ rfl rfl rfl rfl rfl (by kernel_rfl) Try.func4 (by kernel_rfl)
  (of_decide_eq_true (by kernel_rfl)) (by unfold Func.isWrapper; first | (rw [if_pos (by decide +kernel)]; kernel_rfl) | (rw [if_neg (by decide +kernel)]; exact ⟨rfl,rfl⟩))
  (fun os started H enc _=>inboxOrder_lifted os started H enc)
#print axioms inboxOrder_holds
end
end Go.Proofs.Ytcjahbdlaojnoaa
