/- Texts of Sn So Opn Open16 Tb Door16, joined. -/
import Derived.Test.YtknodedhcdpbiaaGreatDoorP15GuardEnds
import Derived.ProofKit
import Derived.LaidMore
import Derived.OpenShut
import Derived.Deep.Strs
import Derived.Stop.Joined
import Derived.Test.YtknodedhcdpbiaaGreatDoorRows
set_option maxRecDepth 20000
set_option maxHeartbeats 64000000
namespace Go.Proofs.YtknodedhcdpbiaaGreatDoor
open Go.RowKit
section
open Go.RowKit Go.MapKept Go.ChangeMaps Go.WideShapes
theorem results_q4 {fn:Func} {t u v x:Tmp} (h:fn.results=#[.tmp t,.tmp u,.tmp v,.tmp x]) (tmps:Array Value) (P:Program) (w:World):(results fn tmps).run P w=.ok (.tuple #[tmps.getD t undef,tmps.getD u undef,tmps.getD v undef,tmps.getD x undef]) w:=by simp [results,h]
theorem cell_lt16 {w:World} {a:Addr} {v:Value} (h:w.cell? a=some v):a.block<w.heap.size:=by
 rcases Nat.lt_or_ge a.block w.heap.size with h1 | h1
 · exact h1
 · unfold World.cell? at h
   rw [Array.getElem?_eq_none h1] at h
   cases h
theorem pps_err_ne {b:List Int} {e:Int} (h:pps b=.error e):¬ e=0:=by
 by_cases c:b.length=0∨(bl b 0=3∧b.length<27)
 · rw [pps_short c] at h
   cases h
   decide
 · cases ho:pok (prs b) with
   | false =>
     rw [pps_bad c ho] at h
     cases h
     decide
   | true =>
     unfold pps at h
     rw [if_neg c,ho] at h
     cases h
theorem PV.lt {w:World} {p:Pkt} {bp:Option Addr} {bc:Nat} (h:PV w p bp bc):∀ ad,bp=some ad→0<p.body.length→ad.block<w.heap.size:=fun ad e h0=>by
 obtain ⟨a,e',hc⟩:=h.src 0 h0
 rw [e] at e'
 cases e'
 have hb:=cell_lt16 hc
 rw [add_block] at hb
 exact hb
theorem ps_pok {b:List Int} (hb:Byts b) (h:psE b=0):pps b=.ok (psP b)∧((psP b).kind=3→pok (psP b)=true):=by
 cases hp:pps b with
 | error e =>
   have:=(ps_err hp).2
   rw [h] at this
   exact absurd this.symm (pps_err_ne hp)
 | ok p =>
   rw [(ps_ok hp).1]
   refine ⟨rfl,fun _=>?_⟩
   have h1:=ppr_pps hb hp
   unfold ppr at h1
   by_cases c:pok p=true
   · exact c
   · rw [if_neg c] at h1; cases h1
theorem op_perm {α:Type} {a c:α} {k m n p A B t:List α}:(k++(a::c::(m++(n++(p++(A++(B++t))))))).Perm (c::(m++(n++(p++(A++(B++(a::(k++t)))))))):=by
 classical
 exact List.perm_iff_count.2 fun x=>by simp only [List.count_append,List.count_cons]; ac_rfl
theorem op_in {α:Type} {a c:α} {m n p A B t:List α}:(a::c::(m++(n++(p++(A++(B++t)))))).Perm (c::(m++(n++(p++(A++(B++(a::t))))))):=by
 classical
 exact List.perm_iff_count.2 fun x=>by simp only [List.count_append,List.count_cons]; ac_rfl
theorem op_lt {α:Type} {c:α} {m n p A B t:List α}:(c::(m++(n++(p++(A++(B++t)))))).Perm ((c::(n++(p++(A++B))))++(m++t)):=by
 classical
 exact List.perm_iff_count.2 fun x=>by simp only [List.count_append,List.count_cons]; ac_rfl
theorem op_dis {w0 w:World} {R:Nat} {cs:List Value} {m n p A B T:List (Nat × List Value)} (M:Mm w0 ((R,cs)::(m++(n++(p++(A++(B++T)))))) w):∀ y∈m,y.1∉R::((n++(p++(A++B))).map Prod.fst):=by
 have h:=mk_disj (a:=(R,cs)::(n++(p++(A++B)))) (b:=m) (M.perm op_lt) ((List.Sublist.refl _).append (List.sublist_append_left _ _))
 exact h
def Opened (w0 w w':World) (R:Nat) (T:List (Nat × List Value)) (g:Grd) (mc:Option Nat) (X:List Nat):Prop:=∃ m0 m1 L0 L1,Mm w0 ((R,gcf g.role g.out g.inn mc m0 m1)::(mbs mc++(mbs m0++(mbs m1++(L0.map Prod.snd++(L1.map Prod.snd++T)))))) w'∧Cts w' mc g.cnt∧Wns w' m0 L0 (g.win g.inn.e)∧Wns w' m1 L1 (g.win (g.inn.e-1))∧Off X w w'
theorem gbs_err {g:Grd} {b:List Int} (h:¬ psE b=0):gbE g b=psE b∧gbP g b=0∧gbC g b=0∧gbT g b=[]∧gbN g b=g:=by
 cases hp:pps b with
 | ok p=>exact absurd (ps_ok hp).2 h
 | error e=>unfold gbE gbP gbC gbT gbN; rw [hp]; exact ⟨(ps_err hp).2.symm,rfl,rfl,rfl,rfl⟩
theorem gbs_no {g:Grd} {b:List Int} {p:Pkt} (hp:pps b=.ok p) (h:¬ goR g p=0):gbE g b=goR g p∧gbP g b=0∧gbC g b=0∧gbT g b=[]∧gbN g b=g:=by
 unfold gbE gbP gbC gbT gbN
 rw [hp]
 exact ⟨rfl,if_neg h,if_neg h,if_neg h,goN_err h⟩
theorem gbs_ok {g:Grd} {b:List Int} {p:Pkt} (hp:pps b=.ok p) (h:goR g p=0):gbE g b=0∧gbP g b=p.path∧gbC g b=p.ctr∧gbT g b=goT g p∧gbN g b=gmk (if p.epo=g.inn.e+1 then gon g else g) p:=⟨(gbE_of hp).trans h,gbP_of hp h,gbC_of hp h,(gbT_of hp h).trans (goT_ok h).symm,(gbN_of hp).trans (goN_ok h)⟩
theorem gopen_any (w0 w:World) (R:Nat) (T:List (Nat × List Value)) (g:Grd) (mc m0 m1:Option Nat) (L0 L1:Wls) (hg:GGlob w0) (hw:GrdW g) (C:Cts w mc g.cnt) (W0:Wns w m0 L0 (g.win g.inn.e)) (W1:Wns w m1 L1 (g.win (g.inn.e-1))) (sp:Option Addr) (cap:Nat) (b:List Int) (hlen:b.length≤140737488351232) (hcap:b.length≤cap) (hnil:sp=none→cap=0) (hb:Byts b) (hs0:Src w sp b.length (bl b)) (M:Mm w0 ((R,gcf g.role g.out g.inn mc m0 m1)::(mbs mc++(mbs m0++(mbs m1++(L0.map Prod.snd++(L1.map Prod.snd++T)))))) w) :
 Calls Tryz.prog 15 #[.pointer (some ⟨R,0,none⟩),.slice sp b.length cap] w fun e' w'=>∃ sq cq,e'=.returned (.tuple #[.int .i64 (gbP g b),.int .i64 (gbC g b),.slice sq (gbT g b).length cq,.int .i64 (gbE g b)])∧NewL w' w.heap.size (gbT g b) (.slice sq (gbT g b).length cq)∧Opened w0 w w' R (obs sq++T) (gbN g b) mc (R::((mbs m0++(mbs m1++(L0.map Prod.snd++L1.map Prod.snd))).map Prod.fst)):=by
 have hbs:∀ y∈R::((mbs m0++(mbs m1++(L0.map Prod.snd++L1.map Prod.snd))).map Prod.fst),y<w.heap.size:=fun y hy=>(M.perm op_lt).lts (g:=(R,gcf g.role g.out g.inn mc m0 m1)::(mbs m0++(mbs m1++(L0.map Prod.snd++L1.map Prod.snd)))) (t:=mbs mc++T) y hy
 have hcs:∀ y∈mbs mc,y.1∉R::((mbs m0++(mbs m1++(L0.map Prod.snd++L1.map Prod.snd))).map Prod.fst):=op_dis M
 replace M:Mm w0 ((R,[[Value.int .i64 g.role],kck g.out,kck g.inn,[Value.map mc],[Value.map m0],[Value.map m1]].flatten)::(mbs mc++(mbs m0++(mbs m1++(L0.map Prod.snd++(L1.map Prod.snd++T)))))) w:=M
 have hb0:=M.below; have hwz:=xnR w.heap.size; have OF:=Off.refl [] w
 go_enter Tryz.func15,Tryz.ntmps15
 go_upto_region 0 with fail; refine wp_region_list ?_; refine xpL (.int .i64 0) ?_; refine xpL (.int .i64 0) ?_; refine xpL (.slice none 0 0) ?_; refine xpL (.int .i64 0) ?_; refine xT ?_; go_upto_region 1 with fail; refine wp_region_list ?_; refine xpL (.slice sp b.length cap) ?_; refine xcL (vparse_any sp cap b _ (hg.p.mm M) hlen hcap hnil hb hs0) ?_; rintro e w1 ⟨⟨bp,bc,rfl,PV⟩,l⟩
 replace M:=M.call l; replace hwz:=xnT hwz l.size; replace OF:=OF.below l; clear l; have PVlt:=PV.lt; refine xeL ?_; refine xpL (.tuple #[.agg #[.int .i64 ((psP b).kind),.int .i64 ((psP b).role),.int .i64 ((psP b).path),.int .i64 ((psP b).epo),.int .i64 ((psP b).ctr),.slice bp ((psP b).body.length) bc],.int .i64 (psE b)]) ?_
 refine xpL (.agg #[.int .i64 ((psP b).kind),.int .i64 ((psP b).role),.int .i64 ((psP b).path),.int .i64 ((psP b).epo),.int .i64 ((psP b).ctr),.slice bp ((psP b).body.length) bc]) ?_; refine xpL (.int .i64 (psE b)) ?_; have hlb:=(Below.refl w1.heap.size w1).alloc (xnR _) (.cells #[.int .i64 0,.int .i64 0,.int .i64 0,.int .i64 0,.int .i64 0,.slice none 0 0] 70)
 refine actL (w':=w1.alloc (.cells #[.int .i64 0,.int .i64 0,.int .i64 0,.int .i64 0,.int .i64 0,.slice none 0 0] 70)) (.pointer (some ⟨w1.heap.size,0,none⟩)) rfl (by kernel_rfl) ?_; simp only [aP,lI,l0,lS]; have hB_:=hwz; replace hwz:=xnT hwz hlb.size; replace OF:=OF.below hlb; replace PV:=PV.below hlb (xnR _)
 replace M:=M.box #[.int .i64 0,.int .i64 0,.int .i64 0,.int .i64 0,.int .i64 0,.slice none 0 0] 70 w1.heap.size rfl; clear hlb; generalize w1.alloc (.cells #[.int .i64 0,.int .i64 0,.int .i64 0,.int .i64 0,.int .i64 0,.slice none 0 0] 70)=w2 at M hwz OF PV ⊢; generalize eB_:w1.heap.size=B2 at M PVlt ⊢
 have hB_B2:w.heap.size≤B2:=by rw [← eB_]; exact hB_
 clear hB_ eB_
 replace M:Mm w0 ((B2,[.int .i64 0,.int .i64 0,.int .i64 0,.int .i64 0,.int .i64 0,.slice none 0 0])::(R,[[Value.int .i64 g.role],kck g.out,kck g.inn,[Value.map mc],[Value.map m0],[Value.map m1]].flatten)::(mbs mc++(mbs m0++(mbs m1++(L0.map Prod.snd++(L1.map Prod.snd++T)))))) w2:=M
 refine skipOpL rfl (storeP [.int .i64 ((psP b).kind),.int .i64 ((psP b).role),.int .i64 ((psP b).path),.int .i64 ((psP b).epo),.int .i64 ((psP b).ctr),.slice bp ((psP b).body.length) bc] B2 0 70 _ _ rfl rfl rfl (M.thereP mS 0 6 (Nat.le_of_ble_eq_true rfl)) (by kernel_rfl) (List.all_eq_true.1 (rfl:([.int .i64 ((psP b).kind),.int .i64 ((psP b).role),.int .i64 ((psP b).path),.int .i64 ((psP b).epo),.int .i64 ((psP b).ctr),.slice bp ((psP b).body.length) bc]:List Value).all (fun u=>u.oneCell')=true))) ?_
 simp only [Act.put]; replace M:=M.setPart [.int .i64 ((psP b).kind),.int .i64 ((psP b).role),.int .i64 ((psP b).path),.int .i64 ((psP b).epo),.int .i64 ((psP b).ctr),.slice bp ((psP b).body.length) bc] 0 (Nat.le_of_ble_eq_true rfl)
 replace hwz:=xnT hwz (Off.size ((Off.refl [B2] _).setAll (b:=B2) mS 0 [.int .i64 ((psP b).kind),.int .i64 ((psP b).role),.int .i64 ((psP b).path),.int .i64 ((psP b).epo),.int .i64 ((psP b).ctr),.slice bp ((psP b).body.length) bc]))
 replace OF:=OF.and1 ((Off.refl [B2] _).setAll (b:=B2) mS 0 [.int .i64 ((psP b).kind),.int .i64 ((psP b).role),.int .i64 ((psP b).path),.int .i64 ((psP b).epo),.int .i64 ((psP b).ctr),.slice bp ((psP b).body.length) bc]) (.inr (by omega))
 replace PV:=PV.off1' ((Off.refl [B2] _).setAll (b:=B2) mS 0 [.int .i64 ((psP b).kind),.int .i64 ((psP b).role),.int .i64 ((psP b).path),.int .i64 ((psP b).epo),.int .i64 ((psP b).ctr),.slice bp ((psP b).body.length) bc]) PVlt
 generalize w2.setCells B2 0 [.int .i64 ((psP b).kind),.int .i64 ((psP b).role),.int .i64 ((psP b).path),.int .i64 ((psP b).epo),.int .i64 ((psP b).ctr),.slice bp ((psP b).body.length) bc]=w3 at M hwz OF PV ⊢
 replace M:Mm w0 ((B2,[.int .i64 ((psP b).kind),.int .i64 ((psP b).role),.int .i64 ((psP b).path),.int .i64 ((psP b).epo),.int .i64 ((psP b).ctr),.slice bp ((psP b).body.length) bc])::(R,[[Value.int .i64 g.role],kck g.out,kck g.inn,[Value.map mc],[Value.map m0],[Value.map m1]].flatten)::(mbs mc++(mbs m0++(mbs m1++(L0.map Prod.snd++(L1.map Prod.snd++T)))))) w3:=M
 refine xpL (.int .i64 (psE b)) ?_; refine xT ?_
 by_cases h1:psE b=0
 · go_upto_region 2 with fail
   refine wp_region_list ?_; refine xpL (.int .i64 (psE b)) ?_; refine xaL (.bool false) (neqI .i64 _ _ _ _ _ _ rfl rfl rfl false (by rw [h1]; rfl) _) ?_; refine xT ?_; have hok:=ps_pok hb h1; go_upto_region 4 with fail; refine wp_region_list ?_; refine xpL (.pointer (some ⟨R,0,none⟩)) ?_
   refine xaL (.agg #[.int .i64 ((psP b).kind),.int .i64 ((psP b).role),.int .i64 ((psP b).path),.int .i64 ((psP b).epo),.int .i64 ((psP b).ctr),.slice bp ((psP b).body.length) bc]) (loadN 70 _ ⟨B2,0,none⟩ [.int .i64 ((psP b).kind),.int .i64 ((psP b).role),.int .i64 ((psP b).path),.int .i64 ((psP b).epo),.int .i64 ((psP b).ctr),.slice bp ((psP b).body.length) bc] rfl rfl (fun _=>by kernel_rfl) (fun _=>by kernel_rfl) (M.rangeAt mS)) ?_
   replace M:=M.swap; replace M:=M.swap; have MU:=M.perm op_in; have PVl2:=PV.lt; refine xcL (gunseal_any w0 _ R _ g mc m0 m1 L0 L1 hg hw (W0.off OF (fun _ _ h=>by cases h)) (W1.off OF (fun _ _ h=>by cases h)) (psP b) bp bc PV PVl2 hok.2 MU) ?_; rintro e w4 ⟨⟨v,rfl,hN⟩,l⟩
   obtain ⟨sq,cq,rfl,_,_,_,_⟩:=id hN
   have M2:=Mm.newF M l hN; replace hN:=NewF.lower hN hwz; replace M:=M.call l; replace hwz:=xnT hwz l.size; replace OF:=OF.below l; replace PV:=PV.below l (xnR _); clear l MU PVl2; refine xeL ?_; refine xpL (.tuple #[.slice sq ((goT g (psP b)).length) cq,.int .i64 (goR g (psP b))]) ?_; refine xpL (.slice sq ((goT g (psP b)).length) cq) ?_; refine xpL (.int .i64 (goR g (psP b))) ?_
   refine xpL (.slice sq ((goT g (psP b)).length) cq) ?_; refine xpL (.int .i64 (goR g (psP b))) ?_; refine xT ?_
   by_cases h2:goR g (psP b)=0
   · go_upto_region 5 with fail
     refine wp_region_list ?_; refine xpL (.int .i64 (goR g (psP b))) ?_; refine xaL (.bool false) (neqI .i64 _ _ _ _ _ _ rfl rfl rfl false (by rw [h2]; rfl) _) ?_; refine xT ?_; have hG0:=goR_ok h2; have hL:=hG0.2.2.2.1
     have hpx:0≤(psP b).path∧(psP b).path≤255:=by
      have h:=(Rec_of hG0.1 (hok.2 hG0.1)).1
      omega
     go_upto_region 7 with fail; refine wp_region_list ?_; refine xpL (.pointer (some ⟨R,0,none⟩)) ?_
     refine xaL (.agg #[.int .i64 ((psP b).kind),.int .i64 ((psP b).role),.int .i64 ((psP b).path),.int .i64 ((psP b).epo),.int .i64 ((psP b).ctr),.slice bp ((psP b).body.length) bc]) (loadN 70 _ ⟨B2,0,none⟩ [.int .i64 ((psP b).kind),.int .i64 ((psP b).role),.int .i64 ((psP b).path),.int .i64 ((psP b).epo),.int .i64 ((psP b).ctr),.slice bp ((psP b).body.length) bc] rfl rfl (fun _=>by kernel_rfl) (fun _=>by kernel_rfl) (M.rangeAt mS)) ?_
     clear M; have M:=M2.perm op_perm; clear M2; refine xcL (gmark_any w0 _ R _ g mc m0 m1 L0 L1 hg hw (W0.off OF (fun _ _ h=>by cases h)) (W1.off OF (fun _ _ h=>by cases h)) (psP b) bp bc hpx PV.ctr (goL_near hL) (fun e=>goL_next hL e) M) ?_; rintro e w5 ⟨rfl,n0,n1,K0,K1,M',V0,V1,o1⟩; clear M; have M:=M'; clear M'; replace hN:=NewF.off hN o1 hbs
     have C2:=(C.off OF (fun _ _ h=>by cases h)).off o1 hcs; have OX:=(OF.mono (Y:=R::((mbs m0++(mbs m1++(L0.map Prod.snd++L1.map Prod.snd))).map Prod.fst)) (fun _ h=>by cases h)).trans o1; replace hwz:=xnT hwz o1.size; clear OF o1 PV; have OF:=OX; clear OX; refine xeL ?_
     have ⟨l_,_,MB⟩:=M.fetch (p:=(B2,[.int .i64 ((psP b).kind),.int .i64 ((psP b).role),.int .i64 ((psP b).path),.int .i64 ((psP b).epo),.int .i64 ((psP b).ctr),.slice bp ((psP b).body.length) bc])) (by simp only [List.mem_cons,List.mem_append,true_or,or_true])
     have MR:=M; clear M; have M:=MB; clear MB; have N_h:=hN; clear hN; refine xT ?_; go_upto_region 8 with fail; refine wp_region_held_drew (S:=fun w'=>Mm w0 ((B2,[.int .i64 ((psP b).kind),.int .i64 ((psP b).role),.int .i64 ((psP b).path),.int .i64 ((psP b).epo),.int .i64 ((psP b).ctr),.slice bp ((psP b).body.length) bc])::l_) w') (by kernel_rfl) M.drew ?_; clear M; intro M
     have hdr:=(Below.refl w5.heap.size w5).drew; replace hwz:=xnT hwz hdr.size; replace OF:=OF.below hdr; replace N_h:=NewF.below N_h hdr; replace C2:=C2.below hdr; replace V0:=V0.below hdr; replace V1:=V1.below hdr; replace MR:=MR.call hdr; clear hdr; generalize w5.drew=w6 at M hwz OF N_h MR C2 V0 V1 ⊢
     refine xrH 0 29 rfl (.pointer (some ⟨B2,2,none⟩)) (fun _ M=>(by kernel_rfl)) M ?_; refine xrH 1 30 rfl (.int .i64 ((psP b).path)) (fun _ M=>load1 3 _ ⟨B2,2,none⟩ _ rfl rfl (fun _=>by kernel_rfl) (M.get mS 2 _ rfl)) M ?_; refine xrH 2 31 rfl (.pointer (some ⟨B2,4,none⟩)) (fun _ M=>(by kernel_rfl)) M ?_
     refine xrH 3 32 rfl (.int .i64 ((psP b).ctr)) (fun _ M=>load1 3 _ ⟨B2,4,none⟩ _ rfl rfl (fun _=>by kernel_rfl) (M.get mS 4 _ rfl)) M ?_; refine xrH 4 33 rfl (.slice sq ((goT g (psP b)).length) cq) (fun _ M=>(by kernel_rfl)) M ?_; refine xrH 5 4 rfl (.int .i64 ((psP b).path)) (fun _ M=>(by kernel_rfl)) M ?_
     refine xrH 6 5 rfl (.int .i64 ((psP b).ctr)) (fun _ M=>(by kernel_rfl)) M ?_; refine xrH 7 6 rfl (.slice sq ((goT g (psP b)).length) cq) (fun _ M=>(by kernel_rfl)) M ?_; refine xrH 8 7 rfl (.int .i64 0) (fun _ M=>(by kernel_rfl)) M ?_
     refine wpAnyH_done (by kernel_rfl) ?_ _
     first | show Exit.then _ _ _ _ _ | show Exit.inBlock _ _ _ _ _
     have hG:=show Hid _ from (gbs_ok (g:=g) hok.1 h2); replace MR:=(MR.sub _ (List.Sublist.cons_cons _ ((List.Sublist.refl _).append ((List.Sublist.refl _).append ((List.Sublist.refl _).append ((List.Sublist.refl _).append ((List.Sublist.refl _).append (List.Sublist.cons _ (List.Sublist.refl _)))))))))
     have hct:(gmk (if (psP b).epo=g.inn.e+1 then gon g else g) (psP b)).cnt=g.cnt:=by split <;> rfl
     rw [← hct] at C2
     have HS:=show Hid _ from (And.intro N_h (And.intro MR (And.intro C2 (And.intro V0 (And.intro V1 OF))))); clear M MR OF N_h C2 V0 V1 hbs hcs C W0 W1 hG0 hL hok; go_wp2
     (try simp only [Exit.inBlock,Exit.then])
     refine bodyPost_ret (results_q4 rfl _ _ _) rfl ?_
     obtain ⟨h1_,h2_,h3_,h4_,h5_⟩:=hG.out
     rw [h1_,h2_,h3_,h4_,h5_]
     exact ⟨sq,cq,rfl,HS.out.1,n0,n1,K0,K1,HS.out.2.1,HS.out.2.2.1,HS.out.2.2.2.1,HS.out.2.2.2.2.1,HS.out.2.2.2.2.2⟩
   go_upto_region 5 with fail; refine wp_region_list ?_; refine xpL (.int .i64 (goR g (psP b))) ?_; refine xaL (.bool true) (neqI .i64 _ _ _ _ _ _ rfl rfl rfl true (by rw [bne_iff_ne]; exact h2) _) ?_; refine xT ?_; go_upto_region 6 with fail; refine wp_region_list ?_; refine xpL (.int .i64 (goR g (psP b))) ?_; refine xpL (.int .i64 0) ?_; refine xpL (.int .i64 0) ?_
   refine xpL (.slice none 0 0) ?_; refine xpL (.int .i64 (goR g (psP b))) ?_; refine xT ?_; replace M:=M.tail; have hG:=show Hid _ from (gbs_no (g:=g) hok.1 h2); have OX:=OF.mono (Y:=R::((mbs m0++(mbs m1++(L0.map Prod.snd++L1.map Prod.snd))).map Prod.fst)) (fun _ h=>by cases h)
   have HS:=show Hid _ from (And.intro M (And.intro (C.off OF (fun _ _ h=>by cases h)) (And.intro (W0.off OF (fun _ _ h=>by cases h)) (And.intro (W1.off OF (fun _ _ h=>by cases h)) OX)))); clear M OF OX PV hbs hcs C W0 W1
   try clear hN
   try clear M2
   go_wp2
   (try simp only [Exit.inBlock,Exit.then])
   refine bodyPost_ret (results_q4 rfl _ _ _) rfl ?_
   obtain ⟨h1_,h2_,h3_,h4_,h5_⟩:=hG.out
   rw [h1_,h2_,h3_,h4_,h5_]
   exact ⟨none,0,rfl,NewF.nil _ _ _,m0,m1,L0,L1,HS.out.1,HS.out.2.1,HS.out.2.2.1,HS.out.2.2.2.1,HS.out.2.2.2.2⟩
 go_upto_region 2 with fail; refine wp_region_list ?_; refine xpL (.int .i64 (psE b)) ?_; refine xaL (.bool true) (neqI .i64 _ _ _ _ _ _ rfl rfl rfl true (by rw [bne_iff_ne]; exact h1) _) ?_; refine xT ?_; go_upto_region 3 with fail; refine wp_region_list ?_; refine xpL (.int .i64 (psE b)) ?_; refine xpL (.int .i64 0) ?_; refine xpL (.int .i64 0) ?_; refine xpL (.slice none 0 0) ?_
 refine xpL (.int .i64 (psE b)) ?_; refine xT ?_; replace M:=M.tail; have hG:=show Hid _ from (gbs_err (g:=g) h1); have OX:=OF.mono (Y:=R::((mbs m0++(mbs m1++(L0.map Prod.snd++L1.map Prod.snd))).map Prod.fst)) (fun _ h=>by cases h)
 have HS:=show Hid _ from (And.intro M (And.intro (C.off OF (fun _ _ h=>by cases h)) (And.intro (W0.off OF (fun _ _ h=>by cases h)) (And.intro (W1.off OF (fun _ _ h=>by cases h)) OX)))); clear M OF OX PV hbs hcs C W0 W1
 try clear hN
 try clear M2
 go_wp2
 (try simp only [Exit.inBlock,Exit.then])
 refine bodyPost_ret (results_q4 rfl _ _ _) rfl ?_
 obtain ⟨h1_,h2_,h3_,h4_,h5_⟩:=hG.out
 rw [h1_,h2_,h3_,h4_,h5_]
 exact ⟨none,0,rfl,NewF.nil _ _ _,m0,m1,L0,L1,HS.out.1,HS.out.2.1,HS.out.2.2.1,HS.out.2.2.2.1,HS.out.2.2.2.2⟩
end
section
open Go.RowKit Go.MapKept Go.ChangeMaps Go.WideShapes
def gbk (R:Nat) (g:Grd) (mc m0 m1:Option Nat) (L0 L1:Wls):List (Nat × List Value):=(R,gcf g.role g.out g.inn mc m0 m1)::(mbs mc++(mbs m0++(mbs m1++(L0.map Prod.snd++L1.map Prod.snd))))
theorem gbk_app (R:Nat) (g:Grd) (mc m0 m1:Option Nat) (L0 L1:Wls) (l:List (Nat × List Value)):gbk R g mc m0 m1 L0 L1++l=(R,gcf g.role g.out g.inn mc m0 m1)::(mbs mc++(mbs m0++(mbs m1++(L0.map Prod.snd++(L1.map Prod.snd++l))))):=by
 unfold gbk
 simp only [List.cons_append,List.append_assoc]
def GI:GrdI:=fun w v g bs=>∃ R mc m0 m1 L0 L1,v=.pointer (some ⟨R,0,none⟩)∧bs=gbk R g mc m0 m1 L0 L1∧Cts w mc g.cnt∧Wns w m0 L0 (g.win g.inn.e)∧Wns w m1 L1 (g.win (g.inn.e-1))
theorem gbk_mc {R:Nat} {g:Grd} {mc m0 m1:Option Nat} {L0 L1:Wls} {p:Nat × List Value} (h:p∈mbs mc):p.1∈(gbk R g mc m0 m1 L0 L1).map Prod.fst:=List.mem_map.2 ⟨p,mT _ (List.mem_append_left _ h),rfl⟩
theorem gbk_m0 {R:Nat} {g:Grd} {mc m0 m1:Option Nat} {L0 L1:Wls} {p:Nat × List Value} (h:p∈mbs m0):p.1∈(gbk R g mc m0 m1 L0 L1).map Prod.fst:=List.mem_map.2 ⟨p,mT _ (List.mem_append_right _ (List.mem_append_left _ h)),rfl⟩
theorem gbk_m1 {R:Nat} {g:Grd} {mc m0 m1:Option Nat} {L0 L1:Wls} {p:Nat × List Value} (h:p∈mbs m1):p.1∈(gbk R g mc m0 m1 L0 L1).map Prod.fst:=List.mem_map.2 ⟨p,mT _ (List.mem_append_right _ (List.mem_append_right _ (List.mem_append_left _ h))),rfl⟩
theorem gbk_rc {R:Nat} {g:Grd} {mc m0 m1:Option Nat} {L0 L1:Wls} {y:Nat} (h:y∈R::(mbs mc).map Prod.fst):y∈(gbk R g mc m0 m1 L0 L1).map Prod.fst:=by
 rcases xc1 h with rfl | h
 · exact mS
 · obtain ⟨p,hp,rfl⟩:=List.mem_map.1 h
   exact gbk_mc hp
theorem gbk_rx {R:Nat} {g:Grd} {mc m0 m1:Option Nat} {L0 L1:Wls} {y:Nat} (h:y∈R::((mbs m0++(mbs m1++(L0.map Prod.snd++L1.map Prod.snd))).map Prod.fst)):y∈(gbk R g mc m0 m1 L0 L1).map Prod.fst:=by
 rcases xc1 h with rfl | h
 · exact mS
 · obtain ⟨p,hp,rfl⟩:=List.mem_map.1 h
   exact List.mem_map.2 ⟨p,mT _ (List.mem_append_right _ hp),rfl⟩
section
variable {w0 w w':World} {R:Nat} {g:Grd} {mc m0 m1:Option Nat} {L0 L1:Wls} {l:List (Nat × List Value)}
theorem gside (M:Mm w0 (gbk R g mc m0 m1 L0 L1++l) w):(∀ y∈mbs m0,y.1∉R::(mbs mc).map Prod.fst)∧(∀ y∈mbs m1,y.1∉R::(mbs mc).map Prod.fst):=by
 rw [gbk_app] at M
 exact ⟨Mm.aside (g:=(R,_)::mbs mc) M (fun p hp=>List.mem_append_left _ hp),Mm.aside (g:=(R,_)::mbs mc) M (fun p hp=>List.mem_append_right _ (List.mem_append_left _ hp))⟩
end
theorem so_perm {α:Type} {c:α} {m n p A B o t:List α}:(c::(m++(o++(n++(p++(A++(B++t))))))).Perm (c::(m++(n++(p++(A++(B++(o++t))))))):=by
 classical
 exact List.perm_iff_count.2 fun x=>by simp only [List.count_append,List.count_cons]; ac_rfl
theorem gsN_same (g:Grd) (p:Int) (n:Nat):(gsN g p n).role=g.role∧(gsN g p n).out=g.out∧(gsN g p n).inn=g.inn∧(gsN g p n).win=g.win:=by
 unfold gsN
 split <;> exact ⟨rfl,rfl,rfl,rfl⟩
theorem gkN_same (g:Grd) (p n:Int):(gkN g p n).role=g.role∧(gkN g p n).out=g.out∧(gkN g p n).inn=g.inn∧(gkN g p n).win=g.win∧(gkN g p n).cnt=skN g.cnt p n:=by
 unfold gkN skN
 have e:gkE g p n=skE g.cnt p n:=rfl
 rw [e]
 split <;> exact ⟨rfl,rfl,rfl,rfl,rfl⟩
theorem gaN_same (g:Grd):(gaN g).role=g.role∧(gaN g).out=yad g.out∧(gaN g).inn=g.inn∧(gaN g).win=g.win∧(gaN g).cnt=avN g.out g.cnt:=by
 unfold gaN avN
 by_cases c:65535≤g.out.e
 · rw [if_pos c,if_pos c,yad_end c]
   exact ⟨rfl,rfl,rfl,rfl,rfl⟩
 · rw [if_neg c,if_neg c]
   exact ⟨rfl,rfl,rfl,rfl,rfl⟩
theorem gbk_as {R:Nat} {g g':Grd} {mc m0 m1:Option Nat} {L0 L1:Wls} (h1:g'.role=g.role) (h2:g'.out=g.out) (h3:g'.inn=g.inn):gbk R g' mc m0 m1 L0 L1=gbk R g mc m0 m1 L0 L1:=by
 unfold gbk
 rw [h1,h2,h3]
theorem vgrd_any:GrdOK GI where
 ptr:=fun _ _ _ _ ⟨R,_,_,_,_,_,h,_⟩=>⟨R,h⟩
 off:=fun w w' v g bs X ⟨R,mc,m0,m1,L0,L1,hv,hb,hc,h0,h1⟩ o hX=>by
  subst hb
  exact ⟨R,mc,m0,m1,L0,L1,hv,rfl,hc.off o (fun p hp hm=>hX _ hm (gbk_mc hp)),h0.off o (fun p hp hm=>hX _ hm (gbk_m0 hp)),h1.off o (fun p hp hm=>hX _ hm (gbk_m1 hp))⟩
 sel:=fun w0 w v g bs l p sp cap t hg hw hp hI hlen hcap hnil ht M hs=>by
  obtain ⟨R,mc,m0,m1,L0,L1,rfl,rfl,hc,h0,h1⟩:=hI
  have hsd:=gside M
  rw [gbk_app] at M
  refine (gseal_any w0 w R _ g mc m0 m1 hg hw hc p hp sp cap t hlen hcap hnil ht M (hs.less (fun _ h=>gbk_rc h))).mono ?_; rintro e w' ⟨sq,cq,mc',rfl,hN,M',hc',o⟩
  obtain ⟨e1,e2,e3,e4⟩:=gsN_same g p t.length
  refine ⟨sq,cq,gbk R (gsN g p t.length) mc' m0 m1 L0 L1,rfl,hN,⟨R,mc',m0,m1,L0,L1,rfl,rfl,hc',by rw [e3,e4]; exact h0.off o hsd.1,by rw [e3,e4]; exact h1.off o hsd.2⟩,?_,o.mono (fun _ h=>gbk_rc h)⟩
  rw [gbk_as e1 e2 e3,gbk_app]
  exact M'.perm so_perm
 opn:=fun w0 w v g bs l sp cap b hg hw _ hI hlen hcap hnil hb M hs=>by
  obtain ⟨R,mc,m0,m1,L0,L1,rfl,rfl,hc,h0,h1⟩:=hI
  rw [gbk_app] at M
  refine (gopen_any w0 w R _ g mc m0 m1 L0 L1 hg hw hc h0 h1 sp cap b hlen hcap hnil hb hs.1 M).mono ?_; rintro e w' ⟨sq,cq,rfl,hN,n0,n1,K0,K1,M',hc',h0',h1',o⟩
  refine ⟨sq,cq,gbk R (gbN g b) mc n0 n1 K0 K1,rfl,hN,⟨R,mc,n0,n1,K0,K1,rfl,rfl,hc',h0',h1'⟩,?_,o.mono (fun _ h=>gbk_rx h)⟩
  rw [gbk_app]
  exact M'
 adv:=fun w0 w v g bs l hg hw hI M=>by
  obtain ⟨R,mc,m0,m1,L0,L1,rfl,rfl,hc,h0,h1⟩:=hI
  have hsd:=gside M
  rw [gbk_app] at M
  refine (gadvance_any w0 w R _ g.role g.out g.inn mc m0 m1 hg.b hw.out g.cnt hc M).mono ?_; rintro e w' ⟨rfl,M',hc',o⟩
  obtain ⟨e1,e2,e3,e4,e5⟩:=gaN_same g
  refine ⟨gbk R (gaN g) mc m0 m1 L0 L1,rfl,⟨R,mc,m0,m1,L0,L1,rfl,rfl,by rw [e5]; exact hc',by rw [e3,e4]; exact h0.off o hsd.1,by rw [e3,e4]; exact h1.off o hsd.2⟩,?_,o.mono (fun _ h=>gbk_rc h)⟩
  rw [gbk_app,e1,e2,e3]
  exact M'
 skp:=fun w0 w v g bs l p n hw hp _ hI M=>by
  obtain ⟨R,mc,m0,m1,L0,L1,rfl,rfl,hc,h0,h1⟩:=hI
  have hsd:=gside M
  rw [gbk_app] at M
  refine (gskip_any w0 w R _ g.role g.out g.inn mc m0 m1 g.cnt hc p n hp M).mono ?_; rintro e w' ⟨mc',rfl,M',hc',o⟩
  obtain ⟨e1,e2,e3,e4,e5⟩:=gkN_same g p n
  refine ⟨gbk R (gkN g p n) mc' m0 m1 L0 L1,rfl,⟨R,mc',m0,m1,L0,L1,rfl,rfl,by rw [e5]; exact hc',by rw [e3,e4]; exact h0.off o hsd.1,by rw [e3,e4]; exact h1.off o hsd.2⟩,?_,o.mono (fun _ h=>gbk_rc h)⟩
  rw [gbk_as e1 e2 e3,gbk_app]
  exact M'
theorem gi_new {w:World} {R:Nat} (role:Int) (a b:Nat→Int) (mine its:Int):GI w (.pointer (some ⟨R,0,none⟩)) (gat role a b mine its) [(R,gnw role a b mine its)] :=
 ⟨R,none,none,none,[],[],rfl,rfl,Cts.zero (fun _=>rfl),Wns.empty _ none (show NM _ none _ from fun _=>rfl) (fun _=>rfl),Wns.empty _ none (show NM _ none _ from fun _=>rfl) (fun _=>rfl)⟩
theorem vgnew_any:GrdNew GI:=fun w0 w l role o i hg _ ho hi M=>(gnew_any w0 w l role o i hg.b ho hi M).mono fun _ _ ⟨R,h1,_,h3,h4⟩=>⟨_,[(R,gnw role o i 0 0)],h1,gi_new role o i 0 0,h3,h4⟩
end
section
open Go.ChangeShapes Go.WideShapes Go.ChangeAt Go.WideMaps Go.WideElems Go.RowKit
def intAt:Option Value→Int
 | some (.int _ n)=>n
 | _=>0
theorem mapM_every {α β:Type} (g:α→Option β) (h:α→β):∀ l:List α,(∀ i∈l,g i=some (h i))→l.mapM g=some (l.map h)
 | [],_=>rfl
 | x::l,hh=>by
   rw [List.mapM_cons,hh x (by simp),mapM_every g h l (fun i hi=>hh i (by simp [hi]))]
   rfl
def litR {H:Type} (k:IntKind) (n:Nat) (f:Nat→Int):DataW H:=.agg ((List.range n).map fun j=>.lit (.int k (f j)))
section
variable {H:Type} {enc:TypeId × Value→H} {P:Program} {w:World} {base:Nat} {sp:Nat→Bool} {held:Bool}
theorem open_row {t e:TypeId} {n:Nat} {k:IntKind} (hu:P.underlying t=some (.array n e)) (he:P.underlying e=some (.int k)) (hct:P.cellsOf t=n) (hce:P.cellsOf e=1) {fuel:Nat} {cs:List Value} {x:DataW H × List MemPlace}
 (h:DataW.trod enc P w base sp held fuel t cs=some x):∃ f:Nat→Int,(∀ j,j<n→(Lit.int k (f j)).wf=true)∧cs=row k n f∧x=(litR k n f,[]):=by
 obtain ⟨xs,m,_,hx,hl,hn,hel⟩:=DataW.trod_array hu h
 rw [hct] at hl
 have hcell:∀ i,i<n→∃ v,cs[i]?=some (.int k v)∧xs[i]?=some (.lit (.int k v),[])∧(Lit.int k v).wf=true:=by
  intro i hi; have e1:=hel i hi
  rw [hce,Nat.mul_one] at e1
  have hxi:i<xs.length:=by omega
  rw [List.getElem?_eq_getElem hxi] at e1
  obtain ⟨v,e2,e3,e4⟩:=DataW.trod_int he e1
  refine ⟨v,?_,by rw [List.getElem?_eq_getElem hxi,e3],e4⟩
  have hci:i<cs.length:=by omega
  have e5:(cs.drop i).take 1=[cs[i]]:=by rw [List.drop_eq_getElem_cons hci,List.take_succ_cons,List.take_zero]
  rw [e5] at e2
  rw [List.getElem?_eq_getElem hci]
  simpa using e2
 refine ⟨fun i=>intAt cs[i]?,fun i hi=>?_,?_,?_⟩
 · obtain ⟨v,e1,_,e3⟩:=hcell i hi
   dsimp only
   rw [e1]; exact e3
 · refine List.ext_getElem? fun i=>?_
   by_cases hi:i<n
   · obtain ⟨v,e1,_,_⟩:=hcell i hi
     rw [row_get k n _ i hi,e1]; rfl
   · rw [List.getElem?_eq_none (by omega),List.getElem?_eq_none (by rw [row_length]; omega)]
 · rw [hx]
   congr 1
   · unfold litR
     congr 1
     refine List.ext_getElem? fun i=>?_
     by_cases hi:i<n
     · obtain ⟨v,e1,e2,_⟩:=hcell i hi
       rw [List.getElem?_map,e2,List.getElem?_map,List.getElem?_range hi]
       simp only [Option.map_some]
       rw [e1]
       rfl
     · rw [List.getElem?_eq_none (by simp [hn]; omega),List.getElem?_eq_none (by simp; omega)]
   · refine List.flatMap_eq_nil_iff.2 fun y hy=>?_
     obtain ⟨i,hi⟩:=List.mem_iff_getElem?.1 hy
     have hin:i<n:=by have:=(List.getElem?_eq_some_iff.1 hi).1; omega
     obtain ⟨v,_,e2,_⟩:=hcell i hin
     rw [e2] at hi
     rw [← Option.some.inj hi]
theorem shut_row {t e:TypeId} {n:Nat} {k:IntKind} (hu:P.underlying t=some (.array n e)) (he:P.underlying e=some (.int k)) (hct:P.cellsOf t=n) (hce:P.cellsOf e=1) (f:Nat→Int) (hf:∀ j,j<n→(Lit.int k (f j)).wf=true) :
 DataW.trod enc P w base sp held 2 t (row k n f)=some (litR k n f,[]):=by
 show DataW.trod enc P w base sp held (1+1) t (row k n f)=_
 unfold DataW.trod
 rw [hu]
 simp only [row_length,hct,if_true,hce,Nat.mul_one]
 rw [mapM_every _ (fun i=>((.lit (.int k (f i)):DataW H),([]:List MemPlace))) (List.range n) (fun i hi=>?_)]
 · simp only [Option.map_some,List.map_map,litR]
   congr 2
   exact List.flatMap_eq_nil_iff.2 fun y hy=>by
    obtain ⟨i,_,rfl⟩:=List.mem_map.1 hy
    rfl
 · have hi':=List.mem_range.1 hi
   have e1:((row k n f).drop i).take 1=[.int k (f i)]:=by
    have hl:i<(row k n f).length:=by rw [row_length]; exact hi'
    rw [List.drop_eq_getElem_cons hl]
    have:=row_get k n f i hi'
    rw [List.getElem?_eq_getElem hl] at this
    simp [Option.some.inj this]
   rw [e1]
   simp [DataW.trod,he,hf i hi']
theorem open_array {t e:TypeId} {n:Nat} {k:IntKind} (hu:P.underlying t=some (.array n e)) (he:P.underlying e=some (.int k)) (hct:P.cellsOf t=n) (hce:P.cellsOf e=1) {r:Reach} {b0:Nat} {v:Value} {d:DataW H} {p:List MemPlace}
 (hv:Value.okWide P w r b0 t v) (h:DataW.Trod enc P w base sp held t v d p):∃ f:Nat→Int,(∀ j,j<n→(Lit.int k (f j)).wf=true)∧v=.agg (row k n f).toArray∧d=litR k n f∧p=[]:=by
 simp only [Value.okWide,hu] at hv
 obtain ⟨cs,rfl,_,_⟩:=hv
 obtain ⟨fuel,hf⟩:=h
 obtain ⟨f,h1,h2,h3⟩:=open_row hu he hct hce hf
 simp only [Prod.mk.injEq] at h3
 refine ⟨f,h1,?_,h3.1,h3.2⟩
 congr 1
 exact Array.toList_inj.1 h2
theorem shut_array {t e:TypeId} {n:Nat} {k:IntKind} (hu:P.underlying t=some (.array n e)) (he:P.underlying e=some (.int k)) (hct:P.cellsOf t=n) (hce:P.cellsOf e=1) (f:Nat→Int) (hf:∀ j,j<n→(Lit.int k (f j)).wf=true) :
 DataW.Trod enc P w base sp held t (.agg (row k n f).toArray) (litR k n f) []:=⟨2,shut_row hu he hct hce f hf⟩
end
theorem wf_u8 {n:Int}:(Lit.int .u8 n).wf=true↔0≤n∧n<256:=by
 simp [Lit.wf,IntKind.min,IntKind.max,IntKind.signed,IntKind.bits]
 omega
theorem wf_i64 {n:Int}:(Lit.int .i64 n).wf=true↔-9223372036854775808≤n∧n≤9223372036854775807:=by
 simp [Lit.wf,IntKind.min,IntKind.max,IntKind.signed,IntKind.bits]
theorem litR_inj {H:Type} {k:IntKind} {n:Nat} {f g:Nat→Int} (h:(litR k n f:DataW H)=litR k n g) (j:Nat) (hj:j<n):f j=g j:=by
 unfold litR at h
 injection h with h
 have e:=congrArg (fun l=>l[j]?) h
 simp only [List.getElem?_map,List.getElem?_range hj,Option.map_some,Option.some.injEq] at e
 injection e with e
 injection e
end
section
open Go.ChangeShapes Go.WideShapes Go.ChangeAt Go.WideMaps Go.WideElems Go.RowKit
theorem own:ownKnob Tryz.prog.godebug=none:=by kernel_rfl
theorem cellsByte:Tryz.prog.cellsOf 5=1:=by kernel_rfl
theorem cellsKey:Tryz.prog.cellsOf 23=32:=by kernel_rfl
def keyNought:Value:=.agg zu8_32
theorem laidOut:laidOutB Tryz.prog=true:=by kernel_rfl
section
variable {H:Type} {enc:TypeId × Value→H} {W:World} {Q:TypeId→DataW H→Prop} {m:Nat}
theorem i64_of {n:Int} (h:(Lit.int .i64 n).wf=true):i64 n:=by have:=wf_i64.1 h; unfold i64; omega
end
section
variable {H:Type} {enc:TypeId × Value→H} {W:World} {Q:TypeId→DataW H→Prop} {m:Nat}
theorem again {t:TypeId} (hr:Tryz.prog.readableRec t=true) (hrow:t<Tryz.prog.types.size) {v:Value} {d:DataW H} {p:List MemPlace} (h:DataW.Trod enc Tryz.prog W 0 (fun _=>true) true t v d p) (W':World) (hb:Below W.heap.size W W'):DataW.Trod enc Tryz.prog W' 0 (fun b=>decide (b<W.heap.size)) true t v d p :=
 hb.trod laidOut hr hrow h (by obtain ⟨fuel,hf⟩:=h; exact fun x hx=>DataW.trod_lt _ _ _ _ hf x hx)
end
end
section
open Go.ChangeShapes Go.WideShapes Go.ChangeAt Go.WideMaps Go.WideElems Go.RowKit
theorem open_table {H:Type} {enc:TypeId × Value→H} {P:Program} {w:World} {base:Nat} {sp:Nat→Bool} {held:Bool} {fuel:Nat} {cs:List Value} {q:List MemPlace} {d:DataW H} {t r e:TypeId} {k:IntKind} {n m:Nat} (hu:P.underlying t=some (.array n r)) (hr:P.underlying r=some (.array m e)) (he:P.underlying e=some (.int k)) (cr:P.cellsOf r=m) (ce:P.cellsOf e=1) (hm:0<m)
 (g:Nat→Int) (hd:d=.agg ((List.range n).map fun i=>litR k m (fun j=>g (m*i+j)))) (h:DataW.trod enc P w base sp held fuel t cs=some (d,q)):∀ j,j<n*m→cs[j]?=some (.int k (g j)):=by
 obtain ⟨xs,_,_,hx,_,hn,hel⟩:=DataW.trod_array hu h
 intro j hj
 have hi:j/m<n:=(Nat.div_lt_iff_lt_mul hm).2 hj
 have hjm:j%m<m:=Nat.mod_lt _ hm
 have hdm:j/m*m+j%m=j:=Nat.div_add_mod' j m
 have e1:=hel (j/m) hi
 rw [cr] at e1
 have hxi:j/m<xs.length:=by rw [hn]; exact hi
 rw [List.getElem?_eq_getElem hxi] at e1
 obtain ⟨f,_,e2,e3⟩:=open_row hr he cr ce e1
 simp only [Prod.mk.injEq] at hx
 rw [hd] at hx
 have hx1:((List.range n).map fun i=>(litR k m (fun j=>g (m*i+j)):DataW H))=xs.map (·.1):=by
  have:=hx.1
  injection this
 have e6:(xs.map (·.1))[j/m]?=some (litR k m f):=by rw [List.getElem?_map,List.getElem?_eq_getElem hxi,e3]; rfl
 rw [← hx1,List.getElem?_map,List.getElem?_range hi] at e6
 simp only [Option.map_some,Option.some.injEq] at e6
 have e7:=litR_inj e6 (j%m) hjm
 have e8:((cs.drop (j/m*m)).take m)[j%m]?=some (.int k (f (j%m))):=by rw [e2]; exact row_get _ _ _ _ hjm
 rw [List.getElem?_take,if_pos hjm,List.getElem?_drop,hdm] at e8
 rw [e8,← e7,Nat.mul_comm m,hdm]
end
section
open Go.ChangeShapes Go.WideShapes Go.ChangeAt Go.WideMaps Go.WideElems Go.RowKit
theorem cDG0:Tryz.prog.cellsOf 170=8:=by kernel_rfl
theorem cDG1:Tryz.prog.cellsOf 87=1:=by kernel_rfl
theorem cDG3:Tryz.prog.cellsOf 5=1:=by kernel_rfl
theorem cDG4:Tryz.prog.cellsOf 88=16:=by kernel_rfl
theorem cDG6:Tryz.prog.cellsOf 181=4:=by kernel_rfl
theorem cDG7:Tryz.prog.cellsOf 144=4:=by kernel_rfl
theorem cDG9:Tryz.prog.cellsOf 3=1:=by kernel_rfl
theorem cDG10:Tryz.prog.cellsOf 146=4:=by kernel_rfl
theorem cDG11:Tryz.prog.cellsOf 89=16:=by kernel_rfl
theorem cDG12:Tryz.prog.cellsOf 153=3:=by kernel_rfl
theorem cDG13:Tryz.prog.cellsOf 107=1:=by kernel_rfl
theorem cDG14:Tryz.prog.cellsOf 110=5:=by kernel_rfl
theorem gDG0 : Tryz.prog.globalNamed "sheave/blake.iv" = some 5 := by kernel_rfl
theorem tDG0:(Tryz.prog.globals[5]?).map (·.type)=some 170:=by kernel_rfl
theorem gDG1 : Tryz.prog.globalNamed "sheave/blake.rows" = some 7 := by kernel_rfl
theorem tDG1:(Tryz.prog.globals[7]?).map (·.type)=some 180:=by kernel_rfl
theorem gDG2 : Tryz.prog.globalNamed "sheave/blake.places" = some 6 := by kernel_rfl
theorem tDG2:(Tryz.prog.globals[6]?).map (·.type)=some 182:=by kernel_rfl
theorem gDG3 : Tryz.prog.globalNamed "sheave/chacha.first" = some 1 := by kernel_rfl
theorem tDG3:(Tryz.prog.globals[1]?).map (·.type)=some 144:=by kernel_rfl
theorem gDG4 : Tryz.prog.globalNamed "sheave/chacha.places" = some 2 := by kernel_rfl
theorem tDG4:(Tryz.prog.globals[2]?).map (·.type)=some 147:=by kernel_rfl
theorem gDG5 : Tryz.prog.globalNamed "sheave/clamp.kept" = some 3 := by kernel_rfl
theorem tDG5:(Tryz.prog.globals[3]?).map (·.type)=some 89:=by kernel_rfl
theorem gDG6 : Tryz.prog.globalNamed "sheave/clamp.modulus" = some 4 := by kernel_rfl
theorem tDG6:(Tryz.prog.globals[4]?).map (·.type)=some 153:=by kernel_rfl
theorem gDG7 : Tryz.prog.globalNamed "sheave/packet.sizes" = some 0 := by kernel_rfl
theorem tDG7:(Tryz.prog.globals[0]?).map (·.type)=some 110:=by kernel_rfl
def laidG {H : Type} : List (String × DataW H) := [("sheave/blake.iv", Rows.laid_sheave_blake_iv), ("sheave/blake.rows", Rows.laid_sheave_blake_rows), ("sheave/blake.places", Rows.laid_sheave_blake_places), ("sheave/chacha.first", Rows.laid_sheave_chacha_first), ("sheave/chacha.places", Rows.laid_sheave_chacha_places), ("sheave/clamp.kept", Rows.laid_sheave_clamp_kept), ("sheave/clamp.modulus", Rows.laid_sheave_clamp_modulus), ("sheave/packet.sizes", Rows.laid_sheave_packet_sizes)]
theorem glob_of_laidG {W:World} (h:laidMetH Tryz.prog laidG W):GGlob W:=by
 rw [MakeChecks.laidMetH_plain _ _ _ (by kernel_rfl)] at h
 obtain ⟨ps,⟨g0,t0,cs0,f0,p0,q0,hg0,ht0,hv0,hd0,⟨g1,t1,cs1,f1,p1,q1,hg1,ht1,hv1,hd1,⟨g2,t2,cs2,f2,p2,q2,hg2,ht2,hv2,hd2,⟨g3,t3,cs3,f3,p3,q3,hg3,ht3,hv3,hd3,⟨g4,t4,cs4,f4,p4,q4,hg4,ht4,hv4,hd4,⟨g5,t5,cs5,f5,p5,q5,hg5,ht5,hv5,hd5,⟨g6,t6,cs6,f6,p6,q6,hg6,ht6,hv6,hd6,⟨g7,t7,cs7,f7,p7,q7,hg7,ht7,hv7,hd7,_,_⟩,_⟩,_⟩,_⟩,_⟩,_⟩,_⟩,_⟩,_,_⟩:=h
 obtain rfl:=Option.some.inj (gDG0.symm.trans hg0)
 obtain rfl:=Option.some.inj (tDG0.symm.trans ht0)
 obtain rfl:=Option.some.inj (gDG1.symm.trans hg1)
 obtain rfl:=Option.some.inj (tDG1.symm.trans ht1)
 obtain rfl:=Option.some.inj (gDG2.symm.trans hg2)
 obtain rfl:=Option.some.inj (tDG2.symm.trans ht2)
 obtain rfl:=Option.some.inj (gDG3.symm.trans hg3)
 obtain rfl:=Option.some.inj (tDG3.symm.trans ht3)
 obtain rfl:=Option.some.inj (gDG4.symm.trans hg4)
 obtain rfl:=Option.some.inj (tDG4.symm.trans ht4)
 obtain rfl:=Option.some.inj (gDG5.symm.trans hg5)
 obtain rfl:=Option.some.inj (tDG5.symm.trans ht5)
 obtain rfl:=Option.some.inj (gDG6.symm.trans hg6)
 obtain rfl:=Option.some.inj (tDG6.symm.trans ht6)
 obtain rfl:=Option.some.inj (gDG7.symm.trans hg7)
 obtain rfl:=Option.some.inj (tDG7.symm.trans ht7)
 obtain ⟨F0,_,eA0,eB0⟩:=open_row Tryz.underlying170 Tryz.underlying87 cDG0 cDG1 hd0
 simp only [Prod.mk.injEq] at eB0
 have eF0:=litR_inj (show (litR .u32 8 iv:DataW _)=litR .u32 8 F0 from eB0.1)
 have c_blake_iv:∀ j,j<8→W.cell? ⟨5,j,none⟩=some (.int .u32 (iv j)):=fun j hj=>by
  rw [World.var?_cell hg0 hv0 j,eF0 j hj]
  have:=row_get .u32 8 F0 j hj
  rw [← eA0] at this
  simpa using this
 have s0:=World.block_lt_of_cell? W _ (c_blake_iv 0 (by decide)); have b1:=open_table (n:=10) (m:=16) Tryz.underlying180 Tryz.underlying88 Tryz.underlying5 cDG4 cDG3 (by decide) (fun j=>((sgL.getD j 0:Nat):Int)) (by rfl) hd1
 have c_blake_rows:∀ j,j<160→W.cell? ⟨7,j,none⟩=some (.int .u8 ((fun j=>((sgL.getD j 0:Nat):Int)) j)):=fun j hj=>by
  rw [World.var?_cell hg1 hv1 j]; simpa using b1 j hj
 have s1:=World.block_lt_of_cell? W _ (c_blake_rows 0 (by decide)); have b2:=open_table (n:=8) (m:=4) Tryz.underlying182 Tryz.underlying181 Tryz.underlying5 cDG6 cDG3 (by decide) bplc (by rfl) hd2
 have c_blake_places:∀ j,j<32→W.cell? ⟨6,j,none⟩=some (.int .u8 (bplc j)):=fun j hj=>by
  rw [World.var?_cell hg2 hv2 j]; simpa using b2 j hj
 have s2:=World.block_lt_of_cell? W _ (c_blake_places 0 (by decide))
 obtain ⟨F3,_,eA3,eB3⟩:=open_row Tryz.underlying144 Tryz.underlying87 cDG7 cDG1 hd3
 simp only [Prod.mk.injEq] at eB3
 have eF3:=litR_inj (show (litR .u32 4 hfst:DataW _)=litR .u32 4 F3 from eB3.1)
 have c_chacha_first:∀ j,j<4→W.cell? ⟨1,j,none⟩=some (.int .u32 (hfst j)):=fun j hj=>by
  rw [World.var?_cell hg3 hv3 j,eF3 j hj]
  have:=row_get .u32 4 F3 j hj
  rw [← eA3] at this
  simpa using this
 have s3:=World.block_lt_of_cell? W _ (c_chacha_first 0 (by decide)); have b4:=open_table (n:=8) (m:=4) Tryz.underlying147 Tryz.underlying146 Tryz.underlying3 cDG10 cDG9 (by decide) plc (by rfl) hd4
 have c_chacha_places:∀ j,j<32→W.cell? ⟨2,j,none⟩=some (.int .i64 (plc j)):=fun j hj=>by
  rw [World.var?_cell hg4 hv4 j]; simpa using b4 j hj
 have s4:=World.block_lt_of_cell? W _ (c_chacha_places 0 (by decide))
 obtain ⟨F5,_,eA5,eB5⟩:=open_row Tryz.underlying89 Tryz.underlying5 cDG11 cDG3 hd5
 simp only [Prod.mk.injEq] at eB5
 have eF5:=litR_inj (show (litR .u8 16 keptB:DataW _)=litR .u8 16 F5 from eB5.1)
 have c_clamp_kept:∀ j,j<16→W.cell? ⟨3,j,none⟩=some (.int .u8 (keptB j)):=fun j hj=>by
  rw [World.var?_cell hg5 hv5 j,eF5 j hj]
  have:=row_get .u8 16 F5 j hj
  rw [← eA5] at this
  simpa using this
 have s5:=World.block_lt_of_cell? W _ (c_clamp_kept 0 (by decide))
 obtain ⟨F6,_,eA6,eB6⟩:=open_row Tryz.underlying153 Tryz.underlying107 cDG12 cDG13 hd6
 simp only [Prod.mk.injEq] at eB6
 have eF6:=litR_inj (show (litR .u64 3 qW:DataW _)=litR .u64 3 F6 from eB6.1)
 have c_clamp_modulus:∀ j,j<3→W.cell? ⟨4,j,none⟩=some (.int .u64 (qW j)):=fun j hj=>by
  rw [World.var?_cell hg6 hv6 j,eF6 j hj]
  have:=row_get .u64 3 F6 j hj
  rw [← eA6] at this
  simpa using this
 have s6:=World.block_lt_of_cell? W _ (c_clamp_modulus 0 (by decide))
 obtain ⟨F7,_,eA7,eB7⟩:=open_row Tryz.underlying110 Tryz.underlying3 cDG14 cDG9 hd7
 simp only [Prod.mk.injEq] at eB7
 have eF7:=litR_inj (show (litR .i64 5 szs:DataW _)=litR .i64 5 F7 from eB7.1)
 have c_packet_sizes:∀ j,j<5→W.cell? ⟨0,j,none⟩=some (.int .i64 (szs j)):=fun j hj=>by
  rw [World.var?_cell hg7 hv7 j,eF7 j hj]
  have:=row_get .i64 5 F7 j hj
  rw [← eA7] at this
  simpa using this
 have s7:=World.block_lt_of_cell? W _ (c_packet_sizes 0 (by decide))
 have hsz:8≤W.heap.size:=by dsimp only at s0 s1 s2 s3 s4 s5 s6 s7; omega
 exact ⟨⟨⟨c_chacha_first,c_chacha_places,hsz⟩,⟨c_clamp_modulus,c_clamp_kept,hsz⟩⟩,⟨c_blake_iv,c_blake_rows,c_blake_places,hsz⟩,⟨c_packet_sizes,hsz⟩⟩
theorem door_metG0 (os:Os) (args:Array Value):laidMet Tryz.prog laidG ((World.doorLaid Tryz.prog 110 os).forCall (fun _ _=>0) ⟨#[],args,[]⟩).memory:=laidMet_of_run' 8 (by kernel_rfl) (by kernel_rfl)
theorem door_metG (os:Os) (args:Array Value):laidMetH Tryz.prog laidG ((World.doorLaid Tryz.prog 110 os).forCall (fun _ _=>0) ⟨#[],args,[]⟩).memory :=
 laidMetH_of_parts3 (fuel:=8) (door_metG0 os args) (by kernel_rfl) (by kernel_rfl)
end
end Go.Proofs.YtknodedhcdpbiaaGreatDoor
