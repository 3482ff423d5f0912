/- Texts of Lq LawShakeAgrees Opn Open13 Tb Door13, joined. -/
import Derived.Test.YtklnibmfpcmeeaaGreatDoorP27ShakeAgrees
import Derived.ProofKit
import Derived.LaidMore
import Derived.OpenShut
import Derived.Deep.Strs
import Derived.Stop.Joined
import Derived.Test.YtklnibmfpcmeeaaGreatDoorRows
set_option maxRecDepth 100000
set_option maxHeartbeats 64000000
namespace Go.Proofs.YtklnibmfpcmeeaaGreatDoor
open Go.RowKit
def OldS (w:World) (H:List Int) (v:Value):Prop:=∃ sp cap,v=.slice sp H.length cap∧H.length≤cap∧(sp=none→cap=0)∧Src w sp H.length (bl H)
theorem OldS.keep {w:World} {sp:Option Addr} {cap n:Nat} {b:List Int} (hn:¬ n<b.length) (hc:b.length≤cap) (h0:sp=none→cap=0) (hs:Src w sp b.length (bl b)):OldS w (b.take n) (.slice sp b.length cap):=by
 have e:b.take n=b:=List.take_of_length_le (by omega)
 rw [e]
 exact ⟨sp,cap,rfl,hc,h0,hs⟩
theorem OldS.cut {w:World} {sp:Option Addr} {cap n:Nat} {b:List Int} (hn:n<b.length) (hc:b.length≤cap) (hs:Src w sp n (bl b)) (h0:0<n):OldS w (b.take n) (.slice sp n cap):=by
 have e:(b.take n).length=n:=by rw [List.length_take]; omega
 have hs':Src w sp (b.take n).length (bl (b.take n)):=by
  rw [e]
  exact hs.congr fun j hj=>bl_takeA b n j hj
 refine ⟨sp,cap,by rw [e],by omega,fun h=>?_,hs'⟩
 obtain ⟨_,h1,_⟩:=hs 0 h0
 rw [h] at h1
 cases h1
theorem pull4 {α:Type} (a b x t:List α):(a++(b++(x++t))).Perm (x++(a++(b++t))):=pull1 a b x t
theorem law_ShakeAgrees {I:Value→Shk→List (Nat × List Value)→Prop} (hK:ShkOK I) (a d b f:Nat→Int) (wr:Bool) (ha:In 256 32 a) (hd:In 256 32 d) (hb:In 256 32 b) (hf:In 256 32 f) (O:List Int) (hO:O.length=32) (hOb:Byts O) (spH:Option Addr) (capH:Nat) (hello:List Int) (maxH:hello.length≤140737488351232) (leH:hello.length≤capH) (nilH:spH=none→capH=0) (bytH:Byts hello) (spR:Option Addr) (capR:Nat) (reply:List Int) (maxR:reply.length≤140737488351232) (leR:reply.length≤capR) (nilR:spR=none→capR=0) (bytR:Byts reply) (w0:World) (hg:HGlob13 w0) (srcH:Src w0 spH hello.length (bl hello)) (srcR:Src w0 spR reply.length (bl reply)) :
 Calls Tryz.prog 4 #[.agg ([row .u8 32 a,row .u8 32 d,row .u8 32 b,row .u8 32 f,[.bool wr],row .u8 32 (bl O)].flatten).toArray,.slice spH hello.length capH,.slice spR reply.length capR] w0 fun e w'=>e=.returned (.bool true)∧Below w0.heap.size w0 w':=by
 have byH_:=bytH.take 128; have byR_:=bytR.take 128
 have lenH_:(hello.take 128).length≤128:=by rw [List.length_take]; omega
 have lenR_:(reply.take 128).length≤128:=by rw [List.length_take]; omega
 obtain ⟨m1,xA1,xB1,m2,xA2,xB2,h1,h2,h3,h4,h5,h6,h7,h8⟩:=sh_agree LD_ok a d b f (hello.take 128) (reply.take 128) lenH_ byH_ lenR_ byR_
 obtain ⟨l1,y1,_,hwxA1⟩:=shF_ok h1 byH_ (shBegin_w ha hd (LD_ok.len b) (LD_ok.byt b))
 have hwxB1:=shTF_okw h2 y1 (shAwait_w hb hf)
 obtain ⟨l2,y2,hwxB2⟩:=shS_ok h3 byR_ hwxB1
 have hwxA2:=shTS_okw h4 hwxA1; have k1:=shK_2 h6; have k2:=shK_2 h7
 rw [← h5] at k2
 have d1:=shD_2 h6; have d2:=shD_2 h7; have o2:=shO_2 h7
 have g1:m1.length≤1000:=by omega
 have g2:m2.length≤1000:=by omega
 clear l1 l2; replace h1:=show Hid _ from h1; replace h2:=show Hid _ from h2; replace h3:=show Hid _ from h3; replace h4:=show Hid _ from h4; replace h5:=show Hid _ from h5; replace h6:=show Hid _ from h6; replace h7:=show Hid _ from h7; replace h8:=show Hid _ from h8; replace k1:=show Hid _ from k1; replace k2:=show Hid _ from k2; replace d1:=show Hid _ from d1
 replace d2:=show Hid _ from d2; replace o2:=show Hid _ from o2; have M:=Mm.init w0
 go_enter Tryz.func4,Tryz.ntmps4
 go_upto_region 0 with fail; refine wp_region_list ?_; have hlb:=(Below.refl w0.heap.size w0).alloc (xnR _) (.cells ([row .u8 32 a,row .u8 32 d,row .u8 32 b,row .u8 32 f,[Value.bool wr],row .u8 32 (bl O)].flatten).toArray 25)
 refine actL (w':=w0.alloc (.cells ([row .u8 32 a,row .u8 32 d,row .u8 32 b,row .u8 32 f,[Value.bool wr],row .u8 32 (bl O)].flatten).toArray 25)) (.pointer (some ⟨w0.heap.size,0,none⟩)) rfl (by kernel_rfl) ?_; simp only [aP,lI,l0,lS]; replace M:=M.box ([row .u8 32 a,row .u8 32 d,row .u8 32 b,row .u8 32 f,[Value.bool wr],row .u8 32 (bl O)].flatten).toArray 25 w0.heap.size rfl
 clear hlb; generalize w0.alloc (.cells ([row .u8 32 a,row .u8 32 d,row .u8 32 b,row .u8 32 f,[Value.bool wr],row .u8 32 (bl O)].flatten).toArray 25)=w1 at M  ⊢
 have hA_B1:w0.heap.size≤w0.heap.size:=xnR _
 generalize eB_:w0.heap.size=B1 at M hA_B1 ⊢
 replace hA_B1:w0.heap.size≤B1:=Nat.le_of_eq eB_
 clear eB_
 replace M:Mm w0 ((B1,[row .u8 32 a,row .u8 32 d,row .u8 32 b,row .u8 32 f,[Value.bool wr],row .u8 32 (bl O)].flatten)::([]:List (Nat × List Value))) w1:=M
 refine xpL (.bool false) ?_; refine xT ?_; go_upto_region 1 with fail; refine wp_region_list ?_; refine xcL (shown13_any hK _ (hg.mm M)) ?_; rintro e w2 ⟨rfl,l⟩; replace M:=M.call l; clear l; refine xeL ?_; refine xpL (.bool true) ?_; refine xT ?_; go_upto_region 2 with fail; refine wp_region_list ?_; refine xpL (.pointer (some ⟨B1,128,none⟩)) ?_
 refine skipOpL rfl (storeAny (.bool false) B1 128 4 _ _ rfl rfl rfl rfl rfl (M.isSome mS 128 (by rw [flat_len _ [32,32,32,32,1,32] (by kernel_rfl)]; decide)) (M.free mS 128 (by rw [flat_len _ [32,32,32,32,1,32] (by kernel_rfl)]; decide)) (by kernel_rfl)) ?_
 simp only [Act.put]; replace M:=M.set 128 (by rw [flat_len _ [32,32,32,32,1,32] (by kernel_rfl)]; decide) (.bool false)
 rw [flat_set1 _ [32,32,32,32,1,32] (by kernel_rfl) 4 128 _ (.bool false) rfl rfl] at M
 generalize w2.setCell ⟨B1,128,none⟩ (.bool false)=w3 at M  ⊢
 replace M:Mm w0 ((B1,[row .u8 32 a,row .u8 32 d,row .u8 32 b,row .u8 32 f,[Value.bool false],row .u8 32 (bl O)].flatten)::([]:List (Nat × List Value))) w3:=M
 refine xT ?_; go_upto_region 3 with fail; refine wp_region_list ?_
 refine xaL (.agg ([row .u8 32 a,row .u8 32 d,row .u8 32 b,row .u8 32 f,[Value.bool false],row .u8 32 (bl O)].flatten).toArray) (loadN 25 _ ⟨B1,0,none⟩ ([row .u8 32 a,row .u8 32 d,row .u8 32 b,row .u8 32 f,[Value.bool false],row .u8 32 (bl O)].flatten) rfl rfl (fun _=>by kernel_rfl) (fun _=>by rw [flat_len _ [32,32,32,32,1,32] (by kernel_rfl)]; kernel_rfl) (M.part mS 0 _ (flat_mid [] [row .u8 32 a,row .u8 32 d,row .u8 32 b,row .u8 32 f,[Value.bool false],row .u8 32 (bl O)] [] 0 (by kernel_rfl)))) ?_
 refine xcL (two13_any hK w0 _ _ a d b f false O ha hd hb hf hO hOb hg M) ?_; rintro e w4 ⟨va_,ba0,vb_,bb0,Rc,Qc,Rd,Qd,rfl,hIa,hIb,M'⟩; clear M
 replace hIa:I va_ (shBegin a d (LD.pub b)) ba0:=hIa
 obtain ⟨Ra,rfl⟩:=hK.ptr _ _ _ hIa
 obtain ⟨Rb,rfl⟩:=hK.ptr _ _ _ hIb
 have M2:Mm w0 (bb0++(ba0++(([(B1,[row .u8 32 a,row .u8 32 d,row .u8 32 b,row .u8 32 f,[Value.bool false],row .u8 32 (bl O)].flatten)]:List (Nat × List Value))++([]:List (Nat × List Value))))) w4:=M'.sub _ (List.Sublist.cons _ (List.Sublist.cons _ (List.Sublist.cons _ (List.Sublist.cons _ (List.Sublist.refl _)))))
 clear M'; have hqb:=M2.lts
 have M:Mm w0 (([(B1,[row .u8 32 a,row .u8 32 d,row .u8 32 b,row .u8 32 f,[Value.bool false],row .u8 32 (bl O)].flatten)]:List (Nat × List Value))++(bb0++(ba0++([]:List (Nat × List Value))))) w4:=M2.perm (pull4 bb0 ba0 ([(B1,[row .u8 32 a,row .u8 32 d,row .u8 32 b,row .u8 32 f,[Value.bool false],row .u8 32 (bl O)].flatten)]:List (Nat × List Value)) ([]:List (Nat × List Value)))
 have hqa:=(M2.perm (pull0 bb0 ba0 (([(B1,[row .u8 32 a,row .u8 32 d,row .u8 32 b,row .u8 32 f,[Value.bool false],row .u8 32 (bl O)].flatten)]:List (Nat × List Value))++([]:List (Nat × List Value))))).lts; clear M2
 have hWa:ShkW (shBegin a d (LD.pub b)):=shBegin_w ha hd (LD_ok.len b) (LD_ok.byt b)
 have hWb:ShkW (shAwait LD b f):=shAwait_w hb hf
 have hbz_a:=xnR w4.heap.size; have hbz_b:=xnR w4.heap.size
 replace M:Mm w0 ((B1,[row .u8 32 a,row .u8 32 d,row .u8 32 b,row .u8 32 f,[Value.bool false],row .u8 32 (bl O)].flatten)::(bb0++(ba0++([]:List (Nat × List Value))))) w4:=M
 refine xeL ?_; refine xpL (.tuple #[.pointer (some ⟨Ra,0,none⟩),.pointer (some ⟨Rb,0,none⟩),.pointer (some ⟨Rc,0,none⟩),.pointer (some ⟨Rd,0,none⟩)]) ?_; refine xpL (.pointer (some ⟨Ra,0,none⟩)) ?_; refine xpL (.pointer (some ⟨Rb,0,none⟩)) ?_; refine xpL (.pointer (some ⟨Rc,0,none⟩)) ?_; refine xpL (.pointer (some ⟨Rd,0,none⟩)) ?_; refine xpL (.pointer (some ⟨Ra,0,none⟩)) ?_
 refine xpL (.pointer (some ⟨Rb,0,none⟩)) ?_; refine xpL (.pointer (some ⟨Rc,0,none⟩)) ?_; refine xpL (.pointer (some ⟨Rd,0,none⟩)) ?_; refine xT ?_; go_upto_region 4 with fail; refine wp_region_list ?_; refine xpL (.bool true) ?_; refine xpL (.bool false) ?_; refine xpL (.bool false) ?_; refine xpL (.pointer (some ⟨Ra,0,none⟩)) ?_; refine xpL (.bool false) ?_; refine xpL (.bool false) ?_
 refine xpL (.bool false) ?_; refine xpL (.pointer (some ⟨Rb,0,none⟩)) ?_; refine xpL (.bool false) ?_; refine xpL (.bool false) ?_; refine xT ?_; go_upto_region 6 with fail; refine wp_region_list ?_; refine xpL (.slice spH hello.length capH) ?_; refine xaL (.int .i64 ((hello.length:Nat):Int)) (lenS _ 32 5 spH hello.length capH rfl Tryz.underlying32 rfl _) ?_
 obtain ⟨b1,hb1⟩:∃ y_,y_=(decide (((hello.length:Nat):Int)>128)):=⟨_,rfl⟩
 refine xaL (.bool b1) (gtrI .i64 _ _ _ _ _ _ rfl rfl rfl b1 hb1.symm _) ?_; refine xT ?_
 go_upto_if 47 with fail
 go_cut [1] from 48 (fun v_ wx=>OldS w0 (hello.take 128) v_∧w4=wx)
 case first =>
  cases b1 with
  | true =>
    have hc_:128<hello.length:=by have:=of_decide_eq_true hb1.symm; omega
    try clear hb1
    go_upto_region 7 with fail; refine wp_region_list ?_; refine xpL (.slice spH hello.length capH) ?_
    obtain ⟨p5,hr_5,hs_5⟩:=cut_hiA (P:=Tryz.prog) (t:=32) (by kernel_rfl) (fun _=>by kernel_rfl) spH hello.length capH 128 (by omega) leH (by decide)
    refine xaL (.slice p5 128 capH) (cutHi _ _ _ _ _ _ rfl rfl rfl (hr_5 _)) ?_; refine xpL (.slice p5 128 capH) ?_; refine xT ?_; have HO:=show Hid _ from (OldS.cut hc_ leH (hs_5 [] _ _ ⟨srcH,fun _ _ _ h=>by cases h⟩).1 (by decide)); clear hc_; go_wp2
    go_meet
    exact ⟨HO.out,rfl⟩
  | false =>
    have hc_:¬ 128<hello.length:=by have:=of_decide_eq_false hb1.symm; omega
    try clear hb1
    have HO:=show Hid _ from (OldS.keep hc_ leH nilH srcH); clear hc_; go_wp2
    go_meet
    exact ⟨HO.out,rfl⟩
 case rest =>
  try clear hb1
  obtain ⟨⟨spH_,capH_,rfl,leH_,nilH_,srcH_⟩,rfl⟩:=hcut
  go_upto_region 8 with fail; refine wp_region_list ?_; refine xpL (.slice spR reply.length capR) ?_; refine xaL (.int .i64 ((reply.length:Nat):Int)) (lenS _ 32 5 spR reply.length capR rfl Tryz.underlying32 rfl _) ?_
  obtain ⟨b2,hb2⟩:∃ y_,y_=(decide (((reply.length:Nat):Int)>128)):=⟨_,rfl⟩
  refine xaL (.bool b2) (gtrI .i64 _ _ _ _ _ _ rfl rfl rfl b2 hb2.symm _) ?_; refine xT ?_
  go_upto_if 52 with fail
  go_cut [2] from 53 (fun v_ wx=>OldS w0 (reply.take 128) v_∧w4=wx)
  case first =>
   cases b2 with
   | true =>
     have hc_:128<reply.length:=by have:=of_decide_eq_true hb2.symm; omega
     try clear hb2
     go_upto_region 9 with fail; refine wp_region_list ?_; refine xpL (.slice spR reply.length capR) ?_
     obtain ⟨p6,hr_6,hs_6⟩:=cut_hiA (P:=Tryz.prog) (t:=32) (by kernel_rfl) (fun _=>by kernel_rfl) spR reply.length capR 128 (by omega) leR (by decide)
     refine xaL (.slice p6 128 capR) (cutHi _ _ _ _ _ _ rfl rfl rfl (hr_6 _)) ?_; refine xpL (.slice p6 128 capR) ?_; refine xT ?_; have HO:=show Hid _ from (OldS.cut hc_ leR (hs_6 [] _ _ ⟨srcR,fun _ _ _ h=>by cases h⟩).1 (by decide)); clear hc_; go_wp2
     go_meet
     exact ⟨HO.out,rfl⟩
   | false =>
     have hc_:¬ 128<reply.length:=by have:=of_decide_eq_false hb2.symm; omega
     try clear hb2
     have HO:=show Hid _ from (OldS.keep hc_ leR nilR srcR); clear hc_; go_wp2
     go_meet
     exact ⟨HO.out,rfl⟩
  case rest =>
   try clear hb2
   obtain ⟨⟨spR_,capR_,rfl,leR_,nilR_,srcR_⟩,rfl⟩:=hcut
   go_upto_region 10 with fail; refine wp_region_list ?_; refine xpL (.pointer (some ⟨Ra,0,none⟩)) ?_; refine xpL (.slice spH_ ((hello.take 128).length) capH_) ?_; have Mp:=M.perm (pull1 ([(B1,[row .u8 32 a,row .u8 32 d,row .u8 32 b,row .u8 32 f,[Value.bool false],row .u8 32 (bl O)].flatten)]:List (Nat × List Value)) bb0 ba0 ([]:List (Nat × List Value)))
   have key:=hK.fst w0 _ _ (shBegin a d (LD.pub b)) ba0 _ hg hIa hWa spH_ capH_ (hello.take 128) (by have:=lenH_; omega) leH_ nilH_ byH_ Mp ((SrcA.of_old srcH_ Mp.los).off (Off.of_below Mp.below))
   rw [h1.out] at key
   simp only [shE,shB,shN] at key
   refine xcL key ?_; clear key; rintro e w7 ⟨⟨v7,rfl,N_7⟩,ba1,hI_,hsub,M',o1⟩
   have hq_:∀ b∈ba1.map Prod.fst,b<_:=fun b hb=>by
    obtain ⟨p,hp,rfl⟩:=List.mem_map.1 hb
    exact hqa _ (hsub p hp)
   have hs_7_a:=hbz_a; replace hbz_a:=xnT hbz_a o1.size; have hs_7_b:=hbz_b; replace hbz_b:=xnT hbz_b o1.size; clear o1 hsub Mp M hIa hqa; have hIa:=hI_; have hqa:=hq_; clear hI_ hq_
   replace hWa:ShkW xA1:=hwxA1
   have M:Mm w0 ((B1,[row .u8 32 a,row .u8 32 d,row .u8 32 b,row .u8 32 f,[Value.bool false],row .u8 32 (bl O)].flatten)::(bb0++(ba1++([]:List (Nat × List Value))))) w7:=M'.perm (pull1 ([(B1,[row .u8 32 a,row .u8 32 d,row .u8 32 b,row .u8 32 f,[Value.bool false],row .u8 32 (bl O)].flatten)]:List (Nat × List Value)) bb0 ba1 ([]:List (Nat × List Value))).symm
   clear M'
   try clear ba0
   obtain ⟨p7,c7,rfl,hcc_7,hnn_7,_,_⟩:=id N_7
   refine xeL ?_; refine xpL (.tuple #[.slice p7 ((m1).length) c7,.int .i64 0]) ?_; refine xpL (.slice p7 ((m1).length) c7) ?_; refine xpL (.int .i64 0) ?_; refine xpL (.slice p7 ((m1).length) c7) ?_; refine xpL (.int .i64 0) ?_; refine xT ?_; go_upto_region 11 with fail; refine wp_region_list ?_; refine xpL (.pointer (some ⟨Rb,0,none⟩)) ?_; refine xpL (.slice p7 ((m1).length) c7) ?_
   have Mp:=M.perm (pull0 ([(B1,[row .u8 32 a,row .u8 32 d,row .u8 32 b,row .u8 32 f,[Value.bool false],row .u8 32 (bl O)].flatten)]:List (Nat × List Value)) bb0 (ba1++([]:List (Nat × List Value)))); have key:=hK.tfs w0 _ _ (shAwait LD b f) bb0 _ hg hIb hWb p7 c7 m1 (by omega) hcc_7 hnn_7 y1 Mp (NewF.srcA N_7 (fun b_ hb_=>xnL (hqb b_ hb_) hs_7_b))
   rw [h2.out] at key
   simp only [shE,shB,shN] at key
   refine xcL key ?_; clear key; rintro e w8 ⟨⟨v8,rfl,N_8⟩,bb1,hI_,hsub,M',o1⟩
   have hq_:∀ b∈bb1.map Prod.fst,b<_:=fun b hb=>by
    obtain ⟨p,hp,rfl⟩:=List.mem_map.1 hb
    exact hqb _ (hsub p hp)
   have hs_8_a:=hbz_a; replace hbz_a:=xnT hbz_a o1.size; have hs_8_b:=hbz_b; replace hbz_b:=xnT hbz_b o1.size; replace N_7:=NewF.off N_7 o1 (fun b_ hb_=>xnL (hqb b_ hb_) hs_7_b); clear o1 hsub Mp M hIb hqb; have hIb:=hI_; have hqb:=hq_; clear hI_ hq_
   replace hWb:ShkW xB1:=hwxB1
   have M:Mm w0 ((B1,[row .u8 32 a,row .u8 32 d,row .u8 32 b,row .u8 32 f,[Value.bool false],row .u8 32 (bl O)].flatten)::(bb1++(ba1++([]:List (Nat × List Value))))) w8:=M'.perm (pull0 ([(B1,[row .u8 32 a,row .u8 32 d,row .u8 32 b,row .u8 32 f,[Value.bool false],row .u8 32 (bl O)].flatten)]:List (Nat × List Value)) bb1 (ba1++([]:List (Nat × List Value)))).symm
   clear M'
   try clear bb0
   obtain ⟨p8,c8,rfl,hcc_8,hnn_8,_,_⟩:=id N_8
   refine xeL ?_; refine xpL (.tuple #[.slice p8 ((hello.take 128).length) c8,.int .i64 0]) ?_; refine xpL (.slice p8 ((hello.take 128).length) c8) ?_; refine xpL (.int .i64 0) ?_; refine xpL (.slice p8 ((hello.take 128).length) c8) ?_; refine xpL (.int .i64 0) ?_; refine xT ?_; go_upto_region 12 with fail; refine wp_region_list ?_; refine xpL (.pointer (some ⟨Rb,0,none⟩)) ?_
   refine xpL (.slice spR_ ((reply.take 128).length) capR_) ?_; have Mp:=M.perm (pull0 ([(B1,[row .u8 32 a,row .u8 32 d,row .u8 32 b,row .u8 32 f,[Value.bool false],row .u8 32 (bl O)].flatten)]:List (Nat × List Value)) bb1 (ba1++([]:List (Nat × List Value))))
   have key:=hK.snd w0 _ _ xB1 bb1 _ hg hIb hWb spR_ capR_ (reply.take 128) (by have:=lenR_; omega) leR_ nilR_ byR_ Mp ((SrcA.of_old srcR_ Mp.los).off (Off.of_below Mp.below))
   rw [h3.out] at key
   simp only [shE,shB,shN] at key
   refine xcL key ?_; clear key; rintro e w9 ⟨⟨v9,rfl,N_9⟩,bb2,hI_,hsub,M',o1⟩
   have hq_:∀ b∈bb2.map Prod.fst,b<_:=fun b hb=>by
    obtain ⟨p,hp,rfl⟩:=List.mem_map.1 hb
    exact hqb _ (hsub p hp)
   have hs_9_a:=hbz_a; replace hbz_a:=xnT hbz_a o1.size; have hs_9_b:=hbz_b; replace hbz_b:=xnT hbz_b o1.size; replace N_7:=NewF.off N_7 o1 (fun b_ hb_=>xnL (hqb b_ hb_) hs_7_b); replace N_8:=NewF.off N_8 o1 (fun b_ hb_=>xnL (hqb b_ hb_) hs_8_b); clear o1 hsub Mp M hIb hqb; have hIb:=hI_; have hqb:=hq_; clear hI_ hq_
   replace hWb:ShkW xB2:=hwxB2
   have M:Mm w0 ((B1,[row .u8 32 a,row .u8 32 d,row .u8 32 b,row .u8 32 f,[Value.bool false],row .u8 32 (bl O)].flatten)::(bb2++(ba1++([]:List (Nat × List Value))))) w9:=M'.perm (pull0 ([(B1,[row .u8 32 a,row .u8 32 d,row .u8 32 b,row .u8 32 f,[Value.bool false],row .u8 32 (bl O)].flatten)]:List (Nat × List Value)) bb2 (ba1++([]:List (Nat × List Value)))).symm
   clear M'
   try clear bb1
   obtain ⟨p9,c9,rfl,hcc_9,hnn_9,_,_⟩:=id N_9
   refine xeL ?_; refine xpL (.tuple #[.slice p9 ((m2).length) c9,.int .i64 0]) ?_; refine xpL (.slice p9 ((m2).length) c9) ?_; refine xpL (.int .i64 0) ?_; refine xpL (.slice p9 ((m2).length) c9) ?_; refine xpL (.int .i64 0) ?_; refine xT ?_; go_upto_region 13 with fail; refine wp_region_list ?_; refine xpL (.pointer (some ⟨Ra,0,none⟩)) ?_; refine xpL (.slice p9 ((m2).length) c9) ?_
   have Mp:=M.perm (pull1 ([(B1,[row .u8 32 a,row .u8 32 d,row .u8 32 b,row .u8 32 f,[Value.bool false],row .u8 32 (bl O)].flatten)]:List (Nat × List Value)) bb2 ba1 ([]:List (Nat × List Value))); have key:=hK.tsn w0 _ _ xA1 ba1 _ hg hIa hWa p9 c9 m2 (by omega) hcc_9 hnn_9 y2 Mp (NewF.srcA N_9 (fun b_ hb_=>xnL (hqa b_ hb_) hs_9_a))
   rw [h4.out] at key
   simp only [shE,shB,shN] at key
   refine xcL key ?_; clear key; rintro e w10 ⟨⟨v10,rfl,N_10⟩,ba2,hI_,hsub,M',o1⟩
   have hq_:∀ b∈ba2.map Prod.fst,b<_:=fun b hb=>by
    obtain ⟨p,hp,rfl⟩:=List.mem_map.1 hb
    exact hqa _ (hsub p hp)
   have hs_10_a:=hbz_a; replace hbz_a:=xnT hbz_a o1.size; have hs_10_b:=hbz_b; replace hbz_b:=xnT hbz_b o1.size; replace N_7:=NewF.off N_7 o1 (fun b_ hb_=>xnL (hqa b_ hb_) hs_7_a); replace N_8:=NewF.off N_8 o1 (fun b_ hb_=>xnL (hqa b_ hb_) hs_8_a); replace N_9:=NewF.off N_9 o1 (fun b_ hb_=>xnL (hqa b_ hb_) hs_9_a); clear o1 hsub Mp M hIa hqa; have hIa:=hI_; have hqa:=hq_
   clear hI_ hq_
   replace hWa:ShkW xA2:=hwxA2
   have M:Mm w0 ((B1,[row .u8 32 a,row .u8 32 d,row .u8 32 b,row .u8 32 f,[Value.bool false],row .u8 32 (bl O)].flatten)::(bb2++(ba2++([]:List (Nat × List Value))))) w10:=M'.perm (pull1 ([(B1,[row .u8 32 a,row .u8 32 d,row .u8 32 b,row .u8 32 f,[Value.bool false],row .u8 32 (bl O)].flatten)]:List (Nat × List Value)) bb2 ba2 ([]:List (Nat × List Value))).symm
   clear M'
   try clear ba1
   obtain ⟨p10,c10,rfl,hcc_10,hnn_10,_,_⟩:=id N_10
   refine xeL ?_; refine xpL (.tuple #[.slice p10 ((reply.take 128).length) c10,.int .i64 0]) ?_; refine xpL (.slice p10 ((reply.take 128).length) c10) ?_; refine xpL (.int .i64 0) ?_; refine xpL (.slice p10 ((reply.take 128).length) c10) ?_; refine xpL (.int .i64 0) ?_; refine xT ?_; go_upto_region 14 with fail; refine wp_region_list ?_; refine xpL (.pointer (some ⟨Ra,0,none⟩)) ?_
   have Mp:=M.perm (pull1 ([(B1,[row .u8 32 a,row .u8 32 d,row .u8 32 b,row .u8 32 f,[Value.bool false],row .u8 32 (bl O)].flatten)]:List (Nat × List Value)) bb2 ba2 ([]:List (Nat × List Value))); have key:=hK.kys w0 _ _ xA2 ba2 _ hg hIa hWa Mp
   rw [k1.out,d1.out] at key
   clear Mp; refine xcL (key) ?_; rintro e w11 ⟨rfl,l⟩; replace M:=M.call l; replace hbz_a:=xnT hbz_a l.size; replace hbz_b:=xnT hbz_b l.size; replace N_7:=NewF.below N_7 l; replace N_8:=NewF.below N_8 l; replace N_9:=NewF.below N_9 l; replace N_10:=NewF.below N_10 l; clear l; refine xeL ?_; clear key
   refine xpL (.tuple #[.agg ([row .u8 32 (kA xA2.st.c 0 (bl [])),row .u8 32 (kB xA2.st.c 0 (bl []))].flatten).toArray,.bool true]) ?_; refine xpL (.agg ([row .u8 32 (kA xA2.st.c 0 (bl [])),row .u8 32 (kB xA2.st.c 0 (bl []))].flatten).toArray) ?_; refine xpL (.bool true) ?_; have hnew:=Below.refl w11.heap.size w11
   have hlb:=(Below.refl w11.heap.size w11).alloc (xnR _) (.cells ([row .u8 32 (fun _=>0),row .u8 32 (fun _=>0)].flatten).toArray 41); refine actL (w':=w11.alloc (.cells ([row .u8 32 (fun _=>0),row .u8 32 (fun _=>0)].flatten).toArray 41)) (.pointer (some ⟨w11.heap.size,0,none⟩)) rfl (by kernel_rfl) ?_; simp only [aP,lI,l0,lS]; replace hnew:=hnew.trans (hlb.mono hnew.size)
   replace M:=M.box ([row .u8 32 (fun _=>0),row .u8 32 (fun _=>0)].flatten).toArray 41 w11.heap.size rfl; clear hlb; generalize w11.alloc (.cells ([row .u8 32 (fun _=>0),row .u8 32 (fun _=>0)].flatten).toArray 41)=w12 at M hnew ⊢
   have hA_B12:w11.heap.size≤w11.heap.size:=xnR _
   generalize eB_:w11.heap.size=B12 at M hA_B12 ⊢
   replace hA_B12:w11.heap.size≤B12:=Nat.le_of_eq eB_
   clear eB_
   replace M:Mm w0 ((B12,[row .u8 32 (fun _=>0),row .u8 32 (fun _=>0)].flatten)::(B1,[row .u8 32 a,row .u8 32 d,row .u8 32 b,row .u8 32 f,[Value.bool false],row .u8 32 (bl O)].flatten)::(bb2++(ba2++([]:List (Nat × List Value))))) w12:=M
   refine skipOpL rfl (storeP ([row .u8 32 (kA xA2.st.c 0 (bl [])),row .u8 32 (kB xA2.st.c 0 (bl []))].flatten) B12 0 41 _ _ rfl rfl rfl (M.thereP mS 0 64 (by rw [flat_len _ [32,32] (by kernel_rfl)]; decide)) (by rw [List.size_toArray,flat_len _ [32,32] (by kernel_rfl)]; kernel_rfl) (flat_one _ (fun p_ hp_=>by
    simp only [List.mem_cons,List.not_mem_nil,or_false] at hp_
    rcases hp_ with rfl | rfl <;> first | exact row_one .u8 32 _ | exact pcs12_one _ | (intro u hu; obtain rfl:=xm1 hu; rfl)))) ?_
   simp only [Act.put]; replace M:=M.setAll ([row .u8 32 (kA xA2.st.c 0 (bl [])),row .u8 32 (kB xA2.st.c 0 (bl []))].flatten) (by rw [flat_len _ [32,32] (by kernel_rfl),flat_len _ [32,32] (by kernel_rfl)]); replace hnew:=below_setAll hnew B12 (by have:=hnew.size; omega) 0 ([row .u8 32 (kA xA2.st.c 0 (bl [])),row .u8 32 (kB xA2.st.c 0 (bl []))].flatten)
   generalize w12.setCells B12 0 ([row .u8 32 (kA xA2.st.c 0 (bl [])),row .u8 32 (kB xA2.st.c 0 (bl []))].flatten)=w13 at M hnew ⊢; refine xpL (.bool true) ?_; refine xT ?_; replace hbz_a:=xnT hbz_a hnew.size; replace hbz_b:=xnT hbz_b hnew.size; replace N_7:=NewF.below N_7 hnew; replace N_8:=NewF.below N_8 hnew; replace N_9:=NewF.below N_9 hnew; replace N_10:=NewF.below N_10 hnew
   clear hnew; go_upto_region 15 with fail; refine wp_region_list ?_; refine xpL (.pointer (some ⟨Rb,0,none⟩)) ?_
   have Mp:=M.perm (pull0 ([(B12,[row .u8 32 (kA xA2.st.c 0 (bl [])),row .u8 32 (kB xA2.st.c 0 (bl []))].flatten),(B1,[row .u8 32 a,row .u8 32 d,row .u8 32 b,row .u8 32 f,[Value.bool false],row .u8 32 (bl O)].flatten)]:List (Nat × List Value)) bb2 (ba2++([]:List (Nat × List Value)))); have key:=hK.kys w0 _ _ xB2 bb2 _ hg hIb hWb Mp
   rw [k2.out,d2.out] at key
   clear Mp; refine xcL (key) ?_; rintro e w14 ⟨rfl,l⟩; replace M:=M.call l; replace hbz_a:=xnT hbz_a l.size; replace hbz_b:=xnT hbz_b l.size; replace N_7:=NewF.below N_7 l; replace N_8:=NewF.below N_8 l; replace N_9:=NewF.below N_9 l; replace N_10:=NewF.below N_10 l; clear l; refine xeL ?_; clear key
   refine xpL (.tuple #[.agg ([row .u8 32 (kA xA2.st.c 0 (bl [])),row .u8 32 (kB xA2.st.c 0 (bl []))].flatten).toArray,.bool true]) ?_; refine xpL (.agg ([row .u8 32 (kA xA2.st.c 0 (bl [])),row .u8 32 (kB xA2.st.c 0 (bl []))].flatten).toArray) ?_; refine xpL (.bool true) ?_; have hnew:=Below.refl w14.heap.size w14
   have hlb:=(Below.refl w14.heap.size w14).alloc (xnR _) (.cells ([row .u8 32 (fun _=>0),row .u8 32 (fun _=>0)].flatten).toArray 41); refine actL (w':=w14.alloc (.cells ([row .u8 32 (fun _=>0),row .u8 32 (fun _=>0)].flatten).toArray 41)) (.pointer (some ⟨w14.heap.size,0,none⟩)) rfl (by kernel_rfl) ?_; simp only [aP,lI,l0,lS]; replace hnew:=hnew.trans (hlb.mono hnew.size)
   replace M:=M.box ([row .u8 32 (fun _=>0),row .u8 32 (fun _=>0)].flatten).toArray 41 w14.heap.size rfl; clear hlb; generalize w14.alloc (.cells ([row .u8 32 (fun _=>0),row .u8 32 (fun _=>0)].flatten).toArray 41)=w15 at M hnew ⊢
   have hA_B15:w14.heap.size≤w14.heap.size:=xnR _
   generalize eB_:w14.heap.size=B15 at M hA_B15 ⊢
   replace hA_B15:w14.heap.size≤B15:=Nat.le_of_eq eB_
   clear eB_
   replace M:Mm w0 ((B15,[row .u8 32 (fun _=>0),row .u8 32 (fun _=>0)].flatten)::(B12,[row .u8 32 (kA xA2.st.c 0 (bl [])),row .u8 32 (kB xA2.st.c 0 (bl []))].flatten)::(B1,[row .u8 32 a,row .u8 32 d,row .u8 32 b,row .u8 32 f,[Value.bool false],row .u8 32 (bl O)].flatten)::(bb2++(ba2++([]:List (Nat × List Value))))) w15:=M
   refine skipOpL rfl (storeP ([row .u8 32 (kA xA2.st.c 0 (bl [])),row .u8 32 (kB xA2.st.c 0 (bl []))].flatten) B15 0 41 _ _ rfl rfl rfl (M.thereP mS 0 64 (by rw [flat_len _ [32,32] (by kernel_rfl)]; decide)) (by rw [List.size_toArray,flat_len _ [32,32] (by kernel_rfl)]; kernel_rfl) (flat_one _ (fun p_ hp_=>by
    simp only [List.mem_cons,List.not_mem_nil,or_false] at hp_
    rcases hp_ with rfl | rfl <;> first | exact row_one .u8 32 _ | exact pcs12_one _ | (intro u hu; obtain rfl:=xm1 hu; rfl)))) ?_
   simp only [Act.put]; replace M:=M.setAll ([row .u8 32 (kA xA2.st.c 0 (bl [])),row .u8 32 (kB xA2.st.c 0 (bl []))].flatten) (by rw [flat_len _ [32,32] (by kernel_rfl),flat_len _ [32,32] (by kernel_rfl)]); replace hnew:=below_setAll hnew B15 (by have:=hnew.size; omega) 0 ([row .u8 32 (kA xA2.st.c 0 (bl [])),row .u8 32 (kB xA2.st.c 0 (bl []))].flatten)
   generalize w15.setCells B15 0 ([row .u8 32 (kA xA2.st.c 0 (bl [])),row .u8 32 (kB xA2.st.c 0 (bl []))].flatten)=w16 at M hnew ⊢; refine xpL (.bool true) ?_; refine xT ?_; replace hbz_a:=xnT hbz_a hnew.size; replace hbz_b:=xnT hbz_b hnew.size; replace N_7:=NewF.below N_7 hnew; replace N_8:=NewF.below N_8 hnew; replace N_9:=NewF.below N_9 hnew; replace N_10:=NewF.below N_10 hnew
   clear hnew; go_upto_region 16 with fail; refine wp_region_list ?_; refine xpL (.pointer (some ⟨Rb,0,none⟩)) ?_
   have Mp:=M.perm (pull0 ([(B15,[row .u8 32 (kA xA2.st.c 0 (bl [])),row .u8 32 (kB xA2.st.c 0 (bl []))].flatten),(B12,[row .u8 32 (kA xA2.st.c 0 (bl [])),row .u8 32 (kB xA2.st.c 0 (bl []))].flatten),(B1,[row .u8 32 a,row .u8 32 d,row .u8 32 b,row .u8 32 f,[Value.bool false],row .u8 32 (bl O)].flatten)]:List (Nat × List Value)) bb2 (ba2++([]:List (Nat × List Value))))
   have key:=hK.oth w0 _ _ xB2 bb2 _ hg hIb Mp
   rw [h8.out,o2.out] at key
   clear Mp; refine xcL (key) ?_; rintro e w17 ⟨rfl,l⟩; replace M:=M.call l; replace hbz_a:=xnT hbz_a l.size; replace hbz_b:=xnT hbz_b l.size; replace N_7:=NewF.below N_7 l; replace N_8:=NewF.below N_8 l; replace N_9:=NewF.below N_9 l; replace N_10:=NewF.below N_10 l; clear l; refine xeL ?_; clear key; refine xpL (.tuple #[.agg (row .u8 32 (bl (LD.pub a))).toArray,.bool true]) ?_
   refine xpL (.agg (row .u8 32 (bl (LD.pub a))).toArray) ?_; refine xpL (.bool true) ?_; have hnew:=Below.refl w17.heap.size w17; have hlb:=(Below.refl w17.heap.size w17).alloc (xnR _) (.cells zu8_32 23); refine actL (w':=w17.alloc (.cells zu8_32 23)) (.pointer (some ⟨w17.heap.size,0,none⟩)) rfl (by kernel_rfl) ?_; simp only [aP,lI,l0,lS]
   replace hnew:=hnew.trans (hlb.mono hnew.size); replace M:=M.box zu8_32 23 w17.heap.size rfl; clear hlb; generalize w17.alloc (.cells zu8_32 23)=w18 at M hnew ⊢
   have hA_B18:w17.heap.size≤w17.heap.size:=xnR _
   generalize eB_:w17.heap.size=B18 at M hA_B18 ⊢
   replace hA_B18:w17.heap.size≤B18:=Nat.le_of_eq eB_
   clear eB_
   replace M:Mm w0 ((B18,row .u8 32 (fun _=>0))::(B15,[row .u8 32 (kA xA2.st.c 0 (bl [])),row .u8 32 (kB xA2.st.c 0 (bl []))].flatten)::(B12,[row .u8 32 (kA xA2.st.c 0 (bl [])),row .u8 32 (kB xA2.st.c 0 (bl []))].flatten)::(B1,[row .u8 32 a,row .u8 32 d,row .u8 32 b,row .u8 32 f,[Value.bool false],row .u8 32 (bl O)].flatten)::(bb2++(ba2++([]:List (Nat × List Value))))) w18:=M
   refine skipOpL rfl (storeP (row .u8 32 (bl (LD.pub a))) B18 0 23 _ _ rfl rfl rfl (M.thereP mS 0 32 (Nat.le_of_ble_eq_true rfl)) (by kernel_rfl) (row_one .u8 32 (bl (LD.pub a)))) ?_; simp only [Act.put]; replace M:=M.setAll (row .u8 32 (bl (LD.pub a))) (by first | (rw [row32,row32]; done) | (rw [row32]; rfl) | (rw [row32]; done))
   replace hnew:=below_setAll hnew B18 (by have:=hnew.size; omega) 0 (row .u8 32 (bl (LD.pub a))); generalize w18.setCells B18 0 (row .u8 32 (bl (LD.pub a)))=w19 at M hnew ⊢; refine xpL (.bool true) ?_; refine xT ?_; replace hbz_a:=xnT hbz_a hnew.size; replace hbz_b:=xnT hbz_b hnew.size; replace N_7:=NewF.below N_7 hnew; replace N_8:=NewF.below N_8 hnew
   replace N_9:=NewF.below N_9 hnew; replace N_10:=NewF.below N_10 hnew; clear hnew; go_upto_region 17 with fail
   refine wp_region_held_drew (S:=fun w'=>Mm w0 ((B18,row .u8 32 (bl (LD.pub a)))::(B15,[row .u8 32 (kA xA2.st.c 0 (bl [])),row .u8 32 (kB xA2.st.c 0 (bl []))].flatten)::(B12,[row .u8 32 (kA xA2.st.c 0 (bl [])),row .u8 32 (kB xA2.st.c 0 (bl []))].flatten)::(B1,[row .u8 32 a,row .u8 32 d,row .u8 32 b,row .u8 32 f,[Value.bool false],row .u8 32 (bl O)].flatten)::(bb2++(ba2++([]:List (Nat × List Value))))) w'∧Below w19.heap.size w19 w') (by kernel_rfl) ⟨M.drew,(Below.refl _ _).drew⟩ ?_
   clear M; intro hS_
   obtain ⟨M,hH⟩:=hS_
   generalize w19.drew=w20 at M hH ⊢; refine xrH 0 94 rfl (.int .i64 0) (fun _ ⟨M,hH⟩=>(by kernel_rfl)) ⟨M,hH⟩ ?_; refine xrH 1 95 rfl (.bool true) (fun _ ⟨M,hH⟩=>eqlI .i64 _ _ _ _ _ _ rfl rfl rfl true (by decide) _) ⟨M,hH⟩ ?_; refine xrH 2 96 rfl (.bool true) (fun _ ⟨M,hH⟩=>(by kernel_rfl)) ⟨M,hH⟩ ?_; refine xrH 3 97 rfl (.int .i64 0) (fun _ ⟨M,hH⟩=>(by kernel_rfl)) ⟨M,hH⟩ ?_
   refine xrH 4 98 rfl (.bool true) (fun _ ⟨M,hH⟩=>eqlI .i64 _ _ _ _ _ _ rfl rfl rfl true (by decide) _) ⟨M,hH⟩ ?_; refine xrH 5 99 rfl (.bool true) (fun _ ⟨M,hH⟩=>(by kernel_rfl)) ⟨M,hH⟩ ?_; refine xrH 6 100 rfl (.bool true) (fun _ ⟨M,hH⟩=>(by kernel_rfl)) ⟨M,hH⟩ ?_; refine xrH 7 101 rfl (.int .i64 0) (fun _ ⟨M,hH⟩=>(by kernel_rfl)) ⟨M,hH⟩ ?_
   refine xrH 8 102 rfl (.bool true) (fun _ ⟨M,hH⟩=>eqlI .i64 _ _ _ _ _ _ rfl rfl rfl true (by decide) _) ⟨M,hH⟩ ?_; refine xrH 9 103 rfl (.bool true) (fun _ ⟨M,hH⟩=>(by kernel_rfl)) ⟨M,hH⟩ ?_; refine xrH 10 104 rfl (.bool true) (fun _ ⟨M,hH⟩=>(by kernel_rfl)) ⟨M,hH⟩ ?_; refine xrH 11 105 rfl (.int .i64 0) (fun _ ⟨M,hH⟩=>(by kernel_rfl)) ⟨M,hH⟩ ?_
   refine xrH 12 106 rfl (.bool true) (fun _ ⟨M,hH⟩=>eqlI .i64 _ _ _ _ _ _ rfl rfl rfl true (by decide) _) ⟨M,hH⟩ ?_; refine xrH 13 107 rfl (.bool true) (fun _ ⟨M,hH⟩=>(by kernel_rfl)) ⟨M,hH⟩ ?_; refine xrH 14 108 rfl (.bool true) (fun _ ⟨M,hH⟩=>(by kernel_rfl)) ⟨M,hH⟩ ?_; refine xrH 15 109 rfl (.slice p8 ((hello.take 128).length) c8) (fun _ ⟨M,hH⟩=>(by kernel_rfl)) ⟨M,hH⟩ ?_
   refine xrH 16 110 rfl (.string (txt ((hello.take 128).length) (bl (hello.take 128)))) (fun _ ⟨M,hH⟩=>conv_txt 32 5 9 _ rfl Tryz.underlying32 Tryz.underlying5 Tryz.underlying9 p8 ((hello.take 128).length) c8 (bl (hello.take 128)) rfl _ (NewF.src (NewF.below N_8 hH)) (fun e=>by have h1:=hnn_8 e; have h2:=hcc_8; omega)) ⟨M,hH⟩ ?_
   refine xrH 17 111 rfl (.slice spH_ ((hello.take 128).length) capH_) (fun _ ⟨M,hH⟩=>(by kernel_rfl)) ⟨M,hH⟩ ?_
   refine xrH 18 112 rfl (.string (txt ((hello.take 128).length) (bl (hello.take 128)))) (fun _ ⟨M,hH⟩=>conv_txt 32 5 9 _ rfl Tryz.underlying32 Tryz.underlying5 Tryz.underlying9 spH_ ((hello.take 128).length) capH_ (bl (hello.take 128)) rfl _ (srcH_.below M.below (xnR _)) (fun e=>by have h1:=nilH_ e; have h2:=leH_; omega)) ⟨M,hH⟩ ?_
   refine xrH 19 113 rfl (.bool true) (fun _ ⟨M,hH⟩=>eqlS _ _ _ _ _ _ rfl rfl rfl rfl _) ⟨M,hH⟩ ?_; refine xrH 20 114 rfl (.bool true) (fun _ ⟨M,hH⟩=>(by kernel_rfl)) ⟨M,hH⟩ ?_; refine xrH 21 115 rfl (.bool true) (fun _ ⟨M,hH⟩=>(by kernel_rfl)) ⟨M,hH⟩ ?_; refine xrH 22 116 rfl (.slice p10 ((reply.take 128).length) c10) (fun _ ⟨M,hH⟩=>(by kernel_rfl)) ⟨M,hH⟩ ?_
   refine xrH 23 117 rfl (.string (txt ((reply.take 128).length) (bl (reply.take 128)))) (fun _ ⟨M,hH⟩=>conv_txt 32 5 9 _ rfl Tryz.underlying32 Tryz.underlying5 Tryz.underlying9 p10 ((reply.take 128).length) c10 (bl (reply.take 128)) rfl _ (NewF.src (NewF.below N_10 hH)) (fun e=>by have h1:=hnn_10 e; have h2:=hcc_10; omega)) ⟨M,hH⟩ ?_
   refine xrH 24 118 rfl (.slice spR_ ((reply.take 128).length) capR_) (fun _ ⟨M,hH⟩=>(by kernel_rfl)) ⟨M,hH⟩ ?_
   refine xrH 25 119 rfl (.string (txt ((reply.take 128).length) (bl (reply.take 128)))) (fun _ ⟨M,hH⟩=>conv_txt 32 5 9 _ rfl Tryz.underlying32 Tryz.underlying5 Tryz.underlying9 spR_ ((reply.take 128).length) capR_ (bl (reply.take 128)) rfl _ (srcR_.below M.below (xnR _)) (fun e=>by have h1:=nilR_ e; have h2:=leR_; omega)) ⟨M,hH⟩ ?_
   refine xrH 26 120 rfl (.bool true) (fun _ ⟨M,hH⟩=>eqlS _ _ _ _ _ _ rfl rfl rfl rfl _) ⟨M,hH⟩ ?_; refine xrH 27 121 rfl (.bool true) (fun _ ⟨M,hH⟩=>(by kernel_rfl)) ⟨M,hH⟩ ?_; refine xrH 28 122 rfl (.bool true) (fun _ ⟨M,hH⟩=>(by kernel_rfl)) ⟨M,hH⟩ ?_; refine xrH 29 123 rfl (.bool true) (fun _ ⟨M,hH⟩=>(by kernel_rfl)) ⟨M,hH⟩ ?_
   refine xrH 30 124 rfl (.bool true) (fun _ ⟨M,hH⟩=>(by kernel_rfl)) ⟨M,hH⟩ ?_; refine xrH 31 125 rfl (.bool true) (fun _ ⟨M,hH⟩=>(by kernel_rfl)) ⟨M,hH⟩ ?_; refine xrH 32 126 rfl (.bool true) (fun _ ⟨M,hH⟩=>(by kernel_rfl)) ⟨M,hH⟩ ?_; refine xrH 33 127 rfl (.bool true) (fun _ ⟨M,hH⟩=>(by kernel_rfl)) ⟨M,hH⟩ ?_
   refine xrH 34 128 rfl (.bool true) (fun _ ⟨M,hH⟩=>(by kernel_rfl)) ⟨M,hH⟩ ?_
   refine xrH 35 129 rfl (.agg ([row .u8 32 (kA xA2.st.c 0 (bl [])),row .u8 32 (kB xA2.st.c 0 (bl []))].flatten).toArray) (fun _ ⟨M,hH⟩=>loadN 41 _ ⟨B12,0,none⟩ ([row .u8 32 (kA xA2.st.c 0 (bl [])),row .u8 32 (kB xA2.st.c 0 (bl []))].flatten) rfl rfl (fun _=>by kernel_rfl) (fun _=>by rw [flat_len _ [32,32] (by kernel_rfl)]; kernel_rfl) (M.part (mI 2 rfl) 0 _ (flat_mid [] [row .u8 32 (kA xA2.st.c 0 (bl [])),row .u8 32 (kB xA2.st.c 0 (bl []))] [] 0 (by kernel_rfl)))) ⟨M,hH⟩ ?_
   refine xrH 36 130 rfl (.agg ([row .u8 32 (kA xA2.st.c 0 (bl [])),row .u8 32 (kB xA2.st.c 0 (bl []))].flatten).toArray) (fun _ ⟨M,hH⟩=>loadN 41 _ ⟨B15,0,none⟩ ([row .u8 32 (kA xA2.st.c 0 (bl [])),row .u8 32 (kB xA2.st.c 0 (bl []))].flatten) rfl rfl (fun _=>by kernel_rfl) (fun _=>by rw [flat_len _ [32,32] (by kernel_rfl)]; kernel_rfl) (M.part (mT _ mS) 0 _ (flat_mid [] [row .u8 32 (kA xA2.st.c 0 (bl [])),row .u8 32 (kB xA2.st.c 0 (bl []))] [] 0 (by kernel_rfl)))) ⟨M,hH⟩ ?_
   refine xrH 37 131 rfl (.bool true) (fun _ ⟨M,hH⟩=>eqlPr _ _ _ _ rfl rfl rfl _) ⟨M,hH⟩ ?_; refine xrH 38 132 rfl (.bool true) (fun _ ⟨M,hH⟩=>(by kernel_rfl)) ⟨M,hH⟩ ?_; refine xrH 39 133 rfl (.bool true) (fun _ ⟨M,hH⟩=>(by kernel_rfl)) ⟨M,hH⟩ ?_; refine xrH 40 134 rfl (.bool true) (fun _ ⟨M,hH⟩=>(by kernel_rfl)) ⟨M,hH⟩ ?_
   refine xrH 41 135 rfl (.bool true) (fun _ ⟨M,hH⟩=>(by kernel_rfl)) ⟨M,hH⟩ ?_; refine xrH 42 136 rfl (.bool true) (fun _ ⟨M,hH⟩=>(by kernel_rfl)) ⟨M,hH⟩ ?_
   refine xrH 43 137 rfl (.agg (row .u8 32 (bl (LD.pub a))).toArray) (fun _ ⟨M,hH⟩=>loadN 23 _ ⟨B18,0,none⟩ (row .u8 32 (bl (LD.pub a))) rfl rfl (fun _=>by kernel_rfl) (fun _=>by rw [row32]; kernel_rfl) (M.part mS 0 _ (by rw [List.drop_zero,List.take_length]))) ⟨M,hH⟩ ?_; refine xrH 44 138 rfl (.pointer (some ⟨B1,0,none⟩)) (fun _ ⟨M,hH⟩=>(by kernel_rfl)) ⟨M,hH⟩ ?_
   refine xrH 45 139 rfl (.agg (row .u8 32 a).toArray) (fun _ ⟨M,hH⟩=>loadN 23 _ ⟨B1,0,none⟩ (row .u8 32 a) rfl rfl (fun _=>by kernel_rfl) (fun _=>by rw [row32]; kernel_rfl) (M.part (mI 3 rfl) 0 _ (flat_part _ [32,32,32,32,1,32] (by kernel_rfl) 0 0 _ rfl rfl))) ⟨M,hH⟩ ?_
   refine callH (i:=46) (some 140) rfl (by kernel_rfl) rfl rfl (fun _=>by kernel_rfl) (lrefpublic_any a ha _) ?_; rintro e w21 ⟨rfl,l⟩; replace M:=M.call l; replace hH:=hH.trans (l.mono hH.size); clear l
   refine ⟨_,rfl,⟨M,hH⟩,?_⟩
   simp only [aP,lI,l0,lS]; refine xrH 47 141 rfl (.bool true) (fun _ ⟨M,hH⟩=>eqlRow 32 .u8 (bl (LD.pub a)) (bl (LD.pub a)) 23 5 _ _ _ rfl rfl rfl Tryz.underlying23 Tryz.underlying5 (fun _=>by kernel_rfl) (by kernel_rfl) (fun _ _=>rfl) _) ⟨M,hH⟩ ?_; refine xrH 48 142 rfl (.bool true) (fun _ ⟨M,hH⟩=>(by kernel_rfl)) ⟨M,hH⟩ ?_
   refine xrH 49 6 rfl (.bool true) (fun _ ⟨M,hH⟩=>(by kernel_rfl)) ⟨M,hH⟩ ?_
   refine wpAnyH_done (by kernel_rfl) ?_ _
   first | show Exit.then _ _ _ _ _ | show Exit.inBlock _ _ _ _ _
   replace hbz_a:=xnT hbz_a hH.size; replace hbz_b:=xnT hbz_b hH.size; replace N_7:=NewF.below N_7 hH; replace N_8:=NewF.below N_8 hH; replace N_9:=NewF.below N_9 hH; replace N_10:=NewF.below N_10 hH; clear hH; have hbel:=M.below; clear M hbz_a hbz_b N_7 N_8 N_9 N_10; go_wp2; go_ret
   exact ⟨rfl,hbel⟩
section
open Go.ChangeShapes Go.WideShapes Go.ChangeAt Go.WideMaps Go.WideElems Go.RowKit
def intAt:Option Value→Int
 | some (.int _ n)=>n
 | _=>0
def litR {H:Type} (k:IntKind) (n:Nat) (f:Nat→Int):DataW H:=.agg ((List.range n).map fun j=>.lit (.int k (f j)))
section
variable {H:Type} {enc:TypeId × Value→H} {P:Program} {w:World} {base:Nat} {sp:Nat→Bool} {held:Bool}
theorem open_row {t e:TypeId} {n:Nat} {k:IntKind} (hu:P.underlying t=some (.array n e)) (he:P.underlying e=some (.int k)) (hct:P.cellsOf t=n) (hce:P.cellsOf e=1) {fuel:Nat} {cs:List Value} {x:DataW H × List MemPlace}
 (h:DataW.trod enc P w base sp held fuel t cs=some x):∃ f:Nat→Int,(∀ j,j<n→(Lit.int k (f j)).wf=true)∧cs=row k n f∧x=(litR k n f,[]):=by
 obtain ⟨xs,m,_,hx,hl,hn,hel⟩:=DataW.trod_array hu h
 rw [hct] at hl
 have hcell:∀ i,i<n→∃ v,cs[i]?=some (.int k v)∧xs[i]?=some (.lit (.int k v),[])∧(Lit.int k v).wf=true:=by
  intro i hi; have e1:=hel i hi
  rw [hce,Nat.mul_one] at e1
  have hxi:i<xs.length:=by omega
  rw [List.getElem?_eq_getElem hxi] at e1
  obtain ⟨v,e2,e3,e4⟩:=DataW.trod_int he e1
  refine ⟨v,?_,by rw [List.getElem?_eq_getElem hxi,e3],e4⟩
  have hci:i<cs.length:=by omega
  have e5:(cs.drop i).take 1=[cs[i]]:=by rw [List.drop_eq_getElem_cons hci,List.take_succ_cons,List.take_zero]
  rw [e5] at e2
  rw [List.getElem?_eq_getElem hci]
  simpa using e2
 refine ⟨fun i=>intAt cs[i]?,fun i hi=>?_,?_,?_⟩
 · obtain ⟨v,e1,_,e3⟩:=hcell i hi
   dsimp only
   rw [e1]; exact e3
 · refine List.ext_getElem? fun i=>?_
   by_cases hi:i<n
   · obtain ⟨v,e1,_,_⟩:=hcell i hi
     rw [row_get k n _ i hi,e1]; rfl
   · rw [List.getElem?_eq_none (by omega),List.getElem?_eq_none (by rw [row_length]; omega)]
 · rw [hx]
   congr 1
   · unfold litR
     congr 1
     refine List.ext_getElem? fun i=>?_
     by_cases hi:i<n
     · obtain ⟨v,e1,e2,_⟩:=hcell i hi
       rw [List.getElem?_map,e2,List.getElem?_map,List.getElem?_range hi]
       simp only [Option.map_some]
       rw [e1]
       rfl
     · rw [List.getElem?_eq_none (by simp [hn]; omega),List.getElem?_eq_none (by simp; omega)]
   · refine List.flatMap_eq_nil_iff.2 fun y hy=>?_
     obtain ⟨i,hi⟩:=List.mem_iff_getElem?.1 hy
     have hin:i<n:=by have:=(List.getElem?_eq_some_iff.1 hi).1; omega
     obtain ⟨v,_,e2,_⟩:=hcell i hin
     rw [e2] at hi
     rw [← Option.some.inj hi]
end
theorem wf_u8 {n:Int}:(Lit.int .u8 n).wf=true↔0≤n∧n<256:=by
 simp [Lit.wf,IntKind.min,IntKind.max,IntKind.signed,IntKind.bits]
 omega
theorem litR_inj {H:Type} {k:IntKind} {n:Nat} {f g:Nat→Int} (h:(litR k n f:DataW H)=litR k n g) (j:Nat) (hj:j<n):f j=g j:=by
 unfold litR at h
 injection h with h
 have e:=congrArg (fun l=>l[j]?) h
 simp only [List.getElem?_map,List.getElem?_range hj,Option.map_some,Option.some.injEq] at e
 injection e with e
 injection e
end
section
open Go.ChangeShapes Go.WideShapes Go.ChangeAt Go.WideMaps Go.WideElems Go.RowKit
theorem own:ownKnob Tryz.prog.godebug=none:=by kernel_rfl
theorem cellsByte:Tryz.prog.cellsOf 5=1:=by kernel_rfl
theorem laidOut:laidOutB Tryz.prog=true:=by kernel_rfl
structure Fit (H:Type) (Q:TypeId→DataW H→Prop) (m:Nat):Prop where
 bytes:∀ a b,Q 32 (.slice a b)→a.length≤m
section
variable {H:Type} {enc:TypeId × Value→H} {W:World} {Q:TypeId→DataW H→Prop} {m:Nat}
theorem field_of {fs:Array Field} {l:List (TypeId × Nat)} (h:fs.toList.map (fun f=>(f.type,f.offset))=l) (i:Nat) (t:TypeId) (o:Nat) (hi:l[i]?=some (t,o)):∃ f,fs[i]?=some f∧f.type=t∧f.offset=o:=by
 rw [← h,List.getElem?_map] at hi
 obtain ⟨f,h1,h2⟩:=Option.map_eq_some_iff.1 hi
 injection h2 with h2 h3
 exact ⟨f,by simpa using h1,h2,h3⟩
theorem open_octets (F:Fit H Q m) {fuel:Nat} {cs:List Value} {x:DataW H × List MemPlace} (h:DataW.trod enc Tryz.prog W 0 (fun _=>true) true fuel 32 cs=some x) (hq:Q 32 x.1) :
 ∃ (sp:Option Addr) (cap:Nat) (bs:List Int),cs=[.slice sp bs.length cap]∧Src W sp bs.length (bl bs)∧bs.length≤cap∧(sp=none→cap=0)∧bs.length≤m∧Byts bs:=by
 rcases open_ints Tryz.underlying32 Tryz.underlying5 cellsByte h with ⟨rfl,rfl⟩ | ⟨ad,len,cap,zs,rfl,_,hle,hmax,hall,rfl,hcell,hwf⟩
 · exact ⟨none,0,[],rfl,fun j hj=>absurd hj (xnZ j),xnR _,fun _=>rfl,Nat.zero_le _,fun x hx=>(by cases hx)⟩
 · simp only [if_true] at hall
   have hm:=F.bytes _ _ hq
   simp only [lits,List.length_map,List.length_take] at hm
   have hl:(zs.take len).length=len:=by rw [List.length_take]; omega
   refine ⟨some ad,cap,zs.take len,by rw [hl],fun j hj=>⟨ad,rfl,?_⟩,by rw [hl]; exact hle,fun e=>(by cases e),by rw [hl]; omega,fun y hy=>wf_u8.1 (hwf y (List.mem_of_mem_take hy))⟩
   rw [hl] at hj
   rw [bl_take _ _ _ hj]
   exact hcell j (by omega)
end
def Wok {H:Type} (t:TypeId) (d:DataW H):Prop:=∀ n∈d.weights Tryz.prog t,n≤reachBytes
theorem fitWok (H:Type):Fit H Wok 140737488351232 where
 bytes a b h:=by
  have h1:=h ((a.length+b.length)*Tryz.prog.bytesOf 5) (by simp only [DataW.weights,Tryz.underlying32]; exact mS)
  rw [show Tryz.prog.bytesOf 5=1 by kernel_rfl] at h1
  simp only [reachBytes] at h1
  omega
theorem cellsKey13:Tryz.prog.cellsOf 23=32:=by kernel_rfl
theorem cellsBool13:Tryz.prog.cellsOf 4=1:=by kernel_rfl
theorem fields13:(Tryz.prog.fieldsOf 25).toList.map (fun f=>(f.type,f.offset))=[(23,0),(23,32),(23,64),(23,96),(4,128),(23,129)]:=by kernel_rfl
theorem split6 (cs:List Value) (hl:cs.length=161):cs=[(cs.drop 0).take 32,(cs.drop 32).take 32,(cs.drop 64).take 32,(cs.drop 96).take 32,(cs.drop 128).take 1,(cs.drop 129).take 32].flatten:=by
 have h:∀ (o n:Nat) (r:List Value),r=cs.drop (o+n)→cs.drop o=(cs.drop o).take n++r:=fun o n r e=>by
  rw [e,← List.drop_drop,List.take_append_drop]
 have e6:cs.drop 129=(cs.drop 129).take 32++[]:=h 129 32 [] (by rw [List.drop_eq_nil_of_le (by omega)])
 have e5:=h 128 1 _ e6.symm; have e4:=h 96 32 _ e5.symm; have e3:=h 64 32 _ e4.symm; have e2:=h 32 32 _ e3.symm; have e1:=h 0 32 _ e2.symm
 rw [List.drop_zero] at e1
 exact e1
def l32 (o:Nat→Int):List Int:=(List.range 32).map o
theorem l32_row (o:Nat→Int):row .u8 32 o=row .u8 32 (bl (l32 o)):=row_congr .u8 32 fun j hj=>(bl_range 32 o j hj).symm
theorem l32_byts {o:Nat→Int} (h:In 256 32 o):Byts (l32 o):=fun x hx=>by
 obtain ⟨j,hj,rfl⟩:=List.mem_map.1 hx
 exact h j (List.mem_range.1 hj)
theorem in_u8 {n:Nat} {f:Nat→Int} (h:∀ j,j<n→(Lit.int .u8 (f j)).wf=true):In 256 n f:=fun j hj=>wf_u8.1 (h j hj)
theorem arg_ends {H:Type} {enc:TypeId × Value→H} {W:World} {r:Reach} {b0:Nat} {v:Value} {d:DataW H} {p:List MemPlace} (hv:Value.okWide Tryz.prog W r b0 25 v) (h:DataW.Trod enc Tryz.prog W 0 (fun _=>true) true 25 v d p) :
 ∃ (a e b f:Nat→Int) (wr:Bool) (O:List Int),v=.agg ([row .u8 32 a,row .u8 32 e,row .u8 32 b,row .u8 32 f,[.bool wr],row .u8 32 (bl O)].flatten).toArray∧In 256 32 a∧In 256 32 e∧In 256 32 b∧In 256 32 f∧O.length=32∧Byts O:=by
 have hu:Tryz.prog.underlying 25=some (.struct (Tryz.prog.fieldsOf 25)):=by kernel_rfl
 simp only [Value.okWide,hu] at hv
 obtain ⟨cs,rfl,_⟩:=hv
 obtain ⟨fuel,h⟩:=h
 obtain ⟨xs,n,_,_,hl,hlen,hf⟩:=DataW.trod_struct (fs:=Tryz.prog.fieldsOf 25) (by kernel_rfl) h
 have hs:xs.length=6:=by rw [hlen]; kernel_rfl
 rw [show Tryz.prog.cellsOf 25=161 by kernel_rfl] at hl
 have hk:∀ i o,i<6→[(23,0),(23,32),(23,64),(23,96),(4,128),(23,129)][i]?=some (23,o)→∃ g:Nat→Int,((Value.agg cs).cells.toList.drop o).take 32=row .u8 32 g∧In 256 32 g:=fun i o hi hio=>by
  obtain ⟨f,e,t,ho⟩:=field_of fields13 i 23 o hio
  have g:=hf i f e
  rw [t,ho,cellsKey13,List.getElem?_eq_getElem (by omega)] at g
  obtain ⟨x,w,q,_⟩:=open_row Tryz.underlying23 Tryz.underlying5 cellsKey13 cellsByte g
  exact ⟨x,q,in_u8 w⟩
 obtain ⟨a,qa,ia⟩:=hk 0 0 (by decide) rfl
 obtain ⟨e,qe,ie⟩:=hk 1 32 (by decide) rfl
 obtain ⟨b,qb,ib⟩:=hk 2 64 (by decide) rfl
 obtain ⟨f,qf,jf⟩:=hk 3 96 (by decide) rfl
 obtain ⟨o,qo,io⟩:=hk 5 129 (by decide) rfl
 obtain ⟨fb,eb,tb,ob⟩:=field_of fields13 4 4 128 rfl
 have g:=hf 4 fb eb
 rw [tb,ob,cellsBool13,List.getElem?_eq_getElem (by omega)] at g
 obtain ⟨wr,qw,_⟩:=DataW.trod_bool Tryz.underlying4 g
 have key:=split6 _ hl
 rw [qa,qe,qb,qf,qw,qo,l32_row o] at key
 refine ⟨a,e,b,f,wr,l32 o,?_,ia,ie,ib,jf,by unfold l32; rw [List.length_map,List.length_range],l32_byts io⟩
 exact congrArg Value.agg (by rw [← key]; rfl)
section
variable {H:Type} {enc:TypeId × Value→H} {W:World} {Q:TypeId→DataW H→Prop} {m:Nat}
theorem again {t:TypeId} (hr:Tryz.prog.readableRec t=true) (hrow:t<Tryz.prog.types.size) {v:Value} {d:DataW H} {p:List MemPlace} (h:DataW.Trod enc Tryz.prog W 0 (fun _=>true) true t v d p) (W':World) (hb:Below W.heap.size W W'):DataW.Trod enc Tryz.prog W' 0 (fun b=>decide (b<W.heap.size)) true t v d p :=
 hb.trod laidOut hr hrow h (by obtain ⟨fuel,hf⟩:=h; exact fun x hx=>DataW.trod_lt _ _ _ _ hf x hx)
theorem arg_bytes (F:Fit H Q m) {r:Reach} {b0:Nat} {v:Value} {d:DataW H} {p:List MemPlace} (hv:Value.okWide Tryz.prog W r b0 32 v) (h:DataW.Trod enc Tryz.prog W 0 (fun _=>true) true 32 v d p) (hq:Q 32 d) :
 ∃ (sp:Option Addr) (cap:Nat) (bs:List Int),v=.slice sp bs.length cap∧Src W sp bs.length (bl bs)∧bs.length≤cap∧(sp=none→cap=0)∧bs.length≤m∧Byts bs:=by
 obtain ⟨sp,len,cap,rfl⟩:=okWide_slice Tryz.underlying32 hv
 obtain ⟨fuel,hf⟩:=h
 obtain ⟨sp',cap',bs,h1,h2⟩:=open_octets F hf hq
 simp [Value.cells] at h1
 obtain ⟨rfl,rfl,rfl⟩:=h1
 exact ⟨_,_,bs,rfl,h2⟩
end
end
section
open Go.ChangeShapes Go.WideShapes Go.ChangeAt Go.WideMaps Go.WideElems Go.RowKit
theorem open_table {H:Type} {enc:TypeId × Value→H} {P:Program} {w:World} {base:Nat} {sp:Nat→Bool} {held:Bool} {fuel:Nat} {cs:List Value} {q:List MemPlace} {d:DataW H} {t r e:TypeId} {k:IntKind} {n m:Nat} (hu:P.underlying t=some (.array n r)) (hr:P.underlying r=some (.array m e)) (he:P.underlying e=some (.int k)) (cr:P.cellsOf r=m) (ce:P.cellsOf e=1) (hm:0<m)
 (g:Nat→Int) (hd:d=.agg ((List.range n).map fun i=>litR k m (fun j=>g (m*i+j)))) (h:DataW.trod enc P w base sp held fuel t cs=some (d,q)):∀ j,j<n*m→cs[j]?=some (.int k (g j)):=by
 obtain ⟨xs,_,_,hx,_,hn,hel⟩:=DataW.trod_array hu h
 intro j hj
 have hi:j/m<n:=(Nat.div_lt_iff_lt_mul hm).2 hj
 have hjm:j%m<m:=Nat.mod_lt _ hm
 have hdm:j/m*m+j%m=j:=Nat.div_add_mod' j m
 have e1:=hel (j/m) hi
 rw [cr] at e1
 have hxi:j/m<xs.length:=by rw [hn]; exact hi
 rw [List.getElem?_eq_getElem hxi] at e1
 obtain ⟨f,_,e2,e3⟩:=open_row hr he cr ce e1
 simp only [Prod.mk.injEq] at hx
 rw [hd] at hx
 have hx1:((List.range n).map fun i=>(litR k m (fun j=>g (m*i+j)):DataW H))=xs.map (·.1):=by
  have:=hx.1
  injection this
 have e6:(xs.map (·.1))[j/m]?=some (litR k m f):=by rw [List.getElem?_map,List.getElem?_eq_getElem hxi,e3]; rfl
 rw [← hx1,List.getElem?_map,List.getElem?_range hi] at e6
 simp only [Option.map_some,Option.some.injEq] at e6
 have e7:=litR_inj e6 (j%m) hjm
 have e8:((cs.drop (j/m*m)).take m)[j%m]?=some (.int k (f (j%m))):=by rw [e2]; exact row_get _ _ _ _ hjm
 rw [List.getElem?_take,if_pos hjm,List.getElem?_drop,hdm] at e8
 rw [e8,← e7,Nat.mul_comm m,hdm]
end
section
open Go.ChangeShapes Go.WideShapes Go.ChangeAt Go.WideMaps Go.WideElems Go.RowKit
theorem cDZ0:Tryz.prog.cellsOf 141=8:=by kernel_rfl
theorem cDZ1:Tryz.prog.cellsOf 122=1:=by kernel_rfl
theorem cDZ3:Tryz.prog.cellsOf 5=1:=by kernel_rfl
theorem cDZ4:Tryz.prog.cellsOf 50=16:=by kernel_rfl
theorem cDZ6:Tryz.prog.cellsOf 183=4:=by kernel_rfl
theorem cDZ7:Tryz.prog.cellsOf 156=4:=by kernel_rfl
theorem cDZ9:Tryz.prog.cellsOf 3=1:=by kernel_rfl
theorem cDZ10:Tryz.prog.cellsOf 187=4:=by kernel_rfl
theorem cDZ11:Tryz.prog.cellsOf 51=16:=by kernel_rfl
theorem cDZ12:Tryz.prog.cellsOf 192=3:=by kernel_rfl
theorem cDZ13:Tryz.prog.cellsOf 58=1:=by kernel_rfl
theorem cDZ14:Tryz.prog.cellsOf 116=4:=by kernel_rfl
theorem gDZ0 : Tryz.prog.globalNamed "sheave/blake.iv" = some 2 := by kernel_rfl
theorem tDZ0:(Tryz.prog.globals[2]?).map (·.type)=some 141:=by kernel_rfl
theorem gDZ1 : Tryz.prog.globalNamed "sheave/blake.rows" = some 5 := by kernel_rfl
theorem tDZ1:(Tryz.prog.globals[5]?).map (·.type)=some 182:=by kernel_rfl
theorem gDZ2 : Tryz.prog.globalNamed "sheave/blake.places" = some 4 := by kernel_rfl
theorem tDZ2:(Tryz.prog.globals[4]?).map (·.type)=some 184:=by kernel_rfl
theorem gDZ3 : Tryz.prog.globalNamed "sheave/chacha.first" = some 6 := by kernel_rfl
theorem tDZ3:(Tryz.prog.globals[6]?).map (·.type)=some 156:=by kernel_rfl
theorem gDZ4 : Tryz.prog.globalNamed "sheave/chacha.places" = some 7 := by kernel_rfl
theorem tDZ4:(Tryz.prog.globals[7]?).map (·.type)=some 188:=by kernel_rfl
theorem gDZ5 : Tryz.prog.globalNamed "sheave/clamp.kept" = some 8 := by kernel_rfl
theorem tDZ5:(Tryz.prog.globals[8]?).map (·.type)=some 51:=by kernel_rfl
theorem gDZ6 : Tryz.prog.globalNamed "sheave/clamp.modulus" = some 9 := by kernel_rfl
theorem tDZ6:(Tryz.prog.globals[9]?).map (·.type)=some 192:=by kernel_rfl
theorem gDZ7 : Tryz.prog.globalNamed "sheave/curve.prime" = some 3 := by kernel_rfl
theorem tDZ7:(Tryz.prog.globals[3]?).map (·.type)=some 116:=by kernel_rfl
theorem gDZ8 : Tryz.prog.globalNamed "sheave/curve.power" = some 1 := by kernel_rfl
theorem tDZ8:(Tryz.prog.globals[1]?).map (·.type)=some 116:=by kernel_rfl
theorem gDZ9 : Tryz.prog.globalNamed "sheave/ladder.trims" = some 0 := by kernel_rfl
theorem tDZ9:(Tryz.prog.globals[0]?).map (·.type)=some 112:=by kernel_rfl
theorem cD13t:Tryz.prog.cellsOf 112=6:=by kernel_rfl
theorem cD13r:Tryz.prog.cellsOf 111=3:=by kernel_rfl
theorem cD13i:Tryz.prog.cellsOf 3=1:=by kernel_rfl
theorem open_trim {H:Type} {enc:TypeId × Value→H} {W:World} {base:Nat} {sp:Nat→Bool} {held:Bool} {fuel:Nat} {c0 c1 c2:Value} {a k s:Int} {x:DataW H × List MemPlace} (hd:x.1=.agg [.lit (.int .i64 a),.lit (.int .u8 k),.lit (.int .u8 s)])
 (h:DataW.trod enc Tryz.prog W base sp held fuel 111 [c0,c1,c2]=some x):c0=.int .i64 a∧c1=.int .u8 k∧c2=.int .u8 s:=by
 obtain ⟨ys,m,_,hx,_,hn,hel⟩:=DataW.trod_struct Tryz.underlying111 h
 have h0:=hel 0 _ rfl; have h1:=hel 1 _ rfl; have h2:=hel 2 _ rfl
 simp [cD13i,cellsByte] at h0 h1 h2
 match ys,hn with
 | [y0,y1,y2],_ =>
   obtain ⟨n0,e0,z0,_⟩:=DataW.trod_int Tryz.underlying3 h0
   obtain ⟨n1,e1,z1,_⟩:=DataW.trod_int Tryz.underlying5 h1
   obtain ⟨n2,e2,z2,_⟩:=DataW.trod_int Tryz.underlying5 h2
   rw [hx,z0,z1,z2] at hd
   simp only [List.map_cons,List.map_nil,DataW.agg.injEq,List.cons.injEq,DataW.lit.injEq,Lit.int.injEq,true_and,and_true] at hd
   obtain ⟨rfl,rfl,rfl⟩:=hd
   simp only [List.cons.injEq,and_true] at e0 e1 e2
   exact ⟨e0,e1,e2⟩
theorem open_trims {H:Type} {enc:TypeId × Value→H} {W:World} {base:Nat} {sp:Nat→Bool} {held:Bool} {fuel:Nat} {cs:Array Value} {q:List MemPlace}
 (h:DataW.trod enc Tryz.prog W base sp held fuel 112 cs.toList=some (Rows.laid_sheave_ladder_trims,q)) :
 cs.toList=[.int .i64 0,.int .u8 248,.int .u8 0,.int .i64 31,.int .u8 127,.int .u8 64]:=by
 obtain ⟨xs,m,_,hx,hl,hn,hel⟩:=DataW.trod_array Tryz.underlying112 h
 rw [cD13t] at hl
 have h0:=hel 0 (by omega); have h1:=hel 1 (by omega)
 rw [cD13r] at h0 h1
 generalize cs.toList=l at *
 match l,hl,xs,hn with
 | [c0,c1,c2,c3,c4,c5],_,[x0,x1],_ =>
   simp only [Prod.mk.injEq,Rows.laid_sheave_ladder_trims,List.map_cons,List.map_nil,DataW.agg.injEq,List.cons.injEq,and_true] at hx
   obtain ⟨rfl,rfl,rfl⟩:=open_trim hx.1.1.symm h0
   obtain ⟨rfl,rfl,rfl⟩:=open_trim hx.1.2.symm h1
   rfl
def laidZ {H : Type} : List (String × DataW H) := [("sheave/blake.iv", Rows.laid_sheave_blake_iv), ("sheave/blake.rows", Rows.laid_sheave_blake_rows), ("sheave/blake.places", Rows.laid_sheave_blake_places), ("sheave/chacha.first", Rows.laid_sheave_chacha_first), ("sheave/chacha.places", Rows.laid_sheave_chacha_places), ("sheave/clamp.kept", Rows.laid_sheave_clamp_kept), ("sheave/clamp.modulus", Rows.laid_sheave_clamp_modulus), ("sheave/curve.prime", Rows.laid_sheave_curve_prime), ("sheave/curve.power", Rows.laid_sheave_curve_power), ("sheave/ladder.trims", Rows.laid_sheave_ladder_trims)]
theorem glob_of_laidZ {W:World} (h:laidMetH Tryz.prog laidZ W):HGlob13 W:=by
 rw [MakeChecks.laidMetH_plain _ _ _ (by kernel_rfl)] at h
 obtain ⟨ps,⟨g0,t0,cs0,f0,p0,q0,hg0,ht0,hv0,hd0,⟨g1,t1,cs1,f1,p1,q1,hg1,ht1,hv1,hd1,⟨g2,t2,cs2,f2,p2,q2,hg2,ht2,hv2,hd2,⟨g3,t3,cs3,f3,p3,q3,hg3,ht3,hv3,hd3,⟨g4,t4,cs4,f4,p4,q4,hg4,ht4,hv4,hd4,⟨g5,t5,cs5,f5,p5,q5,hg5,ht5,hv5,hd5,⟨g6,t6,cs6,f6,p6,q6,hg6,ht6,hv6,hd6,⟨g7,t7,cs7,f7,p7,q7,hg7,ht7,hv7,hd7,⟨g8,t8,cs8,f8,p8,q8,hg8,ht8,hv8,hd8,⟨g9,t9,cs9,f9,p9,q9,hg9,ht9,hv9,hd9,_,_⟩,_⟩,_⟩,_⟩,_⟩,_⟩,_⟩,_⟩,_⟩,_⟩,_,_⟩:=h
 obtain rfl:=Option.some.inj (gDZ0.symm.trans hg0)
 obtain rfl:=Option.some.inj (tDZ0.symm.trans ht0)
 obtain rfl:=Option.some.inj (gDZ1.symm.trans hg1)
 obtain rfl:=Option.some.inj (tDZ1.symm.trans ht1)
 obtain rfl:=Option.some.inj (gDZ2.symm.trans hg2)
 obtain rfl:=Option.some.inj (tDZ2.symm.trans ht2)
 obtain rfl:=Option.some.inj (gDZ3.symm.trans hg3)
 obtain rfl:=Option.some.inj (tDZ3.symm.trans ht3)
 obtain rfl:=Option.some.inj (gDZ4.symm.trans hg4)
 obtain rfl:=Option.some.inj (tDZ4.symm.trans ht4)
 obtain rfl:=Option.some.inj (gDZ5.symm.trans hg5)
 obtain rfl:=Option.some.inj (tDZ5.symm.trans ht5)
 obtain rfl:=Option.some.inj (gDZ6.symm.trans hg6)
 obtain rfl:=Option.some.inj (tDZ6.symm.trans ht6)
 obtain rfl:=Option.some.inj (gDZ7.symm.trans hg7)
 obtain rfl:=Option.some.inj (tDZ7.symm.trans ht7)
 obtain rfl:=Option.some.inj (gDZ8.symm.trans hg8)
 obtain rfl:=Option.some.inj (tDZ8.symm.trans ht8)
 obtain rfl:=Option.some.inj (gDZ9.symm.trans hg9)
 obtain rfl:=Option.some.inj (tDZ9.symm.trans ht9)
 obtain ⟨F0,_,eA0,eB0⟩:=open_row Tryz.underlying141 Tryz.underlying122 cDZ0 cDZ1 hd0
 simp only [Prod.mk.injEq] at eB0
 have eF0:=litR_inj (show (litR .u32 8 iv:DataW _)=litR .u32 8 F0 from eB0.1)
 have c_blake_iv:∀ j,j<8→W.cell? ⟨2,j,none⟩=some (.int .u32 (iv j)):=fun j hj=>by
  rw [World.var?_cell hg0 hv0 j,eF0 j hj]
  have:=row_get .u32 8 F0 j hj
  rw [← eA0] at this
  simpa using this
 have s0:=World.block_lt_of_cell? W _ (c_blake_iv 0 (by decide)); have b1:=open_table (n:=10) (m:=16) Tryz.underlying182 Tryz.underlying50 Tryz.underlying5 cDZ4 cDZ3 (by decide) (fun j=>((sgL.getD j 0:Nat):Int)) (by rfl) hd1
 have c_blake_rows:∀ j,j<160→W.cell? ⟨5,j,none⟩=some (.int .u8 ((fun j=>((sgL.getD j 0:Nat):Int)) j)):=fun j hj=>by
  rw [World.var?_cell hg1 hv1 j]; simpa using b1 j hj
 have s1:=World.block_lt_of_cell? W _ (c_blake_rows 0 (by decide)); have b2:=open_table (n:=8) (m:=4) Tryz.underlying184 Tryz.underlying183 Tryz.underlying5 cDZ6 cDZ3 (by decide) bplc (by rfl) hd2
 have c_blake_places:∀ j,j<32→W.cell? ⟨4,j,none⟩=some (.int .u8 (bplc j)):=fun j hj=>by
  rw [World.var?_cell hg2 hv2 j]; simpa using b2 j hj
 have s2:=World.block_lt_of_cell? W _ (c_blake_places 0 (by decide))
 obtain ⟨F3,_,eA3,eB3⟩:=open_row Tryz.underlying156 Tryz.underlying122 cDZ7 cDZ1 hd3
 simp only [Prod.mk.injEq] at eB3
 have eF3:=litR_inj (show (litR .u32 4 hfst:DataW _)=litR .u32 4 F3 from eB3.1)
 have c_chacha_first:∀ j,j<4→W.cell? ⟨6,j,none⟩=some (.int .u32 (hfst j)):=fun j hj=>by
  rw [World.var?_cell hg3 hv3 j,eF3 j hj]
  have:=row_get .u32 4 F3 j hj
  rw [← eA3] at this
  simpa using this
 have s3:=World.block_lt_of_cell? W _ (c_chacha_first 0 (by decide)); have b4:=open_table (n:=8) (m:=4) Tryz.underlying188 Tryz.underlying187 Tryz.underlying3 cDZ10 cDZ9 (by decide) plc (by rfl) hd4
 have c_chacha_places:∀ j,j<32→W.cell? ⟨7,j,none⟩=some (.int .i64 (plc j)):=fun j hj=>by
  rw [World.var?_cell hg4 hv4 j]; simpa using b4 j hj
 have s4:=World.block_lt_of_cell? W _ (c_chacha_places 0 (by decide))
 obtain ⟨F5,_,eA5,eB5⟩:=open_row Tryz.underlying51 Tryz.underlying5 cDZ11 cDZ3 hd5
 simp only [Prod.mk.injEq] at eB5
 have eF5:=litR_inj (show (litR .u8 16 keptB:DataW _)=litR .u8 16 F5 from eB5.1)
 have c_clamp_kept:∀ j,j<16→W.cell? ⟨8,j,none⟩=some (.int .u8 (keptB j)):=fun j hj=>by
  rw [World.var?_cell hg5 hv5 j,eF5 j hj]
  have:=row_get .u8 16 F5 j hj
  rw [← eA5] at this
  simpa using this
 have s5:=World.block_lt_of_cell? W _ (c_clamp_kept 0 (by decide))
 obtain ⟨F6,_,eA6,eB6⟩:=open_row Tryz.underlying192 Tryz.underlying58 cDZ12 cDZ13 hd6
 simp only [Prod.mk.injEq] at eB6
 have eF6:=litR_inj (show (litR .u64 3 qW:DataW _)=litR .u64 3 F6 from eB6.1)
 have c_clamp_modulus:∀ j,j<3→W.cell? ⟨9,j,none⟩=some (.int .u64 (qW j)):=fun j hj=>by
  rw [World.var?_cell hg6 hv6 j,eF6 j hj]
  have:=row_get .u64 3 F6 j hj
  rw [← eA6] at this
  simpa using this
 have s6:=World.block_lt_of_cell? W _ (c_clamp_modulus 0 (by decide))
 obtain ⟨F7,_,eA7,eB7⟩:=open_row Tryz.underlying116 Tryz.underlying58 cDZ14 cDZ13 hd7
 simp only [Prod.mk.injEq] at eB7
 have eF7:=litR_inj (show (litR .u64 4 pW:DataW _)=litR .u64 4 F7 from eB7.1)
 have c_curve_prime:∀ j,j<4→W.cell? ⟨3,j,none⟩=some (.int .u64 (pW j)):=fun j hj=>by
  rw [World.var?_cell hg7 hv7 j,eF7 j hj]
  have:=row_get .u64 4 F7 j hj
  rw [← eA7] at this
  simpa using this
 have s7:=World.block_lt_of_cell? W _ (c_curve_prime 0 (by decide))
 obtain ⟨F8,_,eA8,eB8⟩:=open_row Tryz.underlying116 Tryz.underlying58 cDZ14 cDZ13 hd8
 simp only [Prod.mk.injEq] at eB8
 have eF8:=litR_inj (show (litR .u64 4 eW:DataW _)=litR .u64 4 F8 from eB8.1)
 have c_curve_power:∀ j,j<4→W.cell? ⟨1,j,none⟩=some (.int .u64 (eW j)):=fun j hj=>by
  rw [World.var?_cell hg8 hv8 j,eF8 j hj]
  have:=row_get .u64 4 F8 j hj
  rw [← eA8] at this
  simpa using this
 have s8:=World.block_lt_of_cell? W _ (c_curve_power 0 (by decide)); have b9:=open_trims hd9
 have c_ladder_trims:∀ j,W.cell? ⟨0,j,none⟩=cs9.toList[j]?:=fun j=>by
  rw [World.var?_cell hg9 hv9 j]; simp
 rw [b9] at c_ladder_trims
 have s9:=World.block_lt_of_cell? W _ (c_ladder_trims 0)
 have hsz:10≤W.heap.size:=by dsimp only at s0 s1 s2 s3 s4 s5 s6 s7 s8 s9; omega
 exact ⟨⟨⟨⟨c_chacha_first,c_chacha_places,hsz⟩,⟨c_clamp_modulus,c_clamp_kept,hsz⟩⟩,⟨c_blake_iv,c_blake_rows,c_blake_places,hsz⟩⟩,⟨c_curve_prime,c_curve_power,hsz⟩,⟨c_ladder_trims 0,c_ladder_trims 1,c_ladder_trims 2,c_ladder_trims 3,c_ladder_trims 4,c_ladder_trims 5⟩⟩
theorem door_metZ0 (os:Os) (args:Array Value):laidMet Tryz.prog laidZ ((World.doorLaid Tryz.prog 160 os).forCall (fun _ _=>0) ⟨#[],args,[]⟩).memory:=laidMet_of_run' 8 (by kernel_rfl) (by kernel_rfl)
theorem door_metZ (os:Os) (args:Array Value):laidMetH Tryz.prog laidZ ((World.doorLaid Tryz.prog 160 os).forCall (fun _ _=>0) ⟨#[],args,[]⟩).memory :=
 laidMetH_of_parts3 (fuel:=8) (door_metZ0 os args) (by kernel_rfl) (by kernel_rfl)
end
end Go.Proofs.YtklnibmfpcmeeaaGreatDoor
