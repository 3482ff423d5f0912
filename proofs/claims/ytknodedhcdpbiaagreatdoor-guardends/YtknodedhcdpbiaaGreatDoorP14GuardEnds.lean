/- Texts of Sk, joined. -/
import Derived.Test.YtknodedhcdpbiaaGreatDoorP13GuardEnds
set_option maxRecDepth 20000
set_option maxHeartbeats 64000000
namespace Go.Proofs.YtknodedhcdpbiaaGreatDoor
open Go.RowKit
section
open Go.RowKit Go.MapKept Go.ChangeMaps Go.WideShapes
theorem see_perm {α:Type} (a b c:α) (m n o p q t:List α):(a::b::c::(m++(n++(o++(p++(q++t)))))).Perm (c::(m++(n++(o++(p++(q++(a::b::t))))))):=by
 have h:=seal_perm a b c (m++(n++(o++(p++q)))) t
 simp only [List.append_assoc] at h
 exact h
theorem PV.off1' {w w':World} {p:Pkt} {bp:Option Addr} {bc b:Nat} (h:PV w p bp bc) (o:Off [b] w w') (hb:∀ ad,bp=some ad→0<p.body.length→ad.block<b):PV w' p bp bc :=
 ⟨fun j hj=>by
  obtain ⟨ad,e,hc⟩:=h.src j hj
  exact ⟨ad,e,o.cell hc (by rw [add_block,List.mem_singleton]; have:=hb ad e (by omega); omega)⟩,h.le,h.nil,h.max,h.byts,h.kind,h.role,h.path,h.epo,h.ctr⟩
theorem Rec_of {p:Pkt} (hk:p.kind=3) (h:pok p=true):(0≤p.path∧p.path<256)∧(0≤p.role∧p.role<256):=by
 rw [pok_rec hk] at h
 obtain ⟨h1,h2,_⟩:=of_decide_eq_true h
 omega
def goT (g:Grd) (p:Pkt):List Int:=if goR g p=0 then goX g p else []
theorem goT_err {g:Grd} {p:Pkt} (h:¬ goR g p=0):goT g p=[]:=if_neg h
theorem goT_ok {g:Grd} {p:Pkt} (h:goR g p=0):goT g p=goX g p:=if_pos h
theorem goR_key {g:Grd} {p:Pkt} (h1:p.kind=3) (h2:¬ p.role=g.role) (h:¬ goL g p=0):goR g p=goL g p:=by
 unfold goR
 rw [if_neg (by rintro (c | c); exact c h1; exact h2 c)]
 by_cases c:p.epo<g.inn.e-1∨g.inn.e+1<p.epo
 · rw [if_pos c]
   unfold goL
   rw [if_neg (by omega),ykE_none (by omega) (by rintro ⟨c1,_⟩; omega)]
 · rw [if_neg c,if_pos h]
theorem goL_near {g:Grd} {p:Pkt} (h:goL g p=0):g.inn.e-1≤p.epo∧p.epo≤g.inn.e+1:=by
 by_cases c:p.epo<g.inn.e-1∨g.inn.e+1<p.epo
 · exfalso
   unfold goL at h
   rw [if_neg (by omega),ykE_none (by omega) (by rintro ⟨c1,_⟩; omega)] at h
   cases h
 · omega
theorem goR_forged {g:Grd} {p:Pkt} (h1:p.kind=3) (h2:¬ p.role=g.role) (h4:goL g p=0) (h5:wchk (g.win p.epo p.path) p.ctr=0) (h6:¬ apE (goK g p) (rno p) (hdr p) p.body=0):goR g p=70:=by
 have h3:=goL_near h4
 unfold goR
 rw [if_neg (by rintro (c | c); exact c h1; exact h2 c),if_neg (by omega),if_neg (fun c=>c h4),if_neg (fun c=>c h5),if_pos h6]
theorem gunseal_any (w0 w:World) (R:Nat) (T:List (Nat × List Value)) (g:Grd) (mc m0 m1:Option Nat) (L0 L1:Wls) (hg:GGlob w0) (hw:GrdW g) (W0:Wns w m0 L0 (g.win g.inn.e)) (W1:Wns w m1 L1 (g.win (g.inn.e-1))) (q:Pkt) (bp:Option Addr) (bc:Nat) (PV:PV w q bp bc) (PVlt:∀ ad,bp=some ad→0<q.body.length→ad.block<w.heap.size) (hpk:q.kind=3→pok q=true) (M:Mm w0 ((R,gcf g.role g.out g.inn mc m0 m1)::(mbs mc++(mbs m0++(mbs m1++(L0.map Prod.snd++(L1.map Prod.snd++T)))))) w) :
 Calls Tryz.prog 30 #[.pointer (some ⟨R,0,none⟩),.agg (pcs q bp bc).toArray] w fun e' w'=>(∃ v,e'=.returned (.tuple #[v,.int .i64 (goR g q)])∧NewL w' w.heap.size (goT g q) v)∧Below w.heap.size w w':=by
 have fold:(.agg #[.int .i64 q.kind,.int .i64 q.role,.int .i64 q.path,.int .i64 q.epo,.int .i64 q.ctr,.slice bp q.body.length bc]:Value)=.agg (pcs q bp bc).toArray:=rfl
 rw [← fold]
 clear fold
 replace M:Mm w0 ((R,[[Value.int .i64 g.role],kck g.out,kck g.inn,[Value.map mc],[Value.map m0],[Value.map m1]].flatten)::(mbs mc++(mbs m0++(mbs m1++(L0.map Prod.snd++(L1.map Prod.snd++T)))))) w:=M
 have hb0:=M.below; have hwz:=xnR w.heap.size; have OF:=Off.refl [] w
 go_enter Tryz.func30,Tryz.ntmps30
 have hgb:=hg.b; have hlo:=hw.inn.lo; have hhi:=hw.inn.hi
 by_cases h1:q.kind=3
 · by_cases h2:q.role=g.role
   · go_upto_region 0 with fail
     refine wp_region_list ?_; have hlb:=(Below.refl w.heap.size w).alloc (xnR _) (.cells #[.int .i64 q.kind,.int .i64 q.role,.int .i64 q.path,.int .i64 q.epo,.int .i64 q.ctr,.slice bp q.body.length bc] 70)
     refine actL (w':=w.alloc (.cells #[.int .i64 q.kind,.int .i64 q.role,.int .i64 q.path,.int .i64 q.epo,.int .i64 q.ctr,.slice bp q.body.length bc] 70)) (.pointer (some ⟨w.heap.size,0,none⟩)) rfl (by kernel_rfl) ?_; simp only [aP,lI,l0,lS]; have hB_:=hwz; replace hwz:=xnT hwz hlb.size; replace OF:=OF.below hlb; replace PV:=PV.below hlb (xnR _)
     replace M:=M.box #[.int .i64 q.kind,.int .i64 q.role,.int .i64 q.path,.int .i64 q.epo,.int .i64 q.ctr,.slice bp q.body.length bc] 70 w.heap.size rfl; clear hlb; generalize w.alloc (.cells #[.int .i64 q.kind,.int .i64 q.role,.int .i64 q.path,.int .i64 q.epo,.int .i64 q.ctr,.slice bp q.body.length bc] 70)=w3 at M hwz OF PV ⊢; generalize eB_:w.heap.size=B3 at M ⊢
     have hB_B3:w.heap.size≤B3:=by rw [← eB_]; exact hB_
     clear hB_ eB_
     replace M:Mm w0 ((B3,[.int .i64 q.kind,.int .i64 q.role,.int .i64 q.path,.int .i64 q.epo,.int .i64 q.ctr,.slice bp q.body.length bc])::(R,[[Value.int .i64 g.role],kck g.out,kck g.inn,[Value.map mc],[Value.map m0],[Value.map m1]].flatten)::(mbs mc++(mbs m0++(mbs m1++(L0.map Prod.snd++(L1.map Prod.snd++T)))))) w3:=M
     refine xpL (.slice none 0 0) ?_; refine xpL (.int .i64 0) ?_; refine xT ?_; go_upto_region 1 with fail
     refine wp_region_held_drew (S:=fun w'=>Mm w0 ((B3,[.int .i64 q.kind,.int .i64 q.role,.int .i64 q.path,.int .i64 q.epo,.int .i64 q.ctr,.slice bp q.body.length bc])::(R,[[Value.int .i64 g.role],kck g.out,kck g.inn,[Value.map mc],[Value.map m0],[Value.map m1]].flatten)::(mbs mc++(mbs m0++(mbs m1++(L0.map Prod.snd++(L1.map Prod.snd++T)))))) w') (by kernel_rfl) M.drew ?_
     clear M; intro M; have hdr:=(Below.refl w3.heap.size w3).drew; replace hwz:=xnT hwz hdr.size; replace OF:=OF.below hdr; replace PV:=PV.below hdr (xnR _); clear hdr; generalize w3.drew=w4 at M hwz OF PV ⊢; refine xrH 0 9 rfl (.pointer (some ⟨B3,0,none⟩)) (fun _ M=>(by kernel_rfl)) M ?_
     refine xrH 1 10 rfl (.int .i64 q.kind) (fun _ M=>load1 3 _ ⟨B3,0,none⟩ _ rfl rfl (fun _=>by kernel_rfl) (M.get mS 0 _ rfl)) M ?_; refine xrH 2 11 rfl (.bool false) (fun _ M=>neqI .i64 _ _ _ _ _ _ rfl rfl rfl false (by rw [h1]; rfl) _) M ?_; refine xrH 3 12 rfl (.bool false) (fun _ M=>(by kernel_rfl)) M ?_
     refine xrH 4 13 rfl (.pointer (some ⟨B3,1,none⟩)) (fun _ M=>(by kernel_rfl)) M ?_; refine xrH 5 14 rfl (.int .i64 q.role) (fun _ M=>load1 3 _ ⟨B3,1,none⟩ _ rfl rfl (fun _=>by kernel_rfl) (M.get mS 1 _ rfl)) M ?_; refine xrH 6 15 rfl (.pointer (some ⟨R,0,none⟩)) (fun _ M=>(by kernel_rfl)) M ?_; refine xrH 7 16 rfl (.pointer (some ⟨R,0,none⟩)) (fun _ M=>(by kernel_rfl)) M ?_
     refine xrH 8 17 rfl (.pointer (some ⟨R,0,none⟩)) (fun _ M=>(by kernel_rfl)) M ?_; refine xrH 9 18 rfl (.int .i64 g.role) (fun _ M=>load1 3 _ ⟨R,0,none⟩ _ rfl rfl (fun _=>by kernel_rfl) (M.get (mT _ mS) 0 _ (flat_get _ [1,98,98,1,1,1] (by simp [kck_len]) 0 0 _ rfl rfl))) M ?_
     refine xrH 10 19 rfl (.bool true) (fun _ M=>eqlI .i64 _ _ _ _ _ _ rfl rfl rfl true (beq_iff_eq.2 h2) _) M ?_; refine xrH 11 20 rfl (.bool true) (fun _ M=>(by kernel_rfl)) M ?_
     refine wpAnyH_done (by kernel_rfl) ?_ _
     first | show Exit.then _ _ _ _ _ | show Exit.inBlock _ _ _ _ _
     go_upto_region 2 with fail; refine wp_region_list ?_; refine xpL (.slice none 0 0) ?_; refine xpL (.int .i64 110) ?_; refine xT ?_; have hE:=show Hid _ from (show goR g q=110 from if_pos (.inr h2))
     have hbel:Below w.heap.size w w4:=⟨M.below.os.trans hb0.os.symm,M.below.tape.trans hb0.tape.symm,M.below.output.trans hb0.output.symm,OF.size,fun b hb=>OF.blk b hb (fun h=>by cases h)⟩
     have HS:=show Hid _ from hbel; clear M OF hbel PV
     try clear hE_
     try clear h4
     try clear h5
     go_wp2; go_ret2
     have hT:goT g q=[]:=goT_err (by rw [hE.out]; decide)
     rw [hT]
     first | exact ⟨⟨_,by rw [hE.out]; rfl,NewF.nil _ _ _⟩,HS.out⟩ | exact ⟨⟨by rw [hE.out]; rfl,NewF.nil _ _ _⟩,HS.out⟩
   go_upto_region 0 with fail; refine wp_region_list ?_; have hlb:=(Below.refl w.heap.size w).alloc (xnR _) (.cells #[.int .i64 q.kind,.int .i64 q.role,.int .i64 q.path,.int .i64 q.epo,.int .i64 q.ctr,.slice bp q.body.length bc] 70)
   refine actL (w':=w.alloc (.cells #[.int .i64 q.kind,.int .i64 q.role,.int .i64 q.path,.int .i64 q.epo,.int .i64 q.ctr,.slice bp q.body.length bc] 70)) (.pointer (some ⟨w.heap.size,0,none⟩)) rfl (by kernel_rfl) ?_; simp only [aP,lI,l0,lS]; have hB_:=hwz; replace hwz:=xnT hwz hlb.size; replace OF:=OF.below hlb; replace PV:=PV.below hlb (xnR _)
   replace M:=M.box #[.int .i64 q.kind,.int .i64 q.role,.int .i64 q.path,.int .i64 q.epo,.int .i64 q.ctr,.slice bp q.body.length bc] 70 w.heap.size rfl; clear hlb; generalize w.alloc (.cells #[.int .i64 q.kind,.int .i64 q.role,.int .i64 q.path,.int .i64 q.epo,.int .i64 q.ctr,.slice bp q.body.length bc] 70)=w5 at M hwz OF PV ⊢; generalize eB_:w.heap.size=B5 at M ⊢
   have hB_B5:w.heap.size≤B5:=by rw [← eB_]; exact hB_
   clear hB_ eB_
   replace M:Mm w0 ((B5,[.int .i64 q.kind,.int .i64 q.role,.int .i64 q.path,.int .i64 q.epo,.int .i64 q.ctr,.slice bp q.body.length bc])::(R,[[Value.int .i64 g.role],kck g.out,kck g.inn,[Value.map mc],[Value.map m0],[Value.map m1]].flatten)::(mbs mc++(mbs m0++(mbs m1++(L0.map Prod.snd++(L1.map Prod.snd++T)))))) w5:=M
   refine xpL (.slice none 0 0) ?_; refine xpL (.int .i64 0) ?_; refine xT ?_; go_upto_region 1 with fail
   refine wp_region_held_drew (S:=fun w'=>Mm w0 ((B5,[.int .i64 q.kind,.int .i64 q.role,.int .i64 q.path,.int .i64 q.epo,.int .i64 q.ctr,.slice bp q.body.length bc])::(R,[[Value.int .i64 g.role],kck g.out,kck g.inn,[Value.map mc],[Value.map m0],[Value.map m1]].flatten)::(mbs mc++(mbs m0++(mbs m1++(L0.map Prod.snd++(L1.map Prod.snd++T)))))) w') (by kernel_rfl) M.drew ?_
   clear M; intro M; have hdr:=(Below.refl w5.heap.size w5).drew; replace hwz:=xnT hwz hdr.size; replace OF:=OF.below hdr; replace PV:=PV.below hdr (xnR _); clear hdr; generalize w5.drew=w6 at M hwz OF PV ⊢; refine xrH 0 9 rfl (.pointer (some ⟨B5,0,none⟩)) (fun _ M=>(by kernel_rfl)) M ?_
   refine xrH 1 10 rfl (.int .i64 q.kind) (fun _ M=>load1 3 _ ⟨B5,0,none⟩ _ rfl rfl (fun _=>by kernel_rfl) (M.get mS 0 _ rfl)) M ?_; refine xrH 2 11 rfl (.bool false) (fun _ M=>neqI .i64 _ _ _ _ _ _ rfl rfl rfl false (by rw [h1]; rfl) _) M ?_; refine xrH 3 12 rfl (.bool false) (fun _ M=>(by kernel_rfl)) M ?_
   refine xrH 4 13 rfl (.pointer (some ⟨B5,1,none⟩)) (fun _ M=>(by kernel_rfl)) M ?_; refine xrH 5 14 rfl (.int .i64 q.role) (fun _ M=>load1 3 _ ⟨B5,1,none⟩ _ rfl rfl (fun _=>by kernel_rfl) (M.get mS 1 _ rfl)) M ?_; refine xrH 6 15 rfl (.pointer (some ⟨R,0,none⟩)) (fun _ M=>(by kernel_rfl)) M ?_; refine xrH 7 16 rfl (.pointer (some ⟨R,0,none⟩)) (fun _ M=>(by kernel_rfl)) M ?_
   refine xrH 8 17 rfl (.pointer (some ⟨R,0,none⟩)) (fun _ M=>(by kernel_rfl)) M ?_; refine xrH 9 18 rfl (.int .i64 g.role) (fun _ M=>load1 3 _ ⟨R,0,none⟩ _ rfl rfl (fun _=>by kernel_rfl) (M.get (mT _ mS) 0 _ (flat_get _ [1,98,98,1,1,1] (by simp [kck_len]) 0 0 _ rfl rfl))) M ?_
   refine xrH 10 19 rfl (.bool false) (fun _ M=>eqlI .i64 _ _ _ _ _ _ rfl rfl rfl false (beq_eq_false_iff_ne.2 h2) _) M ?_; refine xrH 11 20 rfl (.bool false) (fun _ M=>(by kernel_rfl)) M ?_
   refine wpAnyH_done (by kernel_rfl) ?_ _
   first | show Exit.then _ _ _ _ _ | show Exit.inBlock _ _ _ _ _
   go_upto_region 3 with fail; refine wp_region_list ?_; refine xpL (.pointer (some ⟨R,0,none⟩)) ?_; refine xpL (.pointer (some ⟨B5,3,none⟩)) ?_; refine xaL (.int .i64 q.epo) (load1 3 _ ⟨B5,3,none⟩ _ rfl rfl (fun _=>by kernel_rfl) (M.get mS 3 _ rfl)) ?_; replace M:=M.swap; refine xcL (gkey_any w0 _ R _ g.role g.out g.inn mc m0 m1 hgb hw.inn q.epo M) ?_; rintro e w7 ⟨rfl,l⟩
   replace M:=M.call l; replace hwz:=xnT hwz l.size; replace OF:=OF.below l; replace PV:=PV.below l (xnR _); clear l; refine xeL ?_; refine xpL (.tuple #[.agg (row .u8 32 (gkK g.inn q.epo)).toArray,.int .i64 (gkL g.inn q.epo)]) ?_; refine xpL (.agg (row .u8 32 (gkK g.inn q.epo)).toArray) ?_; refine xpL (.int .i64 (gkL g.inn q.epo)) ?_
   have hlb:=(Below.refl w7.heap.size w7).alloc (xnR _) (.cells zu8_32 23); refine actL (w':=w7.alloc (.cells zu8_32 23)) (.pointer (some ⟨w7.heap.size,0,none⟩)) rfl (by kernel_rfl) ?_; simp only [aP,lI,l0,lS]; have hB_:=hwz; replace hwz:=xnT hwz hlb.size; replace OF:=OF.below hlb; replace PV:=PV.below hlb (xnR _); replace M:=M.box zu8_32 23 w7.heap.size rfl; clear hlb
   generalize w7.alloc (.cells zu8_32 23)=w8 at M hwz OF PV ⊢; generalize eB_:w7.heap.size=B8 at M ⊢
   have hB_B8:w.heap.size≤B8:=by rw [← eB_]; exact hB_
   clear hB_ eB_
   replace M:Mm w0 ((B8,row .u8 32 (fun _=>0))::(R,[[Value.int .i64 g.role],kck g.out,kck g.inn,[Value.map mc],[Value.map m0],[Value.map m1]].flatten)::(B5,[.int .i64 q.kind,.int .i64 q.role,.int .i64 q.path,.int .i64 q.epo,.int .i64 q.ctr,.slice bp q.body.length bc])::(mbs mc++(mbs m0++(mbs m1++(L0.map Prod.snd++(L1.map Prod.snd++T)))))) w8:=M
   refine skipOpL rfl (storeP (row .u8 32 (gkK g.inn q.epo)) B8 0 23 _ _ rfl rfl rfl (M.thereP mS 0 32 (Nat.le_of_ble_eq_true rfl)) (by kernel_rfl) (row_one .u8 32 (gkK g.inn q.epo))) ?_; simp only [Act.put]; replace M:=M.setAll (row .u8 32 (gkK g.inn q.epo)) (by first | (rw [row32,row32]; done) | (rw [row32]; rfl) | (rw [row32]; done))
   replace hwz:=xnT hwz (Off.size ((Off.refl [B8] _).setAll (b:=B8) mS 0 (row .u8 32 (gkK g.inn q.epo)))); replace OF:=OF.and1 ((Off.refl [B8] _).setAll (b:=B8) mS 0 (row .u8 32 (gkK g.inn q.epo))) (.inr (by omega)); replace PV:=PV.off1' ((Off.refl [B8] _).setAll (b:=B8) mS 0 (row .u8 32 (gkK g.inn q.epo))) (fun ad e h0=>by have:=PVlt ad e h0; omega)
   generalize w8.setCells B8 0 (row .u8 32 (gkK g.inn q.epo))=w9 at M hwz OF PV ⊢; refine xpL (.int .i64 (gkL g.inn q.epo)) ?_; refine xT ?_
   by_cases h3:goL g q=0
   · go_upto_region 4 with fail
     refine wp_region_list ?_; refine xpL (.int .i64 (gkL g.inn q.epo)) ?_; refine xaL (.bool false) (neqI .i64 _ _ _ _ _ _ rfl rfl rfl false (by rw [show gkL g.inn q.epo=0 from h3]; rfl) _) ?_; refine xT ?_; have hnr:=goL_near h3
     have hep:(q.epo=g.inn.e∧g.win q.epo=g.win g.inn.e)∨(q.epo=g.inn.e-1∧g.win q.epo=g.win (g.inn.e-1))∨(q.epo=g.inn.e+1∧g.win q.epo q.path=[]):=by
      rcases Int.lt_trichotomy q.epo g.inn.e with c | c | c
      · exact .inr (.inl ⟨by omega,by rw [show q.epo=g.inn.e-1 by omega]⟩)
      · exact .inl ⟨c,by rw [c]⟩
      · exact .inr (.inr ⟨by omega,hw.off _ _ (.inr c)⟩)
     replace M:=M.swap; replace M:=M.rot3; replace M:=M.rot3
     by_cases h4:wchk (g.win q.epo q.path) q.ctr=0
     · go_upto_region 6 with fail
       refine wp_region_held_drew (S:=fun w'=>Mm w0 ((B8,row .u8 32 (gkK g.inn q.epo))::(B5,[.int .i64 q.kind,.int .i64 q.role,.int .i64 q.path,.int .i64 q.epo,.int .i64 q.ctr,.slice bp q.body.length bc])::(R,[[Value.int .i64 g.role],kck g.out,kck g.inn,[Value.map mc],[Value.map m0],[Value.map m1]].flatten)::(mbs mc++(mbs m0++(mbs m1++(L0.map Prod.snd++(L1.map Prod.snd++T)))))) w') (by kernel_rfl) M.drew ?_
       clear M; intro M; have hdr:=(Below.refl w9.heap.size w9).drew; replace hwz:=xnT hwz hdr.size; replace OF:=OF.below hdr; replace PV:=PV.below hdr (xnR _); clear hdr; generalize w9.drew=w13 at M hwz OF PV ⊢; refine xrH 0 31 rfl (.pointer (some ⟨R,0,none⟩)) (fun _ M=>(by kernel_rfl)) M ?_; refine xrH 1 32 rfl (.pointer (some ⟨B5,3,none⟩)) (fun _ M=>(by kernel_rfl)) M ?_
       refine xrH 2 33 rfl (.int .i64 q.epo) (fun _ M=>load1 3 _ ⟨B5,3,none⟩ _ rfl rfl (fun _=>by kernel_rfl) (M.get (mT _ mS) 3 _ rfl)) M ?_; refine xrH 3 34 rfl (.pointer (some ⟨B5,2,none⟩)) (fun _ M=>(by kernel_rfl)) M ?_; refine xrH 4 35 rfl (.int .i64 q.path) (fun _ M=>load1 3 _ ⟨B5,2,none⟩ _ rfl rfl (fun _=>by kernel_rfl) (M.get (mT _ mS) 2 _ rfl)) M ?_
       refine xrH 6 37 rfl (.pointer (some ⟨B5,4,none⟩)) (fun _ M=>(by kernel_rfl)) M ?_; refine xrH 7 38 rfl (.int .i64 q.ctr) (fun _ M=>load1 3 _ ⟨B5,4,none⟩ _ rfl rfl (fun _=>by kernel_rfl) (M.get (mT _ mS) 4 _ rfl)) M ?_
       have MW0:Mm w0 ((R,[[Value.int .i64 g.role],kck g.out,kck g.inn,[Value.map mc],[Value.map m0],[Value.map m1]].flatten)::(mbs mc++(mbs m0++(mbs m1++(L0.map Prod.snd++(L1.map Prod.snd++((B8,row .u8 32 (gkK g.inn q.epo))::(B5,[.int .i64 q.kind,.int .i64 q.role,.int .i64 q.path,.int .i64 q.epo,.int .i64 q.ctr,.slice bp q.body.length bc])::T))))))) w13:=M.perm (see_perm _ _ _ _ _ _ _ _ _)
       refine callH (i:=5) (some 36) rfl (by kernel_rfl) rfl rfl (fun _=>by kernel_rfl) (gwin_see w0 _ R _ g.role g.out g.inn mc m0 m1 hw.inn q.epo q.path PV.path (g.win g.inn.e) (g.win (g.inn.e-1)) (g.win q.epo) L0 L1 (W0.off OF (fun _ _ h=>by cases h)) (W1.off OF (fun _ _ h=>by cases h)) hep MW0) ?_; rintro e w14 ⟨⟨v,rfl,hSee⟩,l⟩; replace M:=M.call l; replace hwz:=xnT hwz l.size
       replace OF:=OF.below l; replace PV:=PV.below l (xnR _); clear l MW0
       obtain ⟨Bw,Ww,lw,rfl,hWd,MW⟩:=hSee
       refine ⟨_,rfl,M,?_⟩
       simp only [aP,lI,l0,lS]; refine callH (i:=8) (some 39) rfl (by kernel_rfl) rfl rfl (fun _=>by kernel_rfl) (vcheck14_any w0 _ Bw lw _ Ww (hw.win q.epo q.path) hWd q.ctr PV.ctr MW) ?_; rintro e w15 ⟨rfl,l⟩; replace M:=M.call l; replace hwz:=xnT hwz l.size; replace OF:=OF.below l; replace PV:=PV.below l (xnR _); clear l
       refine ⟨_,rfl,M,?_⟩
       simp only [aP,lI,l0,lS]; refine xrH 9 40 rfl (.bool false) (fun _ M=>neqI .i64 _ _ _ _ _ _ rfl rfl rfl false (by rw [h4]; rfl) _) M ?_
       refine wpAnyH_done (by kernel_rfl) ?_ _
       first | show Exit.then _ _ _ _ _ | show Exit.inBlock _ _ _ _ _
       have hk3:=h1; replace hpk:=hpk h1; have hrc:=Rec_of h1 hpk; have hpt:=hrc.1; have hrl2:=hrc.2; go_upto_region 8 with fail
       refine wp_region_held_drew (S:=fun w'=>Mm w0 ((B8,row .u8 32 (gkK g.inn q.epo))::(B5,[.int .i64 q.kind,.int .i64 q.role,.int .i64 q.path,.int .i64 q.epo,.int .i64 q.ctr,.slice bp q.body.length bc])::(R,[[Value.int .i64 g.role],kck g.out,kck g.inn,[Value.map mc],[Value.map m0],[Value.map m1]].flatten)::(mbs mc++(mbs m0++(mbs m1++(L0.map Prod.snd++(L1.map Prod.snd++T)))))) w') (by kernel_rfl) M.drew ?_
       clear M; intro M; have hdr:=(Below.refl w15.heap.size w15).drew; replace hwz:=xnT hwz hdr.size; replace OF:=OF.below hdr; replace PV:=PV.below hdr (xnR _); clear hdr; generalize w15.drew=w16 at M hwz OF PV ⊢
       refine xrH 0 42 rfl (.agg (row .u8 32 (gkK g.inn q.epo)).toArray) (fun _ M=>loadN 23 _ ⟨B8,0,none⟩ (row .u8 32 (gkK g.inn q.epo)) rfl rfl (fun _=>by kernel_rfl) (fun _=>by rw [row32]; kernel_rfl) (M.part mS 0 _ (by rw [List.drop_zero,List.take_length]))) M ?_
       refine xrH 1 43 rfl (.agg #[.int .i64 q.kind,.int .i64 q.role,.int .i64 q.path,.int .i64 q.epo,.int .i64 q.ctr,.slice bp q.body.length bc]) (fun _ M=>loadN 70 _ ⟨B5,0,none⟩ [.int .i64 q.kind,.int .i64 q.role,.int .i64 q.path,.int .i64 q.epo,.int .i64 q.ctr,.slice bp q.body.length bc] rfl rfl (fun _=>by kernel_rfl) (fun _=>by kernel_rfl) (M.rangeAt (mT _ mS))) M ?_
       refine xrH 3 45 rfl (.agg #[.int .i64 q.kind,.int .i64 q.role,.int .i64 q.path,.int .i64 q.epo,.int .i64 q.ctr,.slice bp q.body.length bc]) (fun _ M=>loadN 70 _ ⟨B5,0,none⟩ [.int .i64 q.kind,.int .i64 q.role,.int .i64 q.path,.int .i64 q.epo,.int .i64 q.ctr,.slice bp q.body.length bc] rfl rfl (fun _=>by kernel_rfl) (fun _=>by kernel_rfl) (M.rangeAt (mT _ mS))) M ?_
       refine xrH 5 47 rfl (.pointer (some ⟨B5,5,none⟩)) (fun _ M=>(by kernel_rfl)) M ?_; refine xrH 6 48 rfl (.slice bp q.body.length bc) (fun _ M=>load1 29 _ ⟨B5,5,none⟩ _ rfl rfl (fun _=>by kernel_rfl) (M.get (mT _ mS) 5 _ rfl)) M ?_; refine callH (i:=2) (some 44) rfl (by kernel_rfl) rfl rfl (fun _=>by kernel_rfl) (vnonce_any q bp _ _ (hg.p.mm M) PV) ?_; rintro e w17 ⟨rfl,l⟩
       replace M:=M.call l; replace hwz:=xnT hwz l.size; replace OF:=OF.below l; replace PV:=PV.below l (xnR _); clear l
       refine ⟨_,rfl,M,?_⟩
       simp only [aP,lI,l0,lS]; have hz_:=hwz; refine callH (i:=4) (some 46) rfl (by kernel_rfl) rfl rfl (fun _=>by kernel_rfl) (vhead_any q bp _ _ (hg.p.mm M) PV) ?_; rintro e w18 ⟨⟨v,rfl,hN⟩,l⟩; replace M:=M.call l; replace hwz:=xnT hwz l.size; replace OF:=OF.below l; replace PV:=PV.below l (xnR _); have N_18:=NewF.lower hN hz_; clear l hN hz_
       obtain ⟨p18,c18,rfl,hcc_18,hnn_18,_,_⟩:=id N_18
       refine ⟨_,rfl,M,?_⟩
       simp only [aP,lI,l0,lS]
       refine callH (i:=7) (some 49) rfl (by kernel_rfl) rfl rfl (fun _=>by kernel_rfl) (aopen_new (gkK g.inn q.epo) (bl (pno q)) (gkK_in _ _) (by rw [rno_pno hk3 hpk]; exact rno_in _ hpt) p18 _ c18 (by rw [hdr_phd hk3 hpk,hdr_length]; decide) hcc_18 (bl (phd q)) (by rw [hdr_phd hk3 hpk]; exact (hdr_byts hrl2 hpt).bl) bp q.body.length bc (by have:=PV.max; omega) PV.le (bl q.body) PV.byts.bl _ (hg.mm M).a N_18.src PV.src) ?_
       rintro e w19 ⟨⟨v_,rfl,hN⟩,l⟩; replace M:=M.call l; have hN:=NewF.lower hN hwz; replace hwz:=xnT hwz l.size; replace OF:=OF.below l; replace N_18:=NewF.below N_18 l; replace PV:=PV.below l (xnR _); clear l; clear N_18
       refine ⟨_,rfl,M,?_⟩
       simp only [aP,lI,l0,lS]; refine xrH 8 41 rfl (.tuple #[v_,.int .i64 (aoE (gkK g.inn q.epo) (bl (pno q)) (phd q).length (bl (phd q)) q.body.length (bl q.body))]) (fun _ M=>(by kernel_rfl)) M ?_; refine xrH 9 50 rfl (v_) (fun _ M=>(by kernel_rfl)) M ?_
       refine xrH 10 51 rfl (.int .i64 (aoE (gkK g.inn q.epo) (bl (pno q)) (phd q).length (bl (phd q)) q.body.length (bl q.body))) (fun _ M=>(by kernel_rfl)) M ?_; refine xrH 11 8 rfl (v_) (fun _ M=>(by kernel_rfl)) M ?_; refine xrH 12 7 rfl (.int .i64 (aoE (gkK g.inn q.epo) (bl (pno q)) (phd q).length (bl (phd q)) q.body.length (bl q.body))) (fun _ M=>(by kernel_rfl)) M ?_
       refine wpAnyH_done (by kernel_rfl) ?_ _
       first | show Exit.then _ _ _ _ _ | show Exit.inBlock _ _ _ _ _
       have hae:aoE (gkK g.inn q.epo) (bl (pno q)) (phd q).length (bl (phd q)) q.body.length (bl q.body)=apE (goK g q) (rno q) (hdr q) q.body:=by
        rw [rno_pno hk3 hpk,hdr_phd hk3 hpk]
        rfl
       by_cases h5:apE (goK g q) (rno q) (hdr q) q.body=0
       · go_upto_region 9 with fail
         refine wp_region_list ?_; refine xpL (.int .i64 (aoE (gkK g.inn q.epo) (bl (pno q)) (phd q).length (bl (phd q)) q.body.length (bl q.body))) ?_; refine xaL (.bool false) (neqI .i64 _ _ _ _ _ _ rfl rfl rfl false (by rw [hae,h5]; rfl) _) ?_; refine xT ?_; go_upto_region 11 with fail; refine wp_region_list ?_; refine xpL (v_) ?_; refine xpL (v_) ?_; refine xpL (.int .i64 0) ?_; refine xT ?_
         have hN2:NewL w19 w.heap.size (goT g q) v_:=by
          have e0:=goR_zero h1 h2 hnr h3 h4 h5
          rw [goT_ok e0]
          unfold NewL goX apT
          rw [List.length_map,List.length_range]
          rw [rno_pno hk3 hpk,hdr_phd hk3 hpk] at hN
          exact hN.congr (fun j hj=>(bl_range _ _ j hj).symm)
         have hE:=show Hid _ from (goR_zero h1 h2 hnr h3 h4 h5)
         have hbel:Below w.heap.size w w19:=⟨M.below.os.trans hb0.os.symm,M.below.tape.trans hb0.tape.symm,M.below.output.trans hb0.output.symm,OF.size,fun b hb=>OF.blk b hb (fun h=>by cases h)⟩
         have HS:=show Hid _ from (And.intro hN2 hbel); clear M OF hbel PV hN hN2 hae h4 h5; go_wp2; go_ret2
         first | exact ⟨⟨_,by rw [hE.out]; rfl,HS.out.1⟩,HS.out.2⟩ | exact ⟨⟨by rw [hE.out]; rfl,HS.out.1⟩,HS.out.2⟩
       go_upto_region 9 with fail; refine wp_region_list ?_; refine xpL (.int .i64 (aoE (gkK g.inn q.epo) (bl (pno q)) (phd q).length (bl (phd q)) q.body.length (bl q.body))) ?_; refine xaL (.bool true) (neqI .i64 _ _ _ _ _ _ rfl rfl rfl true (by rw [hae,bne_iff_ne]; exact h5) _) ?_; refine xT ?_; go_upto_region 10 with fail; refine wp_region_list ?_; refine xpL (.slice none 0 0) ?_
       refine xpL (.int .i64 70) ?_; refine xT ?_; clear hN; have hE:=show Hid _ from (goR_forged h1 h2 h3 h4 h5)
       have hbel:Below w.heap.size w w19:=⟨M.below.os.trans hb0.os.symm,M.below.tape.trans hb0.tape.symm,M.below.output.trans hb0.output.symm,OF.size,fun b hb=>OF.blk b hb (fun h=>by cases h)⟩
       have HS:=show Hid _ from hbel; clear M OF hbel PV
       try clear hE_
       try clear h4
       try clear h5
       go_wp2; go_ret2
       have hT:goT g q=[]:=goT_err (by rw [hE.out]; decide)
       rw [hT]
       first | exact ⟨⟨_,by rw [hE.out]; rfl,NewF.nil _ _ _⟩,HS.out⟩ | exact ⟨⟨by rw [hE.out]; rfl,NewF.nil _ _ _⟩,HS.out⟩
     go_upto_region 6 with fail
     refine wp_region_held_drew (S:=fun w'=>Mm w0 ((B8,row .u8 32 (gkK g.inn q.epo))::(B5,[.int .i64 q.kind,.int .i64 q.role,.int .i64 q.path,.int .i64 q.epo,.int .i64 q.ctr,.slice bp q.body.length bc])::(R,[[Value.int .i64 g.role],kck g.out,kck g.inn,[Value.map mc],[Value.map m0],[Value.map m1]].flatten)::(mbs mc++(mbs m0++(mbs m1++(L0.map Prod.snd++(L1.map Prod.snd++T)))))) w') (by kernel_rfl) M.drew ?_
     clear M; intro M; have hdr:=(Below.refl w9.heap.size w9).drew; replace hwz:=xnT hwz hdr.size; replace OF:=OF.below hdr; replace PV:=PV.below hdr (xnR _); clear hdr; generalize w9.drew=w10 at M hwz OF PV ⊢; refine xrH 0 31 rfl (.pointer (some ⟨R,0,none⟩)) (fun _ M=>(by kernel_rfl)) M ?_; refine xrH 1 32 rfl (.pointer (some ⟨B5,3,none⟩)) (fun _ M=>(by kernel_rfl)) M ?_
     refine xrH 2 33 rfl (.int .i64 q.epo) (fun _ M=>load1 3 _ ⟨B5,3,none⟩ _ rfl rfl (fun _=>by kernel_rfl) (M.get (mT _ mS) 3 _ rfl)) M ?_; refine xrH 3 34 rfl (.pointer (some ⟨B5,2,none⟩)) (fun _ M=>(by kernel_rfl)) M ?_; refine xrH 4 35 rfl (.int .i64 q.path) (fun _ M=>load1 3 _ ⟨B5,2,none⟩ _ rfl rfl (fun _=>by kernel_rfl) (M.get (mT _ mS) 2 _ rfl)) M ?_
     refine xrH 6 37 rfl (.pointer (some ⟨B5,4,none⟩)) (fun _ M=>(by kernel_rfl)) M ?_; refine xrH 7 38 rfl (.int .i64 q.ctr) (fun _ M=>load1 3 _ ⟨B5,4,none⟩ _ rfl rfl (fun _=>by kernel_rfl) (M.get (mT _ mS) 4 _ rfl)) M ?_
     have MW0:Mm w0 ((R,[[Value.int .i64 g.role],kck g.out,kck g.inn,[Value.map mc],[Value.map m0],[Value.map m1]].flatten)::(mbs mc++(mbs m0++(mbs m1++(L0.map Prod.snd++(L1.map Prod.snd++((B8,row .u8 32 (gkK g.inn q.epo))::(B5,[.int .i64 q.kind,.int .i64 q.role,.int .i64 q.path,.int .i64 q.epo,.int .i64 q.ctr,.slice bp q.body.length bc])::T))))))) w10:=M.perm (see_perm _ _ _ _ _ _ _ _ _)
     refine callH (i:=5) (some 36) rfl (by kernel_rfl) rfl rfl (fun _=>by kernel_rfl) (gwin_see w0 _ R _ g.role g.out g.inn mc m0 m1 hw.inn q.epo q.path PV.path (g.win g.inn.e) (g.win (g.inn.e-1)) (g.win q.epo) L0 L1 (W0.off OF (fun _ _ h=>by cases h)) (W1.off OF (fun _ _ h=>by cases h)) hep MW0) ?_; rintro e w11 ⟨⟨v,rfl,hSee⟩,l⟩; replace M:=M.call l; replace hwz:=xnT hwz l.size
     replace OF:=OF.below l; replace PV:=PV.below l (xnR _); clear l MW0
     obtain ⟨Bw,Ww,lw,rfl,hWd,MW⟩:=hSee
     refine ⟨_,rfl,M,?_⟩
     simp only [aP,lI,l0,lS]; refine callH (i:=8) (some 39) rfl (by kernel_rfl) rfl rfl (fun _=>by kernel_rfl) (vcheck14_any w0 _ Bw lw _ Ww (hw.win q.epo q.path) hWd q.ctr PV.ctr MW) ?_; rintro e w12 ⟨rfl,l⟩; replace M:=M.call l; replace hwz:=xnT hwz l.size; replace OF:=OF.below l; replace PV:=PV.below l (xnR _); clear l
     refine ⟨_,rfl,M,?_⟩
     simp only [aP,lI,l0,lS]; refine xrH 9 40 rfl (.bool true) (fun _ M=>neqI .i64 _ _ _ _ _ _ rfl rfl rfl true (by rw [bne_iff_ne]; exact h4) _) M ?_
     refine wpAnyH_done (by kernel_rfl) ?_ _
     first | show Exit.then _ _ _ _ _ | show Exit.inBlock _ _ _ _ _
     go_upto_region 7 with fail; refine wp_region_list ?_; refine xpL (.slice none 0 0) ?_; refine xpL (.int .i64 140) ?_; refine xT ?_; have hE:=show Hid _ from (goR_old h1 h2 hnr h3 h4)
     have hbel:Below w.heap.size w w12:=⟨M.below.os.trans hb0.os.symm,M.below.tape.trans hb0.tape.symm,M.below.output.trans hb0.output.symm,OF.size,fun b hb=>OF.blk b hb (fun h=>by cases h)⟩
     have HS:=show Hid _ from hbel; clear M OF hbel PV
     try clear hE_
     try clear h4
     try clear h5
     go_wp2; go_ret2
     have hT:goT g q=[]:=goT_err (by rw [hE.out]; decide)
     rw [hT]
     first | exact ⟨⟨_,by rw [hE.out]; rfl,NewF.nil _ _ _⟩,HS.out⟩ | exact ⟨⟨by rw [hE.out]; rfl,NewF.nil _ _ _⟩,HS.out⟩
   go_upto_region 4 with fail; refine wp_region_list ?_; refine xpL (.int .i64 (gkL g.inn q.epo)) ?_; refine xaL (.bool true) (neqI .i64 _ _ _ _ _ _ rfl rfl rfl true (by rw [bne_iff_ne]; exact h3) _) ?_; refine xT ?_; go_upto_region 5 with fail; refine wp_region_list ?_; refine xpL (.int .i64 (gkL g.inn q.epo)) ?_; refine xpL (.slice none 0 0) ?_; refine xpL (.int .i64 (gkL g.inn q.epo)) ?_
   refine xT ?_; have hE:=show Hid _ from (goR_key h1 h2 h3)
   have hbel:Below w.heap.size w w9:=⟨M.below.os.trans hb0.os.symm,M.below.tape.trans hb0.tape.symm,M.below.output.trans hb0.output.symm,OF.size,fun b hb=>OF.blk b hb (fun h=>by cases h)⟩
   have HS:=show Hid _ from hbel; clear M OF hbel PV
   try clear hE_
   try clear h4
   try clear h5
   go_wp2; go_ret2
   have hT:goT g q=[]:=goT_err (by rw [hE.out]; exact h3)
   rw [hT]
   first | exact ⟨⟨_,by rw [hE.out]; rfl,NewF.nil _ _ _⟩,HS.out⟩ | exact ⟨⟨by rw [hE.out]; rfl,NewF.nil _ _ _⟩,HS.out⟩
 go_upto_region 0 with fail; refine wp_region_list ?_; have hlb:=(Below.refl w.heap.size w).alloc (xnR _) (.cells #[.int .i64 q.kind,.int .i64 q.role,.int .i64 q.path,.int .i64 q.epo,.int .i64 q.ctr,.slice bp q.body.length bc] 70)
 refine actL (w':=w.alloc (.cells #[.int .i64 q.kind,.int .i64 q.role,.int .i64 q.path,.int .i64 q.epo,.int .i64 q.ctr,.slice bp q.body.length bc] 70)) (.pointer (some ⟨w.heap.size,0,none⟩)) rfl (by kernel_rfl) ?_; simp only [aP,lI,l0,lS]; have hB_:=hwz; replace hwz:=xnT hwz hlb.size; replace OF:=OF.below hlb; replace PV:=PV.below hlb (xnR _)
 replace M:=M.box #[.int .i64 q.kind,.int .i64 q.role,.int .i64 q.path,.int .i64 q.epo,.int .i64 q.ctr,.slice bp q.body.length bc] 70 w.heap.size rfl; clear hlb; generalize w.alloc (.cells #[.int .i64 q.kind,.int .i64 q.role,.int .i64 q.path,.int .i64 q.epo,.int .i64 q.ctr,.slice bp q.body.length bc] 70)=w1 at M hwz OF PV ⊢; generalize eB_:w.heap.size=B1 at M ⊢
 have hB_B1:w.heap.size≤B1:=by rw [← eB_]; exact hB_
 clear hB_ eB_
 replace M:Mm w0 ((B1,[.int .i64 q.kind,.int .i64 q.role,.int .i64 q.path,.int .i64 q.epo,.int .i64 q.ctr,.slice bp q.body.length bc])::(R,[[Value.int .i64 g.role],kck g.out,kck g.inn,[Value.map mc],[Value.map m0],[Value.map m1]].flatten)::(mbs mc++(mbs m0++(mbs m1++(L0.map Prod.snd++(L1.map Prod.snd++T)))))) w1:=M
 refine xpL (.slice none 0 0) ?_; refine xpL (.int .i64 0) ?_; refine xT ?_; go_upto_region 1 with fail
 refine wp_region_held_drew (S:=fun w'=>Mm w0 ((B1,[.int .i64 q.kind,.int .i64 q.role,.int .i64 q.path,.int .i64 q.epo,.int .i64 q.ctr,.slice bp q.body.length bc])::(R,[[Value.int .i64 g.role],kck g.out,kck g.inn,[Value.map mc],[Value.map m0],[Value.map m1]].flatten)::(mbs mc++(mbs m0++(mbs m1++(L0.map Prod.snd++(L1.map Prod.snd++T)))))) w') (by kernel_rfl) M.drew ?_
 clear M; intro M; have hdr:=(Below.refl w1.heap.size w1).drew; replace hwz:=xnT hwz hdr.size; replace OF:=OF.below hdr; replace PV:=PV.below hdr (xnR _); clear hdr; generalize w1.drew=w2 at M hwz OF PV ⊢; refine xrH 0 9 rfl (.pointer (some ⟨B1,0,none⟩)) (fun _ M=>(by kernel_rfl)) M ?_
 refine xrH 1 10 rfl (.int .i64 q.kind) (fun _ M=>load1 3 _ ⟨B1,0,none⟩ _ rfl rfl (fun _=>by kernel_rfl) (M.get mS 0 _ rfl)) M ?_; refine xrH 2 11 rfl (.bool true) (fun _ M=>neqI .i64 _ _ _ _ _ _ rfl rfl rfl true (by rw [bne_iff_ne]; exact h1) _) M ?_; refine xrH 3 12 rfl (.bool true) (fun _ M=>(by kernel_rfl)) M ?_
 refine mayH (i:=4) (some 13) rfl false undef undef rfl rfl rfl (fun hc=>by cases hc) (by kernel_rfl) (by kernel_rfl) (by kernel_rfl) (fun _ _ _ h=>h) M ?_; simp only [aP,lI,l0,lS]; refine mayH (i:=5) (some 14) rfl false undef undef rfl rfl rfl (fun hc=>by cases hc) (by kernel_rfl) (by kernel_rfl) (by kernel_rfl) (fun _ _ _ h=>h) M ?_; simp only [aP,lI,l0,lS]
 refine mayH (i:=6) (some 15) rfl false undef undef rfl rfl rfl (fun hc=>by cases hc) (by kernel_rfl) (by kernel_rfl) (by kernel_rfl) (fun _ _ _ h=>h) M ?_; simp only [aP,lI,l0,lS]; refine mayH (i:=7) (some 16) rfl false undef undef rfl rfl rfl (fun hc=>by cases hc) (by kernel_rfl) (by kernel_rfl) (by kernel_rfl) (fun _ _ _ h=>h) M ?_; simp only [aP,lI,l0,lS]
 refine mayH (i:=8) (some 17) rfl false undef undef rfl rfl rfl (fun hc=>by cases hc) (by kernel_rfl) (by kernel_rfl) (by kernel_rfl) (fun _ _ _ h=>h) M ?_; simp only [aP,lI,l0,lS]; refine mayH (i:=9) (some 18) rfl false undef undef rfl rfl rfl (fun hc=>by cases hc) (by kernel_rfl) (by kernel_rfl) (by kernel_rfl) (fun _ _ _ h=>h) M ?_; simp only [aP,lI,l0,lS]
 refine mayH (i:=10) (some 19) rfl false undef undef rfl rfl rfl (fun hc=>by cases hc) (by kernel_rfl) (by kernel_rfl) (by kernel_rfl) (fun _ _ _ h=>h) M ?_; simp only [aP,lI,l0,lS]; refine xrH 11 20 rfl (.bool true) (fun _ M=>(by kernel_rfl)) M ?_
 refine wpAnyH_done (by kernel_rfl) ?_ _
 first | show Exit.then _ _ _ _ _ | show Exit.inBlock _ _ _ _ _
 go_upto_region 2 with fail; refine wp_region_list ?_; refine xpL (.slice none 0 0) ?_; refine xpL (.int .i64 110) ?_; refine xT ?_; have hE:=show Hid _ from (show goR g q=110 from if_pos (.inl h1))
 have hbel:Below w.heap.size w w2:=⟨M.below.os.trans hb0.os.symm,M.below.tape.trans hb0.tape.symm,M.below.output.trans hb0.output.symm,OF.size,fun b hb=>OF.blk b hb (fun h=>by cases h)⟩
 have HS:=show Hid _ from hbel; clear M OF hbel PV
 try clear hE_
 try clear h4
 try clear h5
 go_wp2; go_ret2
 have hT:goT g q=[]:=goT_err (by rw [hE.out]; decide)
 rw [hT]
 first | exact ⟨⟨_,by rw [hE.out]; rfl,NewF.nil _ _ _⟩,HS.out⟩ | exact ⟨⟨by rw [hE.out]; rfl,NewF.nil _ _ _⟩,HS.out⟩
end
end Go.Proofs.YtknodedhcdpbiaaGreatDoor
