/- Texts of Tk, joined. -/
import Derived.Test.YtakfcgbiodfmhaaP2RangesPlays
set_option maxRecDepth 20000
set_option maxHeartbeats 64000000
namespace Go.Proofs.Ytakfcgbiodfmhaa
open Go.RowKit
theorem rad_no {L:Rgs17} {f t:Int} (h:rhi t≤rlo f):rad L f t=L∧radN L f t=0:=by
 have e:rad L f t=L:=if_pos h
 refine ⟨e,?_⟩
 unfold radN
 rw [e]
 omega
theorem wrc_put (A:Rgs17) (q:Int × Int) (t:Int):(wrc (A++[q])).set (A.length*2+1) (.int .i64 t)=wrc (A++[(q.1,t)]):=by
 rw [wrc_app,wrc_app,List.set_append_right _ _ (by rw [wrc_len]; omega),wrc_len,show A.length*2+1-A.length*2=1 by omega]
 rfl
theorem idxR3 (g len cap i:Nat) (hi:i<len) {o:Oper} {a:Act} (x y:Operand) (ho:o.op=.indexAddr 27 x y) (hx:a.eval x=.slice (some ⟨g,0,none⟩) len cap) (hy:a.eval y=.int .i64 (i:Int)) (w:World):(execOp a.eval o).run Try.prog w=.ok (.value (.pointer (some ⟨g,i*2,none⟩))) w:=by
 have:=idxR2 ⟨g,0,none⟩ len cap i hi x y ho hx hy w
 rw [Addr.add_mid,Nat.zero_add] at this
 exact this
theorem dadd_any (w0 w:World) (R:Nat) (sp:Option Addr) (cap:Nat) (L:Rgs17) (l:List (Nat × List Value)) (hc:Can L) (hln:L.length<200000) (f t:Int) (M:Mm w0 ((R,[.slice sp L.length cap])::(obs sp++l)) w) (N:NewW w 0 L (.slice sp L.length cap)) :
 Calls Try.prog 10 #[.pointer (some ⟨R,0,none⟩),.int .i64 f,.int .i64 t] w fun e w'=>∃ sq cq,e=.returned (.int .i64 (radN L f t))∧Mm w0 ((R,[.slice sq (rad L f t).length cq])::(obs sq++l)) w'∧NewW w' 0 (rad L f t) (.slice sq (rad L f t).length cq)∧Off [R] w w':=by
 have hb0:=M.below; have OF:=Off.refl [R] w
 go_enter Try.func10,Try.ntmps10
 go_upto_region 0 with fail; refine wp_region_list ?_; refine xpL (.int .i64 0) ?_; refine xT ?_; go_upto_region 1 with fail; refine wp_region_list ?_; refine xpL (.int .i64 f) ?_; refine xpL (.int .i64 t) ?_; refine xcL (dins_any f t _) ?_; rintro e w1 ⟨rfl,l⟩; replace M:=M.call l; replace N:=NewW.below N l; replace OF:=OF.below l; clear l; refine xeL ?_
 refine xpL (.tuple #[.int .i64 (rlo f),.int .i64 (rhi t)]) ?_; refine xpL (.int .i64 (rlo f)) ?_; refine xpL (.int .i64 (rhi t)) ?_; refine xpL (.int .i64 (rlo f)) ?_; refine xpL (.int .i64 (rhi t)) ?_; refine xT ?_
 by_cases hge:rhi t≤rlo f
 · go_upto_region 2 with fail
   refine wp_region_list ?_; refine xpL (.int .i64 (rlo f)) ?_; refine xpL (.int .i64 (rhi t)) ?_; refine xaL (.bool true) (geqI .i64 _ _ _ _ _ _ rfl rfl rfl true (decide_eq_true hge) _) ?_; refine xT ?_; go_upto_region 3 with fail; refine wp_region_list ?_; refine xpL (.int .i64 0) ?_; refine xT ?_; have HS:=show Hid _ from (And.intro M (And.intro N OF)); clear M N OF; go_wp2; go_ret
   obtain ⟨e1,e2⟩:=rad_no (L:=L) hge
   rw [e1,e2]
   exact ⟨sp,cap,rfl,HS.out⟩
 · go_upto_region 2 with fail
   refine wp_region_list ?_; refine xpL (.int .i64 (rlo f)) ?_; refine xpL (.int .i64 (rhi t)) ?_; refine xaL (.bool false) (geqI .i64 _ _ _ _ _ _ rfl rfl rfl false (decide_eq_false hge) _) ?_; refine xT ?_; have hb1:=rtot_in hc
   have hft:rlo f<rhi t:=by omega
   have hf0:0≤rlo f:=by unfold rlo; omega
   have ht1:rhi t≤4611686018427387904:=by unfold rhi; omega
   go_upto_region 4 with fail; refine wp_region_list ?_; refine xpL (.pointer (some ⟨R,0,none⟩)) ?_; refine xcL (dtot_any R sp cap L hc (by omega) _ (M.get mS 0 _ rfl) N) ?_; rintro e w2 ⟨rfl,l⟩; replace M:=M.call l; replace N:=NewW.below N l; replace OF:=OF.below l; clear l; refine xeL ?_; refine xpL (.int .i64 (rtot L)) ?_; refine xT ?_; go_upto_region 5 with fail
   refine wp_region_list ?_; refine xpL (.pointer (some ⟨R,0,none⟩)) ?_; refine xpL (.pointer (some ⟨R,0,none⟩)) ?_; refine xpL (.pointer (some ⟨R,0,none⟩)) ?_; refine xaL (.slice sp L.length cap) (load1 27 _ ⟨R,0,none⟩ _ rfl rfl (fun _=>by kernel_rfl) (M.get mS 0 _ rfl)) ?_; refine xpL (.int .i64 (rlo f)) ?_; refine xpL (.int .i64 (rhi t)) ?_
   have key:=dwo_any sp cap L (by omega) (rlo f) (rhi t) _ N; refine xcL key ?_; clear key; rintro e w3 ⟨p3,c3,rfl,N_3,lb⟩; replace M:=M.newW lb N_3; replace N_3:=NewW.zero N_3; replace N:=NewW.below N lb; replace OF:=OF.below lb; clear lb
   replace M:Mm w0 ((R,[.slice sp L.length cap])::((obs p3)++(obs sp++l))) w3:=M.perm (pull0 ([(R,[.slice sp L.length cap])]:List (Nat × List Value)) (obs p3) (obs sp++l)).symm
   refine xeL ?_; refine xpL (.slice p3 ((rcut L (rlo f) (rhi t)).length) c3) ?_; refine xT ?_
   have hKl:(rcut L (rlo f) (rhi t)).length≤2*L.length:=rcut_len (rlo f) (rhi t) L
   replace M:Mm w0 ((R,[.slice sp L.length cap])::(obs p3++l)) w3:=M.sub _ (List.cons_sublist_cons.2 ((List.Sublist.refl _).append (List.sublist_append_right _ _)))
   clear N; have N_K:=N_3; clear N_3
   replace M:Mm w0 ((R,[.slice sp L.length cap])::(obs none++(obs p3++l))) w3:=M
   go_upto_region 6 with fail; refine wp_region_list ?_; refine xpL (.slice none 0 0) ?_; refine xT ?_; go_upto_region 7 with fail; refine wp_region_list ?_; refine xpL (.bool false) ?_; refine xT ?_; go_upto_region 8 with fail; refine wp_region_list ?_; refine xpL (.int .i64 0) ?_; refine xT ?_
   have HI:=show Hid _ from (show Ins (rcut L (rlo f) (rhi t)) (rlo f) (rhi t) 0 ([]:Rgs17) false∧w3.ownsRow w.heap.size 34 2 (.slice none ([]:Rgs17).length 0) ([]:Rgs17).length (wrc ([]:Rgs17))∧Mm w0 ((R,[.slice sp L.length cap])::(obs none++(obs p3++l))) w3∧NewW w3 0 (rcut L (rlo f) (rhi t)) (.slice p3 (rcut L (rlo f) (rhi t)).length c3)∧Off [R] w w3 from ⟨Ins.start _ _ _,⟨rfl,.inl ⟨rfl,rfl⟩⟩,M,N_K,OF⟩)
   clear M N_K OF; go_wp2
   go_loopw [9,10,11] (fun o_ d_ i w'=>∃ (i':Nat) (O:Rgs17) (dn:Bool) (so:Option Addr) (co:Nat),i'≤(rcut L (rlo f) (rhi t)).length∧o_=.slice so O.length co∧d_=.bool dn∧i=.int .i64 (i':Int)∧Ins (rcut L (rlo f) (rhi t)) (rlo f) (rhi t) i' O dn∧w'.ownsRow w.heap.size 34 2 (.slice so O.length co) O.length (wrc O)∧Mm w0 ((R,[.slice sp L.length cap])::(obs so++(obs p3++l))) w'∧NewW w' 0 (rcut L (rlo f) (rhi t)) (.slice p3 (rcut L (rlo f) (rhi t)).length c3)∧Off [R] w w') (fun _ _ i _=>(rcut L (rlo f) (rhi t)).length-(intOf i).toNat)
   case atStart=>exact ⟨0,[],false,none,0,Nat.zero_le _,rfl,rfl,rfl,HI.out⟩
   case round =>
    clear HI
    obtain ⟨i,O,dn,so,co,hi,rfl,rfl,rfl,I1,V_,M,N_K,OF⟩:=hrel
    have hOl:=I1.len
    by_cases hil:i<(rcut L (rlo f) (rhi t)).length
    · obtain ⟨pr,hpr⟩:∃ pr,(rcut L (rlo f) (rhi t))[i]?=some pr:=⟨_,List.getElem?_eq_getElem hil⟩
      obtain ⟨adr,hadr,_,_⟩:=NewW.at N_K hpr
      subst hadr
      cases dn with
      | true =>
        go_upto_region 9 with fail; refine wp_region_list ?_; refine xpL (.int .i64 (i:Int)) ?_; refine xpL (.slice (some adr) ((rcut L (rlo f) (rhi t)).length) c3) ?_; refine readL (.int .i64 (((rcut L (rlo f) (rhi t)).length:Nat):Int)) rfl (lenS _ 27 34 (some adr) ((rcut L (rlo f) (rhi t)).length) c3 rfl Try.underlying27 rfl _) ?_; simp only [aP,lI,l0,lS]
        refine xaL (.bool true) (lssI .i64 _ _ _ _ _ _ rfl rfl rfl true (decide_eq_true (by omega)) _) ?_; refine xT ?_; go_upto_region 11 with fail; refine wp_region_list ?_; refine xpL (.bool true) ?_; refine xpL (.bool false) ?_; refine xpL (.bool false) ?_
        with_reducible refine skipL ?_ ?_
        · rfl
        simp only [aP,lI,l0,lS]
        with_reducible refine skipL ?_ ?_
        · rfl
        simp only [aP,lI,l0,lS]
        with_reducible refine skipL ?_ ?_
        · rfl
        simp only [aP,lI,l0,lS]
        with_reducible refine skipL ?_ ?_
        · rfl
        simp only [aP,lI,l0,lS]
        with_reducible refine skipL ?_ ?_
        · rfl
        simp only [aP,lI,l0,lS]
        with_reducible refine skipL ?_ ?_
        · rfl
        simp only [aP,lI,l0,lS]
        with_reducible refine skipL ?_ ?_
        · rfl
        simp only [aP,lI,l0,lS]; refine xpL (.bool false) ?_; refine xT ?_; go_upto_region 14 with fail; refine wp_region_list ?_; refine xpL (.slice so O.length co) ?_; refine xpL (.slice (some adr) ((rcut L (rlo f) (rhi t)).length) c3) ?_; refine xpL (.int .i64 (i:Int)) ?_; refine readL (.pointer (some (adr.add (i*2)))) rfl (idxR2 adr _ _ i hil _ _ rfl rfl rfl _) ?_
        simp only [aP,lI,l0,lS]; refine xaL (.agg #[.int .i64 pr.1,.int .i64 pr.2]) (loadN 34 _ (adr.add (i*2)) [.int .i64 pr.1,.int .i64 pr.2] rfl rfl (fun _=>by kernel_rfl) (fun _=>by kernel_rfl) (NewW.rng N_K hpr)) ?_
        have S_1:=World.ownsRow.cells (World.ownsRow_lit (base:=wr.heap.size) (e:=34) (size:=2) wr #[.int .i64 pr.1,.int .i64 pr.2] 1 (xnR _) (by unfold maxLen; omega) rfl) (g:=wr.heap.size) rfl; have hlb:=(Below.refl wr.heap.size wr).alloc (xnR _) (.cells #[.int .i64 pr.1,.int .i64 pr.2] 34); replace V_:=ownsRow_bel V_ hlb; replace N_K:=NewW.below N_K hlb
        replace OF:=OF.below hlb; replace M:=M.call hlb; clear hlb; refine actL (w':=wr.alloc (.cells #[.int .i64 pr.1,.int .i64 pr.2] 34)) (.slice (some ⟨wr.heap.size,0,none⟩) 1 1) rfl (by kernel_rfl) ?_; simp only [aP,lI,l0,lS]; generalize wr.alloc (.cells #[.int .i64 pr.1,.int .i64 pr.2] 34)=w4 at M S_1 V_ N_K OF ⊢; generalize wr.heap.size=bz at S_1 ⊢
        obtain ⟨v2,w5,hr,V2,hgr,hg2⟩:=run_append_OwnV (P:=Try.prog) (ty:=27) Try.underlying27 manyW rfl (by decide) V_ ⟨bz,0,none⟩ 1 1 [.int .i64 pr.1,.int .i64 pr.2] rfl S_1 (wrc_one [(pr.1,pr.2)]) (by unfold maxLen; (try simp only [List.length_append,List.length_cons,List.length_nil]); omega) (by (try simp only [List.length_append,List.length_cons,List.length_nil]); omega) OF.size
        have Mp:=M.perm (pull0 ([(R,[.slice sp L.length cap])]:List (Nat × List Value)) (obs so) ((obs (some adr))++l)); have ho:=Off.grown (Off.refl (ob so) w4) hgr (fun b_ hb_=>.inl ((ob_own _ _ _ b_).1 hb_)); replace N_K:=NewW.offB N_K ho (Mp.awayO (fun p_ hp_=>by simp [hp_])); replace OF:=OF.grown hgr (fun b_ hb_=>.inr (World.ownsRow.lt V_ b_ hb_).1)
        obtain ⟨sv5,cv5,rfl,_,_⟩:=row_form16 V2
        have M':=Mp.rowApp V_ hgr V2 hg2 hb0.size
        refine xaL (_) (appendOp _ _ 27 _ _ _ rfl rfl rfl hr) ?_
        rw [show O.length+1=(O++[(pr.1,pr.2)]).length from len_snoc O (pr.1,pr.2)] at V2 ⊢
        replace V2:w5.ownsRow w.heap.size 34 2 (.slice sv5 (O++[(pr.1,pr.2)]).length cv5) (O++[(pr.1,pr.2)]).length (wrc (O++[(pr.1,pr.2)])):=by rw [wrc_app]; exact V2
        clear hr hgr hg2 ho V_ S_1 Mp M; have V_:=V2; clear V2
        have M:Mm w0 ((R,[.slice sp L.length cap])::((obs sv5)++((obs (some adr))++l))) w5:=M'.perm (pull0 ([(R,[.slice sp L.length cap])]:List (Nat × List Value)) (obs sv5) ((obs (some adr))++l)).symm
        clear M'; refine xpL (.slice sv5 ((O++[(pr.1,pr.2)]).length) cv5) ?_; refine xT ?_
        have HS:=show Hid _ from (show Ins (rcut L (rlo f) (rhi t)) (rlo f) (rhi t) (i+1) (O++[(pr.1,pr.2)]) true∧w5.ownsRow w.heap.size 34 2 (.slice sv5 (O++[(pr.1,pr.2)]).length cv5) (O++[(pr.1,pr.2)]).length (wrc (O++[(pr.1,pr.2)]))∧Mm w0 ((R,[.slice sp L.length cap])::(obs sv5++(obs (some adr)++l))) w5∧NewW w5 0 (rcut L (rlo f) (rhi t)) (.slice (some adr) (rcut L (rlo f) (rhi t)).length c3)∧Off [R] w w5 from ⟨I1.next hc hft hpr (fun h_=>by cases h_),V_,M,N_K,OF⟩)
        clear M V_ N_K OF I1; go_wp2
        go_roundw
        case rel=>exact ⟨i+1,_,_,_,_,by omega,rfl,rfl,by go_num,HS.out⟩
        case measure=>simp [intOf]; omega
      | false =>
        by_cases hgt:pr.1>rlo f
        · go_upto_region 9 with fail
          refine wp_region_list ?_; refine xpL (.int .i64 (i:Int)) ?_; refine xpL (.slice (some adr) ((rcut L (rlo f) (rhi t)).length) c3) ?_; refine readL (.int .i64 (((rcut L (rlo f) (rhi t)).length:Nat):Int)) rfl (lenS _ 27 34 (some adr) ((rcut L (rlo f) (rhi t)).length) c3 rfl Try.underlying27 rfl _) ?_; simp only [aP,lI,l0,lS]
          refine xaL (.bool true) (lssI .i64 _ _ _ _ _ _ rfl rfl rfl true (decide_eq_true (by omega)) _) ?_; refine xT ?_; go_upto_region 11 with fail; refine wp_region_list ?_; refine xpL (.bool false) ?_; refine xpL (.bool true) ?_; refine xpL (.bool true) ?_; refine xpL (.slice (some adr) ((rcut L (rlo f) (rhi t)).length) c3) ?_; refine xpL (.int .i64 (i:Int)) ?_
          refine readL (.pointer (some (adr.add (i*2)))) rfl (idxR2 adr _ _ i hil _ _ rfl rfl rfl _) ?_; simp only [aP,lI,l0,lS]; refine xpL (.pointer (some ((adr.add (i*2)).add 0))) ?_; refine xaL (.int .i64 pr.1) (load1 3 _ ((adr.add (i*2)).add 0) _ rfl rfl (fun _=>by kernel_rfl) (NewW.rng N_K hpr 0 _ rfl)) ?_; refine xpL (.int .i64 (rlo f)) ?_
          refine xaL (.bool true) (gtrI .i64 _ _ _ _ _ _ rfl rfl rfl true (decide_eq_true (by omega)) _) ?_; refine xpL (.bool true) ?_; refine xT ?_; go_upto_region 12 with fail; refine wp_region_list ?_; refine xpL (.slice so O.length co) ?_; refine xpL (.int .i64 (rlo f)) ?_; refine xpL (.int .i64 (rhi t)) ?_; refine xpL (.agg #[.int .i64 (rlo f),.int .i64 (rhi t)]) ?_
          have S_1:=World.ownsRow.cells (World.ownsRow_lit (base:=wr.heap.size) (e:=34) (size:=2) wr #[.int .i64 (rlo f),.int .i64 (rhi t)] 1 (xnR _) (by unfold maxLen; omega) rfl) (g:=wr.heap.size) rfl; have hlb:=(Below.refl wr.heap.size wr).alloc (xnR _) (.cells #[.int .i64 (rlo f),.int .i64 (rhi t)] 34); replace V_:=ownsRow_bel V_ hlb; replace N_K:=NewW.below N_K hlb
          replace OF:=OF.below hlb; replace M:=M.call hlb; clear hlb; refine actL (w':=wr.alloc (.cells #[.int .i64 (rlo f),.int .i64 (rhi t)] 34)) (.slice (some ⟨wr.heap.size,0,none⟩) 1 1) rfl (by kernel_rfl) ?_; simp only [aP,lI,l0,lS]; generalize wr.alloc (.cells #[.int .i64 (rlo f),.int .i64 (rhi t)] 34)=w6 at M S_1 V_ N_K OF ⊢; generalize wr.heap.size=bz at S_1 ⊢
          obtain ⟨v2,w7,hr,V2,hgr,hg2⟩:=run_append_OwnV (P:=Try.prog) (ty:=27) Try.underlying27 manyW rfl (by decide) V_ ⟨bz,0,none⟩ 1 1 [.int .i64 (rlo f),.int .i64 (rhi t)] rfl S_1 (wrc_one [(rlo f,rhi t)]) (by unfold maxLen; (try simp only [List.length_append,List.length_cons,List.length_nil]); omega) (by (try simp only [List.length_append,List.length_cons,List.length_nil]); omega) OF.size
          have Mp:=M.perm (pull0 ([(R,[.slice sp L.length cap])]:List (Nat × List Value)) (obs so) ((obs (some adr))++l)); have ho:=Off.grown (Off.refl (ob so) w6) hgr (fun b_ hb_=>.inl ((ob_own _ _ _ b_).1 hb_)); replace N_K:=NewW.offB N_K ho (Mp.awayO (fun p_ hp_=>by simp [hp_])); replace OF:=OF.grown hgr (fun b_ hb_=>.inr (World.ownsRow.lt V_ b_ hb_).1)
          obtain ⟨sv7,cv7,rfl,_,_⟩:=row_form16 V2
          have M':=Mp.rowApp V_ hgr V2 hg2 hb0.size
          refine xaL (_) (appendOp _ _ 27 _ _ _ rfl rfl rfl hr) ?_
          rw [show O.length+1=(O++[(rlo f,rhi t)]).length from len_snoc O (rlo f,rhi t)] at V2 ⊢
          replace V2:w7.ownsRow w.heap.size 34 2 (.slice sv7 (O++[(rlo f,rhi t)]).length cv7) (O++[(rlo f,rhi t)]).length (wrc (O++[(rlo f,rhi t)])):=by rw [wrc_app]; exact V2
          clear hr hgr hg2 ho V_ S_1 Mp M; have V_:=V2; clear V2
          have M:Mm w0 ((R,[.slice sp L.length cap])::((obs sv7)++((obs (some adr))++l))) w7:=M'.perm (pull0 ([(R,[.slice sp L.length cap])]:List (Nat × List Value)) (obs sv7) ((obs (some adr))++l)).symm
          clear M'; refine xpL (.slice sv7 ((O++[(rlo f,rhi t)]).length) cv7) ?_; refine xT ?_; go_upto_region 13 with fail; refine wp_region_list ?_; refine xpL (.bool true) ?_; refine xT ?_; go_upto_region 14 with fail; refine wp_region_list ?_; refine xpL (.slice sv7 ((O++[(rlo f,rhi t)]).length) cv7) ?_; refine xpL (.slice (some adr) ((rcut L (rlo f) (rhi t)).length) c3) ?_
          refine xpL (.int .i64 (i:Int)) ?_; refine readL (.pointer (some (adr.add (i*2)))) rfl (idxR2 adr _ _ i hil _ _ rfl rfl rfl _) ?_; simp only [aP,lI,l0,lS]; refine xaL (.agg #[.int .i64 pr.1,.int .i64 pr.2]) (loadN 34 _ (adr.add (i*2)) [.int .i64 pr.1,.int .i64 pr.2] rfl rfl (fun _=>by kernel_rfl) (fun _=>by kernel_rfl) (NewW.rng N_K hpr)) ?_
          have S_1:=World.ownsRow.cells (World.ownsRow_lit (base:=w7.heap.size) (e:=34) (size:=2) w7 #[.int .i64 pr.1,.int .i64 pr.2] 1 (xnR _) (by unfold maxLen; omega) rfl) (g:=w7.heap.size) rfl; have hlb:=(Below.refl w7.heap.size w7).alloc (xnR _) (.cells #[.int .i64 pr.1,.int .i64 pr.2] 34); replace V_:=ownsRow_bel V_ hlb; replace N_K:=NewW.below N_K hlb
          replace OF:=OF.below hlb; replace M:=M.call hlb; clear hlb; refine actL (w':=w7.alloc (.cells #[.int .i64 pr.1,.int .i64 pr.2] 34)) (.slice (some ⟨w7.heap.size,0,none⟩) 1 1) rfl (by kernel_rfl) ?_; simp only [aP,lI,l0,lS]; generalize w7.alloc (.cells #[.int .i64 pr.1,.int .i64 pr.2] 34)=w8 at M S_1 V_ N_K OF ⊢; generalize w7.heap.size=bz at S_1 ⊢
          obtain ⟨v2,w9,hr,V2,hgr,hg2⟩:=run_append_OwnV (P:=Try.prog) (ty:=27) Try.underlying27 manyW rfl (by decide) V_ ⟨bz,0,none⟩ 1 1 [.int .i64 pr.1,.int .i64 pr.2] rfl S_1 (wrc_one [(pr.1,pr.2)]) (by unfold maxLen; (try simp only [List.length_append,List.length_cons,List.length_nil]); omega) (by (try simp only [List.length_append,List.length_cons,List.length_nil]); omega) OF.size
          have Mp:=M.perm (pull0 ([(R,[.slice sp L.length cap])]:List (Nat × List Value)) (obs sv7) ((obs (some adr))++l)); have ho:=Off.grown (Off.refl (ob sv7) w8) hgr (fun b_ hb_=>.inl ((ob_own _ _ _ b_).1 hb_)); replace N_K:=NewW.offB N_K ho (Mp.awayO (fun p_ hp_=>by simp [hp_])); replace OF:=OF.grown hgr (fun b_ hb_=>.inr (World.ownsRow.lt V_ b_ hb_).1)
          obtain ⟨sv9,cv9,rfl,_,_⟩:=row_form16 V2
          have M':=Mp.rowApp V_ hgr V2 hg2 hb0.size
          refine xaL (_) (appendOp _ _ 27 _ _ _ rfl rfl rfl hr) ?_
          rw [show (O++[(rlo f,rhi t)]).length+1=((O++[(rlo f,rhi t)])++[(pr.1,pr.2)]).length from len_snoc (O++[(rlo f,rhi t)]) (pr.1,pr.2)] at V2 ⊢
          replace V2:w9.ownsRow w.heap.size 34 2 (.slice sv9 ((O++[(rlo f,rhi t)])++[(pr.1,pr.2)]).length cv9) ((O++[(rlo f,rhi t)])++[(pr.1,pr.2)]).length (wrc ((O++[(rlo f,rhi t)])++[(pr.1,pr.2)])):=by rw [wrc_app]; exact V2
          clear hr hgr hg2 ho V_ S_1 Mp M; have V_:=V2; clear V2
          have M:Mm w0 ((R,[.slice sp L.length cap])::((obs sv9)++((obs (some adr))++l))) w9:=M'.perm (pull0 ([(R,[.slice sp L.length cap])]:List (Nat × List Value)) (obs sv9) ((obs (some adr))++l)).symm
          clear M'; refine xpL (.slice sv9 (((O++[(rlo f,rhi t)])++[(pr.1,pr.2)]).length) cv9) ?_; refine xT ?_
          have HS:=show Hid _ from (show Ins (rcut L (rlo f) (rhi t)) (rlo f) (rhi t) (i+1) ((O++[(rlo f,rhi t)])++[(pr.1,pr.2)]) true∧w9.ownsRow w.heap.size 34 2 (.slice sv9 ((O++[(rlo f,rhi t)])++[(pr.1,pr.2)]).length cv9) ((O++[(rlo f,rhi t)])++[(pr.1,pr.2)]).length (wrc ((O++[(rlo f,rhi t)])++[(pr.1,pr.2)]))∧Mm w0 ((R,[.slice sp L.length cap])::(obs sv9++(obs (some adr)++l))) w9∧NewW w9 0 (rcut L (rlo f) (rhi t)) (.slice (some adr) (rcut L (rlo f) (rhi t)).length c3)∧Off [R] w w9 from ⟨I1.both hc hf0 hft ht1 hpr (by omega),V_,M,N_K,OF⟩)
          clear M V_ N_K OF I1; go_wp2
          go_roundw
          case rel=>exact ⟨i+1,_,_,_,_,by omega,rfl,rfl,by go_num,HS.out⟩
          case measure=>simp [intOf]; omega
        · go_upto_region 9 with fail
          refine wp_region_list ?_; refine xpL (.int .i64 (i:Int)) ?_; refine xpL (.slice (some adr) ((rcut L (rlo f) (rhi t)).length) c3) ?_; refine readL (.int .i64 (((rcut L (rlo f) (rhi t)).length:Nat):Int)) rfl (lenS _ 27 34 (some adr) ((rcut L (rlo f) (rhi t)).length) c3 rfl Try.underlying27 rfl _) ?_; simp only [aP,lI,l0,lS]
          refine xaL (.bool true) (lssI .i64 _ _ _ _ _ _ rfl rfl rfl true (decide_eq_true (by omega)) _) ?_; refine xT ?_; go_upto_region 11 with fail; refine wp_region_list ?_; refine xpL (.bool false) ?_; refine xpL (.bool true) ?_; refine xpL (.bool true) ?_; refine xpL (.slice (some adr) ((rcut L (rlo f) (rhi t)).length) c3) ?_; refine xpL (.int .i64 (i:Int)) ?_
          refine readL (.pointer (some (adr.add (i*2)))) rfl (idxR2 adr _ _ i hil _ _ rfl rfl rfl _) ?_; simp only [aP,lI,l0,lS]; refine xpL (.pointer (some ((adr.add (i*2)).add 0))) ?_; refine xaL (.int .i64 pr.1) (load1 3 _ ((adr.add (i*2)).add 0) _ rfl rfl (fun _=>by kernel_rfl) (NewW.rng N_K hpr 0 _ rfl)) ?_; refine xpL (.int .i64 (rlo f)) ?_
          refine xaL (.bool false) (gtrI .i64 _ _ _ _ _ _ rfl rfl rfl false (decide_eq_false (by omega)) _) ?_; refine xpL (.bool false) ?_; refine xT ?_; go_upto_region 14 with fail; refine wp_region_list ?_; refine xpL (.slice so O.length co) ?_; refine xpL (.slice (some adr) ((rcut L (rlo f) (rhi t)).length) c3) ?_; refine xpL (.int .i64 (i:Int)) ?_
          refine readL (.pointer (some (adr.add (i*2)))) rfl (idxR2 adr _ _ i hil _ _ rfl rfl rfl _) ?_; simp only [aP,lI,l0,lS]; refine xaL (.agg #[.int .i64 pr.1,.int .i64 pr.2]) (loadN 34 _ (adr.add (i*2)) [.int .i64 pr.1,.int .i64 pr.2] rfl rfl (fun _=>by kernel_rfl) (fun _=>by kernel_rfl) (NewW.rng N_K hpr)) ?_
          have S_1:=World.ownsRow.cells (World.ownsRow_lit (base:=wr.heap.size) (e:=34) (size:=2) wr #[.int .i64 pr.1,.int .i64 pr.2] 1 (xnR _) (by unfold maxLen; omega) rfl) (g:=wr.heap.size) rfl; have hlb:=(Below.refl wr.heap.size wr).alloc (xnR _) (.cells #[.int .i64 pr.1,.int .i64 pr.2] 34); replace V_:=ownsRow_bel V_ hlb; replace N_K:=NewW.below N_K hlb
          replace OF:=OF.below hlb; replace M:=M.call hlb; clear hlb; refine actL (w':=wr.alloc (.cells #[.int .i64 pr.1,.int .i64 pr.2] 34)) (.slice (some ⟨wr.heap.size,0,none⟩) 1 1) rfl (by kernel_rfl) ?_; simp only [aP,lI,l0,lS]; generalize wr.alloc (.cells #[.int .i64 pr.1,.int .i64 pr.2] 34)=w10 at M S_1 V_ N_K OF ⊢; generalize wr.heap.size=bz at S_1 ⊢
          obtain ⟨v2,w11,hr,V2,hgr,hg2⟩:=run_append_OwnV (P:=Try.prog) (ty:=27) Try.underlying27 manyW rfl (by decide) V_ ⟨bz,0,none⟩ 1 1 [.int .i64 pr.1,.int .i64 pr.2] rfl S_1 (wrc_one [(pr.1,pr.2)]) (by unfold maxLen; (try simp only [List.length_append,List.length_cons,List.length_nil]); omega) (by (try simp only [List.length_append,List.length_cons,List.length_nil]); omega) OF.size
          have Mp:=M.perm (pull0 ([(R,[.slice sp L.length cap])]:List (Nat × List Value)) (obs so) ((obs (some adr))++l)); have ho:=Off.grown (Off.refl (ob so) w10) hgr (fun b_ hb_=>.inl ((ob_own _ _ _ b_).1 hb_)); replace N_K:=NewW.offB N_K ho (Mp.awayO (fun p_ hp_=>by simp [hp_])); replace OF:=OF.grown hgr (fun b_ hb_=>.inr (World.ownsRow.lt V_ b_ hb_).1)
          obtain ⟨sv11,cv11,rfl,_,_⟩:=row_form16 V2
          have M':=Mp.rowApp V_ hgr V2 hg2 hb0.size
          refine xaL (_) (appendOp _ _ 27 _ _ _ rfl rfl rfl hr) ?_
          rw [show O.length+1=(O++[(pr.1,pr.2)]).length from len_snoc O (pr.1,pr.2)] at V2 ⊢
          replace V2:w11.ownsRow w.heap.size 34 2 (.slice sv11 (O++[(pr.1,pr.2)]).length cv11) (O++[(pr.1,pr.2)]).length (wrc (O++[(pr.1,pr.2)])):=by rw [wrc_app]; exact V2
          clear hr hgr hg2 ho V_ S_1 Mp M; have V_:=V2; clear V2
          have M:Mm w0 ((R,[.slice sp L.length cap])::((obs sv11)++((obs (some adr))++l))) w11:=M'.perm (pull0 ([(R,[.slice sp L.length cap])]:List (Nat × List Value)) (obs sv11) ((obs (some adr))++l)).symm
          clear M'; refine xpL (.slice sv11 ((O++[(pr.1,pr.2)]).length) cv11) ?_; refine xT ?_
          have HS:=show Hid _ from (show Ins (rcut L (rlo f) (rhi t)) (rlo f) (rhi t) (i+1) (O++[(pr.1,pr.2)]) false∧w11.ownsRow w.heap.size 34 2 (.slice sv11 (O++[(pr.1,pr.2)]).length cv11) (O++[(pr.1,pr.2)]).length (wrc (O++[(pr.1,pr.2)]))∧Mm w0 ((R,[.slice sp L.length cap])::(obs sv11++(obs (some adr)++l))) w11∧NewW w11 0 (rcut L (rlo f) (rhi t)) (.slice (some adr) (rcut L (rlo f) (rhi t)).length c3)∧Off [R] w w11 from ⟨I1.next hc hft hpr (fun _=>by omega),V_,M,N_K,OF⟩)
          clear M V_ N_K OF I1; go_wp2
          go_roundw
          case rel=>exact ⟨i+1,_,_,_,_,by omega,rfl,rfl,by go_num,HS.out⟩
          case measure=>simp [intOf]; omega
    · obtain rfl:i=(rcut L (rlo f) (rhi t)).length:=by omega
      have hm1:=I1.m
      rw [List.take_length] at hm1
      go_upto_region 9 with fail; refine wp_region_list ?_; refine xpL (.int .i64 (((rcut L (rlo f) (rhi t)).length:Nat):Int)) ?_; refine xpL (.slice p3 ((rcut L (rlo f) (rhi t)).length) c3) ?_; refine readL (.int .i64 (((rcut L (rlo f) (rhi t)).length:Nat):Int)) rfl (lenS _ 27 34 p3 ((rcut L (rlo f) (rhi t)).length) c3 rfl Try.underlying27 rfl _) ?_; simp only [aP,lI,l0,lS]
      refine xaL (.bool false) (lssI .i64 _ _ _ _ _ _ rfl rfl rfl false (decide_eq_false (by omega)) _) ?_; refine xT ?_
      cases dn with
      | true =>
        go_upto_region 15 with fail; refine wp_region_list ?_; refine xpL (.bool true) ?_; refine xpL (.bool false) ?_; refine xT ?_
        have hwk:Wk O:=I1.w
        have hO:∀ n,rmem O n↔rmem (rcut L (rlo f) (rhi t)) n∨(rlo f≤n∧n<rhi t):=fun n=>(hm1 n).trans ⟨fun h_=>h_.elim .inl (fun h_=>.inr h_.2),fun h_=>h_.elim .inl (fun h_=>.inr ⟨rfl,h_⟩)⟩
        have hOm:O.length≤400001:=by (try simp only [List.length_append,List.length_cons,List.length_nil]); omega
        have N_O:=(NewW.ofOwn V_).zero; clear V_ I1 hm1 N_K hOl
        replace M:Mm w0 ((R,[.slice sp L.length cap])::(obs so++l)) wr:=M.sub _ (List.cons_sublist_cons.2 ((List.Sublist.refl _).append (List.sublist_append_right _ _)))
        replace M:Mm w0 ((R,[.slice sp L.length cap])::(obs none++(obs so++l))) wr:=M
        go_upto_region 17 with fail; refine wp_region_list ?_; refine xpL (.pointer (some ⟨R,0,none⟩)) ?_; refine xpL (.pointer (some ⟨R,0,none⟩)) ?_; refine xpL (.pointer (some ⟨R,0,none⟩)) ?_; refine skipOpL rfl (storeAny (.slice none 0 0) R 0 27 _ _ rfl rfl rfl rfl rfl (M.isSome mS 0 (by simp)) (M.free mS 0 (by simp)) (by kernel_rfl)) ?_; simp only [Act.put]
        replace M:=M.set 0 (by simp) (.slice none 0 0); replace N_O:=NewW.offB N_O ((Off.refl [R] _).set (b:=R) mS 0 (.slice none 0 0)) (fun b_ hb_=>by obtain rfl:=xm1 hb_; exact M.awayB (fun p_ hp_=>by simp [hp_])); replace OF:=OF.trans ((Off.refl [R] _).set (b:=R) mS 0 (.slice none 0 0)); generalize wr.setCell ⟨R,0,none⟩ (.slice none 0 0)=w12 at M N_O OF ⊢
        replace M:Mm w0 ((R,[.slice none 0 0])::((obs none)++((obs so)++l))) w12:=M
        refine xT ?_; go_upto_region 18 with fail; refine wp_region_list ?_; refine xpL (.int .i64 0) ?_; refine xT ?_
        have HI:=show Hid _ from (show Jnd O 0 ([]:Rgs17)∧w12.ownsRow w.heap.size 34 2 (.slice none ([]:Rgs17).length 0) ([]:Rgs17).length (wrc ([]:Rgs17))∧Mm w0 ((R,[.slice none ([]:Rgs17).length 0])::(obs none++(obs so++l))) w12∧NewW w12 0 O (.slice so O.length co)∧Off [R] w w12 from ⟨Jnd.start _,⟨rfl,.inl ⟨rfl,rfl⟩⟩,M,N_O,OF⟩); clear M N_O OF; go_wp2
        go_loopw [12] (fun i w'=>∃ (i':Nat) (J:Rgs17) (sj:Option Addr) (cj:Nat),i'≤O.length∧i=.int .i64 (i':Int)∧Jnd O i' J∧w'.ownsRow w.heap.size 34 2 (.slice sj J.length cj) J.length (wrc J)∧Mm w0 ((R,[.slice sj J.length cj])::(obs sj++(obs so++l))) w'∧NewW w' 0 O (.slice so O.length co)∧Off [R] w w') (fun i _=>O.length-(intOf i).toNat)
        case atStart=>exact ⟨0,[],none,0,Nat.zero_le _,rfl,HI.out⟩
        case round =>
         clear HI
         obtain ⟨i,J,sj,cj,hi,rfl,I2,V_,M,N_O,OF⟩:=hrel
         have hJl:=I2.len
         by_cases hil:i<O.length
         · obtain ⟨pr,hpr⟩:∃ pr,O[i]?=some pr:=⟨_,List.getElem?_eq_getElem hil⟩
           obtain ⟨ado,hado,_,_⟩:=NewW.at N_O hpr
           subst hado
           rcases List.eq_nil_or_concat J with rfl | ⟨J',q,hJ⟩
           · replace M:Mm w0 ((R,[.slice sj (([]:Rgs17).length) cj])::((obs sj)++((obs (some ado))++l))) wr:=M
             go_upto_region 19 with fail; refine wp_region_list ?_; refine xpL (.int .i64 (i:Int)) ?_; refine xpL (.slice (some ado) O.length co) ?_; refine xaL (.int .i64 ((O.length:Nat):Int)) (lenS _ 27 34 (some ado) O.length co rfl Try.underlying27 rfl _) ?_; refine xaL (.bool true) (lssI .i64 _ _ _ _ _ _ rfl rfl rfl true (decide_eq_true (by omega)) _) ?_; refine xT ?_
             go_upto_region 21 with fail; refine wp_region_list ?_; refine xpL (.pointer (some ⟨R,0,none⟩)) ?_; refine xpL (.pointer (some ⟨R,0,none⟩)) ?_; refine xpL (.pointer (some ⟨R,0,none⟩)) ?_; refine xaL (.slice sj (([]:Rgs17).length) cj) (load1 27 _ ⟨R,0,none⟩ _ rfl rfl (fun _=>by kernel_rfl) (M.get mS 0 _ rfl)) ?_
             refine readL (.int .i64 ((([]:Rgs17).length:Nat):Int)) rfl (lenS _ 27 34 sj (([]:Rgs17).length) cj rfl Try.underlying27 rfl _) ?_; simp only [aP,lI,l0,lS]; refine xaL (.int .i64 (-1)) (subI .i64 _ _ _ _ _ _ _ rfl rfl rfl (by kernel_rfl) _) ?_; refine xpL (.int .i64 (-1)) ?_; refine xT ?_; go_upto_region 22 with fail; have hdr:=(Below.refl wr.heap.size wr).drew
             replace M:=M.drew; replace V_:=ownsRow_bel V_ hdr; replace N_O:=NewW.below N_O hdr; replace OF:=OF.below hdr; clear hdr; refine wp_region_held_drew (S:=fun w'=>w'.cell? ⟨R,0,none⟩=some (.slice sj ([]:Rgs17).length cj)∧NewW w' 0 O (.slice (some ado) O.length co)∧True) (by kernel_rfl) ⟨M.get mS 0 _ rfl,N_O,trivial⟩ ?_; intro _
             generalize wr.drew=w13 at M V_ N_O OF ⊢; refine xrH 0 85 rfl (.int .i64 (-1)) (fun _ hS=>(by kernel_rfl)) ⟨M.get mS 0 _ rfl,N_O,trivial⟩ ?_; refine xrH 1 86 rfl (.bool false) (fun _ hS=>geqI .i64 _ _ _ _ _ _ rfl rfl rfl false (by decide) _) ⟨M.get mS 0 _ rfl,N_O,trivial⟩ ?_; refine xrH 2 87 rfl (.bool false) (fun _ hS=>(by kernel_rfl)) ⟨M.get mS 0 _ rfl,N_O,trivial⟩ ?_
             refine mayH (i:=3) (some 88) rfl false undef undef rfl rfl rfl (fun hc=>by cases hc) (by kernel_rfl) (by kernel_rfl) (by kernel_rfl) (fun _ _ _ h=>h) ⟨M.get mS 0 _ rfl,N_O,trivial⟩ ?_; simp only [aP,lI,l0,lS]
             refine mayH (i:=4) (some 89) rfl false undef undef rfl rfl rfl (fun hc=>by cases hc) (by kernel_rfl) (by kernel_rfl) (by kernel_rfl) (fun _ _ _ h=>h) ⟨M.get mS 0 _ rfl,N_O,trivial⟩ ?_; simp only [aP,lI,l0,lS]
             refine mayH (i:=5) (some 90) rfl false undef undef rfl rfl rfl (fun hc=>by cases hc) (by kernel_rfl) (by kernel_rfl) (by kernel_rfl) (fun _ _ _ h=>h) ⟨M.get mS 0 _ rfl,N_O,trivial⟩ ?_; simp only [aP,lI,l0,lS]
             refine mayH (i:=6) (some 91) rfl false undef undef rfl rfl rfl (fun hc=>by cases hc) (by kernel_rfl) (by kernel_rfl) (by kernel_rfl) (fun _ _ _ h=>h) ⟨M.get mS 0 _ rfl,N_O,trivial⟩ ?_; simp only [aP,lI,l0,lS]
             refine mayH (i:=7) (some 92) rfl false undef undef rfl rfl rfl (fun hc=>by cases hc) (by kernel_rfl) (by kernel_rfl) (by kernel_rfl) (fun _ _ _ h=>h) ⟨M.get mS 0 _ rfl,N_O,trivial⟩ ?_; simp only [aP,lI,l0,lS]
             refine mayH (i:=8) (some 93) rfl false undef undef rfl rfl rfl (fun hc=>by cases hc) (by kernel_rfl) (by kernel_rfl) (by kernel_rfl) (fun _ _ _ h=>h) ⟨M.get mS 0 _ rfl,N_O,trivial⟩ ?_; simp only [aP,lI,l0,lS]
             refine mayH (i:=9) (some 94) rfl false undef undef rfl rfl rfl (fun hc=>by cases hc) (by kernel_rfl) (by kernel_rfl) (by kernel_rfl) (fun _ _ _ h=>h) ⟨M.get mS 0 _ rfl,N_O,trivial⟩ ?_; simp only [aP,lI,l0,lS]
             refine mayH (i:=10) (some 95) rfl false undef undef rfl rfl rfl (fun hc=>by cases hc) (by kernel_rfl) (by kernel_rfl) (by kernel_rfl) (fun _ _ _ h=>h) ⟨M.get mS 0 _ rfl,N_O,trivial⟩ ?_; simp only [aP,lI,l0,lS]
             refine mayH (i:=11) (some 96) rfl false undef undef rfl rfl rfl (fun hc=>by cases hc) (by kernel_rfl) (by kernel_rfl) (by kernel_rfl) (fun _ _ _ h=>h) ⟨M.get mS 0 _ rfl,N_O,trivial⟩ ?_; simp only [aP,lI,l0,lS]
             refine mayH (i:=12) (some 97) rfl false undef undef rfl rfl rfl (fun hc=>by cases hc) (by kernel_rfl) (by kernel_rfl) (by kernel_rfl) (fun _ _ _ h=>h) ⟨M.get mS 0 _ rfl,N_O,trivial⟩ ?_; simp only [aP,lI,l0,lS]
             refine mayH (i:=13) (some 98) rfl false undef undef rfl rfl rfl (fun hc=>by cases hc) (by kernel_rfl) (by kernel_rfl) (by kernel_rfl) (fun _ _ _ h=>h) ⟨M.get mS 0 _ rfl,N_O,trivial⟩ ?_; simp only [aP,lI,l0,lS]
             refine mayH (i:=14) (some 99) rfl false undef undef rfl rfl rfl (fun hc=>by cases hc) (by kernel_rfl) (by kernel_rfl) (by kernel_rfl) (fun _ _ _ h=>h) ⟨M.get mS 0 _ rfl,N_O,trivial⟩ ?_; simp only [aP,lI,l0,lS]
             refine mayH (i:=15) (some 100) rfl false undef undef rfl rfl rfl (fun hc=>by cases hc) (by kernel_rfl) (by kernel_rfl) (by kernel_rfl) (fun _ _ _ h=>h) ⟨M.get mS 0 _ rfl,N_O,trivial⟩ ?_; simp only [aP,lI,l0,lS]
             refine mayH (i:=16) (some 101) rfl false undef undef rfl rfl rfl (fun hc=>by cases hc) (by kernel_rfl) (by kernel_rfl) (by kernel_rfl) (fun _ _ _ h=>h) ⟨M.get mS 0 _ rfl,N_O,trivial⟩ ?_; simp only [aP,lI,l0,lS]; refine xrH 17 102 rfl (.bool false) (fun _ hS=>(by kernel_rfl)) ⟨M.get mS 0 _ rfl,N_O,trivial⟩ ?_
             refine wpAnyH_done (by kernel_rfl) ?_ _
             first | show Exit.then _ _ _ _ _ | show Exit.inBlock _ _ _ _ _
             go_upto_region 24 with fail; have hdr:=(Below.refl w13.heap.size w13).drew; replace M:=M.drew; replace V_:=ownsRow_bel V_ hdr; replace N_O:=NewW.below N_O hdr; replace OF:=OF.below hdr; clear hdr
             refine wp_region_C (S:=fun w'=>w'.cell? ⟨R,0,none⟩=some (.slice sj ([]:Rgs17).length cj)∧NewW w' 0 O (.slice (some ado) O.length co)∧True) 13 (by kernel_rfl) ⟨M.get mS 0 _ rfl,N_O,trivial⟩ ?_; intro _; generalize w13.drew=w14 at M V_ N_O OF ⊢
             refine readC (i:=0) (some 115) rfl (.pointer (some ⟨R,0,none⟩)) rfl rfl (by kernel_rfl) rfl (fun _ hS=>(by kernel_rfl)) (by kernel_rfl) (by kernel_rfl) (by kernel_rfl) (by kernel_rfl) (fun _ _ _ h=>h) ⟨M.get mS 0 _ rfl,N_O,trivial⟩ ?_; simp only [aP,lI,l0,lS]
             refine readC (i:=1) (some 116) rfl (.pointer (some ⟨R,0,none⟩)) rfl rfl (by kernel_rfl) rfl (fun _ hS=>(by kernel_rfl)) (by kernel_rfl) (by kernel_rfl) (by kernel_rfl) (by kernel_rfl) (fun _ _ _ h=>h) ⟨M.get mS 0 _ rfl,N_O,trivial⟩ ?_; simp only [aP,lI,l0,lS]
             refine readC (i:=2) (some 117) rfl (.pointer (some ⟨R,0,none⟩)) rfl rfl (by kernel_rfl) rfl (fun _ hS=>(by kernel_rfl)) (by kernel_rfl) (by kernel_rfl) (by kernel_rfl) (by kernel_rfl) (fun _ _ _ h=>h) ⟨M.get mS 0 _ rfl,N_O,trivial⟩ ?_; simp only [aP,lI,l0,lS]
             refine readC (i:=3) (some 118) rfl (.pointer (some ⟨R,0,none⟩)) rfl rfl (by kernel_rfl) rfl (fun _ hS=>(by kernel_rfl)) (by kernel_rfl) (by kernel_rfl) (by kernel_rfl) (by kernel_rfl) (fun _ _ _ h=>h) ⟨M.get mS 0 _ rfl,N_O,trivial⟩ ?_; simp only [aP,lI,l0,lS]
             refine readC (i:=4) (some 119) rfl (.slice sj (([]:Rgs17).length) cj) rfl rfl (by kernel_rfl) rfl (fun _ hS=>load1 27 _ ⟨R,0,none⟩ _ rfl rfl (fun _=>by kernel_rfl) hS.1) (by kernel_rfl) (by kernel_rfl) (by kernel_rfl) (by kernel_rfl) (fun _ _ _ h=>h) ⟨M.get mS 0 _ rfl,N_O,trivial⟩ ?_; simp only [aP,lI,l0,lS]
             refine readC (i:=5) (some 120) rfl (.slice (some ado) O.length co) rfl rfl (by kernel_rfl) rfl (fun _ hS=>(by kernel_rfl)) (by kernel_rfl) (by kernel_rfl) (by kernel_rfl) (by kernel_rfl) (fun _ _ _ h=>h) ⟨M.get mS 0 _ rfl,N_O,trivial⟩ ?_; simp only [aP,lI,l0,lS]
             refine readC (i:=6) (some 121) rfl (.int .i64 (i:Int)) rfl rfl (by kernel_rfl) rfl (fun _ hS=>(by kernel_rfl)) (by kernel_rfl) (by kernel_rfl) (by kernel_rfl) (by kernel_rfl) (fun _ _ _ h=>h) ⟨M.get mS 0 _ rfl,N_O,trivial⟩ ?_; simp only [aP,lI,l0,lS]
             refine readC (i:=7) (some 122) rfl (.pointer (some (ado.add (i*2)))) rfl rfl (by kernel_rfl) rfl (fun _ hS=>idxR2 ado _ _ i hil _ _ rfl rfl rfl _) (by kernel_rfl) (by kernel_rfl) (by kernel_rfl) (by kernel_rfl) (fun _ _ _ h=>h) ⟨M.get mS 0 _ rfl,N_O,trivial⟩ ?_; simp only [aP,lI,l0,lS]
             refine readC (i:=8) (some 123) rfl (.agg #[.int .i64 pr.1,.int .i64 pr.2]) rfl rfl (by kernel_rfl) rfl (fun _ hS=>loadN 34 _ (ado.add (i*2)) [.int .i64 pr.1,.int .i64 pr.2] rfl rfl (fun _=>by kernel_rfl) (fun _=>by kernel_rfl) (NewW.rng hS.2.1 hpr)) (by kernel_rfl) (by kernel_rfl) (by kernel_rfl) (by kernel_rfl) (fun _ _ _ h=>h) ⟨M.get mS 0 _ rfl,N_O,trivial⟩ ?_
             simp only [aP,lI,l0,lS]; have S_1:=World.ownsRow.cells (World.ownsRow_lit (base:=w14.heap.size) (e:=34) (size:=2) w14 #[.int .i64 pr.1,.int .i64 pr.2] 1 (xnR _) (by unfold maxLen; omega) rfl) (g:=w14.heap.size) rfl; have hlb:=(Below.refl w14.heap.size w14).alloc (xnR _) (.cells #[.int .i64 pr.1,.int .i64 pr.2] 34); replace V_:=ownsRow_bel V_ hlb
             replace N_O:=NewW.below N_O hlb; replace OF:=OF.below hlb; replace M:=M.call hlb; clear hlb; refine onlyC (i:=9) (w':=w14.alloc (.cells #[.int .i64 pr.1,.int .i64 pr.2] 34)) (some 124) rfl (.slice (some ⟨w14.heap.size,0,none⟩) 1 1) (by kernel_rfl) rfl rfl (by kernel_rfl) ⟨M.get mS 0 _ rfl,N_O,trivial⟩ ?_; simp only [aP,lI,l0,lS]
             generalize w14.alloc (.cells #[.int .i64 pr.1,.int .i64 pr.2] 34)=w15 at M S_1 V_ N_O OF ⊢; generalize w14.heap.size=bz at S_1 ⊢
             obtain ⟨v2,w16,hr,V2,hgr,hg2⟩:=run_append_OwnV (P:=Try.prog) (ty:=27) Try.underlying27 manyW rfl (by decide) V_ ⟨bz,0,none⟩ 1 1 [.int .i64 pr.1,.int .i64 pr.2] rfl S_1 (wrc_one [(pr.1,pr.2)]) (by unfold maxLen; (try simp only [List.length_nil]); omega) (by (try simp only [List.length_nil]); omega) OF.size
             have Mp:=M.perm (pull0 ([(R,[.slice sj (([]:Rgs17).length) cj])]:List (Nat × List Value)) (obs sj) ((obs (some ado))++l)); have ho:=Off.grown (Off.refl (ob sj) w15) hgr (fun b_ hb_=>.inl ((ob_own _ _ _ b_).1 hb_)); replace N_O:=NewW.offB N_O ho (Mp.awayO (fun p_ hp_=>by simp [hp_])); replace OF:=OF.grown hgr (fun b_ hb_=>.inr (World.ownsRow.lt V_ b_ hb_).1)
             obtain ⟨sv16,cv16,rfl,_,_⟩:=row_form16 V2
             have M':=Mp.rowApp V_ hgr V2 hg2 hb0.size
             have M:=M'.perm (pull0 ([(R,[.slice sj (([]:Rgs17).length) cj])]:List (Nat × List Value)) (obs sv16) ((obs (some ado))++l)).symm; refine onlyC (i:=10) (some 125) rfl (_) (by kernel_rfl) rfl rfl (appendOp _ _ 27 _ _ _ rfl rfl rfl hr) ⟨M.get mS 0 _ rfl,N_O,trivial⟩ ?_; simp only [aP,lI,l0,lS]
             rw [show ([]:Rgs17).length+1=(([]:Rgs17)++[(pr.1,pr.2)]).length from len_snoc ([]:Rgs17) (pr.1,pr.2)] at V2 ⊢
             replace V2:w16.ownsRow w.heap.size 34 2 (.slice sv16 (([]:Rgs17)++[(pr.1,pr.2)]).length cv16) (([]:Rgs17)++[(pr.1,pr.2)]).length (wrc (([]:Rgs17)++[(pr.1,pr.2)])):=by rw [wrc_app]; exact V2
             clear hr hgr hg2 ho V_ S_1 Mp M; have V_:=V2; clear V2
             have M:Mm w0 ((R,[.slice sj (([]:Rgs17).length) cj])::((obs sv16)++((obs (some ado))++l))) w16:=M'.perm (pull0 ([(R,[.slice sj (([]:Rgs17).length) cj])]:List (Nat × List Value)) (obs sv16) ((obs (some ado))++l)).symm
             clear M'; refine xqC 11 126 rfl (.pointer (some ⟨R,0,none⟩)) (fun _=>(by kernel_rfl)) ⟨M.get mS 0 _ rfl,N_O,trivial⟩ ?_; refine readC (i:=12) (some 127) rfl (.pointer (some ⟨R,0,none⟩)) rfl rfl (by kernel_rfl) rfl (fun _ hS=>(by kernel_rfl)) (by kernel_rfl) (by kernel_rfl) (by kernel_rfl) (by kernel_rfl) (fun _ _ _ h=>h) ⟨M.get mS 0 _ rfl,N_O,trivial⟩ ?_
             simp only [aP,lI,l0,lS]; refine skipC (S2:=fun _=>True) none rfl (by kernel_rfl) rfl rfl (storeAny (.slice sv16 ((([]:Rgs17)++[(pr.1,pr.2)]).length) cv16) R 0 27 _ _ rfl rfl rfl rfl rfl (M.isSome mS 0 (by simp)) (M.free mS 0 (by simp)) (by kernel_rfl)) (by kernel_rfl) ?_; simp only [Act.put]
             replace M:=M.set 0 (by simp) (.slice sv16 ((([]:Rgs17)++[(pr.1,pr.2)]).length) cv16); replace V_:=ownsRow_away V_ ((Off.refl [R] _).set (b:=R) mS 0 (.slice sv16 ((([]:Rgs17)++[(pr.1,pr.2)]).length) cv16)) (fun b_ hb_=>by obtain rfl:=xm1 hb_; exact M.awayB (fun p_ hp_=>by simp [hp_]))
             replace N_O:=NewW.offB N_O ((Off.refl [R] _).set (b:=R) mS 0 (.slice sv16 ((([]:Rgs17)++[(pr.1,pr.2)]).length) cv16)) (fun b_ hb_=>by obtain rfl:=xm1 hb_; exact M.awayB (fun p_ hp_=>by simp [hp_])); replace OF:=OF.trans ((Off.refl [R] _).set (b:=R) mS 0 (.slice sv16 ((([]:Rgs17)++[(pr.1,pr.2)]).length) cv16))
             generalize w16.setCell ⟨R,0,none⟩ (.slice sv16 ((([]:Rgs17)++[(pr.1,pr.2)]).length) cv16)=w17 at M V_ N_O OF ⊢
             replace M:Mm w0 ((R,[.slice sv16 ((([]:Rgs17)++[(pr.1,pr.2)]).length) cv16])::((obs sv16)++((obs (some ado))++l))) w17:=M
             refine wpAnyH_done (by kernel_rfl) ?_ _
             first | show Exit.then _ _ _ _ _ | show Exit.inBlock _ _ _ _ _
             have HS:=show Hid _ from (show Jnd O (i+1) (([]:Rgs17)++[(pr.1,pr.2)])∧w17.ownsRow w.heap.size 34 2 (.slice sv16 (([]:Rgs17)++[(pr.1,pr.2)]).length cv16) (([]:Rgs17)++[(pr.1,pr.2)]).length (wrc (([]:Rgs17)++[(pr.1,pr.2)]))∧Mm w0 ((R,[.slice sv16 (([]:Rgs17)++[(pr.1,pr.2)]).length cv16])::(obs sv16++(obs (some ado)++l))) w17∧NewW w17 0 O (.slice (some ado) O.length co)∧Off [R] w w17 from ⟨I2.more hwk hpr (fun q_ hq_=>by cases hq_),V_,M,N_O,OF⟩)
             clear M V_ N_O OF I2; go_wp2
             go_roundw
             case rel=>exact ⟨i+1,_,_,_,by omega,by go_num,HS.out⟩
             case measure=>simp [intOf]; omega
           · rw [List.concat_eq_append] at hJ
             subst hJ
             have hjl:(J'++[q]).length=J'.length+1:=by rw [List.length_append,List.length_singleton]
             obtain ⟨g,hg⟩:=row_some16 V_ (by omega)
             subst hg
             replace M:Mm w0 ((R,[.slice (some ⟨g,0,none⟩) ((J'++[q]).length) cj])::((obs (some ⟨g,0,none⟩))++((obs (some ado))++l))) wr:=M
             have hjq:(J'++[q])[J'.length]?=some q:=by rw [List.getElem?_append_right (xnR _),Nat.sub_self]; rfl
             have hjk:J'.length<(J'++[q]).length:=by omega
             go_upto_region 19 with fail; refine wp_region_list ?_; refine xpL (.int .i64 (i:Int)) ?_; refine xpL (.slice (some ado) O.length co) ?_; refine xaL (.int .i64 ((O.length:Nat):Int)) (lenS _ 27 34 (some ado) O.length co rfl Try.underlying27 rfl _) ?_; refine xaL (.bool true) (lssI .i64 _ _ _ _ _ _ rfl rfl rfl true (decide_eq_true (by omega)) _) ?_; refine xT ?_
             go_upto_region 21 with fail; refine wp_region_list ?_; refine xpL (.pointer (some ⟨R,0,none⟩)) ?_; refine xpL (.pointer (some ⟨R,0,none⟩)) ?_; refine xpL (.pointer (some ⟨R,0,none⟩)) ?_; refine xaL (.slice (some ⟨g,0,none⟩) ((J'++[q]).length) cj) (load1 27 _ ⟨R,0,none⟩ _ rfl rfl (fun _=>by kernel_rfl) (M.get mS 0 _ rfl)) ?_
             refine readL (.int .i64 (((J'++[q]).length:Nat):Int)) rfl (lenS _ 27 34 (some ⟨g,0,none⟩) ((J'++[q]).length) cj rfl Try.underlying27 rfl _) ?_; simp only [aP,lI,l0,lS]; refine xaL (.int .i64 ((J'.length:Nat):Int)) (subI .i64 _ _ _ _ _ _ _ rfl rfl rfl (by rw [xw6,hjl]; omega) _) ?_; refine xpL (.int .i64 ((J'.length:Nat):Int)) ?_; refine xT ?_
             by_cases he:q.2=pr.1
             · go_upto_region 22 with fail
               have hdr:=(Below.refl wr.heap.size wr).drew; replace M:=M.drew; replace V_:=ownsRow_bel V_ hdr; replace N_O:=NewW.below N_O hdr; replace OF:=OF.below hdr; clear hdr
               refine wp_region_held_drew (S:=fun w'=>w'.cell? ⟨R,0,none⟩=some (.slice (some ⟨g,0,none⟩) (J'++[q]).length cj)∧NewW w' 0 O (.slice (some ado) O.length co)∧NewW w' 0 (J'++[q]) (.slice (some ⟨g,0,none⟩) (J'++[q]).length cj)) (by kernel_rfl) ⟨M.get mS 0 _ rfl,N_O,(NewW.ofOwn V_).zero⟩ ?_; intro _; generalize wr.drew=w18 at M V_ N_O OF ⊢
               refine xrH 0 85 rfl (.int .i64 ((J'.length:Nat):Int)) (fun _ hS=>(by kernel_rfl)) ⟨M.get mS 0 _ rfl,N_O,(NewW.ofOwn V_).zero⟩ ?_; refine xrH 1 86 rfl (.bool true) (fun _ hS=>geqI .i64 _ _ _ _ _ _ rfl rfl rfl true (decide_eq_true (by omega)) _) ⟨M.get mS 0 _ rfl,N_O,(NewW.ofOwn V_).zero⟩ ?_
               refine xrH 2 87 rfl (.bool true) (fun _ hS=>(by kernel_rfl)) ⟨M.get mS 0 _ rfl,N_O,(NewW.ofOwn V_).zero⟩ ?_; refine xrH 3 88 rfl (.pointer (some ⟨R,0,none⟩)) (fun _ hS=>(by kernel_rfl)) ⟨M.get mS 0 _ rfl,N_O,(NewW.ofOwn V_).zero⟩ ?_; refine xrH 4 89 rfl (.pointer (some ⟨R,0,none⟩)) (fun _ hS=>(by kernel_rfl)) ⟨M.get mS 0 _ rfl,N_O,(NewW.ofOwn V_).zero⟩ ?_
               refine xrH 5 90 rfl (.pointer (some ⟨R,0,none⟩)) (fun _ hS=>(by kernel_rfl)) ⟨M.get mS 0 _ rfl,N_O,(NewW.ofOwn V_).zero⟩ ?_; refine xrH 6 91 rfl (.slice (some ⟨g,0,none⟩) ((J'++[q]).length) cj) (fun _ hS=>load1 27 _ ⟨R,0,none⟩ _ rfl rfl (fun _=>by kernel_rfl) hS.1) ⟨M.get mS 0 _ rfl,N_O,(NewW.ofOwn V_).zero⟩ ?_
               refine xrH 7 92 rfl (.int .i64 ((J'.length:Nat):Int)) (fun _ hS=>(by kernel_rfl)) ⟨M.get mS 0 _ rfl,N_O,(NewW.ofOwn V_).zero⟩ ?_; refine xrH 8 93 rfl (.pointer (some ((⟨g,0,none⟩:Addr).add (J'.length*2)))) (fun _ hS=>idxR2 (⟨g,0,none⟩:Addr) _ _ J'.length hjk _ _ rfl rfl rfl _) ⟨M.get mS 0 _ rfl,N_O,(NewW.ofOwn V_).zero⟩ ?_
               refine xrH 9 94 rfl (.pointer (some (((⟨g,0,none⟩:Addr).add (J'.length*2)).add 1))) (fun _ hS=>(by kernel_rfl)) ⟨M.get mS 0 _ rfl,N_O,(NewW.ofOwn V_).zero⟩ ?_
               refine xrH 10 95 rfl (.int .i64 q.2) (fun _ hS=>load1 3 _ (((⟨g,0,none⟩:Addr).add (J'.length*2)).add 1) _ rfl rfl (fun _=>by kernel_rfl) (NewW.rng hS.2.2 hjq 1 _ rfl)) ⟨M.get mS 0 _ rfl,N_O,(NewW.ofOwn V_).zero⟩ ?_; refine xrH 11 96 rfl (.slice (some ado) O.length co) (fun _ hS=>(by kernel_rfl)) ⟨M.get mS 0 _ rfl,N_O,(NewW.ofOwn V_).zero⟩ ?_
               refine xrH 12 97 rfl (.int .i64 (i:Int)) (fun _ hS=>(by kernel_rfl)) ⟨M.get mS 0 _ rfl,N_O,(NewW.ofOwn V_).zero⟩ ?_; refine xrH 13 98 rfl (.pointer (some (ado.add (i*2)))) (fun _ hS=>idxR2 ado _ _ i hil _ _ rfl rfl rfl _) ⟨M.get mS 0 _ rfl,N_O,(NewW.ofOwn V_).zero⟩ ?_
               refine xrH 14 99 rfl (.pointer (some ((ado.add (i*2)).add 0))) (fun _ hS=>(by kernel_rfl)) ⟨M.get mS 0 _ rfl,N_O,(NewW.ofOwn V_).zero⟩ ?_; refine xrH 15 100 rfl (.int .i64 pr.1) (fun _ hS=>load1 3 _ ((ado.add (i*2)).add 0) _ rfl rfl (fun _=>by kernel_rfl) (NewW.rng hS.2.1 hpr 0 _ rfl)) ⟨M.get mS 0 _ rfl,N_O,(NewW.ofOwn V_).zero⟩ ?_
               refine xrH 16 101 rfl (.bool true) (fun _ hS=>eqlI .i64 _ _ _ _ _ _ rfl rfl rfl true (by rw [he]; exact beq_self_eq_true _) _) ⟨M.get mS 0 _ rfl,N_O,(NewW.ofOwn V_).zero⟩ ?_; refine xrH 17 102 rfl (.bool true) (fun _ hS=>(by kernel_rfl)) ⟨M.get mS 0 _ rfl,N_O,(NewW.ofOwn V_).zero⟩ ?_
               refine wpAnyH_done (by kernel_rfl) ?_ _
               first | show Exit.then _ _ _ _ _ | show Exit.inBlock _ _ _ _ _
               go_upto_region 23 with fail; have hdr:=(Below.refl w18.heap.size w18).drew; replace M:=M.drew; replace V_:=ownsRow_bel V_ hdr; replace N_O:=NewW.below N_O hdr; replace OF:=OF.below hdr; clear hdr
               refine wp_region_C (S:=fun w'=>w'.cell? ⟨R,0,none⟩=some (.slice (some ⟨g,0,none⟩) (J'++[q]).length cj)∧NewW w' 0 O (.slice (some ado) O.length co)∧NewW w' 0 (J'++[q]) (.slice (some ⟨g,0,none⟩) (J'++[q]).length cj)) 12 (by kernel_rfl) ⟨M.get mS 0 _ rfl,N_O,(NewW.ofOwn V_).zero⟩ ?_; intro _; generalize w18.drew=w19 at M V_ N_O OF ⊢
               refine readC (i:=0) (some 103) rfl (.pointer (some ⟨R,0,none⟩)) rfl rfl (by kernel_rfl) rfl (fun _ hS=>(by kernel_rfl)) (by kernel_rfl) (by kernel_rfl) (by kernel_rfl) (by kernel_rfl) (fun _ _ _ h=>h) ⟨M.get mS 0 _ rfl,N_O,(NewW.ofOwn V_).zero⟩ ?_; simp only [aP,lI,l0,lS]
               refine readC (i:=1) (some 104) rfl (.pointer (some ⟨R,0,none⟩)) rfl rfl (by kernel_rfl) rfl (fun _ hS=>(by kernel_rfl)) (by kernel_rfl) (by kernel_rfl) (by kernel_rfl) (by kernel_rfl) (fun _ _ _ h=>h) ⟨M.get mS 0 _ rfl,N_O,(NewW.ofOwn V_).zero⟩ ?_; simp only [aP,lI,l0,lS]
               refine readC (i:=2) (some 105) rfl (.pointer (some ⟨R,0,none⟩)) rfl rfl (by kernel_rfl) rfl (fun _ hS=>(by kernel_rfl)) (by kernel_rfl) (by kernel_rfl) (by kernel_rfl) (by kernel_rfl) (fun _ _ _ h=>h) ⟨M.get mS 0 _ rfl,N_O,(NewW.ofOwn V_).zero⟩ ?_; simp only [aP,lI,l0,lS]
               refine readC (i:=3) (some 106) rfl (.slice (some ⟨g,0,none⟩) ((J'++[q]).length) cj) rfl rfl (by kernel_rfl) rfl (fun _ hS=>load1 27 _ ⟨R,0,none⟩ _ rfl rfl (fun _=>by kernel_rfl) hS.1) (by kernel_rfl) (by kernel_rfl) (by kernel_rfl) (by kernel_rfl) (fun _ _ _ h=>h) ⟨M.get mS 0 _ rfl,N_O,(NewW.ofOwn V_).zero⟩ ?_; simp only [aP,lI,l0,lS]
               refine readC (i:=4) (some 107) rfl (.int .i64 ((J'.length:Nat):Int)) rfl rfl (by kernel_rfl) rfl (fun _ hS=>(by kernel_rfl)) (by kernel_rfl) (by kernel_rfl) (by kernel_rfl) (by kernel_rfl) (fun _ _ _ h=>h) ⟨M.get mS 0 _ rfl,N_O,(NewW.ofOwn V_).zero⟩ ?_; simp only [aP,lI,l0,lS]
               refine readC (i:=5) (some 108) rfl (.slice (some ado) O.length co) rfl rfl (by kernel_rfl) rfl (fun _ hS=>(by kernel_rfl)) (by kernel_rfl) (by kernel_rfl) (by kernel_rfl) (by kernel_rfl) (fun _ _ _ h=>h) ⟨M.get mS 0 _ rfl,N_O,(NewW.ofOwn V_).zero⟩ ?_; simp only [aP,lI,l0,lS]
               refine readC (i:=6) (some 109) rfl (.int .i64 (i:Int)) rfl rfl (by kernel_rfl) rfl (fun _ hS=>(by kernel_rfl)) (by kernel_rfl) (by kernel_rfl) (by kernel_rfl) (by kernel_rfl) (fun _ _ _ h=>h) ⟨M.get mS 0 _ rfl,N_O,(NewW.ofOwn V_).zero⟩ ?_; simp only [aP,lI,l0,lS]
               refine readC (i:=7) (some 110) rfl (.pointer (some (ado.add (i*2)))) rfl rfl (by kernel_rfl) rfl (fun _ hS=>idxR2 ado _ _ i hil _ _ rfl rfl rfl _) (by kernel_rfl) (by kernel_rfl) (by kernel_rfl) (by kernel_rfl) (fun _ _ _ h=>h) ⟨M.get mS 0 _ rfl,N_O,(NewW.ofOwn V_).zero⟩ ?_; simp only [aP,lI,l0,lS]
               refine readC (i:=8) (some 111) rfl (.pointer (some ((ado.add (i*2)).add 1))) rfl rfl (by kernel_rfl) rfl (fun _ hS=>(by kernel_rfl)) (by kernel_rfl) (by kernel_rfl) (by kernel_rfl) (by kernel_rfl) (fun _ _ _ h=>h) ⟨M.get mS 0 _ rfl,N_O,(NewW.ofOwn V_).zero⟩ ?_; simp only [aP,lI,l0,lS]
               refine readC (i:=9) (some 112) rfl (.int .i64 pr.2) rfl rfl (by kernel_rfl) rfl (fun _ hS=>load1 3 _ ((ado.add (i*2)).add 1) _ rfl rfl (fun _=>by kernel_rfl) (NewW.rng hS.2.1 hpr 1 _ rfl)) (by kernel_rfl) (by kernel_rfl) (by kernel_rfl) (by kernel_rfl) (fun _ _ _ h=>h) ⟨M.get mS 0 _ rfl,N_O,(NewW.ofOwn V_).zero⟩ ?_; simp only [aP,lI,l0,lS]
               refine xqC 10 113 rfl (.pointer (some ⟨g,J'.length*2,none⟩)) (fun _=>idxR3 g _ _ J'.length hjk _ _ rfl rfl rfl _) ⟨M.get mS 0 _ rfl,N_O,(NewW.ofOwn V_).zero⟩ ?_
               refine readC (i:=11) (some 114) rfl (.pointer (some ⟨g,J'.length*2+1,none⟩)) rfl rfl (by kernel_rfl) rfl (fun _ hS=>(by kernel_rfl)) (by kernel_rfl) (by kernel_rfl) (by kernel_rfl) (by kernel_rfl) (fun _ _ _ h=>h) ⟨M.get mS 0 _ rfl,N_O,(NewW.ofOwn V_).zero⟩ ?_; simp only [aP,lI,l0,lS]
               have Mp:Mm w0 ((g,[])::(([(R,[.slice (some ⟨g,0,none⟩) ((J'++[q]).length) cj])]:List (Nat × List Value))++((obs (some ado))++l))) w19:=M.perm (pull0 ([(R,[.slice (some ⟨g,0,none⟩) ((J'++[q]).length) cj])]:List (Nat × List Value)) (obs (some ⟨g,0,none⟩)) ((obs (some ado))++l))
               have hgl:=World.ownsRow.lt V_ g rfl; have M2:=Mp.tail.ofRow V_ (g:=g) rfl hb0.size (fun p_ hp_ e_=>(List.pairwise_cons.1 Mp.apart).1 p_ hp_ e_.symm)
               have hjc:J'.length*2+1<(wrc (J'++[q])).length:=by rw [wrc_len,List.length_append,List.length_singleton]; omega
               refine skipC (S2:=fun _=>True) none rfl (by kernel_rfl) rfl rfl (storeAny (.int .i64 pr.2) g (J'.length*2+1) 3 _ _ rfl rfl rfl rfl rfl (M2.isSome mS (J'.length*2+1) hjc) (M2.free mS (J'.length*2+1) hjc) (by kernel_rfl)) (by kernel_rfl) ?_; simp only [Act.put]; have ho:=(Off.refl [g] w19).set (b:=g) mS (J'.length*2+1) (.int .i64 pr.2)
               replace M2:=(M2.set (J'.length*2+1) hjc (.int .i64 pr.2)).untell; replace N_O:=NewW.offB N_O ho (fun b_ hb_=>Mp.awayO (so:=some ⟨g,0,none⟩) (fun p_ hp_=>by simp [hp_]) b_ hb_); replace OF:=OF.and1 ho (.inr hgl.1); replace V_:=ownsRow_put V_ (J'.length*2+1) (.int .i64 pr.2)
               rw [wrc_put] at V_
               clear M Mp ho hjc
               have M:Mm w0 ((R,[.slice (some ⟨g,0,none⟩) ((J'++[q]).length) cj])::((obs (some ⟨g,0,none⟩))++((obs (some ado))++l))) _:=M2.perm (pull0 ([(R,[.slice (some ⟨g,0,none⟩) ((J'++[q]).length) cj])]:List (Nat × List Value)) (obs (some ⟨g,0,none⟩)) ((obs (some ado))++l)).symm
               clear M2; generalize w19.setCell ⟨g,J'.length*2+1,none⟩ (.int .i64 pr.2)=w20 at M V_ N_O OF ⊢
               replace M:Mm w0 ((R,[.slice (some ⟨g,0,none⟩) ((J'++[q]).length) cj])::((obs (some ⟨g,0,none⟩))++((obs (some ado))++l))) w20:=M
               refine wpAnyH_done (by kernel_rfl) ?_ _
               first | show Exit.then _ _ _ _ _ | show Exit.inBlock _ _ _ _ _
               rw [show (J'++[q]).length=(J'++[(q.1,pr.2)]).length by simp] at M V_
               have HS:=show Hid _ from (show Jnd O (i+1) (J'++[(q.1,pr.2)])∧w20.ownsRow w.heap.size 34 2 (.slice (some ⟨g,0,none⟩) (J'++[(q.1,pr.2)]).length cj) (J'++[(q.1,pr.2)]).length (wrc (J'++[(q.1,pr.2)]))∧Mm w0 ((R,[.slice (some ⟨g,0,none⟩) (J'++[(q.1,pr.2)]).length cj])::(obs (some ⟨g,0,none⟩)++(obs (some ado)++l))) w20∧NewW w20 0 O (.slice (some ado) O.length co)∧Off [R] w w20 from ⟨I2.join hwk hpr he,V_,M,N_O,OF⟩)
               clear M V_ N_O OF I2 he; go_wp2
               go_roundw
               case rel=>exact ⟨i+1,_,_,_,by omega,by go_num,HS.out⟩
               case measure=>simp [intOf]; omega
             · go_upto_region 22 with fail
               have hdr:=(Below.refl wr.heap.size wr).drew; replace M:=M.drew; replace V_:=ownsRow_bel V_ hdr; replace N_O:=NewW.below N_O hdr; replace OF:=OF.below hdr; clear hdr
               refine wp_region_held_drew (S:=fun w'=>w'.cell? ⟨R,0,none⟩=some (.slice (some ⟨g,0,none⟩) (J'++[q]).length cj)∧NewW w' 0 O (.slice (some ado) O.length co)∧NewW w' 0 (J'++[q]) (.slice (some ⟨g,0,none⟩) (J'++[q]).length cj)) (by kernel_rfl) ⟨M.get mS 0 _ rfl,N_O,(NewW.ofOwn V_).zero⟩ ?_; intro _; generalize wr.drew=w21 at M V_ N_O OF ⊢
               refine xrH 0 85 rfl (.int .i64 ((J'.length:Nat):Int)) (fun _ hS=>(by kernel_rfl)) ⟨M.get mS 0 _ rfl,N_O,(NewW.ofOwn V_).zero⟩ ?_; refine xrH 1 86 rfl (.bool true) (fun _ hS=>geqI .i64 _ _ _ _ _ _ rfl rfl rfl true (decide_eq_true (by omega)) _) ⟨M.get mS 0 _ rfl,N_O,(NewW.ofOwn V_).zero⟩ ?_
               refine xrH 2 87 rfl (.bool true) (fun _ hS=>(by kernel_rfl)) ⟨M.get mS 0 _ rfl,N_O,(NewW.ofOwn V_).zero⟩ ?_; refine xrH 3 88 rfl (.pointer (some ⟨R,0,none⟩)) (fun _ hS=>(by kernel_rfl)) ⟨M.get mS 0 _ rfl,N_O,(NewW.ofOwn V_).zero⟩ ?_; refine xrH 4 89 rfl (.pointer (some ⟨R,0,none⟩)) (fun _ hS=>(by kernel_rfl)) ⟨M.get mS 0 _ rfl,N_O,(NewW.ofOwn V_).zero⟩ ?_
               refine xrH 5 90 rfl (.pointer (some ⟨R,0,none⟩)) (fun _ hS=>(by kernel_rfl)) ⟨M.get mS 0 _ rfl,N_O,(NewW.ofOwn V_).zero⟩ ?_; refine xrH 6 91 rfl (.slice (some ⟨g,0,none⟩) ((J'++[q]).length) cj) (fun _ hS=>load1 27 _ ⟨R,0,none⟩ _ rfl rfl (fun _=>by kernel_rfl) hS.1) ⟨M.get mS 0 _ rfl,N_O,(NewW.ofOwn V_).zero⟩ ?_
               refine xrH 7 92 rfl (.int .i64 ((J'.length:Nat):Int)) (fun _ hS=>(by kernel_rfl)) ⟨M.get mS 0 _ rfl,N_O,(NewW.ofOwn V_).zero⟩ ?_; refine xrH 8 93 rfl (.pointer (some ((⟨g,0,none⟩:Addr).add (J'.length*2)))) (fun _ hS=>idxR2 (⟨g,0,none⟩:Addr) _ _ J'.length hjk _ _ rfl rfl rfl _) ⟨M.get mS 0 _ rfl,N_O,(NewW.ofOwn V_).zero⟩ ?_
               refine xrH 9 94 rfl (.pointer (some (((⟨g,0,none⟩:Addr).add (J'.length*2)).add 1))) (fun _ hS=>(by kernel_rfl)) ⟨M.get mS 0 _ rfl,N_O,(NewW.ofOwn V_).zero⟩ ?_
               refine xrH 10 95 rfl (.int .i64 q.2) (fun _ hS=>load1 3 _ (((⟨g,0,none⟩:Addr).add (J'.length*2)).add 1) _ rfl rfl (fun _=>by kernel_rfl) (NewW.rng hS.2.2 hjq 1 _ rfl)) ⟨M.get mS 0 _ rfl,N_O,(NewW.ofOwn V_).zero⟩ ?_; refine xrH 11 96 rfl (.slice (some ado) O.length co) (fun _ hS=>(by kernel_rfl)) ⟨M.get mS 0 _ rfl,N_O,(NewW.ofOwn V_).zero⟩ ?_
               refine xrH 12 97 rfl (.int .i64 (i:Int)) (fun _ hS=>(by kernel_rfl)) ⟨M.get mS 0 _ rfl,N_O,(NewW.ofOwn V_).zero⟩ ?_; refine xrH 13 98 rfl (.pointer (some (ado.add (i*2)))) (fun _ hS=>idxR2 ado _ _ i hil _ _ rfl rfl rfl _) ⟨M.get mS 0 _ rfl,N_O,(NewW.ofOwn V_).zero⟩ ?_
               refine xrH 14 99 rfl (.pointer (some ((ado.add (i*2)).add 0))) (fun _ hS=>(by kernel_rfl)) ⟨M.get mS 0 _ rfl,N_O,(NewW.ofOwn V_).zero⟩ ?_; refine xrH 15 100 rfl (.int .i64 pr.1) (fun _ hS=>load1 3 _ ((ado.add (i*2)).add 0) _ rfl rfl (fun _=>by kernel_rfl) (NewW.rng hS.2.1 hpr 0 _ rfl)) ⟨M.get mS 0 _ rfl,N_O,(NewW.ofOwn V_).zero⟩ ?_
               refine xrH 16 101 rfl (.bool false) (fun _ hS=>eqlI .i64 _ _ _ _ _ _ rfl rfl rfl false (by rw [beq_eq_false_iff_ne]; exact he) _) ⟨M.get mS 0 _ rfl,N_O,(NewW.ofOwn V_).zero⟩ ?_; refine xrH 17 102 rfl (.bool false) (fun _ hS=>(by kernel_rfl)) ⟨M.get mS 0 _ rfl,N_O,(NewW.ofOwn V_).zero⟩ ?_
               refine wpAnyH_done (by kernel_rfl) ?_ _
               first | show Exit.then _ _ _ _ _ | show Exit.inBlock _ _ _ _ _
               go_upto_region 24 with fail; have hdr:=(Below.refl w21.heap.size w21).drew; replace M:=M.drew; replace V_:=ownsRow_bel V_ hdr; replace N_O:=NewW.below N_O hdr; replace OF:=OF.below hdr; clear hdr
               refine wp_region_C (S:=fun w'=>w'.cell? ⟨R,0,none⟩=some (.slice (some ⟨g,0,none⟩) (J'++[q]).length cj)∧NewW w' 0 O (.slice (some ado) O.length co)∧True) 13 (by kernel_rfl) ⟨M.get mS 0 _ rfl,N_O,trivial⟩ ?_; intro _; generalize w21.drew=w22 at M V_ N_O OF ⊢
               refine readC (i:=0) (some 115) rfl (.pointer (some ⟨R,0,none⟩)) rfl rfl (by kernel_rfl) rfl (fun _ hS=>(by kernel_rfl)) (by kernel_rfl) (by kernel_rfl) (by kernel_rfl) (by kernel_rfl) (fun _ _ _ h=>h) ⟨M.get mS 0 _ rfl,N_O,trivial⟩ ?_; simp only [aP,lI,l0,lS]
               refine readC (i:=1) (some 116) rfl (.pointer (some ⟨R,0,none⟩)) rfl rfl (by kernel_rfl) rfl (fun _ hS=>(by kernel_rfl)) (by kernel_rfl) (by kernel_rfl) (by kernel_rfl) (by kernel_rfl) (fun _ _ _ h=>h) ⟨M.get mS 0 _ rfl,N_O,trivial⟩ ?_; simp only [aP,lI,l0,lS]
               refine readC (i:=2) (some 117) rfl (.pointer (some ⟨R,0,none⟩)) rfl rfl (by kernel_rfl) rfl (fun _ hS=>(by kernel_rfl)) (by kernel_rfl) (by kernel_rfl) (by kernel_rfl) (by kernel_rfl) (fun _ _ _ h=>h) ⟨M.get mS 0 _ rfl,N_O,trivial⟩ ?_; simp only [aP,lI,l0,lS]
               refine readC (i:=3) (some 118) rfl (.pointer (some ⟨R,0,none⟩)) rfl rfl (by kernel_rfl) rfl (fun _ hS=>(by kernel_rfl)) (by kernel_rfl) (by kernel_rfl) (by kernel_rfl) (by kernel_rfl) (fun _ _ _ h=>h) ⟨M.get mS 0 _ rfl,N_O,trivial⟩ ?_; simp only [aP,lI,l0,lS]
               refine readC (i:=4) (some 119) rfl (.slice (some ⟨g,0,none⟩) ((J'++[q]).length) cj) rfl rfl (by kernel_rfl) rfl (fun _ hS=>load1 27 _ ⟨R,0,none⟩ _ rfl rfl (fun _=>by kernel_rfl) hS.1) (by kernel_rfl) (by kernel_rfl) (by kernel_rfl) (by kernel_rfl) (fun _ _ _ h=>h) ⟨M.get mS 0 _ rfl,N_O,trivial⟩ ?_; simp only [aP,lI,l0,lS]
               refine readC (i:=5) (some 120) rfl (.slice (some ado) O.length co) rfl rfl (by kernel_rfl) rfl (fun _ hS=>(by kernel_rfl)) (by kernel_rfl) (by kernel_rfl) (by kernel_rfl) (by kernel_rfl) (fun _ _ _ h=>h) ⟨M.get mS 0 _ rfl,N_O,trivial⟩ ?_; simp only [aP,lI,l0,lS]
               refine readC (i:=6) (some 121) rfl (.int .i64 (i:Int)) rfl rfl (by kernel_rfl) rfl (fun _ hS=>(by kernel_rfl)) (by kernel_rfl) (by kernel_rfl) (by kernel_rfl) (by kernel_rfl) (fun _ _ _ h=>h) ⟨M.get mS 0 _ rfl,N_O,trivial⟩ ?_; simp only [aP,lI,l0,lS]
               refine readC (i:=7) (some 122) rfl (.pointer (some (ado.add (i*2)))) rfl rfl (by kernel_rfl) rfl (fun _ hS=>idxR2 ado _ _ i hil _ _ rfl rfl rfl _) (by kernel_rfl) (by kernel_rfl) (by kernel_rfl) (by kernel_rfl) (fun _ _ _ h=>h) ⟨M.get mS 0 _ rfl,N_O,trivial⟩ ?_; simp only [aP,lI,l0,lS]
               refine readC (i:=8) (some 123) rfl (.agg #[.int .i64 pr.1,.int .i64 pr.2]) rfl rfl (by kernel_rfl) rfl (fun _ hS=>loadN 34 _ (ado.add (i*2)) [.int .i64 pr.1,.int .i64 pr.2] rfl rfl (fun _=>by kernel_rfl) (fun _=>by kernel_rfl) (NewW.rng hS.2.1 hpr)) (by kernel_rfl) (by kernel_rfl) (by kernel_rfl) (by kernel_rfl) (fun _ _ _ h=>h) ⟨M.get mS 0 _ rfl,N_O,trivial⟩ ?_
               simp only [aP,lI,l0,lS]; have S_1:=World.ownsRow.cells (World.ownsRow_lit (base:=w22.heap.size) (e:=34) (size:=2) w22 #[.int .i64 pr.1,.int .i64 pr.2] 1 (xnR _) (by unfold maxLen; omega) rfl) (g:=w22.heap.size) rfl; have hlb:=(Below.refl w22.heap.size w22).alloc (xnR _) (.cells #[.int .i64 pr.1,.int .i64 pr.2] 34); replace V_:=ownsRow_bel V_ hlb
               replace N_O:=NewW.below N_O hlb; replace OF:=OF.below hlb; replace M:=M.call hlb; clear hlb; refine onlyC (i:=9) (w':=w22.alloc (.cells #[.int .i64 pr.1,.int .i64 pr.2] 34)) (some 124) rfl (.slice (some ⟨w22.heap.size,0,none⟩) 1 1) (by kernel_rfl) rfl rfl (by kernel_rfl) ⟨M.get mS 0 _ rfl,N_O,trivial⟩ ?_; simp only [aP,lI,l0,lS]
               generalize w22.alloc (.cells #[.int .i64 pr.1,.int .i64 pr.2] 34)=w23 at M S_1 V_ N_O OF ⊢; generalize w22.heap.size=bz at S_1 ⊢
               obtain ⟨v2,w24,hr,V2,hgr,hg2⟩:=run_append_OwnV (P:=Try.prog) (ty:=27) Try.underlying27 manyW rfl (by decide) V_ ⟨bz,0,none⟩ 1 1 [.int .i64 pr.1,.int .i64 pr.2] rfl S_1 (wrc_one [(pr.1,pr.2)]) (by unfold maxLen; (try simp only [List.length_append,List.length_cons,List.length_nil]); omega) (by (try simp only [List.length_append,List.length_cons,List.length_nil]); omega) OF.size
               have Mp:=M.perm (pull0 ([(R,[.slice (some ⟨g,0,none⟩) ((J'++[q]).length) cj])]:List (Nat × List Value)) (obs (some ⟨g,0,none⟩)) ((obs (some ado))++l)); have ho:=Off.grown (Off.refl (ob (some ⟨g,0,none⟩)) w23) hgr (fun b_ hb_=>.inl ((ob_own _ _ _ b_).1 hb_)); replace N_O:=NewW.offB N_O ho (Mp.awayO (fun p_ hp_=>by simp [hp_]))
               replace OF:=OF.grown hgr (fun b_ hb_=>.inr (World.ownsRow.lt V_ b_ hb_).1)
               obtain ⟨sv24,cv24,rfl,_,_⟩:=row_form16 V2
               have M':=Mp.rowApp V_ hgr V2 hg2 hb0.size
               have M:=M'.perm (pull0 ([(R,[.slice (some ⟨g,0,none⟩) ((J'++[q]).length) cj])]:List (Nat × List Value)) (obs sv24) ((obs (some ado))++l)).symm; refine onlyC (i:=10) (some 125) rfl (_) (by kernel_rfl) rfl rfl (appendOp _ _ 27 _ _ _ rfl rfl rfl hr) ⟨M.get mS 0 _ rfl,N_O,trivial⟩ ?_; simp only [aP,lI,l0,lS]
               rw [show (J'++[q]).length+1=((J'++[q])++[(pr.1,pr.2)]).length from len_snoc (J'++[q]) (pr.1,pr.2)] at V2 ⊢
               replace V2:w24.ownsRow w.heap.size 34 2 (.slice sv24 ((J'++[q])++[(pr.1,pr.2)]).length cv24) ((J'++[q])++[(pr.1,pr.2)]).length (wrc ((J'++[q])++[(pr.1,pr.2)])):=by rw [wrc_app]; exact V2
               clear hr hgr hg2 ho V_ S_1 Mp M; have V_:=V2; clear V2
               have M:Mm w0 ((R,[.slice (some ⟨g,0,none⟩) ((J'++[q]).length) cj])::((obs sv24)++((obs (some ado))++l))) w24:=M'.perm (pull0 ([(R,[.slice (some ⟨g,0,none⟩) ((J'++[q]).length) cj])]:List (Nat × List Value)) (obs sv24) ((obs (some ado))++l)).symm
               clear M'; refine xqC 11 126 rfl (.pointer (some ⟨R,0,none⟩)) (fun _=>(by kernel_rfl)) ⟨M.get mS 0 _ rfl,N_O,trivial⟩ ?_; refine readC (i:=12) (some 127) rfl (.pointer (some ⟨R,0,none⟩)) rfl rfl (by kernel_rfl) rfl (fun _ hS=>(by kernel_rfl)) (by kernel_rfl) (by kernel_rfl) (by kernel_rfl) (by kernel_rfl) (fun _ _ _ h=>h) ⟨M.get mS 0 _ rfl,N_O,trivial⟩ ?_
               simp only [aP,lI,l0,lS]; refine skipC (S2:=fun _=>True) none rfl (by kernel_rfl) rfl rfl (storeAny (.slice sv24 (((J'++[q])++[(pr.1,pr.2)]).length) cv24) R 0 27 _ _ rfl rfl rfl rfl rfl (M.isSome mS 0 (by simp)) (M.free mS 0 (by simp)) (by kernel_rfl)) (by kernel_rfl) ?_; simp only [Act.put]
               replace M:=M.set 0 (by simp) (.slice sv24 (((J'++[q])++[(pr.1,pr.2)]).length) cv24); replace V_:=ownsRow_away V_ ((Off.refl [R] _).set (b:=R) mS 0 (.slice sv24 (((J'++[q])++[(pr.1,pr.2)]).length) cv24)) (fun b_ hb_=>by obtain rfl:=xm1 hb_; exact M.awayB (fun p_ hp_=>by simp [hp_]))
               replace N_O:=NewW.offB N_O ((Off.refl [R] _).set (b:=R) mS 0 (.slice sv24 (((J'++[q])++[(pr.1,pr.2)]).length) cv24)) (fun b_ hb_=>by obtain rfl:=xm1 hb_; exact M.awayB (fun p_ hp_=>by simp [hp_])); replace OF:=OF.trans ((Off.refl [R] _).set (b:=R) mS 0 (.slice sv24 (((J'++[q])++[(pr.1,pr.2)]).length) cv24))
               generalize w24.setCell ⟨R,0,none⟩ (.slice sv24 (((J'++[q])++[(pr.1,pr.2)]).length) cv24)=w25 at M V_ N_O OF ⊢
               replace M:Mm w0 ((R,[.slice sv24 (((J'++[q])++[(pr.1,pr.2)]).length) cv24])::((obs sv24)++((obs (some ado))++l))) w25:=M
               refine wpAnyH_done (by kernel_rfl) ?_ _
               first | show Exit.then _ _ _ _ _ | show Exit.inBlock _ _ _ _ _
               have HS:=show Hid _ from (show Jnd O (i+1) ((J'++[q])++[(pr.1,pr.2)])∧w25.ownsRow w.heap.size 34 2 (.slice sv24 ((J'++[q])++[(pr.1,pr.2)]).length cv24) ((J'++[q])++[(pr.1,pr.2)]).length (wrc ((J'++[q])++[(pr.1,pr.2)]))∧Mm w0 ((R,[.slice sv24 ((J'++[q])++[(pr.1,pr.2)]).length cv24])::(obs sv24++(obs (some ado)++l))) w25∧NewW w25 0 O (.slice (some ado) O.length co)∧Off [R] w w25 from ⟨I2.more hwk hpr (fun q_ hq_=>by rw [List.getLast?_append] at hq_; simp at hq_; subst hq_; exact he),V_,M,N_O,OF⟩)
               clear M V_ N_O OF I2; go_wp2
               go_roundw
               case rel=>exact ⟨i+1,_,_,_,by omega,by go_num,HS.out⟩
               case measure=>simp [intOf]; omega
         · obtain rfl:i=O.length:=by omega
           have hJ:=joined (f:=f) (t:=t) hc (by omega) hO I2; subst hJ; have hb2:=rtot_in I2.c; have N_J:=(NewW.ofOwn V_).zero; clear V_ N_O
           replace M:Mm w0 ((R,[.slice sj ((rad L f t).length) cj])::((obs sj)++((obs so)++l))) wr:=M
           go_upto_region 19 with fail; refine wp_region_list ?_; refine xpL (.int .i64 ((O.length:Nat):Int)) ?_; refine xpL (.slice so O.length co) ?_; refine xaL (.int .i64 ((O.length:Nat):Int)) (lenS _ 27 34 so O.length co rfl Try.underlying27 rfl _) ?_; refine xaL (.bool false) (lssI .i64 _ _ _ _ _ _ rfl rfl rfl false (decide_eq_false (by omega)) _) ?_; refine xT ?_
           go_upto_region 25 with fail; refine wp_region_list ?_; refine xpL (.pointer (some ⟨R,0,none⟩)) ?_; refine xcL (dtot_any R sj cj (rad L f t) I2.c (by omega) _ (M.get mS 0 _ rfl) N_J) ?_; rintro e w26 ⟨rfl,l⟩; replace M:=M.call l; replace N_J:=NewW.below N_J l; replace OF:=OF.below l; clear l; refine xeL ?_; refine xpL (.int .i64 (rtot L)) ?_
           refine xaL (.int .i64 (radN L f t)) (subI .i64 _ _ _ _ _ _ _ rfl rfl rfl (by rw [xw6]; unfold radN; omega) _) ?_; refine xpL (.int .i64 (radN L f t)) ?_; refine xT ?_
           have M2:Mm w0 ((R,[.slice sj (rad L f t).length cj])::(obs sj++l)) w26:=M.sub _ (List.cons_sublist_cons.2 ((List.Sublist.refl _).append (List.sublist_append_right _ _)))
           have HS:=show Hid _ from (And.intro M2 (And.intro N_J OF)); clear M M2 N_J OF I2; go_wp2; go_ret
           first | exact ⟨sj,cj,rfl,HS.out⟩ | exact ⟨rfl,sj,cj,HS.out⟩
      | false =>
        go_upto_region 15 with fail; refine wp_region_list ?_; refine xpL (.bool false) ?_; refine xpL (.bool true) ?_; refine xT ?_; go_upto_region 16 with fail; refine wp_region_list ?_; refine xpL (.slice so O.length co) ?_; refine xpL (.int .i64 (rlo f)) ?_; refine xpL (.int .i64 (rhi t)) ?_; refine xpL (.agg #[.int .i64 (rlo f),.int .i64 (rhi t)]) ?_
        have S_1:=World.ownsRow.cells (World.ownsRow_lit (base:=wr.heap.size) (e:=34) (size:=2) wr #[.int .i64 (rlo f),.int .i64 (rhi t)] 1 (xnR _) (by unfold maxLen; omega) rfl) (g:=wr.heap.size) rfl; have hlb:=(Below.refl wr.heap.size wr).alloc (xnR _) (.cells #[.int .i64 (rlo f),.int .i64 (rhi t)] 34); replace V_:=ownsRow_bel V_ hlb; replace N_K:=NewW.below N_K hlb
        replace OF:=OF.below hlb; replace M:=M.call hlb; clear hlb; refine actL (w':=wr.alloc (.cells #[.int .i64 (rlo f),.int .i64 (rhi t)] 34)) (.slice (some ⟨wr.heap.size,0,none⟩) 1 1) rfl (by kernel_rfl) ?_; simp only [aP,lI,l0,lS]; generalize wr.alloc (.cells #[.int .i64 (rlo f),.int .i64 (rhi t)] 34)=w27 at M S_1 V_ N_K OF ⊢; generalize wr.heap.size=bz at S_1 ⊢
        obtain ⟨v2,w28,hr,V2,hgr,hg2⟩:=run_append_OwnV (P:=Try.prog) (ty:=27) Try.underlying27 manyW rfl (by decide) V_ ⟨bz,0,none⟩ 1 1 [.int .i64 (rlo f),.int .i64 (rhi t)] rfl S_1 (wrc_one [(rlo f,rhi t)]) (by unfold maxLen; (try simp only [List.length_append,List.length_cons,List.length_nil]); omega) (by (try simp only [List.length_append,List.length_cons,List.length_nil]); omega) OF.size
        have Mp:=M.perm (pull0 ([(R,[.slice sp L.length cap])]:List (Nat × List Value)) (obs so) ((obs p3)++l)); have ho:=Off.grown (Off.refl (ob so) w27) hgr (fun b_ hb_=>.inl ((ob_own _ _ _ b_).1 hb_)); replace N_K:=NewW.offB N_K ho (Mp.awayO (fun p_ hp_=>by simp [hp_])); replace OF:=OF.grown hgr (fun b_ hb_=>.inr (World.ownsRow.lt V_ b_ hb_).1)
        obtain ⟨sv28,cv28,rfl,_,_⟩:=row_form16 V2
        have M':=Mp.rowApp V_ hgr V2 hg2 hb0.size
        refine xaL (_) (appendOp _ _ 27 _ _ _ rfl rfl rfl hr) ?_
        rw [show O.length+1=(O++[(rlo f,rhi t)]).length from len_snoc O (rlo f,rhi t)] at V2 ⊢
        replace V2:w28.ownsRow w.heap.size 34 2 (.slice sv28 (O++[(rlo f,rhi t)]).length cv28) (O++[(rlo f,rhi t)]).length (wrc (O++[(rlo f,rhi t)])):=by rw [wrc_app]; exact V2
        clear hr hgr hg2 ho V_ S_1 Mp M; have V_:=V2; clear V2
        have M:Mm w0 ((R,[.slice sp L.length cap])::((obs sv28)++((obs p3)++l))) w28:=M'.perm (pull0 ([(R,[.slice sp L.length cap])]:List (Nat × List Value)) (obs sv28) ((obs p3)++l)).symm
        clear M'; refine xpL (.slice sv28 ((O++[(rlo f,rhi t)]).length) cv28) ?_; refine xT ?_
        have hwk:Wk (O++[(rlo f,rhi t)]):=(I1.lay hc hf0 hft ht1).1
        have hO:∀ n,rmem (O++[(rlo f,rhi t)]) n↔rmem (rcut L (rlo f) (rhi t)) n∨(rlo f≤n∧n<rhi t):=fun n=>by have h_:=(I1.lay hc hf0 hft ht1).2 n; rw [List.take_length] at h_; exact h_
        have hOm:(O++[(rlo f,rhi t)]).length≤400001:=by (try simp only [List.length_append,List.length_cons,List.length_nil]); omega
        have N_O:=(NewW.ofOwn V_).zero; clear V_ I1 hm1 N_K hOl; generalize hOe:(O++[(rlo f,rhi t)])=O2 at hwk hO hOm N_O ⊢; clear hOe
        replace M:Mm w0 ((R,[.slice sp L.length cap])::(obs sv28++l)) w28:=M.sub _ (List.cons_sublist_cons.2 ((List.Sublist.refl _).append (List.sublist_append_right _ _)))
        replace M:Mm w0 ((R,[.slice sp L.length cap])::(obs none++(obs sv28++l))) w28:=M
        go_upto_region 17 with fail; refine wp_region_list ?_; refine xpL (.pointer (some ⟨R,0,none⟩)) ?_; refine xpL (.pointer (some ⟨R,0,none⟩)) ?_; refine xpL (.pointer (some ⟨R,0,none⟩)) ?_; refine skipOpL rfl (storeAny (.slice none 0 0) R 0 27 _ _ rfl rfl rfl rfl rfl (M.isSome mS 0 (by simp)) (M.free mS 0 (by simp)) (by kernel_rfl)) ?_; simp only [Act.put]
        replace M:=M.set 0 (by simp) (.slice none 0 0); replace N_O:=NewW.offB N_O ((Off.refl [R] _).set (b:=R) mS 0 (.slice none 0 0)) (fun b_ hb_=>by obtain rfl:=xm1 hb_; exact M.awayB (fun p_ hp_=>by simp [hp_])); replace OF:=OF.trans ((Off.refl [R] _).set (b:=R) mS 0 (.slice none 0 0)); generalize w28.setCell ⟨R,0,none⟩ (.slice none 0 0)=w29 at M N_O OF ⊢
        replace M:Mm w0 ((R,[.slice none 0 0])::((obs none)++((obs sv28)++l))) w29:=M
        refine xT ?_; go_upto_region 18 with fail; refine wp_region_list ?_; refine xpL (.int .i64 0) ?_; refine xT ?_
        have HI:=show Hid _ from (show Jnd O2 0 ([]:Rgs17)∧w29.ownsRow w.heap.size 34 2 (.slice none ([]:Rgs17).length 0) ([]:Rgs17).length (wrc ([]:Rgs17))∧Mm w0 ((R,[.slice none ([]:Rgs17).length 0])::(obs none++(obs sv28++l))) w29∧NewW w29 0 O2 (.slice sv28 O2.length cv28)∧Off [R] w w29 from ⟨Jnd.start _,⟨rfl,.inl ⟨rfl,rfl⟩⟩,M,N_O,OF⟩); clear M N_O OF; go_wp2
        go_loopw [12] (fun i w'=>∃ (i':Nat) (J:Rgs17) (sj:Option Addr) (cj:Nat),i'≤O2.length∧i=.int .i64 (i':Int)∧Jnd O2 i' J∧w'.ownsRow w.heap.size 34 2 (.slice sj J.length cj) J.length (wrc J)∧Mm w0 ((R,[.slice sj J.length cj])::(obs sj++(obs sv28++l))) w'∧NewW w' 0 O2 (.slice sv28 O2.length cv28)∧Off [R] w w') (fun i _=>O2.length-(intOf i).toNat)
        case atStart=>exact ⟨0,[],none,0,Nat.zero_le _,rfl,HI.out⟩
        case round =>
         clear HI
         obtain ⟨i,J,sj,cj,hi,rfl,I2,V_,M,N_O,OF⟩:=hrel
         have hJl:=I2.len
         by_cases hil:i<O2.length
         · obtain ⟨pr,hpr⟩:∃ pr,O2[i]?=some pr:=⟨_,List.getElem?_eq_getElem hil⟩
           obtain ⟨ado,hado,_,_⟩:=NewW.at N_O hpr
           subst hado
           rcases List.eq_nil_or_concat J with rfl | ⟨J',q,hJ⟩
           · replace M:Mm w0 ((R,[.slice sj (([]:Rgs17).length) cj])::((obs sj)++((obs (some ado))++l))) wr:=M
             go_upto_region 19 with fail; refine wp_region_list ?_; refine xpL (.int .i64 (i:Int)) ?_; refine xpL (.slice (some ado) O2.length cv28) ?_; refine xaL (.int .i64 ((O2.length:Nat):Int)) (lenS _ 27 34 (some ado) O2.length cv28 rfl Try.underlying27 rfl _) ?_; refine xaL (.bool true) (lssI .i64 _ _ _ _ _ _ rfl rfl rfl true (decide_eq_true (by omega)) _) ?_; refine xT ?_
             go_upto_region 21 with fail; refine wp_region_list ?_; refine xpL (.pointer (some ⟨R,0,none⟩)) ?_; refine xpL (.pointer (some ⟨R,0,none⟩)) ?_; refine xpL (.pointer (some ⟨R,0,none⟩)) ?_; refine xaL (.slice sj (([]:Rgs17).length) cj) (load1 27 _ ⟨R,0,none⟩ _ rfl rfl (fun _=>by kernel_rfl) (M.get mS 0 _ rfl)) ?_
             refine readL (.int .i64 ((([]:Rgs17).length:Nat):Int)) rfl (lenS _ 27 34 sj (([]:Rgs17).length) cj rfl Try.underlying27 rfl _) ?_; simp only [aP,lI,l0,lS]; refine xaL (.int .i64 (-1)) (subI .i64 _ _ _ _ _ _ _ rfl rfl rfl (by kernel_rfl) _) ?_; refine xpL (.int .i64 (-1)) ?_; refine xT ?_; go_upto_region 22 with fail; have hdr:=(Below.refl wr.heap.size wr).drew
             replace M:=M.drew; replace V_:=ownsRow_bel V_ hdr; replace N_O:=NewW.below N_O hdr; replace OF:=OF.below hdr; clear hdr; refine wp_region_held_drew (S:=fun w'=>w'.cell? ⟨R,0,none⟩=some (.slice sj ([]:Rgs17).length cj)∧NewW w' 0 O2 (.slice (some ado) O2.length cv28)∧True) (by kernel_rfl) ⟨M.get mS 0 _ rfl,N_O,trivial⟩ ?_; intro _
             generalize wr.drew=w30 at M V_ N_O OF ⊢; refine xrH 0 85 rfl (.int .i64 (-1)) (fun _ hS=>(by kernel_rfl)) ⟨M.get mS 0 _ rfl,N_O,trivial⟩ ?_; refine xrH 1 86 rfl (.bool false) (fun _ hS=>geqI .i64 _ _ _ _ _ _ rfl rfl rfl false (by decide) _) ⟨M.get mS 0 _ rfl,N_O,trivial⟩ ?_; refine xrH 2 87 rfl (.bool false) (fun _ hS=>(by kernel_rfl)) ⟨M.get mS 0 _ rfl,N_O,trivial⟩ ?_
             refine mayH (i:=3) (some 88) rfl false undef undef rfl rfl rfl (fun hc=>by cases hc) (by kernel_rfl) (by kernel_rfl) (by kernel_rfl) (fun _ _ _ h=>h) ⟨M.get mS 0 _ rfl,N_O,trivial⟩ ?_; simp only [aP,lI,l0,lS]
             refine mayH (i:=4) (some 89) rfl false undef undef rfl rfl rfl (fun hc=>by cases hc) (by kernel_rfl) (by kernel_rfl) (by kernel_rfl) (fun _ _ _ h=>h) ⟨M.get mS 0 _ rfl,N_O,trivial⟩ ?_; simp only [aP,lI,l0,lS]
             refine mayH (i:=5) (some 90) rfl false undef undef rfl rfl rfl (fun hc=>by cases hc) (by kernel_rfl) (by kernel_rfl) (by kernel_rfl) (fun _ _ _ h=>h) ⟨M.get mS 0 _ rfl,N_O,trivial⟩ ?_; simp only [aP,lI,l0,lS]
             refine mayH (i:=6) (some 91) rfl false undef undef rfl rfl rfl (fun hc=>by cases hc) (by kernel_rfl) (by kernel_rfl) (by kernel_rfl) (fun _ _ _ h=>h) ⟨M.get mS 0 _ rfl,N_O,trivial⟩ ?_; simp only [aP,lI,l0,lS]
             refine mayH (i:=7) (some 92) rfl false undef undef rfl rfl rfl (fun hc=>by cases hc) (by kernel_rfl) (by kernel_rfl) (by kernel_rfl) (fun _ _ _ h=>h) ⟨M.get mS 0 _ rfl,N_O,trivial⟩ ?_; simp only [aP,lI,l0,lS]
             refine mayH (i:=8) (some 93) rfl false undef undef rfl rfl rfl (fun hc=>by cases hc) (by kernel_rfl) (by kernel_rfl) (by kernel_rfl) (fun _ _ _ h=>h) ⟨M.get mS 0 _ rfl,N_O,trivial⟩ ?_; simp only [aP,lI,l0,lS]
             refine mayH (i:=9) (some 94) rfl false undef undef rfl rfl rfl (fun hc=>by cases hc) (by kernel_rfl) (by kernel_rfl) (by kernel_rfl) (fun _ _ _ h=>h) ⟨M.get mS 0 _ rfl,N_O,trivial⟩ ?_; simp only [aP,lI,l0,lS]
             refine mayH (i:=10) (some 95) rfl false undef undef rfl rfl rfl (fun hc=>by cases hc) (by kernel_rfl) (by kernel_rfl) (by kernel_rfl) (fun _ _ _ h=>h) ⟨M.get mS 0 _ rfl,N_O,trivial⟩ ?_; simp only [aP,lI,l0,lS]
             refine mayH (i:=11) (some 96) rfl false undef undef rfl rfl rfl (fun hc=>by cases hc) (by kernel_rfl) (by kernel_rfl) (by kernel_rfl) (fun _ _ _ h=>h) ⟨M.get mS 0 _ rfl,N_O,trivial⟩ ?_; simp only [aP,lI,l0,lS]
             refine mayH (i:=12) (some 97) rfl false undef undef rfl rfl rfl (fun hc=>by cases hc) (by kernel_rfl) (by kernel_rfl) (by kernel_rfl) (fun _ _ _ h=>h) ⟨M.get mS 0 _ rfl,N_O,trivial⟩ ?_; simp only [aP,lI,l0,lS]
             refine mayH (i:=13) (some 98) rfl false undef undef rfl rfl rfl (fun hc=>by cases hc) (by kernel_rfl) (by kernel_rfl) (by kernel_rfl) (fun _ _ _ h=>h) ⟨M.get mS 0 _ rfl,N_O,trivial⟩ ?_; simp only [aP,lI,l0,lS]
             refine mayH (i:=14) (some 99) rfl false undef undef rfl rfl rfl (fun hc=>by cases hc) (by kernel_rfl) (by kernel_rfl) (by kernel_rfl) (fun _ _ _ h=>h) ⟨M.get mS 0 _ rfl,N_O,trivial⟩ ?_; simp only [aP,lI,l0,lS]
             refine mayH (i:=15) (some 100) rfl false undef undef rfl rfl rfl (fun hc=>by cases hc) (by kernel_rfl) (by kernel_rfl) (by kernel_rfl) (fun _ _ _ h=>h) ⟨M.get mS 0 _ rfl,N_O,trivial⟩ ?_; simp only [aP,lI,l0,lS]
             refine mayH (i:=16) (some 101) rfl false undef undef rfl rfl rfl (fun hc=>by cases hc) (by kernel_rfl) (by kernel_rfl) (by kernel_rfl) (fun _ _ _ h=>h) ⟨M.get mS 0 _ rfl,N_O,trivial⟩ ?_; simp only [aP,lI,l0,lS]; refine xrH 17 102 rfl (.bool false) (fun _ hS=>(by kernel_rfl)) ⟨M.get mS 0 _ rfl,N_O,trivial⟩ ?_
             refine wpAnyH_done (by kernel_rfl) ?_ _
             first | show Exit.then _ _ _ _ _ | show Exit.inBlock _ _ _ _ _
             go_upto_region 24 with fail; have hdr:=(Below.refl w30.heap.size w30).drew; replace M:=M.drew; replace V_:=ownsRow_bel V_ hdr; replace N_O:=NewW.below N_O hdr; replace OF:=OF.below hdr; clear hdr
             refine wp_region_C (S:=fun w'=>w'.cell? ⟨R,0,none⟩=some (.slice sj ([]:Rgs17).length cj)∧NewW w' 0 O2 (.slice (some ado) O2.length cv28)∧True) 13 (by kernel_rfl) ⟨M.get mS 0 _ rfl,N_O,trivial⟩ ?_; intro _; generalize w30.drew=w31 at M V_ N_O OF ⊢
             refine readC (i:=0) (some 115) rfl (.pointer (some ⟨R,0,none⟩)) rfl rfl (by kernel_rfl) rfl (fun _ hS=>(by kernel_rfl)) (by kernel_rfl) (by kernel_rfl) (by kernel_rfl) (by kernel_rfl) (fun _ _ _ h=>h) ⟨M.get mS 0 _ rfl,N_O,trivial⟩ ?_; simp only [aP,lI,l0,lS]
             refine readC (i:=1) (some 116) rfl (.pointer (some ⟨R,0,none⟩)) rfl rfl (by kernel_rfl) rfl (fun _ hS=>(by kernel_rfl)) (by kernel_rfl) (by kernel_rfl) (by kernel_rfl) (by kernel_rfl) (fun _ _ _ h=>h) ⟨M.get mS 0 _ rfl,N_O,trivial⟩ ?_; simp only [aP,lI,l0,lS]
             refine readC (i:=2) (some 117) rfl (.pointer (some ⟨R,0,none⟩)) rfl rfl (by kernel_rfl) rfl (fun _ hS=>(by kernel_rfl)) (by kernel_rfl) (by kernel_rfl) (by kernel_rfl) (by kernel_rfl) (fun _ _ _ h=>h) ⟨M.get mS 0 _ rfl,N_O,trivial⟩ ?_; simp only [aP,lI,l0,lS]
             refine readC (i:=3) (some 118) rfl (.pointer (some ⟨R,0,none⟩)) rfl rfl (by kernel_rfl) rfl (fun _ hS=>(by kernel_rfl)) (by kernel_rfl) (by kernel_rfl) (by kernel_rfl) (by kernel_rfl) (fun _ _ _ h=>h) ⟨M.get mS 0 _ rfl,N_O,trivial⟩ ?_; simp only [aP,lI,l0,lS]
             refine readC (i:=4) (some 119) rfl (.slice sj (([]:Rgs17).length) cj) rfl rfl (by kernel_rfl) rfl (fun _ hS=>load1 27 _ ⟨R,0,none⟩ _ rfl rfl (fun _=>by kernel_rfl) hS.1) (by kernel_rfl) (by kernel_rfl) (by kernel_rfl) (by kernel_rfl) (fun _ _ _ h=>h) ⟨M.get mS 0 _ rfl,N_O,trivial⟩ ?_; simp only [aP,lI,l0,lS]
             refine readC (i:=5) (some 120) rfl (.slice (some ado) O2.length cv28) rfl rfl (by kernel_rfl) rfl (fun _ hS=>(by kernel_rfl)) (by kernel_rfl) (by kernel_rfl) (by kernel_rfl) (by kernel_rfl) (fun _ _ _ h=>h) ⟨M.get mS 0 _ rfl,N_O,trivial⟩ ?_; simp only [aP,lI,l0,lS]
             refine readC (i:=6) (some 121) rfl (.int .i64 (i:Int)) rfl rfl (by kernel_rfl) rfl (fun _ hS=>(by kernel_rfl)) (by kernel_rfl) (by kernel_rfl) (by kernel_rfl) (by kernel_rfl) (fun _ _ _ h=>h) ⟨M.get mS 0 _ rfl,N_O,trivial⟩ ?_; simp only [aP,lI,l0,lS]
             refine readC (i:=7) (some 122) rfl (.pointer (some (ado.add (i*2)))) rfl rfl (by kernel_rfl) rfl (fun _ hS=>idxR2 ado _ _ i hil _ _ rfl rfl rfl _) (by kernel_rfl) (by kernel_rfl) (by kernel_rfl) (by kernel_rfl) (fun _ _ _ h=>h) ⟨M.get mS 0 _ rfl,N_O,trivial⟩ ?_; simp only [aP,lI,l0,lS]
             refine readC (i:=8) (some 123) rfl (.agg #[.int .i64 pr.1,.int .i64 pr.2]) rfl rfl (by kernel_rfl) rfl (fun _ hS=>loadN 34 _ (ado.add (i*2)) [.int .i64 pr.1,.int .i64 pr.2] rfl rfl (fun _=>by kernel_rfl) (fun _=>by kernel_rfl) (NewW.rng hS.2.1 hpr)) (by kernel_rfl) (by kernel_rfl) (by kernel_rfl) (by kernel_rfl) (fun _ _ _ h=>h) ⟨M.get mS 0 _ rfl,N_O,trivial⟩ ?_
             simp only [aP,lI,l0,lS]; have S_1:=World.ownsRow.cells (World.ownsRow_lit (base:=w31.heap.size) (e:=34) (size:=2) w31 #[.int .i64 pr.1,.int .i64 pr.2] 1 (xnR _) (by unfold maxLen; omega) rfl) (g:=w31.heap.size) rfl; have hlb:=(Below.refl w31.heap.size w31).alloc (xnR _) (.cells #[.int .i64 pr.1,.int .i64 pr.2] 34); replace V_:=ownsRow_bel V_ hlb
             replace N_O:=NewW.below N_O hlb; replace OF:=OF.below hlb; replace M:=M.call hlb; clear hlb; refine onlyC (i:=9) (w':=w31.alloc (.cells #[.int .i64 pr.1,.int .i64 pr.2] 34)) (some 124) rfl (.slice (some ⟨w31.heap.size,0,none⟩) 1 1) (by kernel_rfl) rfl rfl (by kernel_rfl) ⟨M.get mS 0 _ rfl,N_O,trivial⟩ ?_; simp only [aP,lI,l0,lS]
             generalize w31.alloc (.cells #[.int .i64 pr.1,.int .i64 pr.2] 34)=w32 at M S_1 V_ N_O OF ⊢; generalize w31.heap.size=bz at S_1 ⊢
             obtain ⟨v2,w33,hr,V2,hgr,hg2⟩:=run_append_OwnV (P:=Try.prog) (ty:=27) Try.underlying27 manyW rfl (by decide) V_ ⟨bz,0,none⟩ 1 1 [.int .i64 pr.1,.int .i64 pr.2] rfl S_1 (wrc_one [(pr.1,pr.2)]) (by unfold maxLen; (try simp only [List.length_nil]); omega) (by (try simp only [List.length_nil]); omega) OF.size
             have Mp:=M.perm (pull0 ([(R,[.slice sj (([]:Rgs17).length) cj])]:List (Nat × List Value)) (obs sj) ((obs (some ado))++l)); have ho:=Off.grown (Off.refl (ob sj) w32) hgr (fun b_ hb_=>.inl ((ob_own _ _ _ b_).1 hb_)); replace N_O:=NewW.offB N_O ho (Mp.awayO (fun p_ hp_=>by simp [hp_])); replace OF:=OF.grown hgr (fun b_ hb_=>.inr (World.ownsRow.lt V_ b_ hb_).1)
             obtain ⟨sv33,cv33,rfl,_,_⟩:=row_form16 V2
             have M':=Mp.rowApp V_ hgr V2 hg2 hb0.size
             have M:=M'.perm (pull0 ([(R,[.slice sj (([]:Rgs17).length) cj])]:List (Nat × List Value)) (obs sv33) ((obs (some ado))++l)).symm; refine onlyC (i:=10) (some 125) rfl (_) (by kernel_rfl) rfl rfl (appendOp _ _ 27 _ _ _ rfl rfl rfl hr) ⟨M.get mS 0 _ rfl,N_O,trivial⟩ ?_; simp only [aP,lI,l0,lS]
             rw [show ([]:Rgs17).length+1=(([]:Rgs17)++[(pr.1,pr.2)]).length from len_snoc ([]:Rgs17) (pr.1,pr.2)] at V2 ⊢
             replace V2:w33.ownsRow w.heap.size 34 2 (.slice sv33 (([]:Rgs17)++[(pr.1,pr.2)]).length cv33) (([]:Rgs17)++[(pr.1,pr.2)]).length (wrc (([]:Rgs17)++[(pr.1,pr.2)])):=by rw [wrc_app]; exact V2
             clear hr hgr hg2 ho V_ S_1 Mp M; have V_:=V2; clear V2
             have M:Mm w0 ((R,[.slice sj (([]:Rgs17).length) cj])::((obs sv33)++((obs (some ado))++l))) w33:=M'.perm (pull0 ([(R,[.slice sj (([]:Rgs17).length) cj])]:List (Nat × List Value)) (obs sv33) ((obs (some ado))++l)).symm
             clear M'; refine xqC 11 126 rfl (.pointer (some ⟨R,0,none⟩)) (fun _=>(by kernel_rfl)) ⟨M.get mS 0 _ rfl,N_O,trivial⟩ ?_; refine readC (i:=12) (some 127) rfl (.pointer (some ⟨R,0,none⟩)) rfl rfl (by kernel_rfl) rfl (fun _ hS=>(by kernel_rfl)) (by kernel_rfl) (by kernel_rfl) (by kernel_rfl) (by kernel_rfl) (fun _ _ _ h=>h) ⟨M.get mS 0 _ rfl,N_O,trivial⟩ ?_
             simp only [aP,lI,l0,lS]; refine skipC (S2:=fun _=>True) none rfl (by kernel_rfl) rfl rfl (storeAny (.slice sv33 ((([]:Rgs17)++[(pr.1,pr.2)]).length) cv33) R 0 27 _ _ rfl rfl rfl rfl rfl (M.isSome mS 0 (by simp)) (M.free mS 0 (by simp)) (by kernel_rfl)) (by kernel_rfl) ?_; simp only [Act.put]
             replace M:=M.set 0 (by simp) (.slice sv33 ((([]:Rgs17)++[(pr.1,pr.2)]).length) cv33); replace V_:=ownsRow_away V_ ((Off.refl [R] _).set (b:=R) mS 0 (.slice sv33 ((([]:Rgs17)++[(pr.1,pr.2)]).length) cv33)) (fun b_ hb_=>by obtain rfl:=xm1 hb_; exact M.awayB (fun p_ hp_=>by simp [hp_]))
             replace N_O:=NewW.offB N_O ((Off.refl [R] _).set (b:=R) mS 0 (.slice sv33 ((([]:Rgs17)++[(pr.1,pr.2)]).length) cv33)) (fun b_ hb_=>by obtain rfl:=xm1 hb_; exact M.awayB (fun p_ hp_=>by simp [hp_])); replace OF:=OF.trans ((Off.refl [R] _).set (b:=R) mS 0 (.slice sv33 ((([]:Rgs17)++[(pr.1,pr.2)]).length) cv33))
             generalize w33.setCell ⟨R,0,none⟩ (.slice sv33 ((([]:Rgs17)++[(pr.1,pr.2)]).length) cv33)=w34 at M V_ N_O OF ⊢
             replace M:Mm w0 ((R,[.slice sv33 ((([]:Rgs17)++[(pr.1,pr.2)]).length) cv33])::((obs sv33)++((obs (some ado))++l))) w34:=M
             refine wpAnyH_done (by kernel_rfl) ?_ _
             first | show Exit.then _ _ _ _ _ | show Exit.inBlock _ _ _ _ _
             have HS:=show Hid _ from (show Jnd O2 (i+1) (([]:Rgs17)++[(pr.1,pr.2)])∧w34.ownsRow w.heap.size 34 2 (.slice sv33 (([]:Rgs17)++[(pr.1,pr.2)]).length cv33) (([]:Rgs17)++[(pr.1,pr.2)]).length (wrc (([]:Rgs17)++[(pr.1,pr.2)]))∧Mm w0 ((R,[.slice sv33 (([]:Rgs17)++[(pr.1,pr.2)]).length cv33])::(obs sv33++(obs (some ado)++l))) w34∧NewW w34 0 O2 (.slice (some ado) O2.length cv28)∧Off [R] w w34 from ⟨I2.more hwk hpr (fun q_ hq_=>by cases hq_),V_,M,N_O,OF⟩)
             clear M V_ N_O OF I2; go_wp2
             go_roundw
             case rel=>exact ⟨i+1,_,_,_,by omega,by go_num,HS.out⟩
             case measure=>simp [intOf]; omega
           · rw [List.concat_eq_append] at hJ
             subst hJ
             have hjl:(J'++[q]).length=J'.length+1:=by rw [List.length_append,List.length_singleton]
             obtain ⟨g,hg⟩:=row_some16 V_ (by omega)
             subst hg
             replace M:Mm w0 ((R,[.slice (some ⟨g,0,none⟩) ((J'++[q]).length) cj])::((obs (some ⟨g,0,none⟩))++((obs (some ado))++l))) wr:=M
             have hjq:(J'++[q])[J'.length]?=some q:=by rw [List.getElem?_append_right (xnR _),Nat.sub_self]; rfl
             have hjk:J'.length<(J'++[q]).length:=by omega
             go_upto_region 19 with fail; refine wp_region_list ?_; refine xpL (.int .i64 (i:Int)) ?_; refine xpL (.slice (some ado) O2.length cv28) ?_; refine xaL (.int .i64 ((O2.length:Nat):Int)) (lenS _ 27 34 (some ado) O2.length cv28 rfl Try.underlying27 rfl _) ?_; refine xaL (.bool true) (lssI .i64 _ _ _ _ _ _ rfl rfl rfl true (decide_eq_true (by omega)) _) ?_; refine xT ?_
             go_upto_region 21 with fail; refine wp_region_list ?_; refine xpL (.pointer (some ⟨R,0,none⟩)) ?_; refine xpL (.pointer (some ⟨R,0,none⟩)) ?_; refine xpL (.pointer (some ⟨R,0,none⟩)) ?_; refine xaL (.slice (some ⟨g,0,none⟩) ((J'++[q]).length) cj) (load1 27 _ ⟨R,0,none⟩ _ rfl rfl (fun _=>by kernel_rfl) (M.get mS 0 _ rfl)) ?_
             refine readL (.int .i64 (((J'++[q]).length:Nat):Int)) rfl (lenS _ 27 34 (some ⟨g,0,none⟩) ((J'++[q]).length) cj rfl Try.underlying27 rfl _) ?_; simp only [aP,lI,l0,lS]; refine xaL (.int .i64 ((J'.length:Nat):Int)) (subI .i64 _ _ _ _ _ _ _ rfl rfl rfl (by rw [xw6,hjl]; omega) _) ?_; refine xpL (.int .i64 ((J'.length:Nat):Int)) ?_; refine xT ?_
             by_cases he:q.2=pr.1
             · go_upto_region 22 with fail
               have hdr:=(Below.refl wr.heap.size wr).drew; replace M:=M.drew; replace V_:=ownsRow_bel V_ hdr; replace N_O:=NewW.below N_O hdr; replace OF:=OF.below hdr; clear hdr
               refine wp_region_held_drew (S:=fun w'=>w'.cell? ⟨R,0,none⟩=some (.slice (some ⟨g,0,none⟩) (J'++[q]).length cj)∧NewW w' 0 O2 (.slice (some ado) O2.length cv28)∧NewW w' 0 (J'++[q]) (.slice (some ⟨g,0,none⟩) (J'++[q]).length cj)) (by kernel_rfl) ⟨M.get mS 0 _ rfl,N_O,(NewW.ofOwn V_).zero⟩ ?_; intro _; generalize wr.drew=w35 at M V_ N_O OF ⊢
               refine xrH 0 85 rfl (.int .i64 ((J'.length:Nat):Int)) (fun _ hS=>(by kernel_rfl)) ⟨M.get mS 0 _ rfl,N_O,(NewW.ofOwn V_).zero⟩ ?_; refine xrH 1 86 rfl (.bool true) (fun _ hS=>geqI .i64 _ _ _ _ _ _ rfl rfl rfl true (decide_eq_true (by omega)) _) ⟨M.get mS 0 _ rfl,N_O,(NewW.ofOwn V_).zero⟩ ?_
               refine xrH 2 87 rfl (.bool true) (fun _ hS=>(by kernel_rfl)) ⟨M.get mS 0 _ rfl,N_O,(NewW.ofOwn V_).zero⟩ ?_; refine xrH 3 88 rfl (.pointer (some ⟨R,0,none⟩)) (fun _ hS=>(by kernel_rfl)) ⟨M.get mS 0 _ rfl,N_O,(NewW.ofOwn V_).zero⟩ ?_; refine xrH 4 89 rfl (.pointer (some ⟨R,0,none⟩)) (fun _ hS=>(by kernel_rfl)) ⟨M.get mS 0 _ rfl,N_O,(NewW.ofOwn V_).zero⟩ ?_
               refine xrH 5 90 rfl (.pointer (some ⟨R,0,none⟩)) (fun _ hS=>(by kernel_rfl)) ⟨M.get mS 0 _ rfl,N_O,(NewW.ofOwn V_).zero⟩ ?_; refine xrH 6 91 rfl (.slice (some ⟨g,0,none⟩) ((J'++[q]).length) cj) (fun _ hS=>load1 27 _ ⟨R,0,none⟩ _ rfl rfl (fun _=>by kernel_rfl) hS.1) ⟨M.get mS 0 _ rfl,N_O,(NewW.ofOwn V_).zero⟩ ?_
               refine xrH 7 92 rfl (.int .i64 ((J'.length:Nat):Int)) (fun _ hS=>(by kernel_rfl)) ⟨M.get mS 0 _ rfl,N_O,(NewW.ofOwn V_).zero⟩ ?_; refine xrH 8 93 rfl (.pointer (some ((⟨g,0,none⟩:Addr).add (J'.length*2)))) (fun _ hS=>idxR2 (⟨g,0,none⟩:Addr) _ _ J'.length hjk _ _ rfl rfl rfl _) ⟨M.get mS 0 _ rfl,N_O,(NewW.ofOwn V_).zero⟩ ?_
               refine xrH 9 94 rfl (.pointer (some (((⟨g,0,none⟩:Addr).add (J'.length*2)).add 1))) (fun _ hS=>(by kernel_rfl)) ⟨M.get mS 0 _ rfl,N_O,(NewW.ofOwn V_).zero⟩ ?_
               refine xrH 10 95 rfl (.int .i64 q.2) (fun _ hS=>load1 3 _ (((⟨g,0,none⟩:Addr).add (J'.length*2)).add 1) _ rfl rfl (fun _=>by kernel_rfl) (NewW.rng hS.2.2 hjq 1 _ rfl)) ⟨M.get mS 0 _ rfl,N_O,(NewW.ofOwn V_).zero⟩ ?_; refine xrH 11 96 rfl (.slice (some ado) O2.length cv28) (fun _ hS=>(by kernel_rfl)) ⟨M.get mS 0 _ rfl,N_O,(NewW.ofOwn V_).zero⟩ ?_
               refine xrH 12 97 rfl (.int .i64 (i:Int)) (fun _ hS=>(by kernel_rfl)) ⟨M.get mS 0 _ rfl,N_O,(NewW.ofOwn V_).zero⟩ ?_; refine xrH 13 98 rfl (.pointer (some (ado.add (i*2)))) (fun _ hS=>idxR2 ado _ _ i hil _ _ rfl rfl rfl _) ⟨M.get mS 0 _ rfl,N_O,(NewW.ofOwn V_).zero⟩ ?_
               refine xrH 14 99 rfl (.pointer (some ((ado.add (i*2)).add 0))) (fun _ hS=>(by kernel_rfl)) ⟨M.get mS 0 _ rfl,N_O,(NewW.ofOwn V_).zero⟩ ?_; refine xrH 15 100 rfl (.int .i64 pr.1) (fun _ hS=>load1 3 _ ((ado.add (i*2)).add 0) _ rfl rfl (fun _=>by kernel_rfl) (NewW.rng hS.2.1 hpr 0 _ rfl)) ⟨M.get mS 0 _ rfl,N_O,(NewW.ofOwn V_).zero⟩ ?_
               refine xrH 16 101 rfl (.bool true) (fun _ hS=>eqlI .i64 _ _ _ _ _ _ rfl rfl rfl true (by rw [he]; exact beq_self_eq_true _) _) ⟨M.get mS 0 _ rfl,N_O,(NewW.ofOwn V_).zero⟩ ?_; refine xrH 17 102 rfl (.bool true) (fun _ hS=>(by kernel_rfl)) ⟨M.get mS 0 _ rfl,N_O,(NewW.ofOwn V_).zero⟩ ?_
               refine wpAnyH_done (by kernel_rfl) ?_ _
               first | show Exit.then _ _ _ _ _ | show Exit.inBlock _ _ _ _ _
               go_upto_region 23 with fail; have hdr:=(Below.refl w35.heap.size w35).drew; replace M:=M.drew; replace V_:=ownsRow_bel V_ hdr; replace N_O:=NewW.below N_O hdr; replace OF:=OF.below hdr; clear hdr
               refine wp_region_C (S:=fun w'=>w'.cell? ⟨R,0,none⟩=some (.slice (some ⟨g,0,none⟩) (J'++[q]).length cj)∧NewW w' 0 O2 (.slice (some ado) O2.length cv28)∧NewW w' 0 (J'++[q]) (.slice (some ⟨g,0,none⟩) (J'++[q]).length cj)) 12 (by kernel_rfl) ⟨M.get mS 0 _ rfl,N_O,(NewW.ofOwn V_).zero⟩ ?_; intro _; generalize w35.drew=w36 at M V_ N_O OF ⊢
               refine readC (i:=0) (some 103) rfl (.pointer (some ⟨R,0,none⟩)) rfl rfl (by kernel_rfl) rfl (fun _ hS=>(by kernel_rfl)) (by kernel_rfl) (by kernel_rfl) (by kernel_rfl) (by kernel_rfl) (fun _ _ _ h=>h) ⟨M.get mS 0 _ rfl,N_O,(NewW.ofOwn V_).zero⟩ ?_; simp only [aP,lI,l0,lS]
               refine readC (i:=1) (some 104) rfl (.pointer (some ⟨R,0,none⟩)) rfl rfl (by kernel_rfl) rfl (fun _ hS=>(by kernel_rfl)) (by kernel_rfl) (by kernel_rfl) (by kernel_rfl) (by kernel_rfl) (fun _ _ _ h=>h) ⟨M.get mS 0 _ rfl,N_O,(NewW.ofOwn V_).zero⟩ ?_; simp only [aP,lI,l0,lS]
               refine readC (i:=2) (some 105) rfl (.pointer (some ⟨R,0,none⟩)) rfl rfl (by kernel_rfl) rfl (fun _ hS=>(by kernel_rfl)) (by kernel_rfl) (by kernel_rfl) (by kernel_rfl) (by kernel_rfl) (fun _ _ _ h=>h) ⟨M.get mS 0 _ rfl,N_O,(NewW.ofOwn V_).zero⟩ ?_; simp only [aP,lI,l0,lS]
               refine readC (i:=3) (some 106) rfl (.slice (some ⟨g,0,none⟩) ((J'++[q]).length) cj) rfl rfl (by kernel_rfl) rfl (fun _ hS=>load1 27 _ ⟨R,0,none⟩ _ rfl rfl (fun _=>by kernel_rfl) hS.1) (by kernel_rfl) (by kernel_rfl) (by kernel_rfl) (by kernel_rfl) (fun _ _ _ h=>h) ⟨M.get mS 0 _ rfl,N_O,(NewW.ofOwn V_).zero⟩ ?_; simp only [aP,lI,l0,lS]
               refine readC (i:=4) (some 107) rfl (.int .i64 ((J'.length:Nat):Int)) rfl rfl (by kernel_rfl) rfl (fun _ hS=>(by kernel_rfl)) (by kernel_rfl) (by kernel_rfl) (by kernel_rfl) (by kernel_rfl) (fun _ _ _ h=>h) ⟨M.get mS 0 _ rfl,N_O,(NewW.ofOwn V_).zero⟩ ?_; simp only [aP,lI,l0,lS]
               refine readC (i:=5) (some 108) rfl (.slice (some ado) O2.length cv28) rfl rfl (by kernel_rfl) rfl (fun _ hS=>(by kernel_rfl)) (by kernel_rfl) (by kernel_rfl) (by kernel_rfl) (by kernel_rfl) (fun _ _ _ h=>h) ⟨M.get mS 0 _ rfl,N_O,(NewW.ofOwn V_).zero⟩ ?_; simp only [aP,lI,l0,lS]
               refine readC (i:=6) (some 109) rfl (.int .i64 (i:Int)) rfl rfl (by kernel_rfl) rfl (fun _ hS=>(by kernel_rfl)) (by kernel_rfl) (by kernel_rfl) (by kernel_rfl) (by kernel_rfl) (fun _ _ _ h=>h) ⟨M.get mS 0 _ rfl,N_O,(NewW.ofOwn V_).zero⟩ ?_; simp only [aP,lI,l0,lS]
               refine readC (i:=7) (some 110) rfl (.pointer (some (ado.add (i*2)))) rfl rfl (by kernel_rfl) rfl (fun _ hS=>idxR2 ado _ _ i hil _ _ rfl rfl rfl _) (by kernel_rfl) (by kernel_rfl) (by kernel_rfl) (by kernel_rfl) (fun _ _ _ h=>h) ⟨M.get mS 0 _ rfl,N_O,(NewW.ofOwn V_).zero⟩ ?_; simp only [aP,lI,l0,lS]
               refine readC (i:=8) (some 111) rfl (.pointer (some ((ado.add (i*2)).add 1))) rfl rfl (by kernel_rfl) rfl (fun _ hS=>(by kernel_rfl)) (by kernel_rfl) (by kernel_rfl) (by kernel_rfl) (by kernel_rfl) (fun _ _ _ h=>h) ⟨M.get mS 0 _ rfl,N_O,(NewW.ofOwn V_).zero⟩ ?_; simp only [aP,lI,l0,lS]
               refine readC (i:=9) (some 112) rfl (.int .i64 pr.2) rfl rfl (by kernel_rfl) rfl (fun _ hS=>load1 3 _ ((ado.add (i*2)).add 1) _ rfl rfl (fun _=>by kernel_rfl) (NewW.rng hS.2.1 hpr 1 _ rfl)) (by kernel_rfl) (by kernel_rfl) (by kernel_rfl) (by kernel_rfl) (fun _ _ _ h=>h) ⟨M.get mS 0 _ rfl,N_O,(NewW.ofOwn V_).zero⟩ ?_; simp only [aP,lI,l0,lS]
               refine xqC 10 113 rfl (.pointer (some ⟨g,J'.length*2,none⟩)) (fun _=>idxR3 g _ _ J'.length hjk _ _ rfl rfl rfl _) ⟨M.get mS 0 _ rfl,N_O,(NewW.ofOwn V_).zero⟩ ?_
               refine readC (i:=11) (some 114) rfl (.pointer (some ⟨g,J'.length*2+1,none⟩)) rfl rfl (by kernel_rfl) rfl (fun _ hS=>(by kernel_rfl)) (by kernel_rfl) (by kernel_rfl) (by kernel_rfl) (by kernel_rfl) (fun _ _ _ h=>h) ⟨M.get mS 0 _ rfl,N_O,(NewW.ofOwn V_).zero⟩ ?_; simp only [aP,lI,l0,lS]
               have Mp:Mm w0 ((g,[])::(([(R,[.slice (some ⟨g,0,none⟩) ((J'++[q]).length) cj])]:List (Nat × List Value))++((obs (some ado))++l))) w36:=M.perm (pull0 ([(R,[.slice (some ⟨g,0,none⟩) ((J'++[q]).length) cj])]:List (Nat × List Value)) (obs (some ⟨g,0,none⟩)) ((obs (some ado))++l))
               have hgl:=World.ownsRow.lt V_ g rfl; have M2:=Mp.tail.ofRow V_ (g:=g) rfl hb0.size (fun p_ hp_ e_=>(List.pairwise_cons.1 Mp.apart).1 p_ hp_ e_.symm)
               have hjc:J'.length*2+1<(wrc (J'++[q])).length:=by rw [wrc_len,List.length_append,List.length_singleton]; omega
               refine skipC (S2:=fun _=>True) none rfl (by kernel_rfl) rfl rfl (storeAny (.int .i64 pr.2) g (J'.length*2+1) 3 _ _ rfl rfl rfl rfl rfl (M2.isSome mS (J'.length*2+1) hjc) (M2.free mS (J'.length*2+1) hjc) (by kernel_rfl)) (by kernel_rfl) ?_; simp only [Act.put]; have ho:=(Off.refl [g] w36).set (b:=g) mS (J'.length*2+1) (.int .i64 pr.2)
               replace M2:=(M2.set (J'.length*2+1) hjc (.int .i64 pr.2)).untell; replace N_O:=NewW.offB N_O ho (fun b_ hb_=>Mp.awayO (so:=some ⟨g,0,none⟩) (fun p_ hp_=>by simp [hp_]) b_ hb_); replace OF:=OF.and1 ho (.inr hgl.1); replace V_:=ownsRow_put V_ (J'.length*2+1) (.int .i64 pr.2)
               rw [wrc_put] at V_
               clear M Mp ho hjc
               have M:Mm w0 ((R,[.slice (some ⟨g,0,none⟩) ((J'++[q]).length) cj])::((obs (some ⟨g,0,none⟩))++((obs (some ado))++l))) _:=M2.perm (pull0 ([(R,[.slice (some ⟨g,0,none⟩) ((J'++[q]).length) cj])]:List (Nat × List Value)) (obs (some ⟨g,0,none⟩)) ((obs (some ado))++l)).symm
               clear M2; generalize w36.setCell ⟨g,J'.length*2+1,none⟩ (.int .i64 pr.2)=w37 at M V_ N_O OF ⊢
               replace M:Mm w0 ((R,[.slice (some ⟨g,0,none⟩) ((J'++[q]).length) cj])::((obs (some ⟨g,0,none⟩))++((obs (some ado))++l))) w37:=M
               refine wpAnyH_done (by kernel_rfl) ?_ _
               first | show Exit.then _ _ _ _ _ | show Exit.inBlock _ _ _ _ _
               rw [show (J'++[q]).length=(J'++[(q.1,pr.2)]).length by simp] at M V_
               have HS:=show Hid _ from (show Jnd O2 (i+1) (J'++[(q.1,pr.2)])∧w37.ownsRow w.heap.size 34 2 (.slice (some ⟨g,0,none⟩) (J'++[(q.1,pr.2)]).length cj) (J'++[(q.1,pr.2)]).length (wrc (J'++[(q.1,pr.2)]))∧Mm w0 ((R,[.slice (some ⟨g,0,none⟩) (J'++[(q.1,pr.2)]).length cj])::(obs (some ⟨g,0,none⟩)++(obs (some ado)++l))) w37∧NewW w37 0 O2 (.slice (some ado) O2.length cv28)∧Off [R] w w37 from ⟨I2.join hwk hpr he,V_,M,N_O,OF⟩)
               clear M V_ N_O OF I2 he; go_wp2
               go_roundw
               case rel=>exact ⟨i+1,_,_,_,by omega,by go_num,HS.out⟩
               case measure=>simp [intOf]; omega
             · go_upto_region 22 with fail
               have hdr:=(Below.refl wr.heap.size wr).drew; replace M:=M.drew; replace V_:=ownsRow_bel V_ hdr; replace N_O:=NewW.below N_O hdr; replace OF:=OF.below hdr; clear hdr
               refine wp_region_held_drew (S:=fun w'=>w'.cell? ⟨R,0,none⟩=some (.slice (some ⟨g,0,none⟩) (J'++[q]).length cj)∧NewW w' 0 O2 (.slice (some ado) O2.length cv28)∧NewW w' 0 (J'++[q]) (.slice (some ⟨g,0,none⟩) (J'++[q]).length cj)) (by kernel_rfl) ⟨M.get mS 0 _ rfl,N_O,(NewW.ofOwn V_).zero⟩ ?_; intro _; generalize wr.drew=w38 at M V_ N_O OF ⊢
               refine xrH 0 85 rfl (.int .i64 ((J'.length:Nat):Int)) (fun _ hS=>(by kernel_rfl)) ⟨M.get mS 0 _ rfl,N_O,(NewW.ofOwn V_).zero⟩ ?_; refine xrH 1 86 rfl (.bool true) (fun _ hS=>geqI .i64 _ _ _ _ _ _ rfl rfl rfl true (decide_eq_true (by omega)) _) ⟨M.get mS 0 _ rfl,N_O,(NewW.ofOwn V_).zero⟩ ?_
               refine xrH 2 87 rfl (.bool true) (fun _ hS=>(by kernel_rfl)) ⟨M.get mS 0 _ rfl,N_O,(NewW.ofOwn V_).zero⟩ ?_; refine xrH 3 88 rfl (.pointer (some ⟨R,0,none⟩)) (fun _ hS=>(by kernel_rfl)) ⟨M.get mS 0 _ rfl,N_O,(NewW.ofOwn V_).zero⟩ ?_; refine xrH 4 89 rfl (.pointer (some ⟨R,0,none⟩)) (fun _ hS=>(by kernel_rfl)) ⟨M.get mS 0 _ rfl,N_O,(NewW.ofOwn V_).zero⟩ ?_
               refine xrH 5 90 rfl (.pointer (some ⟨R,0,none⟩)) (fun _ hS=>(by kernel_rfl)) ⟨M.get mS 0 _ rfl,N_O,(NewW.ofOwn V_).zero⟩ ?_; refine xrH 6 91 rfl (.slice (some ⟨g,0,none⟩) ((J'++[q]).length) cj) (fun _ hS=>load1 27 _ ⟨R,0,none⟩ _ rfl rfl (fun _=>by kernel_rfl) hS.1) ⟨M.get mS 0 _ rfl,N_O,(NewW.ofOwn V_).zero⟩ ?_
               refine xrH 7 92 rfl (.int .i64 ((J'.length:Nat):Int)) (fun _ hS=>(by kernel_rfl)) ⟨M.get mS 0 _ rfl,N_O,(NewW.ofOwn V_).zero⟩ ?_; refine xrH 8 93 rfl (.pointer (some ((⟨g,0,none⟩:Addr).add (J'.length*2)))) (fun _ hS=>idxR2 (⟨g,0,none⟩:Addr) _ _ J'.length hjk _ _ rfl rfl rfl _) ⟨M.get mS 0 _ rfl,N_O,(NewW.ofOwn V_).zero⟩ ?_
               refine xrH 9 94 rfl (.pointer (some (((⟨g,0,none⟩:Addr).add (J'.length*2)).add 1))) (fun _ hS=>(by kernel_rfl)) ⟨M.get mS 0 _ rfl,N_O,(NewW.ofOwn V_).zero⟩ ?_
               refine xrH 10 95 rfl (.int .i64 q.2) (fun _ hS=>load1 3 _ (((⟨g,0,none⟩:Addr).add (J'.length*2)).add 1) _ rfl rfl (fun _=>by kernel_rfl) (NewW.rng hS.2.2 hjq 1 _ rfl)) ⟨M.get mS 0 _ rfl,N_O,(NewW.ofOwn V_).zero⟩ ?_; refine xrH 11 96 rfl (.slice (some ado) O2.length cv28) (fun _ hS=>(by kernel_rfl)) ⟨M.get mS 0 _ rfl,N_O,(NewW.ofOwn V_).zero⟩ ?_
               refine xrH 12 97 rfl (.int .i64 (i:Int)) (fun _ hS=>(by kernel_rfl)) ⟨M.get mS 0 _ rfl,N_O,(NewW.ofOwn V_).zero⟩ ?_; refine xrH 13 98 rfl (.pointer (some (ado.add (i*2)))) (fun _ hS=>idxR2 ado _ _ i hil _ _ rfl rfl rfl _) ⟨M.get mS 0 _ rfl,N_O,(NewW.ofOwn V_).zero⟩ ?_
               refine xrH 14 99 rfl (.pointer (some ((ado.add (i*2)).add 0))) (fun _ hS=>(by kernel_rfl)) ⟨M.get mS 0 _ rfl,N_O,(NewW.ofOwn V_).zero⟩ ?_; refine xrH 15 100 rfl (.int .i64 pr.1) (fun _ hS=>load1 3 _ ((ado.add (i*2)).add 0) _ rfl rfl (fun _=>by kernel_rfl) (NewW.rng hS.2.1 hpr 0 _ rfl)) ⟨M.get mS 0 _ rfl,N_O,(NewW.ofOwn V_).zero⟩ ?_
               refine xrH 16 101 rfl (.bool false) (fun _ hS=>eqlI .i64 _ _ _ _ _ _ rfl rfl rfl false (by rw [beq_eq_false_iff_ne]; exact he) _) ⟨M.get mS 0 _ rfl,N_O,(NewW.ofOwn V_).zero⟩ ?_; refine xrH 17 102 rfl (.bool false) (fun _ hS=>(by kernel_rfl)) ⟨M.get mS 0 _ rfl,N_O,(NewW.ofOwn V_).zero⟩ ?_
               refine wpAnyH_done (by kernel_rfl) ?_ _
               first | show Exit.then _ _ _ _ _ | show Exit.inBlock _ _ _ _ _
               go_upto_region 24 with fail; have hdr:=(Below.refl w38.heap.size w38).drew; replace M:=M.drew; replace V_:=ownsRow_bel V_ hdr; replace N_O:=NewW.below N_O hdr; replace OF:=OF.below hdr; clear hdr
               refine wp_region_C (S:=fun w'=>w'.cell? ⟨R,0,none⟩=some (.slice (some ⟨g,0,none⟩) (J'++[q]).length cj)∧NewW w' 0 O2 (.slice (some ado) O2.length cv28)∧True) 13 (by kernel_rfl) ⟨M.get mS 0 _ rfl,N_O,trivial⟩ ?_; intro _; generalize w38.drew=w39 at M V_ N_O OF ⊢
               refine readC (i:=0) (some 115) rfl (.pointer (some ⟨R,0,none⟩)) rfl rfl (by kernel_rfl) rfl (fun _ hS=>(by kernel_rfl)) (by kernel_rfl) (by kernel_rfl) (by kernel_rfl) (by kernel_rfl) (fun _ _ _ h=>h) ⟨M.get mS 0 _ rfl,N_O,trivial⟩ ?_; simp only [aP,lI,l0,lS]
               refine readC (i:=1) (some 116) rfl (.pointer (some ⟨R,0,none⟩)) rfl rfl (by kernel_rfl) rfl (fun _ hS=>(by kernel_rfl)) (by kernel_rfl) (by kernel_rfl) (by kernel_rfl) (by kernel_rfl) (fun _ _ _ h=>h) ⟨M.get mS 0 _ rfl,N_O,trivial⟩ ?_; simp only [aP,lI,l0,lS]
               refine readC (i:=2) (some 117) rfl (.pointer (some ⟨R,0,none⟩)) rfl rfl (by kernel_rfl) rfl (fun _ hS=>(by kernel_rfl)) (by kernel_rfl) (by kernel_rfl) (by kernel_rfl) (by kernel_rfl) (fun _ _ _ h=>h) ⟨M.get mS 0 _ rfl,N_O,trivial⟩ ?_; simp only [aP,lI,l0,lS]
               refine readC (i:=3) (some 118) rfl (.pointer (some ⟨R,0,none⟩)) rfl rfl (by kernel_rfl) rfl (fun _ hS=>(by kernel_rfl)) (by kernel_rfl) (by kernel_rfl) (by kernel_rfl) (by kernel_rfl) (fun _ _ _ h=>h) ⟨M.get mS 0 _ rfl,N_O,trivial⟩ ?_; simp only [aP,lI,l0,lS]
               refine readC (i:=4) (some 119) rfl (.slice (some ⟨g,0,none⟩) ((J'++[q]).length) cj) rfl rfl (by kernel_rfl) rfl (fun _ hS=>load1 27 _ ⟨R,0,none⟩ _ rfl rfl (fun _=>by kernel_rfl) hS.1) (by kernel_rfl) (by kernel_rfl) (by kernel_rfl) (by kernel_rfl) (fun _ _ _ h=>h) ⟨M.get mS 0 _ rfl,N_O,trivial⟩ ?_; simp only [aP,lI,l0,lS]
               refine readC (i:=5) (some 120) rfl (.slice (some ado) O2.length cv28) rfl rfl (by kernel_rfl) rfl (fun _ hS=>(by kernel_rfl)) (by kernel_rfl) (by kernel_rfl) (by kernel_rfl) (by kernel_rfl) (fun _ _ _ h=>h) ⟨M.get mS 0 _ rfl,N_O,trivial⟩ ?_; simp only [aP,lI,l0,lS]
               refine readC (i:=6) (some 121) rfl (.int .i64 (i:Int)) rfl rfl (by kernel_rfl) rfl (fun _ hS=>(by kernel_rfl)) (by kernel_rfl) (by kernel_rfl) (by kernel_rfl) (by kernel_rfl) (fun _ _ _ h=>h) ⟨M.get mS 0 _ rfl,N_O,trivial⟩ ?_; simp only [aP,lI,l0,lS]
               refine readC (i:=7) (some 122) rfl (.pointer (some (ado.add (i*2)))) rfl rfl (by kernel_rfl) rfl (fun _ hS=>idxR2 ado _ _ i hil _ _ rfl rfl rfl _) (by kernel_rfl) (by kernel_rfl) (by kernel_rfl) (by kernel_rfl) (fun _ _ _ h=>h) ⟨M.get mS 0 _ rfl,N_O,trivial⟩ ?_; simp only [aP,lI,l0,lS]
               refine readC (i:=8) (some 123) rfl (.agg #[.int .i64 pr.1,.int .i64 pr.2]) rfl rfl (by kernel_rfl) rfl (fun _ hS=>loadN 34 _ (ado.add (i*2)) [.int .i64 pr.1,.int .i64 pr.2] rfl rfl (fun _=>by kernel_rfl) (fun _=>by kernel_rfl) (NewW.rng hS.2.1 hpr)) (by kernel_rfl) (by kernel_rfl) (by kernel_rfl) (by kernel_rfl) (fun _ _ _ h=>h) ⟨M.get mS 0 _ rfl,N_O,trivial⟩ ?_
               simp only [aP,lI,l0,lS]; have S_1:=World.ownsRow.cells (World.ownsRow_lit (base:=w39.heap.size) (e:=34) (size:=2) w39 #[.int .i64 pr.1,.int .i64 pr.2] 1 (xnR _) (by unfold maxLen; omega) rfl) (g:=w39.heap.size) rfl; have hlb:=(Below.refl w39.heap.size w39).alloc (xnR _) (.cells #[.int .i64 pr.1,.int .i64 pr.2] 34); replace V_:=ownsRow_bel V_ hlb
               replace N_O:=NewW.below N_O hlb; replace OF:=OF.below hlb; replace M:=M.call hlb; clear hlb; refine onlyC (i:=9) (w':=w39.alloc (.cells #[.int .i64 pr.1,.int .i64 pr.2] 34)) (some 124) rfl (.slice (some ⟨w39.heap.size,0,none⟩) 1 1) (by kernel_rfl) rfl rfl (by kernel_rfl) ⟨M.get mS 0 _ rfl,N_O,trivial⟩ ?_; simp only [aP,lI,l0,lS]
               generalize w39.alloc (.cells #[.int .i64 pr.1,.int .i64 pr.2] 34)=w40 at M S_1 V_ N_O OF ⊢; generalize w39.heap.size=bz at S_1 ⊢
               obtain ⟨v2,w41,hr,V2,hgr,hg2⟩:=run_append_OwnV (P:=Try.prog) (ty:=27) Try.underlying27 manyW rfl (by decide) V_ ⟨bz,0,none⟩ 1 1 [.int .i64 pr.1,.int .i64 pr.2] rfl S_1 (wrc_one [(pr.1,pr.2)]) (by unfold maxLen; (try simp only [List.length_append,List.length_cons,List.length_nil]); omega) (by (try simp only [List.length_append,List.length_cons,List.length_nil]); omega) OF.size
               have Mp:=M.perm (pull0 ([(R,[.slice (some ⟨g,0,none⟩) ((J'++[q]).length) cj])]:List (Nat × List Value)) (obs (some ⟨g,0,none⟩)) ((obs (some ado))++l)); have ho:=Off.grown (Off.refl (ob (some ⟨g,0,none⟩)) w40) hgr (fun b_ hb_=>.inl ((ob_own _ _ _ b_).1 hb_)); replace N_O:=NewW.offB N_O ho (Mp.awayO (fun p_ hp_=>by simp [hp_]))
               replace OF:=OF.grown hgr (fun b_ hb_=>.inr (World.ownsRow.lt V_ b_ hb_).1)
               obtain ⟨sv41,cv41,rfl,_,_⟩:=row_form16 V2
               have M':=Mp.rowApp V_ hgr V2 hg2 hb0.size
               have M:=M'.perm (pull0 ([(R,[.slice (some ⟨g,0,none⟩) ((J'++[q]).length) cj])]:List (Nat × List Value)) (obs sv41) ((obs (some ado))++l)).symm; refine onlyC (i:=10) (some 125) rfl (_) (by kernel_rfl) rfl rfl (appendOp _ _ 27 _ _ _ rfl rfl rfl hr) ⟨M.get mS 0 _ rfl,N_O,trivial⟩ ?_; simp only [aP,lI,l0,lS]
               rw [show (J'++[q]).length+1=((J'++[q])++[(pr.1,pr.2)]).length from len_snoc (J'++[q]) (pr.1,pr.2)] at V2 ⊢
               replace V2:w41.ownsRow w.heap.size 34 2 (.slice sv41 ((J'++[q])++[(pr.1,pr.2)]).length cv41) ((J'++[q])++[(pr.1,pr.2)]).length (wrc ((J'++[q])++[(pr.1,pr.2)])):=by rw [wrc_app]; exact V2
               clear hr hgr hg2 ho V_ S_1 Mp M; have V_:=V2; clear V2
               have M:Mm w0 ((R,[.slice (some ⟨g,0,none⟩) ((J'++[q]).length) cj])::((obs sv41)++((obs (some ado))++l))) w41:=M'.perm (pull0 ([(R,[.slice (some ⟨g,0,none⟩) ((J'++[q]).length) cj])]:List (Nat × List Value)) (obs sv41) ((obs (some ado))++l)).symm
               clear M'; refine xqC 11 126 rfl (.pointer (some ⟨R,0,none⟩)) (fun _=>(by kernel_rfl)) ⟨M.get mS 0 _ rfl,N_O,trivial⟩ ?_; refine readC (i:=12) (some 127) rfl (.pointer (some ⟨R,0,none⟩)) rfl rfl (by kernel_rfl) rfl (fun _ hS=>(by kernel_rfl)) (by kernel_rfl) (by kernel_rfl) (by kernel_rfl) (by kernel_rfl) (fun _ _ _ h=>h) ⟨M.get mS 0 _ rfl,N_O,trivial⟩ ?_
               simp only [aP,lI,l0,lS]; refine skipC (S2:=fun _=>True) none rfl (by kernel_rfl) rfl rfl (storeAny (.slice sv41 (((J'++[q])++[(pr.1,pr.2)]).length) cv41) R 0 27 _ _ rfl rfl rfl rfl rfl (M.isSome mS 0 (by simp)) (M.free mS 0 (by simp)) (by kernel_rfl)) (by kernel_rfl) ?_; simp only [Act.put]
               replace M:=M.set 0 (by simp) (.slice sv41 (((J'++[q])++[(pr.1,pr.2)]).length) cv41); replace V_:=ownsRow_away V_ ((Off.refl [R] _).set (b:=R) mS 0 (.slice sv41 (((J'++[q])++[(pr.1,pr.2)]).length) cv41)) (fun b_ hb_=>by obtain rfl:=xm1 hb_; exact M.awayB (fun p_ hp_=>by simp [hp_]))
               replace N_O:=NewW.offB N_O ((Off.refl [R] _).set (b:=R) mS 0 (.slice sv41 (((J'++[q])++[(pr.1,pr.2)]).length) cv41)) (fun b_ hb_=>by obtain rfl:=xm1 hb_; exact M.awayB (fun p_ hp_=>by simp [hp_])); replace OF:=OF.trans ((Off.refl [R] _).set (b:=R) mS 0 (.slice sv41 (((J'++[q])++[(pr.1,pr.2)]).length) cv41))
               generalize w41.setCell ⟨R,0,none⟩ (.slice sv41 (((J'++[q])++[(pr.1,pr.2)]).length) cv41)=w42 at M V_ N_O OF ⊢
               replace M:Mm w0 ((R,[.slice sv41 (((J'++[q])++[(pr.1,pr.2)]).length) cv41])::((obs sv41)++((obs (some ado))++l))) w42:=M
               refine wpAnyH_done (by kernel_rfl) ?_ _
               first | show Exit.then _ _ _ _ _ | show Exit.inBlock _ _ _ _ _
               have HS:=show Hid _ from (show Jnd O2 (i+1) ((J'++[q])++[(pr.1,pr.2)])∧w42.ownsRow w.heap.size 34 2 (.slice sv41 ((J'++[q])++[(pr.1,pr.2)]).length cv41) ((J'++[q])++[(pr.1,pr.2)]).length (wrc ((J'++[q])++[(pr.1,pr.2)]))∧Mm w0 ((R,[.slice sv41 ((J'++[q])++[(pr.1,pr.2)]).length cv41])::(obs sv41++(obs (some ado)++l))) w42∧NewW w42 0 O2 (.slice (some ado) O2.length cv28)∧Off [R] w w42 from ⟨I2.more hwk hpr (fun q_ hq_=>by rw [List.getLast?_append] at hq_; simp at hq_; subst hq_; exact he),V_,M,N_O,OF⟩)
               clear M V_ N_O OF I2; go_wp2
               go_roundw
               case rel=>exact ⟨i+1,_,_,_,by omega,by go_num,HS.out⟩
               case measure=>simp [intOf]; omega
         · obtain rfl:i=O2.length:=by omega
           have hJ:=joined (f:=f) (t:=t) hc (by omega) hO I2; subst hJ; have hb2:=rtot_in I2.c; have N_J:=(NewW.ofOwn V_).zero; clear V_ N_O
           replace M:Mm w0 ((R,[.slice sj ((rad L f t).length) cj])::((obs sj)++((obs sv28)++l))) wr:=M
           go_upto_region 19 with fail; refine wp_region_list ?_; refine xpL (.int .i64 ((O2.length:Nat):Int)) ?_; refine xpL (.slice sv28 O2.length cv28) ?_; refine xaL (.int .i64 ((O2.length:Nat):Int)) (lenS _ 27 34 sv28 O2.length cv28 rfl Try.underlying27 rfl _) ?_; refine xaL (.bool false) (lssI .i64 _ _ _ _ _ _ rfl rfl rfl false (decide_eq_false (by omega)) _) ?_; refine xT ?_
           go_upto_region 25 with fail; refine wp_region_list ?_; refine xpL (.pointer (some ⟨R,0,none⟩)) ?_; refine xcL (dtot_any R sj cj (rad L f t) I2.c (by omega) _ (M.get mS 0 _ rfl) N_J) ?_; rintro e w43 ⟨rfl,l⟩; replace M:=M.call l; replace N_J:=NewW.below N_J l; replace OF:=OF.below l; clear l; refine xeL ?_; refine xpL (.int .i64 (rtot L)) ?_
           refine xaL (.int .i64 (radN L f t)) (subI .i64 _ _ _ _ _ _ _ rfl rfl rfl (by rw [xw6]; unfold radN; omega) _) ?_; refine xpL (.int .i64 (radN L f t)) ?_; refine xT ?_
           have M2:Mm w0 ((R,[.slice sj (rad L f t).length cj])::(obs sj++l)) w43:=M.sub _ (List.cons_sublist_cons.2 ((List.Sublist.refl _).append (List.sublist_append_right _ _)))
           have HS:=show Hid _ from (And.intro M2 (And.intro N_J OF)); clear M M2 N_J OF I2; go_wp2; go_ret
           first | exact ⟨sj,cj,rfl,HS.out⟩ | exact ⟨rfl,sj,cj,HS.out⟩
end Go.Proofs.Ytakfcgbiodfmhaa
