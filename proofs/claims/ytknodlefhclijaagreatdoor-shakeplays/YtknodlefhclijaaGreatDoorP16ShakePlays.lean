/- Texts of Kd, joined. -/
import Derived.Test.YtknodlefhclijaaGreatDoorP15ShakePlays
set_option maxRecDepth 20000
set_option maxHeartbeats 64000000
namespace Go.Proofs.YtknodlefhclijaaGreatDoor
open Go.RowKit
theorem j0r {w:World} {ad:Addr} {n:Nat} {z:Nat→Int} (h:Src w (some ad) n z) (hn:32≤n):∀ j v,(row .u8 32 z)[j]?=some v→w.cell? (ad.add j)=some v:=fun j v hv=>by
 have hj:j<32:=by
  rcases Nat.lt_or_ge j 32 with h' | h'
  · exact h'
  rw [List.getElem?_eq_none KV] at hv; cases hv
 rw [xG _ _ _ _ hj] at hv
 injection hv with hv
 rw [← hv]
 exact h.at j JK
theorem sW (w0 w:World) (l:List (Nat × List Value)) (k:Nat→Int) (hk:In 256 32 k) (hg:HGlob13 w0) (M:Mm w0 l w) :
 Calls Tryz.prog 29 #[(.agg (row .u8 32 (k)).toArray)] w fun e w'=>∃ A,e=.returned (.agg ([row .u8 32 (bl (LD.pub k)),[kfv A]].flatten).toArray)∧w.heap.size≤A∧Mm w0 ((A,row .u8 32 k)::l) w'∧Below w.heap.size w w':=by
 have hb0:=M.below; have hwz:=xnR w.heap.size; have OF:=Off.refl [] w
 go_enter Tryz.func29,Tryz.ntmps29
 go_upto_region 0 with fail; refine wR ?_; refine nbO (row .u8 32 k) 23 M hwz OF ?_; clear M hwz OF; intro w1 B1 hB_B1 M hwz OF
 refine nbO ([row .u8 32 (fun _=>0),[Value.nilFunc]].flatten) 59 M hwz OF ?_; clear M hwz OF; intro w2 B2 hB_B2 M hwz OF
 refine xT ?_; go_upto_region 1 with fail; refine wR (xaL (.agg (row .u8 32 k).toArray) (jD 23 _ ⟨B1,0,none⟩ (row .u8 32 k) rfl rfl JW JH (M.part (mT _ mS) 0 _ Jd)) ?_); refine clO (nS k hk _ (hg.mm M).k (hg.mm M).t) M hwz OF ?_; clear M hwz OF; intro w3 M hwz OF; refine xpL (kfv B1) ?_; refine xpL (.agg ([row .u8 32 (bl (LD.pub k)),[kfv B1]].flatten).toArray) ?_
 refine jG rfl (jC ([row .u8 32 (bl (LD.pub k)),[kfv B1]].flatten) B2 0 59 _ _ rfl rfl rfl (M.thereP mS 0 33 (by rw [qY _ [32,1] JU]; decide)) (by rw [xA,qY _ [32,1] JU]; kernel_rfl) (zF _ (fun p_ hp_=>by
  simp only [List.mem_cons,List.not_mem_nil,or_false] at hp_; rcases hp_ with rfl | rfl <;> first | exact jT .u8 32 _ | exact yB _ | (intro u hu; obtain rfl:=xm1 hu; rfl)))) ?_
 simp only [Act.put]; replace M:=M.setAll ([row .u8 32 (bl (LD.pub k)),[kfv B1]].flatten) (by rw [qY _ [32,1] JU,qY _ [32,1] JU]); replace hwz:=xnT hwz (Off.size ((Off.refl [B2] _).setAll (b:=B2) mS 0 ([row .u8 32 (bl (LD.pub k)),[kfv B1]].flatten)))
 replace OF:=OF.and1 ((Off.refl [B2] _).setAll (b:=B2) mS 0 ([row .u8 32 (bl (LD.pub k)),[kfv B1]].flatten)) (.inr JK); generalize w3.setCells B2 0 ([row .u8 32 (bl (LD.pub k)),[kfv B1]].flatten)=w4 at M hwz OF ⊢; refine xT ?_
 have M2:Mm w0 ((B1,row .u8 32 k)::l) w4:=M.sub _ (by first | exact List.Sublist.cons _ (List.Sublist.refl _) | exact List.cons_sublist_cons.2 (List.Sublist.cons _ (List.Sublist.refl _)))
 have c1_:=M.part mS 0 ([row .u8 32 (bl (LD.pub k)),[kfv B1]].flatten) Jd
 have hbel:Below w.heap.size w w4:=⟨M.below.os.trans hb0.os.symm,M.below.tape.trans hb0.tape.symm,M.below.output.trans hb0.output.symm,OF.size,fun b hb=>OF.blk b hb VZ⟩
 have HS:=show Hid _ from (And.intro hB_B1 M2); clear M2; clear M OF; go_wp2
 refine bRq (v:=.agg ([row .u8 32 (bl (LD.pub k)),[kfv B1]].flatten).toArray) (rL 2 59 ⟨B2,0,none⟩ ([row .u8 32 (bl (LD.pub k)),[kfv B1]].flatten) rfl rfl JW UJ c1_) rfl ?_
 exact ⟨B1,rfl,HS.out.1,HS.out.2,hbel⟩
theorem j6q (w0 w:World) (A:Nat) (l:List (Nat × List Value)) (k u:Nat→Int) (hk:In 256 32 k) (hu:In 256 32 u) (hg:HGlob13 w0) (hA:(A,row .u8 32 k)∈l) (M:Mm w0 l w) :
 Calls Tryz.prog 47 #[(.agg (row .u8 32 (u)).toArray),.pointer (some ⟨A,0,none⟩)] w fun e w'=>e=.returned (.tuple #[(.agg (row .u8 32 (bl (lby (tm k u)))).toArray),.int .i64 (ekd k u)])∧Below w.heap.size w w':=by
 have hb0:=M.below; have hwz:=xnR w.heap.size; have OF:=Off.refl [] w
 go_enter Tryz.func47,Tryz.ntmps47
 go_upto_region 0 with fail; refine wR ?_; refine nbO (row .u8 32 u) 23 M hwz OF ?_; clear M hwz OF; intro w1 B1 hB_B1 M hwz OF
 refine nbO (row .u8 32 (fun _=>0)) 23 M hwz OF ?_; clear M hwz OF; intro w2 B2 hB_B2 M hwz OF
 refine xmL (xT ?_); go_upto_region 1 with fail; refine wR (xaL (.agg (row .u8 32 k).toArray) (jD 23 _ ⟨A,0,none⟩ (row .u8 32 k) rfl rfl JW JH (M.part (mT _ (mT _ hA)) 0 _ Jd)) ?_)
 refine xaL (.agg (row .u8 32 u).toArray) (jD 23 _ ⟨B1,0,none⟩ (row .u8 32 u) rfl rfl JW JH (M.part (mT _ mS) 0 _ Jd)) ?_; refine clO (j3y k u hk hu _ (hg.mm M).k (hg.mm M).t) M hwz OF ?_; clear M hwz OF; intro w3 M hwz OF; refine xm2 ?_; refine jG rfl (jC (row .u8 32 (bl (lby (tm k u)))) B2 0 23 _ _ rfl rfl rfl (M.thereP mS 0 32 (nB rfl)) JU (jT .u8 32 (bl (lby (tm k u))))) ?_
 simp only [Act.put]
 replace M:=M.setAll (row .u8 32 (bl (lby (tm k u)))) Jg; replace hwz:=xnT hwz (Off.size ((Off.refl [B2] _).setAll (b:=B2) mS 0 (row .u8 32 (bl (lby (tm k u)))))); replace OF:=OF.and1 ((Off.refl [B2] _).setAll (b:=B2) mS 0 (row .u8 32 (bl (lby (tm k u))))) (.inr JK)
 generalize w3.setCells B2 0 (row .u8 32 (bl (lby (tm k u))))=w4 at M hwz OF ⊢; refine xmL (xT ?_); have c1_:=M.part mS 0 (row .u8 32 (bl (lby (tm k u)))) Jd
 have hbel:Below w.heap.size w w4:=⟨M.below.os.trans hb0.os.symm,M.below.tape.trans hb0.tape.symm,M.below.output.trans hb0.output.symm,OF.size,fun b hb=>OF.blk b hb VZ⟩
 clear M OF
 rw [show (if tm k u=0 then (20:Int) else 0)=ekd k u from rfl]
 go_wp2; refine bRq (v:=.tuple #[(.agg (row .u8 32 (bl (lby (tm k u)))).toArray),.int .i64 (ekd k u)]) (uU 3 4 23 ⟨B2,0,none⟩ (row .u8 32 (bl (lby (tm k u)))) _ rfl rfl rfl JW JH c1_) rfl ?_
 exact ⟨rfl,hbel⟩
theorem j4c (w0 w:World) (l:List (Nat × List Value)) (B:List Int) (hB:B.length=32) (hBb:Byts B) (hg:HGlob13 w0) (M:Mm w0 l w) :
 Calls Tryz.prog 28 #[(.agg (row .u8 32 (bl B)).toArray)] w fun e w'=>e=.returned (.agg (jA (jU uS B)).toArray)∧Below w.heap.size w w':=by
 have hb0:=M.below; have hwz:=xnR w.heap.size; have OF:=Off.refl [] w
 go_enter Tryz.func28,Tryz.ntmps28
 go_upto_region 0 with fail; refine wR ?_; refine nbO (row .u8 32 (bl B)) 23 M hwz OF ?_; clear M hwz OF; intro w1 B1 hB_B1 M hwz OF
 refine nbO (jA uQ) 56 M hwz OF ?_; clear M hwz OF; intro w2 B2 hB_B2 M hwz OF
 refine xT ?_; go_upto_region 1 with fail; refine wR ?_; refine xcL (j5e w0 _ _ hg.s M) ?_; rintro e w3 ⟨B3,rfl,hq_,M',l⟩; have hB_B3:=xnT hwz hq_; clear M hq_; have M:=M'; clear M'; replace hwz:=xnT hwz l.size; replace OF:=OF.below l; clear l; refine xeL ?_; refine xmL (xT ?_); go_upto_region 2 with fail
 refine wR (xmL ?_); refine xaL (.slice (some ⟨B1,0,none⟩) 32 32) (yR 23 _ _ _ rfl rfl JU) ?_
 refine xcL (x4w w0 _ B3 _ uS hg.s snew_w (some ⟨B1,0,none⟩) 32 JG B hB hBb Jq M (M.srcA (mI 2 rfl) 0 32 (bl B) Jd [B3] UU)) ?_
 rintro e w4 ⟨rfl,M',o1⟩; clear M; have M:=M'; clear M'; replace hwz:=xnT hwz (Off.size o1); replace OF:=OF.and1 o1 (.inr JK); clear o1; refine xeL (xT ?_); go_upto_region 3 with fail; refine wR (xmL ?_); refine xpL (.pointer (some ⟨B3,0,none⟩)) ?_
 refine xaL (.agg (jA (jU uS B)).toArray) (jD 56 _ ⟨B3,0,none⟩ (jA (jU uS B)) rfl rfl JW Us (M.part mS 0 _ Jd)) ?_; replace M:=M.swap
 refine jG rfl (jC (jA (jU uS B)) B2 0 56 _ _ rfl rfl rfl (M.thereP mS 0 98 (by rw [yJ]; decide)) Wl (yB _)) ?_; simp only [Act.put]; replace M:=M.setAll (jA (jU uS B)) (by simp only [yJ]); replace hwz:=xnT hwz (Off.size ((Off.refl [B2] _).setAll (b:=B2) mS 0 (jA (jU uS B))))
 replace OF:=OF.and1 ((Off.refl [B2] _).setAll (b:=B2) mS 0 (jA (jU uS B))) (.inr JK); generalize w4.setCells B2 0 (jA (jU uS B))=w5 at M hwz OF ⊢
 refine xT ?_; have c1_:=M.part mS 0 (jA (jU uS B)) Jd
 have hbel:Below w.heap.size w w5:=⟨M.below.os.trans hb0.os.symm,M.below.tape.trans hb0.tape.symm,M.below.output.trans hb0.output.symm,OF.size,fun b hb=>OF.blk b hb VZ⟩
 clear M OF; go_wp2; refine bRq (v:=.agg (jA (jU uS B)).toArray) (rL 2 56 ⟨B2,0,none⟩ (jA (jU uS B)) rfl rfl JW Us c1_) rfl ?_
 exact ⟨rfl,hbel⟩
theorem vL (w0 w:World) (N A:Nat) (l:List (Nat × List Value)) (v0:Value) (ps:List (List Value)) (st:Sym) (hg:HGlob13 w0) (hsw:SymW st) (p k u:Nat→Int) (hk:In 256 32 k) (hu:In 256 32 u) (hA:(A,row .u8 32 k)∈l) (M:Mm w0 ((N,pcx v0 ps st)::l) w) :
 Calls Tryz.prog 57 #[.pointer (some ⟨N,0,none⟩),.agg ([row .u8 32 p,[kfv A]].flatten).toArray,(.agg (row .u8 32 (u)).toArray)] w fun e w'=>e=.returned (.int .i64 (ekd k u))∧Mm w0 ((N,pcx v0 ps (skd st k u))::l) w'∧Off [N] w w':=by
 have hNw:=M.lt mS; have hwz:=xnR w.heap.size; have OF:=Off.refl [N] w
 go_enter Tryz.func57,Tryz.ntmps57
 go_upto_region 0 with fail; refine wR ?_; refine nbO ([row .u8 32 p,[kfv A]].flatten) 59 M hwz OF ?_; clear M hwz OF; intro w1 B1 hB_B1 M hwz OF
 refine nbO (row .u8 32 u) 23 M hwz OF ?_; clear M hwz OF; intro w2 B2 hB_B2 M hwz OF
 refine xmL (xT ?_); go_upto_region 1 with fail; refine wR (xpL (.pointer (some ⟨B1,32,none⟩)) ?_); refine xaL _ (qL _ _ ⟨B1,32,none⟩ _ rfl rfl JW (M.get (mT _ mS) 32 _ (xV _ [32,1] JU 1 32 _ rfl rfl))) ?_
 refine xaL (.agg (row .u8 32 u).toArray) (jD 23 _ ⟨B2,0,none⟩ (row .u8 32 u) rfl rfl JW JH (M.part mS 0 _ Jd)) ?_; refine clO (j6q w0 _ A _ k u hk hu hg (mT _ (mT _ (mT _ hA))) M) M hwz OF ?_; clear M hwz OF; intro w3 M hwz OF; refine xm3 ?_; refine nbO (row .u8 32 (fun _=>0)) 23 M hwz OF ?_
 clear M hwz OF; intro w4 B4 hB_B4 M hwz OF
 refine jG rfl (jC (row .u8 32 (bl (lby (tm k u)))) B4 0 23 _ _ rfl rfl rfl (M.thereP mS 0 32 (nB rfl)) JU (jT .u8 32 (bl (lby (tm k u))))) ?_; simp only [Act.put]; replace M:=M.setAll (row .u8 32 (bl (lby (tm k u)))) Jg
 replace hwz:=xnT hwz (Off.size ((Off.refl [B4] _).setAll (b:=B4) mS 0 (row .u8 32 (bl (lby (tm k u)))))); replace OF:=OF.and1 ((Off.refl [B4] _).setAll (b:=B4) mS 0 (row .u8 32 (bl (lby (tm k u))))) (.inr JK); generalize w4.setCells B4 0 (row .u8 32 (bl (lby (tm k u))))=w5 at M hwz OF ⊢; refine xmL (xT ?_)
 by_cases h0:tm k u=0
 · replace h0:=show Hid _ from h0
   go_upto_region 2 with fail; refine wR (xmL ?_); refine xaL (.bool true) (xE .i64 _ _ _ _ _ _ rfl rfl rfl true (by rw [xW h0.out]; rfl) _) (xT ?_); go_upto_region 3 with fail; refine wR (xm2 ?_); refine xT ?_; have hA_:=show Hid _ from (show skd st k u=st from if_pos h0.out); replace M:=M.rot4
   replace M:Mm w0 ((N,pcx v0 ps st)::l) w5:=M.sub _ (List.cons_sublist_cons.2 (List.Sublist.cons _ (List.Sublist.cons _ (List.Sublist.cons _ (List.Sublist.refl _))))); have HS:=show Hid _ from (And.intro M OF); clear M OF h0; go_wp2; go_ret
   exact ⟨rfl,by rw [hA_.out]; exact HS.out.1,HS.out.2⟩
 replace h0:=show Hid _ from h0
 go_upto_region 2 with fail; refine wR (xmL ?_); refine xaL (.bool false) (xE .i64 _ _ _ _ _ _ rfl rfl rfl false (by rw [fQ h0.out]; rfl) _) (xT ?_); replace M:=M.rot4; go_upto_region 4 with fail
 refine wD (S:=fun w'=>∃ cs_:List Value,Mm w0 ((N,cs_)::(B4,row .u8 32 (bl (lby (tm k u))))::(B2,row .u8 32 u)::(B1,[row .u8 32 p,[kfv A]].flatten)::l) w') JU ⟨_,M.drew⟩ ?_; intro _; replace M:=M.drew; have hdr:=(Below.refl w5.heap.size w5).drew; replace hwz:=xnT hwz hdr.size; replace OF:=OF.below hdr; clear hdr
 generalize w5.drew=w6 at M hwz OF ⊢; refine xmH 0 19 ⟨_,M⟩ ?_; refine xrH 1 20 rfl (.pointer (some ⟨N,0,none⟩)) (fun _ ⟨_,M⟩=>JU) ⟨_,M⟩ ?_; refine xrH 2 21 rfl (.pointer (some ⟨N,1,none⟩)) (fun _ ⟨_,M⟩=>JU) ⟨_,M⟩ ?_
 refine xrH 3 22 rfl (.slice (some ⟨B4,0,none⟩) 32 32) Yi ⟨_,M⟩ ?_
 refine yaH 4 23 (x4z w0 _ N _ v0 ps st hg.s hsw (some ⟨B4,0,none⟩) 32 JG (tm k u) Jq M (M.srcRow (mT _ mS) 0 32 (bl (lby (tm k u))) Jd)) ?_; rintro e w7 ⟨rfl,M',o1⟩; clear M; have M:=M'; clear M'; replace hwz:=xnT hwz (Off.size o1)
 replace OF:=OF.and1 o1 (.inl Jf); clear o1
 refine ⟨_,rfl,⟨_,M⟩,nH ?_⟩
 refine wE JU ?_ _
 first | show Exit.then _ _ _ _ _ | show Exit.inBlock _ _ _ _ _
 go_upto_region 5 with fail; refine wR (xmL ?_); refine xT ?_; have hA_:=show Hid _ from (show skd st k u=jZ st (lby (tm k u)) from if_neg h0.out); have hE_:=show Hid _ from (fQ h0.out)
 replace M:Mm w0 ((N,pcx v0 ps (jZ st (lby (tm k u))))::l) w7:=M.sub _ (List.cons_sublist_cons.2 (List.Sublist.cons _ (List.Sublist.cons _ (List.Sublist.cons _ (List.Sublist.refl _)))))
 have HS:=show Hid _ from (And.intro M OF); clear M OF h0; go_wp2; go_ret
 exact ⟨by rw [hE_.out]; rfl,by rw [hA_.out]; exact HS.out.1,HS.out.2⟩
theorem j6t (w0 w:World) (R A D:Nat) (l:List (Nat × List Value)) (av:Int) (s:Shk) (M:Mm w0 ((R,kcs av s A D)::l) w) :
 Calls Tryz.prog 55 #[.pointer (some ⟨R,0,none⟩)] w fun e w'=>∃ N,e=.returned (.pointer (some ⟨N,0,none⟩))∧w.heap.size≤N∧Mm w0 ((N,kcs av s A D)::(R,kcs av s A D)::l) w'∧Below w.heap.size w w':=by
 have hb0:=M.below; have hwz:=xnR w.heap.size; have OF:=Off.refl [] w
 replace M:Mm w0 ((R,qF av s.st (bl (LD.pub s.sec)) (kfv A) (bl (LD.pub s.drw)) (kfv D) (bl s.its) (bl s.drn) (fun _=>0) (fun _=>0))::l) w:=M
 go_enter Tryz.func55,Tryz.ntmps55
 go_upto_region 0 with fail; refine wR (xmL ?_); refine xT ?_; go_upto_region 1 with fail; refine wR (xmL ?_); refine xpL (.pointer (some ⟨R,0,none⟩)) ?_
 refine zV (.agg (qF av s.st (bl (LD.pub s.sec)) (kfv A) (bl (LD.pub s.drw)) (kfv D) (bl s.its) (bl s.drn) (fun _=>0) (fun _=>0)).toArray) rfl (jD 61 _ ⟨R,0,none⟩ (qF av s.st (bl (LD.pub s.sec)) (kfv A) (bl (LD.pub s.drw)) (kfv D) (bl s.its) (bl s.drn) (fun _=>0) (fun _=>0)) rfl rfl JW UG (M.part mS 0 _ (yW [] [[Value.int .i64 av],jA s.st,row .u8 32 (bl (LD.pub s.sec)),[kfv A],row .u8 32 (bl (LD.pub s.drw)),[kfv D],row .u8 32 (bl s.its),row .u8 32 (bl s.drn),row .u8 32 (fun _=>0),row .u8 32 (fun _=>0)] [] 0 JU))) (nL ?_)
 refine nbO (qF 0 uQ (fun _=>0) Value.nilFunc (fun _=>0) Value.nilFunc (fun _=>0) (fun _=>0) (fun _=>0) (fun _=>0)) 61 M hwz OF ?_; clear M hwz OF; intro w1 B1 hB_B1 M hwz OF
 refine jG rfl (jC (qF av s.st (bl (LD.pub s.sec)) (kfv A) (bl (LD.pub s.drw)) (kfv D) (bl s.its) (bl s.drn) (fun _=>0) (fun _=>0)) B1 0 61 _ _ rfl rfl rfl (M.thereP mS 0 293 Yh) Vb (zF _ (fun p_ hp_=>by
  simp only [List.mem_cons,List.not_mem_nil,or_false] at hp_; rcases hp_ with rfl | rfl | rfl | rfl | rfl | rfl | rfl | rfl | rfl | rfl <;> first | exact jT .u8 32 _ | exact yB _ | (intro u hu; obtain rfl:=xm1 hu; rfl)))) ?_
 simp only [Act.put]
 replace M:=M.setAll (qF av s.st (bl (LD.pub s.sec)) (kfv A) (bl (LD.pub s.drw)) (kfv D) (bl s.its) (bl s.drn) (fun _=>0) (fun _=>0)) Yk
 replace hwz:=xnT hwz (Off.size ((Off.refl [B1] _).setAll (b:=B1) mS 0 (qF av s.st (bl (LD.pub s.sec)) (kfv A) (bl (LD.pub s.drw)) (kfv D) (bl s.its) (bl s.drn) (fun _=>0) (fun _=>0))))
 replace OF:=OF.and1 ((Off.refl [B1] _).setAll (b:=B1) mS 0 (qF av s.st (bl (LD.pub s.sec)) (kfv A) (bl (LD.pub s.drw)) (kfv D) (bl s.its) (bl s.drn) (fun _=>0) (fun _=>0))) (.inr JK)
 generalize w1.setCells B1 0 (qF av s.st (bl (LD.pub s.sec)) (kfv A) (bl (LD.pub s.drw)) (kfv D) (bl s.its) (bl s.drn) (fun _=>0) (fun _=>0))=w2 at M hwz OF ⊢; refine xT ?_; go_upto_region 2 with fail; refine wR (xmL ?_)
 refine xpL (.pointer (some ⟨R,0,none⟩)) ?_; refine xpL (.pointer (some ⟨R,1,none⟩)) ?_; replace M:=M.swap
 refine xcL (j0k w0 _ R _ _ _ s.st M) ?_; rintro e w3 ⟨B3,rfl,hq_,M',l⟩; have hB_B3:=xnT hwz hq_; clear M hq_; have M:=M'; clear M'; replace hwz:=xnT hwz l.size; replace OF:=OF.below l; clear l; refine xeL ?_
 refine xpL (.pointer (some ⟨B3,0,none⟩)) ?_; refine xaL (.agg (jA s.st).toArray) (jD 56 _ ⟨B3,0,none⟩ (jA s.st) rfl rfl JW Us (M.part mS 0 _ Jd)) ?_; refine xpL (.pointer (some ⟨B1,1,none⟩)) ?_; replace M:=M.rot3
 refine jG rfl (jC (jA s.st) B1 1 56 _ _ rfl rfl rfl (M.thereP mS 1 98 Yh) Wl (yB _)) ?_
 simp only [Act.put]; replace M:=M.setPart (jA s.st) 1 (by rw [yJ,qY _ [1,98,32,1,32,1,32,32,32,32] JU]; decide)
 rw [tY _ [1,98,32,1,32,1,32,32,32,32] JU 1 1 _ (jA s.st) rfl rfl (by simp only [yJ])] at M
 replace hwz:=xnT hwz (Off.size ((Off.refl [B1] _).setAll (b:=B1) mS 1 (jA s.st))); replace OF:=OF.and1 ((Off.refl [B1] _).setAll (b:=B1) mS 1 (jA s.st)) (.inr JK); generalize w3.setCells B1 1 (jA s.st)=w4 at M hwz OF ⊢
 refine xT ?_; go_upto_region 3 with fail; refine wR (xmL ?_); refine xT ?_; replace M:=M.rot3; replace M:=M.swap
 replace M:Mm w0 ((B1,qF av s.st (bl (LD.pub s.sec)) (kfv A) (bl (LD.pub s.drw)) (kfv D) (bl s.its) (bl s.drn) (fun _=>0) (fun _=>0))::(R,qF av s.st (bl (LD.pub s.sec)) (kfv A) (bl (LD.pub s.drw)) (kfv D) (bl s.its) (bl s.drn) (fun _=>0) (fun _=>0))::l) w4:=M.sub _ (List.cons_sublist_cons.2 (List.cons_sublist_cons.2 (List.Sublist.cons _ (List.Sublist.refl _))))
 have hbel:Below w.heap.size w w4:=⟨M.below.os.trans hb0.os.symm,M.below.tape.trans hb0.tape.symm,M.below.output.trans hb0.output.symm,OF.size,fun b hb=>OF.blk b hb VZ⟩
 have HS:=show Hid _ from (And.intro hB_B1 (And.intro M hbel)); clear M OF hbel hB_B1; go_wp2; go_ret
 exact ⟨_,rfl,HS.out⟩
theorem q4v (w0 w:World) (N A D:Nat) (l:List (Nat × List Value)) (av:Int) (s:Shk) (hg:HGlob13 w0) (hsw:SymW s.st) (M:Mm w0 ((N,kcs av s A D)::l) w) :
 Calls Tryz.prog 56 #[.pointer (some ⟨N,0,none⟩)] w fun e w'=>e=.returned (.tuple #[])∧Mm w0 ((N,kce s)::l) w'∧Off [N] w w':=by
 have hNw:=M.lt mS; have hwz:=xnR w.heap.size; have OF:=Off.refl [N] w
 replace M:Mm w0 ((N,qF av s.st (bl (LD.pub s.sec)) (kfv A) (bl (LD.pub s.drw)) (kfv D) (bl s.its) (bl s.drn) (fun _=>0) (fun _=>0))::l) w:=M
 go_enter Tryz.func56,Tryz.ntmps56
 go_upto_region 0 with fail; refine wR (xmL ?_); refine xpL (.pointer (some ⟨N,0,none⟩)) ?_; refine xpL (.pointer (some ⟨N,1,none⟩)) ?_
 refine clO (j0j w0 _ N _ _ _ s.st hg.s hsw M) M hwz OF ?_; clear M hwz OF; intro w1 M hwz OF; refine xm2 ?_
 refine xmL ?_; refine nbO (row .u8 32 (fun _=>0)) 23 M hwz OF ?_; clear M hwz OF; intro w2 B2 hB_B2 M hwz OF
 refine nbO (row .u8 32 (fun _=>0)) 23 M hwz OF ?_; clear M hwz OF; intro w3 B3 hB_B3 M hwz OF
 replace M:=M.swap; refine jG rfl (jC (row .u8 32 (kA s.st.c 0 (bl []))) B2 0 23 _ _ rfl rfl rfl (M.thereP mS 0 32 (nB rfl)) JU (jT .u8 32 (kA s.st.c 0 (bl [])))) ?_; simp only [Act.put]; replace M:=M.setAll (row .u8 32 (kA s.st.c 0 (bl []))) Jg
 replace hwz:=xnT hwz (Off.size ((Off.refl [B2] _).setAll (b:=B2) mS 0 (row .u8 32 (kA s.st.c 0 (bl []))))); replace OF:=OF.and1 ((Off.refl [B2] _).setAll (b:=B2) mS 0 (row .u8 32 (kA s.st.c 0 (bl [])))) (.inr JK); generalize w3.setCells B2 0 (row .u8 32 (kA s.st.c 0 (bl [])))=w4 at M hwz OF ⊢; replace M:=M.swap
 refine jG rfl (jC (row .u8 32 (kB s.st.c 0 (bl []))) B3 0 23 _ _ rfl rfl rfl (M.thereP mS 0 32 (nB rfl)) JU (jT .u8 32 (kB s.st.c 0 (bl [])))) ?_; simp only [Act.put]; replace M:=M.setAll (row .u8 32 (kB s.st.c 0 (bl []))) Jg
 replace hwz:=xnT hwz (Off.size ((Off.refl [B3] _).setAll (b:=B3) mS 0 (row .u8 32 (kB s.st.c 0 (bl []))))); replace OF:=OF.and1 ((Off.refl [B3] _).setAll (b:=B3) mS 0 (row .u8 32 (kB s.st.c 0 (bl [])))) (.inr JK); generalize w4.setCells B3 0 (row .u8 32 (kB s.st.c 0 (bl [])))=w5 at M hwz OF ⊢; refine xT ?_; replace M:=M.rot3; go_upto_region 1 with fail
 refine wD (S:=fun w'=>∃ (v0_:Value) (s1_:Sym) (f2_:Nat→Int) (v3_:Value) (f4_:Nat→Int) (v5_:Value) (f7_:Nat→Int) (f8_:Nat→Int) (f9_:Nat→Int),Mm w0 ((N,[[v0_],jA s1_,row .u8 32 f2_,[v3_],row .u8 32 f4_,[v5_],row .u8 32 (bl s.its),row .u8 32 f7_,row .u8 32 f8_,row .u8 32 f9_].flatten)::(B3,row .u8 32 (kB s.st.c 0 (bl [])))::(B2,row .u8 32 (kA s.st.c 0 (bl [])))::l) w') JU ⟨_,_,_,_,_,_,_,_,_,M.drew⟩ ?_
 intro _; replace M:=M.drew; have hdr:=(Below.refl w5.heap.size w5).drew; replace hwz:=xnT hwz hdr.size; replace OF:=OF.below hdr; clear hdr; generalize w5.drew=w6 at M hwz OF ⊢; refine xmH 0 11 ⟨_,_,_,_,_,_,_,_,_,M⟩ ?_
 refine xmH 1 12 ⟨_,_,_,_,_,_,_,_,_,M⟩ ?_; refine xrH 2 13 rfl (.pointer (some ⟨N,0,none⟩)) (fun _ ⟨_,_,_,_,_,_,_,_,_,M⟩=>JU) ⟨_,_,_,_,_,_,_,_,_,M⟩ ?_
 refine xrH 3 14 rfl (.pointer (some ⟨N,165,none⟩)) (fun _ ⟨_,_,_,_,_,_,_,_,_,M⟩=>JU) ⟨_,_,_,_,_,_,_,_,_,M⟩ ?_
 refine xrH 4 15 rfl _ (fun _ ⟨_,_,_,_,_,_,_,_,_,M⟩=>jD 23 _ _ _ rfl rfl JW JH (M.part mS 165 _ (qU _ [1,98,32,1,32,1,32,32,32,32] JU 6 165 _ rfl rfl))) ⟨_,_,_,_,_,_,_,_,_,M⟩ ?_
 refine xrH 5 16 rfl (.agg (row .u8 32 (kA s.st.c 0 (bl []))).toArray) (fun _ ⟨_,_,_,_,_,_,_,_,_,M⟩=>jD 23 _ ⟨B2,0,none⟩ (row .u8 32 (kA s.st.c 0 (bl []))) rfl rfl JW JH (M.part (mI 2 rfl) 0 _ Jd)) ⟨_,_,_,_,_,_,_,_,_,M⟩ ?_
 refine xrH 6 17 rfl (.agg (row .u8 32 (kB s.st.c 0 (bl []))).toArray) (fun _ ⟨_,_,_,_,_,_,_,_,_,M⟩=>jD 23 _ ⟨B3,0,none⟩ (row .u8 32 (kB s.st.c 0 (bl []))) rfl rfl JW JH (M.part (mT _ mS) 0 _ Jd)) ⟨_,_,_,_,_,_,_,_,_,M⟩ ?_
 refine xrH 7 18 rfl (.agg (kf2 (kA s.st.c 0 (bl [])) (kB s.st.c 0 (bl []))).toArray) (fun _ ⟨_,_,_,_,_,_,_,_,_,M⟩=>JU) ⟨_,_,_,_,_,_,_,_,_,M⟩ ?_
 refine xrH 8 19 rfl (.agg (qF 5 uQ (fun _=>0) Value.nilFunc (fun _=>0) Value.nilFunc (bl s.its) (fun _=>0) (kA s.st.c 0 (bl [])) (kB s.st.c 0 (bl []))).toArray) (fun _ ⟨_,_,_,_,_,_,_,_,_,M⟩=>JU) ⟨_,_,_,_,_,_,_,_,_,M⟩ ?_
 refine xrH 9 20 rfl (.pointer (some ⟨N,0,none⟩)) (fun _ ⟨_,_,_,_,_,_,_,_,_,M⟩=>JU) ⟨_,_,_,_,_,_,_,_,_,M⟩ ?_
 refine wC (i:=10) none rfl JU rfl rfl (jC (qF 5 uQ (fun _=>0) Value.nilFunc (fun _=>0) Value.nilFunc (bl s.its) (fun _=>0) (kA s.st.c 0 (bl [])) (kB s.st.c 0 (bl []))) N 0 61 _ _ rfl rfl rfl (M.thereP mS 0 293 Yh) Vb (zF _ (fun p_ hp_=>by
  simp only [List.mem_cons,List.not_mem_nil,or_false] at hp_; rcases hp_ with rfl | rfl | rfl | rfl | rfl | rfl | rfl | rfl | rfl | rfl <;> first | exact jT .u8 32 _ | exact yB _ | (intro u hu; obtain rfl:=xm1 hu; rfl)))) ⟨_,_,_,_,_,_,_,_,_,M.setAll (qF 5 uQ (fun _=>0) Value.nilFunc (fun _=>0) Value.nilFunc (bl s.its) (fun _=>0) (kA s.st.c 0 (bl [])) (kB s.st.c 0 (bl []))) Yk⟩ ?_
 simp only [Act.put]
 replace M:=M.setAll (qF 5 uQ (fun _=>0) Value.nilFunc (fun _=>0) Value.nilFunc (bl s.its) (fun _=>0) (kA s.st.c 0 (bl [])) (kB s.st.c 0 (bl []))) Yk
 replace hwz:=xnT hwz (Off.size ((Off.refl [N] _).setAll (b:=N) mS 0 (qF 5 uQ (fun _=>0) Value.nilFunc (fun _=>0) Value.nilFunc (bl s.its) (fun _=>0) (kA s.st.c 0 (bl [])) (kB s.st.c 0 (bl [])))))
 replace OF:=OF.and1 ((Off.refl [N] _).setAll (b:=N) mS 0 (qF 5 uQ (fun _=>0) Value.nilFunc (fun _=>0) Value.nilFunc (bl s.its) (fun _=>0) (kA s.st.c 0 (bl [])) (kB s.st.c 0 (bl [])))) (.inl Jf)
 generalize w6.setCells N 0 (qF 5 uQ (fun _=>0) Value.nilFunc (fun _=>0) Value.nilFunc (bl s.its) (fun _=>0) (kA s.st.c 0 (bl [])) (kB s.st.c 0 (bl [])))=w7 at M hwz OF ⊢
 refine wE JU ?_ _
 replace M:Mm w0 ((N,qF 5 uQ (fun _=>0) Value.nilFunc (fun _=>0) Value.nilFunc (bl s.its) (fun _=>0) (kA s.st.c 0 (bl [])) (kB s.st.c 0 (bl [])))::l) w7:=M.sub _ (List.cons_sublist_cons.2 (List.Sublist.cons _ (List.Sublist.cons _ (List.Sublist.refl _))))
 exact ⟨rfl,.tuple #[],by kernel_rfl,rfl,M,OF⟩
theorem cW (w0 w:World) (R:Nat) (l:List (Nat × List Value)) (av:Int) (st:Sym) (p q its drn k1 k2:Nat→Int) (fA fD:Value) (M:Mm w0 ((R,qF av st p fA q fD its drn k1 k2)::l) w) :
 Calls Tryz.prog 11 #[.pointer (some ⟨R,0,none⟩)] w fun e w'=>e=.returned (.tuple #[(.agg (row .u8 32 (its)).toArray),.bool (decide (av>1))])∧Below w.heap.size w w':=by
 have hb0:=M.below; have hwz:=xnR w.heap.size; have OF:=Off.refl [] w
 go_enter Tryz.func11,Tryz.ntmps11
 go_upto_region 0 with fail; refine wR ?_; refine nbO (row .u8 32 (fun _=>0)) 23 M hwz OF ?_; clear M hwz OF; intro w1 B1 hB_B1 M hwz OF
 refine xmL (xT ?_); go_upto_region 1 with fail; refine wD (S:=fun w'=>∃ f_:Nat→Int,Mm w0 ((B1,row .u8 32 f_)::(R,qF av st p fA q fD its drn k1 k2)::l) w') JU ⟨_,M.drew⟩ ?_; intro _; replace M:=M.drew
 have hdr:=(Below.refl w1.heap.size w1).drew; replace hwz:=xnT hwz hdr.size; replace OF:=OF.below hdr; clear hdr; generalize w1.drew=w2 at M hwz OF ⊢; refine xmH 0 4 ⟨_,M⟩ ?_; refine xrH 1 5 rfl (.pointer (some ⟨R,0,none⟩)) (fun _ ⟨_,M⟩=>JU) ⟨_,M⟩ ?_
 refine xrH 2 6 rfl (.pointer (some ⟨R,165,none⟩)) (fun _ ⟨_,M⟩=>JU) ⟨_,M⟩ ?_; refine xrH 3 7 rfl _ (fun _ ⟨_,M⟩=>jD 23 _ _ _ rfl rfl JW JH (M.part (mT _ mS) 165 _ (qU _ [1,98,32,1,32,1,32,32,32,32] JU 6 165 _ rfl rfl))) ⟨_,M⟩ ?_
 refine xmH 4 8 ⟨_,M⟩ ?_; refine xrH 5 9 rfl (.pointer (some ⟨R,0,none⟩)) (fun _ ⟨_,M⟩=>JU) ⟨_,M⟩ ?_; refine xrH 6 10 rfl (.pointer (some ⟨R,0,none⟩)) (fun _ ⟨_,M⟩=>JU) ⟨_,M⟩ ?_
 refine xrH 7 11 rfl _ (fun _ ⟨_,M⟩=>qL _ _ ⟨R,0,none⟩ _ rfl rfl JW (M.get (mT _ mS) 0 _ (xV _ [1,98,32,1,32,1,32,32,32,32] JU 0 0 _ rfl rfl))) ⟨_,M⟩ ?_
 obtain ⟨b1,hb1⟩:∃ y_,y_=(decide (av>1)):=⟨_,rfl⟩
 refine xrH 8 12 rfl (.bool b1) (fun _ ⟨_,M⟩=>lZ .i64 _ _ _ _ _ _ rfl rfl rfl b1 hb1.symm _) ⟨_,M⟩ ?_
 refine wC (i:=9) none rfl JU rfl rfl (jC (row .u8 32 its) B1 0 23 _ _ rfl rfl rfl (M.thereP mS 0 32 (nB rfl)) JU (jT .u8 32 its)) ⟨_,M.setAll (row .u8 32 its) Jg⟩ ?_
 simp only [Act.put]; replace M:=M.setAll (row .u8 32 its) Jg; replace hwz:=xnT hwz (Off.size ((Off.refl [B1] _).setAll (b:=B1) mS 0 (row .u8 32 its))); replace OF:=OF.and1 ((Off.refl [B1] _).setAll (b:=B1) mS 0 (row .u8 32 its)) (.inr JK); generalize w2.setCells B1 0 (row .u8 32 its)=w3 at M hwz OF ⊢
 refine xmH 10 3 ⟨_,M⟩ ?_
 refine wE JU ?_ _
 first | show Exit.then _ _ _ _ _ | show Exit.inBlock _ _ _ _ _
 have c1_:=M.part mS 0 (row .u8 32 its) Jd
 have hbel:Below w.heap.size w w3:=⟨M.below.os.trans hb0.os.symm,M.below.tape.trans hb0.tape.symm,M.below.output.trans hb0.output.symm,OF.size,fun b hb=>OF.blk b hb VZ⟩
 subst hb1; clear M OF; go_wp2; refine bRq (v:=.tuple #[(.agg (row .u8 32 (its)).toArray),.bool (decide (av>1))]) (uU 2 3 23 ⟨B1,0,none⟩ (row .u8 32 its) _ rfl rfl rfl JW JH c1_) rfl ?_
 exact ⟨rfl,hbel⟩
theorem wN (w0 w:World) (R:Nat) (l:List (Nat × List Value)) (av:Int) (st:Sym) (p q its drn k1 k2:Nat→Int) (fA fD:Value) (M:Mm w0 ((R,qF av st p fA q fD its drn k1 k2)::l) w) :
 Calls Tryz.prog 9 #[.pointer (some ⟨R,0,none⟩)] w fun e w'=>e=.returned (.tuple #[.agg (kf2 k1 k2).toArray,.bool (av == 5)])∧Below w.heap.size w w':=by
 have hb0:=M.below; have hwz:=xnR w.heap.size; have OF:=Off.refl [] w
 go_enter Tryz.func9,Tryz.ntmps9
 go_upto_region 0 with fail; refine wR ?_; refine nbO (kf2 (fun _=>0) (fun _=>0)) 41 M hwz OF ?_; clear M hwz OF; intro w1 B1 hB_B1 M hwz OF
 refine xmL (xT ?_); go_upto_region 1 with fail
 refine wD (S:=fun w'=>∃ (f0_:Nat→Int) (f1_:Nat→Int),Mm w0 ((B1,kf2 f0_ f1_)::(R,qF av st p fA q fD its drn k1 k2)::l) w') JU ⟨_,_,M.drew⟩ ?_; intro _; replace M:=M.drew
 have hdr:=(Below.refl w1.heap.size w1).drew; replace hwz:=xnT hwz hdr.size; replace OF:=OF.below hdr; clear hdr; generalize w1.drew=w2 at M hwz OF ⊢; refine xmH 0 4 ⟨_,_,M⟩ ?_; refine xrH 1 5 rfl (.pointer (some ⟨R,0,none⟩)) (fun _ ⟨_,_,M⟩=>JU) ⟨_,_,M⟩ ?_
 refine xrH 2 6 rfl (.pointer (some ⟨R,229,none⟩)) (fun _ ⟨_,_,M⟩=>JU) ⟨_,_,M⟩ ?_
 refine xrH 3 7 rfl (.agg (kf2 k1 k2).toArray) (fun _ ⟨_,_,M⟩=>jD 41 _ ⟨R,229,none⟩ (kf2 k1 k2) rfl rfl JW VQ (M.part (mT _ mS) 229 _ (yW [[Value.int .i64 av],jA st,row .u8 32 p,[fA],row .u8 32 q,[fD],row .u8 32 its,row .u8 32 drn] [row .u8 32 k1,row .u8 32 k2] [] 229 JU))) ⟨_,_,M⟩ ?_
 refine xmH 4 8 ⟨_,_,M⟩ ?_; refine xrH 5 9 rfl (.pointer (some ⟨R,0,none⟩)) (fun _ ⟨_,_,M⟩=>JU) ⟨_,_,M⟩ ?_; refine xrH 6 10 rfl (.pointer (some ⟨R,0,none⟩)) (fun _ ⟨_,_,M⟩=>JU) ⟨_,_,M⟩ ?_
 refine xrH 7 11 rfl _ (fun _ ⟨_,_,M⟩=>qL _ _ ⟨R,0,none⟩ _ rfl rfl JW (M.get (mT _ mS) 0 _ (xV _ [1,98,32,1,32,1,32,32,32,32] JU 0 0 _ rfl rfl))) ⟨_,_,M⟩ ?_
 obtain ⟨b1,hb1⟩:∃ y_,y_=((av:Int) == (5:Int)):=⟨_,rfl⟩
 refine xrH 8 12 rfl (.bool b1) (fun _ ⟨_,_,M⟩=>kS .i64 _ _ _ _ _ _ rfl rfl rfl b1 hb1.symm _) ⟨_,_,M⟩ ?_
 refine wC (i:=9) none rfl JU rfl rfl (jC (kf2 k1 k2) B1 0 41 _ _ rfl rfl rfl (M.thereP mS 0 64 Vx) Vn (zF _ (fun p_ hp_=>by
  simp only [List.mem_cons,List.not_mem_nil,or_false] at hp_; rcases hp_ with rfl | rfl <;> first | exact jT .u8 32 _ | exact yB _ | (intro u hu; obtain rfl:=xm1 hu; rfl)))) ⟨_,_,M.setAll (kf2 k1 k2) Vv⟩ ?_
 simp only [Act.put]; replace M:=M.setAll (kf2 k1 k2) Vv; replace hwz:=xnT hwz (Off.size ((Off.refl [B1] _).setAll (b:=B1) mS 0 (kf2 k1 k2)))
 replace OF:=OF.and1 ((Off.refl [B1] _).setAll (b:=B1) mS 0 (kf2 k1 k2)) (.inr JK); generalize w2.setCells B1 0 (kf2 k1 k2)=w3 at M hwz OF ⊢; refine xmH 10 3 ⟨_,_,M⟩ ?_
 refine wE JU ?_ _
 first | show Exit.then _ _ _ _ _ | show Exit.inBlock _ _ _ _ _
 have c1_:=M.part mS 0 (kf2 k1 k2) Jd
 have hbel:Below w.heap.size w w3:=⟨M.below.os.trans hb0.os.symm,M.below.tape.trans hb0.tape.symm,M.below.output.trans hb0.output.symm,OF.size,fun b hb=>OF.blk b hb VZ⟩
 subst hb1; clear M OF; go_wp2
 refine bRq (v:=.tuple #[.agg (kf2 k1 k2).toArray,.bool (av == 5)]) (uU 2 3 41 ⟨B1,0,none⟩ (kf2 k1 k2) _ rfl rfl rfl JW VQ c1_) rfl ?_
 exact ⟨rfl,hbel⟩
theorem j6u (w0 w:World) (l:List (Nat × List Value)) (a d:Nat→Int) (ha:In 256 32 a) (hd:In 256 32 d) (B:List Int) (hB:B.length=32) (hBb:Byts B) (hg:HGlob13 w0) (M:Mm w0 l w) :
 Calls Tryz.prog 13 #[(.agg (row .u8 32 (a)).toArray),(.agg (row .u8 32 (d)).toArray),(.agg (row .u8 32 (bl B)).toArray)] w fun e w'=>∃ R A D,e=.returned (.pointer (some ⟨R,0,none⟩))∧w.heap.size≤R∧w.heap.size≤A∧w.heap.size≤D∧Mm w0 ((R,kcs 2 (qS a d B) A D)::(A,row .u8 32 a)::(D,row .u8 32 d)::l) w'∧Below w.heap.size w w':=by
 have hb0:=M.below; have hwz:=xnR w.heap.size; have OF:=Off.refl [] w
 go_enter Tryz.func13,Tryz.ntmps13
 go_upto_region 0 with fail; refine wR ?_; refine nbO (row .u8 32 a) 23 M hwz OF ?_; clear M hwz OF; intro w1 B1 hB_B1 M hwz OF
 refine nbO (row .u8 32 d) 23 M hwz OF ?_; clear M hwz OF; intro w2 B2 hB_B2 M hwz OF
 refine nbO (row .u8 32 (bl B)) 23 M hwz OF ?_; clear M hwz OF; intro w3 B3 hB_B3 M hwz OF
 refine xmL (xT ?_); go_upto_region 1 with fail; refine hdM M hwz OF ?_; clear M hwz OF; intro w4 M hwz OF; refine xrH 0 7 rfl (.agg (row .u8 32 (bl B)).toArray) Vm M ?_
 refine xrH 2 9 rfl (.agg (row .u8 32 a).toArray) Kv M ?_
 refine xrH 4 11 rfl (.agg (row .u8 32 d).toArray) Kw M ?_
 refine xrH 6 13 rfl (.agg (row .u8 32 (bl B)).toArray) Vm M ?_; refine yaH 1 8 (j4c w0 _ _ B hB hBb hg M) ?_; rintro e w5 ⟨rfl,l⟩
 replace M:=M.call l; replace hwz:=xnT hwz l.size; replace OF:=OF.below l; clear l
 refine ⟨_,rfl,M,nH ?_⟩
 have MH:=M; refine yaH 3 10 (sW w0 _ _ a ha hg M) ?_; rintro e w6 ⟨B6,rfl,hq_,M',l⟩; have hB_B6:=xnT hwz hq_; clear M hq_; have M:=M'; clear M'; replace MH:=MH.call l; replace hwz:=xnT hwz l.size; replace OF:=OF.below l; clear l
 refine ⟨_,rfl,MH,nH ?_⟩
 refine yaH 5 12 (sW w0 _ _ d hd hg M) ?_; rintro e w7 ⟨B7,rfl,hq_,M',l⟩; have hB_B7:=xnT hwz hq_; clear M hq_; have M:=M'; clear M'; replace MH:=MH.call l; replace hwz:=xnT hwz l.size; replace OF:=OF.below l; clear l
 refine ⟨_,rfl,MH,nH ?_⟩
 refine xrH 7 14 rfl (.agg (qF 2 (jU uS B) (bl (LD.pub a)) (kfv B6) (bl (LD.pub d)) (kfv B7) (bl B) (fun _=>0) (fun _=>0) (fun _=>0)).toArray) (fun _ MH=>JU) MH ?_
 have hlb:=(Below.refl w7.heap.size w7).alloc (xnR _) (.cells (qF 2 (jU uS B) (bl (LD.pub a)) (kfv B6) (bl (LD.pub d)) (kfv B7) (bl B) (fun _=>0) (fun _=>0) (fun _=>0)).toArray 61); replace MH:=MH.call hlb
 refine pY (i:=8) (some 15) rfl (.pointer (some ⟨w7.heap.size,0,none⟩)) JU rfl rfl JU MH (nH ?_); have hB_:=hwz; replace hwz:=xnT hwz hlb.size; replace OF:=OF.below hlb
 replace M:=M.box (qF 2 (jU uS B) (bl (LD.pub a)) (kfv B6) (bl (LD.pub d)) (kfv B7) (bl B) (fun _=>0) (fun _=>0) (fun _=>0)).toArray 61 w7.heap.size rfl; clear hlb
 generalize w7.alloc (.cells (qF 2 (jU uS B) (bl (LD.pub a)) (kfv B6) (bl (LD.pub d)) (kfv B7) (bl B) (fun _=>0) (fun _=>0) (fun _=>0)).toArray 61)=w8 at M MH hwz OF ⊢; generalize eB_:w7.heap.size=B8 at M ⊢
 have hB_B8:w.heap.size≤B8:=by rw [← eB_]; exact hB_
 clear hB_ eB_
 refine xmH 9 6 MH ?_
 refine wE JU ?_ _
 first | show Exit.then _ _ _ _ _ | show Exit.inBlock _ _ _ _ _
 replace M:=M.swap; replace M:=M.rot3; replace M:=M.rot3
 replace M:Mm w0 ((B8,qF 2 (jU uS B) (bl (LD.pub a)) (kfv B6) (bl (LD.pub d)) (kfv B7) (bl B) (fun _=>0) (fun _=>0) (fun _=>0))::(B6,row .u8 32 a)::(B7,row .u8 32 d)::l) w8:=M.sub _ (List.cons_sublist_cons.2 (List.cons_sublist_cons.2 (List.cons_sublist_cons.2 (List.Sublist.cons _ (List.Sublist.cons _ (List.Sublist.cons _ (List.Sublist.refl _)))))))
 have hbel:Below w.heap.size w w8:=⟨M.below.os.trans hb0.os.symm,M.below.tape.trans hb0.tape.symm,M.below.output.trans hb0.output.symm,OF.size,fun b hb=>OF.blk b hb VZ⟩
 have HS:=show Hid _ from (And.intro hB_B8 (And.intro hB_B6 (And.intro hB_B7 (And.intro M hbel)))); clear M OF hbel hB_B8 hB_B6 hB_B7; go_wp2; go_ret
 first | exact ⟨B8,B6,B7,rfl,HS.out⟩ | exact ⟨B8,rfl,HS.out.1,B6,HS.out.2.1,B7,HS.out.2.2⟩
theorem j6v (w0 w:World) (l:List (Nat × List Value)) (b f:Nat→Int) (hb:In 256 32 b) (hf:In 256 32 f) (hg:HGlob13 w0) (M:Mm w0 l w) :
 Calls Tryz.prog 15 #[(.agg (row .u8 32 (b)).toArray),(.agg (row .u8 32 (f)).toArray)] w fun e w'=>∃ R A D,e=.returned (.pointer (some ⟨R,0,none⟩))∧w.heap.size≤R∧w.heap.size≤A∧w.heap.size≤D∧Mm w0 ((R,kcs 1 (yS LD b f) A D)::(A,row .u8 32 b)::(D,row .u8 32 f)::l) w'∧Below w.heap.size w w':=by
 have hb0:=M.below; have hwz:=xnR w.heap.size; have OF:=Off.refl [] w
 go_enter Tryz.func15,Tryz.ntmps15
 go_upto_region 0 with fail; refine wR ?_; refine nbO (row .u8 32 b) 23 M hwz OF ?_; clear M hwz OF; intro w1 B1 hB_B1 M hwz OF
 refine nbO (row .u8 32 f) 23 M hwz OF ?_; clear M hwz OF; intro w2 B2 hB_B2 M hwz OF
 refine xmL (xT ?_); go_upto_region 1 with fail; refine wR (xaL (.agg (row .u8 32 b).toArray) (jD 23 _ ⟨B1,0,none⟩ (row .u8 32 b) rfl rfl JW JH (M.part (mT _ mS) 0 _ Jd)) ?_); refine xcL (sW w0 _ _ b hb hg M) ?_; rintro e w3 ⟨B3,rfl,hq_,M',l⟩
 have hB_B3:=xnT hwz hq_; clear M hq_; have M:=M'; clear M'; replace hwz:=xnT hwz l.size; replace OF:=OF.below l; clear l; refine xeL ?_; refine nbO ([row .u8 32 (fun _=>0),[Value.nilFunc]].flatten) 59 M hwz OF ?_; clear M hwz OF; intro w4 B4 hB_B4 M hwz OF
 refine jG rfl (jC ([row .u8 32 (bl (LD.pub b)),[kfv B3]].flatten) B4 0 59 _ _ rfl rfl rfl (M.thereP mS 0 33 (by rw [qY _ [32,1] JU]; decide)) (by rw [xA,qY _ [32,1] JU]; kernel_rfl) (zF _ (fun p_ hp_=>by
  simp only [List.mem_cons,List.not_mem_nil,or_false] at hp_; rcases hp_ with rfl | rfl <;> first | exact jT .u8 32 _ | exact yB _ | (intro u hu; obtain rfl:=xm1 hu; rfl)))) ?_
 simp only [Act.put]; replace M:=M.setAll ([row .u8 32 (bl (LD.pub b)),[kfv B3]].flatten) (by rw [qY _ [32,1] JU,qY _ [32,1] JU]); replace hwz:=xnT hwz (Off.size ((Off.refl [B4] _).setAll (b:=B4) mS 0 ([row .u8 32 (bl (LD.pub b)),[kfv B3]].flatten)))
 replace OF:=OF.and1 ((Off.refl [B4] _).setAll (b:=B4) mS 0 ([row .u8 32 (bl (LD.pub b)),[kfv B3]].flatten)) (.inr JK); generalize w4.setCells B4 0 ([row .u8 32 (bl (LD.pub b)),[kfv B3]].flatten)=w5 at M hwz OF ⊢; refine xT ?_; go_upto_region 2 with fail
 refine hdM M hwz OF ?_; clear M hwz OF; intro w6 M hwz OF
 refine xrH 0 8 rfl (.pointer (some ⟨B4,0,none⟩)) (fun _ M=>JU) M ?_; refine xrH 1 9 rfl _ (fun _ M=>jD 23 _ _ _ rfl rfl JW JH (M.part mS 0 _ (qU _ [32,1] JU 0 0 _ rfl rfl))) M ?_
 refine xrH 3 11 rfl (.agg ([row .u8 32 (bl (LD.pub b)),[kfv B3]].flatten).toArray) (fun _ M=>jD 59 _ ⟨B4,0,none⟩ ([row .u8 32 (bl (LD.pub b)),[kfv B3]].flatten) rfl rfl JW UJ (M.part mS 0 _ (yW [] [row .u8 32 (bl (LD.pub b)),[kfv B3]] [] 0 JU))) M ?_
 refine xrH 4 12 rfl (.agg (row .u8 32 f).toArray) (fun _ M=>jD 23 _ ⟨B2,0,none⟩ (row .u8 32 f) rfl rfl JW JH (M.part (mI 2 rfl) 0 _ Jd)) M ?_; refine yaH 2 10 (j4c w0 _ _ (LD.pub b) (yU b) (uJ b) hg M) ?_
 rintro e w7 ⟨rfl,l⟩; replace M:=M.call l; replace hwz:=xnT hwz l.size; replace OF:=OF.below l; clear l
 refine ⟨_,rfl,M,nH ?_⟩
 have MH:=M; refine yaH 5 13 (sW w0 _ _ f hf hg M) ?_; rintro e w8 ⟨B8,rfl,hq_,M',l⟩; have hB_B8:=xnT hwz hq_; clear M hq_; have M:=M'; clear M'; replace MH:=MH.call l; replace hwz:=xnT hwz l.size; replace OF:=OF.below l; clear l
 refine ⟨_,rfl,MH,nH ?_⟩
 refine xrH 6 14 rfl (.agg (qF 1 (jU uS (LD.pub b)) (bl (LD.pub b)) (kfv B3) (bl (LD.pub f)) (kfv B8) (fun _=>0) (fun _=>0) (fun _=>0) (fun _=>0)).toArray) (fun _ MH=>JU) MH ?_
 have hlb:=(Below.refl w8.heap.size w8).alloc (xnR _) (.cells (qF 1 (jU uS (LD.pub b)) (bl (LD.pub b)) (kfv B3) (bl (LD.pub f)) (kfv B8) (fun _=>0) (fun _=>0) (fun _=>0) (fun _=>0)).toArray 61); replace MH:=MH.call hlb
 refine pY (i:=7) (some 15) rfl (.pointer (some ⟨w8.heap.size,0,none⟩)) JU rfl rfl JU MH (nH ?_); have hB_:=hwz; replace hwz:=xnT hwz hlb.size; replace OF:=OF.below hlb
 replace M:=M.box (qF 1 (jU uS (LD.pub b)) (bl (LD.pub b)) (kfv B3) (bl (LD.pub f)) (kfv B8) (fun _=>0) (fun _=>0) (fun _=>0) (fun _=>0)).toArray 61 w8.heap.size rfl; clear hlb
 generalize w8.alloc (.cells (qF 1 (jU uS (LD.pub b)) (bl (LD.pub b)) (kfv B3) (bl (LD.pub f)) (kfv B8) (fun _=>0) (fun _=>0) (fun _=>0) (fun _=>0)).toArray 61)=w9 at M MH hwz OF ⊢; generalize eB_:w8.heap.size=B9 at M ⊢
 have hB_B9:w.heap.size≤B9:=by rw [← eB_]; exact hB_
 clear hB_ eB_
 refine xmH 8 4 MH ?_
 refine wE JU ?_ _
 first | show Exit.then _ _ _ _ _ | show Exit.inBlock _ _ _ _ _
 replace M:=M.swap; replace M:=M.rot4; replace M:=M.rot3
 replace M:Mm w0 ((B9,qF 1 (jU uS (LD.pub b)) (bl (LD.pub b)) (kfv B3) (bl (LD.pub f)) (kfv B8) (fun _=>0) (fun _=>0) (fun _=>0) (fun _=>0))::(B3,row .u8 32 b)::(B8,row .u8 32 f)::l) w9:=M.sub _ (List.cons_sublist_cons.2 (List.cons_sublist_cons.2 (List.cons_sublist_cons.2 (List.Sublist.cons _ (List.Sublist.cons _ (List.Sublist.cons _ (List.Sublist.refl _)))))))
 have hbel:Below w.heap.size w w9:=⟨M.below.os.trans hb0.os.symm,M.below.tape.trans hb0.tape.symm,M.below.output.trans hb0.output.symm,OF.size,fun b hb=>OF.blk b hb VZ⟩
 have HS:=show Hid _ from (And.intro hB_B9 (And.intro hB_B3 (And.intro hB_B8 (And.intro M hbel)))); clear M OF hbel hB_B9 hB_B3 hB_B8; go_wp2; go_ret
 first | exact ⟨B9,B3,B8,rfl,HS.out⟩ | exact ⟨B9,rfl,HS.out.1,B3,HS.out.2.1,B8,HS.out.2.2⟩
end Go.Proofs.YtknodlefhclijaaGreatDoor
