/- Texts of Kd, joined. -/
import Derived.Test.YtklnibmfpcmeeaaGreatDoorP22ShakeAgrees
set_option maxRecDepth 20000
set_option maxHeartbeats 64000000
namespace Go.Proofs.YtklnibmfpcmeeaaGreatDoor
open Go.RowKit
theorem src_row {w:World} {ad:Addr} {n:Nat} {z:Nat→Int} (h:Src w (some ad) n z) (hn:32≤n):∀ j v,(row .u8 32 z)[j]?=some v→w.cell? (ad.add j)=some v:=fun j v hv=>by
 have hj:j<32:=by
  rcases Nat.lt_or_ge j 32 with h' | h'
  · exact h'
  · rw [List.getElem?_eq_none (by rw [row_length]; omega)] at hv; cases hv
 rw [row_get _ _ _ _ hj] at hv
 injection hv with hv
 rw [← hv]
 exact h.at j (by omega)
theorem khalf_any (w0 w:World) (l:List (Nat × List Value)) (k:Nat→Int) (hk:In 256 32 k) (hg:HGlob13 w0) (M:Mm w0 l w) :
 Calls Tryz.prog 37 #[(.agg (row .u8 32 (k)).toArray)] w fun e w'=>∃ A,e=.returned (.agg ([row .u8 32 (bl (LD.pub k)),[kfv A]].flatten).toArray)∧w.heap.size≤A∧Mm w0 ((A,row .u8 32 k)::l) w'∧Below w.heap.size w w':=by
 have hb0:=M.below; have hwz:=xnR w.heap.size; have OF:=Off.refl [] w
 go_enter Tryz.func37,Tryz.ntmps37
 go_upto_region 0 with fail; refine wp_region_list ?_; have hlb:=(Below.refl w.heap.size w).alloc (xnR _) (.cells (row .u8 32 k).toArray 23); refine actL (w':=w.alloc (.cells (row .u8 32 k).toArray 23)) (.pointer (some ⟨w.heap.size,0,none⟩)) rfl (by kernel_rfl) ?_; simp only [aP,lI,l0,lS]; have hB_:=hwz; replace hwz:=xnT hwz hlb.size; replace OF:=OF.below hlb
 replace M:=M.box (row .u8 32 k).toArray 23 w.heap.size rfl; clear hlb; generalize w.alloc (.cells (row .u8 32 k).toArray 23)=w1 at M hwz OF ⊢; generalize eB_:w.heap.size=B1 at M ⊢
 have hB_B1:w.heap.size≤B1:=by rw [← eB_]; exact hB_
 clear hB_ eB_
 replace M:Mm w0 ((B1,row .u8 32 k)::l) w1:=M
 have hlb:=(Below.refl w1.heap.size w1).alloc (xnR _) (.cells ([row .u8 32 (fun _=>0),[Value.nilFunc]].flatten).toArray 63); refine actL (w':=w1.alloc (.cells ([row .u8 32 (fun _=>0),[Value.nilFunc]].flatten).toArray 63)) (.pointer (some ⟨w1.heap.size,0,none⟩)) rfl (by kernel_rfl) ?_; simp only [aP,lI,l0,lS]; have hB_:=hwz; replace hwz:=xnT hwz hlb.size
 replace OF:=OF.below hlb; replace M:=M.box ([row .u8 32 (fun _=>0),[Value.nilFunc]].flatten).toArray 63 w1.heap.size rfl; clear hlb; generalize w1.alloc (.cells ([row .u8 32 (fun _=>0),[Value.nilFunc]].flatten).toArray 63)=w2 at M hwz OF ⊢; generalize eB_:w1.heap.size=B2 at M ⊢
 have hB_B2:w.heap.size≤B2:=by rw [← eB_]; exact hB_
 clear hB_ eB_
 replace M:Mm w0 ((B2,[row .u8 32 (fun _=>0),[Value.nilFunc]].flatten)::(B1,row .u8 32 k)::l) w2:=M
 refine xT ?_; go_upto_region 1 with fail; refine wp_region_list ?_; refine xaL (.agg (row .u8 32 k).toArray) (loadN 23 _ ⟨B1,0,none⟩ (row .u8 32 k) rfl rfl (fun _=>by kernel_rfl) (fun _=>by rw [row32]; kernel_rfl) (M.part (mT _ mS) 0 _ (by rw [List.drop_zero,List.take_length]))) ?_; refine xcL (lpublic_any k hk _ (hg.mm M).k (hg.mm M).t) ?_; rintro e w3 ⟨rfl,l⟩; replace M:=M.call l
 replace hwz:=xnT hwz l.size; replace OF:=OF.below l; clear l; refine xeL ?_; refine xpL (kfv B1) ?_; refine xpL (.agg ([row .u8 32 (bl (LD.pub k)),[kfv B1]].flatten).toArray) ?_
 refine skipOpL rfl (storeP ([row .u8 32 (bl (LD.pub k)),[kfv B1]].flatten) B2 0 63 _ _ rfl rfl rfl (M.thereP mS 0 33 (by rw [flat_len _ [32,1] (by kernel_rfl)]; decide)) (by rw [List.size_toArray,flat_len _ [32,1] (by kernel_rfl)]; kernel_rfl) (flat_one _ (fun p_ hp_=>by
  simp only [List.mem_cons,List.not_mem_nil,or_false] at hp_
  rcases hp_ with rfl | rfl <;> first | exact row_one .u8 32 _ | exact pcs12_one _ | (intro u hu; obtain rfl:=xm1 hu; rfl)))) ?_
 simp only [Act.put]; replace M:=M.setAll ([row .u8 32 (bl (LD.pub k)),[kfv B1]].flatten) (by rw [flat_len _ [32,1] (by kernel_rfl),flat_len _ [32,1] (by kernel_rfl)]); replace hwz:=xnT hwz (Off.size ((Off.refl [B2] _).setAll (b:=B2) mS 0 ([row .u8 32 (bl (LD.pub k)),[kfv B1]].flatten)))
 replace OF:=OF.and1 ((Off.refl [B2] _).setAll (b:=B2) mS 0 ([row .u8 32 (bl (LD.pub k)),[kfv B1]].flatten)) (.inr (by omega)); generalize w3.setCells B2 0 ([row .u8 32 (bl (LD.pub k)),[kfv B1]].flatten)=w4 at M hwz OF ⊢; refine xT ?_
 have M2:Mm w0 ((B1,row .u8 32 k)::l) w4:=M.sub _ (by first | exact List.Sublist.cons _ (List.Sublist.refl _) | exact List.cons_sublist_cons.2 (List.Sublist.cons _ (List.Sublist.refl _)))
 have c1_:=M.part mS 0 ([row .u8 32 (bl (LD.pub k)),[kfv B1]].flatten) (by rw [List.drop_zero,List.take_length])
 have hbel:Below w.heap.size w w4:=⟨M.below.os.trans hb0.os.symm,M.below.tape.trans hb0.tape.symm,M.below.output.trans hb0.output.symm,OF.size,fun b hb=>OF.blk b hb (fun h=>by cases h)⟩
 have HS:=show Hid _ from (And.intro hB_B1 M2); clear M2; clear M OF; go_wp2
 refine bodyPost_ret (v:=.agg ([row .u8 32 (bl (LD.pub k)),[kfv B1]].flatten).toArray) (retCell 2 63 ⟨B2,0,none⟩ ([row .u8 32 (bl (LD.pub k)),[kfv B1]].flatten) rfl rfl (fun _=>by kernel_rfl) (fun _=>by rw [flat_len _ [32,1] (by kernel_rfl)]; kernel_rfl) c1_) rfl ?_
 exact ⟨B1,rfl,HS.out.1,HS.out.2,hbel⟩
theorem khalf1_any (w0 w:World) (A:Nat) (l:List (Nat × List Value)) (k u:Nat→Int) (hk:In 256 32 k) (hu:In 256 32 u) (hg:HGlob13 w0) (hA:(A,row .u8 32 k)∈l) (M:Mm w0 l w) :
 Calls Tryz.prog 61 #[(.agg (row .u8 32 (u)).toArray),.pointer (some ⟨A,0,none⟩)] w fun e w'=>e=.returned (.tuple #[(.agg (row .u8 32 (bl (lby (tm k u)))).toArray),.int .i64 (ekd k u)])∧Below w.heap.size w w':=by
 have hb0:=M.below; have hwz:=xnR w.heap.size; have OF:=Off.refl [] w
 go_enter Tryz.func61,Tryz.ntmps61
 go_upto_region 0 with fail; refine wp_region_list ?_; have hlb:=(Below.refl w.heap.size w).alloc (xnR _) (.cells (row .u8 32 u).toArray 23); refine actL (w':=w.alloc (.cells (row .u8 32 u).toArray 23)) (.pointer (some ⟨w.heap.size,0,none⟩)) rfl (by kernel_rfl) ?_; simp only [aP,lI,l0,lS]; have hB_:=hwz; replace hwz:=xnT hwz hlb.size; replace OF:=OF.below hlb
 replace M:=M.box (row .u8 32 u).toArray 23 w.heap.size rfl; clear hlb; generalize w.alloc (.cells (row .u8 32 u).toArray 23)=w1 at M hwz OF ⊢; generalize eB_:w.heap.size=B1 at M ⊢
 have hB_B1:w.heap.size≤B1:=by rw [← eB_]; exact hB_
 clear hB_ eB_
 replace M:Mm w0 ((B1,row .u8 32 u)::l) w1:=M
 have hlb:=(Below.refl w1.heap.size w1).alloc (xnR _) (.cells zu8_32 23); refine actL (w':=w1.alloc (.cells zu8_32 23)) (.pointer (some ⟨w1.heap.size,0,none⟩)) rfl (by kernel_rfl) ?_; simp only [aP,lI,l0,lS]; have hB_:=hwz; replace hwz:=xnT hwz hlb.size; replace OF:=OF.below hlb; replace M:=M.box zu8_32 23 w1.heap.size rfl; clear hlb
 generalize w1.alloc (.cells zu8_32 23)=w2 at M hwz OF ⊢; generalize eB_:w1.heap.size=B2 at M ⊢
 have hB_B2:w.heap.size≤B2:=by rw [← eB_]; exact hB_
 clear hB_ eB_
 replace M:Mm w0 ((B2,row .u8 32 (fun _=>0))::(B1,row .u8 32 u)::l) w2:=M
 refine xpL (.int .i64 0) ?_; refine xT ?_; go_upto_region 1 with fail; refine wp_region_list ?_; refine xaL (.agg (row .u8 32 k).toArray) (loadN 23 _ ⟨A,0,none⟩ (row .u8 32 k) rfl rfl (fun _=>by kernel_rfl) (fun _=>by rw [row32]; kernel_rfl) (M.part (mT _ (mT _ hA)) 0 _ (by rw [List.drop_zero,List.take_length]))) ?_
 refine xaL (.agg (row .u8 32 u).toArray) (loadN 23 _ ⟨B1,0,none⟩ (row .u8 32 u) rfl rfl (fun _=>by kernel_rfl) (fun _=>by rw [row32]; kernel_rfl) (M.part (mT _ mS) 0 _ (by rw [List.drop_zero,List.take_length]))) ?_; refine xcL (lshared_any k u hk hu _ (hg.mm M).k (hg.mm M).t) ?_; rintro e w3 ⟨rfl,l⟩; replace M:=M.call l; replace hwz:=xnT hwz l.size; replace OF:=OF.below l; clear l
 refine xeL ?_; refine xpL (.agg (row .u8 32 (bl (lby (tm k u)))).toArray) ?_; refine xpL (.int .i64 (if tm k u=0 then 20 else 0)) ?_; refine skipOpL rfl (storeP (row .u8 32 (bl (lby (tm k u)))) B2 0 23 _ _ rfl rfl rfl (M.thereP mS 0 32 (Nat.le_of_ble_eq_true rfl)) (by kernel_rfl) (row_one .u8 32 (bl (lby (tm k u))))) ?_; simp only [Act.put]
 replace M:=M.setAll (row .u8 32 (bl (lby (tm k u)))) (by first | (rw [row32,row32]; done) | (rw [row32]; rfl) | (rw [row32]; done)); replace hwz:=xnT hwz (Off.size ((Off.refl [B2] _).setAll (b:=B2) mS 0 (row .u8 32 (bl (lby (tm k u)))))); replace OF:=OF.and1 ((Off.refl [B2] _).setAll (b:=B2) mS 0 (row .u8 32 (bl (lby (tm k u))))) (.inr (by omega))
 generalize w3.setCells B2 0 (row .u8 32 (bl (lby (tm k u))))=w4 at M hwz OF ⊢; refine xpL (.int .i64 (if tm k u=0 then 20 else 0)) ?_; refine xT ?_; have c1_:=M.part mS 0 (row .u8 32 (bl (lby (tm k u)))) (by rw [List.drop_zero,List.take_length])
 have hbel:Below w.heap.size w w4:=⟨M.below.os.trans hb0.os.symm,M.below.tape.trans hb0.tape.symm,M.below.output.trans hb0.output.symm,OF.size,fun b hb=>OF.blk b hb (fun h=>by cases h)⟩
 clear M OF
 rw [show (if tm k u=0 then (20:Int) else 0)=ekd k u from rfl]
 go_wp2; refine bodyPost_ret (v:=.tuple #[(.agg (row .u8 32 (bl (lby (tm k u)))).toArray),.int .i64 (ekd k u)]) (retCellTmp 3 4 23 ⟨B2,0,none⟩ (row .u8 32 (bl (lby (tm k u)))) _ rfl rfl rfl (fun _=>by kernel_rfl) (fun _=>by rw [row32]; kernel_rfl) c1_) rfl ?_
 exact ⟨rfl,hbel⟩
theorem ktow_any (w0 w:World) (l:List (Nat × List Value)) (B:List Int) (hB:B.length=32) (hBb:Byts B) (hg:HGlob13 w0) (M:Mm w0 l w) :
 Calls Tryz.prog 36 #[(.agg (row .u8 32 (bl B)).toArray)] w fun e w'=>e=.returned (.agg (pcs12 (smix snew B)).toArray)∧Below w.heap.size w w':=by
 have hb0:=M.below; have hwz:=xnR w.heap.size; have OF:=Off.refl [] w
 go_enter Tryz.func36,Tryz.ntmps36
 go_upto_region 0 with fail; refine wp_region_list ?_; have hlb:=(Below.refl w.heap.size w).alloc (xnR _) (.cells (row .u8 32 (bl B)).toArray 23); refine actL (w':=w.alloc (.cells (row .u8 32 (bl B)).toArray 23)) (.pointer (some ⟨w.heap.size,0,none⟩)) rfl (by kernel_rfl) ?_; simp only [aP,lI,l0,lS]; have hB_:=hwz; replace hwz:=xnT hwz hlb.size; replace OF:=OF.below hlb
 replace M:=M.box (row .u8 32 (bl B)).toArray 23 w.heap.size rfl; clear hlb; generalize w.alloc (.cells (row .u8 32 (bl B)).toArray 23)=w1 at M hwz OF ⊢; generalize eB_:w.heap.size=B1 at M ⊢
 have hB_B1:w.heap.size≤B1:=by rw [← eB_]; exact hB_
 clear hB_ eB_
 replace M:Mm w0 ((B1,row .u8 32 (bl B))::l) w1:=M
 have hlb:=(Below.refl w1.heap.size w1).alloc (xnR _) (.cells (pcs12 szero).toArray 60); refine actL (w':=w1.alloc (.cells (pcs12 szero).toArray 60)) (.pointer (some ⟨w1.heap.size,0,none⟩)) rfl (by kernel_rfl) ?_; simp only [aP,lI,l0,lS]; have hB_:=hwz; replace hwz:=xnT hwz hlb.size; replace OF:=OF.below hlb; replace M:=M.box (pcs12 szero).toArray 60 w1.heap.size rfl; clear hlb
 generalize w1.alloc (.cells (pcs12 szero).toArray 60)=w2 at M hwz OF ⊢; generalize eB_:w1.heap.size=B2 at M ⊢
 have hB_B2:w.heap.size≤B2:=by rw [← eB_]; exact hB_
 clear hB_ eB_
 replace M:Mm w0 ((B2,pcs12 szero)::(B1,row .u8 32 (bl B))::l) w2:=M
 refine xT ?_; go_upto_region 1 with fail; refine wp_region_list ?_; refine xcL (vnew12_any w0 _ _ hg.s M) ?_; rintro e w3 ⟨B3,rfl,hq_,M',l⟩; have hB_B3:=xnT hwz hq_; clear M hq_; have M:=M'; clear M'; replace hwz:=xnT hwz l.size; replace OF:=OF.below l; clear l; refine xeL ?_; refine xpL (.pointer (some ⟨B3,0,none⟩)) ?_; refine xT ?_; go_upto_region 2 with fail
 refine wp_region_list ?_; refine xpL (.pointer (some ⟨B3,0,none⟩)) ?_; refine xaL (.slice (some ⟨B1,0,none⟩) 32 32) (cutAll 23 _ _ _ rfl rfl (by kernel_rfl)) ?_
 refine xcL (mix12 w0 _ B3 _ snew hg.s snew_w (some ⟨B1,0,none⟩) 32 (by decide) B hB hBb (fun e=>by cases e) M (M.srcA (mI 2 rfl) 0 32 (bl B) (by rw [List.drop_zero,List.take_length]) [B3] (by rw [List.mem_singleton]; exact (M.neq (i:=0) (j:=2) rfl rfl (by decide)).symm))) ?_
 rintro e w4 ⟨rfl,M',o1⟩; clear M; have M:=M'; clear M'; replace hwz:=xnT hwz (Off.size o1); replace OF:=OF.and1 o1 (.inr (by omega)); clear o1; refine xeL ?_; refine xT ?_; go_upto_region 3 with fail; refine wp_region_list ?_; refine xpL (.pointer (some ⟨B3,0,none⟩)) ?_; refine xpL (.pointer (some ⟨B3,0,none⟩)) ?_
 refine xaL (.agg (pcs12 (smix snew B)).toArray) (loadN 60 _ ⟨B3,0,none⟩ (pcs12 (smix snew B)) rfl rfl (fun _=>by kernel_rfl) (fun _=>by rw [pcs12_len]; kernel_rfl) (M.part mS 0 _ (by rw [List.drop_zero,List.take_length]))) ?_; replace M:=M.swap
 refine skipOpL rfl (storeP (pcs12 (smix snew B)) B2 0 60 _ _ rfl rfl rfl (M.thereP mS 0 98 (by rw [pcs12_len]; decide)) (by rw [List.size_toArray,pcs12_len]; kernel_rfl) (pcs12_one _)) ?_; simp only [Act.put]; replace M:=M.setAll (pcs12 (smix snew B)) (by simp only [pcs12_len]); replace hwz:=xnT hwz (Off.size ((Off.refl [B2] _).setAll (b:=B2) mS 0 (pcs12 (smix snew B))))
 replace OF:=OF.and1 ((Off.refl [B2] _).setAll (b:=B2) mS 0 (pcs12 (smix snew B))) (.inr (by omega)); generalize w4.setCells B2 0 (pcs12 (smix snew B))=w5 at M hwz OF ⊢
 replace M:Mm w0 ((B2,pcs12 (smix snew B))::(B3,pcs12 (smix snew B))::(B1,row .u8 32 (bl B))::l) w5:=M
 refine xT ?_; have c1_:=M.part mS 0 (pcs12 (smix snew B)) (by rw [List.drop_zero,List.take_length])
 have hbel:Below w.heap.size w w5:=⟨M.below.os.trans hb0.os.symm,M.below.tape.trans hb0.tape.symm,M.below.output.trans hb0.output.symm,OF.size,fun b hb=>OF.blk b hb (fun h=>by cases h)⟩
 clear M OF; go_wp2; refine bodyPost_ret (v:=.agg (pcs12 (smix snew B)).toArray) (retCell 2 60 ⟨B2,0,none⟩ (pcs12 (smix snew B)) rfl rfl (fun _=>by kernel_rfl) (fun _=>by rw [pcs12_len]; kernel_rfl) c1_) rfl ?_
 exact ⟨rfl,hbel⟩
theorem kkey_any (w0 w:World) (N A:Nat) (l:List (Nat × List Value)) (v0:Value) (ps:List (List Value)) (st:Sym) (hg:HGlob13 w0) (hsw:SymW st) (p k u:Nat→Int) (hk:In 256 32 k) (hu:In 256 32 u) (hA:(A,row .u8 32 k)∈l) (M:Mm w0 ((N,pcx v0 ps st)::l) w) :
 Calls Tryz.prog 50 #[.pointer (some ⟨N,0,none⟩),.agg ([row .u8 32 p,[kfv A]].flatten).toArray,(.agg (row .u8 32 (u)).toArray)] w fun e w'=>e=.returned (.int .i64 (ekd k u))∧Mm w0 ((N,pcx v0 ps (skd st k u))::l) w'∧Off [N] w w':=by
 have hNw:=M.lt mS; have hwz:=xnR w.heap.size; have OF:=Off.refl [N] w
 go_enter Tryz.func50,Tryz.ntmps50
 go_upto_region 0 with fail; refine wp_region_list ?_; have hlb:=(Below.refl w.heap.size w).alloc (xnR _) (.cells ([row .u8 32 p,[kfv A]].flatten).toArray 63); refine actL (w':=w.alloc (.cells ([row .u8 32 p,[kfv A]].flatten).toArray 63)) (.pointer (some ⟨w.heap.size,0,none⟩)) rfl (by kernel_rfl) ?_; simp only [aP,lI,l0,lS]; have hB_:=hwz; replace hwz:=xnT hwz hlb.size
 replace OF:=OF.below hlb; replace M:=M.box ([row .u8 32 p,[kfv A]].flatten).toArray 63 w.heap.size rfl; clear hlb; generalize w.alloc (.cells ([row .u8 32 p,[kfv A]].flatten).toArray 63)=w1 at M hwz OF ⊢; generalize eB_:w.heap.size=B1 at M ⊢
 have hB_B1:w.heap.size≤B1:=by rw [← eB_]; exact hB_
 clear hB_ eB_
 replace M:Mm w0 ((B1,[row .u8 32 p,[kfv A]].flatten)::(N,pcx v0 ps st)::l) w1:=M
 have hlb:=(Below.refl w1.heap.size w1).alloc (xnR _) (.cells (row .u8 32 u).toArray 23); refine actL (w':=w1.alloc (.cells (row .u8 32 u).toArray 23)) (.pointer (some ⟨w1.heap.size,0,none⟩)) rfl (by kernel_rfl) ?_; simp only [aP,lI,l0,lS]; have hB_:=hwz; replace hwz:=xnT hwz hlb.size; replace OF:=OF.below hlb; replace M:=M.box (row .u8 32 u).toArray 23 w1.heap.size rfl; clear hlb
 generalize w1.alloc (.cells (row .u8 32 u).toArray 23)=w2 at M hwz OF ⊢; generalize eB_:w1.heap.size=B2 at M ⊢
 have hB_B2:w.heap.size≤B2:=by rw [← eB_]; exact hB_
 clear hB_ eB_
 replace M:Mm w0 ((B2,row .u8 32 u)::(B1,[row .u8 32 p,[kfv A]].flatten)::(N,pcx v0 ps st)::l) w2:=M
 refine xpL (.int .i64 0) ?_; refine xT ?_; go_upto_region 1 with fail; refine wp_region_list ?_; refine xpL (.pointer (some ⟨B1,32,none⟩)) ?_; refine xaL (kfv A) (load1 _ _ ⟨B1,32,none⟩ _ rfl rfl (fun _=>by kernel_rfl) (M.get (mT _ mS) 32 _ (flat_get _ [32,1] (by kernel_rfl) 1 32 _ rfl rfl))) ?_
 refine xaL (.agg (row .u8 32 u).toArray) (loadN 23 _ ⟨B2,0,none⟩ (row .u8 32 u) rfl rfl (fun _=>by kernel_rfl) (fun _=>by rw [row32]; kernel_rfl) (M.part mS 0 _ (by rw [List.drop_zero,List.take_length]))) ?_; refine xcL (khalf1_any w0 _ A _ k u hk hu hg (mT _ (mT _ (mT _ hA))) M) ?_; rintro e w3 ⟨rfl,l⟩; replace M:=M.call l; replace hwz:=xnT hwz l.size; replace OF:=OF.below l
 clear l; refine xeL ?_; refine xpL (.tuple #[.agg (row .u8 32 (bl (lby (tm k u)))).toArray,.int .i64 (ekd k u)]) ?_; refine xpL (.agg (row .u8 32 (bl (lby (tm k u)))).toArray) ?_; refine xpL (.int .i64 (ekd k u)) ?_; have hlb:=(Below.refl w3.heap.size w3).alloc (xnR _) (.cells zu8_32 23)
 refine actL (w':=w3.alloc (.cells zu8_32 23)) (.pointer (some ⟨w3.heap.size,0,none⟩)) rfl (by kernel_rfl) ?_; simp only [aP,lI,l0,lS]; have hB_:=hwz; replace hwz:=xnT hwz hlb.size; replace OF:=OF.below hlb; replace M:=M.box zu8_32 23 w3.heap.size rfl; clear hlb; generalize w3.alloc (.cells zu8_32 23)=w4 at M hwz OF ⊢; generalize eB_:w3.heap.size=B4 at M ⊢
 have hB_B4:w.heap.size≤B4:=by rw [← eB_]; exact hB_
 clear hB_ eB_
 replace M:Mm w0 ((B4,row .u8 32 (fun _=>0))::(B2,row .u8 32 u)::(B1,[row .u8 32 p,[kfv A]].flatten)::(N,pcx v0 ps st)::l) w4:=M
 refine skipOpL rfl (storeP (row .u8 32 (bl (lby (tm k u)))) B4 0 23 _ _ rfl rfl rfl (M.thereP mS 0 32 (Nat.le_of_ble_eq_true rfl)) (by kernel_rfl) (row_one .u8 32 (bl (lby (tm k u))))) ?_; simp only [Act.put]; replace M:=M.setAll (row .u8 32 (bl (lby (tm k u)))) (by first | (rw [row32,row32]; done) | (rw [row32]; rfl) | (rw [row32]; done))
 replace hwz:=xnT hwz (Off.size ((Off.refl [B4] _).setAll (b:=B4) mS 0 (row .u8 32 (bl (lby (tm k u)))))); replace OF:=OF.and1 ((Off.refl [B4] _).setAll (b:=B4) mS 0 (row .u8 32 (bl (lby (tm k u))))) (.inr (by omega)); generalize w4.setCells B4 0 (row .u8 32 (bl (lby (tm k u))))=w5 at M hwz OF ⊢; refine xpL (.int .i64 (ekd k u)) ?_; refine xT ?_
 by_cases h0:tm k u=0
 · replace h0:=show Hid _ from h0
   go_upto_region 2 with fail; refine wp_region_list ?_; refine xpL (.int .i64 (ekd k u)) ?_; refine xaL (.bool true) (neqI .i64 _ _ _ _ _ _ rfl rfl rfl true (by rw [ekd_zero h0.out]; rfl) _) ?_; refine xT ?_; go_upto_region 3 with fail; refine wp_region_list ?_; refine xpL (.int .i64 (ekd k u)) ?_; refine xpL (.int .i64 (ekd k u)) ?_; refine xT ?_
   have hA_:=show Hid _ from (show skd st k u=st from if_pos h0.out); replace M:=M.rot4
   replace M:Mm w0 ((N,pcx v0 ps st)::l) w5:=M.sub _ (List.cons_sublist_cons.2 (List.Sublist.cons _ (List.Sublist.cons _ (List.Sublist.cons _ (List.Sublist.refl _)))))
   have HS:=show Hid _ from (And.intro M OF); clear M OF h0; go_wp2; go_ret
   exact ⟨rfl,by rw [hA_.out]; exact HS.out.1,HS.out.2⟩
 · replace h0:=show Hid _ from h0
   go_upto_region 2 with fail; refine wp_region_list ?_; refine xpL (.int .i64 (ekd k u)) ?_; refine xaL (.bool false) (neqI .i64 _ _ _ _ _ _ rfl rfl rfl false (by rw [ekd_pos h0.out]; rfl) _) ?_; refine xT ?_; replace M:=M.rot4; go_upto_region 4 with fail
   refine wp_region_held_drew (S:=fun w'=>∃ cs_:List Value,Mm w0 ((N,cs_)::(B4,row .u8 32 (bl (lby (tm k u))))::(B2,row .u8 32 u)::(B1,[row .u8 32 p,[kfv A]].flatten)::l) w') (by kernel_rfl) ⟨_,M.drew⟩ ?_; intro _; replace M:=M.drew; have hdr:=(Below.refl w5.heap.size w5).drew; replace hwz:=xnT hwz hdr.size; replace OF:=OF.below hdr; clear hdr
   generalize w5.drew=w6 at M hwz OF ⊢; refine xrH 0 19 rfl (.pointer (some ⟨N,0,none⟩)) (fun _ ⟨_,M⟩=>(by kernel_rfl)) ⟨_,M⟩ ?_; refine xrH 1 20 rfl (.pointer (some ⟨N,0,none⟩)) (fun _ ⟨_,M⟩=>(by kernel_rfl)) ⟨_,M⟩ ?_; refine xrH 2 21 rfl (.pointer (some ⟨N,1,none⟩)) (fun _ ⟨_,M⟩=>(by kernel_rfl)) ⟨_,M⟩ ?_
   refine xrH 3 22 rfl (.slice (some ⟨B4,0,none⟩) 32 32) (fun _ ⟨_,M⟩=>cutAll 23 _ _ _ rfl rfl (by kernel_rfl)) ⟨_,M⟩ ?_
   refine callH (i:=4) (some 23) rfl (by kernel_rfl) rfl rfl (fun _=>by kernel_rfl) (key32 w0 _ N _ v0 ps st hg.s hsw (some ⟨B4,0,none⟩) 32 (by decide) (tm k u) (fun e=>by cases e) M (M.srcRow (mT _ mS) 0 32 (bl (lby (tm k u))) (by rw [List.drop_zero,List.take_length]))) ?_; rintro e w7 ⟨rfl,M',o1⟩; clear M; have M:=M'; clear M'; replace hwz:=xnT hwz (Off.size o1)
   replace OF:=OF.and1 o1 (.inl (by simp)); clear o1
   refine ⟨_,rfl,⟨_,M⟩,?_⟩
   simp only [aP,lI,l0,lS]
   refine wpAnyH_done (by kernel_rfl) ?_ _
   first | show Exit.then _ _ _ _ _ | show Exit.inBlock _ _ _ _ _
   go_upto_region 5 with fail; refine wp_region_list ?_; refine xpL (.int .i64 0) ?_; refine xT ?_; have hA_:=show Hid _ from (show skd st k u=skey st (lby (tm k u)) from if_neg h0.out); have hE_:=show Hid _ from (ekd_pos h0.out)
   replace M:Mm w0 ((N,pcx v0 ps (skey st (lby (tm k u))))::l) w7:=M.sub _ (List.cons_sublist_cons.2 (List.Sublist.cons _ (List.Sublist.cons _ (List.Sublist.cons _ (List.Sublist.refl _)))))
   have HS:=show Hid _ from (And.intro M OF); clear M OF h0; go_wp2; go_ret
   exact ⟨by rw [hE_.out]; rfl,by rw [hA_.out]; exact HS.out.1,HS.out.2⟩
theorem kclone_any (w0 w:World) (R A D:Nat) (l:List (Nat × List Value)) (av:Int) (s:Shk) (M:Mm w0 ((R,kcs av s A D)::l) w) :
 Calls Tryz.prog 47 #[.pointer (some ⟨R,0,none⟩)] w fun e w'=>∃ N,e=.returned (.pointer (some ⟨N,0,none⟩))∧w.heap.size≤N∧Mm w0 ((N,kcs av s A D)::(R,kcs av s A D)::l) w'∧Below w.heap.size w w':=by
 have hb0:=M.below; have hwz:=xnR w.heap.size; have OF:=Off.refl [] w
 replace M:Mm w0 ((R,[[Value.int .i64 av],pcs12 s.st,row .u8 32 (bl (LD.pub s.sec)),[kfv A],row .u8 32 (bl (LD.pub s.drw)),[kfv D],row .u8 32 (bl s.its),row .u8 32 (bl s.drn),row .u8 32 (fun _=>0),row .u8 32 (fun _=>0)].flatten)::l) w:=M
 go_enter Tryz.func47,Tryz.ntmps47
 go_upto_region 0 with fail; refine wp_region_list ?_; refine xpL (.pointer none) ?_; refine xT ?_; go_upto_region 1 with fail; refine wp_region_list ?_; refine xpL (.pointer (some ⟨R,0,none⟩)) ?_; refine xpL (.pointer (some ⟨R,0,none⟩)) ?_
 refine readL (.agg ([[Value.int .i64 av],pcs12 s.st,row .u8 32 (bl (LD.pub s.sec)),[kfv A],row .u8 32 (bl (LD.pub s.drw)),[kfv D],row .u8 32 (bl s.its),row .u8 32 (bl s.drn),row .u8 32 (fun _=>0),row .u8 32 (fun _=>0)].flatten).toArray) rfl (loadN 65 _ ⟨R,0,none⟩ ([[Value.int .i64 av],pcs12 s.st,row .u8 32 (bl (LD.pub s.sec)),[kfv A],row .u8 32 (bl (LD.pub s.drw)),[kfv D],row .u8 32 (bl s.its),row .u8 32 (bl s.drn),row .u8 32 (fun _=>0),row .u8 32 (fun _=>0)].flatten) rfl rfl (fun _=>by kernel_rfl) (fun _=>by rw [flat_len _ [1,98,32,1,32,1,32,32,32,32] (by kernel_rfl)]; kernel_rfl) (M.part mS 0 _ (flat_mid [] [[Value.int .i64 av],pcs12 s.st,row .u8 32 (bl (LD.pub s.sec)),[kfv A],row .u8 32 (bl (LD.pub s.drw)),[kfv D],row .u8 32 (bl s.its),row .u8 32 (bl s.drn),row .u8 32 (fun _=>0),row .u8 32 (fun _=>0)] [] 0 (by kernel_rfl)))) ?_
 simp only [aP,lI,l0,lS]; have hlb:=(Below.refl w.heap.size w).alloc (xnR _) (.cells ([[Value.int .i64 0],pcs12 szero,row .u8 32 (fun _=>0),[Value.nilFunc],row .u8 32 (fun _=>0),[Value.nilFunc],row .u8 32 (fun _=>0),row .u8 32 (fun _=>0),row .u8 32 (fun _=>0),row .u8 32 (fun _=>0)].flatten).toArray 65)
 refine actL (w':=w.alloc (.cells ([[Value.int .i64 0],pcs12 szero,row .u8 32 (fun _=>0),[Value.nilFunc],row .u8 32 (fun _=>0),[Value.nilFunc],row .u8 32 (fun _=>0),row .u8 32 (fun _=>0),row .u8 32 (fun _=>0),row .u8 32 (fun _=>0)].flatten).toArray 65)) (.pointer (some ⟨w.heap.size,0,none⟩)) rfl (by kernel_rfl) ?_; simp only [aP,lI,l0,lS]; have hB_:=hwz
 replace hwz:=xnT hwz hlb.size; replace OF:=OF.below hlb; replace M:=M.box ([[Value.int .i64 0],pcs12 szero,row .u8 32 (fun _=>0),[Value.nilFunc],row .u8 32 (fun _=>0),[Value.nilFunc],row .u8 32 (fun _=>0),row .u8 32 (fun _=>0),row .u8 32 (fun _=>0),row .u8 32 (fun _=>0)].flatten).toArray 65 w.heap.size rfl; clear hlb
 generalize w.alloc (.cells ([[Value.int .i64 0],pcs12 szero,row .u8 32 (fun _=>0),[Value.nilFunc],row .u8 32 (fun _=>0),[Value.nilFunc],row .u8 32 (fun _=>0),row .u8 32 (fun _=>0),row .u8 32 (fun _=>0),row .u8 32 (fun _=>0)].flatten).toArray 65)=w1 at M hwz OF ⊢; generalize eB_:w.heap.size=B1 at M ⊢
 have hB_B1:w.heap.size≤B1:=by rw [← eB_]; exact hB_
 clear hB_ eB_
 replace M:Mm w0 ((B1,[[Value.int .i64 0],pcs12 szero,row .u8 32 (fun _=>0),[Value.nilFunc],row .u8 32 (fun _=>0),[Value.nilFunc],row .u8 32 (fun _=>0),row .u8 32 (fun _=>0),row .u8 32 (fun _=>0),row .u8 32 (fun _=>0)].flatten)::(R,[[Value.int .i64 av],pcs12 s.st,row .u8 32 (bl (LD.pub s.sec)),[kfv A],row .u8 32 (bl (LD.pub s.drw)),[kfv D],row .u8 32 (bl s.its),row .u8 32 (bl s.drn),row .u8 32 (fun _=>0),row .u8 32 (fun _=>0)].flatten)::l) w1:=M
 refine skipOpL rfl (storeP ([[Value.int .i64 av],pcs12 s.st,row .u8 32 (bl (LD.pub s.sec)),[kfv A],row .u8 32 (bl (LD.pub s.drw)),[kfv D],row .u8 32 (bl s.its),row .u8 32 (bl s.drn),row .u8 32 (fun _=>0),row .u8 32 (fun _=>0)].flatten) B1 0 65 _ _ rfl rfl rfl (M.thereP mS 0 293 (by rw [flat_len _ [1,98,32,1,32,1,32,32,32,32] (by kernel_rfl)]; decide)) (by rw [List.size_toArray,flat_len _ [1,98,32,1,32,1,32,32,32,32] (by kernel_rfl)]; kernel_rfl) (flat_one _ (fun p_ hp_=>by
  simp only [List.mem_cons,List.not_mem_nil,or_false] at hp_
  rcases hp_ with rfl | rfl | rfl | rfl | rfl | rfl | rfl | rfl | rfl | rfl <;> first | exact row_one .u8 32 _ | exact pcs12_one _ | (intro u hu; obtain rfl:=xm1 hu; rfl)))) ?_
 simp only [Act.put]
 replace M:=M.setAll ([[Value.int .i64 av],pcs12 s.st,row .u8 32 (bl (LD.pub s.sec)),[kfv A],row .u8 32 (bl (LD.pub s.drw)),[kfv D],row .u8 32 (bl s.its),row .u8 32 (bl s.drn),row .u8 32 (fun _=>0),row .u8 32 (fun _=>0)].flatten) (by rw [flat_len _ [1,98,32,1,32,1,32,32,32,32] (by kernel_rfl),flat_len _ [1,98,32,1,32,1,32,32,32,32] (by kernel_rfl)])
 replace hwz:=xnT hwz (Off.size ((Off.refl [B1] _).setAll (b:=B1) mS 0 ([[Value.int .i64 av],pcs12 s.st,row .u8 32 (bl (LD.pub s.sec)),[kfv A],row .u8 32 (bl (LD.pub s.drw)),[kfv D],row .u8 32 (bl s.its),row .u8 32 (bl s.drn),row .u8 32 (fun _=>0),row .u8 32 (fun _=>0)].flatten)))
 replace OF:=OF.and1 ((Off.refl [B1] _).setAll (b:=B1) mS 0 ([[Value.int .i64 av],pcs12 s.st,row .u8 32 (bl (LD.pub s.sec)),[kfv A],row .u8 32 (bl (LD.pub s.drw)),[kfv D],row .u8 32 (bl s.its),row .u8 32 (bl s.drn),row .u8 32 (fun _=>0),row .u8 32 (fun _=>0)].flatten)) (.inr (by omega))
 generalize w1.setCells B1 0 ([[Value.int .i64 av],pcs12 s.st,row .u8 32 (bl (LD.pub s.sec)),[kfv A],row .u8 32 (bl (LD.pub s.drw)),[kfv D],row .u8 32 (bl s.its),row .u8 32 (bl s.drn),row .u8 32 (fun _=>0),row .u8 32 (fun _=>0)].flatten)=w2 at M hwz OF ⊢; refine xT ?_; go_upto_region 2 with fail; refine wp_region_list ?_; refine xpL (.pointer (some ⟨R,0,none⟩)) ?_
 refine xpL (.pointer (some ⟨R,0,none⟩)) ?_; refine xpL (.pointer (some ⟨R,1,none⟩)) ?_; replace M:=M.swap
 replace M:Mm w0 ((R,[[Value.int .i64 av],pcs12 s.st,row .u8 32 (bl (LD.pub s.sec)),[kfv A],row .u8 32 (bl (LD.pub s.drw)),[kfv D],row .u8 32 (bl s.its),row .u8 32 (bl s.drn),row .u8 32 (fun _=>0),row .u8 32 (fun _=>0)].flatten)::(B1,[[Value.int .i64 av],pcs12 s.st,row .u8 32 (bl (LD.pub s.sec)),[kfv A],row .u8 32 (bl (LD.pub s.drw)),[kfv D],row .u8 32 (bl s.its),row .u8 32 (bl s.drn),row .u8 32 (fun _=>0),row .u8 32 (fun _=>0)].flatten)::l) w2:=M
 refine xcL (vclone13_any w0 _ R _ _ _ s.st M) ?_; rintro e w3 ⟨B3,rfl,hq_,M',l⟩; have hB_B3:=xnT hwz hq_; clear M hq_; have M:=M'; clear M'; replace hwz:=xnT hwz l.size; replace OF:=OF.below l; clear l; refine xeL ?_
 replace M:Mm w0 ((B3,pcs12 s.st)::(R,[[Value.int .i64 av],pcs12 s.st,row .u8 32 (bl (LD.pub s.sec)),[kfv A],row .u8 32 (bl (LD.pub s.drw)),[kfv D],row .u8 32 (bl s.its),row .u8 32 (bl s.drn),row .u8 32 (fun _=>0),row .u8 32 (fun _=>0)].flatten)::(B1,[[Value.int .i64 av],pcs12 s.st,row .u8 32 (bl (LD.pub s.sec)),[kfv A],row .u8 32 (bl (LD.pub s.drw)),[kfv D],row .u8 32 (bl s.its),row .u8 32 (bl s.drn),row .u8 32 (fun _=>0),row .u8 32 (fun _=>0)].flatten)::l) w3:=M
 refine xpL (.pointer (some ⟨B3,0,none⟩)) ?_; refine xaL (.agg (pcs12 s.st).toArray) (loadN 60 _ ⟨B3,0,none⟩ (pcs12 s.st) rfl rfl (fun _=>by kernel_rfl) (fun _=>by rw [pcs12_len]; kernel_rfl) (M.part mS 0 _ (by rw [List.drop_zero,List.take_length]))) ?_; refine xpL (.pointer (some ⟨B1,1,none⟩)) ?_; replace M:=M.rot3
 refine skipOpL rfl (storeP (pcs12 s.st) B1 1 60 _ _ rfl rfl rfl (M.thereP mS 1 98 (by rw [flat_len _ [1,98,32,1,32,1,32,32,32,32] (by kernel_rfl)]; decide)) (by rw [List.size_toArray,pcs12_len]; kernel_rfl) (pcs12_one _)) ?_
 simp only [Act.put]; replace M:=M.setPart (pcs12 s.st) 1 (by rw [pcs12_len,flat_len _ [1,98,32,1,32,1,32,32,32,32] (by kernel_rfl)]; decide)
 rw [flat_set _ [1,98,32,1,32,1,32,32,32,32] (by kernel_rfl) 1 1 _ (pcs12 s.st) rfl rfl (by simp only [pcs12_len])] at M
 replace hwz:=xnT hwz (Off.size ((Off.refl [B1] _).setAll (b:=B1) mS 1 (pcs12 s.st))); replace OF:=OF.and1 ((Off.refl [B1] _).setAll (b:=B1) mS 1 (pcs12 s.st)) (.inr (by omega)); generalize w3.setCells B1 1 (pcs12 s.st)=w4 at M hwz OF ⊢
 replace M:Mm w0 ((B1,[[Value.int .i64 av],pcs12 s.st,row .u8 32 (bl (LD.pub s.sec)),[kfv A],row .u8 32 (bl (LD.pub s.drw)),[kfv D],row .u8 32 (bl s.its),row .u8 32 (bl s.drn),row .u8 32 (fun _=>0),row .u8 32 (fun _=>0)].flatten)::(B3,pcs12 s.st)::(R,[[Value.int .i64 av],pcs12 s.st,row .u8 32 (bl (LD.pub s.sec)),[kfv A],row .u8 32 (bl (LD.pub s.drw)),[kfv D],row .u8 32 (bl s.its),row .u8 32 (bl s.drn),row .u8 32 (fun _=>0),row .u8 32 (fun _=>0)].flatten)::l) w4:=M
 refine xT ?_; go_upto_region 3 with fail; refine wp_region_list ?_; refine xpL (.pointer (some ⟨B1,0,none⟩)) ?_; refine xT ?_; replace M:=M.rot3; replace M:=M.swap
 replace M:Mm w0 ((B1,[[Value.int .i64 av],pcs12 s.st,row .u8 32 (bl (LD.pub s.sec)),[kfv A],row .u8 32 (bl (LD.pub s.drw)),[kfv D],row .u8 32 (bl s.its),row .u8 32 (bl s.drn),row .u8 32 (fun _=>0),row .u8 32 (fun _=>0)].flatten)::(R,[[Value.int .i64 av],pcs12 s.st,row .u8 32 (bl (LD.pub s.sec)),[kfv A],row .u8 32 (bl (LD.pub s.drw)),[kfv D],row .u8 32 (bl s.its),row .u8 32 (bl s.drn),row .u8 32 (fun _=>0),row .u8 32 (fun _=>0)].flatten)::l) w4:=M.sub _ (List.cons_sublist_cons.2 (List.cons_sublist_cons.2 (List.Sublist.cons _ (List.Sublist.refl _))))
 have hbel:Below w.heap.size w w4:=⟨M.below.os.trans hb0.os.symm,M.below.tape.trans hb0.tape.symm,M.below.output.trans hb0.output.symm,OF.size,fun b hb=>OF.blk b hb (fun h=>by cases h)⟩
 have HS:=show Hid _ from (And.intro hB_B1 (And.intro M hbel)); clear M OF hbel hB_B1; go_wp2; go_ret
 exact ⟨_,rfl,HS.out⟩
theorem kend_any (w0 w:World) (N A D:Nat) (l:List (Nat × List Value)) (av:Int) (s:Shk) (hg:HGlob13 w0) (hsw:SymW s.st) (M:Mm w0 ((N,kcs av s A D)::l) w) :
 Calls Tryz.prog 48 #[.pointer (some ⟨N,0,none⟩)] w fun e w'=>e=.returned (.tuple #[])∧Mm w0 ((N,kce s)::l) w'∧Off [N] w w':=by
 have hNw:=M.lt mS; have hwz:=xnR w.heap.size; have OF:=Off.refl [N] w
 replace M:Mm w0 ((N,[[Value.int .i64 av],pcs12 s.st,row .u8 32 (bl (LD.pub s.sec)),[kfv A],row .u8 32 (bl (LD.pub s.drw)),[kfv D],row .u8 32 (bl s.its),row .u8 32 (bl s.drn),row .u8 32 (fun _=>0),row .u8 32 (fun _=>0)].flatten)::l) w:=M
 go_enter Tryz.func48,Tryz.ntmps48
 go_upto_region 0 with fail; refine wp_region_list ?_; refine xpL (.pointer (some ⟨N,0,none⟩)) ?_; refine xpL (.pointer (some ⟨N,0,none⟩)) ?_; refine xpL (.pointer (some ⟨N,1,none⟩)) ?_
 replace M:Mm w0 ((N,[[Value.int .i64 av],pcs12 s.st,row .u8 32 (bl (LD.pub s.sec)),[kfv A],row .u8 32 (bl (LD.pub s.drw)),[kfv D],row .u8 32 (bl s.its),row .u8 32 (bl s.drn),row .u8 32 (fun _=>0),row .u8 32 (fun _=>0)].flatten)::l) w:=M
 refine xcL (vsplit13_any w0 _ N _ _ _ s.st hg.s hsw M) ?_; rintro e w1 ⟨rfl,l⟩; replace M:=M.call l; replace hwz:=xnT hwz l.size; replace OF:=OF.below l; clear l; refine xeL ?_; refine xpL (.tuple #[.agg (row .u8 32 (kA s.st.c 0 (bl []))).toArray,.agg (row .u8 32 (kB s.st.c 0 (bl []))).toArray]) ?_; refine xpL (.agg (row .u8 32 (kA s.st.c 0 (bl []))).toArray) ?_
 refine xpL (.agg (row .u8 32 (kB s.st.c 0 (bl []))).toArray) ?_; have hlb:=(Below.refl w1.heap.size w1).alloc (xnR _) (.cells zu8_32 23); refine actL (w':=w1.alloc (.cells zu8_32 23)) (.pointer (some ⟨w1.heap.size,0,none⟩)) rfl (by kernel_rfl) ?_; simp only [aP,lI,l0,lS]; have hB_:=hwz; replace hwz:=xnT hwz hlb.size; replace OF:=OF.below hlb
 replace M:=M.box zu8_32 23 w1.heap.size rfl; clear hlb; generalize w1.alloc (.cells zu8_32 23)=w2 at M hwz OF ⊢; generalize eB_:w1.heap.size=B2 at M ⊢
 have hB_B2:w.heap.size≤B2:=by rw [← eB_]; exact hB_
 clear hB_ eB_
 replace M:Mm w0 ((B2,row .u8 32 (fun _=>0))::(N,[[Value.int .i64 av],pcs12 s.st,row .u8 32 (bl (LD.pub s.sec)),[kfv A],row .u8 32 (bl (LD.pub s.drw)),[kfv D],row .u8 32 (bl s.its),row .u8 32 (bl s.drn),row .u8 32 (fun _=>0),row .u8 32 (fun _=>0)].flatten)::l) w2:=M
 have hlb:=(Below.refl w2.heap.size w2).alloc (xnR _) (.cells zu8_32 23); refine actL (w':=w2.alloc (.cells zu8_32 23)) (.pointer (some ⟨w2.heap.size,0,none⟩)) rfl (by kernel_rfl) ?_; simp only [aP,lI,l0,lS]; have hB_:=hwz; replace hwz:=xnT hwz hlb.size; replace OF:=OF.below hlb; replace M:=M.box zu8_32 23 w2.heap.size rfl; clear hlb
 generalize w2.alloc (.cells zu8_32 23)=w3 at M hwz OF ⊢; generalize eB_:w2.heap.size=B3 at M ⊢
 have hB_B3:w.heap.size≤B3:=by rw [← eB_]; exact hB_
 clear hB_ eB_
 replace M:Mm w0 ((B3,row .u8 32 (fun _=>0))::(B2,row .u8 32 (fun _=>0))::(N,[[Value.int .i64 av],pcs12 s.st,row .u8 32 (bl (LD.pub s.sec)),[kfv A],row .u8 32 (bl (LD.pub s.drw)),[kfv D],row .u8 32 (bl s.its),row .u8 32 (bl s.drn),row .u8 32 (fun _=>0),row .u8 32 (fun _=>0)].flatten)::l) w3:=M
 replace M:=M.swap; refine skipOpL rfl (storeP (row .u8 32 (kA s.st.c 0 (bl []))) B2 0 23 _ _ rfl rfl rfl (M.thereP mS 0 32 (Nat.le_of_ble_eq_true rfl)) (by kernel_rfl) (row_one .u8 32 (kA s.st.c 0 (bl [])))) ?_; simp only [Act.put]; replace M:=M.setAll (row .u8 32 (kA s.st.c 0 (bl []))) (by first | (rw [row32,row32]; done) | (rw [row32]; rfl) | (rw [row32]; done))
 replace hwz:=xnT hwz (Off.size ((Off.refl [B2] _).setAll (b:=B2) mS 0 (row .u8 32 (kA s.st.c 0 (bl []))))); replace OF:=OF.and1 ((Off.refl [B2] _).setAll (b:=B2) mS 0 (row .u8 32 (kA s.st.c 0 (bl [])))) (.inr (by omega)); generalize w3.setCells B2 0 (row .u8 32 (kA s.st.c 0 (bl [])))=w4 at M hwz OF ⊢; replace M:=M.swap
 refine skipOpL rfl (storeP (row .u8 32 (kB s.st.c 0 (bl []))) B3 0 23 _ _ rfl rfl rfl (M.thereP mS 0 32 (Nat.le_of_ble_eq_true rfl)) (by kernel_rfl) (row_one .u8 32 (kB s.st.c 0 (bl [])))) ?_; simp only [Act.put]; replace M:=M.setAll (row .u8 32 (kB s.st.c 0 (bl []))) (by first | (rw [row32,row32]; done) | (rw [row32]; rfl) | (rw [row32]; done))
 replace hwz:=xnT hwz (Off.size ((Off.refl [B3] _).setAll (b:=B3) mS 0 (row .u8 32 (kB s.st.c 0 (bl []))))); replace OF:=OF.and1 ((Off.refl [B3] _).setAll (b:=B3) mS 0 (row .u8 32 (kB s.st.c 0 (bl [])))) (.inr (by omega)); generalize w4.setCells B3 0 (row .u8 32 (kB s.st.c 0 (bl [])))=w5 at M hwz OF ⊢; refine xT ?_; replace M:=M.rot3; go_upto_region 1 with fail
 refine wp_region_held_drew (S:=fun w'=>∃ (v0_:Value) (s1_:Sym) (f2_:Nat→Int) (v3_:Value) (f4_:Nat→Int) (v5_:Value) (f7_:Nat→Int) (f8_:Nat→Int) (f9_:Nat→Int),Mm w0 ((N,[[v0_],pcs12 s1_,row .u8 32 f2_,[v3_],row .u8 32 f4_,[v5_],row .u8 32 (bl s.its),row .u8 32 f7_,row .u8 32 f8_,row .u8 32 f9_].flatten)::(B3,row .u8 32 (kB s.st.c 0 (bl [])))::(B2,row .u8 32 (kA s.st.c 0 (bl [])))::l) w') (by kernel_rfl) ⟨_,_,_,_,_,_,_,_,_,M.drew⟩ ?_
 intro _; replace M:=M.drew; have hdr:=(Below.refl w5.heap.size w5).drew; replace hwz:=xnT hwz hdr.size; replace OF:=OF.below hdr; clear hdr; generalize w5.drew=w6 at M hwz OF ⊢; refine xrH 0 11 rfl (.pointer (some ⟨N,0,none⟩)) (fun _ ⟨_,_,_,_,_,_,_,_,_,M⟩=>(by kernel_rfl)) ⟨_,_,_,_,_,_,_,_,_,M⟩ ?_
 refine xrH 1 12 rfl (.pointer (some ⟨N,0,none⟩)) (fun _ ⟨_,_,_,_,_,_,_,_,_,M⟩=>(by kernel_rfl)) ⟨_,_,_,_,_,_,_,_,_,M⟩ ?_; refine xrH 2 13 rfl (.pointer (some ⟨N,0,none⟩)) (fun _ ⟨_,_,_,_,_,_,_,_,_,M⟩=>(by kernel_rfl)) ⟨_,_,_,_,_,_,_,_,_,M⟩ ?_
 refine xrH 3 14 rfl (.pointer (some ⟨N,165,none⟩)) (fun _ ⟨_,_,_,_,_,_,_,_,_,M⟩=>(by kernel_rfl)) ⟨_,_,_,_,_,_,_,_,_,M⟩ ?_
 refine xrH 4 15 rfl (.agg (row .u8 32 (bl s.its)).toArray) (fun _ ⟨_,_,_,_,_,_,_,_,_,M⟩=>loadN 23 _ ⟨N,165,none⟩ (row .u8 32 (bl s.its)) rfl rfl (fun _=>by kernel_rfl) (fun _=>by rw [row32]; kernel_rfl) (M.part mS 165 _ (flat_part _ [1,98,32,1,32,1,32,32,32,32] (by kernel_rfl) 6 165 _ rfl rfl))) ⟨_,_,_,_,_,_,_,_,_,M⟩ ?_
 refine xrH 5 16 rfl (.agg (row .u8 32 (kA s.st.c 0 (bl []))).toArray) (fun _ ⟨_,_,_,_,_,_,_,_,_,M⟩=>loadN 23 _ ⟨B2,0,none⟩ (row .u8 32 (kA s.st.c 0 (bl []))) rfl rfl (fun _=>by kernel_rfl) (fun _=>by rw [row32]; kernel_rfl) (M.part (mI 2 rfl) 0 _ (by rw [List.drop_zero,List.take_length]))) ⟨_,_,_,_,_,_,_,_,_,M⟩ ?_
 refine xrH 6 17 rfl (.agg (row .u8 32 (kB s.st.c 0 (bl []))).toArray) (fun _ ⟨_,_,_,_,_,_,_,_,_,M⟩=>loadN 23 _ ⟨B3,0,none⟩ (row .u8 32 (kB s.st.c 0 (bl []))) rfl rfl (fun _=>by kernel_rfl) (fun _=>by rw [row32]; kernel_rfl) (M.part (mT _ mS) 0 _ (by rw [List.drop_zero,List.take_length]))) ⟨_,_,_,_,_,_,_,_,_,M⟩ ?_
 refine xrH 7 18 rfl (.agg ([row .u8 32 (kA s.st.c 0 (bl [])),row .u8 32 (kB s.st.c 0 (bl []))].flatten).toArray) (fun _ ⟨_,_,_,_,_,_,_,_,_,M⟩=>(by kernel_rfl)) ⟨_,_,_,_,_,_,_,_,_,M⟩ ?_
 refine xrH 8 19 rfl (.agg ([[Value.int .i64 5],pcs12 szero,row .u8 32 (fun _=>0),[Value.nilFunc],row .u8 32 (fun _=>0),[Value.nilFunc],row .u8 32 (bl s.its),row .u8 32 (fun _=>0),row .u8 32 (kA s.st.c 0 (bl [])),row .u8 32 (kB s.st.c 0 (bl []))].flatten).toArray) (fun _ ⟨_,_,_,_,_,_,_,_,_,M⟩=>(by kernel_rfl)) ⟨_,_,_,_,_,_,_,_,_,M⟩ ?_
 refine xrH 9 20 rfl (.pointer (some ⟨N,0,none⟩)) (fun _ ⟨_,_,_,_,_,_,_,_,_,M⟩=>(by kernel_rfl)) ⟨_,_,_,_,_,_,_,_,_,M⟩ ?_
 refine doesH (i:=10) none rfl (by kernel_rfl) rfl rfl (storeP ([[Value.int .i64 5],pcs12 szero,row .u8 32 (fun _=>0),[Value.nilFunc],row .u8 32 (fun _=>0),[Value.nilFunc],row .u8 32 (bl s.its),row .u8 32 (fun _=>0),row .u8 32 (kA s.st.c 0 (bl [])),row .u8 32 (kB s.st.c 0 (bl []))].flatten) N 0 65 _ _ rfl rfl rfl (M.thereP mS 0 293 (by rw [flat_len _ [1,98,32,1,32,1,32,32,32,32] (by kernel_rfl)]; decide)) (by rw [List.size_toArray,flat_len _ [1,98,32,1,32,1,32,32,32,32] (by kernel_rfl)]; kernel_rfl) (flat_one _ (fun p_ hp_=>by
  simp only [List.mem_cons,List.not_mem_nil,or_false] at hp_
  rcases hp_ with rfl | rfl | rfl | rfl | rfl | rfl | rfl | rfl | rfl | rfl <;> first | exact row_one .u8 32 _ | exact pcs12_one _ | (intro u hu; obtain rfl:=xm1 hu; rfl)))) ⟨_,_,_,_,_,_,_,_,_,M.setAll ([[Value.int .i64 5],pcs12 szero,row .u8 32 (fun _=>0),[Value.nilFunc],row .u8 32 (fun _=>0),[Value.nilFunc],row .u8 32 (bl s.its),row .u8 32 (fun _=>0),row .u8 32 (kA s.st.c 0 (bl [])),row .u8 32 (kB s.st.c 0 (bl []))].flatten) (by rw [flat_len _ [1,98,32,1,32,1,32,32,32,32] (by kernel_rfl),flat_len _ [1,98,32,1,32,1,32,32,32,32] (by kernel_rfl)])⟩ ?_
 simp only [Act.put]
 replace M:=M.setAll ([[Value.int .i64 5],pcs12 szero,row .u8 32 (fun _=>0),[Value.nilFunc],row .u8 32 (fun _=>0),[Value.nilFunc],row .u8 32 (bl s.its),row .u8 32 (fun _=>0),row .u8 32 (kA s.st.c 0 (bl [])),row .u8 32 (kB s.st.c 0 (bl []))].flatten) (by rw [flat_len _ [1,98,32,1,32,1,32,32,32,32] (by kernel_rfl),flat_len _ [1,98,32,1,32,1,32,32,32,32] (by kernel_rfl)])
 replace hwz:=xnT hwz (Off.size ((Off.refl [N] _).setAll (b:=N) mS 0 ([[Value.int .i64 5],pcs12 szero,row .u8 32 (fun _=>0),[Value.nilFunc],row .u8 32 (fun _=>0),[Value.nilFunc],row .u8 32 (bl s.its),row .u8 32 (fun _=>0),row .u8 32 (kA s.st.c 0 (bl [])),row .u8 32 (kB s.st.c 0 (bl []))].flatten)))
 replace OF:=OF.and1 ((Off.refl [N] _).setAll (b:=N) mS 0 ([[Value.int .i64 5],pcs12 szero,row .u8 32 (fun _=>0),[Value.nilFunc],row .u8 32 (fun _=>0),[Value.nilFunc],row .u8 32 (bl s.its),row .u8 32 (fun _=>0),row .u8 32 (kA s.st.c 0 (bl [])),row .u8 32 (kB s.st.c 0 (bl []))].flatten)) (.inl (by simp))
 generalize w6.setCells N 0 ([[Value.int .i64 5],pcs12 szero,row .u8 32 (fun _=>0),[Value.nilFunc],row .u8 32 (fun _=>0),[Value.nilFunc],row .u8 32 (bl s.its),row .u8 32 (fun _=>0),row .u8 32 (kA s.st.c 0 (bl [])),row .u8 32 (kB s.st.c 0 (bl []))].flatten)=w7 at M hwz OF ⊢
 refine wpAnyH_done (by kernel_rfl) ?_ _
 replace M:Mm w0 ((N,[[Value.int .i64 5],pcs12 szero,row .u8 32 (fun _=>0),[Value.nilFunc],row .u8 32 (fun _=>0),[Value.nilFunc],row .u8 32 (bl s.its),row .u8 32 (fun _=>0),row .u8 32 (kA s.st.c 0 (bl [])),row .u8 32 (kB s.st.c 0 (bl []))].flatten)::l) w7:=M.sub _ (List.cons_sublist_cons.2 (List.Sublist.cons _ (List.Sublist.cons _ (List.Sublist.refl _))))
 replace M:Mm w0 ((N,kce s)::l) w7:=M
 exact ⟨rfl,.tuple #[],by kernel_rfl,rfl,M,OF⟩
theorem kother_any (w0 w:World) (R:Nat) (l:List (Nat × List Value)) (av:Int) (st:Sym) (p q its drn k1 k2:Nat→Int) (fA fD:Value) (M:Mm w0 ((R,[[Value.int .i64 av],pcs12 st,row .u8 32 p,[fA],row .u8 32 q,[fD],row .u8 32 its,row .u8 32 drn,row .u8 32 k1,row .u8 32 k2].flatten)::l) w) :
 Calls Tryz.prog 13 #[.pointer (some ⟨R,0,none⟩)] w fun e w'=>e=.returned (.tuple #[(.agg (row .u8 32 (its)).toArray),.bool (decide (av>1))])∧Below w.heap.size w w':=by
 have hb0:=M.below; have hwz:=xnR w.heap.size; have OF:=Off.refl [] w
 go_enter Tryz.func13,Tryz.ntmps13
 go_upto_region 0 with fail; refine wp_region_list ?_; have hlb:=(Below.refl w.heap.size w).alloc (xnR _) (.cells zu8_32 23); refine actL (w':=w.alloc (.cells zu8_32 23)) (.pointer (some ⟨w.heap.size,0,none⟩)) rfl (by kernel_rfl) ?_; simp only [aP,lI,l0,lS]; have hB_:=hwz; replace hwz:=xnT hwz hlb.size; replace OF:=OF.below hlb; replace M:=M.box zu8_32 23 w.heap.size rfl
 clear hlb; generalize w.alloc (.cells zu8_32 23)=w1 at M hwz OF ⊢; generalize eB_:w.heap.size=B1 at M ⊢
 have hB_B1:w.heap.size≤B1:=by rw [← eB_]; exact hB_
 clear hB_ eB_
 replace M:Mm w0 ((B1,row .u8 32 (fun _=>0))::(R,[[Value.int .i64 av],pcs12 st,row .u8 32 p,[fA],row .u8 32 q,[fD],row .u8 32 its,row .u8 32 drn,row .u8 32 k1,row .u8 32 k2].flatten)::l) w1:=M
 refine xpL (.bool false) ?_; refine xT ?_; go_upto_region 1 with fail; refine wp_region_held_drew (S:=fun w'=>∃ f_:Nat→Int,Mm w0 ((B1,row .u8 32 f_)::(R,[[Value.int .i64 av],pcs12 st,row .u8 32 p,[fA],row .u8 32 q,[fD],row .u8 32 its,row .u8 32 drn,row .u8 32 k1,row .u8 32 k2].flatten)::l) w') (by kernel_rfl) ⟨_,M.drew⟩ ?_; intro _; replace M:=M.drew
 have hdr:=(Below.refl w1.heap.size w1).drew; replace hwz:=xnT hwz hdr.size; replace OF:=OF.below hdr; clear hdr; generalize w1.drew=w2 at M hwz OF ⊢; refine xrH 0 4 rfl (.pointer (some ⟨R,0,none⟩)) (fun _ ⟨_,M⟩=>(by kernel_rfl)) ⟨_,M⟩ ?_; refine xrH 1 5 rfl (.pointer (some ⟨R,0,none⟩)) (fun _ ⟨_,M⟩=>(by kernel_rfl)) ⟨_,M⟩ ?_
 refine xrH 2 6 rfl (.pointer (some ⟨R,165,none⟩)) (fun _ ⟨_,M⟩=>(by kernel_rfl)) ⟨_,M⟩ ?_; refine xrH 3 7 rfl (.agg (row .u8 32 its).toArray) (fun _ ⟨_,M⟩=>loadN 23 _ ⟨R,165,none⟩ (row .u8 32 its) rfl rfl (fun _=>by kernel_rfl) (fun _=>by rw [row32]; kernel_rfl) (M.part (mT _ mS) 165 _ (flat_part _ [1,98,32,1,32,1,32,32,32,32] (by kernel_rfl) 6 165 _ rfl rfl))) ⟨_,M⟩ ?_
 refine xrH 4 8 rfl (.pointer (some ⟨R,0,none⟩)) (fun _ ⟨_,M⟩=>(by kernel_rfl)) ⟨_,M⟩ ?_; refine xrH 5 9 rfl (.pointer (some ⟨R,0,none⟩)) (fun _ ⟨_,M⟩=>(by kernel_rfl)) ⟨_,M⟩ ?_; refine xrH 6 10 rfl (.pointer (some ⟨R,0,none⟩)) (fun _ ⟨_,M⟩=>(by kernel_rfl)) ⟨_,M⟩ ?_
 refine xrH 7 11 rfl (.int .i64 av) (fun _ ⟨_,M⟩=>load1 _ _ ⟨R,0,none⟩ _ rfl rfl (fun _=>by kernel_rfl) (M.get (mT _ mS) 0 _ (flat_get _ [1,98,32,1,32,1,32,32,32,32] (by kernel_rfl) 0 0 _ rfl rfl))) ⟨_,M⟩ ?_
 obtain ⟨b1,hb1⟩:∃ y_,y_=(decide (av>1)):=⟨_,rfl⟩
 refine xrH 8 12 rfl (.bool b1) (fun _ ⟨_,M⟩=>gtrI .i64 _ _ _ _ _ _ rfl rfl rfl b1 hb1.symm _) ⟨_,M⟩ ?_
 refine doesH (i:=9) none rfl (by kernel_rfl) rfl rfl (storeP (row .u8 32 its) B1 0 23 _ _ rfl rfl rfl (M.thereP mS 0 32 (Nat.le_of_ble_eq_true rfl)) (by kernel_rfl) (row_one .u8 32 its)) ⟨_,M.setAll (row .u8 32 its) (by first | (rw [row32,row32]; done) | (rw [row32]; rfl) | (rw [row32]; done))⟩ ?_
 simp only [Act.put]; replace M:=M.setAll (row .u8 32 its) (by first | (rw [row32,row32]; done) | (rw [row32]; rfl) | (rw [row32]; done)); replace hwz:=xnT hwz (Off.size ((Off.refl [B1] _).setAll (b:=B1) mS 0 (row .u8 32 its))); replace OF:=OF.and1 ((Off.refl [B1] _).setAll (b:=B1) mS 0 (row .u8 32 its)) (.inr (by omega)); generalize w2.setCells B1 0 (row .u8 32 its)=w3 at M hwz OF ⊢
 refine xrH 10 3 rfl (.bool b1) (fun _ ⟨_,M⟩=>(by kernel_rfl)) ⟨_,M⟩ ?_
 refine wpAnyH_done (by kernel_rfl) ?_ _
 first | show Exit.then _ _ _ _ _ | show Exit.inBlock _ _ _ _ _
 have c1_:=M.part mS 0 (row .u8 32 its) (by rw [List.drop_zero,List.take_length])
 have hbel:Below w.heap.size w w3:=⟨M.below.os.trans hb0.os.symm,M.below.tape.trans hb0.tape.symm,M.below.output.trans hb0.output.symm,OF.size,fun b hb=>OF.blk b hb (fun h=>by cases h)⟩
 subst hb1; clear M OF; go_wp2; refine bodyPost_ret (v:=.tuple #[(.agg (row .u8 32 (its)).toArray),.bool (decide (av>1))]) (retCellTmp 2 3 23 ⟨B1,0,none⟩ (row .u8 32 its) _ rfl rfl rfl (fun _=>by kernel_rfl) (fun _=>by rw [row32]; kernel_rfl) c1_) rfl ?_
 exact ⟨rfl,hbel⟩
theorem kkeys_any (w0 w:World) (R:Nat) (l:List (Nat × List Value)) (av:Int) (st:Sym) (p q its drn k1 k2:Nat→Int) (fA fD:Value) (M:Mm w0 ((R,[[Value.int .i64 av],pcs12 st,row .u8 32 p,[fA],row .u8 32 q,[fD],row .u8 32 its,row .u8 32 drn,row .u8 32 k1,row .u8 32 k2].flatten)::l) w) :
 Calls Tryz.prog 11 #[.pointer (some ⟨R,0,none⟩)] w fun e w'=>e=.returned (.tuple #[.agg ([row .u8 32 k1,row .u8 32 k2].flatten).toArray,.bool (av == 5)])∧Below w.heap.size w w':=by
 have hb0:=M.below; have hwz:=xnR w.heap.size; have OF:=Off.refl [] w
 go_enter Tryz.func11,Tryz.ntmps11
 go_upto_region 0 with fail; refine wp_region_list ?_; have hlb:=(Below.refl w.heap.size w).alloc (xnR _) (.cells ([row .u8 32 (fun _=>0),row .u8 32 (fun _=>0)].flatten).toArray 41); refine actL (w':=w.alloc (.cells ([row .u8 32 (fun _=>0),row .u8 32 (fun _=>0)].flatten).toArray 41)) (.pointer (some ⟨w.heap.size,0,none⟩)) rfl (by kernel_rfl) ?_; simp only [aP,lI,l0,lS]
 have hB_:=hwz; replace hwz:=xnT hwz hlb.size; replace OF:=OF.below hlb; replace M:=M.box ([row .u8 32 (fun _=>0),row .u8 32 (fun _=>0)].flatten).toArray 41 w.heap.size rfl; clear hlb; generalize w.alloc (.cells ([row .u8 32 (fun _=>0),row .u8 32 (fun _=>0)].flatten).toArray 41)=w1 at M hwz OF ⊢; generalize eB_:w.heap.size=B1 at M ⊢
 have hB_B1:w.heap.size≤B1:=by rw [← eB_]; exact hB_
 clear hB_ eB_
 replace M:Mm w0 ((B1,[row .u8 32 (fun _=>0),row .u8 32 (fun _=>0)].flatten)::(R,[[Value.int .i64 av],pcs12 st,row .u8 32 p,[fA],row .u8 32 q,[fD],row .u8 32 its,row .u8 32 drn,row .u8 32 k1,row .u8 32 k2].flatten)::l) w1:=M
 refine xpL (.bool false) ?_; refine xT ?_; go_upto_region 1 with fail
 refine wp_region_held_drew (S:=fun w'=>∃ (f0_:Nat→Int) (f1_:Nat→Int),Mm w0 ((B1,[row .u8 32 f0_,row .u8 32 f1_].flatten)::(R,[[Value.int .i64 av],pcs12 st,row .u8 32 p,[fA],row .u8 32 q,[fD],row .u8 32 its,row .u8 32 drn,row .u8 32 k1,row .u8 32 k2].flatten)::l) w') (by kernel_rfl) ⟨_,_,M.drew⟩ ?_; intro _; replace M:=M.drew
 have hdr:=(Below.refl w1.heap.size w1).drew; replace hwz:=xnT hwz hdr.size; replace OF:=OF.below hdr; clear hdr; generalize w1.drew=w2 at M hwz OF ⊢; refine xrH 0 4 rfl (.pointer (some ⟨R,0,none⟩)) (fun _ ⟨_,_,M⟩=>(by kernel_rfl)) ⟨_,_,M⟩ ?_; refine xrH 1 5 rfl (.pointer (some ⟨R,0,none⟩)) (fun _ ⟨_,_,M⟩=>(by kernel_rfl)) ⟨_,_,M⟩ ?_
 refine xrH 2 6 rfl (.pointer (some ⟨R,229,none⟩)) (fun _ ⟨_,_,M⟩=>(by kernel_rfl)) ⟨_,_,M⟩ ?_
 refine xrH 3 7 rfl (.agg ([row .u8 32 k1,row .u8 32 k2].flatten).toArray) (fun _ ⟨_,_,M⟩=>loadN 41 _ ⟨R,229,none⟩ ([row .u8 32 k1,row .u8 32 k2].flatten) rfl rfl (fun _=>by kernel_rfl) (fun _=>by rw [flat_len _ [32,32] (by kernel_rfl)]; kernel_rfl) (M.part (mT _ mS) 229 _ (flat_mid [[Value.int .i64 av],pcs12 st,row .u8 32 p,[fA],row .u8 32 q,[fD],row .u8 32 its,row .u8 32 drn] [row .u8 32 k1,row .u8 32 k2] [] 229 (by kernel_rfl)))) ⟨_,_,M⟩ ?_
 refine xrH 4 8 rfl (.pointer (some ⟨R,0,none⟩)) (fun _ ⟨_,_,M⟩=>(by kernel_rfl)) ⟨_,_,M⟩ ?_; refine xrH 5 9 rfl (.pointer (some ⟨R,0,none⟩)) (fun _ ⟨_,_,M⟩=>(by kernel_rfl)) ⟨_,_,M⟩ ?_; refine xrH 6 10 rfl (.pointer (some ⟨R,0,none⟩)) (fun _ ⟨_,_,M⟩=>(by kernel_rfl)) ⟨_,_,M⟩ ?_
 refine xrH 7 11 rfl (.int .i64 av) (fun _ ⟨_,_,M⟩=>load1 _ _ ⟨R,0,none⟩ _ rfl rfl (fun _=>by kernel_rfl) (M.get (mT _ mS) 0 _ (flat_get _ [1,98,32,1,32,1,32,32,32,32] (by kernel_rfl) 0 0 _ rfl rfl))) ⟨_,_,M⟩ ?_
 obtain ⟨b1,hb1⟩:∃ y_,y_=((av:Int) == (5:Int)):=⟨_,rfl⟩
 refine xrH 8 12 rfl (.bool b1) (fun _ ⟨_,_,M⟩=>eqlI .i64 _ _ _ _ _ _ rfl rfl rfl b1 hb1.symm _) ⟨_,_,M⟩ ?_
 refine doesH (i:=9) none rfl (by kernel_rfl) rfl rfl (storeP ([row .u8 32 k1,row .u8 32 k2].flatten) B1 0 41 _ _ rfl rfl rfl (M.thereP mS 0 64 (by rw [flat_len _ [32,32] (by kernel_rfl)]; decide)) (by rw [List.size_toArray,flat_len _ [32,32] (by kernel_rfl)]; kernel_rfl) (flat_one _ (fun p_ hp_=>by
  simp only [List.mem_cons,List.not_mem_nil,or_false] at hp_
  rcases hp_ with rfl | rfl <;> first | exact row_one .u8 32 _ | exact pcs12_one _ | (intro u hu; obtain rfl:=xm1 hu; rfl)))) ⟨_,_,M.setAll ([row .u8 32 k1,row .u8 32 k2].flatten) (by rw [flat_len _ [32,32] (by kernel_rfl),flat_len _ [32,32] (by kernel_rfl)])⟩ ?_
 simp only [Act.put]; replace M:=M.setAll ([row .u8 32 k1,row .u8 32 k2].flatten) (by rw [flat_len _ [32,32] (by kernel_rfl),flat_len _ [32,32] (by kernel_rfl)]); replace hwz:=xnT hwz (Off.size ((Off.refl [B1] _).setAll (b:=B1) mS 0 ([row .u8 32 k1,row .u8 32 k2].flatten)))
 replace OF:=OF.and1 ((Off.refl [B1] _).setAll (b:=B1) mS 0 ([row .u8 32 k1,row .u8 32 k2].flatten)) (.inr (by omega)); generalize w2.setCells B1 0 ([row .u8 32 k1,row .u8 32 k2].flatten)=w3 at M hwz OF ⊢; refine xrH 10 3 rfl (.bool b1) (fun _ ⟨_,_,M⟩=>(by kernel_rfl)) ⟨_,_,M⟩ ?_
 refine wpAnyH_done (by kernel_rfl) ?_ _
 first | show Exit.then _ _ _ _ _ | show Exit.inBlock _ _ _ _ _
 have c1_:=M.part mS 0 ([row .u8 32 k1,row .u8 32 k2].flatten) (by rw [List.drop_zero,List.take_length])
 have hbel:Below w.heap.size w w3:=⟨M.below.os.trans hb0.os.symm,M.below.tape.trans hb0.tape.symm,M.below.output.trans hb0.output.symm,OF.size,fun b hb=>OF.blk b hb (fun h=>by cases h)⟩
 subst hb1; clear M OF; go_wp2
 refine bodyPost_ret (v:=.tuple #[.agg ([row .u8 32 k1,row .u8 32 k2].flatten).toArray,.bool (av == 5)]) (retCellTmp 2 3 41 ⟨B1,0,none⟩ ([row .u8 32 k1,row .u8 32 k2].flatten) _ rfl rfl rfl (fun _=>by kernel_rfl) (fun _=>by rw [flat_len _ [32,32] (by kernel_rfl)]; kernel_rfl) c1_) rfl ?_
 exact ⟨rfl,hbel⟩
theorem kbegin_any (w0 w:World) (l:List (Nat × List Value)) (a d:Nat→Int) (ha:In 256 32 a) (hd:In 256 32 d) (B:List Int) (hB:B.length=32) (hBb:Byts B) (hg:HGlob13 w0) (M:Mm w0 l w) :
 Calls Tryz.prog 20 #[(.agg (row .u8 32 (a)).toArray),(.agg (row .u8 32 (d)).toArray),(.agg (row .u8 32 (bl B)).toArray)] w fun e w'=>∃ R A D,e=.returned (.pointer (some ⟨R,0,none⟩))∧w.heap.size≤R∧w.heap.size≤A∧w.heap.size≤D∧Mm w0 ((R,kcs 2 (shBegin a d B) A D)::(A,row .u8 32 a)::(D,row .u8 32 d)::l) w'∧Below w.heap.size w w':=by
 have hb0:=M.below; have hwz:=xnR w.heap.size; have OF:=Off.refl [] w
 go_enter Tryz.func20,Tryz.ntmps20
 go_upto_region 0 with fail; refine wp_region_list ?_; have hlb:=(Below.refl w.heap.size w).alloc (xnR _) (.cells (row .u8 32 a).toArray 23); refine actL (w':=w.alloc (.cells (row .u8 32 a).toArray 23)) (.pointer (some ⟨w.heap.size,0,none⟩)) rfl (by kernel_rfl) ?_; simp only [aP,lI,l0,lS]; have hB_:=hwz; replace hwz:=xnT hwz hlb.size; replace OF:=OF.below hlb
 replace M:=M.box (row .u8 32 a).toArray 23 w.heap.size rfl; clear hlb; generalize w.alloc (.cells (row .u8 32 a).toArray 23)=w1 at M hwz OF ⊢; generalize eB_:w.heap.size=B1 at M ⊢
 have hB_B1:w.heap.size≤B1:=by rw [← eB_]; exact hB_
 clear hB_ eB_
 replace M:Mm w0 ((B1,row .u8 32 a)::l) w1:=M
 have hlb:=(Below.refl w1.heap.size w1).alloc (xnR _) (.cells (row .u8 32 d).toArray 23); refine actL (w':=w1.alloc (.cells (row .u8 32 d).toArray 23)) (.pointer (some ⟨w1.heap.size,0,none⟩)) rfl (by kernel_rfl) ?_; simp only [aP,lI,l0,lS]; have hB_:=hwz; replace hwz:=xnT hwz hlb.size; replace OF:=OF.below hlb; replace M:=M.box (row .u8 32 d).toArray 23 w1.heap.size rfl; clear hlb
 generalize w1.alloc (.cells (row .u8 32 d).toArray 23)=w2 at M hwz OF ⊢; generalize eB_:w1.heap.size=B2 at M ⊢
 have hB_B2:w.heap.size≤B2:=by rw [← eB_]; exact hB_
 clear hB_ eB_
 replace M:Mm w0 ((B2,row .u8 32 d)::(B1,row .u8 32 a)::l) w2:=M
 have hlb:=(Below.refl w2.heap.size w2).alloc (xnR _) (.cells (row .u8 32 (bl B)).toArray 23); refine actL (w':=w2.alloc (.cells (row .u8 32 (bl B)).toArray 23)) (.pointer (some ⟨w2.heap.size,0,none⟩)) rfl (by kernel_rfl) ?_; simp only [aP,lI,l0,lS]; have hB_:=hwz; replace hwz:=xnT hwz hlb.size; replace OF:=OF.below hlb
 replace M:=M.box (row .u8 32 (bl B)).toArray 23 w2.heap.size rfl; clear hlb; generalize w2.alloc (.cells (row .u8 32 (bl B)).toArray 23)=w3 at M hwz OF ⊢; generalize eB_:w2.heap.size=B3 at M ⊢
 have hB_B3:w.heap.size≤B3:=by rw [← eB_]; exact hB_
 clear hB_ eB_
 replace M:Mm w0 ((B3,row .u8 32 (bl B))::(B2,row .u8 32 d)::(B1,row .u8 32 a)::l) w3:=M
 refine xpL (.pointer none) ?_; refine xT ?_; go_upto_region 1 with fail; refine wp_region_held_drew (S:=fun w'=>Mm w0 ((B3,row .u8 32 (bl B))::(B2,row .u8 32 d)::(B1,row .u8 32 a)::l) w') (by kernel_rfl) M.drew ?_; intro _; replace M:=M.drew; have hdr:=(Below.refl w3.heap.size w3).drew; replace hwz:=xnT hwz hdr.size; replace OF:=OF.below hdr; clear hdr
 generalize w3.drew=w4 at M hwz OF ⊢; refine xrH 0 7 rfl (.agg (row .u8 32 (bl B)).toArray) (fun _ M=>loadN 23 _ ⟨B3,0,none⟩ (row .u8 32 (bl B)) rfl rfl (fun _=>by kernel_rfl) (fun _=>by rw [row32]; kernel_rfl) (M.part mS 0 _ (by rw [List.drop_zero,List.take_length]))) M ?_
 refine xrH 2 9 rfl (.agg (row .u8 32 a).toArray) (fun _ M=>loadN 23 _ ⟨B1,0,none⟩ (row .u8 32 a) rfl rfl (fun _=>by kernel_rfl) (fun _=>by rw [row32]; kernel_rfl) (M.part (mI 2 rfl) 0 _ (by rw [List.drop_zero,List.take_length]))) M ?_
 refine xrH 4 11 rfl (.agg (row .u8 32 d).toArray) (fun _ M=>loadN 23 _ ⟨B2,0,none⟩ (row .u8 32 d) rfl rfl (fun _=>by kernel_rfl) (fun _=>by rw [row32]; kernel_rfl) (M.part (mT _ mS) 0 _ (by rw [List.drop_zero,List.take_length]))) M ?_
 refine xrH 6 13 rfl (.agg (row .u8 32 (bl B)).toArray) (fun _ M=>loadN 23 _ ⟨B3,0,none⟩ (row .u8 32 (bl B)) rfl rfl (fun _=>by kernel_rfl) (fun _=>by rw [row32]; kernel_rfl) (M.part mS 0 _ (by rw [List.drop_zero,List.take_length]))) M ?_; refine callH (i:=1) (some 8) rfl (by kernel_rfl) rfl rfl (fun _=>by kernel_rfl) (ktow_any w0 _ _ B hB hBb hg M) ?_; rintro e w5 ⟨rfl,l⟩
 replace M:=M.call l; replace hwz:=xnT hwz l.size; replace OF:=OF.below l; clear l
 refine ⟨_,rfl,M,?_⟩
 simp only [aP,lI,l0,lS]; have MH:=M; refine callH (i:=3) (some 10) rfl (by kernel_rfl) rfl rfl (fun _=>by kernel_rfl) (khalf_any w0 _ _ a ha hg M) ?_; rintro e w6 ⟨B6,rfl,hq_,M',l⟩; have hB_B6:=xnT hwz hq_; clear M hq_; have M:=M'; clear M'; replace MH:=MH.call l; replace hwz:=xnT hwz l.size; replace OF:=OF.below l; clear l
 refine ⟨_,rfl,MH,?_⟩
 simp only [aP,lI,l0,lS]; refine callH (i:=5) (some 12) rfl (by kernel_rfl) rfl rfl (fun _=>by kernel_rfl) (khalf_any w0 _ _ d hd hg M) ?_; rintro e w7 ⟨B7,rfl,hq_,M',l⟩; have hB_B7:=xnT hwz hq_; clear M hq_; have M:=M'; clear M'; replace MH:=MH.call l; replace hwz:=xnT hwz l.size; replace OF:=OF.below l; clear l
 refine ⟨_,rfl,MH,?_⟩
 simp only [aP,lI,l0,lS]; refine xrH 7 14 rfl (.agg ([[Value.int .i64 2],pcs12 (smix snew B),row .u8 32 (bl (LD.pub a)),[kfv B6],row .u8 32 (bl (LD.pub d)),[kfv B7],row .u8 32 (bl B),row .u8 32 (fun _=>0),row .u8 32 (fun _=>0),row .u8 32 (fun _=>0)].flatten).toArray) (fun _ MH=>(by kernel_rfl)) MH ?_
 have hlb:=(Below.refl w7.heap.size w7).alloc (xnR _) (.cells ([[Value.int .i64 2],pcs12 (smix snew B),row .u8 32 (bl (LD.pub a)),[kfv B6],row .u8 32 (bl (LD.pub d)),[kfv B7],row .u8 32 (bl B),row .u8 32 (fun _=>0),row .u8 32 (fun _=>0),row .u8 32 (fun _=>0)].flatten).toArray 65); replace MH:=MH.call hlb
 refine onlyH (i:=8) (some 15) rfl (.pointer (some ⟨w7.heap.size,0,none⟩)) (by kernel_rfl) rfl rfl (by kernel_rfl) MH ?_; simp only [aP,lI,l0,lS]; have hB_:=hwz; replace hwz:=xnT hwz hlb.size; replace OF:=OF.below hlb
 replace M:=M.box ([[Value.int .i64 2],pcs12 (smix snew B),row .u8 32 (bl (LD.pub a)),[kfv B6],row .u8 32 (bl (LD.pub d)),[kfv B7],row .u8 32 (bl B),row .u8 32 (fun _=>0),row .u8 32 (fun _=>0),row .u8 32 (fun _=>0)].flatten).toArray 65 w7.heap.size rfl; clear hlb
 generalize w7.alloc (.cells ([[Value.int .i64 2],pcs12 (smix snew B),row .u8 32 (bl (LD.pub a)),[kfv B6],row .u8 32 (bl (LD.pub d)),[kfv B7],row .u8 32 (bl B),row .u8 32 (fun _=>0),row .u8 32 (fun _=>0),row .u8 32 (fun _=>0)].flatten).toArray 65)=w8 at M MH hwz OF ⊢; generalize eB_:w7.heap.size=B8 at M ⊢
 have hB_B8:w.heap.size≤B8:=by rw [← eB_]; exact hB_
 clear hB_ eB_
 replace M:Mm w0 ((B8,[[Value.int .i64 2],pcs12 (smix snew B),row .u8 32 (bl (LD.pub a)),[kfv B6],row .u8 32 (bl (LD.pub d)),[kfv B7],row .u8 32 (bl B),row .u8 32 (fun _=>0),row .u8 32 (fun _=>0),row .u8 32 (fun _=>0)].flatten)::(B7,row .u8 32 d)::(B6,row .u8 32 a)::(B3,row .u8 32 (bl B))::(B2,row .u8 32 d)::(B1,row .u8 32 a)::l) w8:=M
 refine xrH 9 6 rfl (.pointer (some ⟨B8,0,none⟩)) (fun _ MH=>(by kernel_rfl)) MH ?_
 refine wpAnyH_done (by kernel_rfl) ?_ _
 first | show Exit.then _ _ _ _ _ | show Exit.inBlock _ _ _ _ _
 replace M:=M.swap; replace M:=M.rot3; replace M:=M.rot3
 replace M:Mm w0 ((B8,[[Value.int .i64 2],pcs12 (smix snew B),row .u8 32 (bl (LD.pub a)),[kfv B6],row .u8 32 (bl (LD.pub d)),[kfv B7],row .u8 32 (bl B),row .u8 32 (fun _=>0),row .u8 32 (fun _=>0),row .u8 32 (fun _=>0)].flatten)::(B6,row .u8 32 a)::(B7,row .u8 32 d)::l) w8:=M.sub _ (List.cons_sublist_cons.2 (List.cons_sublist_cons.2 (List.cons_sublist_cons.2 (List.Sublist.cons _ (List.Sublist.cons _ (List.Sublist.cons _ (List.Sublist.refl _)))))))
 have hbel:Below w.heap.size w w8:=⟨M.below.os.trans hb0.os.symm,M.below.tape.trans hb0.tape.symm,M.below.output.trans hb0.output.symm,OF.size,fun b hb=>OF.blk b hb (fun h=>by cases h)⟩
 replace M:Mm w0 ((B8,kcs 2 (shBegin a d B) B6 B7)::(B6,row .u8 32 a)::(B7,row .u8 32 d)::l) w8:=M
 have HS:=show Hid _ from (And.intro hB_B8 (And.intro hB_B6 (And.intro hB_B7 (And.intro M hbel)))); clear M OF hbel hB_B8 hB_B6 hB_B7; go_wp2; go_ret
 first | exact ⟨B8,B6,B7,rfl,HS.out⟩ | exact ⟨B8,rfl,HS.out.1,B6,HS.out.2.1,B7,HS.out.2.2⟩
theorem kawait_any (w0 w:World) (l:List (Nat × List Value)) (b f:Nat→Int) (hb:In 256 32 b) (hf:In 256 32 f) (hg:HGlob13 w0) (M:Mm w0 l w) :
 Calls Tryz.prog 22 #[(.agg (row .u8 32 (b)).toArray),(.agg (row .u8 32 (f)).toArray)] w fun e w'=>∃ R A D,e=.returned (.pointer (some ⟨R,0,none⟩))∧w.heap.size≤R∧w.heap.size≤A∧w.heap.size≤D∧Mm w0 ((R,kcs 1 (shAwait LD b f) A D)::(A,row .u8 32 b)::(D,row .u8 32 f)::l) w'∧Below w.heap.size w w':=by
 have hb0:=M.below; have hwz:=xnR w.heap.size; have OF:=Off.refl [] w
 go_enter Tryz.func22,Tryz.ntmps22
 go_upto_region 0 with fail; refine wp_region_list ?_; have hlb:=(Below.refl w.heap.size w).alloc (xnR _) (.cells (row .u8 32 b).toArray 23); refine actL (w':=w.alloc (.cells (row .u8 32 b).toArray 23)) (.pointer (some ⟨w.heap.size,0,none⟩)) rfl (by kernel_rfl) ?_; simp only [aP,lI,l0,lS]; have hB_:=hwz; replace hwz:=xnT hwz hlb.size; replace OF:=OF.below hlb
 replace M:=M.box (row .u8 32 b).toArray 23 w.heap.size rfl; clear hlb; generalize w.alloc (.cells (row .u8 32 b).toArray 23)=w1 at M hwz OF ⊢; generalize eB_:w.heap.size=B1 at M ⊢
 have hB_B1:w.heap.size≤B1:=by rw [← eB_]; exact hB_
 clear hB_ eB_
 replace M:Mm w0 ((B1,row .u8 32 b)::l) w1:=M
 have hlb:=(Below.refl w1.heap.size w1).alloc (xnR _) (.cells (row .u8 32 f).toArray 23); refine actL (w':=w1.alloc (.cells (row .u8 32 f).toArray 23)) (.pointer (some ⟨w1.heap.size,0,none⟩)) rfl (by kernel_rfl) ?_; simp only [aP,lI,l0,lS]; have hB_:=hwz; replace hwz:=xnT hwz hlb.size; replace OF:=OF.below hlb; replace M:=M.box (row .u8 32 f).toArray 23 w1.heap.size rfl; clear hlb
 generalize w1.alloc (.cells (row .u8 32 f).toArray 23)=w2 at M hwz OF ⊢; generalize eB_:w1.heap.size=B2 at M ⊢
 have hB_B2:w.heap.size≤B2:=by rw [← eB_]; exact hB_
 clear hB_ eB_
 replace M:Mm w0 ((B2,row .u8 32 f)::(B1,row .u8 32 b)::l) w2:=M
 refine xpL (.pointer none) ?_; refine xT ?_; go_upto_region 1 with fail; refine wp_region_list ?_; refine xaL (.agg (row .u8 32 b).toArray) (loadN 23 _ ⟨B1,0,none⟩ (row .u8 32 b) rfl rfl (fun _=>by kernel_rfl) (fun _=>by rw [row32]; kernel_rfl) (M.part (mT _ mS) 0 _ (by rw [List.drop_zero,List.take_length]))) ?_; refine xcL (khalf_any w0 _ _ b hb hg M) ?_; rintro e w3 ⟨B3,rfl,hq_,M',l⟩
 have hB_B3:=xnT hwz hq_; clear M hq_; have M:=M'; clear M'; replace hwz:=xnT hwz l.size; replace OF:=OF.below l; clear l; refine xeL ?_; have hlb:=(Below.refl w3.heap.size w3).alloc (xnR _) (.cells ([row .u8 32 (fun _=>0),[Value.nilFunc]].flatten).toArray 63)
 refine actL (w':=w3.alloc (.cells ([row .u8 32 (fun _=>0),[Value.nilFunc]].flatten).toArray 63)) (.pointer (some ⟨w3.heap.size,0,none⟩)) rfl (by kernel_rfl) ?_; simp only [aP,lI,l0,lS]; have hB_:=hwz; replace hwz:=xnT hwz hlb.size; replace OF:=OF.below hlb; replace M:=M.box ([row .u8 32 (fun _=>0),[Value.nilFunc]].flatten).toArray 63 w3.heap.size rfl; clear hlb
 generalize w3.alloc (.cells ([row .u8 32 (fun _=>0),[Value.nilFunc]].flatten).toArray 63)=w4 at M hwz OF ⊢; generalize eB_:w3.heap.size=B4 at M ⊢
 have hB_B4:w.heap.size≤B4:=by rw [← eB_]; exact hB_
 clear hB_ eB_
 replace M:Mm w0 ((B4,[row .u8 32 (fun _=>0),[Value.nilFunc]].flatten)::(B3,row .u8 32 b)::(B2,row .u8 32 f)::(B1,row .u8 32 b)::l) w4:=M
 refine skipOpL rfl (storeP ([row .u8 32 (bl (LD.pub b)),[kfv B3]].flatten) B4 0 63 _ _ rfl rfl rfl (M.thereP mS 0 33 (by rw [flat_len _ [32,1] (by kernel_rfl)]; decide)) (by rw [List.size_toArray,flat_len _ [32,1] (by kernel_rfl)]; kernel_rfl) (flat_one _ (fun p_ hp_=>by
  simp only [List.mem_cons,List.not_mem_nil,or_false] at hp_
  rcases hp_ with rfl | rfl <;> first | exact row_one .u8 32 _ | exact pcs12_one _ | (intro u hu; obtain rfl:=xm1 hu; rfl)))) ?_
 simp only [Act.put]; replace M:=M.setAll ([row .u8 32 (bl (LD.pub b)),[kfv B3]].flatten) (by rw [flat_len _ [32,1] (by kernel_rfl),flat_len _ [32,1] (by kernel_rfl)]); replace hwz:=xnT hwz (Off.size ((Off.refl [B4] _).setAll (b:=B4) mS 0 ([row .u8 32 (bl (LD.pub b)),[kfv B3]].flatten)))
 replace OF:=OF.and1 ((Off.refl [B4] _).setAll (b:=B4) mS 0 ([row .u8 32 (bl (LD.pub b)),[kfv B3]].flatten)) (.inr (by omega)); generalize w4.setCells B4 0 ([row .u8 32 (bl (LD.pub b)),[kfv B3]].flatten)=w5 at M hwz OF ⊢; refine xT ?_; go_upto_region 2 with fail
 refine wp_region_held_drew (S:=fun w'=>Mm w0 ((B4,[row .u8 32 (bl (LD.pub b)),[kfv B3]].flatten)::(B3,row .u8 32 b)::(B2,row .u8 32 f)::(B1,row .u8 32 b)::l) w') (by kernel_rfl) M.drew ?_; intro _; replace M:=M.drew; have hdr:=(Below.refl w5.heap.size w5).drew; replace hwz:=xnT hwz hdr.size; replace OF:=OF.below hdr; clear hdr; generalize w5.drew=w6 at M hwz OF ⊢
 refine xrH 0 8 rfl (.pointer (some ⟨B4,0,none⟩)) (fun _ M=>(by kernel_rfl)) M ?_; refine xrH 1 9 rfl (.agg (row .u8 32 (bl (LD.pub b))).toArray) (fun _ M=>loadN 23 _ ⟨B4,0,none⟩ (row .u8 32 (bl (LD.pub b))) rfl rfl (fun _=>by kernel_rfl) (fun _=>by rw [row32]; kernel_rfl) (M.part mS 0 _ (flat_part _ [32,1] (by kernel_rfl) 0 0 _ rfl rfl))) M ?_
 refine xrH 3 11 rfl (.agg ([row .u8 32 (bl (LD.pub b)),[kfv B3]].flatten).toArray) (fun _ M=>loadN 63 _ ⟨B4,0,none⟩ ([row .u8 32 (bl (LD.pub b)),[kfv B3]].flatten) rfl rfl (fun _=>by kernel_rfl) (fun _=>by rw [flat_len _ [32,1] (by kernel_rfl)]; kernel_rfl) (M.part mS 0 _ (flat_mid [] [row .u8 32 (bl (LD.pub b)),[kfv B3]] [] 0 (by kernel_rfl)))) M ?_
 refine xrH 4 12 rfl (.agg (row .u8 32 f).toArray) (fun _ M=>loadN 23 _ ⟨B2,0,none⟩ (row .u8 32 f) rfl rfl (fun _=>by kernel_rfl) (fun _=>by rw [row32]; kernel_rfl) (M.part (mI 2 rfl) 0 _ (by rw [List.drop_zero,List.take_length]))) M ?_; refine callH (i:=2) (some 10) rfl (by kernel_rfl) rfl rfl (fun _=>by kernel_rfl) (ktow_any w0 _ _ (LD.pub b) (LD_ok.len b) (LD_ok.byt b) hg M) ?_
 rintro e w7 ⟨rfl,l⟩; replace M:=M.call l; replace hwz:=xnT hwz l.size; replace OF:=OF.below l; clear l
 refine ⟨_,rfl,M,?_⟩
 simp only [aP,lI,l0,lS]; have MH:=M; refine callH (i:=5) (some 13) rfl (by kernel_rfl) rfl rfl (fun _=>by kernel_rfl) (khalf_any w0 _ _ f hf hg M) ?_; rintro e w8 ⟨B8,rfl,hq_,M',l⟩; have hB_B8:=xnT hwz hq_; clear M hq_; have M:=M'; clear M'; replace MH:=MH.call l; replace hwz:=xnT hwz l.size; replace OF:=OF.below l; clear l
 refine ⟨_,rfl,MH,?_⟩
 simp only [aP,lI,l0,lS]; refine xrH 6 14 rfl (.agg ([[Value.int .i64 1],pcs12 (smix snew (LD.pub b)),row .u8 32 (bl (LD.pub b)),[kfv B3],row .u8 32 (bl (LD.pub f)),[kfv B8],row .u8 32 (fun _=>0),row .u8 32 (fun _=>0),row .u8 32 (fun _=>0),row .u8 32 (fun _=>0)].flatten).toArray) (fun _ MH=>(by kernel_rfl)) MH ?_
 have hlb:=(Below.refl w8.heap.size w8).alloc (xnR _) (.cells ([[Value.int .i64 1],pcs12 (smix snew (LD.pub b)),row .u8 32 (bl (LD.pub b)),[kfv B3],row .u8 32 (bl (LD.pub f)),[kfv B8],row .u8 32 (fun _=>0),row .u8 32 (fun _=>0),row .u8 32 (fun _=>0),row .u8 32 (fun _=>0)].flatten).toArray 65); replace MH:=MH.call hlb
 refine onlyH (i:=7) (some 15) rfl (.pointer (some ⟨w8.heap.size,0,none⟩)) (by kernel_rfl) rfl rfl (by kernel_rfl) MH ?_; simp only [aP,lI,l0,lS]; have hB_:=hwz; replace hwz:=xnT hwz hlb.size; replace OF:=OF.below hlb
 replace M:=M.box ([[Value.int .i64 1],pcs12 (smix snew (LD.pub b)),row .u8 32 (bl (LD.pub b)),[kfv B3],row .u8 32 (bl (LD.pub f)),[kfv B8],row .u8 32 (fun _=>0),row .u8 32 (fun _=>0),row .u8 32 (fun _=>0),row .u8 32 (fun _=>0)].flatten).toArray 65 w8.heap.size rfl; clear hlb
 generalize w8.alloc (.cells ([[Value.int .i64 1],pcs12 (smix snew (LD.pub b)),row .u8 32 (bl (LD.pub b)),[kfv B3],row .u8 32 (bl (LD.pub f)),[kfv B8],row .u8 32 (fun _=>0),row .u8 32 (fun _=>0),row .u8 32 (fun _=>0),row .u8 32 (fun _=>0)].flatten).toArray 65)=w9 at M MH hwz OF ⊢; generalize eB_:w8.heap.size=B9 at M ⊢
 have hB_B9:w.heap.size≤B9:=by rw [← eB_]; exact hB_
 clear hB_ eB_
 replace M:Mm w0 ((B9,[[Value.int .i64 1],pcs12 (smix snew (LD.pub b)),row .u8 32 (bl (LD.pub b)),[kfv B3],row .u8 32 (bl (LD.pub f)),[kfv B8],row .u8 32 (fun _=>0),row .u8 32 (fun _=>0),row .u8 32 (fun _=>0),row .u8 32 (fun _=>0)].flatten)::(B8,row .u8 32 f)::(B4,[row .u8 32 (bl (LD.pub b)),[kfv B3]].flatten)::(B3,row .u8 32 b)::(B2,row .u8 32 f)::(B1,row .u8 32 b)::l) w9:=M
 refine xrH 8 4 rfl (.pointer (some ⟨B9,0,none⟩)) (fun _ MH=>(by kernel_rfl)) MH ?_
 refine wpAnyH_done (by kernel_rfl) ?_ _
 first | show Exit.then _ _ _ _ _ | show Exit.inBlock _ _ _ _ _
 replace M:=M.swap; replace M:=M.rot4; replace M:=M.rot3
 replace M:Mm w0 ((B9,[[Value.int .i64 1],pcs12 (smix snew (LD.pub b)),row .u8 32 (bl (LD.pub b)),[kfv B3],row .u8 32 (bl (LD.pub f)),[kfv B8],row .u8 32 (fun _=>0),row .u8 32 (fun _=>0),row .u8 32 (fun _=>0),row .u8 32 (fun _=>0)].flatten)::(B3,row .u8 32 b)::(B8,row .u8 32 f)::l) w9:=M.sub _ (List.cons_sublist_cons.2 (List.cons_sublist_cons.2 (List.cons_sublist_cons.2 (List.Sublist.cons _ (List.Sublist.cons _ (List.Sublist.cons _ (List.Sublist.refl _)))))))
 have hbel:Below w.heap.size w w9:=⟨M.below.os.trans hb0.os.symm,M.below.tape.trans hb0.tape.symm,M.below.output.trans hb0.output.symm,OF.size,fun b hb=>OF.blk b hb (fun h=>by cases h)⟩
 replace M:Mm w0 ((B9,kcs 1 (shAwait LD b f) B3 B8)::(B3,row .u8 32 b)::(B8,row .u8 32 f)::l) w9:=M
 have HS:=show Hid _ from (And.intro hB_B9 (And.intro hB_B3 (And.intro hB_B8 (And.intro M hbel)))); clear M OF hbel hB_B9 hB_B3 hB_B8; go_wp2; go_ret
 first | exact ⟨B9,B3,B8,rfl,HS.out⟩ | exact ⟨B9,rfl,HS.out.1,B3,HS.out.2.1,B8,HS.out.2.2⟩
end Go.Proofs.YtklnibmfpcmeeaaGreatDoor
