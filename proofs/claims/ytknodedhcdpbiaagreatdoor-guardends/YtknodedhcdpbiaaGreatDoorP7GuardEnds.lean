/- Texts of LawGuardEnds Oi Gv Mi Fl Fm Fn Hz Fo Fp Sa Eb, joined. -/
import Derived.Test.YtknodedhcdpbiaaGreatDoorP6GuardEnds
import Derived.Maps.Range
set_option maxRecDepth 20000
set_option maxHeartbeats 64000000
namespace Go.Proofs.YtknodedhcdpbiaaGreatDoor
open Go.RowKit
section
section
variable (x y:Nat→Int) (p q:Int)
def en0:Grd:=gat 1 x y 0 0
def en1:Grd:=gkN (en0 x y) p 281474976710655
def en2:Grd:=gsN (en1 x y p) p 0
def en4:Grd:=gsN (en2 x y p) q 0
def en6:Grd:=gaN (en4 x y p q)
theorem en0_w (hx:In 256 32 x) (hy:In 256 32 y):GrdW (en0 x y):=gat_w 1 hx hy 0 0
theorem en1_w (hx:In 256 32 x) (hy:In 256 32 y):GrdW (en1 x y p):=gkN_w (en0_w x y hx hy) _ _
theorem en2_w (hx:In 256 32 x) (hy:In 256 32 y):GrdW (en2 x y p):=gsN_w (en1_w x y p hx hy) _ _
theorem en4_w (hx:In 256 32 x) (hy:In 256 32 y):GrdW (en4 x y p q):=gsN_w (en2_w x y p hx hy) _ _
theorem en6_w (hx:In 256 32 x) (hy:In 256 32 y):GrdW (en6 x y p q):=gaN_w (en4_w x y p q hx hy)
theorem en0_k (hp:0≤p∧p≤255):gkE (en0 x y) p 281474976710655=0:=if_neg (by
 show ¬ (¬ (0≤p∧p≤255)∨(281474976710655:Int)<0∨(281474976710656:Int)<281474976710655)
 omega)
theorem en1_eq (hp:0≤p∧p≤255):en1 x y p=gcn (en0 x y) p 281474976710655:=gkN_ok (en0_k x y p hp)
theorem en1_cnt (hp:0≤p∧p≤255) (r:Int):(en1 x y p).cnt r=if r=p then 281474976710655 else 0:=by rw [en1_eq x y p hp]; rfl
theorem en1_E (hp:0≤p∧p≤255):gsE (en1 x y p) p 0=0:=gsE_zero hp (Nat.zero_le _) (by rw [en1_cnt x y p hp,if_pos rfl]; decide)
theorem en2_eq (hp:0≤p∧p≤255):en2 x y p=gcn (en1 x y p) p ((en1 x y p).cnt p+1):=gsN_ok (en1_E x y p hp)
theorem en2_cnt (hp:0≤p∧p≤255) (r:Int):(en2 x y p).cnt r=if r=p then 281474976710656 else 0:=by
 rw [en2_eq x y p hp]
 show (if r=p then (en1 x y p).cnt p+1 else (en1 x y p).cnt r)=_
 rw [en1_cnt x y p hp,en1_cnt x y p hp,if_pos rfl]
 split
 · rfl
 · rfl
theorem en2_E (hp:0≤p∧p≤255):gsE (en2 x y p) p 0=6:=gsE_end hp (Nat.zero_le _) (by rw [en2_cnt x y p hp,if_pos rfl]; decide)
theorem en2_Q (hp:0≤p∧p≤255) (hq:0≤q∧q≤255) (hne:¬ q=p):gsE (en2 x y p) q 0=0:=gsE_zero hq (Nat.zero_le _) (by rw [en2_cnt x y p hp,if_neg hne]; decide)
theorem en4_eq (hp:0≤p∧p≤255) (hq:0≤q∧q≤255) (hne:¬ q=p):en4 x y p q=gcn (en2 x y p) q ((en2 x y p).cnt q+1):=gsN_ok (en2_Q x y p q hp hq hne)
theorem en4_E (hp:0≤p∧p≤255) (hq:0≤q∧q≤255) (hne:¬ q=p):gsE (en4 x y p q) p 0=6:=gsE_end hp (Nat.zero_le _) (by
 rw [en4_eq x y p q hp hq hne]
 show (281474976710655:Int)<if p=q then (en2 x y p).cnt q+1 else (en2 x y p).cnt p
 rw [if_neg (fun e=>hne e.symm),en2_cnt x y p hp,if_pos rfl]
 decide)
theorem en4_out (hp:0≤p∧p≤255) (hq:0≤q∧q≤255) (hne:¬ q=p):(en4 x y p q).out=yat x 0:=by rw [en4_eq x y p q hp hq hne]; show (en2 x y p).out=_; rw [en2_eq x y p hp]; show (en1 x y p).out=_; rw [en1_eq x y p hp]; rfl
theorem en4_A (hp:0≤p∧p≤255) (hq:0≤q∧q≤255) (hne:¬ q=p):ynE (en4 x y p q).out=0:=by rw [en4_out x y p q hp hq hne]; exact if_neg (show ¬ (65535:Int)≤0 by decide)
theorem en6_eq (hp:0≤p∧p≤255) (hq:0≤q∧q≤255) (hne:¬ q=p):(en6 x y p q).out.e=1∧(en6 x y p q).cnt=(fun _=>0):=by
 have h:=en4_out x y p q hp hq hne
 unfold en6
 rw [gaN_on (by rw [h]; show ¬ (65535:Int)≤0; decide)]
 refine ⟨?_,rfl⟩
 show (yad (en4 x y p q).out).e=1
 rw [h,yad_on (show ¬ (65535:Int)≤0 by decide)]
 rfl
theorem en6_E (hp:0≤p∧p≤255) (hq:0≤q∧q≤255) (hne:¬ q=p):gsE (en6 x y p q) p 0=0:=gsE_zero hp (Nat.zero_le _) (by rw [(en6_eq x y p q hp hq hne).2]; show (0:Int)≤281474976710655; decide)
end
theorem law_GuardEnds {I:GrdI} (hK:GrdOK I) (hN:GrdNew I) (x y:Nat→Int) (hx:In 256 32 x) (hy:In 256 32 y) (c:Int) (hc:i64 c) (w0:World) (hg:GGlob w0) :
 Calls Tryz.prog 5 #[.agg (row .u8 32 x).toArray,.agg (row .u8 32 y).toArray,.int .i64 c] w0 fun e w'=>e=.returned (.bool true)∧Below w0.heap.size w0 w':=by
 have hk:=kdn_lt c 256 (by decide); have M:=Mm.init w0
 go_enter Tryz.func5,Tryz.ntmps5
 go_upto_region 0 with fail; refine wp_region_list ?_; have hlb:=(Below.refl w0.heap.size w0).alloc (xnR _) (.cells (row .u8 32 x).toArray 23); refine actL (w':=w0.alloc (.cells (row .u8 32 x).toArray 23)) (.pointer (some ⟨w0.heap.size,0,none⟩)) rfl (by kernel_rfl) ?_; simp only [aP,lI,l0,lS]; replace M:=M.box (row .u8 32 x).toArray 23 w0.heap.size rfl; clear hlb
 generalize w0.alloc (.cells (row .u8 32 x).toArray 23)=w1 at M  ⊢
 have hA_B1:w0.heap.size≤w0.heap.size:=xnR _
 generalize eB_:w0.heap.size=B1 at M hA_B1 ⊢
 replace hA_B1:w0.heap.size≤B1:=Nat.le_of_eq eB_
 clear eB_
 replace M:Mm w0 ((B1,row .u8 32 x)::([]:List (Nat × List Value))) w1:=M
 have hlb:=(Below.refl w1.heap.size w1).alloc (xnR _) (.cells (row .u8 32 y).toArray 23); refine actL (w':=w1.alloc (.cells (row .u8 32 y).toArray 23)) (.pointer (some ⟨w1.heap.size,0,none⟩)) rfl (by kernel_rfl) ?_; simp only [aP,lI,l0,lS]; replace M:=M.box (row .u8 32 y).toArray 23 w1.heap.size rfl; clear hlb; generalize w1.alloc (.cells (row .u8 32 y).toArray 23)=w2 at M  ⊢
 have hA_B2:w1.heap.size≤w1.heap.size:=xnR _
 generalize eB_:w1.heap.size=B2 at M hA_B2 ⊢
 replace hA_B2:w1.heap.size≤B2:=Nat.le_of_eq eB_
 clear eB_
 replace M:Mm w0 ((B2,row .u8 32 y)::(B1,row .u8 32 x)::([]:List (Nat × List Value))) w2:=M
 refine xpL (.bool false) ?_; refine xT ?_; go_upto_region 1 with fail; refine wp_region_list ?_; refine xcL (shown16_any hK hN _ (hg.mm M)) ?_; rintro e w3 ⟨rfl,l⟩; replace M:=M.call l; clear l; refine xeL ?_; refine xpL (.bool true) ?_; refine xT ?_; go_upto_region 2 with fail; refine wp_region_list ?_
 refine xaL (.agg (row .u8 32 x).toArray) (loadN 23 _ ⟨B1,0,none⟩ (row .u8 32 x) rfl rfl (fun _=>by kernel_rfl) (fun _=>by rw [row32]; kernel_rfl) (M.part (mT _ mS) 0 _ (by rw [List.drop_zero,List.take_length]))) ?_
 refine xaL (.agg (row .u8 32 y).toArray) (loadN 23 _ ⟨B2,0,none⟩ (row .u8 32 y) rfl rfl (fun _=>by kernel_rfl) (fun _=>by rw [row32]; kernel_rfl) (M.part mS 0 _ (by rw [List.drop_zero,List.take_length]))) ?_; have key:=hN w0 _ _ 1 x y hg (by unfold i64; decide) hx hy M; refine xcL key ?_; clear key; rintro e w4 ⟨v_,ba0,rfl,hIa,M',l⟩
 obtain ⟨Ra,rfl⟩:=hK.ptr _ _ _ _ hIa
 clear M; have M:=M'.perm (pull0 ([(B2,row .u8 32 y),(B1,row .u8 32 x)]:List (Nat × List Value)) ba0 ([]:List (Nat × List Value))).symm; clear M'; clear l
 replace M:Mm w0 ((B2,row .u8 32 y)::(B1,row .u8 32 x)::(ba0++([]:List (Nat × List Value)))) w4:=M
 refine xeL ?_; refine xpL (.pointer (some ⟨Ra,0,none⟩)) ?_; refine xT ?_; go_upto_region 3 with fail; refine wp_region_list ?_; refine xpL (.bool true) ?_; refine xpL (.bool false) ?_; refine xpL (.bool false) ?_; refine xpL (.pointer (some ⟨Ra,0,none⟩)) ?_; refine xpL (.bool false) ?_; refine xpL (.bool false) ?_; refine xT ?_; go_upto_region 5 with fail; refine wp_region_list ?_
 refine xpL (.int .i64 c) ?_; refine xcL (kind16_any c 256 (by decide) hc _) ?_; rintro e w5 ⟨rfl,l⟩; replace M:=M.call l; replace hIa:=hK.bel hIa l; clear l; refine xeL ?_; refine xpL (.int .i64 ((kdn c 256:Nat):Int)) ?_; refine xT ?_
 obtain ⟨p,hpe⟩:∃ p:Int,p=((kdn c 256:Nat):Int):=⟨_,rfl⟩
 rw [← hpe]
 have hp:0≤p∧p≤255:=by omega
 have hpi:i64 p:=by unfold i64; omega
 obtain ⟨q,hqe⟩:∃ q:Int,q=(p+1).tmod 256:=⟨_,rfl⟩
 have hq0:q=(p+1)%256:=by rw [hqe,Int.tmod_eq_emod_of_nonneg (by omega)]
 have hq:0≤q∧q≤255:=by omega
 have hne:¬ q=p:=by omega
 have hqi:i64 q:=by unfold i64; omega
 clear hpe hq0; go_upto_region 6 with fail; refine wp_region_list ?_; refine xpL (.pointer (some ⟨Ra,0,none⟩)) ?_; refine xpL (.int .i64 p) ?_; have Mp:=M.perm (pull0 ([(B2,row .u8 32 y),(B1,row .u8 32 x)]:List (Nat × List Value)) ba0 ([]:List (Nat × List Value))); have key:=hK.skp w0 _ _ (en0 x y) ba0 _ p 281474976710655 (en0_w x y hx hy) hpi (by unfold i64; decide) hIa Mp
 rw [en0_k x y p hp] at key
 rw [show gkN (en0 x y) p 281474976710655=en1 x y p from rfl] at key
 refine xcL key ?_; clear key; rintro e w6 ⟨ba1,rfl,hI_,M',o1⟩; clear o1 Mp M hIa; have hIa:=hI_; clear hI_
 have M:Mm w0 ((B2,row .u8 32 y)::(B1,row .u8 32 x)::(ba1++([]:List (Nat × List Value)))) w6:=M'.perm (pull0 ([(B2,row .u8 32 y),(B1,row .u8 32 x)]:List (Nat × List Value)) ba1 ([]:List (Nat × List Value))).symm
 clear M'; refine xeL ?_; refine xpL (.int .i64 0) ?_; refine xT ?_; go_upto_region 7 with fail; refine wp_region_list ?_; refine xpL (.pointer (some ⟨Ra,0,none⟩)) ?_; refine xpL (.int .i64 p) ?_; have Mp:=M.perm (pull0 ([(B2,row .u8 32 y),(B1,row .u8 32 x)]:List (Nat × List Value)) ba1 ([]:List (Nat × List Value)))
 have key:=hK.sel w0 _ _ (en1 x y p) ba1 _ p none 0 ([]) hg (en1_w x y p hx hy) hpi hIa (by decide) (xnR 0) (fun _=>rfl) (by unfold Byts; decide) Mp (show SrcA _ _ none 0 _ from ⟨fun j hj=>absurd hj (xnZ j),fun ad e=>by cases e⟩)
 rw [show gsE (en1 x y p) p ([]:List Int).length=0 from en1_E x y p hp] at key
 rw [show gsN (en1 x y p) p ([]:List Int).length=en2 x y p from rfl] at key
 refine xcL key ?_; clear key; rintro e w7 ⟨p7,c7,ba2,rfl,N_7,hI_,M',o1⟩; clear o1 Mp M hIa; have hIa:=hI_; clear hI_
 have M:Mm w0 ((B2,row .u8 32 y)::(B1,row .u8 32 x)::(ba2++((obs p7)++([]:List (Nat × List Value))))) w7:=M'.perm (pullY ([(B2,row .u8 32 y),(B1,row .u8 32 x)]:List (Nat × List Value)) ba2 (obs p7) ([]:List (Nat × List Value)))
 clear M'; refine xeL ?_; refine xpL (.tuple #[.slice p7 ((gsB (en1 x y p) p []).length) c7,.int .i64 0]) ?_; refine xpL (.slice p7 ((gsB (en1 x y p) p []).length) c7) ?_; refine xpL (.int .i64 0) ?_; refine xpL (.slice p7 ((gsB (en1 x y p) p []).length) c7) ?_; refine xpL (.int .i64 0) ?_; refine xT ?_; go_upto_region 8 with fail; refine wp_region_list ?_
 refine xpL (.pointer (some ⟨Ra,0,none⟩)) ?_; refine xpL (.int .i64 p) ?_; have Mp:=M.perm (pull0 ([(B2,row .u8 32 y),(B1,row .u8 32 x)]:List (Nat × List Value)) ba2 ((obs p7)++([]:List (Nat × List Value))))
 have key:=hK.sel w0 _ _ (en2 x y p) ba2 _ p none 0 ([]) hg (en2_w x y p hx hy) hpi hIa (by decide) (xnR 0) (fun _=>rfl) (by unfold Byts; decide) Mp (show SrcA _ _ none 0 _ from ⟨fun j hj=>absurd hj (xnZ j),fun ad e=>by cases e⟩)
 rw [show gsE (en2 x y p) p ([]:List Int).length=6 from en2_E x y p hp] at key
 rw [show gsN (en2 x y p) p ([]:List Int).length=en2 x y p from gsN_err (by rw [show gsE (en2 x y p) p ([]:List Int).length=6 from en2_E x y p hp]; decide)] at key
 refine xcL key ?_; clear key; rintro e w8 ⟨p8,c8,ba3,rfl,N_8,hI_,M',o1⟩; replace N_7:=NewF.offB N_7 o1 (Mp.awayS (fun p_ hp_=>by simp [hp_])); clear o1 Mp M hIa; have hIa:=hI_; clear hI_
 have M:Mm w0 ((B2,row .u8 32 y)::(B1,row .u8 32 x)::(ba3++((obs p8)++((obs p7)++([]:List (Nat × List Value)))))) w8:=M'.perm (pullY ([(B2,row .u8 32 y),(B1,row .u8 32 x)]:List (Nat × List Value)) ba3 (obs p8) ((obs p7)++([]:List (Nat × List Value))))
 clear M'; refine xeL ?_; refine xpL (.tuple #[.slice p8 ((gsB (en2 x y p) p []).length) c8,.int .i64 6]) ?_; refine xpL (.slice p8 ((gsB (en2 x y p) p []).length) c8) ?_; refine xpL (.int .i64 6) ?_; refine xpL (.slice p8 ((gsB (en2 x y p) p []).length) c8) ?_; refine xpL (.int .i64 6) ?_; refine xT ?_
 replace M:Mm w0 ((B2,row .u8 32 y)::(B1,row .u8 32 x)::(ba3++((obs p7)++([]:List (Nat × List Value))))) w8:=M.sub _ (List.cons_sublist_cons.2 (List.cons_sublist_cons.2 ((List.Sublist.refl _).append (List.sublist_append_right _ _))))
 clear N_8; go_upto_region 9 with fail; refine wp_region_list ?_; refine xpL (.pointer (some ⟨Ra,0,none⟩)) ?_; refine xpL (.int .i64 p) ?_; refine xaL (.int .i64 (p+1)) (addI .i64 _ _ _ _ _ _ _ rfl rfl rfl (by rw [xw6]; omega) _) ?_; refine xaL (.int .i64 q) (remI .i64 _ _ _ _ _ _ _ rfl rfl rfl (by decide) hqe.symm _) ?_
 have Mp:=M.perm (pull0 ([(B2,row .u8 32 y),(B1,row .u8 32 x)]:List (Nat × List Value)) ba3 ((obs p7)++([]:List (Nat × List Value)))); have key:=hK.sel w0 _ _ (en2 x y p) ba3 _ q none 0 ([]) hg (en2_w x y p hx hy) hqi hIa (by decide) (xnR 0) (fun _=>rfl) (by unfold Byts; decide) Mp (show SrcA _ _ none 0 _ from ⟨fun j hj=>absurd hj (xnZ j),fun ad e=>by cases e⟩)
 rw [show gsE (en2 x y p) q ([]:List Int).length=0 from en2_Q x y p q hp hq hne] at key
 rw [show gsN (en2 x y p) q ([]:List Int).length=en4 x y p q from rfl] at key
 refine xcL key ?_; clear key; rintro e w9 ⟨p9,c9,ba4,rfl,N_9,hI_,M',o1⟩; replace N_7:=NewF.offB N_7 o1 (Mp.awayS (fun p_ hp_=>by simp [hp_])); clear o1 Mp M hIa; have hIa:=hI_; clear hI_
 have M:Mm w0 ((B2,row .u8 32 y)::(B1,row .u8 32 x)::(ba4++((obs p9)++((obs p7)++([]:List (Nat × List Value)))))) w9:=M'.perm (pullY ([(B2,row .u8 32 y),(B1,row .u8 32 x)]:List (Nat × List Value)) ba4 (obs p9) ((obs p7)++([]:List (Nat × List Value))))
 clear M'; refine xeL ?_; refine xpL (.tuple #[.slice p9 ((gsB (en2 x y p) q []).length) c9,.int .i64 0]) ?_; refine xpL (.slice p9 ((gsB (en2 x y p) q []).length) c9) ?_; refine xpL (.int .i64 0) ?_; refine xpL (.slice p9 ((gsB (en2 x y p) q []).length) c9) ?_; refine xpL (.int .i64 0) ?_; refine xT ?_
 replace M:Mm w0 ((B2,row .u8 32 y)::(B1,row .u8 32 x)::(ba4++((obs p7)++([]:List (Nat × List Value))))) w9:=M.sub _ (List.cons_sublist_cons.2 (List.cons_sublist_cons.2 ((List.Sublist.refl _).append (List.sublist_append_right _ _))))
 clear N_9; go_upto_region 10 with fail; refine wp_region_list ?_; refine xpL (.pointer (some ⟨Ra,0,none⟩)) ?_; refine xpL (.int .i64 p) ?_; have Mp:=M.perm (pull0 ([(B2,row .u8 32 y),(B1,row .u8 32 x)]:List (Nat × List Value)) ba4 ((obs p7)++([]:List (Nat × List Value))))
 have key:=hK.sel w0 _ _ (en4 x y p q) ba4 _ p none 0 ([]) hg (en4_w x y p q hx hy) hpi hIa (by decide) (xnR 0) (fun _=>rfl) (by unfold Byts; decide) Mp (show SrcA _ _ none 0 _ from ⟨fun j hj=>absurd hj (xnZ j),fun ad e=>by cases e⟩)
 rw [show gsE (en4 x y p q) p ([]:List Int).length=6 from en4_E x y p q hp hq hne] at key
 rw [show gsN (en4 x y p q) p ([]:List Int).length=en4 x y p q from gsN_err (by rw [show gsE (en4 x y p q) p ([]:List Int).length=6 from en4_E x y p q hp hq hne]; decide)] at key
 refine xcL key ?_; clear key; rintro e w10 ⟨p10,c10,ba5,rfl,N_10,hI_,M',o1⟩; replace N_7:=NewF.offB N_7 o1 (Mp.awayS (fun p_ hp_=>by simp [hp_])); clear o1 Mp M hIa; have hIa:=hI_; clear hI_
 have M:Mm w0 ((B2,row .u8 32 y)::(B1,row .u8 32 x)::(ba5++((obs p10)++((obs p7)++([]:List (Nat × List Value)))))) w10:=M'.perm (pullY ([(B2,row .u8 32 y),(B1,row .u8 32 x)]:List (Nat × List Value)) ba5 (obs p10) ((obs p7)++([]:List (Nat × List Value))))
 clear M'; refine xeL ?_; refine xpL (.tuple #[.slice p10 ((gsB (en4 x y p q) p []).length) c10,.int .i64 6]) ?_; refine xpL (.slice p10 ((gsB (en4 x y p q) p []).length) c10) ?_; refine xpL (.int .i64 6) ?_; refine xpL (.slice p10 ((gsB (en4 x y p q) p []).length) c10) ?_; refine xpL (.int .i64 6) ?_; refine xT ?_
 replace M:Mm w0 ((B2,row .u8 32 y)::(B1,row .u8 32 x)::(ba5++((obs p7)++([]:List (Nat × List Value))))) w10:=M.sub _ (List.cons_sublist_cons.2 (List.cons_sublist_cons.2 ((List.Sublist.refl _).append (List.sublist_append_right _ _))))
 clear N_10; go_upto_region 11 with fail; refine wp_region_list ?_; refine xpL (.pointer (some ⟨Ra,0,none⟩)) ?_; have Mp:=M.perm (pull0 ([(B2,row .u8 32 y),(B1,row .u8 32 x)]:List (Nat × List Value)) ba5 ((obs p7)++([]:List (Nat × List Value)))); have key:=hK.adv w0 _ _ (en4 x y p q) ba5 _ hg (en4_w x y p q hx hy) hIa Mp
 rw [en4_A x y p q hp hq hne] at key
 rw [show gaN (en4 x y p q)=en6 x y p q from rfl] at key
 refine xcL key ?_; clear key; rintro e w11 ⟨ba6,rfl,hI_,M',o1⟩; replace N_7:=NewF.offB N_7 o1 (Mp.awayS (fun p_ hp_=>by simp [hp_])); clear o1 Mp M hIa; have hIa:=hI_; clear hI_
 have M:Mm w0 ((B2,row .u8 32 y)::(B1,row .u8 32 x)::(ba6++((obs p7)++([]:List (Nat × List Value))))) w11:=M'.perm (pull0 ([(B2,row .u8 32 y),(B1,row .u8 32 x)]:List (Nat × List Value)) ba6 ((obs p7)++([]:List (Nat × List Value)))).symm
 clear M'; refine xeL ?_; refine xpL (.int .i64 0) ?_; refine xT ?_; go_upto_region 12 with fail; refine wp_region_list ?_; refine xpL (.pointer (some ⟨Ra,0,none⟩)) ?_; refine xpL (.int .i64 p) ?_; have Mp:=M.perm (pull0 ([(B2,row .u8 32 y),(B1,row .u8 32 x)]:List (Nat × List Value)) ba6 ((obs p7)++([]:List (Nat × List Value))))
 have key:=hK.sel w0 _ _ (en6 x y p q) ba6 _ p none 0 ([]) hg (en6_w x y p q hx hy) hpi hIa (by decide) (xnR 0) (fun _=>rfl) (by unfold Byts; decide) Mp (show SrcA _ _ none 0 _ from ⟨fun j hj=>absurd hj (xnZ j),fun ad e=>by cases e⟩)
 rw [show gsE (en6 x y p q) p ([]:List Int).length=0 from en6_E x y p q hp hq hne] at key
 rw [show gsN (en6 x y p q) p ([]:List Int).length=gsN (en6 x y p q) p 0 from rfl] at key
 refine xcL key ?_; clear key; rintro e w12 ⟨p12,c12,ba7,rfl,N_12,hI_,M',o1⟩; replace N_7:=NewF.offB N_7 o1 (Mp.awayS (fun p_ hp_=>by simp [hp_])); clear o1 Mp M hIa; have hIa:=hI_; clear hI_
 have M:Mm w0 ((B2,row .u8 32 y)::(B1,row .u8 32 x)::(ba7++((obs p12)++((obs p7)++([]:List (Nat × List Value)))))) w12:=M'.perm (pullY ([(B2,row .u8 32 y),(B1,row .u8 32 x)]:List (Nat × List Value)) ba7 (obs p12) ((obs p7)++([]:List (Nat × List Value))))
 clear M'; refine xeL ?_; refine xpL (.tuple #[.slice p12 ((gsB (en6 x y p q) p []).length) c12,.int .i64 0]) ?_; refine xpL (.slice p12 ((gsB (en6 x y p q) p []).length) c12) ?_; refine xpL (.int .i64 0) ?_; refine xpL (.slice p12 ((gsB (en6 x y p q) p []).length) c12) ?_; refine xpL (.int .i64 0) ?_; refine xT ?_; go_upto_region 13 with fail; refine wp_region_list ?_
 refine xpL (.slice p7 ((gsB (en1 x y p) p []).length) c7) ?_
 have key:=use16_any p7 c7 (gsB (en1 x y p) p []) _ (by rw [gsB_len (show gsE (en1 x y p) p ([]:List Int).length=0 from en1_E x y p hp)]; decide) (NewF.le N_7) (NewF.nilCap N_7) (gsB_byts (en1_w x y p hx hy) (by unfold Byts; decide)) (NewF.src N_7) _ (gsB_pps (en1_w x y p hx hy) (show gsE (en1 x y p) p ([]:List Int).length=0 from en1_E x y p hp)) rfl
 rw [show (gpk (en1 x y p) p (gsT (en1 x y p) p [])).epo=0 from by show (en1 x y p).out.e=0; rw [en1_eq x y p hp]; rfl] at key
 rw [show (gpk (en1 x y p) p (gsT (en1 x y p) p [])).path=p from rfl] at key
 rw [show (gpk (en1 x y p) p (gsT (en1 x y p) p [])).ctr=281474976710655 from by show (en1 x y p).cnt p=_; rw [en1_cnt x y p hp,if_pos rfl]] at key
 refine xcL key ?_; clear key; rintro e w13 ⟨rfl,l⟩; replace M:=M.call l; replace hIa:=hK.bel hIa l; replace N_7:=NewF.below N_7 l; replace N_12:=NewF.below N_12 l; clear l; refine xeL ?_; refine xpL (.tuple #[.agg #[.int .i64 0,.int .i64 p,.int .i64 281474976710655],.bool true]) ?_; refine xpL (.agg #[.int .i64 0,.int .i64 p,.int .i64 281474976710655]) ?_; refine xpL (.bool true) ?_
 have hlb:=(Below.refl w13.heap.size w13).alloc (xnR _) (.cells #[.int .i64 0,.int .i64 0,.int .i64 0] 39); refine actL (w':=w13.alloc (.cells #[.int .i64 0,.int .i64 0,.int .i64 0] 39)) (.pointer (some ⟨w13.heap.size,0,none⟩)) rfl (by kernel_rfl) ?_; simp only [aP,lI,l0,lS]; replace hIa:=hK.bel hIa hlb; replace N_7:=NewF.below N_7 hlb; replace N_12:=NewF.below N_12 hlb
 replace M:=M.box #[.int .i64 0,.int .i64 0,.int .i64 0] 39 w13.heap.size rfl; clear hlb; generalize w13.alloc (.cells #[.int .i64 0,.int .i64 0,.int .i64 0] 39)=w14 at M hIa N_7 N_12 ⊢
 have hA_B14:w13.heap.size≤w13.heap.size:=xnR _
 generalize eB_:w13.heap.size=B14 at M hA_B14 ⊢
 replace hA_B14:w13.heap.size≤B14:=Nat.le_of_eq eB_
 clear eB_
 replace M:Mm w0 ((B14,[.int .i64 0,.int .i64 0,.int .i64 0])::(B2,row .u8 32 y)::(B1,row .u8 32 x)::(ba7++((obs p12)++((obs p7)++([]:List (Nat × List Value)))))) w14:=M
 refine skipOpL rfl (storeP [.int .i64 0,.int .i64 p,.int .i64 281474976710655] B14 0 39 _ _ rfl rfl rfl (M.thereP mS 0 3 (Nat.le_of_ble_eq_true rfl)) (by kernel_rfl) (List.all_eq_true.1 (rfl:([.int .i64 0,.int .i64 p,.int .i64 281474976710655]:List Value).all (fun u=>u.oneCell')=true))) ?_; simp only [Act.put]
 have oS:=(Off.refl [B14] w14).setAll (b:=B14) mS 0 [.int .i64 0,.int .i64 p,.int .i64 281474976710655]; replace hIa:=hK.off _ _ _ _ _ _ hIa oS (fun b_ hb_=>by obtain rfl:=xm1 hb_; exact M.awayC (fun p_ hp_=>by simp [hp_])); replace N_7:=NewF.offB N_7 oS (fun b_ hb_=>by obtain rfl:=xm1 hb_; exact M.awayB (fun p_ hp_=>by simp [hp_]))
 replace N_12:=NewF.offB N_12 oS (fun b_ hb_=>by obtain rfl:=xm1 hb_; exact M.awayB (fun p_ hp_=>by simp [hp_])); clear oS; replace M:=M.setAll [.int .i64 0,.int .i64 p,.int .i64 281474976710655] rfl; generalize w14.setCells B14 0 [.int .i64 0,.int .i64 p,.int .i64 281474976710655]=w15 at M hIa N_7 N_12 ⊢; refine xpL (.bool true) ?_; refine xT ?_; go_upto_region 14 with fail
 refine wp_region_list ?_; refine xpL (.slice p12 ((gsB (en6 x y p q) p []).length) c12) ?_
 have key:=use16_any p12 c12 (gsB (en6 x y p q) p []) _ (by rw [gsB_len (show gsE (en6 x y p q) p ([]:List Int).length=0 from en6_E x y p q hp hq hne)]; decide) (NewF.le N_12) (NewF.nilCap N_12) (gsB_byts (en6_w x y p q hx hy) (by unfold Byts; decide)) (NewF.src N_12) _ (gsB_pps (en6_w x y p q hx hy) (show gsE (en6 x y p q) p ([]:List Int).length=0 from en6_E x y p q hp hq hne)) rfl
 rw [show (gpk (en6 x y p q) p (gsT (en6 x y p q) p [])).epo=1 from (en6_eq x y p q hp hq hne).1] at key
 rw [show (gpk (en6 x y p q) p (gsT (en6 x y p q) p [])).path=p from rfl] at key
 rw [show (gpk (en6 x y p q) p (gsT (en6 x y p q) p [])).ctr=0 from by show (en6 x y p q).cnt p=0; rw [(en6_eq x y p q hp hq hne).2]] at key
 refine xcL key ?_; clear key; rintro e w16 ⟨rfl,l⟩; replace M:=M.call l; replace hIa:=hK.bel hIa l; replace N_7:=NewF.below N_7 l; replace N_12:=NewF.below N_12 l; clear l; refine xeL ?_; refine xpL (.tuple #[.agg #[.int .i64 1,.int .i64 p,.int .i64 0],.bool true]) ?_; refine xpL (.agg #[.int .i64 1,.int .i64 p,.int .i64 0]) ?_; refine xpL (.bool true) ?_
 have hlb:=(Below.refl w16.heap.size w16).alloc (xnR _) (.cells #[.int .i64 0,.int .i64 0,.int .i64 0] 39); refine actL (w':=w16.alloc (.cells #[.int .i64 0,.int .i64 0,.int .i64 0] 39)) (.pointer (some ⟨w16.heap.size,0,none⟩)) rfl (by kernel_rfl) ?_; simp only [aP,lI,l0,lS]; replace hIa:=hK.bel hIa hlb; replace N_7:=NewF.below N_7 hlb; replace N_12:=NewF.below N_12 hlb
 replace M:=M.box #[.int .i64 0,.int .i64 0,.int .i64 0] 39 w16.heap.size rfl; clear hlb; generalize w16.alloc (.cells #[.int .i64 0,.int .i64 0,.int .i64 0] 39)=w17 at M hIa N_7 N_12 ⊢
 have hA_B17:w16.heap.size≤w16.heap.size:=xnR _
 generalize eB_:w16.heap.size=B17 at M hA_B17 ⊢
 replace hA_B17:w16.heap.size≤B17:=Nat.le_of_eq eB_
 clear eB_
 replace M:Mm w0 ((B17,[.int .i64 0,.int .i64 0,.int .i64 0])::(B14,[.int .i64 0,.int .i64 p,.int .i64 281474976710655])::(B2,row .u8 32 y)::(B1,row .u8 32 x)::(ba7++((obs p12)++((obs p7)++([]:List (Nat × List Value)))))) w17:=M
 refine skipOpL rfl (storeP [.int .i64 1,.int .i64 p,.int .i64 0] B17 0 39 _ _ rfl rfl rfl (M.thereP mS 0 3 (Nat.le_of_ble_eq_true rfl)) (by kernel_rfl) (List.all_eq_true.1 (rfl:([.int .i64 1,.int .i64 p,.int .i64 0]:List Value).all (fun u=>u.oneCell')=true))) ?_; simp only [Act.put]; have oS:=(Off.refl [B17] w17).setAll (b:=B17) mS 0 [.int .i64 1,.int .i64 p,.int .i64 0]
 replace hIa:=hK.off _ _ _ _ _ _ hIa oS (fun b_ hb_=>by obtain rfl:=xm1 hb_; exact M.awayC (fun p_ hp_=>by simp [hp_])); replace N_7:=NewF.offB N_7 oS (fun b_ hb_=>by obtain rfl:=xm1 hb_; exact M.awayB (fun p_ hp_=>by simp [hp_])); replace N_12:=NewF.offB N_12 oS (fun b_ hb_=>by obtain rfl:=xm1 hb_; exact M.awayB (fun p_ hp_=>by simp [hp_])); clear oS
 replace M:=M.setAll [.int .i64 1,.int .i64 p,.int .i64 0] rfl; generalize w17.setCells B17 0 [.int .i64 1,.int .i64 p,.int .i64 0]=w18 at M hIa N_7 N_12 ⊢; refine xpL (.bool true) ?_; refine xT ?_; go_upto_region 15 with fail; refine wp_region_list ?_; refine xpL (.int .i64 0) ?_; refine xaL (.bool true) (eqlI .i64 _ _ _ _ _ _ rfl rfl rfl true (beq_self_eq_true _) _) ?_
 refine xpL (.bool true) ?_; refine xpL (.int .i64 0) ?_; refine xaL (.bool true) (eqlI .i64 _ _ _ _ _ _ rfl rfl rfl true (beq_self_eq_true _) _) ?_; refine xpL (.bool true) ?_; refine xpL (.bool true) ?_; refine xpL (.int .i64 6) ?_; refine xaL (.bool true) (eqlI .i64 _ _ _ _ _ _ rfl rfl rfl true (beq_self_eq_true _) _) ?_; refine xpL (.bool true) ?_; refine xpL (.bool true) ?_
 refine xpL (.int .i64 0) ?_; refine xaL (.bool true) (eqlI .i64 _ _ _ _ _ _ rfl rfl rfl true (beq_self_eq_true _) _) ?_; refine xpL (.bool true) ?_; refine xpL (.bool true) ?_; refine xpL (.int .i64 6) ?_; refine xaL (.bool true) (eqlI .i64 _ _ _ _ _ _ rfl rfl rfl true (beq_self_eq_true _) _) ?_; refine xpL (.bool true) ?_; refine xpL (.bool true) ?_; refine xpL (.int .i64 0) ?_
 refine xaL (.bool true) (eqlI .i64 _ _ _ _ _ _ rfl rfl rfl true (beq_self_eq_true _) _) ?_; refine xpL (.bool true) ?_; refine xpL (.bool true) ?_; refine xpL (.int .i64 0) ?_; refine xaL (.bool true) (eqlI .i64 _ _ _ _ _ _ rfl rfl rfl true (beq_self_eq_true _) _) ?_; refine xpL (.bool true) ?_; refine xpL (.bool true) ?_; refine xpL (.bool true) ?_; refine xpL (.bool true) ?_
 refine xpL (.bool true) ?_; refine xpL (.bool true) ?_; refine xpL (.bool true) ?_; refine xpL (.bool true) ?_; refine xaL (.agg #[.int .i64 0,.int .i64 p,.int .i64 281474976710655]) (loadN 39 _ ⟨B14,0,none⟩ [.int .i64 0,.int .i64 p,.int .i64 281474976710655] rfl rfl (fun _=>by kernel_rfl) (fun _=>by kernel_rfl) (M.rangeAt (mT _ mS))) ?_; refine xpL (.int .i64 p) ?_
 refine xpL (.agg #[.int .i64 0,.int .i64 p,.int .i64 281474976710655]) ?_; refine xaL (.bool true) (eqlUs _ _ _ _ _ _ _ _ rfl rfl rfl true (by simp) _) ?_; refine xpL (.bool true) ?_; refine xpL (.bool true) ?_
 refine xaL (.agg #[.int .i64 1,.int .i64 p,.int .i64 0]) (loadN 39 _ ⟨B17,0,none⟩ [.int .i64 1,.int .i64 p,.int .i64 0] rfl rfl (fun _=>by kernel_rfl) (fun _=>by kernel_rfl) (M.rangeAt mS)) ?_; refine xpL (.int .i64 p) ?_; refine xpL (.agg #[.int .i64 1,.int .i64 p,.int .i64 0]) ?_; refine xaL (.bool true) (eqlUs _ _ _ _ _ _ _ _ rfl rfl rfl true (by simp) _) ?_
 refine xpL (.bool true) ?_; refine xpL (.bool true) ?_; refine xT ?_; have hbel:=M.below; clear M hIa N_7 N_12; go_wp2; go_ret
 exact ⟨rfl,hbel⟩
end
section
section
variable {P:Program} {o:Oper} {a:Act}
theorem maxI (k k':IntKind) (n n' r:Int) (x y:Operand) (t t':TypeId) (ho:o.op=.call { callee:=.builtin .max,args:=#[x,y],argTypes:=#[t,t'] }) (hx:a.eval x=.int k n) (hy:a.eval y=.int k' n') (hr:(if n<n' then n' else n)=r) (w:World):(execOp a.eval o).run P w=.ok (.value (.int k r)) w:=by
 simp [execOp,ho,resolve,invoke,builtin,hx,hy,run_max_int2,hr]
end
theorem Mm.grownN {w0 w w':World} {l:List (Nat × List Value)} (h:Mm w0 l w) {r:Option Nat} (g:w.grownBy w' r) (hr:∀ b,r=some b→w0.heap.size≤b∧∀ p∈l,p.1≠b):Mm w0 l w' :=
 ⟨fun p hp=>⟨fun j hj=>by
  have e:w'.heap[p.1]?=w.heap[p.1]?:=g.block p.1 (h.rows p hp).2.2 (fun e=>(hr p.1 e.symm).2 p hp rfl)
  rw [World.cell?_of_block (a:=⟨p.1,j,none⟩) e,World.frozen?_of_block (a:=⟨p.1,j,none⟩) e]
  exact (h.rows p hp).1 j hj,(h.rows p hp).2.1,xnL (h.rows p hp).2.2 g.size⟩,h.apart,
  ⟨g.os.trans h.below.os,g.tape.trans h.below.tape,g.output.trans h.below.output,xnT h.below.size g.size,fun b hb=>(g.block b (xnL hb h.below.size) (fun e=>by have:=(hr b e.symm).1; omega)).trans (h.below.block b hb)⟩⟩
end
theorem Mm.addB {w0 w:World} {l:List (Nat × List Value)} (h:Mm w0 l w) {b:Nat} (lo:w0.heap.size≤b) (lt:b<w.heap.size) (hne:∀ p∈l,p.1≠b):Mm w0 ((b,[])::l) w :=
 ⟨fun p hp=>by
  rcases xc1 hp with rfl | hp
  · exact ⟨fun j hj=>absurd hj (xnZ j),lo,lt⟩
  · exact h.rows p hp,List.pairwise_cons.2 ⟨fun p hp=>(hne p hp).symm,h.apart⟩,h.below⟩
section
open Go.RowKit Go.MapKept Go.ChangeMaps Go.WideShapes
def heldR (v:Value):Option (DataW Value × List MemPlace):=some (.held v,[])
def IM (P:Program) (k:TypeId) (w:World) (b n:Nat) (f:Int→Option Value):Prop :=
 ∃ D:DataW Value,w.ownsMap P k heldR b n D∧∀ x,i64 x→Maps.has D (.int .i64 x)=(f x).isSome∧∀ d,D.atKey (.int .i64 x) d=((f x).map DataW.held).getD d
theorem wfI {x:Int} (h:i64 x):(Lit.int .i64 x).wf=true:=WalkArith.wf_i64 (by unfold i64 at h; omega)
theorem litNe {x y:Int} (h:y≠x):(Lit.int .i64 y)≠.int .i64 x:=fun e=>by injection e with _ e; exact h e
def iput (f:Int→Option Value) (x:Int) (v:Value):Int→Option Value:=fun y=>if y=x then some v else f y
theorem iput_same (f:Int→Option Value) (x:Int) (v:Value):iput f x v x=some v:=if_pos rfl
theorem iput_other {f:Int→Option Value} {x y:Int} {v:Value} (h:¬ y=x):iput f x v y=f y:=if_neg h
section
variable {P:Program} {k t e:TypeId} {w:World} {b n:Nat} {f:Int→Option Value}
theorem IM.made (P:Program) (k:TypeId) (w:World):IM P k (w.alloc (.map #[] 0)) w.heap.size 0 (fun _=>none) :=
 ⟨_,World.ownsMap_made w P k heldR,fun _ _=>⟨rfl,fun _=>rfl⟩⟩
theorem IM.mono (h:IM P k w b n f) {m:Nat} (hm:n≤m):IM P k w b m f:=let ⟨D,h,h2⟩:=h; ⟨D,h.mono hm,h2⟩
theorem IM.off {w':World} {X:List Nat} (h:IM P k w b n f) (o:Off X w w') (hb:b∉X):IM P k w' b n f:=by
 obtain ⟨D,⟨es,clock,h1,h2⟩,h3⟩:=h
 exact ⟨D,⟨es,clock,(o.blk b (Array.getElem?_eq_some_iff.1 h1).1 hb).trans h1,h2⟩,h3⟩
theorem IM.bel {w':World} (h:IM P k w b n f) (l:Below w.heap.size w w'):IM P k w' b n f:=h.off (X:=[]) (Off.of_below l) (fun hb=>by cases hb)
theorem IM.look (h:IM P k w b n f) (hk:P.underlying k=some (.int .i64)) (ht:P.underlying t=some (.map k e)) {z:Value} (hz:(zeroValue e).run P w=.ok z w) {x:Int} (hx:i64 x):(Instr.lookup t (.map (some b)) (.int .i64 x) false).run P w=.ok ((f x).getD z) w:=by
 obtain ⟨D,h1,h2⟩:=h
 obtain ⟨v,ps,hr,hv⟩:=h1.lookup (Maps.int_keyed hk) ht hz (show heldR z=some (.held z,[]) from rfl) (Maps.keyOf_int_mk hk (wfI hx))
 rw [hr]
 have e:=(h2 x hx).2 (.held z)
 unfold heldR at hv
 injection hv with hv
 injection hv with hv _
 rw [e] at hv
 cases hf:f x with
 | none=>rw [hf] at hv; injection hv with hv; rw [hv]; rfl
 | some u=>rw [hf] at hv; injection hv with hv; rw [hv]; rfl
theorem IM.lookOk (h:IM P k w b n f) (hk:P.underlying k=some (.int .i64)) (ht:P.underlying t=some (.map k e)) {z:Value} (hz:(zeroValue e).run P w=.ok z w) {x:Int} (hx:i64 x):(Instr.lookup t (.map (some b)) (.int .i64 x) true).run P w=.ok (.tuple #[(f x).getD z,.bool (f x).isSome]) w:=by
 obtain ⟨D,h1,h2⟩:=h
 obtain ⟨v,ps,hr,hv⟩:=h1.look_ok (Maps.int_keyed hk) ht hz (show heldR z=some (.held z,[]) from rfl) (Maps.keyOf_int_mk hk (wfI hx))
 rw [hr,(h2 x hx).1]
 have e:=(h2 x hx).2 (.held z)
 unfold heldR at hv
 injection hv with hv
 injection hv with hv _
 rw [e] at hv
 cases hf:f x with
 | none=>rw [hf] at hv; injection hv with hv; rw [hv]; rfl
 | some u=>rw [hf] at hv; injection hv with hv; rw [hv]; rfl
theorem IM.put (h:IM P k w b n f) (hk:P.underlying k=some (.int .i64)) (ht:P.underlying t=some (.map k e)) (hn:n<maxLen) {x:Int} (hx:i64 x) (v:Value) :
 ∃ w',(Instr.mapUpdate t (.map (some b)) (.int .i64 x) v).run P w=.ok () w'∧IM P k w' b (n+1) (iput f x v)∧w.grownBy w' (some b):=by
 obtain ⟨D,h1,h2⟩:=h
 obtain ⟨w',hr,ho,hg⟩:=h1.update (Maps.int_keyed hk) ht hn (Maps.keyOf_int_mk hk (wfI hx)) (show heldR v=some (.held v,[]) from rfl)
 refine ⟨w',hr,⟨_,ho,fun y hy=>?_⟩,hg⟩
 by_cases c:y=x
 · subst c
   rw [iput_same]
   exact ⟨Maps.has_put_same h1.isMap (show WideAt.IsKeyLit (.int .i64 y) from trivial) _,fun d=>Maps.atKey_put_same h1.isMap (show WideAt.IsKeyLit (.int .i64 y) from trivial) _ d⟩
 · rw [iput_other c]
   exact ⟨(Maps.has_put_other (litNe c) _).trans (h2 y hy).1,fun d=>(Maps.atKey_put_other (litNe c) _ d).trans ((h2 y hy).2 d)⟩
theorem IM.bound (h:IM P k w b n f) (hk:P.underlying k=some (.int .i64)) (m:Nat) (hf:∀ x,(f x).isSome=true→0≤x∧x<m):IM P k w b m f:=by
 obtain ⟨D,ho,h2⟩:=h
 obtain ⟨L,hD,hp⟩:=ho.tidy (Maps.int_keyed hk)
 have h3:=fun x hx=>(h2 x hx).1
 obtain ⟨es,clock,hb,F,hs,hD'⟩:=ho
 refine ⟨D,⟨es,clock,hb,F,?_,hD'⟩,h2⟩
 have e1:L=(es.toList.map (WideElems.rg P k heldR)).foldr DataW.insert []:=by rw [hD] at hD'; injection hD'
 have e2:es.size=L.length:=by rw [e1,length_read]
 have hle:(L.map Prod.fst).length≤((List.range m).map fun i:Nat=>Lit.int .i64 (i:Int)).length:=?_
 · rw [List.length_map,List.length_map,List.length_range] at hle
   omega
 refine List.Nodup.length_le_of_subset (List.pairwise_map.2 hp) fun l hl=>?_
 obtain ⟨p,hpm,rfl⟩:=List.mem_map.1 hl
 rw [e1] at hpm
 obtain ⟨x,hx,hpx⟩:=List.mem_map.1 (mem_sorted.1 hpm)
 obtain ⟨y,hy⟩:=F.reads x hx
 rw [WideElems.rg_of hy] at hpx
 subst hpx; have hkey:=WideElems.rd_key hy
 have hkm:mapKey P k x.key=some y.1:=by
  unfold keyOf at hkey
  rw [hk] at hkey
  exact hkey
 unfold mapKey at hkm
 rw [hk] at hkm
 cases hxk:x.key with
 | int q a =>
   rw [hxk] at hkm
   simp only [Option.ite_none_right_eq_some,Option.some.injEq] at hkm
   obtain ⟨⟨rfl,hw⟩,hy1⟩:=hkm
   have hi:i64 a:=by
    unfold i64
    simp [Lit.wf,IntKind.min,IntKind.max,IntKind.signed,IntKind.bits] at hw
    omega
   have hh:Maps.has D (.int .i64 a)=true:=by
    rw [hD,Maps.has_eq,List.any_eq_true]
    exact ⟨y,by rw [e1]; exact hpm,by rw [← hy1]; exact WideAt.sameKey_self (show WideAt.IsKeyLit (.int .i64 a) from trivial)⟩
   rw [h3 a hi] at hh
   have hr:=hf a hh
   refine List.mem_map.2 ⟨a.toNat,List.mem_range.2 (by omega),?_⟩
   rw [← hy1,Int.toNat_of_nonneg hr.1]
 | _=>rw [hxk] at hkm; simp at hkm
theorem IM.clr (h:IM P k w b n f) (ht:P.underlying t=some (.map k e)) (ty:TypeId):∃ w',(Builtin.clear_ #[t] ty #[.map (some b)]).run P w=.ok (.tuple #[]) w'∧IM P k w' b 0 (fun _=>none)∧w.grownBy w' (some b):=by
 obtain ⟨D,⟨es,clock,hb,hF,_⟩,_⟩:=h
 refine ⟨setBlock w b (.map #[] clock),?_,⟨.map [],⟨#[],clock,heap_setBlock_same hb _,⟨by simp,stamped_empty clock,by simp⟩,xnR _,rfl⟩,fun _ _=>⟨rfl,fun _=>rfl⟩⟩,⟨rfl,rfl,rfl,by simp [setBlock],fun i _ hi=>heap_setBlock_other hb _ (fun e=>hi (by rw [e]))⟩⟩
 simp [Builtin.clear_,run_underlying ht,MapKept.run_getObj_map hb,MapKept.run_setObj_map _ hb,setBlock,Result.andThen]
end
section
variable {P:Program} {k t e:TypeId} {w:World} {b n:Nat} {f:Int→Option Value} {o:Oper} {a:Act}
end
theorem Mm.touch {w0 w w':World} {l:List (Nat × List Value)} {b:Nat} (M:Mm w0 ((b,[])::l) w) (g:w.grownBy w' (some b)):Mm w0 ((b,[])::l) w':=by
 have h:=M.tail.grownN g fun b' e=>by
  injection e with e
  subst e
  exact ⟨M.lo mS,fun p hp e=>(List.pairwise_cons.1 M.apart).1 p hp e.symm⟩
 exact h.addB (M.lo mS) (xnL (M.lt mS) g.size) fun p hp e=>(List.pairwise_cons.1 M.apart).1 p hp e.symm
theorem Off.touched {w w':World} {b:Nat} (g:w.grownBy w' (some b)):Off [b] w w':=(Off.refl [b] w).grown g fun b' e=>by
 injection e with e
 subst e
 exact .inl mS
end
def rp (n:Int):Nat:=(n%1024).toNat
structure Bts (W:Nat→Nat) (f:Nat→Bool):Prop where
 lt:∀ i,i<16→W i<2^64
 bit:∀ i b,i<16→b<64→(W i).testBit b=f (64*i+b)
def wsee (L:List Int) (k:Nat):Bool:=decide (wtop L-(k:Int)∈L)
theorem Bts.nil:Bts (fun _=>0) (wsee []):=⟨fun _ _=>by decide,fun i b _ _=>by rw [Nat.zero_testBit]; exact (decide_eq_false (by simp)).symm⟩
theorem Bts.congr {W:Nat→Nat} {f g:Nat→Bool} (h:Bts W f) (e:∀ k,k<1024→f k=g k):Bts W g:=⟨h.lt,fun i b hi hb=>by rw [h.bit i b hi hb]; exact e _ (by omega)⟩
theorem Bts.at {W:Nat→Nat} {f:Nat→Bool} (h:Bts W f) (k:Nat) (hk:k<1024):(W (k/64)).testBit (k%64)=f k:=by
 rw [h.bit _ _ (by omega) (by omega)]
 congr 1
 omega
theorem Bts.put {W V:Nat→Nat} {f:Nat→Bool} (h:Bts W f) (k:Nat) (hV:∀ i,i<16→V i=if i=k/64 then W i ||| 2^(k%64) else W i):Bts V (fun j=>decide (j=k) || f j):=by
 refine ⟨fun i hi=>?_,fun i b hi hb=>?_⟩
 · rw [hV i hi]
   split
   · exact Nat.or_lt_two_pow (h.lt i hi) (Nat.pow_lt_pow_right (by decide) (by omega))
   · exact h.lt i hi
 · rw [hV i hi]
   split
   · next e =>
     rw [Nat.testBit_or,h.bit i b hi hb,Nat.testBit_two_pow,Bool.or_comm]
     congr 1
     exact decide_eq_decide.2 (by omega)
   · next e =>
     rw [h.bit i b hi hb,decide_eq_false (by omega),Bool.false_or]
def wup (W:Nat→Nat) (d i:Nat):Nat:=if d/64≤i then W (i-d/64)*2^(d%64)%2^64 else 0
def wdn (W:Nat→Nat) (d i:Nat):Nat:=if d/64<i then W (i-d/64-1)/2^(64-d%64) else 0
def wst (W:Nat→Nat) (d i:Nat):Nat:=wup W d i ||| wdn W d i
theorem wup_lt (W:Nat→Nat) (d i:Nat):wup W d i<2^64:=by
 unfold wup
 split
 · exact Nat.mod_lt _ (by decide)
 · decide
theorem Bts.div_lt {W:Nat→Nat} {f:Nat→Bool} (h:Bts W f) (i e:Nat) (hi:i<16):W i/2^e<2^64:=Nat.lt_of_le_of_lt (Nat.div_le_self _ _) (h.lt i hi)
theorem Bts.up {W:Nat→Nat} {f:Nat→Bool} (h:Bts W f) (d:Nat):Bts (wst W d) (fun k=>decide (d≤k)&&f (k-d)):=by
 refine ⟨fun i hi=>?_,fun i b hi hb=>?_⟩
 · refine Nat.or_lt_two_pow (wup_lt W d i) ?_
   unfold wdn
   split
   · exact h.div_lt _ _ (by omega)
   · decide
 · have e1:(wup W d i).testBit b=(decide (64*(d/64)+d%64≤64*i+b∧d%64≤b)&&f (64*i+b-d)):=by
    unfold wup
    by_cases c:d/64≤i
    · rw [if_pos c,Nat.testBit_mod_two_pow,decide_eq_true hb,Bool.true_and,Nat.testBit_mul_two_pow]
      by_cases c2:d%64≤b
      · rw [decide_eq_true (show b≥d%64 from c2),Bool.true_and,h.bit _ _ (by omega) (by omega),decide_eq_true (by omega),Bool.true_and]
        congr 1
        omega
      · rw [decide_eq_false (show ¬ b≥d%64 from c2),Bool.false_and,decide_eq_false (by omega),Bool.false_and]
    · rw [if_neg c,Nat.zero_testBit,decide_eq_false (by omega),Bool.false_and]
   have e2:(wdn W d i).testBit b=(decide (64*(d/64)+d%64≤64*i+b∧b<d%64)&&f (64*i+b-d)):=by
    unfold wdn
    by_cases c:d/64<i
    · rw [if_pos c,Nat.testBit_div_two_pow]
      by_cases c2:b<d%64
      · rw [h.bit _ _ (by omega) (by omega),decide_eq_true (by omega),Bool.true_and]
        congr 1
        omega
      · rw [Nat.testBit_lt_two_pow (xnL (h.lt _ (by omega)) (Nat.pow_le_pow_right (by decide) (by omega))),decide_eq_false (by omega),Bool.false_and]
    · rw [if_neg c,Nat.zero_testBit,decide_eq_false (by omega),Bool.false_and]
   unfold wst
   rw [Nat.testBit_or,e1,e2,← Bool.and_or_distrib_right]
   congr 1
   rw [← Bool.decide_or]
   exact decide_eq_decide.2 (by omega)
theorem wsee_put {L:List Int} {n:Int} {k:Nat} (hk:wtop L-n=(k:Int)) (j:Nat):(decide (j=k) || wsee L j)=wsee (L++[n]) j:=by
 unfold wsee
 rw [← Bool.decide_or,wtop_app,show max (wtop L) n=wtop L by omega]
 refine decide_eq_decide.2 ?_
 rw [List.mem_append,List.mem_singleton]
 constructor
 · rintro (h | h)
   · exact .inr (by omega)
   · exact .inl h
 · rintro (h | h)
   · exact .inr h
   · exact .inl (by omega)
theorem wsee_up {L:List Int} {n:Int} {d:Nat} (hd:n-wtop L=(d:Int)) (h1:1≤d) (j:Nat):(decide (j=0) || (decide (d≤j)&&wsee L (j-d)))=wsee (L++[n]) j:=by
 unfold wsee
 rw [← Bool.decide_and,← Bool.decide_or,wtop_app,show max (wtop L) n=n by omega]
 refine decide_eq_decide.2 ?_
 rw [List.mem_append,List.mem_singleton]
 constructor
 · rintro (h | ⟨h,h2⟩)
   · exact .inr (by omega)
   · refine .inl ?_
     rw [show n-(j:Int)=wtop L-((j-d:Nat):Int) by omega]
     exact h2
 · rintro (h | h)
   · have:=wtop_le h
     refine .inr ⟨by omega,?_⟩
     rw [show wtop L-((j-d:Nat):Int)=n-(j:Int) by omega]
     exact h
   · exact .inl (by omega)
def Wds (W:Nat→Nat) (L:List Int):Prop:=Bts W (wsee L)
theorem Wds.at {W:Nat→Nat} {L:List Int} (h:Wds W L) {n:Int} {k:Nat} (hk:wtop L-n=(k:Int)) (hlt:k<1024):(W (k/64)).testBit (k%64)=decide (n∈L):=by
 rw [Bts.at h k hlt]
 unfold wsee
 rw [← hk]
 exact decide_eq_decide.2 (by rw [show wtop L-(wtop L-n)=n by omega])
theorem shr64 (x e:Nat) (he:e≤64):(x:Int)/2^min ((e:Nat):Int).toNat IntKind.u64.bits=((x/2^e:Nat):Int):=by
 have h1:min ((e:Nat):Int).toNat IntKind.u64.bits=e:=by
  show min ((e:Nat):Int).toNat 64=e
  omega
 rw [h1]
 norm_cast
theorem shl64 (x e:Nat) (he:e≤64):IntKind.u64.wrap ((x:Int)*2^min ((e:Nat):Int).toNat IntKind.u64.bits)=((x*2^e%2^64:Nat):Int):=by
 have h1:min ((e:Nat):Int).toNat IntKind.u64.bits=e:=by
  show min ((e:Nat):Int).toNat 64=e
  omega
 rw [h1,show (x:Int)*2^e=((x*2^e:Nat):Int) by norm_cast,IntKind.wrap_u64]
 omega
theorem and64 (x y:Nat) (hx:x<2^64) (hy:y<2^64):bits .and .u64 (x:Int) (y:Int)=((x &&& y:Nat):Int):=by
 have key:(BitVec.ofInt 64 (x:Int) &&& BitVec.ofInt 64 (y:Int)).toNat=x &&& y:=by
  rw [BitVec.toNat_and,BitVec.toNat_ofInt,BitVec.toNat_ofInt,show ((x:Int)%((2^64:Nat):Int)).toNat=x by omega,show ((y:Int)%((2^64:Nat):Int)).toNat=y by omega]
 show IntKind.u64.wrap ((BitVec.ofInt 64 (x:Int) &&& BitVec.ofInt 64 (y:Int)).toNat:Nat)=_
 rw [key,IntKind.wrap_u64]
 have:=Nat.and_lt_two_pow x hy
 omega
theorem or64 (x y:Nat) (hx:x<2^64) (hy:y<2^64):bits .or .u64 (x:Int) (y:Int)=((x ||| y:Nat):Int):=by
 have key:(BitVec.ofInt 64 (x:Int) ||| BitVec.ofInt 64 (y:Int)).toNat=x ||| y:=by
  rw [BitVec.toNat_or,BitVec.toNat_ofInt,BitVec.toNat_ofInt,show ((x:Int)%((2^64:Nat):Int)).toNat=x by omega,show ((y:Int)%((2^64:Nat):Int)).toNat=y by omega]
 show IntKind.u64.wrap ((BitVec.ofInt 64 (x:Int) ||| BitVec.ofInt 64 (y:Int)).toNat:Nat)=_
 rw [key,IntKind.wrap_u64]
 have:=Nat.or_lt_two_pow hx hy
 omega
theorem bit64 (x e:Nat) (hx:x<2^64):bits .and .u64 ((x/2^e:Nat):Int) 1=(if x.testBit e then 1 else 0):=by
 rw [show (1:Int)=((1:Nat):Int) from rfl,and64 _ 1 (Nat.lt_of_le_of_lt (Nat.div_le_self _ _) hx) (by decide),Nat.and_one_is_mod]
 rw [Nat.testBit_eq_decide_div_mod_eq]
 by_cases h:x/2^e%2=1
 · rw [h,decide_eq_true rfl]; rfl
 · rw [decide_eq_false h,show x/2^e%2=0 by omega]; rfl
section
section
variable {P:Program} {ops:Array Oper} {Q:Exit→Act→World→Prop} {md:Region.Mode} {S S2:World→Prop} {c:Nat}
theorem readC {i:Nat} {oi oc:Oper} (dst:Option Tmp) (hdst:oi.dst=dst) {n:Nat} {l:Array Bool} {a:Act} {w:World} (v:Value) (hi:ops[i]?=some oi) (hc:ops[c]?=some oc) (hwait:(oc.after.any fun e=>Region.binds md e&&e.on == i)=true)
 (hw:Region.wanted oi (yielded ops a.tmps)=true) (hv:∀ w,S w→(execOp a.eval oi).run P w=.ok (.value v) w)
 (hs:Region.noSelect ops=true) (hf:Region.free md ops l i=true) (hl:l.getD c true=false) (hr:(Region.ready md ops l).contains i=true)
 (hQ:∀ p a w,Q (.panic p) (a.put dst v) w→Q (.panic p) a w) (hS:S w)
 (h:wpAnyC P md ops Q S c n (l.setIfInBounds i true) (a.put dst v) w):wpAnyC P md ops Q S c (n+1) l a w:=by
 subst hdst
 exact wpAnyC_take hi hc hwait hs hf hl hr hQ (.inl ⟨hw,hv⟩) hS h
theorem skipC (dst:Option Tmp) {oc:Oper} (hdst:oc.dst=dst) {n:Nat} {l:Array Bool} {a:Act} {w w':World} (hr:Region.ready md ops l=[c]) (hi:ops[c]?=some oc)
 (hw:Region.wanted oc (yielded ops a.tmps)=true) (he:(execOp a.eval oc).run P w=.ok .skip w') (hl:(l.setIfInBounds c true).getD c true=true)
 (h:wpAnyH P md ops Q S2 n (l.setIfInBounds c true) (a.put dst undef) w'):wpAnyC P md ops Q S c (n+1) l a w :=
 ⟨fun h0=>(by rw [h0] at hr; cases hr),fun j hj=>by
  rw [hr] at hj
  obtain rfl:=xm1 hj
  unfold wpOp
  simp only [hi,hw,if_true]; refine .inl ?_
  unfold Oper.wp
  rw [he]
  subst hdst
  exact ⟨fun hf=>(by rw [hl] at hf; cases hf),wpAnyC_rest n _ _ _ hl (wpAny_of_held n _ _ _ h)⟩⟩
end
end
def wcv (T:Int) (W:Nat→Nat):List Value:=.int .i64 (T+1)::row .u64 16 (fun i=>(W i:Int))
theorem wcv_len (T:Int) (W:Nat→Nat):(wcv T W).length=17:=by unfold wcv; rw [List.length_cons,row_length]
theorem wcv_get (T:Int) (W:Nat→Nat) (i:Nat) (h:i<16):(wcv T W)[1+i]?=some (.int .u64 (W i:Int)):=by
 unfold wcv
 rw [Nat.add_comm,List.getElem?_cons_succ]
 exact row_get .u64 16 _ i h
theorem row_put (k:IntKind) (n:Nat) (f:Nat→Int) (i:Nat) (v:Int):(row k n f).set i (.int k v)=row k n (fun j=>if j=i then v else f j):=by
 refine List.ext_getElem? fun j=>?_
 rw [List.getElem?_set]
 by_cases hj:j<n
 · rw [row_get k n _ j hj,row_get k n _ j hj,row_length]
   by_cases e:i=j
   · rw [if_pos e,if_pos (by omega),if_pos e.symm]
   · rw [if_neg e,if_neg (fun h=>e h.symm)]
 · rw [List.getElem?_eq_none (by rw [row_length]; omega),List.getElem?_eq_none (by rw [row_length]; omega),row_length]
   split
   · rw [if_neg (by omega)]
   · rfl
theorem row_nat (n:Nat) (W:Nat→Nat) (i v:Nat):row .u64 n (fun j=>if j=i then ((v:Nat):Int) else (W j:Int))=row .u64 n (fun j=>((if j=i then v else W j:Nat):Int)):=row_congr _ _ fun j _=>by split <;> rfl
theorem wcv_set (T:Int) (W:Nat→Nat) (i v:Nat):(wcv T W).set (1+i) (.int .u64 (v:Int))=wcv T (fun j=>if j=i then v else W j):=by
 unfold wcv
 rw [Nat.add_comm,List.set_cons_succ,row_put,row_nat]
theorem wcv_setA (T:Int) (W V:Nat→Nat):setL (wcv T W) 1 (row .u64 16 (fun i=>(V i:Int)))=wcv T V:=by
 have h:=setL_pre [.int .i64 (T+1)] (row .u64 16 (fun i=>(V i:Int))) (row .u64 16 (fun i=>(W i:Int))) 0; have h2:=setL_left (row .u64 16 (fun i=>(V i:Int))) (row .u64 16 (fun i=>(W i:Int))) [] (by rw [row_length,row_length])
 rw [List.append_nil,List.append_nil] at h2
 rw [h2] at h
 exact h
theorem wcv_congr {T:Int} {W V:Nat→Nat} (h:∀ i,i<16→W i=V i):wcv T W=wcv T V:=by
 unfold wcv
 rw [row_congr .u64 16 (fun j hj=>by rw [h j hj])]
theorem quo64 (k:Nat) (hk:k≤562949953421312):IntKind.i64.wrap ((k:Int).tdiv 64)=((k/64:Nat):Int):=by
 rw [Int.tdiv_eq_ediv_of_nonneg (by omega),xw6]
 omega
theorem rem64 (k:Nat):(k:Int).tmod 64=((k%64:Nat):Int):=by
 rw [Int.tmod_eq_emod_of_nonneg (by omega)]
 omega
def ib (b:Bool):Int:=if b then 1 else 0
theorem ib_eq (b:Bool):(ib b == 1)=b:=by cases b <;> rfl
theorem ib64 (x e:Nat) (hx:x<2^64):bits .and .u64 ((x/2^e:Nat):Int) 1=ib (x.testBit e):=bit64 x e hx
theorem vtop14_any (w0 w:World) (R:Nat) (l:List (Nat × List Value)) (T:Int) (W:Nat→Nat) (hT1:-1≤T) (hT2:T≤281474976710655) (M:Mm w0 ((R,wcv T W)::l) w) :
 Calls Tryz.prog 65 #[.pointer (some ⟨R,0,none⟩)] w fun e w'=>e=.returned (.int .i64 T)∧Below w.heap.size w w':=by
 have hB:=Below.refl w.heap.size w
 go_enter Tryz.func65,Tryz.ntmps65
 go_upto_region 0 with fail; refine wp_region_list ?_; refine xpL (.int .i64 0) ?_; refine xT ?_; go_upto_region 1 with fail; refine wp_region_list ?_; refine xpL (.pointer (some ⟨R,0,none⟩)) ?_; refine xpL (.pointer (some ⟨R,0,none⟩)) ?_; refine xpL (.pointer (some ⟨R,0,none⟩)) ?_
 refine xaL (.int .i64 (T+1)) (load1 3 _ ⟨R,0,none⟩ _ rfl rfl (fun _=>by kernel_rfl) (M.get mS 0 _ rfl)) ?_; refine xaL (.int .i64 T) (subI .i64 _ _ _ _ _ _ _ rfl rfl rfl (by rw [xw6]; omega) _) ?_; refine xpL (.int .i64 T) ?_; refine xT ?_; have HS:=show Hid _ from hB; clear M hB; go_wp2; go_ret
 exact ⟨rfl,HS.out⟩
theorem vplace_any (w0 w:World) (R:Nat) (l:List (Nat × List Value)) (T:Int) (W:Nat→Nat) (hT1:-1≤T) (hT2:T≤281474976710655) (n:Int) (k:Nat) (hk:T-n=(k:Int)) (hk2:k<1024) (M:Mm w0 ((R,wcv T W)::l) w) :
 Calls Tryz.prog 69 #[.pointer (some ⟨R,0,none⟩),.int .i64 n] w fun e w'=>e=.returned (.tuple #[.int .i64 ((k/64:Nat):Int),.int .i64 ((k%64:Nat):Int)])∧Below w.heap.size w w':=by
 have hB:=Below.refl w.heap.size w
 go_enter Tryz.func69,Tryz.ntmps69
 go_upto_region 0 with fail; refine wp_region_list ?_; refine xpL (.int .i64 0) ?_; refine xpL (.int .i64 0) ?_; refine xT ?_; go_upto_region 1 with fail; refine wp_region_list ?_; refine xpL (.pointer (some ⟨R,0,none⟩)) ?_; refine xcL (vtop14_any w0 _ R _ T W hT1 hT2 M) ?_; rintro e w1 ⟨rfl,l1⟩; replace M:=M.call l1; replace hB:=hB.trans (l1.mono hB.size); clear l1; refine xeL ?_
 refine xpL (.int .i64 n) ?_; refine xaL (.int .i64 ((k:Nat):Int)) (subI .i64 _ _ _ _ _ _ _ rfl rfl rfl (by rw [hk,xw6]; omega) _) ?_; refine xpL (.int .i64 ((k:Nat):Int)) ?_; refine xT ?_; go_upto_region 2 with fail; refine wp_region_list ?_; refine xpL (.int .i64 ((k:Nat):Int)) ?_
 refine xaL (.int .i64 ((k/64:Nat):Int)) (quoI .i64 _ _ _ _ _ _ _ rfl rfl rfl (by decide) (quo64 k (by omega)) _) ?_; refine xpL (.int .i64 ((k:Nat):Int)) ?_; refine xaL (.int .i64 ((k%64:Nat):Int)) (remI .i64 _ _ _ _ _ _ _ rfl rfl rfl (by decide) (rem64 k) _) ?_; refine xpL (.int .i64 ((k/64:Nat):Int)) ?_; refine xpL (.int .i64 ((k%64:Nat):Int)) ?_; refine xT ?_
 have HS:=show Hid _ from hB; clear M hB; go_wp2; go_ret2
 exact ⟨rfl,HS.out⟩
theorem vmarked_any (w0 w:World) (R:Nat) (l:List (Nat × List Value)) (T:Int) (W:Nat→Nat) (hT1:-1≤T) (hT2:T≤281474976710655) (hW:∀ i,i<16→W i<2^64) (n:Int) (k:Nat) (hk:T-n=(k:Int)) (hk2:k<1024) (b:Bool) (hb:(W (k/64)).testBit (k%64)=b) (M:Mm w0 ((R,wcv T W)::l) w) :
 Calls Tryz.prog 66 #[.pointer (some ⟨R,0,none⟩),.int .i64 n] w fun e w'=>e=.returned (.bool b)∧Below w.heap.size w w':=by
 have hB:=Below.refl w.heap.size w
 go_enter Tryz.func66,Tryz.ntmps66
 go_upto_region 0 with fail; refine wp_region_list ?_; refine xpL (.bool false) ?_; refine xT ?_; go_upto_region 1 with fail; refine wp_region_list ?_; refine xpL (.pointer (some ⟨R,0,none⟩)) ?_; refine xpL (.int .i64 n) ?_; refine xcL (vplace_any w0 _ R _ T W hT1 hT2 n k hk hk2 M) ?_; rintro e w1 ⟨rfl,l1⟩; replace M:=M.call l1; replace hB:=hB.trans (l1.mono hB.size); clear l1
 refine xeL ?_; refine xpL (.tuple #[.int .i64 ((k/64:Nat):Int),.int .i64 ((k%64:Nat):Int)]) ?_; refine xpL (.int .i64 ((k/64:Nat):Int)) ?_; refine xpL (.int .i64 ((k%64:Nat):Int)) ?_; refine xpL (.int .i64 ((k/64:Nat):Int)) ?_; refine xpL (.int .i64 ((k%64:Nat):Int)) ?_; refine xT ?_; go_upto_region 2 with fail; refine wp_region_list ?_
 refine xpL (.pointer (some ⟨R,0,none⟩)) ?_; refine xpL (.int .i64 ((k/64:Nat):Int)) ?_; refine xpL (.pointer (some ⟨R,0,none⟩)) ?_; refine xpL (.pointer (some ⟨R,1,none⟩)) ?_; refine xaL (.pointer (some ⟨R,1+(k/64),none⟩)) (idxArr 120 107 16 .i64 R 1 (k/64) _ _ Tryz.underlying120 (fun _=>by kernel_rfl) (by omega) rfl rfl rfl _) ?_
 refine readL (.int .u64 ((W (k/64):Nat):Int)) rfl (load1 107 _ ⟨R,1+(k/64),none⟩ _ rfl rfl (fun _=>by kernel_rfl) (M.get mS _ _ (wcv_get T W (k/64) (by omega)))) ?_; simp only [aP,lI,l0,lS]; refine xpL (.int .i64 ((k%64:Nat):Int)) ?_
 refine readL (.int .u64 ((W (k/64)/2^(k%64):Nat):Int)) rfl (shrI .u64 .i64 _ _ _ _ _ _ _ rfl rfl rfl (by omega) (shr64 _ _ (by omega)) _) ?_; simp only [aP,lI,l0,lS]; refine readL (.int .u64 (ib ((W (k/64)).testBit (k%64)))) rfl (vandI .u64 _ _ _ _ _ _ _ rfl rfl rfl (ib64 _ _ (hW _ (by omega))) _) ?_; simp only [aP,lI,l0,lS]
 refine xaL (.bool b) (eqlI .u64 _ _ _ _ _ _ rfl rfl rfl b (by rw [ib_eq]; exact hb) _) ?_; refine xpL (.bool b) ?_; refine xT ?_; have HS:=show Hid _ from hB; clear M hB; go_wp2; go_ret
 exact ⟨rfl,HS.out⟩
theorem wck_arg {L:List Int} {n:Int} (h:n<0∨281474976710655<n):wchk L n=1:=if_pos h
theorem wck_old {L:List Int} {n:Int} (h:¬ (n<0∨281474976710655<n)) (h2:n≤wtop L-1024∨n∈L):wchk L n=140:=by unfold wchk; rw [if_neg h,if_pos h2]
theorem wck_new {L:List Int} {n:Int} (h:¬ (n<0∨281474976710655<n)) (h2:¬ (n≤wtop L-1024∨n∈L)):wchk L n=0:=by unfold wchk; rw [if_neg h,if_neg h2]
theorem vcheck14_any (w0 w:World) (R:Nat) (l:List (Nat × List Value)) (L:List Int) (W:Nat→Nat) (hL:WinL L) (hW:Wds W L) (n:Int) (hn:i64 n) (M:Mm w0 ((R,wcv (wtop L) W)::l) w) :
 Calls Tryz.prog 48 #[.pointer (some ⟨R,0,none⟩),.int .i64 n] w fun e w'=>e=.returned (.int .i64 (wchk L n))∧Below w.heap.size w w':=by
 have hB:=Below.refl w.heap.size w
 go_enter Tryz.func48,Tryz.ntmps48
 have hT1:=wtop_ge L; have hT2:=wtop_max hL
 unfold i64 at hn
 go_upto_region 0 with fail; refine wp_region_list ?_; refine xpL (.int .i64 0) ?_; refine xT ?_
 by_cases h1:n<0
 · go_upto_region 1 with fail
   refine wp_region_list ?_; refine xpL (.int .i64 n) ?_; refine xaL (.bool true) (lssI .i64 _ _ _ _ _ _ rfl rfl rfl true (decide_eq_true (by omega)) _) ?_; refine xpL (.bool true) ?_
   with_reducible refine skipL ?_ ?_
   · rfl
   simp only [aP,lI,l0,lS]
   with_reducible refine skipL ?_ ?_
   · rfl
   simp only [aP,lI,l0,lS]; refine xpL (.bool true) ?_; refine xpL (.bool true) ?_; refine xT ?_; go_upto_region 2 with fail; refine wp_region_list ?_; refine xpL (.int .i64 1) ?_; refine xT ?_; have hk_:=show Hid _ from (wck_arg (L:=L) (.inl h1)); have HS:=show Hid _ from hB; clear M hB hW hL; go_wp2; go_ret
   exact ⟨by rw [hk_.out]; rfl,HS.out⟩
 · by_cases h2:281474976710655<n
   · go_upto_region 1 with fail
     refine wp_region_list ?_; refine xpL (.int .i64 n) ?_; refine xaL (.bool false) (lssI .i64 _ _ _ _ _ _ rfl rfl rfl false (decide_eq_false (by omega)) _) ?_; refine xpL (.bool false) ?_; refine xpL (.int .i64 n) ?_; refine xaL (.bool true) (gtrI .i64 _ _ _ _ _ _ rfl rfl rfl true (decide_eq_true (by omega)) _) ?_; refine xpL (.bool true) ?_; refine xpL (.bool true) ?_; refine xT ?_
     go_upto_region 2 with fail; refine wp_region_list ?_; refine xpL (.int .i64 1) ?_; refine xT ?_; have hk_:=show Hid _ from (wck_arg (L:=L) (.inr h2)); have HS:=show Hid _ from hB; clear M hB hW hL; go_wp2; go_ret
     exact ⟨by rw [hk_.out]; rfl,HS.out⟩
   · go_upto_region 1 with fail
     refine wp_region_list ?_; refine xpL (.int .i64 n) ?_; refine xaL (.bool false) (lssI .i64 _ _ _ _ _ _ rfl rfl rfl false (decide_eq_false (by omega)) _) ?_; refine xpL (.bool false) ?_; refine xpL (.int .i64 n) ?_; refine xaL (.bool false) (gtrI .i64 _ _ _ _ _ _ rfl rfl rfl false (decide_eq_false (by omega)) _) ?_; refine xpL (.bool false) ?_; refine xpL (.bool false) ?_; refine xT ?_
     by_cases h3:n>wtop L
     · go_upto_region 3 with fail
       refine wp_region_list ?_; refine xpL (.int .i64 n) ?_; refine xpL (.pointer (some ⟨R,0,none⟩)) ?_; refine xcL (vtop14_any w0 _ R _ (wtop L) W hT1 hT2 M) ?_; rintro e w1 ⟨rfl,l1⟩; replace M:=M.call l1; replace hB:=hB.trans (l1.mono hB.size); clear l1; refine xeL ?_; refine xaL (.bool true) (gtrI .i64 _ _ _ _ _ _ rfl rfl rfl true (decide_eq_true (by omega)) _) ?_
       refine xpL (.bool true) ?_; refine xT ?_; go_upto_region 4 with fail; refine wp_region_list ?_; refine xpL (.int .i64 0) ?_; refine xT ?_; have hk_:=show Hid _ from (wck_new (L:=L) (n:=n) (by omega) (fun h=>h.elim (fun h=>by omega) (fun h=>by have:=wtop_le h; omega))); have HS:=show Hid _ from hB; clear M hB hW hL; go_wp2; go_ret
       exact ⟨by rw [hk_.out]; rfl,HS.out⟩
     · go_upto_region 3 with fail
       refine wp_region_list ?_; refine xpL (.int .i64 n) ?_; refine xpL (.pointer (some ⟨R,0,none⟩)) ?_; refine xcL (vtop14_any w0 _ R _ (wtop L) W hT1 hT2 M) ?_; rintro e w2 ⟨rfl,l1⟩; replace M:=M.call l1; replace hB:=hB.trans (l1.mono hB.size); clear l1; refine xeL ?_; refine xaL (.bool false) (gtrI .i64 _ _ _ _ _ _ rfl rfl rfl false (decide_eq_false (by omega)) _) ?_
       refine xpL (.bool false) ?_; refine xT ?_
       by_cases h4:n≤wtop L-1024
       · go_upto_region 5 with fail
         refine wp_region_list ?_; refine xpL (.int .i64 n) ?_; refine xpL (.pointer (some ⟨R,0,none⟩)) ?_; refine xcL (vtop14_any w0 _ R _ (wtop L) W hT1 hT2 M) ?_; rintro e w3 ⟨rfl,l1⟩; replace M:=M.call l1; replace hB:=hB.trans (l1.mono hB.size); clear l1; refine xeL ?_; refine xaL (.int .i64 ((wtop L)-1024)) (subI .i64 _ _ _ _ _ _ _ rfl rfl rfl (by rw [xw6]; omega) _) ?_
         refine xaL (.bool true) (leqI .i64 _ _ _ _ _ _ rfl rfl rfl true (decide_eq_true (by omega)) _) ?_; refine xpL (.bool true) ?_
         with_reducible refine skipL ?_ ?_
         · rfl
         simp only [aP,lI,l0,lS]
         with_reducible refine skipL ?_ ?_
         · rfl
         simp only [aP,lI,l0,lS]
         with_reducible refine skipL ?_ ?_
         · rfl
         simp only [aP,lI,l0,lS]; refine xpL (.bool true) ?_; refine xpL (.bool true) ?_; refine xT ?_; go_upto_region 6 with fail; refine wp_region_list ?_; refine xpL (.int .i64 140) ?_; refine xT ?_; have hk_:=show Hid _ from (wck_old (L:=L) (n:=n) (by omega) (.inl h4)); have HS:=show Hid _ from hB; clear M hB hW hL; go_wp2; go_ret
         exact ⟨by rw [hk_.out]; rfl,HS.out⟩
       · have hk:wtop L-n=((wtop L-n).toNat:Int):=by omega
         by_cases hm:n∈L
         · go_upto_region 5 with fail
           refine wp_region_list ?_; refine xpL (.int .i64 n) ?_; refine xpL (.pointer (some ⟨R,0,none⟩)) ?_; refine xcL (vtop14_any w0 _ R _ (wtop L) W hT1 hT2 M) ?_; rintro e w4 ⟨rfl,l1⟩; replace M:=M.call l1; replace hB:=hB.trans (l1.mono hB.size); clear l1; refine xeL ?_; refine xaL (.int .i64 ((wtop L)-1024)) (subI .i64 _ _ _ _ _ _ _ rfl rfl rfl (by rw [xw6]; omega) _) ?_
           refine xaL (.bool false) (leqI .i64 _ _ _ _ _ _ rfl rfl rfl false (decide_eq_false (by omega)) _) ?_; refine xpL (.bool false) ?_; refine xpL (.pointer (some ⟨R,0,none⟩)) ?_; refine xpL (.int .i64 n) ?_; refine xcL (vmarked_any w0 _ R _ (wtop L) W hT1 hT2 hW.lt n (wtop L-n).toNat hk (by omega) true ((hW.at hk (by omega)).trans (decide_eq_true hm)) M) ?_; rintro e w5 ⟨rfl,l1⟩
           replace M:=M.call l1; replace hB:=hB.trans (l1.mono hB.size); clear l1; refine xeL ?_; refine xpL (.bool true) ?_; refine xpL (.bool true) ?_; refine xT ?_; go_upto_region 6 with fail; refine wp_region_list ?_; refine xpL (.int .i64 140) ?_; refine xT ?_; have hk_:=show Hid _ from (wck_old (L:=L) (n:=n) (by omega) (.inr hm)); have HS:=show Hid _ from hB; clear M hB hW hL
           go_wp2; go_ret
           exact ⟨by rw [hk_.out]; rfl,HS.out⟩
         · go_upto_region 5 with fail
           refine wp_region_list ?_; refine xpL (.int .i64 n) ?_; refine xpL (.pointer (some ⟨R,0,none⟩)) ?_; refine xcL (vtop14_any w0 _ R _ (wtop L) W hT1 hT2 M) ?_; rintro e w6 ⟨rfl,l1⟩; replace M:=M.call l1; replace hB:=hB.trans (l1.mono hB.size); clear l1; refine xeL ?_; refine xaL (.int .i64 ((wtop L)-1024)) (subI .i64 _ _ _ _ _ _ _ rfl rfl rfl (by rw [xw6]; omega) _) ?_
           refine xaL (.bool false) (leqI .i64 _ _ _ _ _ _ rfl rfl rfl false (decide_eq_false (by omega)) _) ?_; refine xpL (.bool false) ?_; refine xpL (.pointer (some ⟨R,0,none⟩)) ?_; refine xpL (.int .i64 n) ?_; refine xcL (vmarked_any w0 _ R _ (wtop L) W hT1 hT2 hW.lt n (wtop L-n).toNat hk (by omega) false ((hW.at hk (by omega)).trans (decide_eq_false hm)) M) ?_; rintro e w7 ⟨rfl,l1⟩
           replace M:=M.call l1; replace hB:=hB.trans (l1.mono hB.size); clear l1; refine xeL ?_; refine xpL (.bool false) ?_; refine xpL (.bool false) ?_; refine xT ?_; go_upto_region 7 with fail; refine wp_region_list ?_; refine xpL (.int .i64 0) ?_; refine xT ?_; have hk_:=show Hid _ from (wck_new (L:=L) (n:=n) (by omega) (fun h=>h.elim h4 hm)); have HS:=show Hid _ from hB
           clear M hB hW hL; go_wp2; go_ret
           exact ⟨by rw [hk_.out]; rfl,HS.out⟩
def VI (v:Value) (L:List Int) (bs:List (Nat × List Value)):Prop:=∃ R W,v=.pointer (some ⟨R,0,none⟩)∧Wds W L∧bs=[(R,wcv (wtop L) W)]
def fset (V:Nat→Nat) (j v i:Nat):Nat:=if i=j then v else V i
theorem fset_same (V:Nat→Nat) (j v:Nat):fset V j v j=v:=if_pos rfl
theorem row_fset (n:Nat) (V:Nat→Nat) (j v:Nat):(row .u64 n (fun i=>(V i:Int))).set (0+j) (.int .u64 ((v:Nat):Int))=row .u64 n (fun i=>(fset V j v i:Int)):=by
 rw [Nat.zero_add,row_put,row_nat]
 rfl
theorem row_at (n:Nat) (V:Nat→Nat) (j v:Nat) (hj:j<n) (hv:V j=v):(row .u64 n (fun i=>(V i:Int)))[0+j]?=some (.int .u64 ((v:Nat):Int)):=by
 rw [Nat.zero_add,row_get .u64 n _ j hj,hv]
def mvd (W:Nat→Nat) (d j i:Nat):Nat:=if i<j then wst W d i else 0
theorem mvd_next (W:Nat→Nat) (d j:Nat) (V:Nat→Nat) (hV:∀ i,i<16→V i=if i=j then wst W d j else mvd W d j i):∀ i,i<16→(V i:Int)=((mvd W d (j+1) i:Nat):Int):=fun i hi=>by
 rw [hV i hi]
 unfold mvd
 by_cases e:i=j
 · subst e
   rw [if_pos rfl,if_pos (by omega)]
 · rw [if_neg e]
   by_cases h:i<j
   · rw [if_pos h,if_pos (by omega)]
   · rw [if_neg h,if_neg (by omega)]
theorem mvd_fset (W:Nat→Nat) (d j v:Nat):∀ i,i<16→fset (fset (mvd W d j) j v) j (wst W d j) i=if i=j then wst W d j else mvd W d j i:=fun i _=>by
 unfold fset
 split <;> rfl
theorem mvd_end (W:Nat→Nat) (d:Nat):∀ i,i<16→mvd W d 16 i=wst W d i:=fun i hi=>by unfold mvd; rw [if_pos hi]
theorem wst_none (W:Nat→Nat) (d j:Nat) (h:j<d/64):wst W d j=0:=by unfold wst wup wdn; rw [if_neg (by omega),if_neg (by omega)]; rfl
theorem wst_up (W:Nat→Nat) (d j:Nat) (h:j=d/64):wst W d j=W (j-d/64)*2^(d%64)%2^64:=by
 unfold wst wup wdn
 rw [if_pos (by omega),if_neg (by omega),Nat.or_zero]
theorem wst_both (W:Nat→Nat) (d j:Nat) (h:d/64<j):wst W d j=W (j-d/64)*2^(d%64)%2^64 ||| W (j-d/64-1)/2^(64-d%64):=by
 unfold wst wup wdn
 rw [if_pos (by omega),if_pos h]
theorem vrise_any (w0 w:World) (R:Nat) (l:List (Nat × List Value)) (T:Int) (W:Nat→Nat) (hT1:-1≤T) (hT2:T≤281474976710655) (f:Nat→Bool) (hW:Bts W f) (n:Int) (d:Nat) (hd:n-T=(d:Int)) (hd1:1≤d) (hn:n≤281474976710655) (M:Mm w0 ((R,wcv T W)::l) w) :
 Calls Tryz.prog 68 #[.pointer (some ⟨R,0,none⟩),.int .i64 n] w fun e w'=>e=.returned (.tuple #[])∧Mm w0 ((R,wcv n (wst W d))::l) w'∧Off [R] w w':=by
 go_enter Tryz.func68,Tryz.ntmps68
 have OF:=Off.refl [R] w; go_upto_region 0 with fail; refine wp_region_list ?_; refine xpL (.int .i64 n) ?_; refine xpL (.pointer (some ⟨R,0,none⟩)) ?_; refine xcL (vtop14_any w0 _ R _ T W hT1 hT2 M) ?_; rintro e w1 ⟨rfl,l1⟩; replace M:=M.call l1; replace OF:=OF.below l1; clear l1; refine xeL ?_
 refine xaL (.int .i64 ((d:Nat):Int)) (subI .i64 _ _ _ _ _ _ _ rfl rfl rfl (by rw [hd,xw6]; omega) _) ?_; refine xaL (.int .i64 ((d/64:Nat):Int)) (quoI .i64 _ _ _ _ _ _ _ rfl rfl rfl (by decide) (quo64 d (by omega)) _) ?_; refine xpL (.int .i64 n) ?_; refine xpL (.pointer (some ⟨R,0,none⟩)) ?_; refine xcL (vtop14_any w0 _ R _ T W hT1 hT2 M) ?_; rintro e w2 ⟨rfl,l1⟩
 replace M:=M.call l1; replace OF:=OF.below l1; clear l1; refine xeL ?_; refine xaL (.int .i64 ((d:Nat):Int)) (subI .i64 _ _ _ _ _ _ _ rfl rfl rfl (by rw [hd,xw6]; omega) _) ?_; refine xaL (.int .i64 ((d%64:Nat):Int)) (remI .i64 _ _ _ _ _ _ _ rfl rfl rfl (by decide) (rem64 d) _) ?_; refine xpL (.int .i64 ((d/64:Nat):Int)) ?_; refine xpL (.int .i64 ((d%64:Nat):Int)) ?_
 refine xT ?_; go_upto_region 1 with fail; refine wp_region_list ?_; have hlb:=(Below.refl w2.heap.size w2).alloc (xnR _) (.cells zu64_16 120); refine actL (w':=w2.alloc (.cells zu64_16 120)) (.pointer (some ⟨w2.heap.size,0,none⟩)) rfl (by kernel_rfl) ?_; simp only [aP,lI,l0,lS]; have hBz0:=OF.size; replace OF:=OF.below hlb; replace M:=M.box zu64_16 120 w2.heap.size rfl; clear hlb
 generalize w2.alloc (.cells zu64_16 120)=w3 at M OF ⊢; generalize eB:w2.heap.size=B at M hBz0 ⊢
 have hBz:w.heap.size≤B:=hBz0
 clear eB hBz0
 replace M:Mm w0 ((B,row .u64 16 (fun i=>((mvd W d 0 i:Nat):Int)))::(R,wcv T W)::l) w3:=M
 refine xT ?_; go_upto_region 2 with fail; refine wp_region_list ?_; refine xpL (.int .i64 0) ?_; refine xT ?_; have HI:=show Hid _ from (And.intro M OF); clear M OF; go_wp2
 go_loopw [18] (fun i w'=>∃ j:Nat,j≤16∧i=.int .i64 (j:Int)∧Mm w0 ((B,row .u64 16 (fun i=>((mvd W d j i:Nat):Int)))::(R,wcv T W)::l) w'∧Off [R] w w') (fun i _=>16-(intOf i).toNat)
 case atStart=>exact ⟨0,Nat.zero_le _,rfl,HI.out⟩
 case round =>
  clear HI
  obtain ⟨j,hj,rfl,M,OF⟩:=hrel
  by_cases hlt:j<16
  · go_upto_region 3 with fail
    refine wp_region_list ?_; refine xaL (.bool true) (lssI .i64 _ _ _ _ _ _ rfl rfl rfl true (decide_eq_true (by omega)) _) ?_; refine xT ?_; go_upto_region 4 with fail; refine wp_region_list ?_; refine xpL (.int .i64 (j:Int)) ?_; refine xpL (.int .i64 (j:Int)) ?_; refine xT ?_
    by_cases h1:j<d/64
    · go_upto_region 5 with fail
      refine wp_region_list ?_; refine xpL (.int .i64 (j:Int)) ?_; refine xpL (.int .i64 ((d/64:Nat):Int)) ?_; refine xaL (.bool false) (geqI .i64 _ _ _ _ _ _ rfl rfl rfl false (decide_eq_false (by omega)) _) ?_; refine xT ?_; go_upto_region 7 with fail; refine wp_region_list ?_; refine xpL (.int .i64 (j:Int)) ?_; refine xpL (.int .i64 ((d/64:Nat):Int)) ?_
      refine xaL (.bool false) (gtrI .i64 _ _ _ _ _ _ rfl rfl rfl false (decide_eq_false (by omega)) _) ?_; refine xT ?_
      have hrow:=row_congr .u64 16 (mvd_next W d j (mvd W d j) (fun i _=>by
       by_cases e:i=j
       · rw [if_pos e,wst_none W d j h1,e]; exact if_neg (by omega)
       · rw [if_neg e]))
      rw [hrow] at M
      have HS:=show Hid _ from (And.intro M OF); clear M OF hW hrow; go_wp2
      go_roundw
      case rel=>exact ⟨j+1,by omega,by go_num,HS.out⟩
      case measure=>simp [intOf]; omega
    · go_upto_region 5 with fail
      refine wp_region_list ?_; refine xpL (.int .i64 (j:Int)) ?_; refine xpL (.int .i64 ((d/64:Nat):Int)) ?_; refine xaL (.bool true) (geqI .i64 _ _ _ _ _ _ rfl rfl rfl true (decide_eq_true (by omega)) _) ?_; refine xT ?_; go_upto_region 6 with fail; refine wp_region_list ?_; refine xpL (.int .i64 (j:Int)) ?_; refine xpL (.pointer (some ⟨R,0,none⟩)) ?_
      refine xpL (.int .i64 (j:Int)) ?_; refine xpL (.int .i64 ((d/64:Nat):Int)) ?_; refine xaL (.int .i64 ((j-d/64:Nat):Int)) (subI .i64 _ _ _ _ _ _ _ rfl rfl rfl (by rw [xw6]; omega) _) ?_; refine xpL (.pointer (some ⟨R,0,none⟩)) ?_; refine xpL (.pointer (some ⟨R,1,none⟩)) ?_
      refine xaL (.pointer (some ⟨R,1+(j-d/64),none⟩)) (idxArr 120 107 16 .i64 R 1 (j-d/64) _ _ Tryz.underlying120 (fun _=>by kernel_rfl) (by omega) rfl rfl rfl _) ?_; refine readL (.int .u64 ((W (j-d/64):Nat):Int)) rfl (load1 107 _ ⟨R,1+(j-d/64),none⟩ _ rfl rfl (fun _=>by kernel_rfl) (M.get (mT _ mS) _ _ (wcv_get T W (j-d/64) (by omega)))) ?_
      simp only [aP,lI,l0,lS]; refine xpL (.int .i64 ((d%64:Nat):Int)) ?_; refine readL (.int .u64 ((W (j-d/64)*2^(d%64)%2^64:Nat):Int)) rfl (shlI .u64 .i64 _ _ _ _ _ _ _ rfl rfl rfl (by omega) (shl64 _ _ (by omega)) _) ?_; simp only [aP,lI,l0,lS]
      refine xaL (.pointer (some ⟨B,0+j,none⟩)) (idxArr 120 107 16 .i64 B 0 j _ _ Tryz.underlying120 (fun _=>by kernel_rfl) (by omega) rfl rfl rfl _) ?_; refine skipOpL rfl (storeAny (.int .u64 ((W (j-d/64)*2^(d%64)%2^64:Nat):Int)) B (0+j) 107 _ _ rfl rfl rfl rfl rfl (M.isSome mS _ (by rw [row_length]; omega)) (M.free mS _ (by rw [row_length]; omega)) (by kernel_rfl)) ?_
      simp only [Act.put]; replace M:=M.set (0+j) (by rw [row_length]; omega) (.int .u64 ((W (j-d/64)*2^(d%64)%2^64:Nat):Int))
      rw [row_fset] at M
      replace OF:=OF.and1 ((Off.refl [B] _).set (b:=B) mS (0+j) (.int .u64 ((W (j-d/64)*2^(d%64)%2^64:Nat):Int))) (.inr (by omega)); generalize wr.setCell ⟨B,0+j,none⟩ (.int .u64 ((W (j-d/64)*2^(d%64)%2^64:Nat):Int))=w4 at M OF ⊢; refine xT ?_
      by_cases h2:d/64<j
      · go_upto_region 7 with fail
        refine wp_region_list ?_; refine xpL (.int .i64 (j:Int)) ?_; refine xpL (.int .i64 ((d/64:Nat):Int)) ?_; refine xaL (.bool true) (gtrI .i64 _ _ _ _ _ _ rfl rfl rfl true (decide_eq_true (by omega)) _) ?_; refine xT ?_; go_upto_region 8 with fail
        refine wp_region_C (S:=fun w'=>Mm w0 ((B,row .u64 16 (fun i=>((fset (mvd W d j) j (W (j-d/64)*2^(d%64)%2^64) i:Nat):Int)))::(R,wcv T W)::l) w') 17 (by kernel_rfl) M.drew ?_; clear M; intro M; have hdr:=(Below.refl w4.heap.size w4).drew; replace OF:=OF.below hdr; clear hdr; generalize w4.drew=w5 at M OF ⊢
        refine readC (i:=0) (some 39) rfl (.int .i64 (j:Int)) rfl rfl (by kernel_rfl) rfl (fun _ M=>(by kernel_rfl)) (by kernel_rfl) (by kernel_rfl) (by kernel_rfl) (by kernel_rfl) (fun _ _ _ h=>h) M ?_; simp only [aP,lI,l0,lS]
        refine readC (i:=1) (some 40) rfl (.pointer (some ⟨B,0+j,none⟩)) rfl rfl (by kernel_rfl) rfl (fun _ M=>idxArr 120 107 16 .i64 B 0 j _ _ Tryz.underlying120 (fun _=>by kernel_rfl) (by omega) rfl rfl rfl _) (by kernel_rfl) (by kernel_rfl) (by kernel_rfl) (by kernel_rfl) (fun _ _ _ h=>h) M ?_; simp only [aP,lI,l0,lS]
        refine readC (i:=2) (some 41) rfl (.int .u64 ((W (j-d/64)*2^(d%64)%2^64:Nat):Int)) rfl rfl (by kernel_rfl) rfl (fun _ M=>load1 107 _ ⟨B,0+j,none⟩ _ rfl rfl (fun _=>by kernel_rfl) (M.get mS _ _ (row_at 16 _ j (W (j-d/64)*2^(d%64)%2^64) hlt (fset_same _ _ _)))) (by kernel_rfl) (by kernel_rfl) (by kernel_rfl) (by kernel_rfl) (fun _ _ _ h=>h) M ?_
        simp only [aP,lI,l0,lS]; refine readC (i:=3) (some 42) rfl (.pointer (some ⟨R,0,none⟩)) rfl rfl (by kernel_rfl) rfl (fun _ M=>(by kernel_rfl)) (by kernel_rfl) (by kernel_rfl) (by kernel_rfl) (by kernel_rfl) (fun _ _ _ h=>h) M ?_; simp only [aP,lI,l0,lS]
        refine readC (i:=4) (some 43) rfl (.int .i64 (j:Int)) rfl rfl (by kernel_rfl) rfl (fun _ M=>(by kernel_rfl)) (by kernel_rfl) (by kernel_rfl) (by kernel_rfl) (by kernel_rfl) (fun _ _ _ h=>h) M ?_; simp only [aP,lI,l0,lS]
        refine readC (i:=5) (some 44) rfl (.int .i64 ((d/64:Nat):Int)) rfl rfl (by kernel_rfl) rfl (fun _ M=>(by kernel_rfl)) (by kernel_rfl) (by kernel_rfl) (by kernel_rfl) (by kernel_rfl) (fun _ _ _ h=>h) M ?_; simp only [aP,lI,l0,lS]
        refine readC (i:=6) (some 45) rfl (.int .i64 ((j-d/64:Nat):Int)) rfl rfl (by kernel_rfl) rfl (fun _ M=>subI .i64 _ _ _ _ _ _ _ rfl rfl rfl (by rw [xw6]; omega) _) (by kernel_rfl) (by kernel_rfl) (by kernel_rfl) (by kernel_rfl) (fun _ _ _ h=>h) M ?_; simp only [aP,lI,l0,lS]
        refine readC (i:=7) (some 46) rfl (.int .i64 ((j-d/64-1:Nat):Int)) rfl rfl (by kernel_rfl) rfl (fun _ M=>subI .i64 _ _ _ _ _ _ _ rfl rfl rfl (by rw [xw6]; omega) _) (by kernel_rfl) (by kernel_rfl) (by kernel_rfl) (by kernel_rfl) (fun _ _ _ h=>h) M ?_; simp only [aP,lI,l0,lS]
        refine readC (i:=8) (some 47) rfl (.pointer (some ⟨R,0,none⟩)) rfl rfl (by kernel_rfl) rfl (fun _ M=>(by kernel_rfl)) (by kernel_rfl) (by kernel_rfl) (by kernel_rfl) (by kernel_rfl) (fun _ _ _ h=>h) M ?_; simp only [aP,lI,l0,lS]
        refine readC (i:=9) (some 48) rfl (.pointer (some ⟨R,1,none⟩)) rfl rfl (by kernel_rfl) rfl (fun _ M=>(by kernel_rfl)) (by kernel_rfl) (by kernel_rfl) (by kernel_rfl) (by kernel_rfl) (fun _ _ _ h=>h) M ?_; simp only [aP,lI,l0,lS]
        refine readC (i:=10) (some 49) rfl (.pointer (some ⟨R,1+(j-d/64-1),none⟩)) rfl rfl (by kernel_rfl) rfl (fun _ M=>idxArr 120 107 16 .i64 R 1 (j-d/64-1) _ _ Tryz.underlying120 (fun _=>by kernel_rfl) (by omega) rfl rfl rfl _) (by kernel_rfl) (by kernel_rfl) (by kernel_rfl) (by kernel_rfl) (fun _ _ _ h=>h) M ?_; simp only [aP,lI,l0,lS]
        refine readC (i:=11) (some 50) rfl (.int .u64 ((W (j-d/64-1):Nat):Int)) rfl rfl (by kernel_rfl) rfl (fun _ M=>load1 107 _ ⟨R,1+(j-d/64-1),none⟩ _ rfl rfl (fun _=>by kernel_rfl) (M.get (mT _ mS) _ _ (wcv_get T W (j-d/64-1) (by omega)))) (by kernel_rfl) (by kernel_rfl) (by kernel_rfl) (by kernel_rfl) (fun _ _ _ h=>h) M ?_; simp only [aP,lI,l0,lS]
        refine readC (i:=12) (some 51) rfl (.int .i64 ((d%64:Nat):Int)) rfl rfl (by kernel_rfl) rfl (fun _ M=>(by kernel_rfl)) (by kernel_rfl) (by kernel_rfl) (by kernel_rfl) (by kernel_rfl) (fun _ _ _ h=>h) M ?_; simp only [aP,lI,l0,lS]
        refine readC (i:=13) (some 52) rfl (.int .i64 ((64-d%64:Nat):Int)) rfl rfl (by kernel_rfl) rfl (fun _ M=>subI .i64 _ _ _ _ _ _ _ rfl rfl rfl (by rw [xw6]; omega) _) (by kernel_rfl) (by kernel_rfl) (by kernel_rfl) (by kernel_rfl) (fun _ _ _ h=>h) M ?_; simp only [aP,lI,l0,lS]
        refine readC (i:=14) (some 53) rfl (.int .u64 ((W (j-d/64-1)/2^(64-d%64):Nat):Int)) rfl rfl (by kernel_rfl) rfl (fun _ M=>shrI .u64 .i64 _ _ _ _ _ _ _ rfl rfl rfl (by omega) (shr64 _ _ (by omega)) _) (by kernel_rfl) (by kernel_rfl) (by kernel_rfl) (by kernel_rfl) (fun _ _ _ h=>h) M ?_; simp only [aP,lI,l0,lS]
        refine readC (i:=15) (some 54) rfl (.int .u64 ((wst W d j:Nat):Int)) rfl rfl (by kernel_rfl) rfl (fun _ M=>vorI .u64 _ _ _ _ _ _ _ rfl rfl rfl (by rw [wst_both W d j h2]; exact or64 _ _ (Nat.mod_lt _ (by decide)) (hW.div_lt _ _ (by omega))) _) (by kernel_rfl) (by kernel_rfl) (by kernel_rfl) (by kernel_rfl) (fun _ _ _ h=>h) M ?_
        simp only [aP,lI,l0,lS]; refine readC (i:=16) (some 55) rfl (.pointer (some ⟨B,0+j,none⟩)) rfl rfl (by kernel_rfl) rfl (fun _ M=>idxArr 120 107 16 .i64 B 0 j _ _ Tryz.underlying120 (fun _=>by kernel_rfl) (by omega) rfl rfl rfl _) (by kernel_rfl) (by kernel_rfl) (by kernel_rfl) (by kernel_rfl) (fun _ _ _ h=>h) M ?_; simp only [aP,lI,l0,lS]
        refine skipC (S2:=fun _=>True) none rfl (by kernel_rfl) rfl rfl (storeAny (.int .u64 ((wst W d j:Nat):Int)) B (0+j) 107 _ _ rfl rfl rfl rfl rfl (M.isSome mS _ (by rw [row_length]; omega)) (M.free mS _ (by rw [row_length]; omega)) (by kernel_rfl)) (by kernel_rfl) ?_; simp only [Act.put]
        replace M:=M.set (0+j) (by rw [row_length]; omega) (.int .u64 ((wst W d j:Nat):Int))
        rw [row_fset] at M
        replace OF:=OF.and1 ((Off.refl [B] _).set (b:=B) mS (0+j) (.int .u64 ((wst W d j:Nat):Int))) (.inr (by omega)); generalize w5.setCell ⟨B,0+j,none⟩ (.int .u64 ((wst W d j:Nat):Int))=w6 at M OF ⊢
        refine wpAnyH_done (by kernel_rfl) ?_ _
        first | show Exit.then _ _ _ _ _ | show Exit.inBlock _ _ _ _ _
        have hrow:=row_congr .u64 16 (mvd_next W d j (fset (fset (mvd W d j) j (W (j-d/64)*2^(d%64)%2^64)) j (wst W d j)) (mvd_fset W d j _))
        rw [hrow] at M
        have HS:=show Hid _ from (And.intro M OF); clear M OF hW hrow; go_wp2
        go_roundw
        case rel=>exact ⟨j+1,by omega,by go_num,HS.out⟩
        case measure=>simp [intOf]; omega
      · go_upto_region 7 with fail
        refine wp_region_list ?_; refine xpL (.int .i64 (j:Int)) ?_; refine xpL (.int .i64 ((d/64:Nat):Int)) ?_; refine xaL (.bool false) (gtrI .i64 _ _ _ _ _ _ rfl rfl rfl false (decide_eq_false (by omega)) _) ?_; refine xT ?_
        have hrow:=row_congr .u64 16 (mvd_next W d j (fset (mvd W d j) j (W (j-d/64)*2^(d%64)%2^64)) (fun i _=>by unfold fset; rw [wst_up W d j (by omega)]))
        rw [hrow] at M
        have HS:=show Hid _ from (And.intro M OF); clear M OF hW hrow; go_wp2
        go_roundw
        case rel=>exact ⟨j+1,by omega,by go_num,HS.out⟩
        case measure=>simp [intOf]; omega
  · obtain rfl:j=16:=by omega
    go_upto_region 3 with fail; refine wp_region_list ?_; refine xaL (.bool false) (lssI .i64 _ _ _ _ _ _ rfl rfl rfl false (decide_eq_false (by omega)) _) ?_; refine xT ?_; replace M:=M.swap; go_upto_region 10 with fail; refine wp_region_held_drew (S:=fun w'=>∃ cs_,Mm w0 ((R,cs_)::(B,row .u64 16 (fun i=>((mvd W d 16 i:Nat):Int)))::l) w') (by kernel_rfl) ⟨_,M.drew⟩ ?_; intro _
    replace M:=M.drew; have hdr:=(Below.refl wr.heap.size wr).drew; replace OF:=OF.below hdr; clear hdr; generalize wr.drew=w7 at M OF ⊢; refine xrH 0 57 rfl (.pointer (some ⟨R,0,none⟩)) (fun _ ⟨_,M⟩=>(by kernel_rfl)) ⟨_,M⟩ ?_; refine xrH 1 58 rfl (.pointer (some ⟨R,0,none⟩)) (fun _ ⟨_,M⟩=>(by kernel_rfl)) ⟨_,M⟩ ?_
    refine xrH 2 59 rfl (.int .i64 n) (fun _ ⟨_,M⟩=>(by kernel_rfl)) ⟨_,M⟩ ?_; refine xrH 3 60 rfl (.int .i64 (n+1)) (fun _ ⟨_,M⟩=>addI .i64 _ _ _ _ _ _ _ rfl rfl rfl (by rw [xw6]; omega) _) ⟨_,M⟩ ?_
    refine xrH 4 61 rfl (.agg (row .u64 16 (fun i=>(mvd W d 16 i:Int))).toArray) (fun _ ⟨_,M⟩=>loadN 120 _ ⟨B,0,none⟩ (row .u64 16 (fun i=>(mvd W d 16 i:Int))) rfl rfl (fun _=>by kernel_rfl) (fun _=>by rw [row_length]; kernel_rfl) (M.rangeAt (mT _ mS))) ⟨_,M⟩ ?_; refine xrH 5 62 rfl (.pointer (some ⟨R,0,none⟩)) (fun _ ⟨_,M⟩=>(by kernel_rfl)) ⟨_,M⟩ ?_
    refine xrH 6 63 rfl (.pointer (some ⟨R,0,none⟩)) (fun _ ⟨_,M⟩=>(by kernel_rfl)) ⟨_,M⟩ ?_; refine doesH (i:=7) none rfl (by kernel_rfl) rfl rfl (storeAny (.int .i64 (n+1)) R 0 3 _ _ rfl rfl rfl rfl rfl (M.isSome mS 0 (by rw [wcv_len]; decide)) (M.free mS 0 (by rw [wcv_len]; decide)) (by kernel_rfl)) ⟨_,M.set 0 (by rw [wcv_len]; decide) (.int .i64 (n+1))⟩ ?_; simp only [Act.put]
    replace M:=M.set 0 (by rw [wcv_len]; decide) (.int .i64 (n+1)); replace OF:=OF.and1 ((Off.refl [R] _).set (b:=R) mS 0 (.int .i64 (n+1))) (.inl mS); generalize w7.setCell ⟨R,0,none⟩ (.int .i64 (n+1))=w8 at M OF ⊢
    replace M:Mm w0 ((R,wcv n W)::(B,row .u64 16 (fun i=>((mvd W d 16 i:Nat):Int)))::l) w8:=M
    refine xrH 8 64 rfl (.pointer (some ⟨R,0,none⟩)) (fun _ ⟨_,M⟩=>(by kernel_rfl)) ⟨_,M⟩ ?_; refine xrH 9 65 rfl (.pointer (some ⟨R,1,none⟩)) (fun _ ⟨_,M⟩=>(by kernel_rfl)) ⟨_,M⟩ ?_
    refine doesH (i:=10) none rfl (by kernel_rfl) rfl rfl (storeP (row .u64 16 (fun i=>(mvd W d 16 i:Int))) R 1 120 _ _ rfl rfl rfl (M.thereP mS 1 16 (by rw [wcv_len]; decide)) (by rw [List.size_toArray,row_length]; kernel_rfl) (row_one .u64 16 _)) ⟨_,M.setPart (row .u64 16 (fun i=>(mvd W d 16 i:Int))) 1 (by rw [row_length,wcv_len]; decide)⟩ ?_; simp only [Act.put]
    replace M:=M.setPart (row .u64 16 (fun i=>(mvd W d 16 i:Int))) 1 (by rw [row_length,wcv_len]; decide)
    rw [wcv_setA] at M
    replace OF:=OF.and1 ((Off.refl [R] _).setAll (b:=R) mS 1 (row .u64 16 (fun i=>(mvd W d 16 i:Int)))) (.inl mS); generalize w8.setCells R 1 (row .u64 16 (fun i=>(mvd W d 16 i:Int)))=w9 at M OF ⊢
    refine wpAnyH_done (by kernel_rfl) ?_ _
    rw [wcv_congr (mvd_end W d)] at M
    replace M:=M.drop2
    exact ⟨rfl,.tuple #[],by kernel_rfl,rfl,M,OF⟩
theorem wtop_put {L:List Int} {n:Int} (h:n≤wtop L):wtop (L++[n])=wtop L:=by rw [wtop_app]; omega
theorem wtop_up {L:List Int} {n:Int} (h:wtop L<n):wtop (L++[n])=n:=by rw [wtop_app]; omega
theorem wds_put {L:List Int} {W:Nat→Nat} {n:Int} {k:Nat} (hW:Wds W L) (hk:wtop L-n=(k:Int)):Wds (fset W (k/64) (W (k/64) ||| 2^(k%64))) (L++[n]) :=
 (Bts.put hW k (V:=fset W (k/64) (W (k/64) ||| 2^(k%64))) (fun i _=>by
  unfold fset
  by_cases e:i=k/64
  · rw [if_pos e,if_pos e,e]
  · rw [if_neg e,if_neg e])).congr (fun j _=>wsee_put hk j)
theorem wds_up {L:List Int} {W:Nat→Nat} {n:Int} {d:Nat} (hW:Wds W L) (hd:n-wtop L=(d:Int)) (h1:1≤d):Wds (fset (wst W d) 0 (wst W d 0 ||| 2^0)) (L++[n]) :=
 ((hW.up d).put 0 (V:=fset (wst W d) 0 (wst W d 0 ||| 2^0)) (fun i _=>by
  unfold fset
  by_cases e:i=0
  · subst e; rfl
  · rw [if_neg e]; exact (if_neg e).symm)).congr (fun j _=>wsee_up hd h1 j)
theorem wcv_fset (T:Int) (W:Nat→Nat) (i v:Nat):(wcv T W).set (1+i) (.int .u64 ((v:Nat):Int))=wcv T (fset W i v):=wcv_set T W i v
theorem one_shl (e:Nat) (he:e<64):IntKind.u64.wrap (1*2^min ((e:Nat):Int).toNat IntKind.u64.bits)=((2^e:Nat):Int):=by
 have h:=shl64 1 e (by omega)
 rw [Nat.one_mul,Nat.mod_eq_of_lt (Nat.pow_lt_pow_right (by decide) he)] at h
 exact h
theorem vmark14_any (w0 w:World) (R:Nat) (l:List (Nat × List Value)) (L:List Int) (W:Nat→Nat) (hL:WinL L) (hW:Wds W L) (n:Int) (hn:i64 n) (M:Mm w0 ((R,wcv (wtop L) W)::l) w) :
 Calls Tryz.prog 51 #[.pointer (some ⟨R,0,none⟩),.int .i64 n] w fun e w'=>e=.returned (.int .i64 (wchk L n))∧∃ V,Wds V (wmk L n)∧Mm w0 ((R,wcv (wtop (wmk L n)) V)::l) w'∧Off [R] w w':=by
 go_enter Tryz.func51,Tryz.ntmps51
 have OF:=Off.refl [R] w; have hT1:=wtop_ge L; have hT2:=wtop_max hL; go_upto_region 0 with fail; refine wp_region_list ?_; refine xpL (.int .i64 0) ?_; refine xT ?_; go_upto_region 1 with fail; refine wp_region_list ?_; refine xpL (.pointer (some ⟨R,0,none⟩)) ?_; refine xpL (.int .i64 n) ?_; refine xcL (vcheck14_any w0 _ R _ L W hL hW n hn M) ?_; rintro e w1 ⟨rfl,l1⟩
 replace M:=M.call l1; replace OF:=OF.below l1; clear l1; refine xeL ?_; refine xpL (.int .i64 (wchk L n)) ?_; refine xT ?_
 by_cases hc:wchk L n=0
 · obtain ⟨hn0,hn2,hn3,hn4⟩:=wchk_ok hc
   replace hc:=show Hid _ from hc; go_upto_region 2 with fail; refine wp_region_list ?_; refine xpL (.int .i64 (wchk L n)) ?_; refine xaL (.bool false) (neqI .i64 _ _ _ _ _ _ rfl rfl rfl false (by rw [hc.out]; rfl) _) ?_; refine xT ?_
   by_cases h1:wtop L<n
   · have hd:n-wtop L=((n-wtop L).toNat:Int):=by omega
     go_upto_region 4 with fail; refine wp_region_list ?_; refine xpL (.int .i64 n) ?_; refine xpL (.pointer (some ⟨R,0,none⟩)) ?_; refine xcL (vtop14_any w0 _ R _ (wtop L) W hT1 hT2 M) ?_; rintro e w2 ⟨rfl,l1⟩; replace M:=M.call l1; replace OF:=OF.below l1; clear l1; refine xeL ?_; refine xaL (.bool true) (gtrI .i64 _ _ _ _ _ _ rfl rfl rfl true (decide_eq_true (by omega)) _) ?_
     refine xT ?_; go_upto_region 5 with fail; refine wp_region_list ?_; refine xpL (.pointer (some ⟨R,0,none⟩)) ?_; refine xpL (.int .i64 n) ?_; refine xcL (vrise_any w0 _ R _ (wtop L) W hT1 hT2 _ hW n (n-wtop L).toNat hd (by omega) hn2 M) ?_; rintro e w3 ⟨rfl,M',o1⟩; clear M; have M:=M'; clear M'; replace OF:=OF.and1 o1 (.inl mS); clear o1; refine xeL ?_; refine xT ?_
     go_upto_region 6 with fail; refine wp_region_list ?_; refine xpL (.pointer (some ⟨R,0,none⟩)) ?_; refine xpL (.int .i64 n) ?_; refine xcL (vplace_any w0 _ R _ n (wst W (n-wtop L).toNat) (by omega) hn2 n 0 (by omega) (by omega) M) ?_; rintro e w4 ⟨rfl,l1⟩; replace M:=M.call l1; replace OF:=OF.below l1; clear l1; refine xeL ?_
     refine xpL (.tuple #[.int .i64 ((0/64:Nat):Int),.int .i64 ((0%64:Nat):Int)]) ?_; refine xpL (.int .i64 ((0/64:Nat):Int)) ?_; refine xpL (.int .i64 ((0%64:Nat):Int)) ?_; refine xpL (.int .i64 ((0/64:Nat):Int)) ?_; refine xpL (.int .i64 ((0%64:Nat):Int)) ?_; refine xT ?_; go_upto_region 7 with fail
     refine wp_region_C (S:=fun w'=>Mm w0 ((R,wcv n (wst W (n-wtop L).toNat))::l) w') 12 (by kernel_rfl) M.drew ?_; clear M; intro M; have hdr:=(Below.refl w4.heap.size w4).drew; replace OF:=OF.below hdr; clear hdr; generalize w4.drew=w5 at M OF ⊢
     refine readC (i:=0) (some 27) rfl (.pointer (some ⟨R,0,none⟩)) rfl rfl (by kernel_rfl) rfl (fun _ M=>(by kernel_rfl)) (by kernel_rfl) (by kernel_rfl) (by kernel_rfl) (by kernel_rfl) (fun _ _ _ h=>h) M ?_; simp only [aP,lI,l0,lS]
     refine readC (i:=1) (some 28) rfl (.int .i64 ((0/64:Nat):Int)) rfl rfl (by kernel_rfl) rfl (fun _ M=>(by kernel_rfl)) (by kernel_rfl) (by kernel_rfl) (by kernel_rfl) (by kernel_rfl) (fun _ _ _ h=>h) M ?_; simp only [aP,lI,l0,lS]
     refine readC (i:=2) (some 29) rfl (.pointer (some ⟨R,0,none⟩)) rfl rfl (by kernel_rfl) rfl (fun _ M=>(by kernel_rfl)) (by kernel_rfl) (by kernel_rfl) (by kernel_rfl) (by kernel_rfl) (fun _ _ _ h=>h) M ?_; simp only [aP,lI,l0,lS]
     refine readC (i:=3) (some 30) rfl (.pointer (some ⟨R,1,none⟩)) rfl rfl (by kernel_rfl) rfl (fun _ M=>(by kernel_rfl)) (by kernel_rfl) (by kernel_rfl) (by kernel_rfl) (by kernel_rfl) (fun _ _ _ h=>h) M ?_; simp only [aP,lI,l0,lS]
     refine readC (i:=4) (some 31) rfl (.pointer (some ⟨R,1+(0/64),none⟩)) rfl rfl (by kernel_rfl) rfl (fun _ M=>idxArr 120 107 16 .i64 R 1 (0/64) _ _ Tryz.underlying120 (fun _=>by kernel_rfl) (by omega) rfl rfl rfl _) (by kernel_rfl) (by kernel_rfl) (by kernel_rfl) (by kernel_rfl) (fun _ _ _ h=>h) M ?_; simp only [aP,lI,l0,lS]
     refine readC (i:=5) (some 32) rfl (.int .u64 (((wst W (n-wtop L).toNat) (0/64):Nat):Int)) rfl rfl (by kernel_rfl) rfl (fun _ M=>load1 107 _ ⟨R,1+(0/64),none⟩ _ rfl rfl (fun _=>by kernel_rfl) (M.get mS _ _ (wcv_get n (wst W (n-wtop L).toNat) (0/64) (by omega)))) (by kernel_rfl) (by kernel_rfl) (by kernel_rfl) (by kernel_rfl) (fun _ _ _ h=>h) M ?_
     simp only [aP,lI,l0,lS]; refine readC (i:=6) (some 33) rfl (.int .i64 ((0%64:Nat):Int)) rfl rfl (by kernel_rfl) rfl (fun _ M=>(by kernel_rfl)) (by kernel_rfl) (by kernel_rfl) (by kernel_rfl) (by kernel_rfl) (fun _ _ _ h=>h) M ?_; simp only [aP,lI,l0,lS]
     refine readC (i:=7) (some 34) rfl (.int .u64 ((2^(0%64):Nat):Int)) rfl rfl (by kernel_rfl) rfl (fun _ M=>shlI .u64 .i64 _ _ _ _ _ _ _ rfl rfl rfl (by omega) (one_shl _ (by omega)) _) (by kernel_rfl) (by kernel_rfl) (by kernel_rfl) (by kernel_rfl) (fun _ _ _ h=>h) M ?_; simp only [aP,lI,l0,lS]
     refine readC (i:=8) (some 35) rfl (.int .u64 (((wst W (n-wtop L).toNat) (0/64) ||| 2^(0%64):Nat):Int)) rfl rfl (by kernel_rfl) rfl (fun _ M=>vorI .u64 _ _ _ _ _ _ _ rfl rfl rfl (or64 _ _ ((hW.up _).lt _ (by omega)) (Nat.pow_lt_pow_right (by decide) (by omega))) _) (by kernel_rfl) (by kernel_rfl) (by kernel_rfl) (by kernel_rfl) (fun _ _ _ h=>h) M ?_
     simp only [aP,lI,l0,lS]; refine xqC 9 36 rfl (.pointer (some ⟨R,0,none⟩)) (fun _=>(by kernel_rfl)) M ?_; refine xqC 10 37 rfl (.pointer (some ⟨R,1,none⟩)) (fun _=>(by kernel_rfl)) M ?_
     refine readC (i:=11) (some 38) rfl (.pointer (some ⟨R,1+(0/64),none⟩)) rfl rfl (by kernel_rfl) rfl (fun _ M=>idxArr 120 107 16 .i64 R 1 (0/64) _ _ Tryz.underlying120 (fun _=>by kernel_rfl) (by omega) rfl rfl rfl _) (by kernel_rfl) (by kernel_rfl) (by kernel_rfl) (by kernel_rfl) (fun _ _ _ h=>h) M ?_; simp only [aP,lI,l0,lS]
     refine skipC (S2:=fun _=>True) none rfl (by kernel_rfl) rfl rfl (storeAny (.int .u64 (((wst W (n-wtop L).toNat) (0/64) ||| 2^(0%64):Nat):Int)) R (1+(0/64)) 107 _ _ rfl rfl rfl rfl rfl (M.isSome mS _ (by rw [wcv_len]; omega)) (M.free mS _ (by rw [wcv_len]; omega)) (by kernel_rfl)) (by kernel_rfl) ?_; simp only [Act.put]
     replace M:=M.set (1+(0/64)) (by rw [wcv_len]; omega) (.int .u64 (((wst W (n-wtop L).toNat) (0/64) ||| 2^(0%64):Nat):Int))
     rw [wcv_fset] at M
     replace OF:=OF.and1 ((Off.refl [R] _).set (b:=R) mS (1+(0/64)) (.int .u64 (((wst W (n-wtop L).toNat) (0/64) ||| 2^(0%64):Nat):Int))) (.inl mS); generalize w5.setCell ⟨R,1+(0/64),none⟩ (.int .u64 (((wst W (n-wtop L).toNat) (0/64) ||| 2^(0%64):Nat):Int))=w6 at M OF ⊢
     refine wpAnyH_done (by kernel_rfl) ?_ _
     first | show Exit.then _ _ _ _ _ | show Exit.inBlock _ _ _ _ _
     go_upto_region 8 with fail; refine wp_region_list ?_; refine xpL (.int .i64 0) ?_; refine xT ?_; have hk_:=show Hid _ from (wmk_ok hc.out); have hk2_:=show Hid _ from (wtop_up (L:=L) (n:=n) h1); have hV:=show Hid _ from (wds_up hW hd (by omega)); have HS:=show Hid _ from (And.intro M OF); clear M OF hW hL; go_wp2; go_ret
     exact ⟨by rw [hc.out]; rfl,_,by rw [hk_.out]; exact hV.out,by rw [hk_.out,hk2_.out]; exact HS.out⟩
   · obtain ⟨k,hk⟩:∃ k:Nat,wtop L-n=(k:Int):=⟨(wtop L-n).toNat,by omega⟩
     go_upto_region 4 with fail; refine wp_region_list ?_; refine xpL (.int .i64 n) ?_; refine xpL (.pointer (some ⟨R,0,none⟩)) ?_; refine xcL (vtop14_any w0 _ R _ (wtop L) W hT1 hT2 M) ?_; rintro e w7 ⟨rfl,l1⟩; replace M:=M.call l1; replace OF:=OF.below l1; clear l1; refine xeL ?_; refine xaL (.bool false) (gtrI .i64 _ _ _ _ _ _ rfl rfl rfl false (decide_eq_false (by omega)) _) ?_
     refine xT ?_; go_upto_region 6 with fail; refine wp_region_list ?_; refine xpL (.pointer (some ⟨R,0,none⟩)) ?_; refine xpL (.int .i64 n) ?_; refine xcL (vplace_any w0 _ R _ (wtop L) W hT1 hT2 n k hk (by omega) M) ?_; rintro e w8 ⟨rfl,l1⟩; replace M:=M.call l1; replace OF:=OF.below l1; clear l1; refine xeL ?_
     refine xpL (.tuple #[.int .i64 ((k/64:Nat):Int),.int .i64 ((k%64:Nat):Int)]) ?_; refine xpL (.int .i64 ((k/64:Nat):Int)) ?_; refine xpL (.int .i64 ((k%64:Nat):Int)) ?_; refine xpL (.int .i64 ((k/64:Nat):Int)) ?_; refine xpL (.int .i64 ((k%64:Nat):Int)) ?_; refine xT ?_; go_upto_region 7 with fail
     refine wp_region_C (S:=fun w'=>Mm w0 ((R,wcv (wtop L) W)::l) w') 12 (by kernel_rfl) M.drew ?_; clear M; intro M; have hdr:=(Below.refl w8.heap.size w8).drew; replace OF:=OF.below hdr; clear hdr; generalize w8.drew=w9 at M OF ⊢
     refine readC (i:=0) (some 27) rfl (.pointer (some ⟨R,0,none⟩)) rfl rfl (by kernel_rfl) rfl (fun _ M=>(by kernel_rfl)) (by kernel_rfl) (by kernel_rfl) (by kernel_rfl) (by kernel_rfl) (fun _ _ _ h=>h) M ?_; simp only [aP,lI,l0,lS]
     refine readC (i:=1) (some 28) rfl (.int .i64 ((k/64:Nat):Int)) rfl rfl (by kernel_rfl) rfl (fun _ M=>(by kernel_rfl)) (by kernel_rfl) (by kernel_rfl) (by kernel_rfl) (by kernel_rfl) (fun _ _ _ h=>h) M ?_; simp only [aP,lI,l0,lS]
     refine readC (i:=2) (some 29) rfl (.pointer (some ⟨R,0,none⟩)) rfl rfl (by kernel_rfl) rfl (fun _ M=>(by kernel_rfl)) (by kernel_rfl) (by kernel_rfl) (by kernel_rfl) (by kernel_rfl) (fun _ _ _ h=>h) M ?_; simp only [aP,lI,l0,lS]
     refine readC (i:=3) (some 30) rfl (.pointer (some ⟨R,1,none⟩)) rfl rfl (by kernel_rfl) rfl (fun _ M=>(by kernel_rfl)) (by kernel_rfl) (by kernel_rfl) (by kernel_rfl) (by kernel_rfl) (fun _ _ _ h=>h) M ?_; simp only [aP,lI,l0,lS]
     refine readC (i:=4) (some 31) rfl (.pointer (some ⟨R,1+(k/64),none⟩)) rfl rfl (by kernel_rfl) rfl (fun _ M=>idxArr 120 107 16 .i64 R 1 (k/64) _ _ Tryz.underlying120 (fun _=>by kernel_rfl) (by omega) rfl rfl rfl _) (by kernel_rfl) (by kernel_rfl) (by kernel_rfl) (by kernel_rfl) (fun _ _ _ h=>h) M ?_; simp only [aP,lI,l0,lS]
     refine readC (i:=5) (some 32) rfl (.int .u64 ((W (k/64):Nat):Int)) rfl rfl (by kernel_rfl) rfl (fun _ M=>load1 107 _ ⟨R,1+(k/64),none⟩ _ rfl rfl (fun _=>by kernel_rfl) (M.get mS _ _ (wcv_get (wtop L) W (k/64) (by omega)))) (by kernel_rfl) (by kernel_rfl) (by kernel_rfl) (by kernel_rfl) (fun _ _ _ h=>h) M ?_; simp only [aP,lI,l0,lS]
     refine readC (i:=6) (some 33) rfl (.int .i64 ((k%64:Nat):Int)) rfl rfl (by kernel_rfl) rfl (fun _ M=>(by kernel_rfl)) (by kernel_rfl) (by kernel_rfl) (by kernel_rfl) (by kernel_rfl) (fun _ _ _ h=>h) M ?_; simp only [aP,lI,l0,lS]
     refine readC (i:=7) (some 34) rfl (.int .u64 ((2^(k%64):Nat):Int)) rfl rfl (by kernel_rfl) rfl (fun _ M=>shlI .u64 .i64 _ _ _ _ _ _ _ rfl rfl rfl (by omega) (one_shl _ (by omega)) _) (by kernel_rfl) (by kernel_rfl) (by kernel_rfl) (by kernel_rfl) (fun _ _ _ h=>h) M ?_; simp only [aP,lI,l0,lS]
     refine readC (i:=8) (some 35) rfl (.int .u64 ((W (k/64) ||| 2^(k%64):Nat):Int)) rfl rfl (by kernel_rfl) rfl (fun _ M=>vorI .u64 _ _ _ _ _ _ _ rfl rfl rfl (or64 _ _ (hW.lt _ (by omega)) (Nat.pow_lt_pow_right (by decide) (by omega))) _) (by kernel_rfl) (by kernel_rfl) (by kernel_rfl) (by kernel_rfl) (fun _ _ _ h=>h) M ?_; simp only [aP,lI,l0,lS]
     refine xqC 9 36 rfl (.pointer (some ⟨R,0,none⟩)) (fun _=>(by kernel_rfl)) M ?_; refine xqC 10 37 rfl (.pointer (some ⟨R,1,none⟩)) (fun _=>(by kernel_rfl)) M ?_
     refine readC (i:=11) (some 38) rfl (.pointer (some ⟨R,1+(k/64),none⟩)) rfl rfl (by kernel_rfl) rfl (fun _ M=>idxArr 120 107 16 .i64 R 1 (k/64) _ _ Tryz.underlying120 (fun _=>by kernel_rfl) (by omega) rfl rfl rfl _) (by kernel_rfl) (by kernel_rfl) (by kernel_rfl) (by kernel_rfl) (fun _ _ _ h=>h) M ?_; simp only [aP,lI,l0,lS]
     refine skipC (S2:=fun _=>True) none rfl (by kernel_rfl) rfl rfl (storeAny (.int .u64 ((W (k/64) ||| 2^(k%64):Nat):Int)) R (1+(k/64)) 107 _ _ rfl rfl rfl rfl rfl (M.isSome mS _ (by rw [wcv_len]; omega)) (M.free mS _ (by rw [wcv_len]; omega)) (by kernel_rfl)) (by kernel_rfl) ?_; simp only [Act.put]
     replace M:=M.set (1+(k/64)) (by rw [wcv_len]; omega) (.int .u64 ((W (k/64) ||| 2^(k%64):Nat):Int))
     rw [wcv_fset] at M
     replace OF:=OF.and1 ((Off.refl [R] _).set (b:=R) mS (1+(k/64)) (.int .u64 ((W (k/64) ||| 2^(k%64):Nat):Int))) (.inl mS); generalize w9.setCell ⟨R,1+(k/64),none⟩ (.int .u64 ((W (k/64) ||| 2^(k%64):Nat):Int))=w10 at M OF ⊢
     refine wpAnyH_done (by kernel_rfl) ?_ _
     first | show Exit.then _ _ _ _ _ | show Exit.inBlock _ _ _ _ _
     go_upto_region 8 with fail; refine wp_region_list ?_; refine xpL (.int .i64 0) ?_; refine xT ?_; have hk_:=show Hid _ from (wmk_ok hc.out); have hk2_:=show Hid _ from (wtop_put (L:=L) (n:=n) (by omega)); have hV:=show Hid _ from (wds_put hW hk); have HS:=show Hid _ from (And.intro M OF); clear M OF hW hL; go_wp2; go_ret
     exact ⟨by rw [hc.out]; rfl,_,by rw [hk_.out]; exact hV.out,by rw [hk_.out,hk2_.out]; exact HS.out⟩
 · replace hc:=show Hid _ from hc
   go_upto_region 2 with fail; refine wp_region_list ?_; refine xpL (.int .i64 (wchk L n)) ?_; refine xaL (.bool true) (neqI .i64 _ _ _ _ _ _ rfl rfl rfl true (by rw [bne_iff_ne]; exact hc.out) _) ?_; refine xT ?_; go_upto_region 3 with fail; refine wp_region_list ?_; refine xpL (.int .i64 (wchk L n)) ?_; refine xpL (.int .i64 (wchk L n)) ?_; refine xT ?_
   have hk_:=show Hid _ from (wmk_err hc.out); have HS:=show Hid _ from (And.intro hW (And.intro M OF)); clear M OF hW hL; go_wp2; go_ret
   exact ⟨rfl,W,by rw [hk_.out]; exact HS.out⟩
section
open Go.RowKit Go.MapKept Go.ChangeMaps Go.WideShapes
def NM (w:World) (m:Option Nat) (f:Int→Option Value):Prop:=match m with
 | none=>∀ x,f x=none
 | some b=>IM Tryz.prog 3 w b 256 f
def mbs (m:Option Nat):List (Nat × List Value):=match m with
 | none=>[]
 | some b=>[(b,[])]
theorem ukI:Tryz.prog.underlying 3=some (.int .i64):=Tryz.underlying3
section
variable {w:World} {m:Option Nat} {f:Int→Option Value} {t e:TypeId}
theorem NM.off {w':World} {X:List Nat} (h:NM w m f) (o:Off X w w') (hX:∀ p∈mbs m,p.1∉X):NM w' m f:=by
 cases m with
 | none=>exact h
 | some b=>exact IM.off h o (hX (b,[]) mS)
theorem NM.below {w':World} (h:NM w m f) (l:Below w.heap.size w w'):NM w' m f:=h.off (X:=[]) (Off.of_below l) (fun _ _ hb=>by cases hb)
theorem NM.congr {g:Int→Option Value} (h:NM w m f) (hg:∀ x,f x=g x):NM w m g:=by
 obtain rfl:f=g:=funext hg
 exact h
theorem run_look_nil (ht:Tryz.prog.underlying t=some (.map 3 e)) {z:Value} (hz:(zeroValue e).run Tryz.prog w=.ok z w) (x:Int) (c:Bool) :
 (Instr.lookup t (.map none) (.int .i64 x) c).run Tryz.prog w=.ok (if c then .tuple #[z,.bool false] else z) w:=by
 unfold Instr.lookup
 have h1:∀ e,(Instr.checkKey e 10000 3 (.int .i64 x)).run Tryz.prog w=.ok () w:=fun e=>run_checkKey ukI (show IsKey (.int .i64) (.int .i64 x) from rfl) e 9999
 have h2:(Instr.findKey 3 (.int .i64 x) []).run Tryz.prog w=.ok none w:=run_findKey ukI rfl
 cases c <;> simp [run_underlying ht,h1,h2,hz,Result.andThen]
theorem NM.look (h:NM w m f) (ht:Tryz.prog.underlying t=some (.map 3 e)) {z:Value} (hz:(zeroValue e).run Tryz.prog w=.ok z w) {x:Int} (hx:i64 x):(Instr.lookup t (.map m) (.int .i64 x) false).run Tryz.prog w=.ok ((f x).getD z) w:=by
 cases m with
 | none=>rw [run_look_nil ht hz x false,h x]; rfl
 | some b=>exact IM.look h ukI ht hz hx
theorem NM.lookOk (h:NM w m f) (ht:Tryz.prog.underlying t=some (.map 3 e)) {z:Value} (hz:(zeroValue e).run Tryz.prog w=.ok z w) {x:Int} (hx:i64 x):(Instr.lookup t (.map m) (.int .i64 x) true).run Tryz.prog w=.ok (.tuple #[(f x).getD z,.bool (f x).isSome]) w:=by
 cases m with
 | none=>rw [run_look_nil ht hz x true,h x]; rfl
 | some b=>exact IM.lookOk h ukI ht hz hx
theorem NM.clr (h:NM w m f) (ht:Tryz.prog.underlying t=some (.map 3 e)) (ty:TypeId):∃ w',(Builtin.clear_ #[t] ty #[.map m]).run Tryz.prog w=.ok (.tuple #[]) w'∧NM w' m (fun _=>none)∧w.grownBy w' m:=by
 cases m with
 | none=>exact ⟨w,by simp [Builtin.clear_,run_underlying ht,Result.andThen],fun _=>rfl,World.grownBy.refl _ _⟩
 | some b =>
   obtain ⟨w',h1,h2,h3⟩:=IM.clr h ht ty
   exact ⟨w',h1,IM.mono h2 (Nat.zero_le _),h3⟩
variable {o:Oper} {a:Act}
theorem lookN (h:NM w m f) (ht:Tryz.prog.underlying t=some (.map 3 e)) (z:Value) (hz:∀ w,(zeroValue e).run Tryz.prog w=.ok z w) (x:Int) (hx:i64 x) (m' y:Operand) (ho:o.op=.lookup t m' y false) (hm:a.eval m'=.map m) (hy:a.eval y=.int .i64 x) :
 (execOp a.eval o).run Tryz.prog w=.ok (.value ((f x).getD z)) w:=by
 unfold execOp
 simp only [ho,hm,hy,Sem.run_bind,h.look ht (hz w) hx,Result.andThen_ok,Sem.run_pure]
theorem lookOkN (h:NM w m f) (ht:Tryz.prog.underlying t=some (.map 3 e)) (z:Value) (hz:∀ w,(zeroValue e).run Tryz.prog w=.ok z w) (x:Int) (hx:i64 x) (m' y:Operand) (ho:o.op=.lookup t m' y true) (hm:a.eval m'=.map m) (hy:a.eval y=.int .i64 x) :
 (execOp a.eval o).run Tryz.prog w=.ok (.value (.tuple #[(f x).getD z,.bool (f x).isSome])) w:=by
 unfold execOp
 simp only [ho,hm,hy,Sem.run_bind,h.lookOk ht (hz w) hx,Result.andThen_ok,Sem.run_pure]
end
theorem Mm.touchN {w0 w w':World} {l:List (Nat × List Value)} {m:Option Nat} (M:Mm w0 (mbs m++l) w) (g:w.grownBy w' m):Mm w0 (mbs m++l) w':=by
 cases m with
 | none=>exact M.grownN g (fun b e=>by cases e)
 | some b=>exact Mm.touch M g
theorem Off.touchedN {w w':World} {m:Option Nat} (g:w.grownBy w' m):Off ((mbs m).map Prod.fst) w w':=by
 cases m with
 | none=>exact (Off.refl [] w).grown g fun b e=>by cases e
 | some b=>exact Off.touched g
def Cts (w:World) (m:Option Nat) (cnt:Int→Int):Prop:=∃ f,NM w m f∧∀ x,(f x=none∧(¬ (0≤x∧x≤255)∨cnt x=0))∨((0≤x∧x≤255)∧f x=some (.int .i64 (cnt x)))
abbrev Wls:=List (Int × (Nat × List Value))
def wpt (L:Wls) (x:Int):Option Value:=(L.lookup x).map fun b=>.pointer (some ⟨b.1,0,none⟩)
structure Wns (w:World) (m:Option Nat) (L:Wls) (win:Int→List Int):Prop where
 map:NM w m (wpt L)
 nd:L.Pairwise fun a b=>a.1≠b.1
 rng:∀ p∈L,0≤p.1∧p.1≤255
 is:∀ p∈L,VI (.pointer (some ⟨p.2.1,0,none⟩)) (win p.1) [p.2]
 gone:∀ x,L.lookup x=none→win x=[]
theorem Cts.off {w w':World} {X:List Nat} {m:Option Nat} {cnt:Int→Int} (h:Cts w m cnt) (o:Off X w w') (hX:∀ p∈mbs m,p.1∉X):Cts w' m cnt:=let ⟨f,h1,h2⟩:=h; ⟨f,h1.off o hX,h2⟩
theorem Cts.below {w w':World} {m:Option Nat} {cnt:Int→Int} (h:Cts w m cnt) (l:Below w.heap.size w w'):Cts w' m cnt:=let ⟨f,h1,h2⟩:=h; ⟨f,h1.below l,h2⟩
theorem Wns.off {w w':World} {X:List Nat} {m:Option Nat} {L:Wls} {win:Int→List Int} (h:Wns w m L win) (o:Off X w w') (hX:∀ p∈mbs m,p.1∉X):Wns w' m L win:=⟨h.map.off o hX,h.nd,h.rng,h.is,h.gone⟩
theorem Wns.below {w w':World} {m:Option Nat} {L:Wls} {win:Int→List Int} (h:Wns w m L win) (l:Below w.heap.size w w'):Wns w' m L win:=⟨h.map.below l,h.nd,h.rng,h.is,h.gone⟩
def wout (L:Wls) (x:Int):Wls:=L.filter fun p=>!(p.1 == x)
theorem lookup_mem {x:Int} {b:Nat × List Value}:∀ {L:Wls},L.lookup x=some b→(x,b)∈L
 | [],h=>by cases h
 | (y,c)::L,h=>by
   rw [List.lookup_cons] at h
   by_cases e:x=y
   · subst e
     rw [beq_self_eq_true] at h
     cases h
     exact mS
   · rw [beq_eq_false_iff_ne.2 e] at h
     exact mT _ (lookup_mem h)
theorem lookup_nil {x:Int}:∀ {L:Wls},L.lookup x=none→∀ p∈L,p.1≠x
 | [],_,_,hp=>by cases hp
 | (y,c)::L,h,p,hp=>by
   rw [List.lookup_cons] at h
   by_cases e:x=y
   · subst e
     rw [beq_self_eq_true] at h
     cases h
   · rw [beq_eq_false_iff_ne.2 e] at h
     rcases xc1 hp with rfl | hp
     · exact fun c=>e c.symm
     · exact lookup_nil h p hp
theorem wout_none {x:Int} {L:Wls} (h:L.lookup x=none):wout L x=L:=List.filter_eq_self.2 fun p hp=>by
 have:=lookup_nil h p hp
 simp [this]
theorem wout_other {x y:Int} (h:¬ y=x):∀ L:Wls,(wout L x).lookup y=L.lookup y
 | []=>rfl
 | (z,c)::L=>by
   unfold wout
   rw [List.filter_cons]
   by_cases e:z=x
   · subst e
     rw [if_neg (by simp),List.lookup_cons,beq_eq_false_iff_ne.2 h]
     exact wout_other h L
   · rw [if_pos (by simp [e]),List.lookup_cons,List.lookup_cons]
     split
     · rfl
     · exact wout_other h L
theorem wout_perm {x:Int} {b:Nat × List Value}:∀ {L:Wls},L.lookup x=some b→(L.Pairwise fun a b=>a.1≠b.1)→L.Perm ((x,b)::wout L x)
 | [],h,_=>by cases h
 | (y,c)::L,h,hp=>by
   rw [List.lookup_cons] at h
   obtain ⟨h1,h2⟩:=List.pairwise_cons.1 hp
   by_cases e:x=y
   · subst e
     rw [beq_self_eq_true] at h
     cases h
     unfold wout
     rw [List.filter_cons,if_neg (by simp),List.filter_eq_self.2 fun p hp=>by rw [beq_eq_false_iff_ne.2 fun c:p.1=x=>h1 p hp c.symm]; rfl]
   · rw [beq_eq_false_iff_ne.2 e] at h
     unfold wout
     rw [List.filter_cons,if_pos (by show (!(y == x))=true; rw [beq_eq_false_iff_ne.2 fun c:y=x=>e c.symm]; rfl)]
     exact ((wout_perm h h2).cons _).trans (List.Perm.swap _ _ _)
theorem wout_sub (L:Wls) (x:Int):(wout L x).Sublist L:=List.filter_sublist
theorem wout_ne {L:Wls} {x:Int} {p:Int × (Nat × List Value)} (h:p∈wout L x):p.1≠x:=by
 have:=(List.mem_filter.1 h).2
 simpa using this
theorem Wns.put {w w':World} {m m':Option Nat} {L:Wls} {win:Int→List Int} (h:Wns w m L win) {x:Int} (hx:0≤x∧x≤255) {b:Nat × List Value} {S:List Int} (hm:NM w' m' (fun y=>if y=x then some (.pointer (some ⟨b.1,0,none⟩)) else wpt L y)) (hb:VI (.pointer (some ⟨b.1,0,none⟩)) S [b]):Wns w' m' ((x,b)::wout L x) (fun y=>if y=x then S else win y):=by
 refine ⟨hm.congr fun y=>?_,List.pairwise_cons.2 ⟨fun p hp c=>wout_ne hp c.symm,h.nd.sublist (wout_sub L x)⟩,fun p hp=>?_,fun p hp=>?_,fun y hy=>?_⟩
 · unfold wpt
   rw [List.lookup_cons]
   by_cases e:y=x
   · rw [if_pos e,beq_iff_eq.2 e]; rfl
   · rw [if_neg e,beq_eq_false_iff_ne.2 e,wout_other e]
 · rcases xc1 hp with rfl | hp
   · exact hx
   · exact h.rng p ((wout_sub L x).subset hp)
 · rcases xc1 hp with rfl | hp
   · show VI _ (if x=x then S else win x) _
     rw [if_pos rfl]
     exact hb
   · rw [if_neg (wout_ne hp)]
     exact h.is p ((wout_sub L x).subset hp)
 · rw [List.lookup_cons] at hy
   by_cases e:y=x
   · rw [beq_iff_eq.2 e] at hy; cases hy
   · rw [beq_eq_false_iff_ne.2 e] at hy
     rw [if_neg e]
     rw [wout_other e] at hy
     exact h.gone y hy
theorem Wns.empty (w:World) (m:Option Nat) (h:NM w m (fun _=>none)) {win:Int→List Int} (hw:∀ x,win x=[]):Wns w m [] win:=⟨h,List.Pairwise.nil,(fun _ hp=>by cases hp),(fun _ hp=>by cases hp),fun x _=>hw x⟩
end
theorem ylt_in (k:Nat→Int):In 256 32 (ylt k):=kT_in k 12 _ 32 1
theorem yof_in (k:Nat→Int):In 256 32 (yof k):=kT_in k 10 _ 32 1
end Go.Proofs.YtknodedhcdpbiaaGreatDoor
