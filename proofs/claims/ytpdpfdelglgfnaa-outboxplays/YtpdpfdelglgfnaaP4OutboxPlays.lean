/- Texts of Nf, joined. -/
import Derived.Test.YtpdpfdelglgfnaaP3OutboxPlays
set_option maxRecDepth 20000
set_option maxHeartbeats 64000000
namespace Go.Proofs.Ytpdpfdelglgfnaa
open Go.RowKit
def okk (o:Obx) (p:Int) (i:Nat):Nat:=min (i-onA o) (onK o p)
def kag (o:Obx) (k:Nat):Nat→Bool:=fun j=>o.ag j&&!decide (onA o≤j∧j<onA o+k)
def oat (o:Obx) (k:Nat):Int:=if k=0 then 0 else ((onA o:Nat):Int)
theorem oat_pos {o:Obx} {k:Nat} (h:0<k):oat o k=((onA o:Nat):Int):=if_neg (by omega)
theorem kag_zero (o:Obx) (j:Nat):kag o 0 j=o.ag j:=by
 unfold kag
 rw [decide_eq_false (by omega)]
 simp
theorem kag_at {o:Obx} {k i:Nat} (h:onA o+k≤i):kag o k i=o.ag i:=by
 unfold kag
 rw [decide_eq_false (by omega)]
 simp
theorem kag_put {o:Obx} {k i:Nat} (hi:i=onA o+k) (j:Nat):bput (kag o k) i false j=kag o (k+1) j:=by
 by_cases c:j=i
 · subst c
   rw [bput_same]
   unfold kag
   rw [decide_eq_true (by omega)]
   simp
 · rw [bput_other c]
   unfold kag
   rw [show decide (onA o≤j∧j<onA o+k)=decide (onA o≤j∧j<onA o+(k+1)) from decide_eq_decide.2 (by omega)]
theorem kapp_bl {o:Obx} {k i:Nat} (hi:i=onA o+k) (j:Nat) (hj:j<k+1):app (fun j=>bl o.b (onA o+j)) k (fun _=>bl o.b i) j=bl o.b (onA o+j):=by
 unfold app
 split
 · rfl
 · rw [hi,show j=k by omega]
theorem app_nil0 (f:Nat→Int) (j:Nat):app (fun _=>0) 0 f j=f j:=by unfold app; rw [if_neg (xnZ j),Nat.sub_zero]
def onM (o:Obx) (p:Int):Nat:=min p.toNat (onT o-o.sent)
theorem okk_take {o:Obx} {p:Int} {i:Nat} (h1:onA o≤i) (h2:i-onA o<onK o p):okk o p i=i-onA o∧okk o p (i+1)=i-onA o+1:=by unfold okk; omega
theorem okk_stop {o:Obx} {p:Int} {i:Nat} (h:i<onA o∨onK o p≤i-onA o):okk o p (i+1)=okk o p i:=by unfold okk; omega
theorem okk_why {o:Obx} {p:Int} {i:Nat} (hp:¬ p<1) (hi:i<o.b.length) (ha:o.ag i=true) (h1:onA o≤i) (h2:¬ i-onA o<onK o p):0<onK o p∧okk o p i=onK o p∧(onA o+onK o p=i→¬ ((onK o p:Nat):Int)<p):=by
 have hk:=onK_pos (o:=o) (most:=p) (by omega) hp; have hle:=onK_le o p
 refine ⟨hk,by unfold okk; omega,fun e hlt=>?_⟩
 have h3:=fstp_hit (fun i=>!o.ag (onA o+i)) (min p.toNat (o.b.length-onA o)) (by show onK o p<_; omega)
 have h4:(!o.ag (onA o+onK o p))=true:=h3
 rw [e,ha] at h4
 cases h4
theorem onB_again {o:Obx} {p:Int} (hp:¬ p<1) (hA:onA o<o.b.length):okk o p o.b.length=onK o p∧0<onK o p∧onN o p=onK o p∧onF o p=onA o∧(onB o p).length=onK o p∧∀ j,j<onK o p→bl o.b (onA o+j)=bl (onB o p) j:=by
 have hk:=onK_pos (o:=o) (most:=p) hA hp; have hle:=onK_le o p
 have e1:onN o p=onK o p:=by unfold onN; rw [if_neg hp,if_pos hA]
 have e2:onF o p=onA o:=by unfold onF; rw [e1,if_neg (by omega),if_pos hA]
 refine ⟨by unfold okk; omega,hk,e1,e2,?_,fun j hj=>?_⟩
 · unfold onB
   rw [e1,e2,List.length_take,List.length_drop]
   omega
 · unfold onB
   rw [e1,e2,bl_takeN hj]
   unfold bl
   rw [List.getD_eq_getElem?_getD,List.getD_eq_getElem?_getD,List.getElem?_drop]
theorem onB_new {o:Obx} {p:Int} (hw:ObxW o) (hp:¬ p<1) (hA:¬ onA o<o.b.length):okk o p o.b.length=0∧onN o p=onM o p∧(0<onM o p→onF o p=o.sent)∧(onM o p=0→onF o p=0)∧(onB o p).length=onM o p∧o.sent+onM o p≤o.b.length∧∀ j,j<onM o p→bl o.b (o.sent+j)=bl (onB o p) j:=by
 have hle:=onK_le o p; have hAl:=onA_le o; have hst:=hw.st
 have e1:onN o p=onM o p:=by unfold onN; rw [if_neg hp,if_neg hA]; rfl
 have e2:0<onM o p→onF o p=o.sent:=fun h=>by unfold onF; rw [e1,if_neg (by omega),if_neg hA]
 have e3:onM o p=0→onF o p=0:=fun h=>by unfold onF; rw [e1,if_pos h]
 have e4:o.sent+onM o p≤o.b.length:=by unfold onM onT; omega
 refine ⟨by unfold okk; omega,e1,e2,e3,?_,e4,fun j hj=>?_⟩
 · unfold onB
   rw [e1,List.length_take,List.length_drop]
   rcases Nat.eq_zero_or_pos (onM o p) with c | c
   · rw [c]; omega
   · rw [e2 c]; omega
 · unfold onB
   rw [e1,e2 (by omega),bl_takeN hj]
   unfold bl
   rw [List.getD_eq_getElem?_getD,List.getD_eq_getElem?_getD,List.getElem?_drop]
theorem onx_again {o:Obx} {p:Int} (hp:¬ p<1) (hA:onA o<o.b.length):onx o p={ o with ag:=kag o (onK o p) }:=by unfold onx; rw [if_neg hp,if_pos hA]; rfl
theorem onx_new {o:Obx} {p:Int} (hp:¬ p<1) (hA:¬ onA o<o.b.length):onx o p={ o with sent:=o.sent+onM o p }:=by unfold onx; rw [if_neg hp,if_neg hA]; rfl
theorem on_none {o:Obx} {p:Int} (hp:p<1):onx o p=o∧onN o p=0∧onF o p=0∧onB o p=[]:=by
 have e1:onN o p=0:=if_pos hp
 refine ⟨if_pos hp,e1,by unfold onF; rw [if_pos e1],by unfold onB; rw [e1,List.take_zero]⟩
theorem dnext_any (w0 w:World) (R:Nat) (l:List (Nat × List Value)) (o:Obx) (sb sa sh:Option Addr) (cb ca ch:Nat) (hw:ObxW o) (hln:o.b.length<1000000) (p:Int) (hp:i64 p) (M:Mm w0 ((R,dcs o sb sa sh cb ca ch)::(obs sb++(obs sa++(obs sh++l)))) w) (V_b:w.ownsRow w0.heap.size 5 1 (.slice sb o.b.length cb) o.b.length (row .u8 o.b.length (bl o.b))) (V_a:w.ownsRow w0.heap.size 4 1 (.slice sa o.b.length ca) o.b.length (brw o.b.length o.ag)) (V_h:w.ownsRow w0.heap.size 4 1 (.slice sh o.b.length ch) o.b.length (brw o.b.length o.he)) :
 Calls Try.prog 14 #[.pointer (some ⟨R,0,none⟩),.int .i64 p] w fun e w'=>∃ sq cq,e=.returned (.tuple #[.agg #[.int .i64 ((onF o p:Nat):Int),.slice sq (onB o p).length cq],.bool (decide (0<onN o p))])∧Mm w0 ((R,dcs (onx o p) sb sa sh cb ca ch)::(obs sq++(obs sb++(obs sa++(obs sh++l))))) w'∧w'.ownsRow w0.heap.size 5 1 (.slice sq (onB o p).length cq) (onB o p).length (row .u8 (onB o p).length (bl (onB o p)))∧w'.ownsRow w0.heap.size 5 1 (.slice sb o.b.length cb) o.b.length (row .u8 o.b.length (bl o.b))∧w'.ownsRow w0.heap.size 4 1 (.slice sa o.b.length ca) o.b.length (brw o.b.length (onx o p).ag)∧w'.ownsRow w0.heap.size 4 1 (.slice sh o.b.length ch) o.b.length (brw o.b.length (onx o p).he)∧Off (R::(ob sb++(ob sa++ob sh))) w w':=by
 replace M:Mm w0 ((R,[.int .i64 o.size,.int .i64 o.lim,.int .i64 ((o.sent:Nat):Int),.slice sb o.b.length cb,.slice sa o.b.length ca,.slice sh o.b.length ch])::((obs sb)++((obs sa)++((obs sh)++l)))) w:=M
 have hb0:=M.below
 obtain ⟨XS,hXS⟩:∃ X_,X_=(R::(ob sb++(ob sa++ob sh))):=⟨_,rfl⟩
 have hRX:R∈XS:=by rw [hXS]; simp
 have L_b:Lies XS w sb:=fun b_ hb_=>.inl (by rw [hXS]; simp [hb_])
 have L_a:Lies XS w sa:=fun b_ hb_=>.inl (by rw [hXS]; simp [hb_])
 have L_h:Lies XS w sh:=fun b_ hb_=>.inl (by rw [hXS]; simp [hb_])
 have OF:=Off.refl XS w; have hst:=hw.st; have hl1:=hw.l1; have hl2:=hw.l2
 go_enter Try.func14,Try.ntmps14
 unfold i64 at hp
 have hAl:=onA_le o; go_upto_region 0 with fail; refine wp_region_list ?_; have hlb:=(Below.refl w.heap.size w).alloc (xnR _) (.cells #[.int .i64 0,.slice none 0 0] 35); refine actL (w':=w.alloc (.cells #[.int .i64 0,.slice none 0 0] 35)) (.pointer (some ⟨w.heap.size,0,none⟩)) rfl (by kernel_rfl) ?_; simp only [aP,lI,l0,lS]; have hB_:=OF.size; replace V_b:=ownsRow_bel V_b hlb
 replace V_a:=ownsRow_bel V_a hlb; replace V_h:=ownsRow_bel V_h hlb; replace OF:=OF.below hlb; replace M:=M.box #[.int .i64 0,.slice none 0 0] 35 w.heap.size rfl; clear hlb; generalize w.alloc (.cells #[.int .i64 0,.slice none 0 0] 35)=w1 at M V_b V_a V_h OF ⊢; generalize eB_:w.heap.size=B1 at M ⊢
 have hB_B1:w.heap.size≤B1:=by rw [← eB_]; exact hB_
 clear hB_ eB_
 replace M:Mm w0 ((B1,[.int .i64 0,.slice none 0 0])::(R,[.int .i64 o.size,.int .i64 o.lim,.int .i64 ((o.sent:Nat):Int),.slice sb o.b.length cb,.slice sa o.b.length ca,.slice sh o.b.length ch])::((obs sb)++((obs sa)++((obs sh)++l)))) w1:=M
 refine xpL (.bool false) ?_; refine xT ?_
 by_cases h1:p<1
 · go_upto_region 1 with fail
   refine wp_region_list ?_; refine xpL (.int .i64 p) ?_; refine xaL (.bool true) (lssI .i64 _ _ _ _ _ _ rfl rfl rfl true (decide_eq_true (by omega)) _) ?_; refine xT ?_; go_upto_region 2 with fail; refine wp_region_list ?_; refine xpL (.agg #[.int .i64 0,.slice none 0 0]) ?_
   refine skipOpL rfl (storeP [.int .i64 0,.slice none 0 0] B1 0 35 _ _ rfl rfl rfl (M.thereP mS 0 2 (Nat.le_of_ble_eq_true rfl)) (by kernel_rfl) (List.all_eq_true.1 (rfl:([.int .i64 0,.slice none 0 0]:List Value).all (fun u=>u.oneCell')=true))) ?_; simp only [Act.put]; replace M:=M.setPart [.int .i64 0,.slice none 0 0] 0 (Nat.le_of_ble_eq_true rfl)
   replace V_b:=ownsRow_away V_b ((Off.refl [B1] _).setAll (b:=B1) mS 0 [.int .i64 0,.slice none 0 0]) (fun b_ hb_=>by obtain rfl:=xm1 hb_; exact M.awayB (fun p_ hp_=>by simp [hp_])); replace V_a:=ownsRow_away V_a ((Off.refl [B1] _).setAll (b:=B1) mS 0 [.int .i64 0,.slice none 0 0]) (fun b_ hb_=>by obtain rfl:=xm1 hb_; exact M.awayB (fun p_ hp_=>by simp [hp_]))
   replace V_h:=ownsRow_away V_h ((Off.refl [B1] _).setAll (b:=B1) mS 0 [.int .i64 0,.slice none 0 0]) (fun b_ hb_=>by obtain rfl:=xm1 hb_; exact M.awayB (fun p_ hp_=>by simp [hp_])); replace OF:=OF.and1 ((Off.refl [B1] _).setAll (b:=B1) mS 0 [.int .i64 0,.slice none 0 0]) (.inr hB_B1)
   generalize w1.setCells B1 0 [.int .i64 0,.slice none 0 0]=w2 at M V_b V_a V_h OF L_b L_a L_h ⊢
   replace M:Mm w0 ((B1,[.int .i64 0,.slice none 0 0])::(R,[.int .i64 o.size,.int .i64 o.lim,.int .i64 ((o.sent:Nat):Int),.slice sb o.b.length cb,.slice sa o.b.length ca,.slice sh o.b.length ch])::((obs sb)++((obs sa)++((obs sh)++l)))) w2:=M
   refine xpL (.bool false) ?_; refine xT ?_
   obtain ⟨h1_,h2_,h3_,h4_⟩:=on_none (o:=o) h1
   have V_c:w2.ownsRow w0.heap.size 5 1 (.slice none 0 0) 0 (row .u8 0 (fun _=>0)):=⟨rfl,.inl ⟨rfl,rfl⟩⟩
   replace M:Mm w0 ((B1,[.int .i64 0,.slice none 0 0])::(R,[.int .i64 o.size,.int .i64 o.lim,.int .i64 ((o.sent:Nat):Int),.slice sb o.b.length cb,.slice sa o.b.length ca,.slice sh o.b.length ch])::((obs none)++((obs sb)++((obs sa)++((obs sh)++l))))) w2:=M
   have c1_:=M.part mS 0 [.int .i64 0,.slice none 0 0] rfl; replace M:=M.swap
   replace M:Mm w0 ((R,[.int .i64 o.size,.int .i64 o.lim,.int .i64 ((o.sent:Nat):Int),.slice sb o.b.length cb,.slice sa o.b.length ca,.slice sh o.b.length ch])::((obs none)++((obs sb)++((obs sa)++((obs sh)++l))))) w2:=M.sub _ (List.cons_sublist_cons.2 (List.Sublist.cons _ ((List.Sublist.refl _).append ((List.Sublist.refl _).append ((List.Sublist.refl _).append ((List.Sublist.refl _).append (List.Sublist.refl _)))))))
   rw [hXS] at OF
   replace h1_:=show Hid _ from h1_; replace h2_:=show Hid _ from h2_; replace h3_:=show Hid _ from h3_; replace h4_:=show Hid _ from h4_; have HS:=show Hid _ from (show _∧_∧_∧_∧_∧_ from ⟨M,V_c,V_b,V_a,V_h,OF⟩); clear M V_c V_b V_a V_h OF; go_wp2
   refine bodyPost_ret (v:=.tuple #[.agg #[.int .i64 0,.slice none 0 0],.bool false]) (retCellTmp 4 5 35 ⟨B1,0,none⟩ [.int .i64 0,.slice none 0 0] _ rfl rfl rfl (fun _=>by kernel_rfl) (fun _=>by kernel_rfl) c1_) rfl ?_
   refine ⟨none,0,by rw [h3_.out,h4_.out,h2_.out]; rfl,?_⟩
   rw [h1_.out,h4_.out]
   exact HS.out
 · go_upto_region 1 with fail
   refine wp_region_list ?_; refine xpL (.int .i64 p) ?_; refine xaL (.bool false) (lssI .i64 _ _ _ _ _ _ rfl rfl rfl false (decide_eq_false (by omega)) _) ?_; refine xT ?_; go_upto_region 3 with fail; refine wp_region_list ?_; refine xpL (.agg #[.int .i64 0,.slice none 0 0]) ?_; have hlb:=(Below.refl w1.heap.size w1).alloc (xnR _) (.cells #[.int .i64 0,.slice none 0 0] 35)
   refine actL (w':=w1.alloc (.cells #[.int .i64 0,.slice none 0 0] 35)) (.pointer (some ⟨w1.heap.size,0,none⟩)) rfl (by kernel_rfl) ?_; simp only [aP,lI,l0,lS]; have hB_:=OF.size; replace V_b:=ownsRow_bel V_b hlb; replace V_a:=ownsRow_bel V_a hlb; replace V_h:=ownsRow_bel V_h hlb; replace OF:=OF.below hlb; replace M:=M.box #[.int .i64 0,.slice none 0 0] 35 w1.heap.size rfl
   clear hlb; generalize w1.alloc (.cells #[.int .i64 0,.slice none 0 0] 35)=w3 at M V_b V_a V_h OF ⊢; generalize eB_:w1.heap.size=B3 at M ⊢
   have hB_B3:w.heap.size≤B3:=by rw [← eB_]; exact hB_
   clear hB_ eB_
   replace M:Mm w0 ((B3,[.int .i64 0,.slice none 0 0])::(B1,[.int .i64 0,.slice none 0 0])::(R,[.int .i64 o.size,.int .i64 o.lim,.int .i64 ((o.sent:Nat):Int),.slice sb o.b.length cb,.slice sa o.b.length ca,.slice sh o.b.length ch])::((obs sb)++((obs sa)++((obs sh)++l)))) w3:=M
   refine skipOpL rfl (storeP [.int .i64 0,.slice none 0 0] B3 0 35 _ _ rfl rfl rfl (M.thereP mS 0 2 (Nat.le_of_ble_eq_true rfl)) (by kernel_rfl) (List.all_eq_true.1 (rfl:([.int .i64 0,.slice none 0 0]:List Value).all (fun u=>u.oneCell')=true))) ?_; simp only [Act.put]; replace M:=M.setPart [.int .i64 0,.slice none 0 0] 0 (Nat.le_of_ble_eq_true rfl)
   replace V_b:=ownsRow_away V_b ((Off.refl [B3] _).setAll (b:=B3) mS 0 [.int .i64 0,.slice none 0 0]) (fun b_ hb_=>by obtain rfl:=xm1 hb_; exact M.awayB (fun p_ hp_=>by simp [hp_])); replace V_a:=ownsRow_away V_a ((Off.refl [B3] _).setAll (b:=B3) mS 0 [.int .i64 0,.slice none 0 0]) (fun b_ hb_=>by obtain rfl:=xm1 hb_; exact M.awayB (fun p_ hp_=>by simp [hp_]))
   replace V_h:=ownsRow_away V_h ((Off.refl [B3] _).setAll (b:=B3) mS 0 [.int .i64 0,.slice none 0 0]) (fun b_ hb_=>by obtain rfl:=xm1 hb_; exact M.awayB (fun p_ hp_=>by simp [hp_])); replace OF:=OF.and1 ((Off.refl [B3] _).setAll (b:=B3) mS 0 [.int .i64 0,.slice none 0 0]) (.inr hB_B3)
   generalize w3.setCells B3 0 [.int .i64 0,.slice none 0 0]=w4 at M V_b V_a V_h OF L_b L_a L_h ⊢
   replace M:Mm w0 ((B3,[.int .i64 0,.slice none 0 0])::(B1,[.int .i64 0,.slice none 0 0])::(R,[.int .i64 o.size,.int .i64 o.lim,.int .i64 ((o.sent:Nat):Int),.slice sb o.b.length cb,.slice sa o.b.length ca,.slice sh o.b.length ch])::((obs sb)++((obs sa)++((obs sh)++l)))) w4:=M
   refine xT ?_; go_upto_region 4 with fail; refine wp_region_list ?_; refine xpL (.int .i64 0) ?_; refine xT ?_
   have V_c:w4.ownsRow w0.heap.size 5 1 (.slice none 0 0) 0 (row .u8 0 (fun j=>bl o.b (onA o+j))):=⟨rfl,.inl ⟨rfl,rfl⟩⟩
   have L_c:=Lies.nil XS w
   rw [brw_congr (fun j _=>(kag_zero o j).symm)] at V_a
   replace M:Mm w0 ((B3,[.int .i64 (oat o 0),.slice none 0 0])::(B1,[.int .i64 0,.slice none 0 0])::(R,[.int .i64 o.size,.int .i64 o.lim,.int .i64 ((o.sent:Nat):Int),.slice sb o.b.length cb,.slice sa o.b.length ca,.slice sh o.b.length ch])::((obs none)++((obs sb)++((obs sa)++((obs sh)++l))))) w4:=M
   have HI:=show Hid _ from (show Mm w0 ((B3,[.int .i64 (oat o 0),.slice none 0 0])::(B1,[.int .i64 0,.slice none 0 0])::(R,[.int .i64 o.size,.int .i64 o.lim,.int .i64 ((o.sent:Nat):Int),.slice sb o.b.length cb,.slice sa o.b.length ca,.slice sh o.b.length ch])::((obs none)++((obs sb)++((obs sa)++((obs sh)++l))))) w4∧w4.ownsRow w0.heap.size 5 1 (.slice none 0 0) 0 (row .u8 0 (fun j=>bl o.b (onA o+j)))∧w4.ownsRow w0.heap.size 5 1 (.slice sb o.b.length cb) o.b.length (row .u8 o.b.length (bl o.b))∧w4.ownsRow w0.heap.size 4 1 (.slice sa o.b.length ca) o.b.length (brw o.b.length (kag o 0))∧w4.ownsRow w0.heap.size 4 1 (.slice sh o.b.length ch) o.b.length (brw o.b.length o.he)∧Lies XS w none∧Off XS w w4 from ⟨M,V_c,V_b,V_a,V_h,L_c,OF⟩)
   clear M V_c V_b V_a V_h L_c OF; go_wp2
   go_loopw [7] (fun i w'=>∃ (i' k:Nat) (sc:Option Addr) (cc:Nat),i'≤o.b.length∧k=okk o p i'∧i=.int .i64 (i':Int)∧Mm w0 ((B3,[.int .i64 (oat o k),.slice sc k cc])::(B1,[.int .i64 0,.slice none 0 0])::(R,[.int .i64 o.size,.int .i64 o.lim,.int .i64 ((o.sent:Nat):Int),.slice sb o.b.length cb,.slice sa o.b.length ca,.slice sh o.b.length ch])::((obs sc)++((obs sb)++((obs sa)++((obs sh)++l))))) w'∧w'.ownsRow w0.heap.size 5 1 (.slice sc k cc) k (row .u8 k (fun j=>bl o.b (onA o+j)))∧w'.ownsRow w0.heap.size 5 1 (.slice sb o.b.length cb) o.b.length (row .u8 o.b.length (bl o.b))∧w'.ownsRow w0.heap.size 4 1 (.slice sa o.b.length ca) o.b.length (brw o.b.length (kag o k))∧w'.ownsRow w0.heap.size 4 1 (.slice sh o.b.length ch) o.b.length (brw o.b.length o.he)∧Lies XS w sc∧Off XS w w') (fun i _=>o.b.length-(intOf i).toNat)
   case atStart=>exact ⟨0,0,none,0,Nat.zero_le _,by unfold okk; omega,rfl,HI.out⟩
   case round =>
    clear HI
    obtain ⟨i,k,sc,cc,hi,hk,rfl,M,V_c,V_b,V_a,V_h,L_c,OF⟩:=hrel
    by_cases hil:i<o.b.length
    · go_upto_region 5 with fail
      refine wp_region_list ?_; refine xpL (.int .i64 (i:Int)) ?_; refine xpL (.pointer (some ⟨R,0,none⟩)) ?_; refine xpL (.pointer (some ⟨R,0,none⟩)) ?_; refine xpL (.pointer (some ⟨R,3,none⟩)) ?_; refine xaL (.slice sb o.b.length cb) (load1 28 _ ⟨R,3,none⟩ _ rfl rfl (fun _=>by kernel_rfl) (M.get (mI 2 rfl) 3 _ rfl)) ?_
      refine xaL (.int .i64 ((o.b.length:Nat):Int)) (lenS _ 28 5 sb o.b.length cb rfl Try.underlying28 rfl _) ?_; refine xaL (.bool true) (lssI .i64 _ _ _ _ _ _ rfl rfl rfl true (decide_eq_true (by omega)) _) ?_; refine xT ?_
      obtain ⟨ga,hg_a⟩:=row_some16 V_a (by omega)
      subst hg_a
      replace M:Mm w0 ((B3,[.int .i64 (oat o k),.slice sc k cc])::(B1,[.int .i64 0,.slice none 0 0])::(R,[.int .i64 o.size,.int .i64 o.lim,.int .i64 ((o.sent:Nat):Int),.slice sb o.b.length cb,.slice (some ⟨ga,0,none⟩) o.b.length ca,.slice sh o.b.length ch])::((obs sc)++((obs sb)++((obs (some ⟨ga,0,none⟩))++((obs sh)++l))))) wr:=M
      obtain ⟨gb,hg_b⟩:=row_some16 V_b (by omega)
      subst hg_b
      replace M:Mm w0 ((B3,[.int .i64 (oat o k),.slice sc k cc])::(B1,[.int .i64 0,.slice none 0 0])::(R,[.int .i64 o.size,.int .i64 o.lim,.int .i64 ((o.sent:Nat):Int),.slice (some ⟨gb,0,none⟩) o.b.length cb,.slice (some ⟨ga,0,none⟩) o.b.length ca,.slice sh o.b.length ch])::((obs sc)++((obs (some ⟨gb,0,none⟩))++((obs (some ⟨ga,0,none⟩))++((obs sh)++l))))) wr:=M
      have hkw:okk o p i≤onK o p∧(onA o≤i→onA o+okk o p i≤i):=by unfold okk; omega
      have hKl:=onK_le o p
      by_cases ha:o.ag i=true
      · have h3:onA o≤i:=by
         rcases Nat.lt_or_ge i (onA o) with c | c
         · rw [onA_no c] at ha; cases ha
         · exact c
        by_cases h4:i-onA o<onK o p
        · obtain ⟨hk2,hk3⟩:=okk_take (o:=o) (p:=p) h3 h4
          have hik:i=onA o+k:=by omega
          have hka:kag o k i=true:=by rw [kag_at (by omega)]; exact ha
          by_cases hk0:k=0
          · obtain rfl:k=0:=by omega
            replace M:Mm w0 ((B3,[.int .i64 (oat o 0),.slice sc 0 cc])::(B1,[.int .i64 0,.slice none 0 0])::(R,[.int .i64 o.size,.int .i64 o.lim,.int .i64 ((o.sent:Nat):Int),.slice (some ⟨gb,0,none⟩) o.b.length cb,.slice (some ⟨ga,0,none⟩) o.b.length ca,.slice sh o.b.length ch])::((obs sc)++((obs (some ⟨gb,0,none⟩))++((obs (some ⟨ga,0,none⟩))++((obs sh)++l))))) wr:=M
            go_upto_region 7 with fail; refine wp_region_list ?_; refine xpL (.pointer (some ⟨R,0,none⟩)) ?_; refine xpL (.pointer (some ⟨R,0,none⟩)) ?_; refine xpL (.pointer (some ⟨R,4,none⟩)) ?_; refine xaL (.slice (some ⟨ga,0,none⟩) o.b.length ca) (load1 43 _ ⟨R,4,none⟩ _ rfl rfl (fun _=>by kernel_rfl) (M.get (mI 2 rfl) 4 _ rfl)) ?_; refine xpL (.int .i64 (i:Int)) ?_
            refine xaL (.pointer (some ⟨ga,i,none⟩)) (idxRow 43 4 ga _ _ i _ _ Try.underlying43 (fun _=>by kernel_rfl) hil rfl rfl rfl _) ?_; refine xaL (.bool true) (load1 4 _ ⟨ga,i,none⟩ _ rfl rfl (fun _=>by kernel_rfl) (rowCell V_a (by rw [brw_get _ hil,hka]))) ?_; refine xpL (.bool true) ?_; refine xpL (.pointer (some ⟨B3,1,none⟩)) ?_
            refine xaL (.slice sc 0 cc) (load1 28 _ ⟨B3,1,none⟩ _ rfl rfl (fun _=>by kernel_rfl) (M.get mS 1 _ rfl)) ?_; refine xaL (.int .i64 ((0:Nat):Int)) (lenS _ 28 5 sc 0 cc rfl Try.underlying28 rfl _) ?_; refine xaL (.bool true) (eqlI .i64 _ _ _ _ _ _ rfl rfl rfl true rfl _) ?_; refine xpL (.bool true) ?_
            with_reducible refine skipL ?_ ?_
            · rfl
            simp only [aP,lI,l0,lS]
            with_reducible refine skipL ?_ ?_
            · rfl
            simp only [aP,lI,l0,lS]
            with_reducible refine skipL ?_ ?_
            · rfl
            simp only [aP,lI,l0,lS]
            with_reducible refine skipL ?_ ?_
            · rfl
            simp only [aP,lI,l0,lS]
            with_reducible refine skipL ?_ ?_
            · rfl
            simp only [aP,lI,l0,lS]
            with_reducible refine skipL ?_ ?_
            · rfl
            simp only [aP,lI,l0,lS]
            with_reducible refine skipL ?_ ?_
            · rfl
            simp only [aP,lI,l0,lS]
            with_reducible refine skipL ?_ ?_
            · rfl
            simp only [aP,lI,l0,lS]; refine xpL (.bool true) ?_; refine xpL (.bool true) ?_; refine xpL (.bool true) ?_; refine xpL (.pointer (some ⟨B3,1,none⟩)) ?_; refine xaL (.slice sc 0 cc) (load1 28 _ ⟨B3,1,none⟩ _ rfl rfl (fun _=>by kernel_rfl) (M.get mS 1 _ rfl)) ?_; refine xaL (.int .i64 ((0:Nat):Int)) (lenS _ 28 5 sc 0 cc rfl Try.underlying28 rfl _) ?_
            refine xpL (.int .i64 p) ?_; refine xaL (.bool true) (lssI .i64 _ _ _ _ _ _ rfl rfl rfl true (decide_eq_true (by omega)) _) ?_; refine xpL (.bool true) ?_; refine xT ?_; clear hka; go_upto_region 8 with fail; refine wp_region_list ?_; refine xpL (.pointer (some ⟨B3,1,none⟩)) ?_
            refine xaL (.slice sc 0 cc) (load1 28 _ ⟨B3,1,none⟩ _ rfl rfl (fun _=>by kernel_rfl) (M.get mS 1 _ rfl)) ?_; refine xaL (.int .i64 ((0:Nat):Int)) (lenS _ 28 5 sc 0 cc rfl Try.underlying28 rfl _) ?_; refine xaL (.bool true) (eqlI .i64 _ _ _ _ _ _ rfl rfl rfl true rfl _) ?_; refine xT ?_; go_upto_region 9 with fail; refine wp_region_list ?_; refine xpL (.int .i64 (i:Int)) ?_
            refine xpL (.pointer (some ⟨B3,0,none⟩)) ?_; refine skipOpL rfl (storeAny (.int .i64 (i:Int)) B3 0 3 _ _ rfl rfl rfl rfl rfl (M.isSome mS 0 (by simp)) (M.free mS 0 (by simp)) (by kernel_rfl)) ?_; simp only [Act.put]; replace M:=M.set 0 (by simp) (.int .i64 (i:Int))
            replace V_b:=ownsRow_away V_b ((Off.refl [B3] _).set (b:=B3) mS 0 (.int .i64 (i:Int))) (fun b_ hb_=>by obtain rfl:=xm1 hb_; exact M.awayB (fun p_ hp_=>by simp [hp_])); replace V_a:=ownsRow_away V_a ((Off.refl [B3] _).set (b:=B3) mS 0 (.int .i64 (i:Int))) (fun b_ hb_=>by obtain rfl:=xm1 hb_; exact M.awayB (fun p_ hp_=>by simp [hp_]))
            replace V_h:=ownsRow_away V_h ((Off.refl [B3] _).set (b:=B3) mS 0 (.int .i64 (i:Int))) (fun b_ hb_=>by obtain rfl:=xm1 hb_; exact M.awayB (fun p_ hp_=>by simp [hp_])); replace OF:=OF.and1 ((Off.refl [B3] _).set (b:=B3) mS 0 (.int .i64 (i:Int))) (.inr hB_B3)
            replace V_c:=ownsRow_away V_c ((Off.refl [B3] _).set (b:=B3) mS 0 (.int .i64 (i:Int))) (fun b_ hb_=>by obtain rfl:=xm1 hb_; exact M.awayB (fun p_ hp_=>by simp [hp_])); generalize wr.setCell ⟨B3,0,none⟩ (.int .i64 (i:Int))=w5 at M V_b V_a V_h OF L_b L_a L_h V_c L_c ⊢
            replace M:Mm w0 ((B3,[.int .i64 (i:Int),.slice sc 0 cc])::(B1,[.int .i64 0,.slice none 0 0])::(R,[.int .i64 o.size,.int .i64 o.lim,.int .i64 ((o.sent:Nat):Int),.slice (some ⟨gb,0,none⟩) o.b.length cb,.slice (some ⟨ga,0,none⟩) o.b.length ca,.slice sh o.b.length ch])::((obs sc)++((obs (some ⟨gb,0,none⟩))++((obs (some ⟨ga,0,none⟩))++((obs sh)++l))))) w5:=M
            refine xT ?_; go_upto_region 10 with fail; have hdr:=(Below.refl w5.heap.size w5).drew; replace M:=M.drew; replace V_b:=ownsRow_bel V_b hdr; replace V_a:=ownsRow_bel V_a hdr; replace V_h:=ownsRow_bel V_h hdr; replace OF:=OF.below hdr; replace V_c:=ownsRow_bel V_c hdr; clear hdr
            refine wp_region_C (S:=fun w'=>Mm w0 [(B3,[.int .i64 (i:Int),.slice sc 0 cc]),(B1,[.int .i64 0,.slice none 0 0]),(R,[.int .i64 o.size,.int .i64 o.lim,.int .i64 ((o.sent:Nat):Int),.slice (some ⟨gb,0,none⟩) o.b.length cb,.slice (some ⟨ga,0,none⟩) o.b.length ca,.slice sh o.b.length ch])] w'∧w'.ownsRow w0.heap.size 5 1 (.slice (some ⟨gb,0,none⟩) o.b.length cb) o.b.length (row .u8 o.b.length (bl o.b))) 12 (by kernel_rfl) ⟨(M.sub _ (List.cons_sublist_cons.2 (List.cons_sublist_cons.2 (List.cons_sublist_cons.2 (List.nil_sublist _))))),V_b⟩ ?_
            intro _; generalize w5.drew=w6 at M V_b V_a V_h OF V_c ⊢
            refine readC (i:=0) (some 58) rfl (.pointer (some ⟨B3,1,none⟩)) rfl rfl (by kernel_rfl) rfl (fun _ hS=>(by kernel_rfl)) (by kernel_rfl) (by kernel_rfl) (by kernel_rfl) (by kernel_rfl) (fun _ _ _ h=>h) ⟨(M.sub _ (List.cons_sublist_cons.2 (List.cons_sublist_cons.2 (List.cons_sublist_cons.2 (List.nil_sublist _))))),V_b⟩ ?_; simp only [aP,lI,l0,lS]
            refine readC (i:=1) (some 59) rfl (.slice sc 0 cc) rfl rfl (by kernel_rfl) rfl (fun _ hS=>load1 28 _ ⟨B3,1,none⟩ _ rfl rfl (fun _=>by kernel_rfl) (hS.1.get mS 1 _ rfl)) (by kernel_rfl) (by kernel_rfl) (by kernel_rfl) (by kernel_rfl) (fun _ _ _ h=>h) ⟨(M.sub _ (List.cons_sublist_cons.2 (List.cons_sublist_cons.2 (List.cons_sublist_cons.2 (List.nil_sublist _))))),V_b⟩ ?_
            simp only [aP,lI,l0,lS]; refine readC (i:=2) (some 60) rfl (.pointer (some ⟨R,0,none⟩)) rfl rfl (by kernel_rfl) rfl (fun _ hS=>(by kernel_rfl)) (by kernel_rfl) (by kernel_rfl) (by kernel_rfl) (by kernel_rfl) (fun _ _ _ h=>h) ⟨(M.sub _ (List.cons_sublist_cons.2 (List.cons_sublist_cons.2 (List.cons_sublist_cons.2 (List.nil_sublist _))))),V_b⟩ ?_; simp only [aP,lI,l0,lS]
            refine readC (i:=3) (some 61) rfl (.pointer (some ⟨R,0,none⟩)) rfl rfl (by kernel_rfl) rfl (fun _ hS=>(by kernel_rfl)) (by kernel_rfl) (by kernel_rfl) (by kernel_rfl) (by kernel_rfl) (fun _ _ _ h=>h) ⟨(M.sub _ (List.cons_sublist_cons.2 (List.cons_sublist_cons.2 (List.cons_sublist_cons.2 (List.nil_sublist _))))),V_b⟩ ?_; simp only [aP,lI,l0,lS]
            refine readC (i:=4) (some 62) rfl (.pointer (some ⟨R,3,none⟩)) rfl rfl (by kernel_rfl) rfl (fun _ hS=>(by kernel_rfl)) (by kernel_rfl) (by kernel_rfl) (by kernel_rfl) (by kernel_rfl) (fun _ _ _ h=>h) ⟨(M.sub _ (List.cons_sublist_cons.2 (List.cons_sublist_cons.2 (List.cons_sublist_cons.2 (List.nil_sublist _))))),V_b⟩ ?_; simp only [aP,lI,l0,lS]
            refine readC (i:=5) (some 63) rfl (.slice (some ⟨gb,0,none⟩) o.b.length cb) rfl rfl (by kernel_rfl) rfl (fun _ hS=>load1 28 _ ⟨R,3,none⟩ _ rfl rfl (fun _=>by kernel_rfl) (hS.1.get (mI 2 rfl) 3 _ rfl)) (by kernel_rfl) (by kernel_rfl) (by kernel_rfl) (by kernel_rfl) (fun _ _ _ h=>h) ⟨(M.sub _ (List.cons_sublist_cons.2 (List.cons_sublist_cons.2 (List.cons_sublist_cons.2 (List.nil_sublist _))))),V_b⟩ ?_
            simp only [aP,lI,l0,lS]; refine readC (i:=6) (some 64) rfl (.int .i64 (i:Int)) rfl rfl (by kernel_rfl) rfl (fun _ hS=>(by kernel_rfl)) (by kernel_rfl) (by kernel_rfl) (by kernel_rfl) (by kernel_rfl) (fun _ _ _ h=>h) ⟨(M.sub _ (List.cons_sublist_cons.2 (List.cons_sublist_cons.2 (List.cons_sublist_cons.2 (List.nil_sublist _))))),V_b⟩ ?_; simp only [aP,lI,l0,lS]
            refine readC (i:=7) (some 65) rfl (.pointer (some ⟨gb,i,none⟩)) rfl rfl (by kernel_rfl) rfl (fun _ hS=>idxRow 28 5 gb _ _ i _ _ Try.underlying28 (fun _=>by kernel_rfl) hil rfl rfl rfl _) (by kernel_rfl) (by kernel_rfl) (by kernel_rfl) (by kernel_rfl) (fun _ _ _ h=>h) ⟨(M.sub _ (List.cons_sublist_cons.2 (List.cons_sublist_cons.2 (List.cons_sublist_cons.2 (List.nil_sublist _))))),V_b⟩ ?_
            simp only [aP,lI,l0,lS]
            refine readC (i:=8) (some 66) rfl (.int .u8 ((bl o.b) i)) rfl rfl (by kernel_rfl) rfl (fun _ hS=>load1 5 _ ⟨gb,i,none⟩ _ rfl rfl (fun _=>by kernel_rfl) (rowCell hS.2 (row_get .u8 _ (bl o.b) i hil))) (by kernel_rfl) (by kernel_rfl) (by kernel_rfl) (by kernel_rfl) (fun _ _ _ h=>h) ⟨(M.sub _ (List.cons_sublist_cons.2 (List.cons_sublist_cons.2 (List.cons_sublist_cons.2 (List.nil_sublist _))))),V_b⟩ ?_
            simp only [aP,lI,l0,lS]; have hlb:=(Below.refl w6.heap.size w6).alloc (xnR _) (.cells #[.int .u8 ((bl o.b) i)] 5); have T_7:=World.ownsRow.cells (World.ownsRow_lit (base:=w6.heap.size) (e:=5) (size:=1) w6 #[.int .u8 ((bl o.b) i)] 1 (xnR _) (by unfold maxLen; omega) rfl) (g:=w6.heap.size) rfl; replace V_b:=ownsRow_bel V_b hlb; replace V_a:=ownsRow_bel V_a hlb
            replace V_h:=ownsRow_bel V_h hlb; replace OF:=OF.below hlb; replace V_c:=ownsRow_bel V_c hlb; replace M:=M.call hlb; clear hlb
            refine onlyC (i:=9) (w':=w6.alloc (.cells #[.int .u8 ((bl o.b) i)] 5)) (some 67) rfl (.slice (some ⟨w6.heap.size,0,none⟩) 1 1) (by kernel_rfl) rfl rfl (by kernel_rfl) ⟨(M.sub _ (List.cons_sublist_cons.2 (List.cons_sublist_cons.2 (List.cons_sublist_cons.2 (List.nil_sublist _))))),V_b⟩ ?_; simp only [aP,lI,l0,lS]
            generalize w6.alloc (.cells #[.int .u8 ((bl o.b) i)] 5)=w7 at M T_7 V_b V_a V_h OF V_c ⊢; generalize w6.heap.size=bz7 at T_7 ⊢
            obtain ⟨v2,w8,hr,V2,hgr,hg2⟩:=run_append_Own (P:=Try.prog) (ty:=28) Try.underlying28 one8 V_c (some ⟨bz7,0,none⟩) 1 1 (fun _=>(bl o.b) i) (fun j_ hj_=>⟨_,rfl,T_7 j_ _ (by have e_:j_=0:=(by omega); subst e_; rfl)⟩) (fun e_=>by cases e_) (by unfold maxLen; omega) (by omega) (xnT hb0.size OF.size)
            have Mp:=M.perm (pull0 ([(B3,[.int .i64 (i:Int),.slice sc 0 cc]),(B1,[.int .i64 0,.slice none 0 0]),(R,[.int .i64 o.size,.int .i64 o.lim,.int .i64 ((o.sent:Nat):Int),.slice (some ⟨gb,0,none⟩) o.b.length cb,.slice (some ⟨ga,0,none⟩) o.b.length ca,.slice sh o.b.length ch])]:List (Nat × List Value)) (obs sc) ((obs (some ⟨gb,0,none⟩))++((obs (some ⟨ga,0,none⟩))++((obs sh)++l))))
            have ho:=Off.grown (Off.refl (ob sc) w7) hgr (fun b_ hb_=>.inl ((ob_own _ _ _ b_).1 hb_)); replace V_b:=ownsRow_away V_b ho (Mp.awayO (fun p_ hp_=>by simp [hp_])); replace V_a:=ownsRow_away V_a ho (Mp.awayO (fun p_ hp_=>by simp [hp_])); replace V_h:=ownsRow_away V_h ho (Mp.awayO (fun p_ hp_=>by simp [hp_]))
            obtain ⟨sv8,cv8,rfl,_,_⟩:=row_form16 V2
            have L2:=L_c.grown hg2 OF.size; replace OF:=OF.grown hgr (fun b_ hb_=>L_c b_ ((ob_own _ _ _ b_).1 hb_))
            have M':=Mp.rowApp V_c hgr V2 hg2 (xnR _)
            clear M Mp ho hgr hg2 V_c L_c; have L_c:=L2; clear L2
            have M:Mm w0 ((B3,[.int .i64 (i:Int),.slice sc 0 cc])::(B1,[.int .i64 0,.slice none 0 0])::(R,[.int .i64 o.size,.int .i64 o.lim,.int .i64 ((o.sent:Nat):Int),.slice (some ⟨gb,0,none⟩) o.b.length cb,.slice (some ⟨ga,0,none⟩) o.b.length ca,.slice sh o.b.length ch])::((obs sv8)++((obs (some ⟨gb,0,none⟩))++((obs (some ⟨ga,0,none⟩))++((obs sh)++l))))) w8:=M'.perm (pull0 ([(B3,[.int .i64 (i:Int),.slice sc 0 cc]),(B1,[.int .i64 0,.slice none 0 0]),(R,[.int .i64 o.size,.int .i64 o.lim,.int .i64 ((o.sent:Nat):Int),.slice (some ⟨gb,0,none⟩) o.b.length cb,.slice (some ⟨ga,0,none⟩) o.b.length ca,.slice sh o.b.length ch])]:List (Nat × List Value)) (obs sv8) ((obs (some ⟨gb,0,none⟩))++((obs (some ⟨ga,0,none⟩))++((obs sh)++l)))).symm
            clear M'; refine onlyC (i:=10) (some 68) rfl (_) (by kernel_rfl) rfl rfl (appendOp _ _ 28 _ _ _ rfl rfl rfl hr) ⟨(M.sub _ (List.cons_sublist_cons.2 (List.cons_sublist_cons.2 (List.cons_sublist_cons.2 (List.nil_sublist _))))),V_b⟩ ?_; simp only [aP,lI,l0,lS]; clear hr; replace V2:=Own.congr V2 (fun j hj=>kapp_bl hik j hj)
            replace V2:w8.ownsRow w0.heap.size 5 1 (.slice sv8 (0+1) cv8) (0+1) (row .u8 (0+1) (fun j=>bl o.b (onA o+j))):=V2
            have V_c:=V2; clear V2; clear T_7; refine readC (i:=11) (some 69) rfl (.pointer (some ⟨B3,1,none⟩)) rfl rfl (by kernel_rfl) rfl (fun _ hS=>(by kernel_rfl)) (by kernel_rfl) (by kernel_rfl) (by kernel_rfl) (by kernel_rfl) (fun _ _ _ h=>h) ⟨(M.sub _ (List.cons_sublist_cons.2 (List.cons_sublist_cons.2 (List.cons_sublist_cons.2 (List.nil_sublist _))))),V_b⟩ ?_
            simp only [aP,lI,l0,lS]; refine skipC (S2:=fun _=>True) none rfl (by kernel_rfl) rfl rfl (storeAny (.slice sv8 (0+1) cv8) B3 1 28 _ _ rfl rfl rfl rfl rfl (M.isSome mS 1 (by simp)) (M.free mS 1 (by simp)) (by kernel_rfl)) (by kernel_rfl) ?_; simp only [Act.put]; replace M:=M.set 1 (by simp) (.slice sv8 (0+1) cv8)
            replace V_b:=ownsRow_away V_b ((Off.refl [B3] _).set (b:=B3) mS 1 (.slice sv8 (0+1) cv8)) (fun b_ hb_=>by obtain rfl:=xm1 hb_; exact M.awayB (fun p_ hp_=>by simp [hp_])); replace V_a:=ownsRow_away V_a ((Off.refl [B3] _).set (b:=B3) mS 1 (.slice sv8 (0+1) cv8)) (fun b_ hb_=>by obtain rfl:=xm1 hb_; exact M.awayB (fun p_ hp_=>by simp [hp_]))
            replace V_h:=ownsRow_away V_h ((Off.refl [B3] _).set (b:=B3) mS 1 (.slice sv8 (0+1) cv8)) (fun b_ hb_=>by obtain rfl:=xm1 hb_; exact M.awayB (fun p_ hp_=>by simp [hp_])); replace OF:=OF.and1 ((Off.refl [B3] _).set (b:=B3) mS 1 (.slice sv8 (0+1) cv8)) (.inr hB_B3)
            replace V_c:=ownsRow_away V_c ((Off.refl [B3] _).set (b:=B3) mS 1 (.slice sv8 (0+1) cv8)) (fun b_ hb_=>by obtain rfl:=xm1 hb_; exact M.awayB (fun p_ hp_=>by simp [hp_])); generalize w8.setCell ⟨B3,1,none⟩ (.slice sv8 (0+1) cv8)=w9 at M V_b V_a V_h OF V_c ⊢
            replace M:Mm w0 ((B3,[.int .i64 (i:Int),.slice sv8 (0+1) cv8])::(B1,[.int .i64 0,.slice none 0 0])::(R,[.int .i64 o.size,.int .i64 o.lim,.int .i64 ((o.sent:Nat):Int),.slice (some ⟨gb,0,none⟩) o.b.length cb,.slice (some ⟨ga,0,none⟩) o.b.length ca,.slice sh o.b.length ch])::((obs sv8)++((obs (some ⟨gb,0,none⟩))++((obs (some ⟨ga,0,none⟩))++((obs sh)++l))))) w9:=M
            refine wpAnyH_done (by kernel_rfl) ?_ _
            first | show Exit.then _ _ _ _ _ | show Exit.inBlock _ _ _ _ _
            go_upto_region 11 with fail; refine wp_region_list ?_; refine xpL (.pointer (some ⟨R,0,none⟩)) ?_; refine xpL (.pointer (some ⟨R,0,none⟩)) ?_; refine xpL (.pointer (some ⟨R,4,none⟩)) ?_; refine xaL (.slice (some ⟨ga,0,none⟩) o.b.length ca) (load1 43 _ ⟨R,4,none⟩ _ rfl rfl (fun _=>by kernel_rfl) (M.get (mI 2 rfl) 4 _ rfl)) ?_; refine xpL (.int .i64 (i:Int)) ?_
            refine xaL (.pointer (some ⟨ga,i,none⟩)) (idxRow 43 4 ga _ _ i _ _ Try.underlying43 (fun _=>by kernel_rfl) hil rfl rfl rfl _) ?_
            have Mp:=M.perm (pull2 ([(B3,[.int .i64 (i:Int),.slice sv8 (0+1) cv8]),(B1,[.int .i64 0,.slice none 0 0]),(R,[.int .i64 o.size,.int .i64 o.lim,.int .i64 ((o.sent:Nat):Int),.slice (some ⟨gb,0,none⟩) o.b.length cb,.slice (some ⟨ga,0,none⟩) o.b.length ca,.slice sh o.b.length ch])]:List (Nat × List Value)) (obs sv8) (obs (some ⟨gb,0,none⟩)) (obs (some ⟨ga,0,none⟩)) ((obs sh)++l))
            obtain ⟨hsf,M'⟩:=Mp.setObs V_a (xnR _) i (by rw [brw_length]; exact hil) (.bool false)
            refine skipOpL rfl (storeAny (.bool false) ga i 4 _ _ rfl rfl rfl rfl rfl hsf.1 hsf.2 (by kernel_rfl)) ?_; simp only [Act.put]; have ho:=(Off.refl [ga] w9).set (b:=ga) mS i (.bool false); replace V_b:=ownsRow_away V_b ho (Mp.awayO (so:=some ⟨ga,0,none⟩) (fun p_ hp_=>by simp [hp_]))
            replace V_h:=ownsRow_away V_h ho (Mp.awayO (so:=some ⟨ga,0,none⟩) (fun p_ hp_=>by simp [hp_])); replace V_c:=ownsRow_away V_c ho (Mp.awayO (so:=some ⟨ga,0,none⟩) (fun p_ hp_=>by simp [hp_])); replace OF:=OF.and1 ho (L_a ga mS); replace V_a:=ownsRow_put V_a i (.bool false)
            rw [brw_set] at V_a
            clear M Mp ho hsf
            have M:=M'.perm (pull2 ([(B3,[.int .i64 (i:Int),.slice sv8 (0+1) cv8]),(B1,[.int .i64 0,.slice none 0 0]),(R,[.int .i64 o.size,.int .i64 o.lim,.int .i64 ((o.sent:Nat):Int),.slice (some ⟨gb,0,none⟩) o.b.length cb,.slice (some ⟨ga,0,none⟩) o.b.length ca,.slice sh o.b.length ch])]:List (Nat × List Value)) (obs sv8) (obs (some ⟨gb,0,none⟩)) (obs (some ⟨ga,0,none⟩)) ((obs sh)++l)).symm
            clear M'; generalize w9.setCell ⟨ga,i,none⟩ (.bool false)=w10 at M V_b V_a V_h OF V_c ⊢
            replace M:Mm w0 ((B3,[.int .i64 (i:Int),.slice sv8 (0+1) cv8])::(B1,[.int .i64 0,.slice none 0 0])::(R,[.int .i64 o.size,.int .i64 o.lim,.int .i64 ((o.sent:Nat):Int),.slice (some ⟨gb,0,none⟩) o.b.length cb,.slice (some ⟨ga,0,none⟩) o.b.length ca,.slice sh o.b.length ch])::((obs sv8)++((obs (some ⟨gb,0,none⟩))++((obs (some ⟨ga,0,none⟩))++((obs sh)++l))))) w10:=M
            refine xT ?_
            rw [brw_congr (fun j _=>kag_put hik j)] at V_a
            have hoa:oat o (0+1)=(i:Int):=by rw [oat_pos (by omega)]; omega
            skip
            replace M:Mm w0 ((B3,[.int .i64 (oat o (0+1)),.slice sv8 (0+1) cv8])::(B1,[.int .i64 0,.slice none 0 0])::(R,[.int .i64 o.size,.int .i64 o.lim,.int .i64 ((o.sent:Nat):Int),.slice (some ⟨gb,0,none⟩) o.b.length cb,.slice (some ⟨ga,0,none⟩) o.b.length ca,.slice sh o.b.length ch])::((obs sv8)++((obs (some ⟨gb,0,none⟩))++((obs (some ⟨ga,0,none⟩))++((obs sh)++l))))) w10:=by rw [hoa]; exact M
            clear hoa
            replace M:Mm w0 ((B3,[.int .i64 (oat o (0+1)),.slice sv8 (0+1) cv8])::(B1,[.int .i64 0,.slice none 0 0])::(R,[.int .i64 o.size,.int .i64 o.lim,.int .i64 ((o.sent:Nat):Int),.slice (some ⟨gb,0,none⟩) o.b.length cb,.slice (some ⟨ga,0,none⟩) o.b.length ca,.slice sh o.b.length ch])::((obs sv8)++((obs (some ⟨gb,0,none⟩))++((obs (some ⟨ga,0,none⟩))++((obs sh)++l))))) w10:=M
            clear ha
            have HS:=show Hid _ from (show Mm w0 ((B3,[.int .i64 (oat o (0+1)),.slice sv8 (0+1) cv8])::(B1,[.int .i64 0,.slice none 0 0])::(R,[.int .i64 o.size,.int .i64 o.lim,.int .i64 ((o.sent:Nat):Int),.slice (some ⟨gb,0,none⟩) o.b.length cb,.slice (some ⟨ga,0,none⟩) o.b.length ca,.slice sh o.b.length ch])::((obs sv8)++((obs (some ⟨gb,0,none⟩))++((obs (some ⟨ga,0,none⟩))++((obs sh)++l))))) w10∧w10.ownsRow w0.heap.size 5 1 (.slice sv8 (0+1) cv8) (0+1) (row .u8 (0+1) (fun j=>bl o.b (onA o+j)))∧w10.ownsRow w0.heap.size 5 1 (.slice (some ⟨gb,0,none⟩) o.b.length cb) o.b.length (row .u8 o.b.length (bl o.b))∧w10.ownsRow w0.heap.size 4 1 (.slice (some ⟨ga,0,none⟩) o.b.length ca) o.b.length (brw o.b.length (kag o (0+1)))∧w10.ownsRow w0.heap.size 4 1 (.slice sh o.b.length ch) o.b.length (brw o.b.length o.he)∧Lies XS w sv8∧Off XS w w10 from ⟨M,V_c,V_b,V_a,V_h,L_c,OF⟩)
            have hk1:=show Hid _ from (show (0+1)=okk o p (i+1) from by omega); clear M V_c V_b V_a V_h L_c OF hk; go_wp2
            go_roundw
            case rel=>exact ⟨i+1,(0+1),_,_,by omega,hk1.out,by go_num,HS.out⟩
            case measure=>simp [intOf]; omega
          · go_upto_region 7 with fail
            refine wp_region_list ?_; refine xpL (.pointer (some ⟨R,0,none⟩)) ?_; refine xpL (.pointer (some ⟨R,0,none⟩)) ?_; refine xpL (.pointer (some ⟨R,4,none⟩)) ?_; refine xaL (.slice (some ⟨ga,0,none⟩) o.b.length ca) (load1 43 _ ⟨R,4,none⟩ _ rfl rfl (fun _=>by kernel_rfl) (M.get (mI 2 rfl) 4 _ rfl)) ?_; refine xpL (.int .i64 (i:Int)) ?_
            refine xaL (.pointer (some ⟨ga,i,none⟩)) (idxRow 43 4 ga _ _ i _ _ Try.underlying43 (fun _=>by kernel_rfl) hil rfl rfl rfl _) ?_; refine xaL (.bool true) (load1 4 _ ⟨ga,i,none⟩ _ rfl rfl (fun _=>by kernel_rfl) (rowCell V_a (by rw [brw_get _ hil,hka]))) ?_; refine xpL (.bool true) ?_; refine xpL (.pointer (some ⟨B3,1,none⟩)) ?_
            refine xaL (.slice sc k cc) (load1 28 _ ⟨B3,1,none⟩ _ rfl rfl (fun _=>by kernel_rfl) (M.get mS 1 _ rfl)) ?_; refine xaL (.int .i64 ((k:Nat):Int)) (lenS _ 28 5 sc k cc rfl Try.underlying28 rfl _) ?_; refine xaL (.bool false) (eqlI .i64 _ _ _ _ _ _ rfl rfl rfl false (by rw [beq_eq_false_iff_ne]; omega) _) ?_; refine xpL (.bool false) ?_
            refine xpL (.pointer (some ⟨B3,0,none⟩)) ?_; refine xaL (.int .i64 (oat o k)) (load1 3 _ ⟨B3,0,none⟩ _ rfl rfl (fun _=>by kernel_rfl) (M.get mS 0 _ rfl)) ?_; refine xpL (.pointer (some ⟨B3,1,none⟩)) ?_; refine xaL (.slice sc k cc) (load1 28 _ ⟨B3,1,none⟩ _ rfl rfl (fun _=>by kernel_rfl) (M.get mS 1 _ rfl)) ?_
            refine xaL (.int .i64 ((k:Nat):Int)) (lenS _ 28 5 sc k cc rfl Try.underlying28 rfl _) ?_
            refine xaL (.int .i64 ((onA o+k:Nat):Int)) (addI .i64 _ _ _ _ _ _ _ rfl rfl rfl (by rw [xw6,oat_pos (by omega)]; omega) _) ?_
            refine xpL (.int .i64 (i:Int)) ?_; refine xaL (.bool true) (eqlI .i64 _ _ _ _ _ _ rfl rfl rfl true (by rw [beq_iff_eq]; omega) _) ?_; refine xpL (.bool true) ?_; refine xpL (.bool true) ?_; refine xpL (.bool true) ?_; refine xpL (.pointer (some ⟨B3,1,none⟩)) ?_; refine xaL (.slice sc k cc) (load1 28 _ ⟨B3,1,none⟩ _ rfl rfl (fun _=>by kernel_rfl) (M.get mS 1 _ rfl)) ?_
            refine xaL (.int .i64 ((k:Nat):Int)) (lenS _ 28 5 sc k cc rfl Try.underlying28 rfl _) ?_; refine xpL (.int .i64 p) ?_; refine xaL (.bool true) (lssI .i64 _ _ _ _ _ _ rfl rfl rfl true (decide_eq_true (by omega)) _) ?_; refine xpL (.bool true) ?_; refine xT ?_; clear hka; go_upto_region 8 with fail; refine wp_region_list ?_; refine xpL (.pointer (some ⟨B3,1,none⟩)) ?_
            refine xaL (.slice sc k cc) (load1 28 _ ⟨B3,1,none⟩ _ rfl rfl (fun _=>by kernel_rfl) (M.get mS 1 _ rfl)) ?_; refine xaL (.int .i64 ((k:Nat):Int)) (lenS _ 28 5 sc k cc rfl Try.underlying28 rfl _) ?_; refine xaL (.bool false) (eqlI .i64 _ _ _ _ _ _ rfl rfl rfl false (by rw [beq_eq_false_iff_ne]; omega) _) ?_; refine xT ?_; go_upto_region 10 with fail
            have hdr:=(Below.refl wr.heap.size wr).drew; replace M:=M.drew; replace V_b:=ownsRow_bel V_b hdr; replace V_a:=ownsRow_bel V_a hdr; replace V_h:=ownsRow_bel V_h hdr; replace OF:=OF.below hdr; replace V_c:=ownsRow_bel V_c hdr; clear hdr
            refine wp_region_C (S:=fun w'=>Mm w0 [(B3,[.int .i64 (oat o k),.slice sc k cc]),(B1,[.int .i64 0,.slice none 0 0]),(R,[.int .i64 o.size,.int .i64 o.lim,.int .i64 ((o.sent:Nat):Int),.slice (some ⟨gb,0,none⟩) o.b.length cb,.slice (some ⟨ga,0,none⟩) o.b.length ca,.slice sh o.b.length ch])] w'∧w'.ownsRow w0.heap.size 5 1 (.slice (some ⟨gb,0,none⟩) o.b.length cb) o.b.length (row .u8 o.b.length (bl o.b))) 12 (by kernel_rfl) ⟨(M.sub _ (List.cons_sublist_cons.2 (List.cons_sublist_cons.2 (List.cons_sublist_cons.2 (List.nil_sublist _))))),V_b⟩ ?_
            intro _; generalize wr.drew=w11 at M V_b V_a V_h OF V_c ⊢
            refine readC (i:=0) (some 58) rfl (.pointer (some ⟨B3,1,none⟩)) rfl rfl (by kernel_rfl) rfl (fun _ hS=>(by kernel_rfl)) (by kernel_rfl) (by kernel_rfl) (by kernel_rfl) (by kernel_rfl) (fun _ _ _ h=>h) ⟨(M.sub _ (List.cons_sublist_cons.2 (List.cons_sublist_cons.2 (List.cons_sublist_cons.2 (List.nil_sublist _))))),V_b⟩ ?_; simp only [aP,lI,l0,lS]
            refine readC (i:=1) (some 59) rfl (.slice sc k cc) rfl rfl (by kernel_rfl) rfl (fun _ hS=>load1 28 _ ⟨B3,1,none⟩ _ rfl rfl (fun _=>by kernel_rfl) (hS.1.get mS 1 _ rfl)) (by kernel_rfl) (by kernel_rfl) (by kernel_rfl) (by kernel_rfl) (fun _ _ _ h=>h) ⟨(M.sub _ (List.cons_sublist_cons.2 (List.cons_sublist_cons.2 (List.cons_sublist_cons.2 (List.nil_sublist _))))),V_b⟩ ?_
            simp only [aP,lI,l0,lS]; refine readC (i:=2) (some 60) rfl (.pointer (some ⟨R,0,none⟩)) rfl rfl (by kernel_rfl) rfl (fun _ hS=>(by kernel_rfl)) (by kernel_rfl) (by kernel_rfl) (by kernel_rfl) (by kernel_rfl) (fun _ _ _ h=>h) ⟨(M.sub _ (List.cons_sublist_cons.2 (List.cons_sublist_cons.2 (List.cons_sublist_cons.2 (List.nil_sublist _))))),V_b⟩ ?_; simp only [aP,lI,l0,lS]
            refine readC (i:=3) (some 61) rfl (.pointer (some ⟨R,0,none⟩)) rfl rfl (by kernel_rfl) rfl (fun _ hS=>(by kernel_rfl)) (by kernel_rfl) (by kernel_rfl) (by kernel_rfl) (by kernel_rfl) (fun _ _ _ h=>h) ⟨(M.sub _ (List.cons_sublist_cons.2 (List.cons_sublist_cons.2 (List.cons_sublist_cons.2 (List.nil_sublist _))))),V_b⟩ ?_; simp only [aP,lI,l0,lS]
            refine readC (i:=4) (some 62) rfl (.pointer (some ⟨R,3,none⟩)) rfl rfl (by kernel_rfl) rfl (fun _ hS=>(by kernel_rfl)) (by kernel_rfl) (by kernel_rfl) (by kernel_rfl) (by kernel_rfl) (fun _ _ _ h=>h) ⟨(M.sub _ (List.cons_sublist_cons.2 (List.cons_sublist_cons.2 (List.cons_sublist_cons.2 (List.nil_sublist _))))),V_b⟩ ?_; simp only [aP,lI,l0,lS]
            refine readC (i:=5) (some 63) rfl (.slice (some ⟨gb,0,none⟩) o.b.length cb) rfl rfl (by kernel_rfl) rfl (fun _ hS=>load1 28 _ ⟨R,3,none⟩ _ rfl rfl (fun _=>by kernel_rfl) (hS.1.get (mI 2 rfl) 3 _ rfl)) (by kernel_rfl) (by kernel_rfl) (by kernel_rfl) (by kernel_rfl) (fun _ _ _ h=>h) ⟨(M.sub _ (List.cons_sublist_cons.2 (List.cons_sublist_cons.2 (List.cons_sublist_cons.2 (List.nil_sublist _))))),V_b⟩ ?_
            simp only [aP,lI,l0,lS]; refine readC (i:=6) (some 64) rfl (.int .i64 (i:Int)) rfl rfl (by kernel_rfl) rfl (fun _ hS=>(by kernel_rfl)) (by kernel_rfl) (by kernel_rfl) (by kernel_rfl) (by kernel_rfl) (fun _ _ _ h=>h) ⟨(M.sub _ (List.cons_sublist_cons.2 (List.cons_sublist_cons.2 (List.cons_sublist_cons.2 (List.nil_sublist _))))),V_b⟩ ?_; simp only [aP,lI,l0,lS]
            refine readC (i:=7) (some 65) rfl (.pointer (some ⟨gb,i,none⟩)) rfl rfl (by kernel_rfl) rfl (fun _ hS=>idxRow 28 5 gb _ _ i _ _ Try.underlying28 (fun _=>by kernel_rfl) hil rfl rfl rfl _) (by kernel_rfl) (by kernel_rfl) (by kernel_rfl) (by kernel_rfl) (fun _ _ _ h=>h) ⟨(M.sub _ (List.cons_sublist_cons.2 (List.cons_sublist_cons.2 (List.cons_sublist_cons.2 (List.nil_sublist _))))),V_b⟩ ?_
            simp only [aP,lI,l0,lS]
            refine readC (i:=8) (some 66) rfl (.int .u8 ((bl o.b) i)) rfl rfl (by kernel_rfl) rfl (fun _ hS=>load1 5 _ ⟨gb,i,none⟩ _ rfl rfl (fun _=>by kernel_rfl) (rowCell hS.2 (row_get .u8 _ (bl o.b) i hil))) (by kernel_rfl) (by kernel_rfl) (by kernel_rfl) (by kernel_rfl) (fun _ _ _ h=>h) ⟨(M.sub _ (List.cons_sublist_cons.2 (List.cons_sublist_cons.2 (List.cons_sublist_cons.2 (List.nil_sublist _))))),V_b⟩ ?_
            simp only [aP,lI,l0,lS]; have hlb:=(Below.refl w11.heap.size w11).alloc (xnR _) (.cells #[.int .u8 ((bl o.b) i)] 5); have T_12:=World.ownsRow.cells (World.ownsRow_lit (base:=w11.heap.size) (e:=5) (size:=1) w11 #[.int .u8 ((bl o.b) i)] 1 (xnR _) (by unfold maxLen; omega) rfl) (g:=w11.heap.size) rfl; replace V_b:=ownsRow_bel V_b hlb; replace V_a:=ownsRow_bel V_a hlb
            replace V_h:=ownsRow_bel V_h hlb; replace OF:=OF.below hlb; replace V_c:=ownsRow_bel V_c hlb; replace M:=M.call hlb; clear hlb
            refine onlyC (i:=9) (w':=w11.alloc (.cells #[.int .u8 ((bl o.b) i)] 5)) (some 67) rfl (.slice (some ⟨w11.heap.size,0,none⟩) 1 1) (by kernel_rfl) rfl rfl (by kernel_rfl) ⟨(M.sub _ (List.cons_sublist_cons.2 (List.cons_sublist_cons.2 (List.cons_sublist_cons.2 (List.nil_sublist _))))),V_b⟩ ?_; simp only [aP,lI,l0,lS]
            generalize w11.alloc (.cells #[.int .u8 ((bl o.b) i)] 5)=w12 at M T_12 V_b V_a V_h OF V_c ⊢; generalize w11.heap.size=bz12 at T_12 ⊢
            obtain ⟨v2,w13,hr,V2,hgr,hg2⟩:=run_append_Own (P:=Try.prog) (ty:=28) Try.underlying28 one8 V_c (some ⟨bz12,0,none⟩) 1 1 (fun _=>(bl o.b) i) (fun j_ hj_=>⟨_,rfl,T_12 j_ _ (by have e_:j_=0:=(by omega); subst e_; rfl)⟩) (fun e_=>by cases e_) (by unfold maxLen; omega) (by omega) (xnT hb0.size OF.size)
            have Mp:=M.perm (pull0 ([(B3,[.int .i64 (oat o k),.slice sc k cc]),(B1,[.int .i64 0,.slice none 0 0]),(R,[.int .i64 o.size,.int .i64 o.lim,.int .i64 ((o.sent:Nat):Int),.slice (some ⟨gb,0,none⟩) o.b.length cb,.slice (some ⟨ga,0,none⟩) o.b.length ca,.slice sh o.b.length ch])]:List (Nat × List Value)) (obs sc) ((obs (some ⟨gb,0,none⟩))++((obs (some ⟨ga,0,none⟩))++((obs sh)++l))))
            have ho:=Off.grown (Off.refl (ob sc) w12) hgr (fun b_ hb_=>.inl ((ob_own _ _ _ b_).1 hb_)); replace V_b:=ownsRow_away V_b ho (Mp.awayO (fun p_ hp_=>by simp [hp_])); replace V_a:=ownsRow_away V_a ho (Mp.awayO (fun p_ hp_=>by simp [hp_])); replace V_h:=ownsRow_away V_h ho (Mp.awayO (fun p_ hp_=>by simp [hp_]))
            obtain ⟨sv13,cv13,rfl,_,_⟩:=row_form16 V2
            have L2:=L_c.grown hg2 OF.size; replace OF:=OF.grown hgr (fun b_ hb_=>L_c b_ ((ob_own _ _ _ b_).1 hb_))
            have M':=Mp.rowApp V_c hgr V2 hg2 (xnR _)
            clear M Mp ho hgr hg2 V_c L_c; have L_c:=L2; clear L2
            have M:Mm w0 ((B3,[.int .i64 (oat o k),.slice sc k cc])::(B1,[.int .i64 0,.slice none 0 0])::(R,[.int .i64 o.size,.int .i64 o.lim,.int .i64 ((o.sent:Nat):Int),.slice (some ⟨gb,0,none⟩) o.b.length cb,.slice (some ⟨ga,0,none⟩) o.b.length ca,.slice sh o.b.length ch])::((obs sv13)++((obs (some ⟨gb,0,none⟩))++((obs (some ⟨ga,0,none⟩))++((obs sh)++l))))) w13:=M'.perm (pull0 ([(B3,[.int .i64 (oat o k),.slice sc k cc]),(B1,[.int .i64 0,.slice none 0 0]),(R,[.int .i64 o.size,.int .i64 o.lim,.int .i64 ((o.sent:Nat):Int),.slice (some ⟨gb,0,none⟩) o.b.length cb,.slice (some ⟨ga,0,none⟩) o.b.length ca,.slice sh o.b.length ch])]:List (Nat × List Value)) (obs sv13) ((obs (some ⟨gb,0,none⟩))++((obs (some ⟨ga,0,none⟩))++((obs sh)++l)))).symm
            clear M'; refine onlyC (i:=10) (some 68) rfl (_) (by kernel_rfl) rfl rfl (appendOp _ _ 28 _ _ _ rfl rfl rfl hr) ⟨(M.sub _ (List.cons_sublist_cons.2 (List.cons_sublist_cons.2 (List.cons_sublist_cons.2 (List.nil_sublist _))))),V_b⟩ ?_; simp only [aP,lI,l0,lS]; clear hr; replace V2:=Own.congr V2 (fun j hj=>kapp_bl hik j hj)
            replace V2:w13.ownsRow w0.heap.size 5 1 (.slice sv13 (k+1) cv13) (k+1) (row .u8 (k+1) (fun j=>bl o.b (onA o+j))):=V2
            have V_c:=V2; clear V2; clear T_12; refine readC (i:=11) (some 69) rfl (.pointer (some ⟨B3,1,none⟩)) rfl rfl (by kernel_rfl) rfl (fun _ hS=>(by kernel_rfl)) (by kernel_rfl) (by kernel_rfl) (by kernel_rfl) (by kernel_rfl) (fun _ _ _ h=>h) ⟨(M.sub _ (List.cons_sublist_cons.2 (List.cons_sublist_cons.2 (List.cons_sublist_cons.2 (List.nil_sublist _))))),V_b⟩ ?_
            simp only [aP,lI,l0,lS]; refine skipC (S2:=fun _=>True) none rfl (by kernel_rfl) rfl rfl (storeAny (.slice sv13 (k+1) cv13) B3 1 28 _ _ rfl rfl rfl rfl rfl (M.isSome mS 1 (by simp)) (M.free mS 1 (by simp)) (by kernel_rfl)) (by kernel_rfl) ?_; simp only [Act.put]; replace M:=M.set 1 (by simp) (.slice sv13 (k+1) cv13)
            replace V_b:=ownsRow_away V_b ((Off.refl [B3] _).set (b:=B3) mS 1 (.slice sv13 (k+1) cv13)) (fun b_ hb_=>by obtain rfl:=xm1 hb_; exact M.awayB (fun p_ hp_=>by simp [hp_])); replace V_a:=ownsRow_away V_a ((Off.refl [B3] _).set (b:=B3) mS 1 (.slice sv13 (k+1) cv13)) (fun b_ hb_=>by obtain rfl:=xm1 hb_; exact M.awayB (fun p_ hp_=>by simp [hp_]))
            replace V_h:=ownsRow_away V_h ((Off.refl [B3] _).set (b:=B3) mS 1 (.slice sv13 (k+1) cv13)) (fun b_ hb_=>by obtain rfl:=xm1 hb_; exact M.awayB (fun p_ hp_=>by simp [hp_])); replace OF:=OF.and1 ((Off.refl [B3] _).set (b:=B3) mS 1 (.slice sv13 (k+1) cv13)) (.inr hB_B3)
            replace V_c:=ownsRow_away V_c ((Off.refl [B3] _).set (b:=B3) mS 1 (.slice sv13 (k+1) cv13)) (fun b_ hb_=>by obtain rfl:=xm1 hb_; exact M.awayB (fun p_ hp_=>by simp [hp_])); generalize w13.setCell ⟨B3,1,none⟩ (.slice sv13 (k+1) cv13)=w14 at M V_b V_a V_h OF V_c ⊢
            replace M:Mm w0 ((B3,[.int .i64 (oat o k),.slice sv13 (k+1) cv13])::(B1,[.int .i64 0,.slice none 0 0])::(R,[.int .i64 o.size,.int .i64 o.lim,.int .i64 ((o.sent:Nat):Int),.slice (some ⟨gb,0,none⟩) o.b.length cb,.slice (some ⟨ga,0,none⟩) o.b.length ca,.slice sh o.b.length ch])::((obs sv13)++((obs (some ⟨gb,0,none⟩))++((obs (some ⟨ga,0,none⟩))++((obs sh)++l))))) w14:=M
            refine wpAnyH_done (by kernel_rfl) ?_ _
            first | show Exit.then _ _ _ _ _ | show Exit.inBlock _ _ _ _ _
            go_upto_region 11 with fail; refine wp_region_list ?_; refine xpL (.pointer (some ⟨R,0,none⟩)) ?_; refine xpL (.pointer (some ⟨R,0,none⟩)) ?_; refine xpL (.pointer (some ⟨R,4,none⟩)) ?_; refine xaL (.slice (some ⟨ga,0,none⟩) o.b.length ca) (load1 43 _ ⟨R,4,none⟩ _ rfl rfl (fun _=>by kernel_rfl) (M.get (mI 2 rfl) 4 _ rfl)) ?_; refine xpL (.int .i64 (i:Int)) ?_
            refine xaL (.pointer (some ⟨ga,i,none⟩)) (idxRow 43 4 ga _ _ i _ _ Try.underlying43 (fun _=>by kernel_rfl) hil rfl rfl rfl _) ?_
            have Mp:=M.perm (pull2 ([(B3,[.int .i64 (oat o k),.slice sv13 (k+1) cv13]),(B1,[.int .i64 0,.slice none 0 0]),(R,[.int .i64 o.size,.int .i64 o.lim,.int .i64 ((o.sent:Nat):Int),.slice (some ⟨gb,0,none⟩) o.b.length cb,.slice (some ⟨ga,0,none⟩) o.b.length ca,.slice sh o.b.length ch])]:List (Nat × List Value)) (obs sv13) (obs (some ⟨gb,0,none⟩)) (obs (some ⟨ga,0,none⟩)) ((obs sh)++l))
            obtain ⟨hsf,M'⟩:=Mp.setObs V_a (xnR _) i (by rw [brw_length]; exact hil) (.bool false)
            refine skipOpL rfl (storeAny (.bool false) ga i 4 _ _ rfl rfl rfl rfl rfl hsf.1 hsf.2 (by kernel_rfl)) ?_; simp only [Act.put]; have ho:=(Off.refl [ga] w14).set (b:=ga) mS i (.bool false); replace V_b:=ownsRow_away V_b ho (Mp.awayO (so:=some ⟨ga,0,none⟩) (fun p_ hp_=>by simp [hp_]))
            replace V_h:=ownsRow_away V_h ho (Mp.awayO (so:=some ⟨ga,0,none⟩) (fun p_ hp_=>by simp [hp_])); replace V_c:=ownsRow_away V_c ho (Mp.awayO (so:=some ⟨ga,0,none⟩) (fun p_ hp_=>by simp [hp_])); replace OF:=OF.and1 ho (L_a ga mS); replace V_a:=ownsRow_put V_a i (.bool false)
            rw [brw_set] at V_a
            clear M Mp ho hsf
            have M:=M'.perm (pull2 ([(B3,[.int .i64 (oat o k),.slice sv13 (k+1) cv13]),(B1,[.int .i64 0,.slice none 0 0]),(R,[.int .i64 o.size,.int .i64 o.lim,.int .i64 ((o.sent:Nat):Int),.slice (some ⟨gb,0,none⟩) o.b.length cb,.slice (some ⟨ga,0,none⟩) o.b.length ca,.slice sh o.b.length ch])]:List (Nat × List Value)) (obs sv13) (obs (some ⟨gb,0,none⟩)) (obs (some ⟨ga,0,none⟩)) ((obs sh)++l)).symm
            clear M'; generalize w14.setCell ⟨ga,i,none⟩ (.bool false)=w15 at M V_b V_a V_h OF V_c ⊢
            replace M:Mm w0 ((B3,[.int .i64 (oat o k),.slice sv13 (k+1) cv13])::(B1,[.int .i64 0,.slice none 0 0])::(R,[.int .i64 o.size,.int .i64 o.lim,.int .i64 ((o.sent:Nat):Int),.slice (some ⟨gb,0,none⟩) o.b.length cb,.slice (some ⟨ga,0,none⟩) o.b.length ca,.slice sh o.b.length ch])::((obs sv13)++((obs (some ⟨gb,0,none⟩))++((obs (some ⟨ga,0,none⟩))++((obs sh)++l))))) w15:=M
            refine xT ?_
            rw [brw_congr (fun j _=>kag_put hik j)] at V_a
            have hoa:oat o (k+1)=oat o k:=by rw [oat_pos (by omega),oat_pos (by omega)]
            replace M:Mm w0 ((B3,[.int .i64 (oat o (k+1)),.slice sv13 (k+1) cv13])::(B1,[.int .i64 0,.slice none 0 0])::(R,[.int .i64 o.size,.int .i64 o.lim,.int .i64 ((o.sent:Nat):Int),.slice (some ⟨gb,0,none⟩) o.b.length cb,.slice (some ⟨ga,0,none⟩) o.b.length ca,.slice sh o.b.length ch])::((obs sv13)++((obs (some ⟨gb,0,none⟩))++((obs (some ⟨ga,0,none⟩))++((obs sh)++l))))) w15:=by rw [hoa]; exact M
            clear hoa
            replace M:Mm w0 ((B3,[.int .i64 (oat o (k+1)),.slice sv13 (k+1) cv13])::(B1,[.int .i64 0,.slice none 0 0])::(R,[.int .i64 o.size,.int .i64 o.lim,.int .i64 ((o.sent:Nat):Int),.slice (some ⟨gb,0,none⟩) o.b.length cb,.slice (some ⟨ga,0,none⟩) o.b.length ca,.slice sh o.b.length ch])::((obs sv13)++((obs (some ⟨gb,0,none⟩))++((obs (some ⟨ga,0,none⟩))++((obs sh)++l))))) w15:=M
            clear ha
            have HS:=show Hid _ from (show Mm w0 ((B3,[.int .i64 (oat o (k+1)),.slice sv13 (k+1) cv13])::(B1,[.int .i64 0,.slice none 0 0])::(R,[.int .i64 o.size,.int .i64 o.lim,.int .i64 ((o.sent:Nat):Int),.slice (some ⟨gb,0,none⟩) o.b.length cb,.slice (some ⟨ga,0,none⟩) o.b.length ca,.slice sh o.b.length ch])::((obs sv13)++((obs (some ⟨gb,0,none⟩))++((obs (some ⟨ga,0,none⟩))++((obs sh)++l))))) w15∧w15.ownsRow w0.heap.size 5 1 (.slice sv13 (k+1) cv13) (k+1) (row .u8 (k+1) (fun j=>bl o.b (onA o+j)))∧w15.ownsRow w0.heap.size 5 1 (.slice (some ⟨gb,0,none⟩) o.b.length cb) o.b.length (row .u8 o.b.length (bl o.b))∧w15.ownsRow w0.heap.size 4 1 (.slice (some ⟨ga,0,none⟩) o.b.length ca) o.b.length (brw o.b.length (kag o (k+1)))∧w15.ownsRow w0.heap.size 4 1 (.slice sh o.b.length ch) o.b.length (brw o.b.length o.he)∧Lies XS w sv13∧Off XS w w15 from ⟨M,V_c,V_b,V_a,V_h,L_c,OF⟩)
            have hk1:=show Hid _ from (show (k+1)=okk o p (i+1) from by omega); clear M V_c V_b V_a V_h L_c OF hk; go_wp2
            go_roundw
            case rel=>exact ⟨i+1,(k+1),_,_,by omega,hk1.out,by go_num,HS.out⟩
            case measure=>simp [intOf]; omega
        · obtain ⟨hK,hkK,hwhy⟩:=okk_why (o:=o) (show ¬ p<1 by omega) hil ha h3 h4
          have hka:kag o k i=true:=by rw [kag_at (by omega)]; exact ha
          by_cases he:onA o+onK o p=i
          · have hnm:=hwhy (by omega)
            go_upto_region 7 with fail; refine wp_region_list ?_; refine xpL (.pointer (some ⟨R,0,none⟩)) ?_; refine xpL (.pointer (some ⟨R,0,none⟩)) ?_; refine xpL (.pointer (some ⟨R,4,none⟩)) ?_; refine xaL (.slice (some ⟨ga,0,none⟩) o.b.length ca) (load1 43 _ ⟨R,4,none⟩ _ rfl rfl (fun _=>by kernel_rfl) (M.get (mI 2 rfl) 4 _ rfl)) ?_; refine xpL (.int .i64 (i:Int)) ?_
            refine xaL (.pointer (some ⟨ga,i,none⟩)) (idxRow 43 4 ga _ _ i _ _ Try.underlying43 (fun _=>by kernel_rfl) hil rfl rfl rfl _) ?_; refine xaL (.bool true) (load1 4 _ ⟨ga,i,none⟩ _ rfl rfl (fun _=>by kernel_rfl) (rowCell V_a (by rw [brw_get _ hil,hka]))) ?_; refine xpL (.bool true) ?_; refine xpL (.pointer (some ⟨B3,1,none⟩)) ?_
            refine xaL (.slice sc k cc) (load1 28 _ ⟨B3,1,none⟩ _ rfl rfl (fun _=>by kernel_rfl) (M.get mS 1 _ rfl)) ?_; refine xaL (.int .i64 ((k:Nat):Int)) (lenS _ 28 5 sc k cc rfl Try.underlying28 rfl _) ?_; refine xaL (.bool false) (eqlI .i64 _ _ _ _ _ _ rfl rfl rfl false (by rw [beq_eq_false_iff_ne]; omega) _) ?_; refine xpL (.bool false) ?_
            refine xpL (.pointer (some ⟨B3,0,none⟩)) ?_; refine xaL (.int .i64 (oat o k)) (load1 3 _ ⟨B3,0,none⟩ _ rfl rfl (fun _=>by kernel_rfl) (M.get mS 0 _ rfl)) ?_; refine xpL (.pointer (some ⟨B3,1,none⟩)) ?_; refine xaL (.slice sc k cc) (load1 28 _ ⟨B3,1,none⟩ _ rfl rfl (fun _=>by kernel_rfl) (M.get mS 1 _ rfl)) ?_
            refine xaL (.int .i64 ((k:Nat):Int)) (lenS _ 28 5 sc k cc rfl Try.underlying28 rfl _) ?_
            refine xaL (.int .i64 ((onA o+k:Nat):Int)) (addI .i64 _ _ _ _ _ _ _ rfl rfl rfl (by rw [xw6,oat_pos (by omega)]; omega) _) ?_
            refine xpL (.int .i64 (i:Int)) ?_; refine xaL (.bool true) (eqlI .i64 _ _ _ _ _ _ rfl rfl rfl true (by rw [beq_iff_eq]; omega) _) ?_; refine xpL (.bool true) ?_; refine xpL (.bool true) ?_; refine xpL (.bool true) ?_; refine xpL (.pointer (some ⟨B3,1,none⟩)) ?_; refine xaL (.slice sc k cc) (load1 28 _ ⟨B3,1,none⟩ _ rfl rfl (fun _=>by kernel_rfl) (M.get mS 1 _ rfl)) ?_
            refine xaL (.int .i64 ((k:Nat):Int)) (lenS _ 28 5 sc k cc rfl Try.underlying28 rfl _) ?_; refine xpL (.int .i64 p) ?_; refine xaL (.bool false) (lssI .i64 _ _ _ _ _ _ rfl rfl rfl false (decide_eq_false (by omega)) _) ?_; refine xpL (.bool false) ?_; refine xT ?_; clear hka ha
            have HS:=show Hid _ from (show Mm w0 ((B3,[.int .i64 (oat o k),.slice sc k cc])::(B1,[.int .i64 0,.slice none 0 0])::(R,[.int .i64 o.size,.int .i64 o.lim,.int .i64 ((o.sent:Nat):Int),.slice (some ⟨gb,0,none⟩) o.b.length cb,.slice (some ⟨ga,0,none⟩) o.b.length ca,.slice sh o.b.length ch])::((obs sc)++((obs (some ⟨gb,0,none⟩))++((obs (some ⟨ga,0,none⟩))++((obs sh)++l))))) wr∧wr.ownsRow w0.heap.size 5 1 (.slice sc k cc) k (row .u8 k (fun j=>bl o.b (onA o+j)))∧wr.ownsRow w0.heap.size 5 1 (.slice (some ⟨gb,0,none⟩) o.b.length cb) o.b.length (row .u8 o.b.length (bl o.b))∧wr.ownsRow w0.heap.size 4 1 (.slice (some ⟨ga,0,none⟩) o.b.length ca) o.b.length (brw o.b.length (kag o k))∧wr.ownsRow w0.heap.size 4 1 (.slice sh o.b.length ch) o.b.length (brw o.b.length o.he)∧Lies XS w sc∧Off XS w wr from ⟨M,V_c,V_b,V_a,V_h,L_c,OF⟩)
            have hk1:=show Hid _ from (show k=okk o p (i+1) from by rw [hk,okk_stop (.inr (by omega))]); clear M V_c V_b V_a V_h L_c OF hk; go_wp2
            go_roundw
            case rel=>exact ⟨i+1,k,_,_,by omega,hk1.out,by go_num,HS.out⟩
            case measure=>simp [intOf]; omega
          · go_upto_region 7 with fail
            refine wp_region_list ?_; refine xpL (.pointer (some ⟨R,0,none⟩)) ?_; refine xpL (.pointer (some ⟨R,0,none⟩)) ?_; refine xpL (.pointer (some ⟨R,4,none⟩)) ?_; refine xaL (.slice (some ⟨ga,0,none⟩) o.b.length ca) (load1 43 _ ⟨R,4,none⟩ _ rfl rfl (fun _=>by kernel_rfl) (M.get (mI 2 rfl) 4 _ rfl)) ?_; refine xpL (.int .i64 (i:Int)) ?_
            refine xaL (.pointer (some ⟨ga,i,none⟩)) (idxRow 43 4 ga _ _ i _ _ Try.underlying43 (fun _=>by kernel_rfl) hil rfl rfl rfl _) ?_; refine xaL (.bool true) (load1 4 _ ⟨ga,i,none⟩ _ rfl rfl (fun _=>by kernel_rfl) (rowCell V_a (by rw [brw_get _ hil,hka]))) ?_; refine xpL (.bool true) ?_; refine xpL (.pointer (some ⟨B3,1,none⟩)) ?_
            refine xaL (.slice sc k cc) (load1 28 _ ⟨B3,1,none⟩ _ rfl rfl (fun _=>by kernel_rfl) (M.get mS 1 _ rfl)) ?_; refine xaL (.int .i64 ((k:Nat):Int)) (lenS _ 28 5 sc k cc rfl Try.underlying28 rfl _) ?_; refine xaL (.bool false) (eqlI .i64 _ _ _ _ _ _ rfl rfl rfl false (by rw [beq_eq_false_iff_ne]; omega) _) ?_; refine xpL (.bool false) ?_
            refine xpL (.pointer (some ⟨B3,0,none⟩)) ?_; refine xaL (.int .i64 (oat o k)) (load1 3 _ ⟨B3,0,none⟩ _ rfl rfl (fun _=>by kernel_rfl) (M.get mS 0 _ rfl)) ?_; refine xpL (.pointer (some ⟨B3,1,none⟩)) ?_; refine xaL (.slice sc k cc) (load1 28 _ ⟨B3,1,none⟩ _ rfl rfl (fun _=>by kernel_rfl) (M.get mS 1 _ rfl)) ?_
            refine xaL (.int .i64 ((k:Nat):Int)) (lenS _ 28 5 sc k cc rfl Try.underlying28 rfl _) ?_
            refine xaL (.int .i64 ((onA o+k:Nat):Int)) (addI .i64 _ _ _ _ _ _ _ rfl rfl rfl (by rw [xw6,oat_pos (by omega)]; omega) _) ?_
            refine xpL (.int .i64 (i:Int)) ?_; refine xaL (.bool false) (eqlI .i64 _ _ _ _ _ _ rfl rfl rfl false (by rw [beq_eq_false_iff_ne]; omega) _) ?_; refine xpL (.bool false) ?_; refine xpL (.bool false) ?_; refine xpL (.bool false) ?_
            with_reducible refine skipL ?_ ?_
            · rfl
            simp only [aP,lI,l0,lS]
            with_reducible refine skipL ?_ ?_
            · rfl
            simp only [aP,lI,l0,lS]
            with_reducible refine skipL ?_ ?_
            · rfl
            simp only [aP,lI,l0,lS]
            with_reducible refine skipL ?_ ?_
            · rfl
            simp only [aP,lI,l0,lS]
            with_reducible refine skipL ?_ ?_
            · rfl
            simp only [aP,lI,l0,lS]; refine xpL (.bool false) ?_; refine xT ?_; clear hka ha
            have HS:=show Hid _ from (show Mm w0 ((B3,[.int .i64 (oat o k),.slice sc k cc])::(B1,[.int .i64 0,.slice none 0 0])::(R,[.int .i64 o.size,.int .i64 o.lim,.int .i64 ((o.sent:Nat):Int),.slice (some ⟨gb,0,none⟩) o.b.length cb,.slice (some ⟨ga,0,none⟩) o.b.length ca,.slice sh o.b.length ch])::((obs sc)++((obs (some ⟨gb,0,none⟩))++((obs (some ⟨ga,0,none⟩))++((obs sh)++l))))) wr∧wr.ownsRow w0.heap.size 5 1 (.slice sc k cc) k (row .u8 k (fun j=>bl o.b (onA o+j)))∧wr.ownsRow w0.heap.size 5 1 (.slice (some ⟨gb,0,none⟩) o.b.length cb) o.b.length (row .u8 o.b.length (bl o.b))∧wr.ownsRow w0.heap.size 4 1 (.slice (some ⟨ga,0,none⟩) o.b.length ca) o.b.length (brw o.b.length (kag o k))∧wr.ownsRow w0.heap.size 4 1 (.slice sh o.b.length ch) o.b.length (brw o.b.length o.he)∧Lies XS w sc∧Off XS w wr from ⟨M,V_c,V_b,V_a,V_h,L_c,OF⟩)
            have hk1:=show Hid _ from (show k=okk o p (i+1) from by rw [hk,okk_stop (.inr (by omega))]); clear M V_c V_b V_a V_h L_c OF hk; go_wp2
            go_roundw
            case rel=>exact ⟨i+1,k,_,_,by omega,hk1.out,by go_num,HS.out⟩
            case measure=>simp [intOf]; omega
      · rw [Bool.not_eq_true] at ha
        have hst2:i<onA o∨onK o p≤i-onA o:=by
         rcases Nat.lt_or_ge i (onA o) with c | c
         · exact .inl c
         · refine .inr ?_
           rcases Nat.lt_or_ge (i-onA o) (onK o p) with d | d
           · have:=onK_in (o:=o) (most:=p) d
             rw [show onA o+(i-onA o)=i by omega,ha] at this
             cases this
           · exact d
        have hka:kag o k i=false:=by unfold kag; rw [ha]; rfl
        go_upto_region 7 with fail; refine wp_region_list ?_; refine xpL (.pointer (some ⟨R,0,none⟩)) ?_; refine xpL (.pointer (some ⟨R,0,none⟩)) ?_; refine xpL (.pointer (some ⟨R,4,none⟩)) ?_; refine xaL (.slice (some ⟨ga,0,none⟩) o.b.length ca) (load1 43 _ ⟨R,4,none⟩ _ rfl rfl (fun _=>by kernel_rfl) (M.get (mI 2 rfl) 4 _ rfl)) ?_; refine xpL (.int .i64 (i:Int)) ?_
        refine xaL (.pointer (some ⟨ga,i,none⟩)) (idxRow 43 4 ga _ _ i _ _ Try.underlying43 (fun _=>by kernel_rfl) hil rfl rfl rfl _) ?_; refine xaL (.bool false) (load1 4 _ ⟨ga,i,none⟩ _ rfl rfl (fun _=>by kernel_rfl) (rowCell V_a (by rw [brw_get _ hil,hka]))) ?_; refine xpL (.bool false) ?_
        with_reducible refine skipL ?_ ?_
        · rfl
        simp only [aP,lI,l0,lS]
        with_reducible refine skipL ?_ ?_
        · rfl
        simp only [aP,lI,l0,lS]
        with_reducible refine skipL ?_ ?_
        · rfl
        simp only [aP,lI,l0,lS]
        with_reducible refine skipL ?_ ?_
        · rfl
        simp only [aP,lI,l0,lS]
        with_reducible refine skipL ?_ ?_
        · rfl
        simp only [aP,lI,l0,lS]
        with_reducible refine skipL ?_ ?_
        · rfl
        simp only [aP,lI,l0,lS]
        with_reducible refine skipL ?_ ?_
        · rfl
        simp only [aP,lI,l0,lS]
        with_reducible refine skipL ?_ ?_
        · rfl
        simp only [aP,lI,l0,lS]
        with_reducible refine skipL ?_ ?_
        · rfl
        simp only [aP,lI,l0,lS]
        with_reducible refine skipL ?_ ?_
        · rfl
        simp only [aP,lI,l0,lS]
        with_reducible refine skipL ?_ ?_
        · rfl
        simp only [aP,lI,l0,lS]
        with_reducible refine skipL ?_ ?_
        · rfl
        simp only [aP,lI,l0,lS]
        with_reducible refine skipL ?_ ?_
        · rfl
        simp only [aP,lI,l0,lS]
        with_reducible refine skipL ?_ ?_
        · rfl
        simp only [aP,lI,l0,lS]; refine xpL (.bool false) ?_; refine xpL (.bool false) ?_
        with_reducible refine skipL ?_ ?_
        · rfl
        simp only [aP,lI,l0,lS]
        with_reducible refine skipL ?_ ?_
        · rfl
        simp only [aP,lI,l0,lS]
        with_reducible refine skipL ?_ ?_
        · rfl
        simp only [aP,lI,l0,lS]
        with_reducible refine skipL ?_ ?_
        · rfl
        simp only [aP,lI,l0,lS]
        with_reducible refine skipL ?_ ?_
        · rfl
        simp only [aP,lI,l0,lS]; refine xpL (.bool false) ?_; refine xT ?_; clear hka ha
        have HS:=show Hid _ from (show Mm w0 ((B3,[.int .i64 (oat o k),.slice sc k cc])::(B1,[.int .i64 0,.slice none 0 0])::(R,[.int .i64 o.size,.int .i64 o.lim,.int .i64 ((o.sent:Nat):Int),.slice (some ⟨gb,0,none⟩) o.b.length cb,.slice (some ⟨ga,0,none⟩) o.b.length ca,.slice sh o.b.length ch])::((obs sc)++((obs (some ⟨gb,0,none⟩))++((obs (some ⟨ga,0,none⟩))++((obs sh)++l))))) wr∧wr.ownsRow w0.heap.size 5 1 (.slice sc k cc) k (row .u8 k (fun j=>bl o.b (onA o+j)))∧wr.ownsRow w0.heap.size 5 1 (.slice (some ⟨gb,0,none⟩) o.b.length cb) o.b.length (row .u8 o.b.length (bl o.b))∧wr.ownsRow w0.heap.size 4 1 (.slice (some ⟨ga,0,none⟩) o.b.length ca) o.b.length (brw o.b.length (kag o k))∧wr.ownsRow w0.heap.size 4 1 (.slice sh o.b.length ch) o.b.length (brw o.b.length o.he)∧Lies XS w sc∧Off XS w wr from ⟨M,V_c,V_b,V_a,V_h,L_c,OF⟩)
        have hk1:=show Hid _ from (show k=okk o p (i+1) from by rw [hk,okk_stop hst2]); clear M V_c V_b V_a V_h L_c OF hk; go_wp2
        go_roundw
        case rel=>exact ⟨i+1,k,_,_,by omega,hk1.out,by go_num,HS.out⟩
        case measure=>simp [intOf]; omega
    · obtain rfl:i=o.b.length:=by omega
      go_upto_region 5 with fail; refine wp_region_list ?_; refine xpL (.int .i64 ((o.b.length:Nat):Int)) ?_; refine xpL (.pointer (some ⟨R,0,none⟩)) ?_; refine xpL (.pointer (some ⟨R,0,none⟩)) ?_; refine xpL (.pointer (some ⟨R,3,none⟩)) ?_; refine xaL (.slice sb o.b.length cb) (load1 28 _ ⟨R,3,none⟩ _ rfl rfl (fun _=>by kernel_rfl) (M.get (mI 2 rfl) 3 _ rfl)) ?_
      refine xaL (.int .i64 ((o.b.length:Nat):Int)) (lenS _ 28 5 sb o.b.length cb rfl Try.underlying28 rfl _) ?_; refine xaL (.bool false) (lssI .i64 _ _ _ _ _ _ rfl rfl rfl false (decide_eq_false (by omega)) _) ?_; refine xT ?_
      by_cases hA:onA o<o.b.length
      · obtain ⟨e0_,e1_,e2_,e3_,e4_,e5_⟩:=onB_again (p:=p) (show ¬ p<1 by omega) hA
        have e6_:=onx_again (p:=p) (show ¬ p<1 by omega) hA
        rw [e0_] at hk
        subst hk
        replace M:Mm w0 ((B3,[.int .i64 (oat o (onK o p)),.slice sc (onK o p) cc])::(B1,[.int .i64 0,.slice none 0 0])::(R,[.int .i64 o.size,.int .i64 o.lim,.int .i64 ((o.sent:Nat):Int),.slice sb o.b.length cb,.slice sa o.b.length ca,.slice sh o.b.length ch])::((obs sc)++((obs sb)++((obs sa)++((obs sh)++l))))) wr:=M
        go_upto_region 12 with fail; refine wp_region_list ?_; refine xpL (.pointer (some ⟨B3,1,none⟩)) ?_; refine xaL (.slice sc (onK o p) cc) (load1 28 _ ⟨B3,1,none⟩ _ rfl rfl (fun _=>by kernel_rfl) (M.get mS 1 _ rfl)) ?_; refine readL (.int .i64 (((onK o p):Nat):Int)) rfl (lenS _ 28 5 sc (onK o p) cc rfl Try.underlying28 rfl _) ?_; simp only [aP,lI,l0,lS]
        refine xaL (.bool true) (gtrI .i64 _ _ _ _ _ _ rfl rfl rfl true (decide_eq_true (by omega)) _) ?_; refine xT ?_; go_upto_region 13 with fail; refine wp_region_list ?_
        refine xaL (.agg #[.int .i64 (oat o (onK o p)),.slice sc (onK o p) cc]) (loadN 35 _ ⟨B3,0,none⟩ [.int .i64 (oat o (onK o p)),.slice sc (onK o p) cc] rfl rfl (fun _=>by kernel_rfl) (fun _=>by kernel_rfl) (M.rangeAt mS)) ?_; replace M:=M.swap
        refine skipOpL rfl (storeP [.int .i64 (oat o (onK o p)),.slice sc (onK o p) cc] B1 0 35 _ _ rfl rfl rfl (M.thereP mS 0 2 (Nat.le_of_ble_eq_true rfl)) (by kernel_rfl) (List.all_eq_true.1 (rfl:([.int .i64 (oat o (onK o p)),.slice sc (onK o p) cc]:List Value).all (fun u=>u.oneCell')=true))) ?_; simp only [Act.put]
        replace M:=M.setPart [.int .i64 (oat o (onK o p)),.slice sc (onK o p) cc] 0 (Nat.le_of_ble_eq_true rfl); replace V_b:=ownsRow_away V_b ((Off.refl [B1] _).setAll (b:=B1) mS 0 [.int .i64 (oat o (onK o p)),.slice sc (onK o p) cc]) (fun b_ hb_=>by obtain rfl:=xm1 hb_; exact M.awayB (fun p_ hp_=>by simp [hp_]))
        replace V_a:=ownsRow_away V_a ((Off.refl [B1] _).setAll (b:=B1) mS 0 [.int .i64 (oat o (onK o p)),.slice sc (onK o p) cc]) (fun b_ hb_=>by obtain rfl:=xm1 hb_; exact M.awayB (fun p_ hp_=>by simp [hp_]))
        replace V_h:=ownsRow_away V_h ((Off.refl [B1] _).setAll (b:=B1) mS 0 [.int .i64 (oat o (onK o p)),.slice sc (onK o p) cc]) (fun b_ hb_=>by obtain rfl:=xm1 hb_; exact M.awayB (fun p_ hp_=>by simp [hp_])); replace OF:=OF.and1 ((Off.refl [B1] _).setAll (b:=B1) mS 0 [.int .i64 (oat o (onK o p)),.slice sc (onK o p) cc]) (.inr hB_B1)
        replace V_c:=ownsRow_away V_c ((Off.refl [B1] _).setAll (b:=B1) mS 0 [.int .i64 (oat o (onK o p)),.slice sc (onK o p) cc]) (fun b_ hb_=>by obtain rfl:=xm1 hb_; exact M.awayB (fun p_ hp_=>by simp [hp_])); generalize wr.setCells B1 0 [.int .i64 (oat o (onK o p)),.slice sc (onK o p) cc]=w16 at M V_b V_a V_h OF L_b L_a L_h V_c L_c ⊢
        replace M:Mm w0 ((B1,[.int .i64 (oat o (onK o p)),.slice sc (onK o p) cc])::(B3,[.int .i64 (oat o (onK o p)),.slice sc (onK o p) cc])::(R,[.int .i64 o.size,.int .i64 o.lim,.int .i64 ((o.sent:Nat):Int),.slice sb o.b.length cb,.slice sa o.b.length ca,.slice sh o.b.length ch])::((obs sc)++((obs sb)++((obs sa)++((obs sh)++l))))) w16:=M
        refine xpL (.bool true) ?_; refine xT ?_; have hoa:=show Hid _ from (oat_pos (o:=o) e1_)
        rw [row_congr .u8 (onK o p) e5_] at V_c
        have c1_:=M.part mS 0 [.int .i64 (oat o (onK o p)),.slice sc (onK o p) cc] rfl; replace M:=M.rot3
        replace M:Mm w0 ((R,[.int .i64 o.size,.int .i64 o.lim,.int .i64 ((o.sent:Nat):Int),.slice sb o.b.length cb,.slice sa o.b.length ca,.slice sh o.b.length ch])::((obs sc)++((obs sb)++((obs sa)++((obs sh)++l))))) w16:=M.sub _ (List.cons_sublist_cons.2 (List.Sublist.cons _ (List.Sublist.cons _ ((List.Sublist.refl _).append ((List.Sublist.refl _).append ((List.Sublist.refl _).append ((List.Sublist.refl _).append (List.Sublist.refl _))))))))
        rw [hXS] at OF
        clear e0_ e5_; replace e1_:=show Hid _ from e1_; replace e2_:=show Hid _ from e2_; replace e3_:=show Hid _ from e3_; replace e4_:=show Hid _ from e4_; replace e6_:=show Hid _ from e6_; have HS:=show Hid _ from (show _∧_∧_∧_∧_∧_ from ⟨M,V_c,V_b,V_a,V_h,OF⟩); clear M V_c V_b V_a V_h OF; go_wp2
        refine bodyPost_ret (v:=.tuple #[.agg #[.int .i64 (oat o (onK o p)),.slice sc (onK o p) cc],.bool true]) (retCellTmp 4 5 35 ⟨B1,0,none⟩ [.int .i64 (oat o (onK o p)),.slice sc (onK o p) cc] _ rfl rfl rfl (fun _=>by kernel_rfl) (fun _=>by kernel_rfl) c1_) rfl ?_
        refine ⟨sc,cc,by rw [e3_.out,e4_.out,e2_.out,hoa.out,decide_eq_true e1_.out],?_⟩
        rw [e6_.out,e4_.out]
        exact HS.out
      · obtain ⟨e0_,e1_,e2_,e3_,e4_,e5_,e6_⟩:=onB_new (p:=p) hw (show ¬ p<1 by omega) hA
        have e7_:=onx_new (p:=p) (show ¬ p<1 by omega) hA
        rw [e0_] at hk
        subst hk
        replace M:Mm w0 ((B3,[.int .i64 (oat o 0),.slice sc (0) cc])::(B1,[.int .i64 0,.slice none 0 0])::(R,[.int .i64 o.size,.int .i64 o.lim,.int .i64 ((o.sent:Nat):Int),.slice sb o.b.length cb,.slice sa o.b.length ca,.slice sh o.b.length ch])::((obs sc)++((obs sb)++((obs sa)++((obs sh)++l))))) wr:=M
        rw [brw_congr (fun j _=>kag_zero o j)] at V_a
        replace M:Mm w0 ((B3,[.int .i64 (oat o 0),.slice sc (0) cc])::(B1,[.int .i64 0,.slice none 0 0])::(R,[.int .i64 o.size,.int .i64 o.lim,.int .i64 ((o.sent:Nat):Int),.slice sb o.b.length cb,.slice sa o.b.length ca,.slice sh o.b.length ch])::((obs sc)++((obs sb)++((obs sa)++((obs sh)++l))))) wr:=M
        go_upto_region 12 with fail; refine wp_region_list ?_; refine xpL (.pointer (some ⟨B3,1,none⟩)) ?_; refine xaL (.slice sc (0) cc) (load1 28 _ ⟨B3,1,none⟩ _ rfl rfl (fun _=>by kernel_rfl) (M.get mS 1 _ rfl)) ?_; refine readL (.int .i64 (((0):Nat):Int)) rfl (lenS _ 28 5 sc (0) cc rfl Try.underlying28 rfl _) ?_; simp only [aP,lI,l0,lS]
        refine xaL (.bool false) (gtrI .i64 _ _ _ _ _ _ rfl rfl rfl false (decide_eq_false (by omega)) _) ?_; refine xT ?_; go_upto_region 14 with fail; have hdr:=(Below.refl wr.heap.size wr).drew; replace M:=M.drew; replace V_b:=ownsRow_bel V_b hdr; replace V_a:=ownsRow_bel V_a hdr; replace V_h:=ownsRow_bel V_h hdr; replace OF:=OF.below hdr; replace V_c:=ownsRow_bel V_c hdr
        clear hdr
        refine wp_region_held_drew (S:=fun w'=>Mm w0 [(B3,[.int .i64 (oat o 0),.slice sc (0) cc]),(B1,[.int .i64 0,.slice none 0 0]),(R,[.int .i64 o.size,.int .i64 o.lim,.int .i64 ((o.sent:Nat):Int),.slice sb o.b.length cb,.slice sa o.b.length ca,.slice sh o.b.length ch])] w') (by kernel_rfl) (M.sub _ (List.cons_sublist_cons.2 (List.cons_sublist_cons.2 (List.cons_sublist_cons.2 (List.nil_sublist _))))) ?_
        intro _; generalize wr.drew=w17 at M V_b V_a V_h OF V_c ⊢; refine xrH 0 81 rfl (.pointer (some ⟨R,0,none⟩)) (fun _ hS=>(by kernel_rfl)) (M.sub _ (List.cons_sublist_cons.2 (List.cons_sublist_cons.2 (List.cons_sublist_cons.2 (List.nil_sublist _))))) ?_
        refine xrH 1 82 rfl (.pointer (some ⟨R,0,none⟩)) (fun _ hS=>(by kernel_rfl)) (M.sub _ (List.cons_sublist_cons.2 (List.cons_sublist_cons.2 (List.cons_sublist_cons.2 (List.nil_sublist _))))) ?_
        refine xrH 2 83 rfl (.pointer (some ⟨R,3,none⟩)) (fun _ hS=>(by kernel_rfl)) (M.sub _ (List.cons_sublist_cons.2 (List.cons_sublist_cons.2 (List.cons_sublist_cons.2 (List.nil_sublist _))))) ?_
        refine xrH 3 84 rfl (.slice sb o.b.length cb) (fun _ hS=>load1 28 _ ⟨R,3,none⟩ _ rfl rfl (fun _=>by kernel_rfl) (hS.get (mI 2 rfl) 3 _ rfl)) (M.sub _ (List.cons_sublist_cons.2 (List.cons_sublist_cons.2 (List.cons_sublist_cons.2 (List.nil_sublist _))))) ?_
        refine xrH 4 85 rfl (.int .i64 ((o.b.length:Nat):Int)) (fun _ hS=>lenS _ 28 5 sb o.b.length cb rfl Try.underlying28 rfl _) (M.sub _ (List.cons_sublist_cons.2 (List.cons_sublist_cons.2 (List.cons_sublist_cons.2 (List.nil_sublist _))))) ?_
        refine xrH 5 86 rfl (.pointer (some ⟨R,0,none⟩)) (fun _ hS=>(by kernel_rfl)) (M.sub _ (List.cons_sublist_cons.2 (List.cons_sublist_cons.2 (List.cons_sublist_cons.2 (List.nil_sublist _))))) ?_
        refine xrH 6 87 rfl (.pointer (some ⟨R,0,none⟩)) (fun _ hS=>(by kernel_rfl)) (M.sub _ (List.cons_sublist_cons.2 (List.cons_sublist_cons.2 (List.cons_sublist_cons.2 (List.nil_sublist _))))) ?_
        refine xrH 7 88 rfl (.pointer (some ⟨R,1,none⟩)) (fun _ hS=>(by kernel_rfl)) (M.sub _ (List.cons_sublist_cons.2 (List.cons_sublist_cons.2 (List.cons_sublist_cons.2 (List.nil_sublist _))))) ?_
        refine xrH 8 89 rfl (.int .i64 o.lim) (fun _ hS=>load1 3 _ ⟨R,1,none⟩ _ rfl rfl (fun _=>by kernel_rfl) (hS.get (mI 2 rfl) 1 _ rfl)) (M.sub _ (List.cons_sublist_cons.2 (List.cons_sublist_cons.2 (List.cons_sublist_cons.2 (List.nil_sublist _))))) ?_
        refine xrH 9 90 rfl (.int .i64 ((onT o:Nat):Int)) (fun _ hS=>minI .i64 .i64 _ _ _ _ _ _ _ rfl rfl rfl (by unfold onT; split <;> omega) _) (M.sub _ (List.cons_sublist_cons.2 (List.cons_sublist_cons.2 (List.cons_sublist_cons.2 (List.nil_sublist _))))) ?_
        refine xrH 10 8 rfl (.int .i64 ((onT o:Nat):Int)) (fun _ hS=>(by kernel_rfl)) (M.sub _ (List.cons_sublist_cons.2 (List.cons_sublist_cons.2 (List.cons_sublist_cons.2 (List.nil_sublist _))))) ?_
        refine wpAnyH_done (by kernel_rfl) ?_ _
        first | show Exit.then _ _ _ _ _ | show Exit.inBlock _ _ _ _ _
        by_cases hge:o.sent≥onT o
        · have hM:onM o p=0:=by unfold onM; omega
          go_upto_region 15 with fail; refine wp_region_list ?_; refine xpL (.pointer (some ⟨R,0,none⟩)) ?_; refine xpL (.pointer (some ⟨R,0,none⟩)) ?_; refine xpL (.pointer (some ⟨R,2,none⟩)) ?_; refine xaL (.int .i64 ((o.sent:Nat):Int)) (load1 3 _ ⟨R,2,none⟩ _ rfl rfl (fun _=>by kernel_rfl) (M.get (mI 2 rfl) 2 _ rfl)) ?_; refine xpL (.int .i64 ((onT o:Nat):Int)) ?_
          refine xaL (.bool true) (geqI .i64 _ _ _ _ _ _ rfl rfl rfl true (decide_eq_true (by omega)) _) ?_; refine xT ?_; go_upto_region 16 with fail; refine wp_region_list ?_; refine xaL (.agg #[.int .i64 (oat o 0),.slice sc (0) cc]) (loadN 35 _ ⟨B3,0,none⟩ [.int .i64 (oat o 0),.slice sc (0) cc] rfl rfl (fun _=>by kernel_rfl) (fun _=>by kernel_rfl) (M.rangeAt mS)) ?_
          replace M:=M.swap; refine skipOpL rfl (storeP [.int .i64 (oat o 0),.slice sc (0) cc] B1 0 35 _ _ rfl rfl rfl (M.thereP mS 0 2 (Nat.le_of_ble_eq_true rfl)) (by kernel_rfl) (List.all_eq_true.1 (rfl:([.int .i64 (oat o 0),.slice sc (0) cc]:List Value).all (fun u=>u.oneCell')=true))) ?_; simp only [Act.put]
          replace M:=M.setPart [.int .i64 (oat o 0),.slice sc (0) cc] 0 (Nat.le_of_ble_eq_true rfl); replace V_b:=ownsRow_away V_b ((Off.refl [B1] _).setAll (b:=B1) mS 0 [.int .i64 (oat o 0),.slice sc (0) cc]) (fun b_ hb_=>by obtain rfl:=xm1 hb_; exact M.awayB (fun p_ hp_=>by simp [hp_]))
          replace V_a:=ownsRow_away V_a ((Off.refl [B1] _).setAll (b:=B1) mS 0 [.int .i64 (oat o 0),.slice sc (0) cc]) (fun b_ hb_=>by obtain rfl:=xm1 hb_; exact M.awayB (fun p_ hp_=>by simp [hp_]))
          replace V_h:=ownsRow_away V_h ((Off.refl [B1] _).setAll (b:=B1) mS 0 [.int .i64 (oat o 0),.slice sc (0) cc]) (fun b_ hb_=>by obtain rfl:=xm1 hb_; exact M.awayB (fun p_ hp_=>by simp [hp_])); replace OF:=OF.and1 ((Off.refl [B1] _).setAll (b:=B1) mS 0 [.int .i64 (oat o 0),.slice sc (0) cc]) (.inr hB_B1)
          replace V_c:=ownsRow_away V_c ((Off.refl [B1] _).setAll (b:=B1) mS 0 [.int .i64 (oat o 0),.slice sc (0) cc]) (fun b_ hb_=>by obtain rfl:=xm1 hb_; exact M.awayB (fun p_ hp_=>by simp [hp_])); generalize w17.setCells B1 0 [.int .i64 (oat o 0),.slice sc (0) cc]=w18 at M V_b V_a V_h OF L_b L_a L_h V_c L_c ⊢
          replace M:Mm w0 ((B1,[.int .i64 (oat o 0),.slice sc (0) cc])::(B3,[.int .i64 (oat o 0),.slice sc (0) cc])::(R,[.int .i64 o.size,.int .i64 o.lim,.int .i64 ((o.sent:Nat):Int),.slice sb o.b.length cb,.slice sa o.b.length ca,.slice sh o.b.length ch])::((obs sc)++((obs sb)++((obs sa)++((obs sh)++l))))) w18:=M
          refine xpL (.bool false) ?_; refine xT ?_; have h3_:=e3_ hM
          have h7_:onx o p=o:=by rw [e7_,hM]; rfl
          rw [hM] at e4_ e1_
          clear e2_ e3_ e5_ e6_ e7_ e0_ hM
          have h8_:onB o p=[]:=List.eq_nil_of_length_eq_zero e4_
          clear e4_; have c1_:=M.part mS 0 [.int .i64 (oat o 0),.slice sc (0) cc] rfl; replace M:=M.rot3
          replace M:Mm w0 ((R,[.int .i64 o.size,.int .i64 o.lim,.int .i64 ((o.sent:Nat):Int),.slice sb o.b.length cb,.slice sa o.b.length ca,.slice sh o.b.length ch])::((obs sc)++((obs sb)++((obs sa)++((obs sh)++l))))) w18:=M.sub _ (List.cons_sublist_cons.2 (List.Sublist.cons _ (List.Sublist.cons _ ((List.Sublist.refl _).append ((List.Sublist.refl _).append ((List.Sublist.refl _).append ((List.Sublist.refl _).append (List.Sublist.refl _))))))))
          rw [hXS] at OF
          replace h3_:=show Hid _ from h3_; replace h7_:=show Hid _ from h7_; replace h8_:=show Hid _ from h8_; replace e1_:=show Hid _ from e1_; have HS:=show Hid _ from (show _∧_∧_∧_∧_∧_ from ⟨M,V_c,V_b,V_a,V_h,OF⟩); clear M V_c V_b V_a V_h OF; go_wp2
          refine bodyPost_ret (v:=.tuple #[.agg #[.int .i64 (oat o 0),.slice sc (0) cc],.bool false]) (retCellTmp 4 5 35 ⟨B1,0,none⟩ [.int .i64 (oat o 0),.slice sc (0) cc] _ rfl rfl rfl (fun _=>by kernel_rfl) (fun _=>by kernel_rfl) c1_) rfl ?_
          refine ⟨sc,cc,by rw [h3_.out,h8_.out,e1_.out]; rfl,?_⟩
          rw [h7_.out,h8_.out]
          exact HS.out
        · have hM:0<onM o p:=by unfold onM; omega
          have hMt:o.sent+onM o p≤onT o:=by unfold onM; omega
          have hTl:onT o≤o.b.length:=by unfold onT; omega
          go_upto_region 15 with fail; refine wp_region_list ?_; refine xpL (.pointer (some ⟨R,0,none⟩)) ?_; refine xpL (.pointer (some ⟨R,0,none⟩)) ?_; refine xpL (.pointer (some ⟨R,2,none⟩)) ?_; refine xaL (.int .i64 ((o.sent:Nat):Int)) (load1 3 _ ⟨R,2,none⟩ _ rfl rfl (fun _=>by kernel_rfl) (M.get (mI 2 rfl) 2 _ rfl)) ?_; refine xpL (.int .i64 ((onT o:Nat):Int)) ?_
          refine xaL (.bool false) (geqI .i64 _ _ _ _ _ _ rfl rfl rfl false (decide_eq_false (by omega)) _) ?_; refine xT ?_; go_upto_region 17 with fail; have hdr:=(Below.refl w17.heap.size w17).drew; replace M:=M.drew; replace V_b:=ownsRow_bel V_b hdr; replace V_a:=ownsRow_bel V_a hdr; replace V_h:=ownsRow_bel V_h hdr; replace OF:=OF.below hdr; replace V_c:=ownsRow_bel V_c hdr
          clear hdr
          refine wp_region_held_drew (S:=fun w'=>Mm w0 [(B3,[.int .i64 (oat o 0),.slice sc (0) cc]),(B1,[.int .i64 0,.slice none 0 0]),(R,[.int .i64 o.size,.int .i64 o.lim,.int .i64 ((o.sent:Nat):Int),.slice sb o.b.length cb,.slice sa o.b.length ca,.slice sh o.b.length ch])] w') (by kernel_rfl) (M.sub _ (List.cons_sublist_cons.2 (List.cons_sublist_cons.2 (List.cons_sublist_cons.2 (List.nil_sublist _))))) ?_
          intro _; generalize w17.drew=w19 at M V_b V_a V_h OF V_c ⊢; refine xrH 0 98 rfl (.pointer (some ⟨R,0,none⟩)) (fun _ hS=>(by kernel_rfl)) (M.sub _ (List.cons_sublist_cons.2 (List.cons_sublist_cons.2 (List.cons_sublist_cons.2 (List.nil_sublist _))))) ?_
          refine xrH 1 99 rfl (.pointer (some ⟨R,0,none⟩)) (fun _ hS=>(by kernel_rfl)) (M.sub _ (List.cons_sublist_cons.2 (List.cons_sublist_cons.2 (List.cons_sublist_cons.2 (List.nil_sublist _))))) ?_
          refine xrH 2 100 rfl (.pointer (some ⟨R,2,none⟩)) (fun _ hS=>(by kernel_rfl)) (M.sub _ (List.cons_sublist_cons.2 (List.cons_sublist_cons.2 (List.cons_sublist_cons.2 (List.nil_sublist _))))) ?_
          refine xrH 3 101 rfl (.int .i64 ((o.sent:Nat):Int)) (fun _ hS=>load1 3 _ ⟨R,2,none⟩ _ rfl rfl (fun _=>by kernel_rfl) (hS.get (mI 2 rfl) 2 _ rfl)) (M.sub _ (List.cons_sublist_cons.2 (List.cons_sublist_cons.2 (List.cons_sublist_cons.2 (List.nil_sublist _))))) ?_
          refine xrH 4 102 rfl (.int .i64 ((onT o:Nat):Int)) (fun _ hS=>(by kernel_rfl)) (M.sub _ (List.cons_sublist_cons.2 (List.cons_sublist_cons.2 (List.cons_sublist_cons.2 (List.nil_sublist _))))) ?_
          refine xrH 5 103 rfl (.pointer (some ⟨R,0,none⟩)) (fun _ hS=>(by kernel_rfl)) (M.sub _ (List.cons_sublist_cons.2 (List.cons_sublist_cons.2 (List.cons_sublist_cons.2 (List.nil_sublist _))))) ?_
          refine xrH 6 104 rfl (.pointer (some ⟨R,0,none⟩)) (fun _ hS=>(by kernel_rfl)) (M.sub _ (List.cons_sublist_cons.2 (List.cons_sublist_cons.2 (List.cons_sublist_cons.2 (List.nil_sublist _))))) ?_
          refine xrH 7 105 rfl (.pointer (some ⟨R,2,none⟩)) (fun _ hS=>(by kernel_rfl)) (M.sub _ (List.cons_sublist_cons.2 (List.cons_sublist_cons.2 (List.cons_sublist_cons.2 (List.nil_sublist _))))) ?_
          refine xrH 8 106 rfl (.int .i64 ((o.sent:Nat):Int)) (fun _ hS=>load1 3 _ ⟨R,2,none⟩ _ rfl rfl (fun _=>by kernel_rfl) (hS.get (mI 2 rfl) 2 _ rfl)) (M.sub _ (List.cons_sublist_cons.2 (List.cons_sublist_cons.2 (List.cons_sublist_cons.2 (List.nil_sublist _))))) ?_
          refine xrH 9 107 rfl (.int .i64 ((onT o-o.sent:Nat):Int)) (fun _ hS=>subI .i64 _ _ _ _ _ _ _ rfl rfl rfl (by rw [xw6]; omega) _) (M.sub _ (List.cons_sublist_cons.2 (List.cons_sublist_cons.2 (List.cons_sublist_cons.2 (List.nil_sublist _))))) ?_
          refine xrH 10 108 rfl (.int .i64 p) (fun _ hS=>(by kernel_rfl)) (M.sub _ (List.cons_sublist_cons.2 (List.cons_sublist_cons.2 (List.cons_sublist_cons.2 (List.nil_sublist _))))) ?_
          refine xrH 11 109 rfl (.int .i64 ((onM o p:Nat):Int)) (fun _ hS=>minI .i64 .i64 _ _ _ _ _ _ _ rfl rfl rfl (by unfold onM; split <;> omega) _) (M.sub _ (List.cons_sublist_cons.2 (List.cons_sublist_cons.2 (List.cons_sublist_cons.2 (List.nil_sublist _))))) ?_
          refine xrH 12 110 rfl (.int .i64 ((o.sent+onM o p:Nat):Int)) (fun _ hS=>addI .i64 _ _ _ _ _ _ _ rfl rfl rfl (by rw [xw6]; omega) _) (M.sub _ (List.cons_sublist_cons.2 (List.cons_sublist_cons.2 (List.cons_sublist_cons.2 (List.nil_sublist _))))) ?_
          refine xrH 13 8 rfl (.int .i64 ((o.sent+onM o p:Nat):Int)) (fun _ hS=>(by kernel_rfl)) (M.sub _ (List.cons_sublist_cons.2 (List.cons_sublist_cons.2 (List.cons_sublist_cons.2 (List.nil_sublist _))))) ?_
          refine wpAnyH_done (by kernel_rfl) ?_ _
          first | show Exit.then _ _ _ _ _ | show Exit.inBlock _ _ _ _ _
          obtain ⟨spc,hcut,hsrc⟩:=cut_lh (P:=Try.prog) (t:=28) Try.underlying28 (fun w=>by kernel_rfl) sb o.b.length cb o.sent (o.sent+onM o p) (by omega) e5_ (Own.le V_b)
          have hnil2:spc=none→cb-o.sent=0:=fun e_=>absurd ((hsrc _ _ (Own.src V_b)).none e_) (by omega)
          go_upto_region 18 with fail; have hdr:=(Below.refl w19.heap.size w19).drew; replace M:=M.drew; replace V_b:=ownsRow_bel V_b hdr; replace V_a:=ownsRow_bel V_a hdr; replace V_h:=ownsRow_bel V_h hdr; replace OF:=OF.below hdr; replace V_c:=ownsRow_bel V_c hdr; clear hdr
          refine wp_region_C (S:=fun w'=>Mm w0 [(B3,[.int .i64 (oat o 0),.slice sc (0) cc]),(B1,[.int .i64 0,.slice none 0 0]),(R,[.int .i64 o.size,.int .i64 o.lim,.int .i64 ((o.sent:Nat):Int),.slice sb o.b.length cb,.slice sa o.b.length ca,.slice sh o.b.length ch])] w') 17 (by kernel_rfl) (M.sub _ (List.cons_sublist_cons.2 (List.cons_sublist_cons.2 (List.cons_sublist_cons.2 (List.nil_sublist _))))) ?_
          intro _; generalize w19.drew=w20 at M V_b V_a V_h OF V_c ⊢; refine readC (i:=0) (some 111) rfl (.pointer (some ⟨R,0,none⟩)) rfl rfl (by kernel_rfl) rfl (fun _ hS=>(by kernel_rfl)) (by kernel_rfl) (by kernel_rfl) (by kernel_rfl) (by kernel_rfl) (fun _ _ _ h=>h) (M.sub _ (List.cons_sublist_cons.2 (List.cons_sublist_cons.2 (List.cons_sublist_cons.2 (List.nil_sublist _))))) ?_
          simp only [aP,lI,l0,lS]; refine readC (i:=1) (some 112) rfl (.pointer (some ⟨R,0,none⟩)) rfl rfl (by kernel_rfl) rfl (fun _ hS=>(by kernel_rfl)) (by kernel_rfl) (by kernel_rfl) (by kernel_rfl) (by kernel_rfl) (fun _ _ _ h=>h) (M.sub _ (List.cons_sublist_cons.2 (List.cons_sublist_cons.2 (List.cons_sublist_cons.2 (List.nil_sublist _))))) ?_; simp only [aP,lI,l0,lS]
          refine readC (i:=2) (some 113) rfl (.pointer (some ⟨R,2,none⟩)) rfl rfl (by kernel_rfl) rfl (fun _ hS=>(by kernel_rfl)) (by kernel_rfl) (by kernel_rfl) (by kernel_rfl) (by kernel_rfl) (fun _ _ _ h=>h) (M.sub _ (List.cons_sublist_cons.2 (List.cons_sublist_cons.2 (List.cons_sublist_cons.2 (List.nil_sublist _))))) ?_; simp only [aP,lI,l0,lS]
          refine readC (i:=3) (some 114) rfl (.int .i64 ((o.sent:Nat):Int)) rfl rfl (by kernel_rfl) rfl (fun _ hS=>load1 3 _ ⟨R,2,none⟩ _ rfl rfl (fun _=>by kernel_rfl) (hS.get (mI 2 rfl) 2 _ rfl)) (by kernel_rfl) (by kernel_rfl) (by kernel_rfl) (by kernel_rfl) (fun _ _ _ h=>h) (M.sub _ (List.cons_sublist_cons.2 (List.cons_sublist_cons.2 (List.cons_sublist_cons.2 (List.nil_sublist _))))) ?_
          simp only [aP,lI,l0,lS]; refine readC (i:=5) (some 116) rfl (.pointer (some ⟨R,0,none⟩)) rfl rfl (by kernel_rfl) rfl (fun _ hS=>(by kernel_rfl)) (by kernel_rfl) (by kernel_rfl) (by kernel_rfl) (by kernel_rfl) (fun _ _ _ h=>h) (M.sub _ (List.cons_sublist_cons.2 (List.cons_sublist_cons.2 (List.cons_sublist_cons.2 (List.nil_sublist _))))) ?_; simp only [aP,lI,l0,lS]
          refine readC (i:=6) (some 117) rfl (.pointer (some ⟨R,0,none⟩)) rfl rfl (by kernel_rfl) rfl (fun _ hS=>(by kernel_rfl)) (by kernel_rfl) (by kernel_rfl) (by kernel_rfl) (by kernel_rfl) (fun _ _ _ h=>h) (M.sub _ (List.cons_sublist_cons.2 (List.cons_sublist_cons.2 (List.cons_sublist_cons.2 (List.nil_sublist _))))) ?_; simp only [aP,lI,l0,lS]
          refine readC (i:=7) (some 118) rfl (.pointer (some ⟨R,3,none⟩)) rfl rfl (by kernel_rfl) rfl (fun _ hS=>(by kernel_rfl)) (by kernel_rfl) (by kernel_rfl) (by kernel_rfl) (by kernel_rfl) (fun _ _ _ h=>h) (M.sub _ (List.cons_sublist_cons.2 (List.cons_sublist_cons.2 (List.cons_sublist_cons.2 (List.nil_sublist _))))) ?_; simp only [aP,lI,l0,lS]
          refine readC (i:=8) (some 119) rfl (.slice sb o.b.length cb) rfl rfl (by kernel_rfl) rfl (fun _ hS=>load1 28 _ ⟨R,3,none⟩ _ rfl rfl (fun _=>by kernel_rfl) (hS.get (mI 2 rfl) 3 _ rfl)) (by kernel_rfl) (by kernel_rfl) (by kernel_rfl) (by kernel_rfl) (fun _ _ _ h=>h) (M.sub _ (List.cons_sublist_cons.2 (List.cons_sublist_cons.2 (List.cons_sublist_cons.2 (List.nil_sublist _))))) ?_
          simp only [aP,lI,l0,lS]; refine readC (i:=9) (some 120) rfl (.pointer (some ⟨R,0,none⟩)) rfl rfl (by kernel_rfl) rfl (fun _ hS=>(by kernel_rfl)) (by kernel_rfl) (by kernel_rfl) (by kernel_rfl) (by kernel_rfl) (fun _ _ _ h=>h) (M.sub _ (List.cons_sublist_cons.2 (List.cons_sublist_cons.2 (List.cons_sublist_cons.2 (List.nil_sublist _))))) ?_; simp only [aP,lI,l0,lS]
          refine readC (i:=10) (some 121) rfl (.pointer (some ⟨R,0,none⟩)) rfl rfl (by kernel_rfl) rfl (fun _ hS=>(by kernel_rfl)) (by kernel_rfl) (by kernel_rfl) (by kernel_rfl) (by kernel_rfl) (fun _ _ _ h=>h) (M.sub _ (List.cons_sublist_cons.2 (List.cons_sublist_cons.2 (List.cons_sublist_cons.2 (List.nil_sublist _))))) ?_; simp only [aP,lI,l0,lS]
          refine readC (i:=11) (some 122) rfl (.pointer (some ⟨R,2,none⟩)) rfl rfl (by kernel_rfl) rfl (fun _ hS=>(by kernel_rfl)) (by kernel_rfl) (by kernel_rfl) (by kernel_rfl) (by kernel_rfl) (fun _ _ _ h=>h) (M.sub _ (List.cons_sublist_cons.2 (List.cons_sublist_cons.2 (List.cons_sublist_cons.2 (List.nil_sublist _))))) ?_; simp only [aP,lI,l0,lS]
          refine readC (i:=12) (some 123) rfl (.int .i64 ((o.sent:Nat):Int)) rfl rfl (by kernel_rfl) rfl (fun _ hS=>load1 3 _ ⟨R,2,none⟩ _ rfl rfl (fun _=>by kernel_rfl) (hS.get (mI 2 rfl) 2 _ rfl)) (by kernel_rfl) (by kernel_rfl) (by kernel_rfl) (by kernel_rfl) (fun _ _ _ h=>h) (M.sub _ (List.cons_sublist_cons.2 (List.cons_sublist_cons.2 (List.cons_sublist_cons.2 (List.nil_sublist _))))) ?_
          simp only [aP,lI,l0,lS]; refine readC (i:=13) (some 124) rfl (.int .i64 ((o.sent+onM o p:Nat):Int)) rfl rfl (by kernel_rfl) rfl (fun _ hS=>(by kernel_rfl)) (by kernel_rfl) (by kernel_rfl) (by kernel_rfl) (by kernel_rfl) (fun _ _ _ h=>h) (M.sub _ (List.cons_sublist_cons.2 (List.cons_sublist_cons.2 (List.cons_sublist_cons.2 (List.nil_sublist _))))) ?_
          simp only [aP,lI,l0,lS]
          refine readC (i:=14) (some 125) rfl (.slice spc (o.sent+onM o p-o.sent) (cb-o.sent)) rfl rfl (by kernel_rfl) rfl (fun _ hS=>cutLHop 28 _ _ _ _ _ _ _ rfl rfl rfl rfl (hcut _)) (by kernel_rfl) (by kernel_rfl) (by kernel_rfl) (by kernel_rfl) (fun _ _ _ h=>h) (M.sub _ (List.cons_sublist_cons.2 (List.cons_sublist_cons.2 (List.cons_sublist_cons.2 (List.nil_sublist _))))) ?_
          simp only [aP,lI,l0,lS]; have hlb:=(Below.refl w20.heap.size w20).alloc (xnR _) (.cells #[] 5)
          have V_n21:(w20.alloc (.cells #[] 5)).ownsRow w0.heap.size 5 1 (.slice (some ⟨w20.heap.size,0,none⟩) 0 0) 0 []:=World.ownsRow_lit w20 #[] 0 (xnT hb0.size OF.size) (by unfold maxLen; omega) rfl
          have L_n21:Lies XS w (some ⟨w20.heap.size,0,none⟩):=fun b_ hb_=>.inr (by obtain rfl:=xm1 hb_; exact OF.size)
          have Mn_:=M.rowNil #[] 5; replace V_b:=ownsRow_bel V_b hlb; replace V_a:=ownsRow_bel V_a hlb; replace V_h:=ownsRow_bel V_h hlb; replace OF:=OF.below hlb; replace V_c:=ownsRow_bel V_c hlb; replace M:=M.call hlb; clear hlb
          refine onlyC (i:=4) (w':=w20.alloc (.cells #[] 5)) (some 115) rfl (.slice (some ⟨w20.heap.size,0,none⟩) 0 0) (by kernel_rfl) rfl rfl (by kernel_rfl) (M.sub _ (List.cons_sublist_cons.2 (List.cons_sublist_cons.2 (List.cons_sublist_cons.2 (List.nil_sublist _))))) ?_; simp only [aP,lI,l0,lS]; clear M; have M:=Mn_; clear Mn_
          generalize w20.alloc (.cells #[] 5)=w21 at M V_n21 V_b V_a V_h OF V_c ⊢; generalize (some ⟨w20.heap.size,0,none⟩:Option Addr)=p21 at M V_n21 L_n21 ⊢
          replace M:Mm w0 ((B3,[.int .i64 (oat o 0),.slice sc (0) cc])::(B1,[.int .i64 0,.slice none 0 0])::(R,[.int .i64 o.size,.int .i64 o.lim,.int .i64 ((o.sent:Nat):Int),.slice sb o.b.length cb,.slice sa o.b.length ca,.slice sh o.b.length ch])::((obs p21)++((obs sc)++((obs sb)++((obs sa)++((obs sh)++l)))))) w21:=M.perm (pull0 ([(B3,[.int .i64 (oat o 0),.slice sc (0) cc]),(B1,[.int .i64 0,.slice none 0 0]),(R,[.int .i64 o.size,.int .i64 o.lim,.int .i64 ((o.sent:Nat):Int),.slice sb o.b.length cb,.slice sa o.b.length ca,.slice sh o.b.length ch])]:List (Nat × List Value)) (obs p21) ((obs sc)++((obs sb)++((obs sa)++((obs sh)++l))))).symm
          obtain ⟨v2,w22,hr,V2,hgr,hg2⟩:=run_append_Own (P:=Try.prog) (ty:=28) Try.underlying28 one8 (show Own _ _ 5 .u8 0 (fun _=>0) _ from V_n21) spc (o.sent+onM o p-o.sent) (cb-o.sent) (fun j=>bl o.b (o.sent+j)) (hsrc _ _ (Own.src V_b)) hnil2 (by unfold maxLen; omega) (by omega) (xnT hb0.size OF.size)
          have Mp:=M.perm (pull0 ([(B3,[.int .i64 (oat o 0),.slice sc (0) cc]),(B1,[.int .i64 0,.slice none 0 0]),(R,[.int .i64 o.size,.int .i64 o.lim,.int .i64 ((o.sent:Nat):Int),.slice sb o.b.length cb,.slice sa o.b.length ca,.slice sh o.b.length ch])]:List (Nat × List Value)) (obs p21) ((obs sc)++((obs sb)++((obs sa)++((obs sh)++l)))))
          have ho:=Off.grown (Off.refl (ob p21) w21) hgr (fun b_ hb_=>.inl ((ob_own _ _ _ b_).1 hb_)); replace V_b:=ownsRow_away V_b ho (Mp.awayO (fun p_ hp_=>by simp [hp_])); replace V_a:=ownsRow_away V_a ho (Mp.awayO (fun p_ hp_=>by simp [hp_])); replace V_h:=ownsRow_away V_h ho (Mp.awayO (fun p_ hp_=>by simp [hp_]))
          replace V_c:=ownsRow_away V_c ho (Mp.awayO (fun p_ hp_=>by simp [hp_]))
          obtain ⟨sv22,cv22,rfl,_,_⟩:=row_form16 V2
          have L2:=L_n21.grown hg2 OF.size; replace OF:=OF.grown hgr (fun b_ hb_=>L_n21 b_ ((ob_own _ _ _ b_).1 hb_))
          have M':=Mp.rowApp V_n21 hgr V2 hg2 (xnR _)
          clear M Mp ho hgr hg2 V_n21 L_n21; have L_n21:=L2; clear L2
          have M:Mm w0 ((B3,[.int .i64 (oat o 0),.slice sc (0) cc])::(B1,[.int .i64 0,.slice none 0 0])::(R,[.int .i64 o.size,.int .i64 o.lim,.int .i64 ((o.sent:Nat):Int),.slice sb o.b.length cb,.slice sa o.b.length ca,.slice sh o.b.length ch])::((obs sv22)++((obs sc)++((obs sb)++((obs sa)++((obs sh)++l)))))) w22:=M'.perm (pull0 ([(B3,[.int .i64 (oat o 0),.slice sc (0) cc]),(B1,[.int .i64 0,.slice none 0 0]),(R,[.int .i64 o.size,.int .i64 o.lim,.int .i64 ((o.sent:Nat):Int),.slice sb o.b.length cb,.slice sa o.b.length ca,.slice sh o.b.length ch])]:List (Nat × List Value)) (obs sv22) ((obs sc)++((obs sb)++((obs sa)++((obs sh)++l))))).symm
          clear M'; refine onlyC (i:=15) (some 126) rfl (_) (by kernel_rfl) rfl rfl (appendOp _ _ 28 _ _ _ rfl rfl rfl hr) (M.sub _ (List.cons_sublist_cons.2 (List.cons_sublist_cons.2 (List.cons_sublist_cons.2 (List.nil_sublist _))))) ?_; simp only [aP,lI,l0,lS]; clear hr
          rw [show 0+(o.sent+onM o p-o.sent)=onM o p by omega] at V2 ⊢
          replace V2:=Own.congr V2 (fun j _=>app_nil0 _ j)
          replace V2:w22.ownsRow w0.heap.size 5 1 (.slice sv22 (onM o p) cv22) (onM o p) (row .u8 (onM o p) (fun j=>bl o.b (o.sent+j))):=V2
          have V_n21:=V2; clear V2
          refine readC (i:=16) (some 127) rfl (.agg #[.int .i64 ((o.sent:Nat):Int),.slice sv22 (onM o p) cv22]) rfl rfl (by kernel_rfl) rfl (fun _ hS=>(by kernel_rfl)) (by kernel_rfl) (by kernel_rfl) (by kernel_rfl) (by kernel_rfl) (fun _ _ _ h=>h) (M.sub _ (List.cons_sublist_cons.2 (List.cons_sublist_cons.2 (List.cons_sublist_cons.2 (List.nil_sublist _))))) ?_
          simp only [aP,lI,l0,lS]
          refine skipC (S2:=fun _=>True) none rfl (by kernel_rfl) rfl rfl (storeP [.int .i64 ((o.sent:Nat):Int),.slice sv22 (onM o p) cv22] B3 0 35 _ _ rfl rfl rfl (M.thereP mS 0 2 (Nat.le_of_ble_eq_true rfl)) (by kernel_rfl) (List.all_eq_true.1 (rfl:([.int .i64 ((o.sent:Nat):Int),.slice sv22 (onM o p) cv22]:List Value).all (fun u=>u.oneCell')=true))) (by kernel_rfl) ?_
          simp only [Act.put]; replace M:=M.setPart [.int .i64 ((o.sent:Nat):Int),.slice sv22 (onM o p) cv22] 0 (Nat.le_of_ble_eq_true rfl); replace V_b:=ownsRow_away V_b ((Off.refl [B3] _).setAll (b:=B3) mS 0 [.int .i64 ((o.sent:Nat):Int),.slice sv22 (onM o p) cv22]) (fun b_ hb_=>by obtain rfl:=xm1 hb_; exact M.awayB (fun p_ hp_=>by simp [hp_]))
          replace V_a:=ownsRow_away V_a ((Off.refl [B3] _).setAll (b:=B3) mS 0 [.int .i64 ((o.sent:Nat):Int),.slice sv22 (onM o p) cv22]) (fun b_ hb_=>by obtain rfl:=xm1 hb_; exact M.awayB (fun p_ hp_=>by simp [hp_]))
          replace V_h:=ownsRow_away V_h ((Off.refl [B3] _).setAll (b:=B3) mS 0 [.int .i64 ((o.sent:Nat):Int),.slice sv22 (onM o p) cv22]) (fun b_ hb_=>by obtain rfl:=xm1 hb_; exact M.awayB (fun p_ hp_=>by simp [hp_])); replace OF:=OF.and1 ((Off.refl [B3] _).setAll (b:=B3) mS 0 [.int .i64 ((o.sent:Nat):Int),.slice sv22 (onM o p) cv22]) (.inr hB_B3)
          replace V_c:=ownsRow_away V_c ((Off.refl [B3] _).setAll (b:=B3) mS 0 [.int .i64 ((o.sent:Nat):Int),.slice sv22 (onM o p) cv22]) (fun b_ hb_=>by obtain rfl:=xm1 hb_; exact M.awayB (fun p_ hp_=>by simp [hp_]))
          replace V_n21:=ownsRow_away V_n21 ((Off.refl [B3] _).setAll (b:=B3) mS 0 [.int .i64 ((o.sent:Nat):Int),.slice sv22 (onM o p) cv22]) (fun b_ hb_=>by obtain rfl:=xm1 hb_; exact M.awayB (fun p_ hp_=>by simp [hp_])); generalize w22.setCells B3 0 [.int .i64 ((o.sent:Nat):Int),.slice sv22 (onM o p) cv22]=w23 at M V_b V_a V_h OF V_c V_n21 ⊢
          replace M:Mm w0 ((B3,[.int .i64 ((o.sent:Nat):Int),.slice sv22 (onM o p) cv22])::(B1,[.int .i64 0,.slice none 0 0])::(R,[.int .i64 o.size,.int .i64 o.lim,.int .i64 ((o.sent:Nat):Int),.slice sb o.b.length cb,.slice sa o.b.length ca,.slice sh o.b.length ch])::((obs sv22)++((obs sc)++((obs sb)++((obs sa)++((obs sh)++l)))))) w23:=M
          refine wpAnyH_done (by kernel_rfl) ?_ _
          first | show Exit.then _ _ _ _ _ | show Exit.inBlock _ _ _ _ _
          clear hcut hsrc; go_upto_region 19 with fail; refine wp_region_list ?_; refine xpL (.pointer (some ⟨R,0,none⟩)) ?_; refine xpL (.int .i64 ((o.sent+onM o p:Nat):Int)) ?_; refine xpL (.pointer (some ⟨R,0,none⟩)) ?_; refine xpL (.pointer (some ⟨R,2,none⟩)) ?_; replace M:=M.rot3
          refine skipOpL rfl (storeAny (.int .i64 ((o.sent+onM o p:Nat):Int)) R 2 3 _ _ rfl rfl rfl rfl rfl (M.isSome mS 2 (by simp)) (M.free mS 2 (by simp)) (by kernel_rfl)) ?_; simp only [Act.put]; replace M:=M.set 2 (by simp) (.int .i64 ((o.sent+onM o p:Nat):Int))
          replace V_b:=ownsRow_away V_b ((Off.refl [R] _).set (b:=R) mS 2 (.int .i64 ((o.sent+onM o p:Nat):Int))) (fun b_ hb_=>by obtain rfl:=xm1 hb_; exact M.awayB (fun p_ hp_=>by simp [hp_]))
          replace V_a:=ownsRow_away V_a ((Off.refl [R] _).set (b:=R) mS 2 (.int .i64 ((o.sent+onM o p:Nat):Int))) (fun b_ hb_=>by obtain rfl:=xm1 hb_; exact M.awayB (fun p_ hp_=>by simp [hp_]))
          replace V_h:=ownsRow_away V_h ((Off.refl [R] _).set (b:=R) mS 2 (.int .i64 ((o.sent+onM o p:Nat):Int))) (fun b_ hb_=>by obtain rfl:=xm1 hb_; exact M.awayB (fun p_ hp_=>by simp [hp_])); replace OF:=OF.and1 ((Off.refl [R] _).set (b:=R) mS 2 (.int .i64 ((o.sent+onM o p:Nat):Int))) (.inl hRX)
          replace V_c:=ownsRow_away V_c ((Off.refl [R] _).set (b:=R) mS 2 (.int .i64 ((o.sent+onM o p:Nat):Int))) (fun b_ hb_=>by obtain rfl:=xm1 hb_; exact M.awayB (fun p_ hp_=>by simp [hp_]))
          replace V_n21:=ownsRow_away V_n21 ((Off.refl [R] _).set (b:=R) mS 2 (.int .i64 ((o.sent+onM o p:Nat):Int))) (fun b_ hb_=>by obtain rfl:=xm1 hb_; exact M.awayB (fun p_ hp_=>by simp [hp_])); generalize w23.setCell ⟨R,2,none⟩ (.int .i64 ((o.sent+onM o p:Nat):Int))=w24 at M V_b V_a V_h OF L_b L_a L_h V_c L_c V_n21 L_n21 ⊢
          replace M:Mm w0 ((R,[.int .i64 o.size,.int .i64 o.lim,.int .i64 ((o.sent+onM o p:Nat):Int),.slice sb o.b.length cb,.slice sa o.b.length ca,.slice sh o.b.length ch])::(B3,[.int .i64 ((o.sent:Nat):Int),.slice sv22 (onM o p) cv22])::(B1,[.int .i64 0,.slice none 0 0])::((obs sv22)++((obs sc)++((obs sb)++((obs sa)++((obs sh)++l)))))) w24:=M
          refine xT ?_; go_upto_region 20 with fail; refine wp_region_list ?_; refine xaL (.agg #[.int .i64 ((o.sent:Nat):Int),.slice sv22 (onM o p) cv22]) (loadN 35 _ ⟨B3,0,none⟩ [.int .i64 ((o.sent:Nat):Int),.slice sv22 (onM o p) cv22] rfl rfl (fun _=>by kernel_rfl) (fun _=>by kernel_rfl) (M.rangeAt (mT _ mS))) ?_; replace M:=M.rot3
          refine skipOpL rfl (storeP [.int .i64 ((o.sent:Nat):Int),.slice sv22 (onM o p) cv22] B1 0 35 _ _ rfl rfl rfl (M.thereP mS 0 2 (Nat.le_of_ble_eq_true rfl)) (by kernel_rfl) (List.all_eq_true.1 (rfl:([.int .i64 ((o.sent:Nat):Int),.slice sv22 (onM o p) cv22]:List Value).all (fun u=>u.oneCell')=true))) ?_; simp only [Act.put]
          replace M:=M.setPart [.int .i64 ((o.sent:Nat):Int),.slice sv22 (onM o p) cv22] 0 (Nat.le_of_ble_eq_true rfl); replace V_b:=ownsRow_away V_b ((Off.refl [B1] _).setAll (b:=B1) mS 0 [.int .i64 ((o.sent:Nat):Int),.slice sv22 (onM o p) cv22]) (fun b_ hb_=>by obtain rfl:=xm1 hb_; exact M.awayB (fun p_ hp_=>by simp [hp_]))
          replace V_a:=ownsRow_away V_a ((Off.refl [B1] _).setAll (b:=B1) mS 0 [.int .i64 ((o.sent:Nat):Int),.slice sv22 (onM o p) cv22]) (fun b_ hb_=>by obtain rfl:=xm1 hb_; exact M.awayB (fun p_ hp_=>by simp [hp_]))
          replace V_h:=ownsRow_away V_h ((Off.refl [B1] _).setAll (b:=B1) mS 0 [.int .i64 ((o.sent:Nat):Int),.slice sv22 (onM o p) cv22]) (fun b_ hb_=>by obtain rfl:=xm1 hb_; exact M.awayB (fun p_ hp_=>by simp [hp_])); replace OF:=OF.and1 ((Off.refl [B1] _).setAll (b:=B1) mS 0 [.int .i64 ((o.sent:Nat):Int),.slice sv22 (onM o p) cv22]) (.inr hB_B1)
          replace V_c:=ownsRow_away V_c ((Off.refl [B1] _).setAll (b:=B1) mS 0 [.int .i64 ((o.sent:Nat):Int),.slice sv22 (onM o p) cv22]) (fun b_ hb_=>by obtain rfl:=xm1 hb_; exact M.awayB (fun p_ hp_=>by simp [hp_]))
          replace V_n21:=ownsRow_away V_n21 ((Off.refl [B1] _).setAll (b:=B1) mS 0 [.int .i64 ((o.sent:Nat):Int),.slice sv22 (onM o p) cv22]) (fun b_ hb_=>by obtain rfl:=xm1 hb_; exact M.awayB (fun p_ hp_=>by simp [hp_])); generalize w24.setCells B1 0 [.int .i64 ((o.sent:Nat):Int),.slice sv22 (onM o p) cv22]=w25 at M V_b V_a V_h OF L_b L_a L_h V_c L_c V_n21 L_n21 ⊢
          replace M:Mm w0 ((B1,[.int .i64 ((o.sent:Nat):Int),.slice sv22 (onM o p) cv22])::(R,[.int .i64 o.size,.int .i64 o.lim,.int .i64 ((o.sent+onM o p:Nat):Int),.slice sb o.b.length cb,.slice sa o.b.length ca,.slice sh o.b.length ch])::(B3,[.int .i64 ((o.sent:Nat):Int),.slice sv22 (onM o p) cv22])::((obs sv22)++((obs sc)++((obs sb)++((obs sa)++((obs sh)++l)))))) w25:=M
          refine xpL (.bool true) ?_; refine xT ?_; have h2_:=e2_ hM
          rw [row_congr .u8 (onM o p) e6_] at V_n21
          have c1_:=M.part mS 0 [.int .i64 ((o.sent:Nat):Int),.slice sv22 (onM o p) cv22] rfl; replace M:=M.swap
          replace M:Mm w0 ((R,[.int .i64 o.size,.int .i64 o.lim,.int .i64 ((o.sent+onM o p:Nat):Int),.slice sb o.b.length cb,.slice sa o.b.length ca,.slice sh o.b.length ch])::((obs sv22)++((obs sb)++((obs sa)++((obs sh)++l))))) w25:=M.sub _ (List.cons_sublist_cons.2 (List.Sublist.cons _ (List.Sublist.cons _ ((List.Sublist.refl _).append (List.Sublist.trans ((List.Sublist.refl _).append ((List.Sublist.refl _).append ((List.Sublist.refl _).append (List.Sublist.refl _)))) (List.sublist_append_right _ _))))))
          rw [hXS] at OF
          clear e2_ e3_ e5_ e6_ e0_; replace hM:=show Hid _ from hM; replace h2_:=show Hid _ from h2_; replace e1_:=show Hid _ from e1_; replace e4_:=show Hid _ from e4_; replace e7_:=show Hid _ from e7_; have HS:=show Hid _ from (show _∧_∧_∧_∧_∧_ from ⟨M,V_n21,V_b,V_a,V_h,OF⟩); clear M V_n21 V_b V_a V_h OF; go_wp2
          refine bodyPost_ret (v:=.tuple #[.agg #[.int .i64 ((o.sent:Nat):Int),.slice sv22 (onM o p) cv22],.bool true]) (retCellTmp 4 5 35 ⟨B1,0,none⟩ [.int .i64 ((o.sent:Nat):Int),.slice sv22 (onM o p) cv22] _ rfl rfl rfl (fun _=>by kernel_rfl) (fun _=>by kernel_rfl) c1_) rfl ?_
          refine ⟨sv22,cv22,by rw [h2_.out,e4_.out,e1_.out,decide_eq_true hM.out],?_⟩
          rw [e7_.out,e4_.out]
          exact HS.out
end Go.Proofs.Ytpdpfdelglgfnaa
