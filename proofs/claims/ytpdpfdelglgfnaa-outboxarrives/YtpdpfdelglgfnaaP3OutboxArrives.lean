/- Texts of LawOutboxArrives Sl Ln, joined. -/
import Derived.Test.YtpdpfdelglgfnaaP2OutboxArrives
set_option maxRecDepth 20000
set_option maxHeartbeats 64000000
namespace Go.Proofs.Ytpdpfdelglgfnaa
open Go.RowKit
def bcnt (f:Nat→Bool):Nat→Nat
 | 0=>0
 | n+1=>bcnt f n+if f n=true then 1 else 0
theorem bcnt_le (f:Nat→Bool):∀ n,bcnt f n≤n
 | 0=>xnR _
 | n+1=>by have:=bcnt_le f n; unfold bcnt; split <;> omega
theorem bcnt_mono {f g:Nat→Bool}:∀ {n:Nat},(∀ i,i<n→f i=true→g i=true)→bcnt f n≤bcnt g n
 | 0,_=>xnR _
 | n+1,h=>by
   have h1:=bcnt_mono (n:=n) fun i hi=>h i (by omega); have h2:=h n (by omega)
   unfold bcnt
   by_cases c:f n=true
   · rw [if_pos c,if_pos (h2 c)]; omega
   · rw [if_neg c]; split <;> omega
theorem bcnt_lt {f g:Nat→Bool}:∀ {n:Nat},(∀ i,i<n→f i=true→g i=true)→∀ k,k<n→f k=false→g k=true→bcnt f n<bcnt g n
 | 0,_,k,hk,_,_=>absurd hk (xnZ k)
 | n+1,h,k,hk,h1,h2=>by
   unfold bcnt
   by_cases c:k=n
   · subst c
     have h3:=bcnt_mono (n:=k) fun i hi=>h i (by omega)
     rw [h1,h2,if_pos rfl,if_neg (by decide)]
     omega
   · have h3:=bcnt_lt (n:=n) (fun i hi=>h i (by omega)) k (by omega) h1 h2
     have h4:=h n (by omega)
     by_cases d:f n=true
     · rw [if_pos d,if_pos (h4 d)]; omega
     · rw [if_neg d]; split <;> omega
theorem onB_len {o:Obx} (hw:ObxW o) (n:Int):(onB o n).length=onN o n:=by
 have:=(onN_le hw n).1
 unfold onB
 rw [List.length_take,List.length_drop]
 omega
theorem on_given {o:Obx} (hw:ObxW o) {n:Int} (hN:0<onN o n) (i:Nat) (h1:onF o n≤i) (h2:i<onF o n+onN o n):o.he i=false∧i<(onx o n).sent:=by
 have hst:=hw.st
 unfold onN at hN h2
 by_cases c:n<1
 · rw [if_pos c] at hN; omega
 · rw [if_neg c] at hN h2
   by_cases d:onA o<o.b.length
   · rw [if_pos d] at hN h2
     have e1:onF o n=onA o:=by unfold onF onN; rw [if_neg c,if_pos d,if_neg (by omega),if_pos d]
     rw [e1] at h1 h2
     have ha:=onK_in (o:=o) (most:=n) (i:=i-onA o) (by omega)
     rw [show onA o+(i-onA o)=i by omega] at ha
     refine ⟨hw.a2 i ha,?_⟩
     unfold onx
     rw [if_neg c,if_pos d]
     exact hw.a1 i ha
   · rw [if_neg d] at hN h2
     have e1:onF o n=o.sent:=by unfold onF onN; rw [if_neg c,if_neg d,if_neg (by omega),if_neg d]
     rw [e1] at h1 h2
     refine ⟨?_,?_⟩
     · cases e:o.he i
       · rfl
       · have:=hw.h1 i e; omega
     · unfold onx
       rw [if_neg c,if_neg d]
       exact h2
theorem onx_he (o:Obx) (n:Int):(onx o n).he=o.he∧(onx o n).b=o.b∧(onx o n).lim=o.lim:=by
 unfold onx
 split
 · exact ⟨rfl,rfl,rfl⟩
 · split <;> exact ⟨rfl,rfl,rfl⟩
theorem onx_all {o:Obx} (hj:∀ i,i<o.sent→o.he i=true∨o.ag i=true) (n:Int) (i:Nat) (hi:i<(onx o n).sent):(onx o n).he i=true∨(onx o n).ag i=true∨(0<onN o n∧onF o n≤i∧i<onF o n+onN o n):=by
 unfold onx at hi ⊢
 by_cases c:n<1
 · rw [if_pos c] at hi ⊢
   rcases hj i hi with h | h
   · exact .inl h
   · exact .inr (.inl h)
 · rw [if_neg c] at hi ⊢
   by_cases d:onA o<o.b.length
   · rw [if_pos d] at hi ⊢
     have hk:=onK_pos (o:=o) (most:=n) d c
     have e0:onN o n=onK o n:=by unfold onN; rw [if_neg c,if_pos d]
     have e1:onF o n=onA o:=by unfold onF; rw [e0,if_neg (by omega),if_pos d]
     rcases hj i hi with h | h
     · exact .inl h
     · by_cases f:onA o≤i∧i<onA o+onK o n
       · exact .inr (.inr ⟨by omega,by omega,by omega⟩)
       · refine .inr (.inl ?_)
         show (o.ag i&&!decide (onA o≤i∧i<onA o+onK o n))=true
         rw [h,decide_eq_false f]
         rfl
   · rw [if_neg d] at hi ⊢
     have e0:onN o n=min n.toNat (onT o-o.sent):=by unfold onN; rw [if_neg c,if_neg d]
     have hi':i<o.sent+min n.toNat (onT o-o.sent):=hi
     by_cases f:i<o.sent
     · rcases hj i f with h | h
       · exact .inl h
       · exact .inr (.inl h)
     · have e1:onF o n=o.sent:=by unfold onF; rw [e0,if_neg (by omega),if_neg d]
       exact .inr (.inr ⟨by omega,by omega,by omega⟩)
structure Arr (B:List Int) (o:Obx) (q:Nat):Prop where
 w:ObxW o
 b:o.b=B
 l:o.lim=1099511627776
 j:∀ i,i<o.sent→o.he i=true∨o.ag i=true
 c:q≤100+bcnt o.he B.length
theorem Arr.lost {B:List Int} {o:Obx} {q:Nat} (h:Arr B o q) (hq:q<100) {n:Int} (hN:0<onN o n):Arr B (olo (onx o n) ((onF o n:Nat):Int) ((onN o n:Nat):Int)) (q+1):=by
 obtain ⟨e1,e2,e3⟩:=onx_he o n
 refine ⟨olo_w (onx_w h.w n) _ _,e2.trans h.b,e3.trans h.l,fun i hi=>?_,?_⟩
 · rcases onx_all h.j n i hi with c | c | ⟨_,c1,c2⟩
   · exact .inl c
   · refine .inr ?_
     show ((onx o n).ag i || _)=true
     rw [c]
     rfl
   · refine .inr ?_
     show ((onx o n).ag i || (decide (i<(onx o n).sent)&&oin _ _ i&&!(onx o n).he i))=true
     rw [decide_eq_true (show i<(onx o n).sent from hi),e1,(on_given h.w hN i c1 c2).1]
     unfold oin
     rw [decide_eq_true (by omega)]
     simp
 · show q+1≤100+bcnt (onx o n).he B.length
   omega
theorem Arr.ack {B:List Int} {o:Obx} {q:Nat} (h:Arr B o q) {n:Int} (hN:0<onN o n):Arr B (oac (onx o n) 0 [(((onF o n:Nat):Int),((onF o n+onN o n:Nat):Int))]) (q+1):=by
 obtain ⟨e1,e2,e3⟩:=onx_he o n
 have hin:∀ i,onF o n≤i→i<onF o n+onN o n→oak 0 [(((onF o n:Nat):Int),((onF o n+onN o n:Nat):Int))] i=true:=fun i c1 c2=>by
  unfold oak
  rw [Bool.or_eq_true]
  exact .inr (List.any_eq_true.2 ⟨_,List.mem_singleton.2 rfl,decide_eq_true (by simp only; omega)⟩)
 refine ⟨oac_w (onx_w h.w n) _ _,e2.trans h.b,e3.trans h.l,fun i hi=>?_,?_⟩
 · by_cases f:onF o n≤i∧i<onF o n+onN o n
   · refine .inl ?_
     show ((onx o n).he i || (decide (i<(onx o n).sent)&&oak _ _ i))=true
     rw [hin i f.1 f.2,decide_eq_true (show i<(onx o n).sent from hi)]
     simp
   · rcases onx_all h.j n i hi with c | c | ⟨_,c1,c2⟩
     · refine .inl ?_
       show ((onx o n).he i || _)=true
       rw [c]
       rfl
     · refine .inr ?_
       show ((onx o n).ag i&&!(decide (i<(onx o n).sent)&&oak _ _ i))=true
       have:oak 0 [(((onF o n:Nat):Int),((onF o n+onN o n:Nat):Int))] i=false:=by
        unfold oak
        rw [decide_eq_false (by omega)]
        simp only [List.any_cons,List.any_nil,Bool.or_false,Bool.false_or]
        exact decide_eq_false (by omega)
       rw [c,this]
       simp
     · exact absurd ⟨c1,c2⟩ f
 · have h1:=(onN_le h.w n).1
   rw [h.b] at h1
   have h2:=on_given h.w hN (onF o n) (xnR _) (by omega)
   have h3:bcnt o.he B.length<bcnt (oac (onx o n) 0 [(((onF o n:Nat):Int),((onF o n+onN o n:Nat):Int))]).he B.length:=by
    refine bcnt_lt (fun i _ hf=>?_) (onF o n) (by omega) h2.1 ?_
    · show ((onx o n).he i || _)=true
      rw [e1,hf]
      rfl
    · show ((onx o n).he (onF o n) || (decide (onF o n<(onx o n).sent)&&oak _ _ (onF o n)))=true
      rw [hin _ (xnR _) (by omega),decide_eq_true h2.2]
      simp
   have:=h.c
   omega
theorem Arr.done {B:List Int} {o:Obx} {q:Nat} (h:Arr B o q) (hB:B.length≤1000) {n:Int} (hn:1≤n) (hN:¬ 0<onN o n):obase (onx o n)=B.length∧oid (onx o n)=true:=by
 obtain ⟨e1,e2,e3⟩:=onx_he o n
 have hb:=h.b; have hst:=h.w.st
 have hA:¬ onA o<o.b.length:=fun d=>by
  have hk:=onK_pos (o:=o) (most:=n) d (by omega)
  unfold onN at hN
  rw [if_neg (by omega),if_pos d] at hN
  omega
 have hs:o.b.length≤o.sent:=by
  unfold onN onT at hN
  rw [if_neg (by omega),if_neg hA,h.l] at hN
  rw [hb] at hN ⊢
  omega
 have e:obase (onx o n)=B.length:=by
  unfold obase
  rw [e1,e2,hb]
  refine fstp_all fun i hi=>?_
  rcases h.j i (by rw [hb] at hs; omega) with c | c
  · rw [c]; rfl
  · rw [onA_end h.w hA i] at c; cases c
 refine ⟨e,decide_eq_true ?_⟩
 rw [e,e2,hb]
theorem arr_owN (B:List Int) (hB:B.length≤1000):owN (oal (onew 1048576) 1099511627776) B.length=B.length:=by
 unfold owN
 have:obase (oal (onew 1048576) 1099511627776)=0:=rfl
 rw [this]
 show min B.length ((1048576:Int)-((0:Nat)-(0:Nat))).toNat=_
 omega
theorem Arr.start {B:List Int} (hb:Byts B) (hB:B.length≤1000):Arr B (owr (oal (onew 1048576) 1099511627776) B) 0 :=
 ⟨owr_w (oal_w (onew_w _) (by unfold i64; decide)) hb,by show []++B.take (owN _ _)=B; rw [arr_owN B hB,List.take_length]; rfl,rfl,fun i hi=>absurd hi (xnZ i),Nat.zero_le _⟩
theorem law_OutboxArrives {I:OutI} (hK:OutOK I) (sb:Option Addr) (capb:Nat) (b:List Int) (maxb:b.length≤140737488351232) (leb:b.length≤capb) (nilb:sb=none→capb=0) (byb:Byts b) (z:Int) (hz:i64 z) (sp:Option Addr) (cap:Nat) (l:List Int) (_maxl:l.length≤140737488351232) (_hl:∀ x∈l,i64 x) (w0:World) (srcb:Src w0 sb b.length (bl b)) (hsl0:SrcI w0 sp l.length (bl l)) :
 Calls Try.prog 5 #[.slice sb b.length capb,.int .i64 z,.slice sp l.length cap] w0 fun e w'=>e=.returned (.bool true)∧Below w0.heap.size w0 w':=by
 have M:=Mm.init w0
 go_enter Try.func5,Try.ntmps5
 go_upto_region 0 with fail; refine wp_region_list ?_; refine xpL (.bool false) ?_; refine xT ?_; go_upto_region 1 with fail; refine wp_region_list ?_; have key:=shown18_any hK w0; refine xcL key ?_; clear key; rintro e w1 ⟨rfl,l_⟩; replace M:=M.call l_; clear l_; refine xeL ?_; refine xpL (.bool true) ?_; refine xT ?_; go_upto_region 2 with fail; refine wp_region_list ?_
 have key:=hK.new w0 _ _ 1048576 (by unfold i64; decide) M; refine xcL key ?_; clear key; rintro e w2 ⟨v_,ba0,rfl,hIa,M',l_⟩
 obtain ⟨Ra,rfl⟩:=hK.ptr _ _ _ _ hIa
 clear M; have M:=M'.perm (pull0 ([]:List (Nat × List Value)) ba0 ([]:List (Nat × List Value))).symm; clear M'; clear l_
 replace M:Mm w0 ((ba0++([]:List (Nat × List Value)))) w2:=M
 refine xeL ?_; refine xpL (.pointer (some ⟨Ra,0,none⟩)) ?_; refine xT ?_; go_upto_region 3 with fail; refine wp_region_list ?_; refine xpL (.bool true) ?_; refine xpL (.bool false) ?_; refine xpL (.bool false) ?_; refine xpL (.pointer (some ⟨Ra,0,none⟩)) ?_; refine xpL (.bool false) ?_; refine xpL (.bool false) ?_; refine xT ?_
 by_cases hlong:1000<b.length
 · go_upto_region 5 with fail
   refine wp_region_list ?_; refine xpL (.slice sb b.length capb) ?_; refine xaL (.int .i64 ((b.length:Nat):Int)) (lenS _ 28 5 sb b.length capb rfl Try.underlying28 rfl _) ?_; refine xaL (.bool true) (gtrI .i64 _ _ _ _ _ _ rfl rfl rfl true (decide_eq_true (by omega)) _) ?_; refine xT ?_
   obtain ⟨B,hBe⟩:∃ B,B=b.take 1000:=⟨_,rfl⟩
   have hBl0:B.length=1000:=by rw [hBe,List.length_take]; omega
   have hBl:B.length≤1000:=by omega
   have hB:Byts B:=by rw [hBe]; exact take_byts byb _
   obtain ⟨spc,hcut,hsrc,hnil2⟩:=cut_hiN (P:=Try.prog) (t:=28) Try.underlying28 (fun w=>by kernel_rfl) sb b.length capb 1000 (by omega) leb nilb
   have srcB:Src w0 spc B.length (bl B):=fun j hj=>by
    have h_:=hsrc _ _ srcb j (by omega)
    rw [hBe,bl_takeK (show j<1000 by omega)]
    exact h_
   go_upto_region 6 with fail; refine wp_region_list ?_; refine xpL (.slice sb b.length capb) ?_; refine xaL (.slice spc 1000 capb) (cutHi 28 _ _ _ _ _ rfl rfl rfl (hcut _)) ?_; refine xpL (.slice spc 1000 capb) ?_; refine xT ?_
   rw [show (Value.slice spc 1000 capb)=.slice spc B.length capb by rw [hBl0]]
   clear hcut hsrc hBl0; go_upto_region 7 with fail; refine wp_region_list ?_; refine xpL (.pointer (some ⟨Ra,0,none⟩)) ?_; have Mp:=M.perm (pull0 ([]:List (Nat × List Value)) ba0 ([]:List (Nat × List Value))); have key:=hK.alw w0 _ _ (onew 1048576) ba0 _ 1099511627776 (onew_w _) (show 0<1000000 by decide) (by unfold i64; decide) hIa Mp; refine xcL key ?_; clear key
   rintro e w3 ⟨ba1,rfl,hI_,M',o1⟩; clear o1 Mp M hIa; have hIa:=hI_; clear hI_
   have M:Mm w0 ((ba1++([]:List (Nat × List Value)))) w3:=M'.perm (pull0 ([]:List (Nat × List Value)) ba1 ([]:List (Nat × List Value))).symm
   clear M'; refine xeL ?_; refine xT ?_; go_upto_region 8 with fail; refine wp_region_list ?_; refine xpL (.pointer (some ⟨Ra,0,none⟩)) ?_; refine xpL (.slice spc B.length capb) ?_; have Mp:=M.perm (pull0 ([]:List (Nat × List Value)) ba1 ([]:List (Nat × List Value)))
   have key:=hK.wrt w0 _ _ (oal (onew 1048576) 1099511627776) ba1 _ spc capb B (oal_w (onew_w _) (by unfold i64; decide)) (show 0<1000000 by decide) (by omega) (by omega) hnil2 hB hIa Mp ((SrcA.of_old srcB Mp.los).off (Off.of_below Mp.below))
   rw [arr_owN B hBl] at key
   refine xcL key ?_; clear key; rintro e w4 ⟨ba2,rfl,hI_,M',o1⟩; clear o1 Mp M hIa; have hIa:=hI_; clear hI_
   have M:Mm w0 ((ba2++([]:List (Nat × List Value)))) w4:=M'.perm (pull0 ([]:List (Nat × List Value)) ba2 ([]:List (Nat × List Value))).symm
   clear M'; refine xeL ?_; refine xpL (.slice spc B.length capb) ?_; refine xaL (.int .i64 ((B.length:Nat):Int)) (lenS _ 28 5 spc B.length capb rfl Try.underlying28 rfl _) ?_; refine xaL (.bool false) (neqI .i64 _ _ _ _ _ _ rfl rfl rfl false (bne_self_eq_false _) _) ?_; refine xT ?_; go_upto_region 10 with fail; refine wp_region_list ?_; refine xpL (.int .i64 z) ?_
   have key:=kind18_any z 60 (by decide) hz w4; refine xcL key ?_; clear key; rintro e w5 ⟨rfl,l_⟩; replace M:=M.call l_; replace hIa:=hK.bel hIa l_; clear l_; refine xeL ?_; have hkd:=kdn_lt z 60 (by decide); generalize kdn z 60=kz at hkd ⊢; refine xaL (.int .i64 (1+(kz:Int))) (addI .i64 _ _ _ _ _ _ _ rfl rfl rfl (by rw [xw6]; omega) _) ?_
   refine xpL (.int .i64 (1+(kz:Int))) ?_; refine xT ?_; go_upto_region 11 with fail; refine wp_region_list ?_; refine xpL (.int .i64 0) ?_; refine xT ?_; go_upto_region 12 with fail; refine wp_region_list ?_; refine xpL (.int .i64 0) ?_; refine xT ?_
   have HI:=show Hid _ from (show I w5 (.pointer (some ⟨Ra,0,none⟩)) (owr (oal (onew 1048576) 1099511627776) B) ba2∧Mm w0 (ba2++([]:List (Nat × List Value))) w5 from ⟨hIa,M⟩); clear M hIa; go_wp2
   go_loopw [10,11] (fun a_ i w'=>∃ (q:Nat) (o:Obx) (ga:List (Nat × List Value)),q≤2000∧a_=.int .i64 (q:Int)∧i=.int .i64 (q:Int)∧Arr B o q∧I w' (.pointer (some ⟨Ra,0,none⟩)) o ga∧Mm w0 (ga++([]:List (Nat × List Value))) w') (fun _ i _=>2000-(intOf i).toNat)
   case atStart=>exact ⟨0,_,_,by omega,rfl,rfl,Arr.start hB hBl,HI.out⟩
   case round =>
    clear HI
    obtain ⟨q,o,ga,hq,rfl,rfl,hA,hIa,M⟩:=hrel
    have hAc:=hA.c; have hbc:=bcnt_le o.he B.length; have hNl:=onN_le hA.w (1+(kz:Int))
    rw [hA.b] at hNl
    have hBn:=onB_len hA.w (1+(kz:Int)); go_upto_region 13 with fail; refine wp_region_list ?_; refine xpL (.int .i64 (q:Int)) ?_; refine xaL (.bool true) (lssI .i64 _ _ _ _ _ _ rfl rfl rfl true (decide_eq_true (by omega)) _) ?_; refine xT ?_
    by_cases hN:0<onN o (1+(kz:Int))
    · go_upto_region 15 with fail
      refine wp_region_list ?_; refine xpL (.pointer (some ⟨Ra,0,none⟩)) ?_; refine xpL (.int .i64 (1+(kz:Int))) ?_; have Mp:=M.perm (pull0 ([]:List (Nat × List Value)) ga ([]:List (Nat × List Value))); have key:=hK.nxt w0 _ _ o ga _ (1+(kz:Int)) hA.w (by rw [hA.b]; omega) (by unfold i64; omega) hIa Mp
      rw [decide_eq_true hN] at key
      refine xcL key ?_; clear key; rintro e w11 ⟨p11,c11,ba1,rfl,N_11,T_11,hI_,M',o1⟩; clear o1 Mp M hIa; have hIa:=hI_; clear hI_
      have M:Mm w0 ((ba1++((obs p11)++([]:List (Nat × List Value))))) w11:=M'.perm (pullY ([]:List (Nat × List Value)) ba1 (obs p11) ([]:List (Nat × List Value)))
      clear M'; refine xeL ?_
      obtain ⟨bs11,N_11⟩:∃ b_,NewF w11 b_ (onB o (1+(kz:Int)):List Int).length (bl (onB o (1+(kz:Int)))) (.slice p11 (onB o (1+(kz:Int)):List Int).length c11):=⟨_,N_11⟩
      refine xpL (.tuple #[.agg #[.int .i64 ((onF o (1+(kz:Int)):Nat):Int),.slice p11 ((onB o (1+(kz:Int)):List Int).length) c11],.bool true]) ?_; refine xpL (.agg #[.int .i64 ((onF o (1+(kz:Int)):Nat):Int),.slice p11 ((onB o (1+(kz:Int)):List Int).length) c11]) ?_; refine xpL (.bool true) ?_
      have hlb:=(Below.refl w11.heap.size w11).alloc (xnR _) (.cells #[.int .i64 0,.slice none 0 0] 35); refine actL (w':=w11.alloc (.cells #[.int .i64 0,.slice none 0 0] 35)) (.pointer (some ⟨w11.heap.size,0,none⟩)) rfl (by kernel_rfl) ?_; simp only [aP,lI,l0,lS]; replace hIa:=hK.bel hIa hlb; replace N_11:=NewF.below N_11 hlb; replace T_11:=Wrt.below T_11 hlb
      replace M:=M.box #[.int .i64 0,.slice none 0 0] 35 w11.heap.size rfl; clear hlb; generalize w11.alloc (.cells #[.int .i64 0,.slice none 0 0] 35)=w12 at M hIa N_11 T_11 ⊢; generalize w11.heap.size=B12 at M ⊢
      replace M:Mm w0 ((B12,[.int .i64 0,.slice none 0 0])::(ba1++((obs p11)++([]:List (Nat × List Value))))) w12:=M
      refine skipOpL rfl (storeP [.int .i64 ((onF o (1+(kz:Int)):Nat):Int),.slice p11 ((onB o (1+(kz:Int)):List Int).length) c11] B12 0 35 _ _ rfl rfl rfl (M.thereP mS 0 2 (Nat.le_of_ble_eq_true rfl)) (by kernel_rfl) (List.all_eq_true.1 (rfl:([.int .i64 ((onF o (1+(kz:Int)):Nat):Int),.slice p11 ((onB o (1+(kz:Int)):List Int).length) c11]:List Value).all (fun u=>u.oneCell')=true))) ?_
      simp only [Act.put]; replace M:=M.setPart [.int .i64 ((onF o (1+(kz:Int)):Nat):Int),.slice p11 ((onB o (1+(kz:Int)):List Int).length) c11] 0 (Nat.le_of_ble_eq_true rfl)
      replace hIa:=hK.off _ _ _ _ _ _ hIa ((Off.refl [B12] _).setAll (b:=B12) mS 0 [.int .i64 ((onF o (1+(kz:Int)):Nat):Int),.slice p11 ((onB o (1+(kz:Int)):List Int).length) c11]) (fun b_ hb_=>by obtain rfl:=xm1 hb_; exact M.awayC (fun p_ hp_=>by simp [hp_]))
      replace N_11:=NewF.offB N_11 ((Off.refl [B12] _).setAll (b:=B12) mS 0 [.int .i64 ((onF o (1+(kz:Int)):Nat):Int),.slice p11 ((onB o (1+(kz:Int)):List Int).length) c11]) (fun b_ hb_=>by obtain rfl:=xm1 hb_; exact M.awayB (fun p_ hp_=>by simp [hp_]))
      replace T_11:=Wrt.offB T_11 ((Off.refl [B12] _).setAll (b:=B12) mS 0 [.int .i64 ((onF o (1+(kz:Int)):Nat):Int),.slice p11 ((onB o (1+(kz:Int)):List Int).length) c11]) (fun b_ hb_=>by obtain rfl:=xm1 hb_; exact M.awayB (fun p_ hp_=>by simp [hp_]))
      generalize w12.setCells B12 0 [.int .i64 ((onF o (1+(kz:Int)):Nat):Int),.slice p11 ((onB o (1+(kz:Int)):List Int).length) c11]=w13 at M hIa N_11 T_11 ⊢
      replace M:Mm w0 ((B12,[.int .i64 ((onF o (1+(kz:Int)):Nat):Int),.slice p11 ((onB o (1+(kz:Int)):List Int).length) c11])::(ba1++((obs p11)++([]:List (Nat × List Value))))) w13:=M
      refine xpL (.bool true) ?_; refine xT ?_; go_upto_region 16 with fail; refine wp_region_list ?_; refine xpL (.bool true) ?_; refine xpL (.bool false) ?_; refine xT ?_
      by_cases hlt_l:q<l.length
      · obtain ⟨adl,hadl,_⟩:=hsl0 q hlt_l
        subst hadl
        by_cases h2:q<100
        · by_cases h3:(bl l q).tmod 2=0
          · go_upto_region 17 with fail
            refine wp_region_list ?_; refine xpL (.int .i64 (q:Int)) ?_; refine xpL (.slice (some adl) l.length cap) ?_; refine xaL (.int .i64 ((l.length:Nat):Int)) (lenS _ 47 3 (some adl) l.length cap rfl Try.underlying47 rfl _) ?_; refine xaL (.bool true) (lssI .i64 _ _ _ _ _ _ rfl rfl rfl true (decide_eq_true (by omega)) _) ?_; refine xpL (.bool true) ?_
            refine xpL (.int .i64 (q:Int)) ?_; refine xaL (.bool true) (lssI .i64 _ _ _ _ _ _ rfl rfl rfl true (decide_eq_true (by omega)) _) ?_; refine xpL (.bool true) ?_; refine xpL (.bool true) ?_; refine xpL (.slice (some adl) l.length cap) ?_; refine xpL (.int .i64 (q:Int)) ?_
            refine xaL (.pointer (some (adl.add q))) (idxSl 47 3 l.length cap .i64 adl q _ _ Try.underlying47 (fun _=>by kernel_rfl) hlt_l rfl rfl rfl _) ?_; refine xaL (.int .i64 (bl l q)) (load1 3 _ (adl.add q) _ rfl rfl (fun _=>by kernel_rfl) ((hsl0.below M.below (xnR _)).at q hlt_l)) ?_; refine xaL (.int .i64 ((bl l q).tmod 2)) (remI .i64 _ _ _ _ _ _ _ rfl rfl rfl (by decide) rfl _) ?_
            refine xaL (.bool false) (neqI .i64 _ _ _ _ _ _ rfl rfl rfl false (by rw [bne_eq_false_iff_eq]; exact h3) _) ?_; refine xpL (.bool false) ?_; refine xT ?_; clear h3; have hA2:=hA.ack hN
            rw [← hBn] at hA2
            go_upto_region 19 with fail; refine wp_region_list ?_; refine xpL (.pointer (some ⟨Ra,0,none⟩)) ?_; refine xpL (.pointer (some ⟨B12,0,none⟩)) ?_; refine readL (.int .i64 ((onF o (1+(kz:Int)):Nat):Int)) rfl (load1 3 _ ⟨B12,0,none⟩ _ rfl rfl (fun _=>by kernel_rfl) (M.get mS 0 _ rfl)) ?_; simp only [aP,lI,l0,lS]; refine xpL (.pointer (some ⟨B12,0,none⟩)) ?_
            refine readL (.int .i64 ((onF o (1+(kz:Int)):Nat):Int)) rfl (load1 3 _ ⟨B12,0,none⟩ _ rfl rfl (fun _=>by kernel_rfl) (M.get mS 0 _ rfl)) ?_; simp only [aP,lI,l0,lS]; refine xpL (.pointer (some ⟨B12,1,none⟩)) ?_
            refine readL (.slice p11 ((onB o (1+(kz:Int)):List Int).length) c11) rfl (load1 28 _ ⟨B12,1,none⟩ _ rfl rfl (fun _=>by kernel_rfl) (M.get mS 1 _ rfl)) ?_; simp only [aP,lI,l0,lS]; refine readL (.int .i64 (((onB o (1+(kz:Int)):List Int).length:Nat):Int)) rfl (lenS _ 28 5 p11 ((onB o (1+(kz:Int)):List Int).length) c11 rfl Try.underlying28 rfl _) ?_
            simp only [aP,lI,l0,lS]; refine readL (.int .i64 ((onF o (1+(kz:Int))+(onB o (1+(kz:Int))).length:Nat):Int)) rfl (addI .i64 _ _ _ _ _ _ _ rfl rfl rfl (by rw [xw6]; omega) _) ?_; simp only [aP,lI,l0,lS]; refine xpL (.agg #[.int .i64 ((onF o (1+(kz:Int)):Nat):Int),.int .i64 ((onF o (1+(kz:Int))+(onB o (1+(kz:Int))).length:Nat):Int)]) ?_
            have hlb:=(Below.refl w13.heap.size w13).alloc (xnR _) (.cells #[.int .i64 ((onF o (1+(kz:Int)):Nat):Int),.int .i64 ((onF o (1+(kz:Int))+(onB o (1+(kz:Int))).length:Nat):Int)] 49)
            refine actL (w':=w13.alloc (.cells #[.int .i64 ((onF o (1+(kz:Int)):Nat):Int),.int .i64 ((onF o (1+(kz:Int))+(onB o (1+(kz:Int))).length:Nat):Int)] 49)) (.slice (some ⟨w13.heap.size,0,none⟩) 1 1) rfl (by kernel_rfl) ?_; simp only [aP,lI,l0,lS]; replace hIa:=hK.bel hIa hlb; replace N_11:=NewF.below N_11 hlb; replace T_11:=Wrt.below T_11 hlb
            replace M:=M.box #[.int .i64 ((onF o (1+(kz:Int)):Nat):Int),.int .i64 ((onF o (1+(kz:Int))+(onB o (1+(kz:Int))).length:Nat):Int)] 49 w13.heap.size rfl; clear hlb; generalize w13.alloc (.cells #[.int .i64 ((onF o (1+(kz:Int)):Nat):Int),.int .i64 ((onF o (1+(kz:Int))+(onB o (1+(kz:Int))).length:Nat):Int)] 49)=w18 at M hIa N_11 T_11 ⊢
            generalize w13.heap.size=B18 at M ⊢
            replace M:Mm w0 ((B18,[.int .i64 ((onF o (1+(kz:Int)):Nat):Int),.int .i64 ((onF o (1+(kz:Int))+(onB o (1+(kz:Int))).length:Nat):Int)])::(B12,[.int .i64 ((onF o (1+(kz:Int)):Nat):Int),.slice p11 ((onB o (1+(kz:Int)):List Int).length) c11])::(ba1++((obs p11)++([]:List (Nat × List Value))))) w18:=M
            have Mp:=M.perm (pull0 ([(B18,[.int .i64 ((onF o (1+(kz:Int)):Nat):Int),.int .i64 ((onF o (1+(kz:Int))+(onB o (1+(kz:Int))).length:Nat):Int)]),(B12,[.int .i64 ((onF o (1+(kz:Int)):Nat):Int),.slice p11 ((onB o (1+(kz:Int)):List Int).length) c11])]:List (Nat × List Value)) ba1 ((obs p11)++([]:List (Nat × List Value))))
            have key:=hK.ack w0 _ _ (onx o (1+(kz:Int))) ba1 _ 0 ([(((onF o (1+(kz:Int)):Nat):Int),((onF o (1+(kz:Int))+(onB o (1+(kz:Int))).length:Nat):Int))]) (some ⟨B18,0,none⟩) 1 (onx_w hA.w (1+(kz:Int))) (by rw [(onx_he o (1+(kz:Int))).2.1,hA.b]; omega) (by unfold i64; decide) (show 1<1000000 by decide) (fun r_ hr_=>by obtain rfl:=xm1 hr_; unfold i64; simp only; omega) (RgW.ofW (M.newWt mS [(((onF o (1+(kz:Int)):Nat):Int),((onF o (1+(kz:Int))+(onB o (1+(kz:Int))).length:Nat):Int))] rfl (xnR 1))) (fun b_ hb_ _ h_=>by obtain rfl:=xm1 h_; exact Mp.beside mS hb_) hIa Mp
            refine xcL key ?_; clear key; rintro e w19 ⟨ba2,rfl,hI_,M',o1⟩; replace N_11:=NewF.offB N_11 o1 (Mp.awayS (fun p_ hp_=>by simp [hp_])); replace T_11:=Wrt.offB T_11 o1 (Mp.awayS (fun p_ hp_=>by simp [hp_])); clear o1 Mp M hIa; have hIa:=hI_; clear hI_
            have M:Mm w0 ((B18,[.int .i64 ((onF o (1+(kz:Int)):Nat):Int),.int .i64 ((onF o (1+(kz:Int))+(onB o (1+(kz:Int))).length:Nat):Int)])::(B12,[.int .i64 ((onF o (1+(kz:Int)):Nat):Int),.slice p11 ((onB o (1+(kz:Int)):List Int).length) c11])::(ba2++((obs p11)++([]:List (Nat × List Value))))) w19:=M'.perm (pull0 ([(B18,[.int .i64 ((onF o (1+(kz:Int)):Nat):Int),.int .i64 ((onF o (1+(kz:Int))+(onB o (1+(kz:Int))).length:Nat):Int)]),(B12,[.int .i64 ((onF o (1+(kz:Int)):Nat):Int),.slice p11 ((onB o (1+(kz:Int)):List Int).length) c11])]:List (Nat × List Value)) ba2 ((obs p11)++([]:List (Nat × List Value)))).symm
            clear M'; refine xeL ?_; refine xT ?_
            replace M:Mm w0 ((B18,[.int .i64 ((onF o (1+(kz:Int)):Nat):Int),.int .i64 ((onF o (1+(kz:Int))+(onB o (1+(kz:Int))).length:Nat):Int)])::(B12,[.int .i64 ((onF o (1+(kz:Int)):Nat):Int),.slice p11 ((onB o (1+(kz:Int)):List Int).length) c11])::(ba2++([]:List (Nat × List Value)))) w19:=M.sub _ (List.cons_sublist_cons.2 (List.cons_sublist_cons.2 ((List.Sublist.refl _).append (List.sublist_append_right _ _))))
            clear N_11 T_11; go_upto_region 20 with fail; refine wp_region_list ?_; refine xpL (.int .i64 (q:Int)) ?_; refine xaL (.int .i64 ((q+1:Nat):Int)) (addI .i64 _ _ _ _ _ _ _ rfl rfl rfl (by rw [xw6]; omega) _) ?_; refine xpL (.int .i64 ((q+1:Nat):Int)) ?_; refine xT ?_
            have HS:=show Hid _ from (show I w19 (.pointer (some ⟨Ra,0,none⟩)) (oac (onx o (1+(kz:Int))) 0 [(((onF o (1+(kz:Int)):Nat):Int),((onF o (1+(kz:Int))+(onB o (1+(kz:Int))).length:Nat):Int))]) ba2∧Mm w0 (ba2++([]:List (Nat × List Value))) w19 from ⟨hIa,M.tail.tail⟩); have hA3:=show Hid _ from hA2; clear M hIa hA2; go_wp2
            go_roundw
            case rel=>exact ⟨q+1,_,_,by omega,by go_num,by go_num,hA3.out,HS.out⟩
            case measure=>simp [intOf]; omega
          · go_upto_region 17 with fail
            refine wp_region_list ?_; refine xpL (.int .i64 (q:Int)) ?_; refine xpL (.slice (some adl) l.length cap) ?_; refine xaL (.int .i64 ((l.length:Nat):Int)) (lenS _ 47 3 (some adl) l.length cap rfl Try.underlying47 rfl _) ?_; refine xaL (.bool true) (lssI .i64 _ _ _ _ _ _ rfl rfl rfl true (decide_eq_true (by omega)) _) ?_; refine xpL (.bool true) ?_
            refine xpL (.int .i64 (q:Int)) ?_; refine xaL (.bool true) (lssI .i64 _ _ _ _ _ _ rfl rfl rfl true (decide_eq_true (by omega)) _) ?_; refine xpL (.bool true) ?_; refine xpL (.bool true) ?_; refine xpL (.slice (some adl) l.length cap) ?_; refine xpL (.int .i64 (q:Int)) ?_
            refine xaL (.pointer (some (adl.add q))) (idxSl 47 3 l.length cap .i64 adl q _ _ Try.underlying47 (fun _=>by kernel_rfl) hlt_l rfl rfl rfl _) ?_; refine xaL (.int .i64 (bl l q)) (load1 3 _ (adl.add q) _ rfl rfl (fun _=>by kernel_rfl) ((hsl0.below M.below (xnR _)).at q hlt_l)) ?_; refine xaL (.int .i64 ((bl l q).tmod 2)) (remI .i64 _ _ _ _ _ _ _ rfl rfl rfl (by decide) rfl _) ?_
            refine xaL (.bool true) (neqI .i64 _ _ _ _ _ _ rfl rfl rfl true (by rw [bne_iff_ne]; exact h3) _) ?_; refine xpL (.bool true) ?_; refine xT ?_; clear h3; have hA2:=hA.lost (show q<100 by omega) hN
            rw [← hBn] at hA2
            go_upto_region 18 with fail; refine wp_region_list ?_; refine xpL (.pointer (some ⟨Ra,0,none⟩)) ?_; refine xpL (.pointer (some ⟨B12,0,none⟩)) ?_; refine readL (.int .i64 ((onF o (1+(kz:Int)):Nat):Int)) rfl (load1 3 _ ⟨B12,0,none⟩ _ rfl rfl (fun _=>by kernel_rfl) (M.get mS 0 _ rfl)) ?_; simp only [aP,lI,l0,lS]; refine xpL (.pointer (some ⟨B12,1,none⟩)) ?_
            refine readL (.slice p11 ((onB o (1+(kz:Int)):List Int).length) c11) rfl (load1 28 _ ⟨B12,1,none⟩ _ rfl rfl (fun _=>by kernel_rfl) (M.get mS 1 _ rfl)) ?_; simp only [aP,lI,l0,lS]; refine readL (.int .i64 (((onB o (1+(kz:Int)):List Int).length:Nat):Int)) rfl (lenS _ 28 5 p11 ((onB o (1+(kz:Int)):List Int).length) c11 rfl Try.underlying28 rfl _) ?_
            simp only [aP,lI,l0,lS]; have Mp:=M.perm (pull0 ([(B12,[.int .i64 ((onF o (1+(kz:Int)):Nat):Int),.slice p11 ((onB o (1+(kz:Int)):List Int).length) c11])]:List (Nat × List Value)) ba1 ((obs p11)++([]:List (Nat × List Value))))
            have key:=hK.lst w0 _ _ (onx o (1+(kz:Int))) ba1 _ ((onF o (1+(kz:Int)):Nat):Int) (((onB o (1+(kz:Int))).length:Nat):Int) (onx_w hA.w (1+(kz:Int))) (by rw [(onx_he o (1+(kz:Int))).2.1,hA.b]; omega) (by unfold i64; omega) (by unfold i64; omega) hIa Mp; refine xcL key ?_; clear key; rintro e w20 ⟨ba2,rfl,hI_,M',o1⟩
            replace N_11:=NewF.offB N_11 o1 (Mp.awayS (fun p_ hp_=>by simp [hp_])); replace T_11:=Wrt.offB T_11 o1 (Mp.awayS (fun p_ hp_=>by simp [hp_])); clear o1 Mp M hIa; have hIa:=hI_; clear hI_
            have M:Mm w0 ((B12,[.int .i64 ((onF o (1+(kz:Int)):Nat):Int),.slice p11 ((onB o (1+(kz:Int)):List Int).length) c11])::(ba2++((obs p11)++([]:List (Nat × List Value))))) w20:=M'.perm (pull0 ([(B12,[.int .i64 ((onF o (1+(kz:Int)):Nat):Int),.slice p11 ((onB o (1+(kz:Int)):List Int).length) c11])]:List (Nat × List Value)) ba2 ((obs p11)++([]:List (Nat × List Value)))).symm
            clear M'; refine xeL ?_; refine xT ?_
            replace M:Mm w0 ((B12,[.int .i64 ((onF o (1+(kz:Int)):Nat):Int),.slice p11 ((onB o (1+(kz:Int)):List Int).length) c11])::(ba2++([]:List (Nat × List Value)))) w20:=M.sub _ (List.cons_sublist_cons.2 ((List.Sublist.refl _).append (List.sublist_append_right _ _)))
            clear N_11 T_11; go_upto_region 20 with fail; refine wp_region_list ?_; refine xpL (.int .i64 (q:Int)) ?_; refine xaL (.int .i64 ((q+1:Nat):Int)) (addI .i64 _ _ _ _ _ _ _ rfl rfl rfl (by rw [xw6]; omega) _) ?_; refine xpL (.int .i64 ((q+1:Nat):Int)) ?_; refine xT ?_
            have HS:=show Hid _ from (show I w20 (.pointer (some ⟨Ra,0,none⟩)) (olo (onx o (1+(kz:Int))) ((onF o (1+(kz:Int)):Nat):Int) (((onB o (1+(kz:Int))).length:Nat):Int)) ba2∧Mm w0 (ba2++([]:List (Nat × List Value))) w20 from ⟨hIa,M.tail⟩); have hA3:=show Hid _ from hA2; clear M hIa hA2; go_wp2
            go_roundw
            case rel=>exact ⟨q+1,_,_,by omega,by go_num,by go_num,hA3.out,HS.out⟩
            case measure=>simp [intOf]; omega
        · go_upto_region 17 with fail
          refine wp_region_list ?_; refine xpL (.int .i64 (q:Int)) ?_; refine xpL (.slice (some adl) l.length cap) ?_; refine xaL (.int .i64 ((l.length:Nat):Int)) (lenS _ 47 3 (some adl) l.length cap rfl Try.underlying47 rfl _) ?_; refine xaL (.bool true) (lssI .i64 _ _ _ _ _ _ rfl rfl rfl true (decide_eq_true (by omega)) _) ?_; refine xpL (.bool true) ?_
          refine xpL (.int .i64 (q:Int)) ?_; refine xaL (.bool false) (lssI .i64 _ _ _ _ _ _ rfl rfl rfl false (decide_eq_false (by omega)) _) ?_; refine xpL (.bool false) ?_; refine xpL (.bool false) ?_
          with_reducible refine skipL ?_ ?_
          · rfl
          simp only [aP,lI,l0,lS]
          with_reducible refine skipL ?_ ?_
          · rfl
          simp only [aP,lI,l0,lS]
          with_reducible refine skipL ?_ ?_
          · rfl
          simp only [aP,lI,l0,lS]
          with_reducible refine skipL ?_ ?_
          · rfl
          simp only [aP,lI,l0,lS]
          with_reducible refine skipL ?_ ?_
          · rfl
          simp only [aP,lI,l0,lS]
          with_reducible refine skipL ?_ ?_
          · rfl
          simp only [aP,lI,l0,lS]; refine xpL (.bool false) ?_; refine xT ?_; have hA2:=hA.ack hN
          rw [← hBn] at hA2
          go_upto_region 19 with fail; refine wp_region_list ?_; refine xpL (.pointer (some ⟨Ra,0,none⟩)) ?_; refine xpL (.pointer (some ⟨B12,0,none⟩)) ?_; refine readL (.int .i64 ((onF o (1+(kz:Int)):Nat):Int)) rfl (load1 3 _ ⟨B12,0,none⟩ _ rfl rfl (fun _=>by kernel_rfl) (M.get mS 0 _ rfl)) ?_; simp only [aP,lI,l0,lS]; refine xpL (.pointer (some ⟨B12,0,none⟩)) ?_
          refine readL (.int .i64 ((onF o (1+(kz:Int)):Nat):Int)) rfl (load1 3 _ ⟨B12,0,none⟩ _ rfl rfl (fun _=>by kernel_rfl) (M.get mS 0 _ rfl)) ?_; simp only [aP,lI,l0,lS]; refine xpL (.pointer (some ⟨B12,1,none⟩)) ?_
          refine readL (.slice p11 ((onB o (1+(kz:Int)):List Int).length) c11) rfl (load1 28 _ ⟨B12,1,none⟩ _ rfl rfl (fun _=>by kernel_rfl) (M.get mS 1 _ rfl)) ?_; simp only [aP,lI,l0,lS]; refine readL (.int .i64 (((onB o (1+(kz:Int)):List Int).length:Nat):Int)) rfl (lenS _ 28 5 p11 ((onB o (1+(kz:Int)):List Int).length) c11 rfl Try.underlying28 rfl _) ?_
          simp only [aP,lI,l0,lS]; refine readL (.int .i64 ((onF o (1+(kz:Int))+(onB o (1+(kz:Int))).length:Nat):Int)) rfl (addI .i64 _ _ _ _ _ _ _ rfl rfl rfl (by rw [xw6]; omega) _) ?_; simp only [aP,lI,l0,lS]; refine xpL (.agg #[.int .i64 ((onF o (1+(kz:Int)):Nat):Int),.int .i64 ((onF o (1+(kz:Int))+(onB o (1+(kz:Int))).length:Nat):Int)]) ?_
          have hlb:=(Below.refl w13.heap.size w13).alloc (xnR _) (.cells #[.int .i64 ((onF o (1+(kz:Int)):Nat):Int),.int .i64 ((onF o (1+(kz:Int))+(onB o (1+(kz:Int))).length:Nat):Int)] 49)
          refine actL (w':=w13.alloc (.cells #[.int .i64 ((onF o (1+(kz:Int)):Nat):Int),.int .i64 ((onF o (1+(kz:Int))+(onB o (1+(kz:Int))).length:Nat):Int)] 49)) (.slice (some ⟨w13.heap.size,0,none⟩) 1 1) rfl (by kernel_rfl) ?_; simp only [aP,lI,l0,lS]; replace hIa:=hK.bel hIa hlb; replace N_11:=NewF.below N_11 hlb; replace T_11:=Wrt.below T_11 hlb
          replace M:=M.box #[.int .i64 ((onF o (1+(kz:Int)):Nat):Int),.int .i64 ((onF o (1+(kz:Int))+(onB o (1+(kz:Int))).length:Nat):Int)] 49 w13.heap.size rfl; clear hlb; generalize w13.alloc (.cells #[.int .i64 ((onF o (1+(kz:Int)):Nat):Int),.int .i64 ((onF o (1+(kz:Int))+(onB o (1+(kz:Int))).length:Nat):Int)] 49)=w16 at M hIa N_11 T_11 ⊢
          generalize w13.heap.size=B16 at M ⊢
          replace M:Mm w0 ((B16,[.int .i64 ((onF o (1+(kz:Int)):Nat):Int),.int .i64 ((onF o (1+(kz:Int))+(onB o (1+(kz:Int))).length:Nat):Int)])::(B12,[.int .i64 ((onF o (1+(kz:Int)):Nat):Int),.slice p11 ((onB o (1+(kz:Int)):List Int).length) c11])::(ba1++((obs p11)++([]:List (Nat × List Value))))) w16:=M
          have Mp:=M.perm (pull0 ([(B16,[.int .i64 ((onF o (1+(kz:Int)):Nat):Int),.int .i64 ((onF o (1+(kz:Int))+(onB o (1+(kz:Int))).length:Nat):Int)]),(B12,[.int .i64 ((onF o (1+(kz:Int)):Nat):Int),.slice p11 ((onB o (1+(kz:Int)):List Int).length) c11])]:List (Nat × List Value)) ba1 ((obs p11)++([]:List (Nat × List Value))))
          have key:=hK.ack w0 _ _ (onx o (1+(kz:Int))) ba1 _ 0 ([(((onF o (1+(kz:Int)):Nat):Int),((onF o (1+(kz:Int))+(onB o (1+(kz:Int))).length:Nat):Int))]) (some ⟨B16,0,none⟩) 1 (onx_w hA.w (1+(kz:Int))) (by rw [(onx_he o (1+(kz:Int))).2.1,hA.b]; omega) (by unfold i64; decide) (show 1<1000000 by decide) (fun r_ hr_=>by obtain rfl:=xm1 hr_; unfold i64; simp only; omega) (RgW.ofW (M.newWt mS [(((onF o (1+(kz:Int)):Nat):Int),((onF o (1+(kz:Int))+(onB o (1+(kz:Int))).length:Nat):Int))] rfl (xnR 1))) (fun b_ hb_ _ h_=>by obtain rfl:=xm1 h_; exact Mp.beside mS hb_) hIa Mp
          refine xcL key ?_; clear key; rintro e w17 ⟨ba2,rfl,hI_,M',o1⟩; replace N_11:=NewF.offB N_11 o1 (Mp.awayS (fun p_ hp_=>by simp [hp_])); replace T_11:=Wrt.offB T_11 o1 (Mp.awayS (fun p_ hp_=>by simp [hp_])); clear o1 Mp M hIa; have hIa:=hI_; clear hI_
          have M:Mm w0 ((B16,[.int .i64 ((onF o (1+(kz:Int)):Nat):Int),.int .i64 ((onF o (1+(kz:Int))+(onB o (1+(kz:Int))).length:Nat):Int)])::(B12,[.int .i64 ((onF o (1+(kz:Int)):Nat):Int),.slice p11 ((onB o (1+(kz:Int)):List Int).length) c11])::(ba2++((obs p11)++([]:List (Nat × List Value))))) w17:=M'.perm (pull0 ([(B16,[.int .i64 ((onF o (1+(kz:Int)):Nat):Int),.int .i64 ((onF o (1+(kz:Int))+(onB o (1+(kz:Int))).length:Nat):Int)]),(B12,[.int .i64 ((onF o (1+(kz:Int)):Nat):Int),.slice p11 ((onB o (1+(kz:Int)):List Int).length) c11])]:List (Nat × List Value)) ba2 ((obs p11)++([]:List (Nat × List Value)))).symm
          clear M'; refine xeL ?_; refine xT ?_
          replace M:Mm w0 ((B16,[.int .i64 ((onF o (1+(kz:Int)):Nat):Int),.int .i64 ((onF o (1+(kz:Int))+(onB o (1+(kz:Int))).length:Nat):Int)])::(B12,[.int .i64 ((onF o (1+(kz:Int)):Nat):Int),.slice p11 ((onB o (1+(kz:Int)):List Int).length) c11])::(ba2++([]:List (Nat × List Value)))) w17:=M.sub _ (List.cons_sublist_cons.2 (List.cons_sublist_cons.2 ((List.Sublist.refl _).append (List.sublist_append_right _ _))))
          clear N_11 T_11; go_upto_region 20 with fail; refine wp_region_list ?_; refine xpL (.int .i64 (q:Int)) ?_; refine xaL (.int .i64 ((q+1:Nat):Int)) (addI .i64 _ _ _ _ _ _ _ rfl rfl rfl (by rw [xw6]; omega) _) ?_; refine xpL (.int .i64 ((q+1:Nat):Int)) ?_; refine xT ?_
          have HS:=show Hid _ from (show I w17 (.pointer (some ⟨Ra,0,none⟩)) (oac (onx o (1+(kz:Int))) 0 [(((onF o (1+(kz:Int)):Nat):Int),((onF o (1+(kz:Int))+(onB o (1+(kz:Int))).length:Nat):Int))]) ba2∧Mm w0 (ba2++([]:List (Nat × List Value))) w17 from ⟨hIa,M.tail.tail⟩); have hA3:=show Hid _ from hA2; clear M hIa hA2; go_wp2
          go_roundw
          case rel=>exact ⟨q+1,_,_,by omega,by go_num,by go_num,hA3.out,HS.out⟩
          case measure=>simp [intOf]; omega
      · go_upto_region 17 with fail
        refine wp_region_list ?_; refine xpL (.int .i64 (q:Int)) ?_; refine xpL (.slice sp l.length cap) ?_; refine xaL (.int .i64 ((l.length:Nat):Int)) (lenS _ 47 3 sp l.length cap rfl Try.underlying47 rfl _) ?_; refine xaL (.bool false) (lssI .i64 _ _ _ _ _ _ rfl rfl rfl false (decide_eq_false (by omega)) _) ?_; refine xpL (.bool false) ?_
        with_reducible refine skipL ?_ ?_
        · rfl
        simp only [aP,lI,l0,lS]
        with_reducible refine skipL ?_ ?_
        · rfl
        simp only [aP,lI,l0,lS]; refine xpL (.bool false) ?_; refine xpL (.bool false) ?_
        with_reducible refine skipL ?_ ?_
        · rfl
        simp only [aP,lI,l0,lS]
        with_reducible refine skipL ?_ ?_
        · rfl
        simp only [aP,lI,l0,lS]
        with_reducible refine skipL ?_ ?_
        · rfl
        simp only [aP,lI,l0,lS]
        with_reducible refine skipL ?_ ?_
        · rfl
        simp only [aP,lI,l0,lS]
        with_reducible refine skipL ?_ ?_
        · rfl
        simp only [aP,lI,l0,lS]
        with_reducible refine skipL ?_ ?_
        · rfl
        simp only [aP,lI,l0,lS]; refine xpL (.bool false) ?_; refine xT ?_; have hA2:=hA.ack hN
        rw [← hBn] at hA2
        go_upto_region 19 with fail; refine wp_region_list ?_; refine xpL (.pointer (some ⟨Ra,0,none⟩)) ?_; refine xpL (.pointer (some ⟨B12,0,none⟩)) ?_; refine readL (.int .i64 ((onF o (1+(kz:Int)):Nat):Int)) rfl (load1 3 _ ⟨B12,0,none⟩ _ rfl rfl (fun _=>by kernel_rfl) (M.get mS 0 _ rfl)) ?_; simp only [aP,lI,l0,lS]; refine xpL (.pointer (some ⟨B12,0,none⟩)) ?_
        refine readL (.int .i64 ((onF o (1+(kz:Int)):Nat):Int)) rfl (load1 3 _ ⟨B12,0,none⟩ _ rfl rfl (fun _=>by kernel_rfl) (M.get mS 0 _ rfl)) ?_; simp only [aP,lI,l0,lS]; refine xpL (.pointer (some ⟨B12,1,none⟩)) ?_
        refine readL (.slice p11 ((onB o (1+(kz:Int)):List Int).length) c11) rfl (load1 28 _ ⟨B12,1,none⟩ _ rfl rfl (fun _=>by kernel_rfl) (M.get mS 1 _ rfl)) ?_; simp only [aP,lI,l0,lS]; refine readL (.int .i64 (((onB o (1+(kz:Int)):List Int).length:Nat):Int)) rfl (lenS _ 28 5 p11 ((onB o (1+(kz:Int)):List Int).length) c11 rfl Try.underlying28 rfl _) ?_
        simp only [aP,lI,l0,lS]; refine readL (.int .i64 ((onF o (1+(kz:Int))+(onB o (1+(kz:Int))).length:Nat):Int)) rfl (addI .i64 _ _ _ _ _ _ _ rfl rfl rfl (by rw [xw6]; omega) _) ?_; simp only [aP,lI,l0,lS]; refine xpL (.agg #[.int .i64 ((onF o (1+(kz:Int)):Nat):Int),.int .i64 ((onF o (1+(kz:Int))+(onB o (1+(kz:Int))).length:Nat):Int)]) ?_
        have hlb:=(Below.refl w13.heap.size w13).alloc (xnR _) (.cells #[.int .i64 ((onF o (1+(kz:Int)):Nat):Int),.int .i64 ((onF o (1+(kz:Int))+(onB o (1+(kz:Int))).length:Nat):Int)] 49)
        refine actL (w':=w13.alloc (.cells #[.int .i64 ((onF o (1+(kz:Int)):Nat):Int),.int .i64 ((onF o (1+(kz:Int))+(onB o (1+(kz:Int))).length:Nat):Int)] 49)) (.slice (some ⟨w13.heap.size,0,none⟩) 1 1) rfl (by kernel_rfl) ?_; simp only [aP,lI,l0,lS]; replace hIa:=hK.bel hIa hlb; replace N_11:=NewF.below N_11 hlb; replace T_11:=Wrt.below T_11 hlb
        replace M:=M.box #[.int .i64 ((onF o (1+(kz:Int)):Nat):Int),.int .i64 ((onF o (1+(kz:Int))+(onB o (1+(kz:Int))).length:Nat):Int)] 49 w13.heap.size rfl; clear hlb; generalize w13.alloc (.cells #[.int .i64 ((onF o (1+(kz:Int)):Nat):Int),.int .i64 ((onF o (1+(kz:Int))+(onB o (1+(kz:Int))).length:Nat):Int)] 49)=w14 at M hIa N_11 T_11 ⊢
        generalize w13.heap.size=B14 at M ⊢
        replace M:Mm w0 ((B14,[.int .i64 ((onF o (1+(kz:Int)):Nat):Int),.int .i64 ((onF o (1+(kz:Int))+(onB o (1+(kz:Int))).length:Nat):Int)])::(B12,[.int .i64 ((onF o (1+(kz:Int)):Nat):Int),.slice p11 ((onB o (1+(kz:Int)):List Int).length) c11])::(ba1++((obs p11)++([]:List (Nat × List Value))))) w14:=M
        have Mp:=M.perm (pull0 ([(B14,[.int .i64 ((onF o (1+(kz:Int)):Nat):Int),.int .i64 ((onF o (1+(kz:Int))+(onB o (1+(kz:Int))).length:Nat):Int)]),(B12,[.int .i64 ((onF o (1+(kz:Int)):Nat):Int),.slice p11 ((onB o (1+(kz:Int)):List Int).length) c11])]:List (Nat × List Value)) ba1 ((obs p11)++([]:List (Nat × List Value))))
        have key:=hK.ack w0 _ _ (onx o (1+(kz:Int))) ba1 _ 0 ([(((onF o (1+(kz:Int)):Nat):Int),((onF o (1+(kz:Int))+(onB o (1+(kz:Int))).length:Nat):Int))]) (some ⟨B14,0,none⟩) 1 (onx_w hA.w (1+(kz:Int))) (by rw [(onx_he o (1+(kz:Int))).2.1,hA.b]; omega) (by unfold i64; decide) (show 1<1000000 by decide) (fun r_ hr_=>by obtain rfl:=xm1 hr_; unfold i64; simp only; omega) (RgW.ofW (M.newWt mS [(((onF o (1+(kz:Int)):Nat):Int),((onF o (1+(kz:Int))+(onB o (1+(kz:Int))).length:Nat):Int))] rfl (xnR 1))) (fun b_ hb_ _ h_=>by obtain rfl:=xm1 h_; exact Mp.beside mS hb_) hIa Mp
        refine xcL key ?_; clear key; rintro e w15 ⟨ba2,rfl,hI_,M',o1⟩; replace N_11:=NewF.offB N_11 o1 (Mp.awayS (fun p_ hp_=>by simp [hp_])); replace T_11:=Wrt.offB T_11 o1 (Mp.awayS (fun p_ hp_=>by simp [hp_])); clear o1 Mp M hIa; have hIa:=hI_; clear hI_
        have M:Mm w0 ((B14,[.int .i64 ((onF o (1+(kz:Int)):Nat):Int),.int .i64 ((onF o (1+(kz:Int))+(onB o (1+(kz:Int))).length:Nat):Int)])::(B12,[.int .i64 ((onF o (1+(kz:Int)):Nat):Int),.slice p11 ((onB o (1+(kz:Int)):List Int).length) c11])::(ba2++((obs p11)++([]:List (Nat × List Value))))) w15:=M'.perm (pull0 ([(B14,[.int .i64 ((onF o (1+(kz:Int)):Nat):Int),.int .i64 ((onF o (1+(kz:Int))+(onB o (1+(kz:Int))).length:Nat):Int)]),(B12,[.int .i64 ((onF o (1+(kz:Int)):Nat):Int),.slice p11 ((onB o (1+(kz:Int)):List Int).length) c11])]:List (Nat × List Value)) ba2 ((obs p11)++([]:List (Nat × List Value)))).symm
        clear M'; refine xeL ?_; refine xT ?_
        replace M:Mm w0 ((B14,[.int .i64 ((onF o (1+(kz:Int)):Nat):Int),.int .i64 ((onF o (1+(kz:Int))+(onB o (1+(kz:Int))).length:Nat):Int)])::(B12,[.int .i64 ((onF o (1+(kz:Int)):Nat):Int),.slice p11 ((onB o (1+(kz:Int)):List Int).length) c11])::(ba2++([]:List (Nat × List Value)))) w15:=M.sub _ (List.cons_sublist_cons.2 (List.cons_sublist_cons.2 ((List.Sublist.refl _).append (List.sublist_append_right _ _))))
        clear N_11 T_11; go_upto_region 20 with fail; refine wp_region_list ?_; refine xpL (.int .i64 (q:Int)) ?_; refine xaL (.int .i64 ((q+1:Nat):Int)) (addI .i64 _ _ _ _ _ _ _ rfl rfl rfl (by rw [xw6]; omega) _) ?_; refine xpL (.int .i64 ((q+1:Nat):Int)) ?_; refine xT ?_
        have HS:=show Hid _ from (show I w15 (.pointer (some ⟨Ra,0,none⟩)) (oac (onx o (1+(kz:Int))) 0 [(((onF o (1+(kz:Int)):Nat):Int),((onF o (1+(kz:Int))+(onB o (1+(kz:Int))).length:Nat):Int))]) ba2∧Mm w0 (ba2++([]:List (Nat × List Value))) w15 from ⟨hIa,M.tail.tail⟩); have hA3:=show Hid _ from hA2; clear M hIa hA2; go_wp2
        go_roundw
        case rel=>exact ⟨q+1,_,_,by omega,by go_num,by go_num,hA3.out,HS.out⟩
        case measure=>simp [intOf]; omega
    · go_upto_region 15 with fail
      refine wp_region_list ?_; refine xpL (.pointer (some ⟨Ra,0,none⟩)) ?_; refine xpL (.int .i64 (1+(kz:Int))) ?_; have Mp:=M.perm (pull0 ([]:List (Nat × List Value)) ga ([]:List (Nat × List Value))); have key:=hK.nxt w0 _ _ o ga _ (1+(kz:Int)) hA.w (by rw [hA.b]; omega) (by unfold i64; omega) hIa Mp
      rw [decide_eq_false hN] at key
      refine xcL key ?_; clear key; rintro e w6 ⟨p6,c6,ba1,rfl,N_6,T_6,hI_,M',o1⟩; clear o1 Mp M hIa; have hIa:=hI_; clear hI_
      have M:Mm w0 ((ba1++((obs p6)++([]:List (Nat × List Value))))) w6:=M'.perm (pullY ([]:List (Nat × List Value)) ba1 (obs p6) ([]:List (Nat × List Value)))
      clear M'; refine xeL ?_
      obtain ⟨bs6,N_6⟩:∃ b_,NewF w6 b_ (onB o (1+(kz:Int)):List Int).length (bl (onB o (1+(kz:Int)))) (.slice p6 (onB o (1+(kz:Int)):List Int).length c6):=⟨_,N_6⟩
      refine xpL (.tuple #[.agg #[.int .i64 ((onF o (1+(kz:Int)):Nat):Int),.slice p6 ((onB o (1+(kz:Int)):List Int).length) c6],.bool false]) ?_; refine xpL (.agg #[.int .i64 ((onF o (1+(kz:Int)):Nat):Int),.slice p6 ((onB o (1+(kz:Int)):List Int).length) c6]) ?_; refine xpL (.bool false) ?_
      have hlb:=(Below.refl w6.heap.size w6).alloc (xnR _) (.cells #[.int .i64 0,.slice none 0 0] 35); refine actL (w':=w6.alloc (.cells #[.int .i64 0,.slice none 0 0] 35)) (.pointer (some ⟨w6.heap.size,0,none⟩)) rfl (by kernel_rfl) ?_; simp only [aP,lI,l0,lS]; replace hIa:=hK.bel hIa hlb; replace N_6:=NewF.below N_6 hlb; replace T_6:=Wrt.below T_6 hlb
      replace M:=M.box #[.int .i64 0,.slice none 0 0] 35 w6.heap.size rfl; clear hlb; generalize w6.alloc (.cells #[.int .i64 0,.slice none 0 0] 35)=w7 at M hIa N_6 T_6 ⊢; generalize w6.heap.size=B7 at M ⊢
      replace M:Mm w0 ((B7,[.int .i64 0,.slice none 0 0])::(ba1++((obs p6)++([]:List (Nat × List Value))))) w7:=M
      refine skipOpL rfl (storeP [.int .i64 ((onF o (1+(kz:Int)):Nat):Int),.slice p6 ((onB o (1+(kz:Int)):List Int).length) c6] B7 0 35 _ _ rfl rfl rfl (M.thereP mS 0 2 (Nat.le_of_ble_eq_true rfl)) (by kernel_rfl) (List.all_eq_true.1 (rfl:([.int .i64 ((onF o (1+(kz:Int)):Nat):Int),.slice p6 ((onB o (1+(kz:Int)):List Int).length) c6]:List Value).all (fun u=>u.oneCell')=true))) ?_
      simp only [Act.put]; replace M:=M.setPart [.int .i64 ((onF o (1+(kz:Int)):Nat):Int),.slice p6 ((onB o (1+(kz:Int)):List Int).length) c6] 0 (Nat.le_of_ble_eq_true rfl)
      replace hIa:=hK.off _ _ _ _ _ _ hIa ((Off.refl [B7] _).setAll (b:=B7) mS 0 [.int .i64 ((onF o (1+(kz:Int)):Nat):Int),.slice p6 ((onB o (1+(kz:Int)):List Int).length) c6]) (fun b_ hb_=>by obtain rfl:=xm1 hb_; exact M.awayC (fun p_ hp_=>by simp [hp_]))
      replace N_6:=NewF.offB N_6 ((Off.refl [B7] _).setAll (b:=B7) mS 0 [.int .i64 ((onF o (1+(kz:Int)):Nat):Int),.slice p6 ((onB o (1+(kz:Int)):List Int).length) c6]) (fun b_ hb_=>by obtain rfl:=xm1 hb_; exact M.awayB (fun p_ hp_=>by simp [hp_]))
      replace T_6:=Wrt.offB T_6 ((Off.refl [B7] _).setAll (b:=B7) mS 0 [.int .i64 ((onF o (1+(kz:Int)):Nat):Int),.slice p6 ((onB o (1+(kz:Int)):List Int).length) c6]) (fun b_ hb_=>by obtain rfl:=xm1 hb_; exact M.awayB (fun p_ hp_=>by simp [hp_]))
      generalize w7.setCells B7 0 [.int .i64 ((onF o (1+(kz:Int)):Nat):Int),.slice p6 ((onB o (1+(kz:Int)):List Int).length) c6]=w8 at M hIa N_6 T_6 ⊢
      replace M:Mm w0 ((B7,[.int .i64 ((onF o (1+(kz:Int)):Nat):Int),.slice p6 ((onB o (1+(kz:Int)):List Int).length) c6])::(ba1++((obs p6)++([]:List (Nat × List Value))))) w8:=M
      refine xpL (.bool false) ?_; refine xT ?_; go_upto_region 16 with fail; refine wp_region_list ?_; refine xpL (.bool false) ?_; refine xpL (.bool true) ?_; refine xT ?_; have hdn:=hA.done hBl (show 1≤(1+(kz:Int)) by omega) hN
      replace M:Mm w0 ((B7,[.int .i64 ((onF o (1+(kz:Int)):Nat):Int),.slice p6 ((onB o (1+(kz:Int)):List Int).length) c6])::(ba1++([]:List (Nat × List Value)))) w8:=M.sub _ (List.cons_sublist_cons.2 ((List.Sublist.refl _).append (List.sublist_append_right _ _)))
      clear N_6 T_6; go_upto_region 21 with fail; refine wp_region_list ?_; refine xpL (.pointer (some ⟨Ra,0,none⟩)) ?_; have Mp:=M.perm (pull0 ([(B7,[.int .i64 ((onF o (1+(kz:Int)):Nat):Int),.slice p6 ((onB o (1+(kz:Int)):List Int).length) c6])]:List (Nat × List Value)) ba1 ([]:List (Nat × List Value)))
      have key:=hK.idl w0 _ _ (onx o (1+(kz:Int))) ba1 _ (onx_w hA.w (1+(kz:Int))) (by rw [(onx_he o (1+(kz:Int))).2.1,hA.b]; omega) hIa Mp; clear Mp
      rw [hdn.2] at key
      refine xcL key ?_; clear key; rintro e w9 ⟨rfl,l_⟩; replace M:=M.call l_; replace hIa:=hK.bel hIa l_; clear l_; refine xeL ?_; refine xpL (.bool true) ?_; refine xpL (.pointer (some ⟨Ra,0,none⟩)) ?_
      have Mp:=M.perm (pull0 ([(B7,[.int .i64 ((onF o (1+(kz:Int)):Nat):Int),.slice p6 ((onB o (1+(kz:Int)):List Int).length) c6])]:List (Nat × List Value)) ba1 ([]:List (Nat × List Value))); have key:=hK.bas w0 _ _ (onx o (1+(kz:Int))) ba1 _ (onx_w hA.w (1+(kz:Int))) (by rw [(onx_he o (1+(kz:Int))).2.1,hA.b]; omega) hIa Mp; clear Mp
      rw [hdn.1] at key
      refine xcL key ?_; clear key; rintro e w10 ⟨rfl,l_⟩; replace M:=M.call l_; replace hIa:=hK.bel hIa l_; clear l_; refine xeL ?_; refine xpL (.slice spc B.length capb) ?_; refine xaL (.int .i64 ((B.length:Nat):Int)) (lenS _ 28 5 spc B.length capb rfl Try.underlying28 rfl _) ?_; refine xaL (.bool true) (eqlI .i64 _ _ _ _ _ _ rfl rfl rfl true (beq_self_eq_true _) _) ?_
      refine xpL (.bool true) ?_; refine xpL (.bool true) ?_; refine xT ?_; have hbel:=M.below; clear M hIa; go_wp2; go_ret
      exact ⟨rfl,hbel⟩
 · go_upto_region 5 with fail
   refine wp_region_list ?_; refine xpL (.slice sb b.length capb) ?_; refine xaL (.int .i64 ((b.length:Nat):Int)) (lenS _ 28 5 sb b.length capb rfl Try.underlying28 rfl _) ?_; refine xaL (.bool false) (gtrI .i64 _ _ _ _ _ _ rfl rfl rfl false (decide_eq_false (by omega)) _) ?_; refine xT ?_
   obtain ⟨B,hBe⟩:∃ B,B=b:=⟨_,rfl⟩
   subst hBe
   have hBl:B.length≤1000:=by omega
   have hB:=byb; have srcB:=srcb; go_upto_region 7 with fail; refine wp_region_list ?_; refine xpL (.pointer (some ⟨Ra,0,none⟩)) ?_; have Mp:=M.perm (pull0 ([]:List (Nat × List Value)) ba0 ([]:List (Nat × List Value))); have key:=hK.alw w0 _ _ (onew 1048576) ba0 _ 1099511627776 (onew_w _) (show 0<1000000 by decide) (by unfold i64; decide) hIa Mp; refine xcL key ?_; clear key
   rintro e w21 ⟨ba1,rfl,hI_,M',o1⟩; clear o1 Mp M hIa; have hIa:=hI_; clear hI_
   have M:Mm w0 ((ba1++([]:List (Nat × List Value)))) w21:=M'.perm (pull0 ([]:List (Nat × List Value)) ba1 ([]:List (Nat × List Value))).symm
   clear M'; refine xeL ?_; refine xT ?_; go_upto_region 8 with fail; refine wp_region_list ?_; refine xpL (.pointer (some ⟨Ra,0,none⟩)) ?_; refine xpL (.slice sb B.length capb) ?_; have Mp:=M.perm (pull0 ([]:List (Nat × List Value)) ba1 ([]:List (Nat × List Value)))
   have key:=hK.wrt w0 _ _ (oal (onew 1048576) 1099511627776) ba1 _ sb capb B (oal_w (onew_w _) (by unfold i64; decide)) (show 0<1000000 by decide) (by omega) leb nilb hB hIa Mp ((SrcA.of_old srcB Mp.los).off (Off.of_below Mp.below))
   rw [arr_owN B hBl] at key
   refine xcL key ?_; clear key; rintro e w22 ⟨ba2,rfl,hI_,M',o1⟩; clear o1 Mp M hIa; have hIa:=hI_; clear hI_
   have M:Mm w0 ((ba2++([]:List (Nat × List Value)))) w22:=M'.perm (pull0 ([]:List (Nat × List Value)) ba2 ([]:List (Nat × List Value))).symm
   clear M'; refine xeL ?_; refine xpL (.slice sb B.length capb) ?_; refine xaL (.int .i64 ((B.length:Nat):Int)) (lenS _ 28 5 sb B.length capb rfl Try.underlying28 rfl _) ?_; refine xaL (.bool false) (neqI .i64 _ _ _ _ _ _ rfl rfl rfl false (bne_self_eq_false _) _) ?_; refine xT ?_; go_upto_region 10 with fail; refine wp_region_list ?_; refine xpL (.int .i64 z) ?_
   have key:=kind18_any z 60 (by decide) hz w22; refine xcL key ?_; clear key; rintro e w23 ⟨rfl,l_⟩; replace M:=M.call l_; replace hIa:=hK.bel hIa l_; clear l_; refine xeL ?_; have hkd:=kdn_lt z 60 (by decide); generalize kdn z 60=kz at hkd ⊢; refine xaL (.int .i64 (1+(kz:Int))) (addI .i64 _ _ _ _ _ _ _ rfl rfl rfl (by rw [xw6]; omega) _) ?_
   refine xpL (.int .i64 (1+(kz:Int))) ?_; refine xT ?_; go_upto_region 11 with fail; refine wp_region_list ?_; refine xpL (.int .i64 0) ?_; refine xT ?_; go_upto_region 12 with fail; refine wp_region_list ?_; refine xpL (.int .i64 0) ?_; refine xT ?_
   have HI:=show Hid _ from (show I w23 (.pointer (some ⟨Ra,0,none⟩)) (owr (oal (onew 1048576) 1099511627776) B) ba2∧Mm w0 (ba2++([]:List (Nat × List Value))) w23 from ⟨hIa,M⟩); clear M hIa; go_wp2
   go_loopw [10,11] (fun a_ i w'=>∃ (q:Nat) (o:Obx) (ga:List (Nat × List Value)),q≤2000∧a_=.int .i64 (q:Int)∧i=.int .i64 (q:Int)∧Arr B o q∧I w' (.pointer (some ⟨Ra,0,none⟩)) o ga∧Mm w0 (ga++([]:List (Nat × List Value))) w') (fun _ i _=>2000-(intOf i).toNat)
   case atStart=>exact ⟨0,_,_,by omega,rfl,rfl,Arr.start hB hBl,HI.out⟩
   case round =>
    clear HI
    obtain ⟨q,o,ga,hq,rfl,rfl,hA,hIa,M⟩:=hrel
    have hAc:=hA.c; have hbc:=bcnt_le o.he B.length; have hNl:=onN_le hA.w (1+(kz:Int))
    rw [hA.b] at hNl
    have hBn:=onB_len hA.w (1+(kz:Int)); go_upto_region 13 with fail; refine wp_region_list ?_; refine xpL (.int .i64 (q:Int)) ?_; refine xaL (.bool true) (lssI .i64 _ _ _ _ _ _ rfl rfl rfl true (decide_eq_true (by omega)) _) ?_; refine xT ?_
    by_cases hN:0<onN o (1+(kz:Int))
    · go_upto_region 15 with fail
      refine wp_region_list ?_; refine xpL (.pointer (some ⟨Ra,0,none⟩)) ?_; refine xpL (.int .i64 (1+(kz:Int))) ?_; have Mp:=M.perm (pull0 ([]:List (Nat × List Value)) ga ([]:List (Nat × List Value))); have key:=hK.nxt w0 _ _ o ga _ (1+(kz:Int)) hA.w (by rw [hA.b]; omega) (by unfold i64; omega) hIa Mp
      rw [decide_eq_true hN] at key
      refine xcL key ?_; clear key; rintro e w29 ⟨p29,c29,ba1,rfl,N_29,T_29,hI_,M',o1⟩; clear o1 Mp M hIa; have hIa:=hI_; clear hI_
      have M:Mm w0 ((ba1++((obs p29)++([]:List (Nat × List Value))))) w29:=M'.perm (pullY ([]:List (Nat × List Value)) ba1 (obs p29) ([]:List (Nat × List Value)))
      clear M'; refine xeL ?_
      obtain ⟨bs29,N_29⟩:∃ b_,NewF w29 b_ (onB o (1+(kz:Int)):List Int).length (bl (onB o (1+(kz:Int)))) (.slice p29 (onB o (1+(kz:Int)):List Int).length c29):=⟨_,N_29⟩
      refine xpL (.tuple #[.agg #[.int .i64 ((onF o (1+(kz:Int)):Nat):Int),.slice p29 ((onB o (1+(kz:Int)):List Int).length) c29],.bool true]) ?_; refine xpL (.agg #[.int .i64 ((onF o (1+(kz:Int)):Nat):Int),.slice p29 ((onB o (1+(kz:Int)):List Int).length) c29]) ?_; refine xpL (.bool true) ?_
      have hlb:=(Below.refl w29.heap.size w29).alloc (xnR _) (.cells #[.int .i64 0,.slice none 0 0] 35); refine actL (w':=w29.alloc (.cells #[.int .i64 0,.slice none 0 0] 35)) (.pointer (some ⟨w29.heap.size,0,none⟩)) rfl (by kernel_rfl) ?_; simp only [aP,lI,l0,lS]; replace hIa:=hK.bel hIa hlb; replace N_29:=NewF.below N_29 hlb; replace T_29:=Wrt.below T_29 hlb
      replace M:=M.box #[.int .i64 0,.slice none 0 0] 35 w29.heap.size rfl; clear hlb; generalize w29.alloc (.cells #[.int .i64 0,.slice none 0 0] 35)=w30 at M hIa N_29 T_29 ⊢; generalize w29.heap.size=B30 at M ⊢
      replace M:Mm w0 ((B30,[.int .i64 0,.slice none 0 0])::(ba1++((obs p29)++([]:List (Nat × List Value))))) w30:=M
      refine skipOpL rfl (storeP [.int .i64 ((onF o (1+(kz:Int)):Nat):Int),.slice p29 ((onB o (1+(kz:Int)):List Int).length) c29] B30 0 35 _ _ rfl rfl rfl (M.thereP mS 0 2 (Nat.le_of_ble_eq_true rfl)) (by kernel_rfl) (List.all_eq_true.1 (rfl:([.int .i64 ((onF o (1+(kz:Int)):Nat):Int),.slice p29 ((onB o (1+(kz:Int)):List Int).length) c29]:List Value).all (fun u=>u.oneCell')=true))) ?_
      simp only [Act.put]; replace M:=M.setPart [.int .i64 ((onF o (1+(kz:Int)):Nat):Int),.slice p29 ((onB o (1+(kz:Int)):List Int).length) c29] 0 (Nat.le_of_ble_eq_true rfl)
      replace hIa:=hK.off _ _ _ _ _ _ hIa ((Off.refl [B30] _).setAll (b:=B30) mS 0 [.int .i64 ((onF o (1+(kz:Int)):Nat):Int),.slice p29 ((onB o (1+(kz:Int)):List Int).length) c29]) (fun b_ hb_=>by obtain rfl:=xm1 hb_; exact M.awayC (fun p_ hp_=>by simp [hp_]))
      replace N_29:=NewF.offB N_29 ((Off.refl [B30] _).setAll (b:=B30) mS 0 [.int .i64 ((onF o (1+(kz:Int)):Nat):Int),.slice p29 ((onB o (1+(kz:Int)):List Int).length) c29]) (fun b_ hb_=>by obtain rfl:=xm1 hb_; exact M.awayB (fun p_ hp_=>by simp [hp_]))
      replace T_29:=Wrt.offB T_29 ((Off.refl [B30] _).setAll (b:=B30) mS 0 [.int .i64 ((onF o (1+(kz:Int)):Nat):Int),.slice p29 ((onB o (1+(kz:Int)):List Int).length) c29]) (fun b_ hb_=>by obtain rfl:=xm1 hb_; exact M.awayB (fun p_ hp_=>by simp [hp_]))
      generalize w30.setCells B30 0 [.int .i64 ((onF o (1+(kz:Int)):Nat):Int),.slice p29 ((onB o (1+(kz:Int)):List Int).length) c29]=w31 at M hIa N_29 T_29 ⊢
      replace M:Mm w0 ((B30,[.int .i64 ((onF o (1+(kz:Int)):Nat):Int),.slice p29 ((onB o (1+(kz:Int)):List Int).length) c29])::(ba1++((obs p29)++([]:List (Nat × List Value))))) w31:=M
      refine xpL (.bool true) ?_; refine xT ?_; go_upto_region 16 with fail; refine wp_region_list ?_; refine xpL (.bool true) ?_; refine xpL (.bool false) ?_; refine xT ?_
      by_cases hlt_l:q<l.length
      · obtain ⟨adl,hadl,_⟩:=hsl0 q hlt_l
        subst hadl
        by_cases h2:q<100
        · by_cases h3:(bl l q).tmod 2=0
          · go_upto_region 17 with fail
            refine wp_region_list ?_; refine xpL (.int .i64 (q:Int)) ?_; refine xpL (.slice (some adl) l.length cap) ?_; refine xaL (.int .i64 ((l.length:Nat):Int)) (lenS _ 47 3 (some adl) l.length cap rfl Try.underlying47 rfl _) ?_; refine xaL (.bool true) (lssI .i64 _ _ _ _ _ _ rfl rfl rfl true (decide_eq_true (by omega)) _) ?_; refine xpL (.bool true) ?_
            refine xpL (.int .i64 (q:Int)) ?_; refine xaL (.bool true) (lssI .i64 _ _ _ _ _ _ rfl rfl rfl true (decide_eq_true (by omega)) _) ?_; refine xpL (.bool true) ?_; refine xpL (.bool true) ?_; refine xpL (.slice (some adl) l.length cap) ?_; refine xpL (.int .i64 (q:Int)) ?_
            refine xaL (.pointer (some (adl.add q))) (idxSl 47 3 l.length cap .i64 adl q _ _ Try.underlying47 (fun _=>by kernel_rfl) hlt_l rfl rfl rfl _) ?_; refine xaL (.int .i64 (bl l q)) (load1 3 _ (adl.add q) _ rfl rfl (fun _=>by kernel_rfl) ((hsl0.below M.below (xnR _)).at q hlt_l)) ?_; refine xaL (.int .i64 ((bl l q).tmod 2)) (remI .i64 _ _ _ _ _ _ _ rfl rfl rfl (by decide) rfl _) ?_
            refine xaL (.bool false) (neqI .i64 _ _ _ _ _ _ rfl rfl rfl false (by rw [bne_eq_false_iff_eq]; exact h3) _) ?_; refine xpL (.bool false) ?_; refine xT ?_; clear h3; have hA2:=hA.ack hN
            rw [← hBn] at hA2
            go_upto_region 19 with fail; refine wp_region_list ?_; refine xpL (.pointer (some ⟨Ra,0,none⟩)) ?_; refine xpL (.pointer (some ⟨B30,0,none⟩)) ?_; refine readL (.int .i64 ((onF o (1+(kz:Int)):Nat):Int)) rfl (load1 3 _ ⟨B30,0,none⟩ _ rfl rfl (fun _=>by kernel_rfl) (M.get mS 0 _ rfl)) ?_; simp only [aP,lI,l0,lS]; refine xpL (.pointer (some ⟨B30,0,none⟩)) ?_
            refine readL (.int .i64 ((onF o (1+(kz:Int)):Nat):Int)) rfl (load1 3 _ ⟨B30,0,none⟩ _ rfl rfl (fun _=>by kernel_rfl) (M.get mS 0 _ rfl)) ?_; simp only [aP,lI,l0,lS]; refine xpL (.pointer (some ⟨B30,1,none⟩)) ?_
            refine readL (.slice p29 ((onB o (1+(kz:Int)):List Int).length) c29) rfl (load1 28 _ ⟨B30,1,none⟩ _ rfl rfl (fun _=>by kernel_rfl) (M.get mS 1 _ rfl)) ?_; simp only [aP,lI,l0,lS]; refine readL (.int .i64 (((onB o (1+(kz:Int)):List Int).length:Nat):Int)) rfl (lenS _ 28 5 p29 ((onB o (1+(kz:Int)):List Int).length) c29 rfl Try.underlying28 rfl _) ?_
            simp only [aP,lI,l0,lS]; refine readL (.int .i64 ((onF o (1+(kz:Int))+(onB o (1+(kz:Int))).length:Nat):Int)) rfl (addI .i64 _ _ _ _ _ _ _ rfl rfl rfl (by rw [xw6]; omega) _) ?_; simp only [aP,lI,l0,lS]; refine xpL (.agg #[.int .i64 ((onF o (1+(kz:Int)):Nat):Int),.int .i64 ((onF o (1+(kz:Int))+(onB o (1+(kz:Int))).length:Nat):Int)]) ?_
            have hlb:=(Below.refl w31.heap.size w31).alloc (xnR _) (.cells #[.int .i64 ((onF o (1+(kz:Int)):Nat):Int),.int .i64 ((onF o (1+(kz:Int))+(onB o (1+(kz:Int))).length:Nat):Int)] 49)
            refine actL (w':=w31.alloc (.cells #[.int .i64 ((onF o (1+(kz:Int)):Nat):Int),.int .i64 ((onF o (1+(kz:Int))+(onB o (1+(kz:Int))).length:Nat):Int)] 49)) (.slice (some ⟨w31.heap.size,0,none⟩) 1 1) rfl (by kernel_rfl) ?_; simp only [aP,lI,l0,lS]; replace hIa:=hK.bel hIa hlb; replace N_29:=NewF.below N_29 hlb; replace T_29:=Wrt.below T_29 hlb
            replace M:=M.box #[.int .i64 ((onF o (1+(kz:Int)):Nat):Int),.int .i64 ((onF o (1+(kz:Int))+(onB o (1+(kz:Int))).length:Nat):Int)] 49 w31.heap.size rfl; clear hlb; generalize w31.alloc (.cells #[.int .i64 ((onF o (1+(kz:Int)):Nat):Int),.int .i64 ((onF o (1+(kz:Int))+(onB o (1+(kz:Int))).length:Nat):Int)] 49)=w36 at M hIa N_29 T_29 ⊢
            generalize w31.heap.size=B36 at M ⊢
            replace M:Mm w0 ((B36,[.int .i64 ((onF o (1+(kz:Int)):Nat):Int),.int .i64 ((onF o (1+(kz:Int))+(onB o (1+(kz:Int))).length:Nat):Int)])::(B30,[.int .i64 ((onF o (1+(kz:Int)):Nat):Int),.slice p29 ((onB o (1+(kz:Int)):List Int).length) c29])::(ba1++((obs p29)++([]:List (Nat × List Value))))) w36:=M
            have Mp:=M.perm (pull0 ([(B36,[.int .i64 ((onF o (1+(kz:Int)):Nat):Int),.int .i64 ((onF o (1+(kz:Int))+(onB o (1+(kz:Int))).length:Nat):Int)]),(B30,[.int .i64 ((onF o (1+(kz:Int)):Nat):Int),.slice p29 ((onB o (1+(kz:Int)):List Int).length) c29])]:List (Nat × List Value)) ba1 ((obs p29)++([]:List (Nat × List Value))))
            have key:=hK.ack w0 _ _ (onx o (1+(kz:Int))) ba1 _ 0 ([(((onF o (1+(kz:Int)):Nat):Int),((onF o (1+(kz:Int))+(onB o (1+(kz:Int))).length:Nat):Int))]) (some ⟨B36,0,none⟩) 1 (onx_w hA.w (1+(kz:Int))) (by rw [(onx_he o (1+(kz:Int))).2.1,hA.b]; omega) (by unfold i64; decide) (show 1<1000000 by decide) (fun r_ hr_=>by obtain rfl:=xm1 hr_; unfold i64; simp only; omega) (RgW.ofW (M.newWt mS [(((onF o (1+(kz:Int)):Nat):Int),((onF o (1+(kz:Int))+(onB o (1+(kz:Int))).length:Nat):Int))] rfl (xnR 1))) (fun b_ hb_ _ h_=>by obtain rfl:=xm1 h_; exact Mp.beside mS hb_) hIa Mp
            refine xcL key ?_; clear key; rintro e w37 ⟨ba2,rfl,hI_,M',o1⟩; replace N_29:=NewF.offB N_29 o1 (Mp.awayS (fun p_ hp_=>by simp [hp_])); replace T_29:=Wrt.offB T_29 o1 (Mp.awayS (fun p_ hp_=>by simp [hp_])); clear o1 Mp M hIa; have hIa:=hI_; clear hI_
            have M:Mm w0 ((B36,[.int .i64 ((onF o (1+(kz:Int)):Nat):Int),.int .i64 ((onF o (1+(kz:Int))+(onB o (1+(kz:Int))).length:Nat):Int)])::(B30,[.int .i64 ((onF o (1+(kz:Int)):Nat):Int),.slice p29 ((onB o (1+(kz:Int)):List Int).length) c29])::(ba2++((obs p29)++([]:List (Nat × List Value))))) w37:=M'.perm (pull0 ([(B36,[.int .i64 ((onF o (1+(kz:Int)):Nat):Int),.int .i64 ((onF o (1+(kz:Int))+(onB o (1+(kz:Int))).length:Nat):Int)]),(B30,[.int .i64 ((onF o (1+(kz:Int)):Nat):Int),.slice p29 ((onB o (1+(kz:Int)):List Int).length) c29])]:List (Nat × List Value)) ba2 ((obs p29)++([]:List (Nat × List Value)))).symm
            clear M'; refine xeL ?_; refine xT ?_
            replace M:Mm w0 ((B36,[.int .i64 ((onF o (1+(kz:Int)):Nat):Int),.int .i64 ((onF o (1+(kz:Int))+(onB o (1+(kz:Int))).length:Nat):Int)])::(B30,[.int .i64 ((onF o (1+(kz:Int)):Nat):Int),.slice p29 ((onB o (1+(kz:Int)):List Int).length) c29])::(ba2++([]:List (Nat × List Value)))) w37:=M.sub _ (List.cons_sublist_cons.2 (List.cons_sublist_cons.2 ((List.Sublist.refl _).append (List.sublist_append_right _ _))))
            clear N_29 T_29; go_upto_region 20 with fail; refine wp_region_list ?_; refine xpL (.int .i64 (q:Int)) ?_; refine xaL (.int .i64 ((q+1:Nat):Int)) (addI .i64 _ _ _ _ _ _ _ rfl rfl rfl (by rw [xw6]; omega) _) ?_; refine xpL (.int .i64 ((q+1:Nat):Int)) ?_; refine xT ?_
            have HS:=show Hid _ from (show I w37 (.pointer (some ⟨Ra,0,none⟩)) (oac (onx o (1+(kz:Int))) 0 [(((onF o (1+(kz:Int)):Nat):Int),((onF o (1+(kz:Int))+(onB o (1+(kz:Int))).length:Nat):Int))]) ba2∧Mm w0 (ba2++([]:List (Nat × List Value))) w37 from ⟨hIa,M.tail.tail⟩); have hA3:=show Hid _ from hA2; clear M hIa hA2; go_wp2
            go_roundw
            case rel=>exact ⟨q+1,_,_,by omega,by go_num,by go_num,hA3.out,HS.out⟩
            case measure=>simp [intOf]; omega
          · go_upto_region 17 with fail
            refine wp_region_list ?_; refine xpL (.int .i64 (q:Int)) ?_; refine xpL (.slice (some adl) l.length cap) ?_; refine xaL (.int .i64 ((l.length:Nat):Int)) (lenS _ 47 3 (some adl) l.length cap rfl Try.underlying47 rfl _) ?_; refine xaL (.bool true) (lssI .i64 _ _ _ _ _ _ rfl rfl rfl true (decide_eq_true (by omega)) _) ?_; refine xpL (.bool true) ?_
            refine xpL (.int .i64 (q:Int)) ?_; refine xaL (.bool true) (lssI .i64 _ _ _ _ _ _ rfl rfl rfl true (decide_eq_true (by omega)) _) ?_; refine xpL (.bool true) ?_; refine xpL (.bool true) ?_; refine xpL (.slice (some adl) l.length cap) ?_; refine xpL (.int .i64 (q:Int)) ?_
            refine xaL (.pointer (some (adl.add q))) (idxSl 47 3 l.length cap .i64 adl q _ _ Try.underlying47 (fun _=>by kernel_rfl) hlt_l rfl rfl rfl _) ?_; refine xaL (.int .i64 (bl l q)) (load1 3 _ (adl.add q) _ rfl rfl (fun _=>by kernel_rfl) ((hsl0.below M.below (xnR _)).at q hlt_l)) ?_; refine xaL (.int .i64 ((bl l q).tmod 2)) (remI .i64 _ _ _ _ _ _ _ rfl rfl rfl (by decide) rfl _) ?_
            refine xaL (.bool true) (neqI .i64 _ _ _ _ _ _ rfl rfl rfl true (by rw [bne_iff_ne]; exact h3) _) ?_; refine xpL (.bool true) ?_; refine xT ?_; clear h3; have hA2:=hA.lost (show q<100 by omega) hN
            rw [← hBn] at hA2
            go_upto_region 18 with fail; refine wp_region_list ?_; refine xpL (.pointer (some ⟨Ra,0,none⟩)) ?_; refine xpL (.pointer (some ⟨B30,0,none⟩)) ?_; refine readL (.int .i64 ((onF o (1+(kz:Int)):Nat):Int)) rfl (load1 3 _ ⟨B30,0,none⟩ _ rfl rfl (fun _=>by kernel_rfl) (M.get mS 0 _ rfl)) ?_; simp only [aP,lI,l0,lS]; refine xpL (.pointer (some ⟨B30,1,none⟩)) ?_
            refine readL (.slice p29 ((onB o (1+(kz:Int)):List Int).length) c29) rfl (load1 28 _ ⟨B30,1,none⟩ _ rfl rfl (fun _=>by kernel_rfl) (M.get mS 1 _ rfl)) ?_; simp only [aP,lI,l0,lS]; refine readL (.int .i64 (((onB o (1+(kz:Int)):List Int).length:Nat):Int)) rfl (lenS _ 28 5 p29 ((onB o (1+(kz:Int)):List Int).length) c29 rfl Try.underlying28 rfl _) ?_
            simp only [aP,lI,l0,lS]; have Mp:=M.perm (pull0 ([(B30,[.int .i64 ((onF o (1+(kz:Int)):Nat):Int),.slice p29 ((onB o (1+(kz:Int)):List Int).length) c29])]:List (Nat × List Value)) ba1 ((obs p29)++([]:List (Nat × List Value))))
            have key:=hK.lst w0 _ _ (onx o (1+(kz:Int))) ba1 _ ((onF o (1+(kz:Int)):Nat):Int) (((onB o (1+(kz:Int))).length:Nat):Int) (onx_w hA.w (1+(kz:Int))) (by rw [(onx_he o (1+(kz:Int))).2.1,hA.b]; omega) (by unfold i64; omega) (by unfold i64; omega) hIa Mp; refine xcL key ?_; clear key; rintro e w38 ⟨ba2,rfl,hI_,M',o1⟩
            replace N_29:=NewF.offB N_29 o1 (Mp.awayS (fun p_ hp_=>by simp [hp_])); replace T_29:=Wrt.offB T_29 o1 (Mp.awayS (fun p_ hp_=>by simp [hp_])); clear o1 Mp M hIa; have hIa:=hI_; clear hI_
            have M:Mm w0 ((B30,[.int .i64 ((onF o (1+(kz:Int)):Nat):Int),.slice p29 ((onB o (1+(kz:Int)):List Int).length) c29])::(ba2++((obs p29)++([]:List (Nat × List Value))))) w38:=M'.perm (pull0 ([(B30,[.int .i64 ((onF o (1+(kz:Int)):Nat):Int),.slice p29 ((onB o (1+(kz:Int)):List Int).length) c29])]:List (Nat × List Value)) ba2 ((obs p29)++([]:List (Nat × List Value)))).symm
            clear M'; refine xeL ?_; refine xT ?_
            replace M:Mm w0 ((B30,[.int .i64 ((onF o (1+(kz:Int)):Nat):Int),.slice p29 ((onB o (1+(kz:Int)):List Int).length) c29])::(ba2++([]:List (Nat × List Value)))) w38:=M.sub _ (List.cons_sublist_cons.2 ((List.Sublist.refl _).append (List.sublist_append_right _ _)))
            clear N_29 T_29; go_upto_region 20 with fail; refine wp_region_list ?_; refine xpL (.int .i64 (q:Int)) ?_; refine xaL (.int .i64 ((q+1:Nat):Int)) (addI .i64 _ _ _ _ _ _ _ rfl rfl rfl (by rw [xw6]; omega) _) ?_; refine xpL (.int .i64 ((q+1:Nat):Int)) ?_; refine xT ?_
            have HS:=show Hid _ from (show I w38 (.pointer (some ⟨Ra,0,none⟩)) (olo (onx o (1+(kz:Int))) ((onF o (1+(kz:Int)):Nat):Int) (((onB o (1+(kz:Int))).length:Nat):Int)) ba2∧Mm w0 (ba2++([]:List (Nat × List Value))) w38 from ⟨hIa,M.tail⟩); have hA3:=show Hid _ from hA2; clear M hIa hA2; go_wp2
            go_roundw
            case rel=>exact ⟨q+1,_,_,by omega,by go_num,by go_num,hA3.out,HS.out⟩
            case measure=>simp [intOf]; omega
        · go_upto_region 17 with fail
          refine wp_region_list ?_; refine xpL (.int .i64 (q:Int)) ?_; refine xpL (.slice (some adl) l.length cap) ?_; refine xaL (.int .i64 ((l.length:Nat):Int)) (lenS _ 47 3 (some adl) l.length cap rfl Try.underlying47 rfl _) ?_; refine xaL (.bool true) (lssI .i64 _ _ _ _ _ _ rfl rfl rfl true (decide_eq_true (by omega)) _) ?_; refine xpL (.bool true) ?_
          refine xpL (.int .i64 (q:Int)) ?_; refine xaL (.bool false) (lssI .i64 _ _ _ _ _ _ rfl rfl rfl false (decide_eq_false (by omega)) _) ?_; refine xpL (.bool false) ?_; refine xpL (.bool false) ?_
          with_reducible refine skipL ?_ ?_
          · rfl
          simp only [aP,lI,l0,lS]
          with_reducible refine skipL ?_ ?_
          · rfl
          simp only [aP,lI,l0,lS]
          with_reducible refine skipL ?_ ?_
          · rfl
          simp only [aP,lI,l0,lS]
          with_reducible refine skipL ?_ ?_
          · rfl
          simp only [aP,lI,l0,lS]
          with_reducible refine skipL ?_ ?_
          · rfl
          simp only [aP,lI,l0,lS]
          with_reducible refine skipL ?_ ?_
          · rfl
          simp only [aP,lI,l0,lS]; refine xpL (.bool false) ?_; refine xT ?_; have hA2:=hA.ack hN
          rw [← hBn] at hA2
          go_upto_region 19 with fail; refine wp_region_list ?_; refine xpL (.pointer (some ⟨Ra,0,none⟩)) ?_; refine xpL (.pointer (some ⟨B30,0,none⟩)) ?_; refine readL (.int .i64 ((onF o (1+(kz:Int)):Nat):Int)) rfl (load1 3 _ ⟨B30,0,none⟩ _ rfl rfl (fun _=>by kernel_rfl) (M.get mS 0 _ rfl)) ?_; simp only [aP,lI,l0,lS]; refine xpL (.pointer (some ⟨B30,0,none⟩)) ?_
          refine readL (.int .i64 ((onF o (1+(kz:Int)):Nat):Int)) rfl (load1 3 _ ⟨B30,0,none⟩ _ rfl rfl (fun _=>by kernel_rfl) (M.get mS 0 _ rfl)) ?_; simp only [aP,lI,l0,lS]; refine xpL (.pointer (some ⟨B30,1,none⟩)) ?_
          refine readL (.slice p29 ((onB o (1+(kz:Int)):List Int).length) c29) rfl (load1 28 _ ⟨B30,1,none⟩ _ rfl rfl (fun _=>by kernel_rfl) (M.get mS 1 _ rfl)) ?_; simp only [aP,lI,l0,lS]; refine readL (.int .i64 (((onB o (1+(kz:Int)):List Int).length:Nat):Int)) rfl (lenS _ 28 5 p29 ((onB o (1+(kz:Int)):List Int).length) c29 rfl Try.underlying28 rfl _) ?_
          simp only [aP,lI,l0,lS]; refine readL (.int .i64 ((onF o (1+(kz:Int))+(onB o (1+(kz:Int))).length:Nat):Int)) rfl (addI .i64 _ _ _ _ _ _ _ rfl rfl rfl (by rw [xw6]; omega) _) ?_; simp only [aP,lI,l0,lS]; refine xpL (.agg #[.int .i64 ((onF o (1+(kz:Int)):Nat):Int),.int .i64 ((onF o (1+(kz:Int))+(onB o (1+(kz:Int))).length:Nat):Int)]) ?_
          have hlb:=(Below.refl w31.heap.size w31).alloc (xnR _) (.cells #[.int .i64 ((onF o (1+(kz:Int)):Nat):Int),.int .i64 ((onF o (1+(kz:Int))+(onB o (1+(kz:Int))).length:Nat):Int)] 49)
          refine actL (w':=w31.alloc (.cells #[.int .i64 ((onF o (1+(kz:Int)):Nat):Int),.int .i64 ((onF o (1+(kz:Int))+(onB o (1+(kz:Int))).length:Nat):Int)] 49)) (.slice (some ⟨w31.heap.size,0,none⟩) 1 1) rfl (by kernel_rfl) ?_; simp only [aP,lI,l0,lS]; replace hIa:=hK.bel hIa hlb; replace N_29:=NewF.below N_29 hlb; replace T_29:=Wrt.below T_29 hlb
          replace M:=M.box #[.int .i64 ((onF o (1+(kz:Int)):Nat):Int),.int .i64 ((onF o (1+(kz:Int))+(onB o (1+(kz:Int))).length:Nat):Int)] 49 w31.heap.size rfl; clear hlb; generalize w31.alloc (.cells #[.int .i64 ((onF o (1+(kz:Int)):Nat):Int),.int .i64 ((onF o (1+(kz:Int))+(onB o (1+(kz:Int))).length:Nat):Int)] 49)=w34 at M hIa N_29 T_29 ⊢
          generalize w31.heap.size=B34 at M ⊢
          replace M:Mm w0 ((B34,[.int .i64 ((onF o (1+(kz:Int)):Nat):Int),.int .i64 ((onF o (1+(kz:Int))+(onB o (1+(kz:Int))).length:Nat):Int)])::(B30,[.int .i64 ((onF o (1+(kz:Int)):Nat):Int),.slice p29 ((onB o (1+(kz:Int)):List Int).length) c29])::(ba1++((obs p29)++([]:List (Nat × List Value))))) w34:=M
          have Mp:=M.perm (pull0 ([(B34,[.int .i64 ((onF o (1+(kz:Int)):Nat):Int),.int .i64 ((onF o (1+(kz:Int))+(onB o (1+(kz:Int))).length:Nat):Int)]),(B30,[.int .i64 ((onF o (1+(kz:Int)):Nat):Int),.slice p29 ((onB o (1+(kz:Int)):List Int).length) c29])]:List (Nat × List Value)) ba1 ((obs p29)++([]:List (Nat × List Value))))
          have key:=hK.ack w0 _ _ (onx o (1+(kz:Int))) ba1 _ 0 ([(((onF o (1+(kz:Int)):Nat):Int),((onF o (1+(kz:Int))+(onB o (1+(kz:Int))).length:Nat):Int))]) (some ⟨B34,0,none⟩) 1 (onx_w hA.w (1+(kz:Int))) (by rw [(onx_he o (1+(kz:Int))).2.1,hA.b]; omega) (by unfold i64; decide) (show 1<1000000 by decide) (fun r_ hr_=>by obtain rfl:=xm1 hr_; unfold i64; simp only; omega) (RgW.ofW (M.newWt mS [(((onF o (1+(kz:Int)):Nat):Int),((onF o (1+(kz:Int))+(onB o (1+(kz:Int))).length:Nat):Int))] rfl (xnR 1))) (fun b_ hb_ _ h_=>by obtain rfl:=xm1 h_; exact Mp.beside mS hb_) hIa Mp
          refine xcL key ?_; clear key; rintro e w35 ⟨ba2,rfl,hI_,M',o1⟩; replace N_29:=NewF.offB N_29 o1 (Mp.awayS (fun p_ hp_=>by simp [hp_])); replace T_29:=Wrt.offB T_29 o1 (Mp.awayS (fun p_ hp_=>by simp [hp_])); clear o1 Mp M hIa; have hIa:=hI_; clear hI_
          have M:Mm w0 ((B34,[.int .i64 ((onF o (1+(kz:Int)):Nat):Int),.int .i64 ((onF o (1+(kz:Int))+(onB o (1+(kz:Int))).length:Nat):Int)])::(B30,[.int .i64 ((onF o (1+(kz:Int)):Nat):Int),.slice p29 ((onB o (1+(kz:Int)):List Int).length) c29])::(ba2++((obs p29)++([]:List (Nat × List Value))))) w35:=M'.perm (pull0 ([(B34,[.int .i64 ((onF o (1+(kz:Int)):Nat):Int),.int .i64 ((onF o (1+(kz:Int))+(onB o (1+(kz:Int))).length:Nat):Int)]),(B30,[.int .i64 ((onF o (1+(kz:Int)):Nat):Int),.slice p29 ((onB o (1+(kz:Int)):List Int).length) c29])]:List (Nat × List Value)) ba2 ((obs p29)++([]:List (Nat × List Value)))).symm
          clear M'; refine xeL ?_; refine xT ?_
          replace M:Mm w0 ((B34,[.int .i64 ((onF o (1+(kz:Int)):Nat):Int),.int .i64 ((onF o (1+(kz:Int))+(onB o (1+(kz:Int))).length:Nat):Int)])::(B30,[.int .i64 ((onF o (1+(kz:Int)):Nat):Int),.slice p29 ((onB o (1+(kz:Int)):List Int).length) c29])::(ba2++([]:List (Nat × List Value)))) w35:=M.sub _ (List.cons_sublist_cons.2 (List.cons_sublist_cons.2 ((List.Sublist.refl _).append (List.sublist_append_right _ _))))
          clear N_29 T_29; go_upto_region 20 with fail; refine wp_region_list ?_; refine xpL (.int .i64 (q:Int)) ?_; refine xaL (.int .i64 ((q+1:Nat):Int)) (addI .i64 _ _ _ _ _ _ _ rfl rfl rfl (by rw [xw6]; omega) _) ?_; refine xpL (.int .i64 ((q+1:Nat):Int)) ?_; refine xT ?_
          have HS:=show Hid _ from (show I w35 (.pointer (some ⟨Ra,0,none⟩)) (oac (onx o (1+(kz:Int))) 0 [(((onF o (1+(kz:Int)):Nat):Int),((onF o (1+(kz:Int))+(onB o (1+(kz:Int))).length:Nat):Int))]) ba2∧Mm w0 (ba2++([]:List (Nat × List Value))) w35 from ⟨hIa,M.tail.tail⟩); have hA3:=show Hid _ from hA2; clear M hIa hA2; go_wp2
          go_roundw
          case rel=>exact ⟨q+1,_,_,by omega,by go_num,by go_num,hA3.out,HS.out⟩
          case measure=>simp [intOf]; omega
      · go_upto_region 17 with fail
        refine wp_region_list ?_; refine xpL (.int .i64 (q:Int)) ?_; refine xpL (.slice sp l.length cap) ?_; refine xaL (.int .i64 ((l.length:Nat):Int)) (lenS _ 47 3 sp l.length cap rfl Try.underlying47 rfl _) ?_; refine xaL (.bool false) (lssI .i64 _ _ _ _ _ _ rfl rfl rfl false (decide_eq_false (by omega)) _) ?_; refine xpL (.bool false) ?_
        with_reducible refine skipL ?_ ?_
        · rfl
        simp only [aP,lI,l0,lS]
        with_reducible refine skipL ?_ ?_
        · rfl
        simp only [aP,lI,l0,lS]; refine xpL (.bool false) ?_; refine xpL (.bool false) ?_
        with_reducible refine skipL ?_ ?_
        · rfl
        simp only [aP,lI,l0,lS]
        with_reducible refine skipL ?_ ?_
        · rfl
        simp only [aP,lI,l0,lS]
        with_reducible refine skipL ?_ ?_
        · rfl
        simp only [aP,lI,l0,lS]
        with_reducible refine skipL ?_ ?_
        · rfl
        simp only [aP,lI,l0,lS]
        with_reducible refine skipL ?_ ?_
        · rfl
        simp only [aP,lI,l0,lS]
        with_reducible refine skipL ?_ ?_
        · rfl
        simp only [aP,lI,l0,lS]; refine xpL (.bool false) ?_; refine xT ?_; have hA2:=hA.ack hN
        rw [← hBn] at hA2
        go_upto_region 19 with fail; refine wp_region_list ?_; refine xpL (.pointer (some ⟨Ra,0,none⟩)) ?_; refine xpL (.pointer (some ⟨B30,0,none⟩)) ?_; refine readL (.int .i64 ((onF o (1+(kz:Int)):Nat):Int)) rfl (load1 3 _ ⟨B30,0,none⟩ _ rfl rfl (fun _=>by kernel_rfl) (M.get mS 0 _ rfl)) ?_; simp only [aP,lI,l0,lS]; refine xpL (.pointer (some ⟨B30,0,none⟩)) ?_
        refine readL (.int .i64 ((onF o (1+(kz:Int)):Nat):Int)) rfl (load1 3 _ ⟨B30,0,none⟩ _ rfl rfl (fun _=>by kernel_rfl) (M.get mS 0 _ rfl)) ?_; simp only [aP,lI,l0,lS]; refine xpL (.pointer (some ⟨B30,1,none⟩)) ?_
        refine readL (.slice p29 ((onB o (1+(kz:Int)):List Int).length) c29) rfl (load1 28 _ ⟨B30,1,none⟩ _ rfl rfl (fun _=>by kernel_rfl) (M.get mS 1 _ rfl)) ?_; simp only [aP,lI,l0,lS]; refine readL (.int .i64 (((onB o (1+(kz:Int)):List Int).length:Nat):Int)) rfl (lenS _ 28 5 p29 ((onB o (1+(kz:Int)):List Int).length) c29 rfl Try.underlying28 rfl _) ?_
        simp only [aP,lI,l0,lS]; refine readL (.int .i64 ((onF o (1+(kz:Int))+(onB o (1+(kz:Int))).length:Nat):Int)) rfl (addI .i64 _ _ _ _ _ _ _ rfl rfl rfl (by rw [xw6]; omega) _) ?_; simp only [aP,lI,l0,lS]; refine xpL (.agg #[.int .i64 ((onF o (1+(kz:Int)):Nat):Int),.int .i64 ((onF o (1+(kz:Int))+(onB o (1+(kz:Int))).length:Nat):Int)]) ?_
        have hlb:=(Below.refl w31.heap.size w31).alloc (xnR _) (.cells #[.int .i64 ((onF o (1+(kz:Int)):Nat):Int),.int .i64 ((onF o (1+(kz:Int))+(onB o (1+(kz:Int))).length:Nat):Int)] 49)
        refine actL (w':=w31.alloc (.cells #[.int .i64 ((onF o (1+(kz:Int)):Nat):Int),.int .i64 ((onF o (1+(kz:Int))+(onB o (1+(kz:Int))).length:Nat):Int)] 49)) (.slice (some ⟨w31.heap.size,0,none⟩) 1 1) rfl (by kernel_rfl) ?_; simp only [aP,lI,l0,lS]; replace hIa:=hK.bel hIa hlb; replace N_29:=NewF.below N_29 hlb; replace T_29:=Wrt.below T_29 hlb
        replace M:=M.box #[.int .i64 ((onF o (1+(kz:Int)):Nat):Int),.int .i64 ((onF o (1+(kz:Int))+(onB o (1+(kz:Int))).length:Nat):Int)] 49 w31.heap.size rfl; clear hlb; generalize w31.alloc (.cells #[.int .i64 ((onF o (1+(kz:Int)):Nat):Int),.int .i64 ((onF o (1+(kz:Int))+(onB o (1+(kz:Int))).length:Nat):Int)] 49)=w32 at M hIa N_29 T_29 ⊢
        generalize w31.heap.size=B32 at M ⊢
        replace M:Mm w0 ((B32,[.int .i64 ((onF o (1+(kz:Int)):Nat):Int),.int .i64 ((onF o (1+(kz:Int))+(onB o (1+(kz:Int))).length:Nat):Int)])::(B30,[.int .i64 ((onF o (1+(kz:Int)):Nat):Int),.slice p29 ((onB o (1+(kz:Int)):List Int).length) c29])::(ba1++((obs p29)++([]:List (Nat × List Value))))) w32:=M
        have Mp:=M.perm (pull0 ([(B32,[.int .i64 ((onF o (1+(kz:Int)):Nat):Int),.int .i64 ((onF o (1+(kz:Int))+(onB o (1+(kz:Int))).length:Nat):Int)]),(B30,[.int .i64 ((onF o (1+(kz:Int)):Nat):Int),.slice p29 ((onB o (1+(kz:Int)):List Int).length) c29])]:List (Nat × List Value)) ba1 ((obs p29)++([]:List (Nat × List Value))))
        have key:=hK.ack w0 _ _ (onx o (1+(kz:Int))) ba1 _ 0 ([(((onF o (1+(kz:Int)):Nat):Int),((onF o (1+(kz:Int))+(onB o (1+(kz:Int))).length:Nat):Int))]) (some ⟨B32,0,none⟩) 1 (onx_w hA.w (1+(kz:Int))) (by rw [(onx_he o (1+(kz:Int))).2.1,hA.b]; omega) (by unfold i64; decide) (show 1<1000000 by decide) (fun r_ hr_=>by obtain rfl:=xm1 hr_; unfold i64; simp only; omega) (RgW.ofW (M.newWt mS [(((onF o (1+(kz:Int)):Nat):Int),((onF o (1+(kz:Int))+(onB o (1+(kz:Int))).length:Nat):Int))] rfl (xnR 1))) (fun b_ hb_ _ h_=>by obtain rfl:=xm1 h_; exact Mp.beside mS hb_) hIa Mp
        refine xcL key ?_; clear key; rintro e w33 ⟨ba2,rfl,hI_,M',o1⟩; replace N_29:=NewF.offB N_29 o1 (Mp.awayS (fun p_ hp_=>by simp [hp_])); replace T_29:=Wrt.offB T_29 o1 (Mp.awayS (fun p_ hp_=>by simp [hp_])); clear o1 Mp M hIa; have hIa:=hI_; clear hI_
        have M:Mm w0 ((B32,[.int .i64 ((onF o (1+(kz:Int)):Nat):Int),.int .i64 ((onF o (1+(kz:Int))+(onB o (1+(kz:Int))).length:Nat):Int)])::(B30,[.int .i64 ((onF o (1+(kz:Int)):Nat):Int),.slice p29 ((onB o (1+(kz:Int)):List Int).length) c29])::(ba2++((obs p29)++([]:List (Nat × List Value))))) w33:=M'.perm (pull0 ([(B32,[.int .i64 ((onF o (1+(kz:Int)):Nat):Int),.int .i64 ((onF o (1+(kz:Int))+(onB o (1+(kz:Int))).length:Nat):Int)]),(B30,[.int .i64 ((onF o (1+(kz:Int)):Nat):Int),.slice p29 ((onB o (1+(kz:Int)):List Int).length) c29])]:List (Nat × List Value)) ba2 ((obs p29)++([]:List (Nat × List Value)))).symm
        clear M'; refine xeL ?_; refine xT ?_
        replace M:Mm w0 ((B32,[.int .i64 ((onF o (1+(kz:Int)):Nat):Int),.int .i64 ((onF o (1+(kz:Int))+(onB o (1+(kz:Int))).length:Nat):Int)])::(B30,[.int .i64 ((onF o (1+(kz:Int)):Nat):Int),.slice p29 ((onB o (1+(kz:Int)):List Int).length) c29])::(ba2++([]:List (Nat × List Value)))) w33:=M.sub _ (List.cons_sublist_cons.2 (List.cons_sublist_cons.2 ((List.Sublist.refl _).append (List.sublist_append_right _ _))))
        clear N_29 T_29; go_upto_region 20 with fail; refine wp_region_list ?_; refine xpL (.int .i64 (q:Int)) ?_; refine xaL (.int .i64 ((q+1:Nat):Int)) (addI .i64 _ _ _ _ _ _ _ rfl rfl rfl (by rw [xw6]; omega) _) ?_; refine xpL (.int .i64 ((q+1:Nat):Int)) ?_; refine xT ?_
        have HS:=show Hid _ from (show I w33 (.pointer (some ⟨Ra,0,none⟩)) (oac (onx o (1+(kz:Int))) 0 [(((onF o (1+(kz:Int)):Nat):Int),((onF o (1+(kz:Int))+(onB o (1+(kz:Int))).length:Nat):Int))]) ba2∧Mm w0 (ba2++([]:List (Nat × List Value))) w33 from ⟨hIa,M.tail.tail⟩); have hA3:=show Hid _ from hA2; clear M hIa hA2; go_wp2
        go_roundw
        case rel=>exact ⟨q+1,_,_,by omega,by go_num,by go_num,hA3.out,HS.out⟩
        case measure=>simp [intOf]; omega
    · go_upto_region 15 with fail
      refine wp_region_list ?_; refine xpL (.pointer (some ⟨Ra,0,none⟩)) ?_; refine xpL (.int .i64 (1+(kz:Int))) ?_; have Mp:=M.perm (pull0 ([]:List (Nat × List Value)) ga ([]:List (Nat × List Value))); have key:=hK.nxt w0 _ _ o ga _ (1+(kz:Int)) hA.w (by rw [hA.b]; omega) (by unfold i64; omega) hIa Mp
      rw [decide_eq_false hN] at key
      refine xcL key ?_; clear key; rintro e w24 ⟨p24,c24,ba1,rfl,N_24,T_24,hI_,M',o1⟩; clear o1 Mp M hIa; have hIa:=hI_; clear hI_
      have M:Mm w0 ((ba1++((obs p24)++([]:List (Nat × List Value))))) w24:=M'.perm (pullY ([]:List (Nat × List Value)) ba1 (obs p24) ([]:List (Nat × List Value)))
      clear M'; refine xeL ?_
      obtain ⟨bs24,N_24⟩:∃ b_,NewF w24 b_ (onB o (1+(kz:Int)):List Int).length (bl (onB o (1+(kz:Int)))) (.slice p24 (onB o (1+(kz:Int)):List Int).length c24):=⟨_,N_24⟩
      refine xpL (.tuple #[.agg #[.int .i64 ((onF o (1+(kz:Int)):Nat):Int),.slice p24 ((onB o (1+(kz:Int)):List Int).length) c24],.bool false]) ?_; refine xpL (.agg #[.int .i64 ((onF o (1+(kz:Int)):Nat):Int),.slice p24 ((onB o (1+(kz:Int)):List Int).length) c24]) ?_; refine xpL (.bool false) ?_
      have hlb:=(Below.refl w24.heap.size w24).alloc (xnR _) (.cells #[.int .i64 0,.slice none 0 0] 35); refine actL (w':=w24.alloc (.cells #[.int .i64 0,.slice none 0 0] 35)) (.pointer (some ⟨w24.heap.size,0,none⟩)) rfl (by kernel_rfl) ?_; simp only [aP,lI,l0,lS]; replace hIa:=hK.bel hIa hlb; replace N_24:=NewF.below N_24 hlb; replace T_24:=Wrt.below T_24 hlb
      replace M:=M.box #[.int .i64 0,.slice none 0 0] 35 w24.heap.size rfl; clear hlb; generalize w24.alloc (.cells #[.int .i64 0,.slice none 0 0] 35)=w25 at M hIa N_24 T_24 ⊢; generalize w24.heap.size=B25 at M ⊢
      replace M:Mm w0 ((B25,[.int .i64 0,.slice none 0 0])::(ba1++((obs p24)++([]:List (Nat × List Value))))) w25:=M
      refine skipOpL rfl (storeP [.int .i64 ((onF o (1+(kz:Int)):Nat):Int),.slice p24 ((onB o (1+(kz:Int)):List Int).length) c24] B25 0 35 _ _ rfl rfl rfl (M.thereP mS 0 2 (Nat.le_of_ble_eq_true rfl)) (by kernel_rfl) (List.all_eq_true.1 (rfl:([.int .i64 ((onF o (1+(kz:Int)):Nat):Int),.slice p24 ((onB o (1+(kz:Int)):List Int).length) c24]:List Value).all (fun u=>u.oneCell')=true))) ?_
      simp only [Act.put]; replace M:=M.setPart [.int .i64 ((onF o (1+(kz:Int)):Nat):Int),.slice p24 ((onB o (1+(kz:Int)):List Int).length) c24] 0 (Nat.le_of_ble_eq_true rfl)
      replace hIa:=hK.off _ _ _ _ _ _ hIa ((Off.refl [B25] _).setAll (b:=B25) mS 0 [.int .i64 ((onF o (1+(kz:Int)):Nat):Int),.slice p24 ((onB o (1+(kz:Int)):List Int).length) c24]) (fun b_ hb_=>by obtain rfl:=xm1 hb_; exact M.awayC (fun p_ hp_=>by simp [hp_]))
      replace N_24:=NewF.offB N_24 ((Off.refl [B25] _).setAll (b:=B25) mS 0 [.int .i64 ((onF o (1+(kz:Int)):Nat):Int),.slice p24 ((onB o (1+(kz:Int)):List Int).length) c24]) (fun b_ hb_=>by obtain rfl:=xm1 hb_; exact M.awayB (fun p_ hp_=>by simp [hp_]))
      replace T_24:=Wrt.offB T_24 ((Off.refl [B25] _).setAll (b:=B25) mS 0 [.int .i64 ((onF o (1+(kz:Int)):Nat):Int),.slice p24 ((onB o (1+(kz:Int)):List Int).length) c24]) (fun b_ hb_=>by obtain rfl:=xm1 hb_; exact M.awayB (fun p_ hp_=>by simp [hp_]))
      generalize w25.setCells B25 0 [.int .i64 ((onF o (1+(kz:Int)):Nat):Int),.slice p24 ((onB o (1+(kz:Int)):List Int).length) c24]=w26 at M hIa N_24 T_24 ⊢
      replace M:Mm w0 ((B25,[.int .i64 ((onF o (1+(kz:Int)):Nat):Int),.slice p24 ((onB o (1+(kz:Int)):List Int).length) c24])::(ba1++((obs p24)++([]:List (Nat × List Value))))) w26:=M
      refine xpL (.bool false) ?_; refine xT ?_; go_upto_region 16 with fail; refine wp_region_list ?_; refine xpL (.bool false) ?_; refine xpL (.bool true) ?_; refine xT ?_; have hdn:=hA.done hBl (show 1≤(1+(kz:Int)) by omega) hN
      replace M:Mm w0 ((B25,[.int .i64 ((onF o (1+(kz:Int)):Nat):Int),.slice p24 ((onB o (1+(kz:Int)):List Int).length) c24])::(ba1++([]:List (Nat × List Value)))) w26:=M.sub _ (List.cons_sublist_cons.2 ((List.Sublist.refl _).append (List.sublist_append_right _ _)))
      clear N_24 T_24; go_upto_region 21 with fail; refine wp_region_list ?_; refine xpL (.pointer (some ⟨Ra,0,none⟩)) ?_; have Mp:=M.perm (pull0 ([(B25,[.int .i64 ((onF o (1+(kz:Int)):Nat):Int),.slice p24 ((onB o (1+(kz:Int)):List Int).length) c24])]:List (Nat × List Value)) ba1 ([]:List (Nat × List Value)))
      have key:=hK.idl w0 _ _ (onx o (1+(kz:Int))) ba1 _ (onx_w hA.w (1+(kz:Int))) (by rw [(onx_he o (1+(kz:Int))).2.1,hA.b]; omega) hIa Mp; clear Mp
      rw [hdn.2] at key
      refine xcL key ?_; clear key; rintro e w27 ⟨rfl,l_⟩; replace M:=M.call l_; replace hIa:=hK.bel hIa l_; clear l_; refine xeL ?_; refine xpL (.bool true) ?_; refine xpL (.pointer (some ⟨Ra,0,none⟩)) ?_
      have Mp:=M.perm (pull0 ([(B25,[.int .i64 ((onF o (1+(kz:Int)):Nat):Int),.slice p24 ((onB o (1+(kz:Int)):List Int).length) c24])]:List (Nat × List Value)) ba1 ([]:List (Nat × List Value))); have key:=hK.bas w0 _ _ (onx o (1+(kz:Int))) ba1 _ (onx_w hA.w (1+(kz:Int))) (by rw [(onx_he o (1+(kz:Int))).2.1,hA.b]; omega) hIa Mp; clear Mp
      rw [hdn.1] at key
      refine xcL key ?_; clear key; rintro e w28 ⟨rfl,l_⟩; replace M:=M.call l_; replace hIa:=hK.bel hIa l_; clear l_; refine xeL ?_; refine xpL (.slice sb B.length capb) ?_; refine xaL (.int .i64 ((B.length:Nat):Int)) (lenS _ 28 5 sb B.length capb rfl Try.underlying28 rfl _) ?_; refine xaL (.bool true) (eqlI .i64 _ _ _ _ _ _ rfl rfl rfl true (beq_self_eq_true _) _) ?_
      refine xpL (.bool true) ?_; refine xpL (.bool true) ?_; refine xT ?_; have hbel:=M.below; clear M hIa; go_wp2; go_ret
      exact ⟨rfl,hbel⟩
section
section
variable {P:Program} {ops:Array Oper} {Q:Exit→Act→World→Prop} {md:Region.Mode} {S:World→Prop}
def Flt (P:Program) (ops:Array Oper) (Q:Exit→Act→World→Prop) (md:Region.Mode) (S:World→Prop) (z:Nat) (t:Tmp) (n w0 fuel:Nat):Nat→Array Bool→Act→Prop
 | 0,L,a=>Region.ready md ops L=[z]∧∀ B w,S w→Fb n w0 B w→wpAnyH P md ops Q S fuel (L.setIfInBounds z true) (a.put (some t) (.pointer (some ⟨B,0,none⟩))) w
 | k+1,L,a=>(∃ (c:Nat) (r:Tmp) (x:Oper) (f:FuncId) (g:Array Value) (V:Value→Prop),Region.ready md ops L=[c,z]∧Region.ready md ops (L.setIfInBounds z true)=[c]∧ops[c]?=some x∧x.guard=none∧x.dst=some r∧z≠c∧t≠r∧(∀ cs b,x.op≠.select cs b)∧t∉x.looksAt ops∧(∀ w,(execOp a.eval x).run P w=.ok (.enter f g) w) ∧
    (∀ w,S w→Calls P f g w fun e w'=>∃ v,e=.returned v∧V v∧Below w.heap.size w w')∧∀ v,V v→Flt P ops Q md S z t n w0 fuel k (L.setIfInBounds c true) (a.put (some r) v)) ∨
   ∃ (q:Nat) (r:Tmp) (x:Oper) (v:Value),ops[q]?=some x∧x.guard=none∧x.dst=some r∧z≠q∧t≠r∧(∀ cs b,x.op≠.select cs b)∧t∉x.looksAt ops∧(∀ w,(execOp a.eval x).run P w=.ok (.value v) w)∧Region.noSelect ops=true∧(Region.free md ops L q=true∧(Region.ready md ops L).contains q=true)∧(Region.free md ops (L.setIfInBounds z true) q=true∧(Region.ready md ops (L.setIfInBounds z true)).contains q=true) ∧
    (∀ c a w,Q (.panic c) (a.put (some r) v) w→Q (.panic c) a w)∧Flt P ops Q md S z t n w0 fuel k (L.setIfInBounds q true) (a.put (some r) v)
theorem Flt.last {z:Nat} {t:Tmp} {n w0 fuel:Nat} {L:Array Bool} {a:Act} (hr:Region.ready md ops L=[z]) (h:∀ B w,S w→Fb n w0 B w→wpAnyH P md ops Q S fuel (L.setIfInBounds z true) (a.put (some t) (.pointer (some ⟨B,0,none⟩))) w):Flt P ops Q md S z t n w0 fuel 0 L a:=⟨hr,h⟩
theorem Flt.call {z:Nat} {t:Tmp} {n w0 fuel k:Nat} {L:Array Bool} {a:Act} (c:Nat) (r:Tmp) {x:Oper} {f:FuncId} {g:Array Value} (V:Value→Prop) (hr:Region.ready md ops L=[c,z]) (hr':Region.ready md ops (L.setIfInBounds z true)=[c]) (hx:ops[c]?=some x) (hg:x.guard=none) (hd:x.dst=some r)
 (hz:z≠c) (ht:t≠r) (hs:∀ cs b,x.op≠.select cs b) (hl:t∉x.looksAt ops) (he:∀ w,(execOp a.eval x).run P w=.ok (.enter f g) w)
 (hc:∀ w,S w→Calls P f g w fun e w'=>∃ v,e=.returned v∧V v∧Below w.heap.size w w') (h:∀ v,V v→Flt P ops Q md S z t n w0 fuel k (L.setIfInBounds c true) (a.put (some r) v)):Flt P ops Q md S z t n w0 fuel (k+1) L a :=
 .inl ⟨c,r,x,f,g,V,hr,hr',hx,hg,hd,hz,ht,hs,hl,he,hc,h⟩
theorem Flt.read {z:Nat} {t:Tmp} {n w0 fuel k:Nat} {L:Array Bool} {a:Act} (q:Nat) (r:Tmp) {x:Oper} (v:Value) (hx:ops[q]?=some x) (hg:x.guard=none) (hd:x.dst=some r) (hz:z≠q) (ht:t≠r) (hs:∀ cs b,x.op≠.select cs b) (hl:t∉x.looksAt ops) (he:∀ w,(execOp a.eval x).run P w=.ok (.value v) w)
 (hn:Region.noSelect ops=true) (h1:Region.free md ops L q=true) (h2:(Region.ready md ops L).contains q=true) (h3:Region.free md ops (L.setIfInBounds z true) q=true) (h4:(Region.ready md ops (L.setIfInBounds z true)).contains q=true)
 (hQ:∀ c a w,Q (.panic c) (a.put (some r) v) w→Q (.panic c) a w) (h:Flt P ops Q md S z t n w0 fuel k (L.setIfInBounds q true) (a.put (some r) v)):Flt P ops Q md S z t n w0 fuel (k+1) L a :=
 .inr ⟨q,r,x,v,hx,hg,hd,hz,ht,hs,hl,he,hn,⟨h1,h2⟩,⟨h3,h4⟩,hQ,h⟩
theorem Flt.made {z:Nat} {t:Tmp} {n w0 fuel k:Nat} {L:Array Bool} {a:Act} (h:Flt P ops Q md S z t n w0 fuel k L a) (hSc:∀ w w',S w→Below w.heap.size w w'→S w') :
 ∀ B w,S w→Fb n w0 B w→wpAnyH P md ops Q S (fuel+k) (L.setIfInBounds z true) (a.put (some t) (.pointer (some ⟨B,0,none⟩))) w:=by
 induction k generalizing L a with
 | zero=>exact fun B w hS hB=>h.2 B w hS hB
 | succ k ih =>
   rcases h with ⟨c,r,x,f,g,V,_,hr',hx,hg,hd,hz,ht,hs,hl,he,hc,h'⟩ | ⟨q,r,x,v,hx,hg,hd,hz,ht,hs,hl,he,hn,_,⟨h3,h4⟩,hQ,h'⟩
   · intro B w hS hB
     refine wpAnyH_all hr' (by simp) fun j hj=>?_
     obtain rfl:=xm1 hj
     refine callOp hx hg (by rw [eval_one (ops:=ops) t _ hs hl]; exact he w) (hc w hS) fun e w' hR=>?_
     obtain ⟨v,rfl,hv,l⟩:=hR
     have hs1:=hSc _ _ hS l
     refine ⟨v,rfl,hs1,?_⟩
     rw [hd]
     refine wpAnyH_cast (ih (h' v hv) B w' hs1 (hB.call l)) ?_ ?_
     · rw [Array.setIfInBounds_comm _ _ hz]
     · rw [put_comm' _ _ _ ht]
   · intro B w hS hB
     refine readH (i:=q) (some r) hd v hx (by unfold Region.wanted; rw [hg]) (fun w' _=>by rw [eval_one (ops:=ops) t _ hs hl]; exact he w') hn h3 h4 hQ hS ?_
     refine wpAnyH_cast (ih h' B w hS hB) ?_ ?_
     · rw [Array.setIfInBounds_comm _ _ hz]
     · rw [put_comm' _ _ _ ht]
theorem Flt.go {z:Nat} {t:Tmp} {n w0 fuel k:Nat} {L:Array Bool} {a:Act} (h:Flt P ops Q md S z t n w0 fuel k L a) {xz:Oper} (cs:Array Value) (ty:TypeId) (iz:ops[z]?=some xz) (gz:xz.guard=none) (dz:xz.dst=some t)
 (ez:∀ (b:Act) (w:World),(execOp b.eval xz).run P w=.ok (.value (.pointer (some ⟨w.heap.size,0,none⟩))) (w.alloc (.cells cs ty)))
 (hn:∀ w:World,(w.alloc (.cells cs ty)).there w.heap.size 0 n) (hS0:∀ w,S w→w0≤w.heap.size) (hSc:∀ w w',S w→Below w.heap.size w w'→S w') :
 ∀ w,S w→wpAnyH P md ops Q S (fuel+k+1) L a w:=by
 have hSa:∀ w:World,S w→S (w.alloc (.cells cs ty)):=fun w h=>hSc w _ h ((Below.refl w.heap.size w).alloc (xnR _) _)
 have hNew:∀ w:World,S w→Fb n w0 w.heap.size (w.alloc (.cells cs ty)):=fun w h=>⟨hS0 w h,by simp,hn w⟩
 induction k generalizing L a with
 | zero =>
   intro w hS; refine wpAnyH_all h.1 (by simp) fun j hj=>?_
   obtain rfl:=xm1 hj
   refine allocOp iz gz (ez _ w) ?_
   rw [dz]
   exact ⟨hSa _ hS,h.2 _ _ (hSa _ hS) (hNew _ hS)⟩
 | succ k ih =>
   rcases h with ⟨c,r,x,f,g,V,hr,hr',hx,hg,hd,hz,ht,hs,hl,he,hc,h'⟩ | ⟨q,r,x,v,hx,hg,hd,hz,ht,hs,hl,he,hn',⟨h1,h2⟩,_,hQ,h'⟩
   · intro w hS
     refine wpAnyH_all hr (by simp) fun j hj=>?_
     simp only [List.mem_cons,List.not_mem_nil,or_false] at hj
     rcases hj with rfl | rfl
     · refine callOp hx hg (he w) (hc w hS) fun e w' hR=>?_
       obtain ⟨v,rfl,hv,l⟩:=hR
       have hs1:=hSc _ _ hS l
       refine ⟨v,rfl,hs1,?_⟩
       rw [hd]
       exact ih (h' v hv) w' hs1
     · refine allocOp iz gz (ez _ w) ?_
       rw [dz]
       exact ⟨hSa _ hS,Flt.made (Flt.call c r V hr hr' hx hg hd hz ht hs hl he hc h') hSc _ _ (hSa _ hS) (hNew _ hS)⟩
   · intro w hS
     exact readH (i:=q) (some r) hd v hx (by unfold Region.wanted; rw [hg]) (fun w' _=>he w') hn' h1 h2 hQ hS (ih h' w hS)
end
end
theorem Mm.land {w0 w:World} {l:List (Nat × List Value)} (M:Mm w0 l w) {n m B:Nat} (b:Fb n m B w) (hm:∀ p∈l,p.1<m) (h0:w0.heap.size≤m) (cs:List Value) (hc:cs.length=n):Mm w0 ((B,cs)::l) (w.setCells B 0 cs):=by
 have hlo:=b.lo
 have hM:Mm w0 ((B,(List.range n).map fun j=>(w.cell? ⟨B,j,none⟩).getD undef)::l) w:=by
  refine ⟨fun p hp=>?_,List.pairwise_cons.2 ⟨fun p hp e=>?_,M.apart⟩,M.below⟩
  · rcases xc1 hp with rfl | hp
    · refine ⟨fun j hj=>?_,by omega,b.hi⟩
      rw [List.length_map,List.length_range] at hj
      have h1:=b.th j hj
      rw [Nat.zero_add] at h1
      refine ⟨?_,h1.2⟩
      rw [List.getElem?_map,List.getElem?_range hj]
      obtain ⟨v,hv⟩:=Option.isSome_iff_exists.1 h1.1
      show w.cell? ⟨B,j,none⟩=some ((w.cell? ⟨B,j,none⟩).getD undef)
      rw [hv]
      rfl
    · exact M.rows p hp
  · have:=hm p hp
    have e':B=p.1:=e
    omega
 exact hM.setAll cs (by rw [List.length_map,List.length_range]; exact hc)
end Go.Proofs.Ytpdpfdelglgfnaa
