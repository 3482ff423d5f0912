/- Texts of LawOutboxLimits Sl Ln Nk Ne Nf, joined. -/
import Derived.Test.YtpdpfdelglgfnaaP2OutboxLimits
import Derived.Deep.Upon
set_option maxRecDepth 20000
set_option maxHeartbeats 64000000
namespace Go.Proofs.Ytpdpfdelglgfnaa
open Go.RowKit
def osl (B:List Int) (L:Int) (S:Nat):Obx:=⟨1000,L,S,B,fun _=>false,fun _=>false⟩
theorem osl_A (B:List Int) (L:Int) (S:Nat):onA (osl B L S)=B.length:=fstp_all fun _ _=>rfl
theorem osl_w {B:List Int} (hB:Byts B) (hl:B.length≤1000) {L:Int} (h0:0≤L) (h1:L≤9223372036854775807) {S:Nat} (hS:S≤B.length):ObxW (osl B L S):=by
 refine ⟨show (1:Int)≤1000 by decide,show (1000:Int)≤1048576 by decide,h0,h1,hS,hB,fun _ h=>(by cases h),fun _ h=>(by cases h),fun _ h=>(by cases h),?_⟩
 show (B.length:Int)-obase (osl B L S)≤1000
 omega
theorem osl_owN (B:List Int) (hl:B.length≤1000):owN (osl [] 0 0) B.length=B.length:=by
 unfold owN
 have:obase (osl [] 0 0)=0:=rfl
 rw [this]
 show min B.length ((1000:Int)-((0:Nat)-(0:Nat))).toNat=_
 omega
theorem osl_wr (B:List Int) (hl:B.length≤1000):owr (osl [] 0 0) B=osl B 0 0:=by
 unfold owr
 rw [osl_owN B hl,List.take_length]
 rfl
theorem osl_al (B:List Int) (L x:Int) (S:Nat):oal (osl B L S) x=osl B (max L x) S:=rfl
theorem osl_N {B:List Int} (hl:B.length≤1000) (L:Int) (S:Nat):onN (osl B L S) 1048576=min B.length L.toNat-S:=by
 unfold onN
 rw [if_neg (by decide),osl_A,if_neg (show ¬ B.length<(osl B L S).b.length from Nat.lt_irrefl _)]
 show min (1048576:Int).toNat (min B.length L.toNat-S)=_
 omega
theorem osl_x {B:List Int} (hl:B.length≤1000) {L:Int} {S:Nat} (h:S≤min B.length L.toNat):onx (osl B L S) 1048576=osl B L (min B.length L.toNat):=by
 unfold onx
 rw [if_neg (by decide),osl_A,if_neg (show ¬ B.length<(osl B L S).b.length from Nat.lt_irrefl _)]
 have:S+min (1048576:Int).toNat (min B.length L.toNat-S)=min B.length L.toNat:=by omega
 show osl B L (S+min (1048576:Int).toNat (min B.length L.toNat-S))=_
 rw [this]
theorem osl_F {B:List Int} (hl:B.length≤1000) {L:Int} {S:Nat} (h:S<min B.length L.toNat):onF (osl B L S) 1048576=S:=by
 unfold onF
 rw [osl_N hl,if_neg (by omega),osl_A,if_neg (show ¬ B.length<(osl B L S).b.length from Nat.lt_irrefl _)]
 rfl
theorem osl_B {B:List Int} (hl:B.length≤1000) {L:Int} {S:Nat} (h:S<min B.length L.toNat):onB (osl B L S) 1048576=(B.drop S).take (min B.length L.toNat-S):=by
 unfold onB
 rw [osl_N hl,osl_F hl h]
 rfl
theorem osl_bl {B:List Int} {L:Int} {S:Nat} (hS:S=min B.length L.toNat):obl (osl B L S)=decide (S<B.length):=by
 unfold obl
 rw [osl_A]
 refine decide_eq_decide.2 ⟨fun h_=>h_.2.1,fun h_=>⟨Nat.lt_irrefl _,h_,?_⟩⟩
 show L≤S
 omega
theorem bl_takeK {b:List Int} {k j:Nat} (h:j<k):bl (b.take k) j=bl b j:=by
 unfold bl
 rw [List.getD_eq_getElem?_getD,List.getD_eq_getElem?_getD,List.getElem?_take_of_lt h]
theorem drop_txt (B:List Int) (S T:Nat) (hT:T≤B.length):txt ((B.drop S).take (T-S)).length (bl ((B.drop S).take (T-S)))=txt (T-S) (fun j=>bl B (S+j)):=by
 have hl:((B.drop S).take (T-S)).length=T-S:=by rw [List.length_take,List.length_drop]; omega
 rw [hl]
 refine txt_congr fun j hj=>?_
 unfold bl
 rw [List.getD_eq_getElem?_getD,List.getD_eq_getElem?_getD,List.getElem?_take_of_lt hj,List.getElem?_drop]
theorem take_byts {b:List Int} (h:Byts b) (n:Nat):Byts (b.take n):=fun x hx=>h x (List.mem_of_mem_take hx)
theorem blIn {L:List Int} {j:Nat} (h:j<L.length):bl L j∈L:=by
 unfold bl
 rw [List.getD_eq_getElem?_getD,List.getElem?_eq_getElem h]
 exact List.getElem_mem h
theorem law_OutboxLimits {I:OutI} (hK:OutOK I) (sb:Option Addr) (capb:Nat) (b:List Int) (maxb:b.length≤140737488351232) (leb:b.length≤capb) (nilb:sb=none→capb=0) (byb:Byts b) (sp:Option Addr) (cap:Nat) (l:List Int) (maxl:l.length≤140737488351232) (hl:∀ x∈l,i64 x) (w0:World) (srcb:Src w0 sb b.length (bl b)) (hsl0:SrcI w0 sp l.length (bl l)) :
 Calls Try.prog 6 #[.slice sb b.length capb,.slice sp l.length cap] w0 fun e w'=>e=.returned (.bool true)∧Below w0.heap.size w0 w':=by
 have M:=Mm.init w0
 go_enter Try.func6,Try.ntmps6
 go_upto_region 0 with fail; refine wp_region_list ?_; refine xpL (.bool false) ?_; refine xT ?_; go_upto_region 1 with fail; refine wp_region_list ?_; have key:=shown18_any hK w0; refine xcL key ?_; clear key; rintro e w1 ⟨rfl,l_⟩; replace M:=M.call l_; clear l_; refine xeL ?_; refine xpL (.bool true) ?_; refine xT ?_; go_upto_region 2 with fail; refine wp_region_list ?_
 have key:=hK.new w0 _ _ 1000 (by unfold i64; decide) M; refine xcL key ?_; clear key; rintro e w2 ⟨v_,ba0,rfl,hIa,M',l_⟩
 obtain ⟨Ra,rfl⟩:=hK.ptr _ _ _ _ hIa
 clear M; have M:=M'.perm (pull0 ([]:List (Nat × List Value)) ba0 ([]:List (Nat × List Value))).symm; clear M'; clear l_
 replace M:Mm w0 ((ba0++([]:List (Nat × List Value)))) w2:=M
 refine xeL ?_; refine xpL (.pointer (some ⟨Ra,0,none⟩)) ?_; refine xT ?_; go_upto_region 3 with fail; refine wp_region_list ?_; refine xpL (.bool true) ?_; refine xpL (.bool false) ?_; refine xpL (.bool false) ?_; refine xpL (.pointer (some ⟨Ra,0,none⟩)) ?_; refine xpL (.bool false) ?_; refine xpL (.bool false) ?_; refine xT ?_
 by_cases hlong:1000<b.length
 · go_upto_region 5 with fail
   refine wp_region_list ?_; refine xpL (.slice sb b.length capb) ?_; refine xaL (.int .i64 ((b.length:Nat):Int)) (lenS _ 28 5 sb b.length capb rfl Try.underlying28 rfl _) ?_; refine xaL (.bool true) (gtrI .i64 _ _ _ _ _ _ rfl rfl rfl true (decide_eq_true (by omega)) _) ?_; refine xT ?_
   obtain ⟨B,hBe⟩:∃ B,B=b.take 1000:=⟨_,rfl⟩
   have hBl0:B.length=1000:=by rw [hBe,List.length_take]; omega
   have hBl:B.length≤1000:=by omega
   have hB:Byts B:=by rw [hBe]; exact take_byts byb _
   obtain ⟨spc,hcut,hsrc,hnil2⟩:=cut_hiN (P:=Try.prog) (t:=28) Try.underlying28 (fun w=>by kernel_rfl) sb b.length capb 1000 (by omega) leb nilb
   have srcB:Src w0 spc B.length (bl B):=fun j hj=>by
    have h_:=hsrc _ _ srcb j (by omega)
    rw [hBe,bl_takeK (show j<1000 by omega)]
    exact h_
   go_upto_region 6 with fail; refine wp_region_list ?_; refine xpL (.slice sb b.length capb) ?_; refine xaL (.slice spc 1000 capb) (cutHi 28 _ _ _ _ _ rfl rfl rfl (hcut _)) ?_; refine xpL (.slice spc 1000 capb) ?_; refine xT ?_
   rw [show (Value.slice spc 1000 capb)=.slice spc B.length capb by rw [hBl0]]
   clear hcut hsrc hBl0; go_upto_region 7 with fail; refine wp_region_list ?_; refine xpL (.pointer (some ⟨Ra,0,none⟩)) ?_; refine xpL (.slice spc B.length capb) ?_; have Mp:=M.perm (pull0 ([]:List (Nat × List Value)) ba0 ([]:List (Nat × List Value)))
   have key:=hK.wrt w0 _ _ (osl [] 0 0) ba0 _ spc capb B (osl_w (fun _ h_=>by cases h_) (by decide) (by decide) (by decide) (by decide)) (by decide) (by omega) (by omega) hnil2 hB hIa Mp ((SrcA.of_old srcB Mp.los).off (Off.of_below Mp.below))
   rw [osl_owN B hBl] at key
   rw [osl_wr B hBl] at key
   refine xcL key ?_; clear key; rintro e w3 ⟨ba1,rfl,hI_,M',o1⟩; clear o1 Mp M hIa; have hIa:=hI_; clear hI_
   have M:Mm w0 ((ba1++([]:List (Nat × List Value)))) w3:=M'.perm (pull0 ([]:List (Nat × List Value)) ba1 ([]:List (Nat × List Value))).symm
   clear M'; refine xeL ?_; refine xT ?_; go_upto_region 8 with fail; refine wp_region_list ?_; refine xpL (.int .i64 0) ?_; refine xT ?_; go_upto_region 9 with fail; refine wp_region_list ?_; refine xpL (.int .i64 0) ?_; refine xT ?_; go_upto_region 10 with fail; refine wp_region_list ?_; refine xpL (.int .i64 0) ?_; refine xT ?_
   have HI:=show Hid _ from (show I w3 (.pointer (some ⟨Ra,0,none⟩)) (osl B 0 0) ba1∧Mm w0 (ba1++([]:List (Nat × List Value))) w3 from ⟨hIa,M⟩); clear M hIa; go_wp2
   go_loopw [7,8,9] (fun L_ S_ i w'=>∃ (q S:Nat) (L:Int) (ga:List (Nat × List Value)),q≤40∧q≤l.length∧L_=.int .i64 L∧S_=.int .i64 (S:Int)∧i=.int .i64 (q:Int)∧0≤L∧L≤9223372036854775807∧S=min B.length L.toNat∧I w' (.pointer (some ⟨Ra,0,none⟩)) (osl B L S) ga∧Mm w0 (ga++([]:List (Nat × List Value))) w') (fun _ _ i _=>l.length-(intOf i).toNat)
   case atStart=>exact ⟨0,0,0,_,by omega,by omega,rfl,rfl,rfl,by decide,by decide,by omega,HI.out⟩
   case round =>
    clear HI
    obtain ⟨q,S,L,ga,hq,hq2,rfl,rfl,rfl,hL0,hL1,hS,hIa,M⟩:=hrel
    go_upto_region 11 with fail; refine wp_region_list ?_; refine xpL (.int .i64 (q:Int)) ?_; refine xpL (.slice sp l.length cap) ?_; refine xaL (.int .i64 ((l.length:Nat):Int)) (lenS _ 47 3 sp l.length cap rfl Try.underlying47 rfl _) ?_
    obtain ⟨b1,hb1⟩:∃ y_,y_=(decide ((q:Int)<((l.length:Nat):Int))):=⟨_,rfl⟩
    refine xaL (.bool b1) (lssI .i64 _ _ _ _ _ _ rfl rfl rfl b1 hb1.symm _) ?_; refine xpL (.bool b1) ?_
    refine mayL (b1) (.int .i64 (q:Int)) ((bif b1 then (.int .i64 (q:Int)) else undef)) (by cases b1 <;> rfl) (by cases b1 <;> rfl) (fun hc=>by cases b1 <;> first | (cases hc; done) | kernel_rfl) ?_
    simp only [aP,lI,l0,lS]
    obtain ⟨b2,hb2⟩:∃ y_,y_=(decide ((q:Int)<40)):=⟨_,rfl⟩
    refine mayL (b1) (.bool b2) ((bif b1 then (.bool b2) else undef)) (by cases b1 <;> rfl) (by cases b1 <;> rfl) (fun hc=>by cases b1 <;> first | (cases hc; done) | exact (lssI .i64 _ _ _ _ _ _ rfl rfl rfl b2 hb2.symm _)) ?_
    simp only [aP,lI,l0,lS]
    obtain ⟨b3,hb3⟩:∃ y_,y_=(b1&&b2):=⟨_,rfl⟩
    refine xaL (.bool b3) (by subst hb3; cases b1 <;> rfl) ?_; refine xT ?_
    cases b3 with
    | true =>
      have hlt_l:q<l.length∧q<40:=by
       simp only [hb1,hb2] at hb3
       simp at hb3
       omega
      try clear hb1
      try clear hb2
      try clear hb3
      obtain ⟨hlt_l,hlt2⟩:=hlt_l
      obtain ⟨adl,hadl,_⟩:=hsl0 q hlt_l
      subst hadl; have hx:=hl _ (blIn hlt_l)
      unfold i64 at hx
      obtain ⟨K,hKe⟩:∃ K,K=max L (bl l q):=⟨_,rfl⟩
      obtain ⟨T,hTe⟩:∃ T,T=min B.length K.toNat:=⟨_,rfl⟩
      go_upto_region 13 with fail; refine wp_region_list ?_; refine xpL (.pointer (some ⟨Ra,0,none⟩)) ?_; refine xpL (.slice (some adl) l.length cap) ?_; refine xpL (.int .i64 (q:Int)) ?_; refine xaL (.pointer (some (adl.add q))) (idxSl 47 3 l.length cap .i64 adl q _ _ Try.underlying47 (fun _=>by kernel_rfl) hlt_l rfl rfl rfl _) ?_
      refine xaL (.int .i64 (bl l q)) (load1 3 _ (adl.add q) _ rfl rfl (fun _=>by kernel_rfl) ((hsl0.below M.below (xnR _)).at q hlt_l)) ?_; have Mp:=M.perm (pull0 ([]:List (Nat × List Value)) ga ([]:List (Nat × List Value))); have key:=hK.alw w0 _ _ (osl B L S) ga _ (bl l q) (osl_w hB hBl hL0 hL1 (by omega)) (show B.length<1000000 by omega) (hl _ (blIn hlt_l)) hIa Mp
      rw [osl_al B L (bl l q) S] at key
      rw [← hKe] at key
      refine xcL key ?_; clear key; rintro e w4 ⟨ba1,rfl,hI_,M',o1⟩; clear o1 Mp M hIa; have hIa:=hI_; clear hI_
      have M:Mm w0 ((ba1++([]:List (Nat × List Value)))) w4:=M'.perm (pull0 ([]:List (Nat × List Value)) ba1 ([]:List (Nat × List Value))).symm
      clear M'; refine xeL ?_; refine xT ?_; go_upto_region 14 with fail; refine wp_region_list ?_; refine xpL (.int .i64 L) ?_; refine xpL (.slice (some adl) l.length cap) ?_; refine xpL (.int .i64 (q:Int)) ?_; refine xaL (.pointer (some (adl.add q))) (idxSl 47 3 l.length cap .i64 adl q _ _ Try.underlying47 (fun _=>by kernel_rfl) hlt_l rfl rfl rfl _) ?_
      refine xaL (.int .i64 (bl l q)) (load1 3 _ (adl.add q) _ rfl rfl (fun _=>by kernel_rfl) ((hsl0.below M.below (xnR _)).at q hlt_l)) ?_; refine xaL (.int .i64 K) (maxI .i64 .i64 _ _ _ _ _ _ _ rfl rfl rfl (by split <;> omega) _) ?_; refine xpL (.int .i64 K) ?_; refine xT ?_
      by_cases hST:S<T
      · go_upto_region 15 with fail
        refine wp_region_list ?_; refine xpL (.pointer (some ⟨Ra,0,none⟩)) ?_; have Mp:=M.perm (pull0 ([]:List (Nat × List Value)) ba1 ([]:List (Nat × List Value))); have key:=hK.nxt w0 _ _ (osl B K S) ba1 _ 1048576 (osl_w hB hBl (by omega) (by omega) (by omega)) (show B.length<1000000 by omega) (by unfold i64; decide) hIa Mp
        rw [osl_F hBl (show S<min B.length K.toNat by omega)] at key
        rw [osl_B hBl (show S<min B.length K.toNat by omega)] at key
        rw [osl_N hBl K S] at key
        rw [osl_x hBl (show S≤min B.length K.toNat by omega)] at key
        rw [← hTe] at key
        rw [decide_eq_true (show 0<T-S by omega)] at key
        refine xcL key ?_; clear key; rintro e w5 ⟨p5,c5,ba2,rfl,N_5,T_5,hI_,M',o1⟩; clear o1 Mp M hIa; have hIa:=hI_; clear hI_
        have M:Mm w0 ((ba2++((obs p5)++([]:List (Nat × List Value))))) w5:=M'.perm (pullY ([]:List (Nat × List Value)) ba2 (obs p5) ([]:List (Nat × List Value)))
        clear M'; refine xeL ?_
        obtain ⟨bs5,N_5⟩:∃ b_,NewF w5 b_ ((B.drop S).take (T-S):List Int).length (bl ((B.drop S).take (T-S))) (.slice p5 ((B.drop S).take (T-S):List Int).length c5):=⟨_,N_5⟩
        refine xpL (.tuple #[.agg #[.int .i64 ((S:Nat):Int),.slice p5 (((B.drop S).take (T-S):List Int).length) c5],.bool true]) ?_; refine xpL (.agg #[.int .i64 ((S:Nat):Int),.slice p5 (((B.drop S).take (T-S):List Int).length) c5]) ?_; refine xpL (.bool true) ?_; have hlb:=(Below.refl w5.heap.size w5).alloc (xnR _) (.cells #[.int .i64 0,.slice none 0 0] 35)
        refine actL (w':=w5.alloc (.cells #[.int .i64 0,.slice none 0 0] 35)) (.pointer (some ⟨w5.heap.size,0,none⟩)) rfl (by kernel_rfl) ?_; simp only [aP,lI,l0,lS]; replace hIa:=hK.bel hIa hlb; replace N_5:=NewF.below N_5 hlb; replace T_5:=Wrt.below T_5 hlb; replace M:=M.box #[.int .i64 0,.slice none 0 0] 35 w5.heap.size rfl; clear hlb
        generalize w5.alloc (.cells #[.int .i64 0,.slice none 0 0] 35)=w6 at M hIa N_5 T_5 ⊢; generalize w5.heap.size=B6 at M ⊢
        replace M:Mm w0 ((B6,[.int .i64 0,.slice none 0 0])::(ba2++((obs p5)++([]:List (Nat × List Value))))) w6:=M
        refine skipOpL rfl (storeP [.int .i64 ((S:Nat):Int),.slice p5 (((B.drop S).take (T-S):List Int).length) c5] B6 0 35 _ _ rfl rfl rfl (M.thereP mS 0 2 (Nat.le_of_ble_eq_true rfl)) (by kernel_rfl) (List.all_eq_true.1 (rfl:([.int .i64 ((S:Nat):Int),.slice p5 (((B.drop S).take (T-S):List Int).length) c5]:List Value).all (fun u=>u.oneCell')=true))) ?_
        simp only [Act.put]; replace M:=M.setPart [.int .i64 ((S:Nat):Int),.slice p5 (((B.drop S).take (T-S):List Int).length) c5] 0 (Nat.le_of_ble_eq_true rfl)
        replace hIa:=hK.off _ _ _ _ _ _ hIa ((Off.refl [B6] _).setAll (b:=B6) mS 0 [.int .i64 ((S:Nat):Int),.slice p5 (((B.drop S).take (T-S):List Int).length) c5]) (fun b_ hb_=>by obtain rfl:=xm1 hb_; exact M.awayC (fun p_ hp_=>by simp [hp_]))
        replace N_5:=NewF.offB N_5 ((Off.refl [B6] _).setAll (b:=B6) mS 0 [.int .i64 ((S:Nat):Int),.slice p5 (((B.drop S).take (T-S):List Int).length) c5]) (fun b_ hb_=>by obtain rfl:=xm1 hb_; exact M.awayB (fun p_ hp_=>by simp [hp_]))
        replace T_5:=Wrt.offB T_5 ((Off.refl [B6] _).setAll (b:=B6) mS 0 [.int .i64 ((S:Nat):Int),.slice p5 (((B.drop S).take (T-S):List Int).length) c5]) (fun b_ hb_=>by obtain rfl:=xm1 hb_; exact M.awayB (fun p_ hp_=>by simp [hp_])); generalize w6.setCells B6 0 [.int .i64 ((S:Nat):Int),.slice p5 (((B.drop S).take (T-S):List Int).length) c5]=w7 at M hIa N_5 T_5 ⊢
        replace M:Mm w0 ((B6,[.int .i64 ((S:Nat):Int),.slice p5 (((B.drop S).take (T-S):List Int).length) c5])::(ba2++((obs p5)++([]:List (Nat × List Value))))) w7:=M
        refine xpL (.bool true) ?_; refine xT ?_; go_upto_region 16 with fail; refine wp_region_list ?_; refine xpL (.slice spc B.length capb) ?_; refine xaL (.int .i64 ((B.length:Nat):Int)) (lenS _ 28 5 spc B.length capb rfl Try.underlying28 rfl _) ?_; refine xpL (.int .i64 K) ?_; refine xaL (.int .i64 ((T:Nat):Int)) (minI .i64 .i64 _ _ _ _ _ _ _ rfl rfl rfl (by split <;> omega) _) ?_
        refine xpL (.int .i64 ((T:Nat):Int)) ?_; refine xT ?_
        obtain ⟨spl,hcl,hsl⟩:=cut_lh (P:=Try.prog) (t:=28) Try.underlying28 (fun w=>by kernel_rfl) spc B.length capb S T (by omega) (by omega) (by omega)
        go_upto_region 17 with fail; have hdr:=(Below.refl w7.heap.size w7).drew; replace M:=M.drew; replace hIa:=hK.bel hIa hdr; replace N_5:=NewF.below N_5 hdr; replace T_5:=Wrt.below T_5 hdr; clear hdr
        refine wp_region_held_drew (S:=fun w'=>Mm w0 [(B6,[.int .i64 ((S:Nat):Int),.slice p5 (((B.drop S).take (T-S):List Int).length) c5])] w'∧NewF w' bs5 ((B.drop S).take (T-S):List Int).length (bl ((B.drop S).take (T-S))) (.slice p5 ((B.drop S).take (T-S):List Int).length c5)) (by kernel_rfl) ⟨(M.sub _ (List.cons_sublist_cons.2 (List.nil_sublist _))),N_5⟩ ?_; intro _
        generalize w7.drew=w8 at M hIa N_5 T_5 ⊢; refine xrH 0 60 rfl (.bool true) (fun _ hS=>(by kernel_rfl)) ⟨(M.sub _ (List.cons_sublist_cons.2 (List.nil_sublist _))),N_5⟩ ?_; refine xrH 1 61 rfl (.int .i64 ((T:Nat):Int)) (fun _ hS=>(by kernel_rfl)) ⟨(M.sub _ (List.cons_sublist_cons.2 (List.nil_sublist _))),N_5⟩ ?_
        refine xrH 2 62 rfl (.int .i64 ((S:Nat):Int)) (fun _ hS=>(by kernel_rfl)) ⟨(M.sub _ (List.cons_sublist_cons.2 (List.nil_sublist _))),N_5⟩ ?_; refine xrH 3 63 rfl (.bool true) (fun _ hS=>gtrI .i64 _ _ _ _ _ _ rfl rfl rfl true (decide_eq_true (by omega)) _) ⟨(M.sub _ (List.cons_sublist_cons.2 (List.nil_sublist _))),N_5⟩ ?_
        refine xrH 4 64 rfl (.bool false) (fun _ hS=>neqBo _ _ _ _ _ _ rfl rfl rfl (by kernel_rfl) false (by rw [beq_self_eq_true]; rfl) _) ⟨(M.sub _ (List.cons_sublist_cons.2 (List.nil_sublist _))),N_5⟩ ?_; refine xrH 5 65 rfl (.bool false) (fun _ hS=>(by kernel_rfl)) ⟨(M.sub _ (List.cons_sublist_cons.2 (List.nil_sublist _))),N_5⟩ ?_
        refine xrH 6 66 rfl (.bool true) (fun _ hS=>(by kernel_rfl)) ⟨(M.sub _ (List.cons_sublist_cons.2 (List.nil_sublist _))),N_5⟩ ?_; refine xrH 7 67 rfl (.bool true) (fun _ hS=>(by kernel_rfl)) ⟨(M.sub _ (List.cons_sublist_cons.2 (List.nil_sublist _))),N_5⟩ ?_
        refine xrH 8 68 rfl (.pointer (some ⟨B6,0,none⟩)) (fun _ hS=>(by kernel_rfl)) ⟨(M.sub _ (List.cons_sublist_cons.2 (List.nil_sublist _))),N_5⟩ ?_; refine xrH 9 69 rfl (.int .i64 ((S:Nat):Int)) (fun _ hS=>load1 3 _ ⟨B6,0,none⟩ _ rfl rfl (fun _=>by kernel_rfl) (hS.1.get mS 0 _ rfl)) ⟨(M.sub _ (List.cons_sublist_cons.2 (List.nil_sublist _))),N_5⟩ ?_
        refine xrH 10 70 rfl (.int .i64 ((S:Nat):Int)) (fun _ hS=>(by kernel_rfl)) ⟨(M.sub _ (List.cons_sublist_cons.2 (List.nil_sublist _))),N_5⟩ ?_; refine xrH 11 71 rfl (.bool false) (fun _ hS=>neqI .i64 _ _ _ _ _ _ rfl rfl rfl false (bne_self_eq_false _) _) ⟨(M.sub _ (List.cons_sublist_cons.2 (List.nil_sublist _))),N_5⟩ ?_
        refine xrH 12 72 rfl (.bool false) (fun _ hS=>(by kernel_rfl)) ⟨(M.sub _ (List.cons_sublist_cons.2 (List.nil_sublist _))),N_5⟩ ?_; refine xrH 13 73 rfl (.pointer (some ⟨B6,1,none⟩)) (fun _ hS=>(by kernel_rfl)) ⟨(M.sub _ (List.cons_sublist_cons.2 (List.nil_sublist _))),N_5⟩ ?_
        refine xrH 14 74 rfl (.slice p5 (((B.drop S).take (T-S):List Int).length) c5) (fun _ hS=>load1 28 _ ⟨B6,1,none⟩ _ rfl rfl (fun _=>by kernel_rfl) (hS.1.get mS 1 _ rfl)) ⟨(M.sub _ (List.cons_sublist_cons.2 (List.nil_sublist _))),N_5⟩ ?_
        refine xrH 15 75 rfl (.string (txt (((B.drop S).take (T-S):List Int).length) (bl ((B.drop S).take (T-S))))) (fun _ hS=>conv_txt 28 5 9 _ rfl Try.underlying28 Try.underlying5 Try.underlying9 p5 (((B.drop S).take (T-S):List Int).length) c5 (bl ((B.drop S).take (T-S))) rfl _ (NewF.src hS.2) (fun e=>by have h1:=(NewF.nilCap N_5) e; have h2:=(NewF.le N_5); omega)) ⟨(M.sub _ (List.cons_sublist_cons.2 (List.nil_sublist _))),N_5⟩ ?_
        refine xrH 16 76 rfl (.slice spc B.length capb) (fun _ hS=>(by kernel_rfl)) ⟨(M.sub _ (List.cons_sublist_cons.2 (List.nil_sublist _))),N_5⟩ ?_; refine xrH 17 77 rfl (.int .i64 ((S:Nat):Int)) (fun _ hS=>(by kernel_rfl)) ⟨(M.sub _ (List.cons_sublist_cons.2 (List.nil_sublist _))),N_5⟩ ?_
        refine xrH 18 78 rfl (.int .i64 ((T:Nat):Int)) (fun _ hS=>(by kernel_rfl)) ⟨(M.sub _ (List.cons_sublist_cons.2 (List.nil_sublist _))),N_5⟩ ?_; refine xrH 19 79 rfl (.slice spl (T-S) (capb-S)) (fun _ hS=>cutLHop 28 _ _ _ _ _ _ _ rfl rfl rfl rfl (hcl _)) ⟨(M.sub _ (List.cons_sublist_cons.2 (List.nil_sublist _))),N_5⟩ ?_
        refine xrH 20 80 rfl (.string (txt (T-S) (fun j=>bl B (S+j)))) (fun _ hS=>conv_txt 28 5 9 _ rfl Try.underlying28 Try.underlying5 Try.underlying9 spl (T-S) (capb-S) (fun j=>bl B (S+j)) rfl _ (hsl _ _ (srcB.below hS.1.below (xnR _))) (fun e=>absurd ((hsl _ _ srcB).none e) (by omega))) ⟨(M.sub _ (List.cons_sublist_cons.2 (List.nil_sublist _))),N_5⟩ ?_
        refine xrH 21 81 rfl (.bool false) (fun _ hS=>neqS _ _ _ _ _ _ rfl rfl rfl (drop_txt B S T (by omega)) _) ⟨(M.sub _ (List.cons_sublist_cons.2 (List.nil_sublist _))),N_5⟩ ?_; refine xrH 22 82 rfl (.bool false) (fun _ hS=>(by kernel_rfl)) ⟨(M.sub _ (List.cons_sublist_cons.2 (List.nil_sublist _))),N_5⟩ ?_
        refine xrH 23 83 rfl (.bool false) (fun _ hS=>(by kernel_rfl)) ⟨(M.sub _ (List.cons_sublist_cons.2 (List.nil_sublist _))),N_5⟩ ?_; refine xrH 24 84 rfl (.bool false) (fun _ hS=>(by kernel_rfl)) ⟨(M.sub _ (List.cons_sublist_cons.2 (List.nil_sublist _))),N_5⟩ ?_
        refine wpAnyH_done (by kernel_rfl) ?_ _
        first | show Exit.then _ _ _ _ _ | show Exit.inBlock _ _ _ _ _
        replace M:Mm w0 ((B6,[.int .i64 ((S:Nat):Int),.slice p5 (((B.drop S).take (T-S):List Int).length) c5])::(ba2++([]:List (Nat × List Value)))) w8:=M.sub _ (List.cons_sublist_cons.2 ((List.Sublist.refl _).append (List.sublist_append_right _ _)))
        clear N_5 T_5; go_upto_region 19 with fail; refine wp_region_list ?_; refine xpL (.int .i64 ((S:Nat):Int)) ?_; refine xpL (.int .i64 ((T:Nat):Int)) ?_; refine xaL (.int .i64 ((T:Nat):Int)) (maxI .i64 .i64 _ _ _ _ _ _ _ rfl rfl rfl (by split <;> omega) _) ?_; refine xpL (.int .i64 ((T:Nat):Int)) ?_; refine xT ?_; go_upto_region 20 with fail; refine wp_region_list ?_
        refine xpL (.pointer (some ⟨Ra,0,none⟩)) ?_; have Mp:=M.perm (pull0 ([(B6,[.int .i64 ((S:Nat):Int),.slice p5 (((B.drop S).take (T-S):List Int).length) c5])]:List (Nat × List Value)) ba2 ([]:List (Nat × List Value))); have key:=hK.snt w0 _ _ (osl B K T) ba2 _ (osl_w hB hBl (by omega) (by omega) (by omega)) (show B.length<1000000 by omega) hIa Mp; clear Mp
        rw [show (osl B K T).sent=T from rfl] at key
        refine xcL key ?_; clear key; rintro e w9 ⟨rfl,l_⟩; replace M:=M.call l_; replace hIa:=hK.bel hIa l_; clear l_; refine xeL ?_; refine xpL (.int .i64 ((T:Nat):Int)) ?_; refine xaL (.bool false) (neqI .i64 _ _ _ _ _ _ rfl rfl rfl false (bne_self_eq_false _) _) ?_; refine xpL (.bool false) ?_; refine xpL (.pointer (some ⟨Ra,0,none⟩)) ?_
        have Mp:=M.perm (pull0 ([(B6,[.int .i64 ((S:Nat):Int),.slice p5 (((B.drop S).take (T-S):List Int).length) c5])]:List (Nat × List Value)) ba2 ([]:List (Nat × List Value))); have key:=hK.blk w0 _ _ (osl B K T) ba2 _ (osl_w hB hBl (by omega) (by omega) (by omega)) (show B.length<1000000 by omega) hIa Mp; clear Mp
        rw [osl_bl (B:=B) (L:=K) (S:=T) hTe] at key
        refine xcL key ?_; clear key; rintro e w10 ⟨rfl,l_⟩; replace M:=M.call l_; replace hIa:=hK.bel hIa l_; clear l_; refine xeL ?_; refine xpL (.int .i64 ((T:Nat):Int)) ?_; refine xpL (.slice spc B.length capb) ?_; refine xaL (.int .i64 ((B.length:Nat):Int)) (lenS _ 28 5 spc B.length capb rfl Try.underlying28 rfl _) ?_
        refine xaL (.bool (decide (T<B.length))) (lssI .i64 _ _ _ _ _ _ rfl rfl rfl (decide (T<B.length)) (by rw [decide_eq_decide]; omega) _) ?_; refine xaL (.bool false) (neqBo _ _ _ _ _ _ rfl rfl rfl (by kernel_rfl) false (by rw [beq_self_eq_true]; rfl) _) ?_; refine xpL (.bool false) ?_; refine xT ?_
        have HS:=show Hid _ from (show I w10 (.pointer (some ⟨Ra,0,none⟩)) (osl B K T) ba2∧Mm w0 (ba2++([]:List (Nat × List Value))) w10 from ⟨hIa,M.tail⟩); clear M hIa; go_wp2
        go_roundw
        case rel=>exact ⟨q+1,T,K,_,by omega,by omega,rfl,rfl,by go_num,by omega,by omega,hTe,HS.out⟩
        case measure=>simp [intOf]; omega
      · go_upto_region 15 with fail
        refine wp_region_list ?_; refine xpL (.pointer (some ⟨Ra,0,none⟩)) ?_; have Mp:=M.perm (pull0 ([]:List (Nat × List Value)) ba1 ([]:List (Nat × List Value))); have key:=hK.nxt w0 _ _ (osl B K S) ba1 _ 1048576 (osl_w hB hBl (by omega) (by omega) (by omega)) (show B.length<1000000 by omega) (by unfold i64; decide) hIa Mp
        rw [osl_N hBl K S] at key
        rw [osl_x hBl (show S≤min B.length K.toNat by omega)] at key
        rw [← hTe] at key
        rw [decide_eq_false (show ¬ 0<T-S by omega)] at key
        refine xcL key ?_; clear key; rintro e w11 ⟨p11,c11,ba2,rfl,N_11,T_11,hI_,M',o1⟩; clear o1 Mp M hIa; have hIa:=hI_; clear hI_
        have M:Mm w0 ((ba2++((obs p11)++([]:List (Nat × List Value))))) w11:=M'.perm (pullY ([]:List (Nat × List Value)) ba2 (obs p11) ([]:List (Nat × List Value)))
        clear M'; refine xeL ?_
        obtain ⟨bs11,N_11⟩:∃ b_,NewF w11 b_ (onB (osl B K S) 1048576:List Int).length (bl (onB (osl B K S) 1048576)) (.slice p11 (onB (osl B K S) 1048576:List Int).length c11):=⟨_,N_11⟩
        refine xpL (.tuple #[.agg #[.int .i64 ((onF (osl B K S) 1048576:Nat):Int),.slice p11 ((onB (osl B K S) 1048576:List Int).length) c11],.bool false]) ?_; refine xpL (.agg #[.int .i64 ((onF (osl B K S) 1048576:Nat):Int),.slice p11 ((onB (osl B K S) 1048576:List Int).length) c11]) ?_; refine xpL (.bool false) ?_
        have hlb:=(Below.refl w11.heap.size w11).alloc (xnR _) (.cells #[.int .i64 0,.slice none 0 0] 35); refine actL (w':=w11.alloc (.cells #[.int .i64 0,.slice none 0 0] 35)) (.pointer (some ⟨w11.heap.size,0,none⟩)) rfl (by kernel_rfl) ?_; simp only [aP,lI,l0,lS]; replace hIa:=hK.bel hIa hlb; replace N_11:=NewF.below N_11 hlb; replace T_11:=Wrt.below T_11 hlb
        replace M:=M.box #[.int .i64 0,.slice none 0 0] 35 w11.heap.size rfl; clear hlb; generalize w11.alloc (.cells #[.int .i64 0,.slice none 0 0] 35)=w12 at M hIa N_11 T_11 ⊢; generalize w11.heap.size=B12 at M ⊢
        replace M:Mm w0 ((B12,[.int .i64 0,.slice none 0 0])::(ba2++((obs p11)++([]:List (Nat × List Value))))) w12:=M
        refine skipOpL rfl (storeP [.int .i64 ((onF (osl B K S) 1048576:Nat):Int),.slice p11 ((onB (osl B K S) 1048576:List Int).length) c11] B12 0 35 _ _ rfl rfl rfl (M.thereP mS 0 2 (Nat.le_of_ble_eq_true rfl)) (by kernel_rfl) (List.all_eq_true.1 (rfl:([.int .i64 ((onF (osl B K S) 1048576:Nat):Int),.slice p11 ((onB (osl B K S) 1048576:List Int).length) c11]:List Value).all (fun u=>u.oneCell')=true))) ?_
        simp only [Act.put]; replace M:=M.setPart [.int .i64 ((onF (osl B K S) 1048576:Nat):Int),.slice p11 ((onB (osl B K S) 1048576:List Int).length) c11] 0 (Nat.le_of_ble_eq_true rfl)
        replace hIa:=hK.off _ _ _ _ _ _ hIa ((Off.refl [B12] _).setAll (b:=B12) mS 0 [.int .i64 ((onF (osl B K S) 1048576:Nat):Int),.slice p11 ((onB (osl B K S) 1048576:List Int).length) c11]) (fun b_ hb_=>by obtain rfl:=xm1 hb_; exact M.awayC (fun p_ hp_=>by simp [hp_]))
        replace N_11:=NewF.offB N_11 ((Off.refl [B12] _).setAll (b:=B12) mS 0 [.int .i64 ((onF (osl B K S) 1048576:Nat):Int),.slice p11 ((onB (osl B K S) 1048576:List Int).length) c11]) (fun b_ hb_=>by obtain rfl:=xm1 hb_; exact M.awayB (fun p_ hp_=>by simp [hp_]))
        replace T_11:=Wrt.offB T_11 ((Off.refl [B12] _).setAll (b:=B12) mS 0 [.int .i64 ((onF (osl B K S) 1048576:Nat):Int),.slice p11 ((onB (osl B K S) 1048576:List Int).length) c11]) (fun b_ hb_=>by obtain rfl:=xm1 hb_; exact M.awayB (fun p_ hp_=>by simp [hp_]))
        generalize w12.setCells B12 0 [.int .i64 ((onF (osl B K S) 1048576:Nat):Int),.slice p11 ((onB (osl B K S) 1048576:List Int).length) c11]=w13 at M hIa N_11 T_11 ⊢
        replace M:Mm w0 ((B12,[.int .i64 ((onF (osl B K S) 1048576:Nat):Int),.slice p11 ((onB (osl B K S) 1048576:List Int).length) c11])::(ba2++((obs p11)++([]:List (Nat × List Value))))) w13:=M
        refine xpL (.bool false) ?_; refine xT ?_; go_upto_region 16 with fail; refine wp_region_list ?_; refine xpL (.slice spc B.length capb) ?_; refine xaL (.int .i64 ((B.length:Nat):Int)) (lenS _ 28 5 spc B.length capb rfl Try.underlying28 rfl _) ?_; refine xpL (.int .i64 K) ?_; refine xaL (.int .i64 ((T:Nat):Int)) (minI .i64 .i64 _ _ _ _ _ _ _ rfl rfl rfl (by split <;> omega) _) ?_
        refine xpL (.int .i64 ((T:Nat):Int)) ?_; refine xT ?_; go_upto_region 17 with fail; have hdr:=(Below.refl w13.heap.size w13).drew; replace M:=M.drew; replace hIa:=hK.bel hIa hdr; replace N_11:=NewF.below N_11 hdr; replace T_11:=Wrt.below T_11 hdr; clear hdr
        refine wp_region_held_drew (S:=fun w'=>Mm w0 [(B12,[.int .i64 ((onF (osl B K S) 1048576:Nat):Int),.slice p11 ((onB (osl B K S) 1048576:List Int).length) c11])] w') (by kernel_rfl) (M.sub _ (List.cons_sublist_cons.2 (List.nil_sublist _))) ?_; intro _; generalize w13.drew=w14 at M hIa N_11 T_11 ⊢
        refine xrH 0 60 rfl (.bool false) (fun _ hS=>(by kernel_rfl)) (M.sub _ (List.cons_sublist_cons.2 (List.nil_sublist _))) ?_; refine xrH 1 61 rfl (.int .i64 ((T:Nat):Int)) (fun _ hS=>(by kernel_rfl)) (M.sub _ (List.cons_sublist_cons.2 (List.nil_sublist _))) ?_
        refine xrH 2 62 rfl (.int .i64 ((S:Nat):Int)) (fun _ hS=>(by kernel_rfl)) (M.sub _ (List.cons_sublist_cons.2 (List.nil_sublist _))) ?_; refine xrH 3 63 rfl (.bool false) (fun _ hS=>gtrI .i64 _ _ _ _ _ _ rfl rfl rfl false (decide_eq_false (by omega)) _) (M.sub _ (List.cons_sublist_cons.2 (List.nil_sublist _))) ?_
        refine xrH 4 64 rfl (.bool false) (fun _ hS=>neqBo _ _ _ _ _ _ rfl rfl rfl (by kernel_rfl) false (by rw [beq_self_eq_true]; rfl) _) (M.sub _ (List.cons_sublist_cons.2 (List.nil_sublist _))) ?_; refine xrH 5 65 rfl (.bool false) (fun _ hS=>(by kernel_rfl)) (M.sub _ (List.cons_sublist_cons.2 (List.nil_sublist _))) ?_
        refine xrH 6 66 rfl (.bool false) (fun _ hS=>(by kernel_rfl)) (M.sub _ (List.cons_sublist_cons.2 (List.nil_sublist _))) ?_; refine xrH 7 67 rfl (.bool false) (fun _ hS=>(by kernel_rfl)) (M.sub _ (List.cons_sublist_cons.2 (List.nil_sublist _))) ?_
        refine mayH (i:=8) (some 68) rfl false undef undef rfl rfl rfl (fun hc=>by cases hc) (by kernel_rfl) (by kernel_rfl) (by kernel_rfl) (fun _ _ _ h=>h) (M.sub _ (List.cons_sublist_cons.2 (List.nil_sublist _))) ?_; simp only [aP,lI,l0,lS]
        refine mayH (i:=9) (some 69) rfl false undef undef rfl rfl rfl (fun hc=>by cases hc) (by kernel_rfl) (by kernel_rfl) (by kernel_rfl) (fun _ _ _ h=>h) (M.sub _ (List.cons_sublist_cons.2 (List.nil_sublist _))) ?_; simp only [aP,lI,l0,lS]
        refine mayH (i:=10) (some 70) rfl false undef undef rfl rfl rfl (fun hc=>by cases hc) (by kernel_rfl) (by kernel_rfl) (by kernel_rfl) (fun _ _ _ h=>h) (M.sub _ (List.cons_sublist_cons.2 (List.nil_sublist _))) ?_; simp only [aP,lI,l0,lS]
        refine mayH (i:=11) (some 71) rfl false undef undef rfl rfl rfl (fun hc=>by cases hc) (by kernel_rfl) (by kernel_rfl) (by kernel_rfl) (fun _ _ _ h=>h) (M.sub _ (List.cons_sublist_cons.2 (List.nil_sublist _))) ?_; simp only [aP,lI,l0,lS]
        refine mayH (i:=12) (some 72) rfl false undef undef rfl rfl rfl (fun hc=>by cases hc) (by kernel_rfl) (by kernel_rfl) (by kernel_rfl) (fun _ _ _ h=>h) (M.sub _ (List.cons_sublist_cons.2 (List.nil_sublist _))) ?_; simp only [aP,lI,l0,lS]
        refine mayH (i:=13) (some 73) rfl false undef undef rfl rfl rfl (fun hc=>by cases hc) (by kernel_rfl) (by kernel_rfl) (by kernel_rfl) (fun _ _ _ h=>h) (M.sub _ (List.cons_sublist_cons.2 (List.nil_sublist _))) ?_; simp only [aP,lI,l0,lS]
        refine mayH (i:=14) (some 74) rfl false undef undef rfl rfl rfl (fun hc=>by cases hc) (by kernel_rfl) (by kernel_rfl) (by kernel_rfl) (fun _ _ _ h=>h) (M.sub _ (List.cons_sublist_cons.2 (List.nil_sublist _))) ?_; simp only [aP,lI,l0,lS]
        refine mayH (i:=15) (some 75) rfl false undef undef rfl rfl rfl (fun hc=>by cases hc) (by kernel_rfl) (by kernel_rfl) (by kernel_rfl) (fun _ _ _ h=>h) (M.sub _ (List.cons_sublist_cons.2 (List.nil_sublist _))) ?_; simp only [aP,lI,l0,lS]
        refine mayH (i:=16) (some 76) rfl false undef undef rfl rfl rfl (fun hc=>by cases hc) (by kernel_rfl) (by kernel_rfl) (by kernel_rfl) (fun _ _ _ h=>h) (M.sub _ (List.cons_sublist_cons.2 (List.nil_sublist _))) ?_; simp only [aP,lI,l0,lS]
        refine mayH (i:=17) (some 77) rfl false undef undef rfl rfl rfl (fun hc=>by cases hc) (by kernel_rfl) (by kernel_rfl) (by kernel_rfl) (fun _ _ _ h=>h) (M.sub _ (List.cons_sublist_cons.2 (List.nil_sublist _))) ?_; simp only [aP,lI,l0,lS]
        refine mayH (i:=18) (some 78) rfl false undef undef rfl rfl rfl (fun hc=>by cases hc) (by kernel_rfl) (by kernel_rfl) (by kernel_rfl) (fun _ _ _ h=>h) (M.sub _ (List.cons_sublist_cons.2 (List.nil_sublist _))) ?_; simp only [aP,lI,l0,lS]
        refine mayH (i:=19) (some 79) rfl false undef undef rfl rfl rfl (fun hc=>by cases hc) (by kernel_rfl) (by kernel_rfl) (by kernel_rfl) (fun _ _ _ h=>h) (M.sub _ (List.cons_sublist_cons.2 (List.nil_sublist _))) ?_; simp only [aP,lI,l0,lS]
        refine mayH (i:=20) (some 80) rfl false undef undef rfl rfl rfl (fun hc=>by cases hc) (by kernel_rfl) (by kernel_rfl) (by kernel_rfl) (fun _ _ _ h=>h) (M.sub _ (List.cons_sublist_cons.2 (List.nil_sublist _))) ?_; simp only [aP,lI,l0,lS]
        refine mayH (i:=21) (some 81) rfl false undef undef rfl rfl rfl (fun hc=>by cases hc) (by kernel_rfl) (by kernel_rfl) (by kernel_rfl) (fun _ _ _ h=>h) (M.sub _ (List.cons_sublist_cons.2 (List.nil_sublist _))) ?_; simp only [aP,lI,l0,lS]
        refine mayH (i:=22) (some 82) rfl false undef undef rfl rfl rfl (fun hc=>by cases hc) (by kernel_rfl) (by kernel_rfl) (by kernel_rfl) (fun _ _ _ h=>h) (M.sub _ (List.cons_sublist_cons.2 (List.nil_sublist _))) ?_; simp only [aP,lI,l0,lS]; refine xrH 23 83 rfl (.bool false) (fun _ hS=>(by kernel_rfl)) (M.sub _ (List.cons_sublist_cons.2 (List.nil_sublist _))) ?_
        refine xrH 24 84 rfl (.bool false) (fun _ hS=>(by kernel_rfl)) (M.sub _ (List.cons_sublist_cons.2 (List.nil_sublist _))) ?_
        refine wpAnyH_done (by kernel_rfl) ?_ _
        first | show Exit.then _ _ _ _ _ | show Exit.inBlock _ _ _ _ _
        replace M:Mm w0 ((B12,[.int .i64 ((onF (osl B K S) 1048576:Nat):Int),.slice p11 ((onB (osl B K S) 1048576:List Int).length) c11])::(ba2++([]:List (Nat × List Value)))) w14:=M.sub _ (List.cons_sublist_cons.2 ((List.Sublist.refl _).append (List.sublist_append_right _ _)))
        clear N_11 T_11; go_upto_region 19 with fail; refine wp_region_list ?_; refine xpL (.int .i64 ((S:Nat):Int)) ?_; refine xpL (.int .i64 ((T:Nat):Int)) ?_; refine xaL (.int .i64 ((T:Nat):Int)) (maxI .i64 .i64 _ _ _ _ _ _ _ rfl rfl rfl (by split <;> omega) _) ?_; refine xpL (.int .i64 ((T:Nat):Int)) ?_; refine xT ?_; go_upto_region 20 with fail; refine wp_region_list ?_
        refine xpL (.pointer (some ⟨Ra,0,none⟩)) ?_; have Mp:=M.perm (pull0 ([(B12,[.int .i64 ((onF (osl B K S) 1048576:Nat):Int),.slice p11 ((onB (osl B K S) 1048576:List Int).length) c11])]:List (Nat × List Value)) ba2 ([]:List (Nat × List Value)))
        have key:=hK.snt w0 _ _ (osl B K T) ba2 _ (osl_w hB hBl (by omega) (by omega) (by omega)) (show B.length<1000000 by omega) hIa Mp; clear Mp
        rw [show (osl B K T).sent=T from rfl] at key
        refine xcL key ?_; clear key; rintro e w15 ⟨rfl,l_⟩; replace M:=M.call l_; replace hIa:=hK.bel hIa l_; clear l_; refine xeL ?_; refine xpL (.int .i64 ((T:Nat):Int)) ?_; refine xaL (.bool false) (neqI .i64 _ _ _ _ _ _ rfl rfl rfl false (bne_self_eq_false _) _) ?_; refine xpL (.bool false) ?_; refine xpL (.pointer (some ⟨Ra,0,none⟩)) ?_
        have Mp:=M.perm (pull0 ([(B12,[.int .i64 ((onF (osl B K S) 1048576:Nat):Int),.slice p11 ((onB (osl B K S) 1048576:List Int).length) c11])]:List (Nat × List Value)) ba2 ([]:List (Nat × List Value))); have key:=hK.blk w0 _ _ (osl B K T) ba2 _ (osl_w hB hBl (by omega) (by omega) (by omega)) (show B.length<1000000 by omega) hIa Mp; clear Mp
        rw [osl_bl (B:=B) (L:=K) (S:=T) hTe] at key
        refine xcL key ?_; clear key; rintro e w16 ⟨rfl,l_⟩; replace M:=M.call l_; replace hIa:=hK.bel hIa l_; clear l_; refine xeL ?_; refine xpL (.int .i64 ((T:Nat):Int)) ?_; refine xpL (.slice spc B.length capb) ?_; refine xaL (.int .i64 ((B.length:Nat):Int)) (lenS _ 28 5 spc B.length capb rfl Try.underlying28 rfl _) ?_
        refine xaL (.bool (decide (T<B.length))) (lssI .i64 _ _ _ _ _ _ rfl rfl rfl (decide (T<B.length)) (by rw [decide_eq_decide]; omega) _) ?_; refine xaL (.bool false) (neqBo _ _ _ _ _ _ rfl rfl rfl (by kernel_rfl) false (by rw [beq_self_eq_true]; rfl) _) ?_; refine xpL (.bool false) ?_; refine xT ?_
        have HS:=show Hid _ from (show I w16 (.pointer (some ⟨Ra,0,none⟩)) (osl B K T) ba2∧Mm w0 (ba2++([]:List (Nat × List Value))) w16 from ⟨hIa,M.tail⟩); clear M hIa; go_wp2
        go_roundw
        case rel=>exact ⟨q+1,T,K,_,by omega,by omega,rfl,rfl,by go_num,by omega,by omega,hTe,HS.out⟩
        case measure=>simp [intOf]; omega
    | false =>
      try clear hb1
      try clear hb2
      try clear hb3
      go_upto_region 22 with fail; refine wp_region_list ?_; refine xpL (.bool true) ?_; refine xT ?_; have hbel:=M.below; clear M hIa; go_wp2; go_ret
      exact ⟨rfl,hbel⟩
 · go_upto_region 5 with fail
   refine wp_region_list ?_; refine xpL (.slice sb b.length capb) ?_; refine xaL (.int .i64 ((b.length:Nat):Int)) (lenS _ 28 5 sb b.length capb rfl Try.underlying28 rfl _) ?_; refine xaL (.bool false) (gtrI .i64 _ _ _ _ _ _ rfl rfl rfl false (decide_eq_false (by omega)) _) ?_; refine xT ?_
   obtain ⟨B,hBe⟩:∃ B,B=b:=⟨_,rfl⟩
   subst hBe
   have hBl:B.length≤1000:=by omega
   have hB:=byb; have srcB:=srcb; go_upto_region 7 with fail; refine wp_region_list ?_; refine xpL (.pointer (some ⟨Ra,0,none⟩)) ?_; refine xpL (.slice sb B.length capb) ?_; have Mp:=M.perm (pull0 ([]:List (Nat × List Value)) ba0 ([]:List (Nat × List Value)))
   have key:=hK.wrt w0 _ _ (osl [] 0 0) ba0 _ sb capb B (osl_w (fun _ h_=>by cases h_) (by decide) (by decide) (by decide) (by decide)) (by decide) (by omega) leb nilb hB hIa Mp ((SrcA.of_old srcB Mp.los).off (Off.of_below Mp.below))
   rw [osl_owN B hBl] at key
   rw [osl_wr B hBl] at key
   refine xcL key ?_; clear key; rintro e w17 ⟨ba1,rfl,hI_,M',o1⟩; clear o1 Mp M hIa; have hIa:=hI_; clear hI_
   have M:Mm w0 ((ba1++([]:List (Nat × List Value)))) w17:=M'.perm (pull0 ([]:List (Nat × List Value)) ba1 ([]:List (Nat × List Value))).symm
   clear M'; refine xeL ?_; refine xT ?_; go_upto_region 8 with fail; refine wp_region_list ?_; refine xpL (.int .i64 0) ?_; refine xT ?_; go_upto_region 9 with fail; refine wp_region_list ?_; refine xpL (.int .i64 0) ?_; refine xT ?_; go_upto_region 10 with fail; refine wp_region_list ?_; refine xpL (.int .i64 0) ?_; refine xT ?_
   have HI:=show Hid _ from (show I w17 (.pointer (some ⟨Ra,0,none⟩)) (osl B 0 0) ba1∧Mm w0 (ba1++([]:List (Nat × List Value))) w17 from ⟨hIa,M⟩); clear M hIa; go_wp2
   go_loopw [7,8,9] (fun L_ S_ i w'=>∃ (q S:Nat) (L:Int) (ga:List (Nat × List Value)),q≤40∧q≤l.length∧L_=.int .i64 L∧S_=.int .i64 (S:Int)∧i=.int .i64 (q:Int)∧0≤L∧L≤9223372036854775807∧S=min B.length L.toNat∧I w' (.pointer (some ⟨Ra,0,none⟩)) (osl B L S) ga∧Mm w0 (ga++([]:List (Nat × List Value))) w') (fun _ _ i _=>l.length-(intOf i).toNat)
   case atStart=>exact ⟨0,0,0,_,by omega,by omega,rfl,rfl,rfl,by decide,by decide,by omega,HI.out⟩
   case round =>
    clear HI
    obtain ⟨q,S,L,ga,hq,hq2,rfl,rfl,rfl,hL0,hL1,hS,hIa,M⟩:=hrel
    go_upto_region 11 with fail; refine wp_region_list ?_; refine xpL (.int .i64 (q:Int)) ?_; refine xpL (.slice sp l.length cap) ?_; refine xaL (.int .i64 ((l.length:Nat):Int)) (lenS _ 47 3 sp l.length cap rfl Try.underlying47 rfl _) ?_
    obtain ⟨b4,hb4⟩:∃ y_,y_=(decide ((q:Int)<((l.length:Nat):Int))):=⟨_,rfl⟩
    refine xaL (.bool b4) (lssI .i64 _ _ _ _ _ _ rfl rfl rfl b4 hb4.symm _) ?_; refine xpL (.bool b4) ?_
    refine mayL (b4) (.int .i64 (q:Int)) ((bif b4 then (.int .i64 (q:Int)) else undef)) (by cases b4 <;> rfl) (by cases b4 <;> rfl) (fun hc=>by cases b4 <;> first | (cases hc; done) | kernel_rfl) ?_
    simp only [aP,lI,l0,lS]
    obtain ⟨b5,hb5⟩:∃ y_,y_=(decide ((q:Int)<40)):=⟨_,rfl⟩
    refine mayL (b4) (.bool b5) ((bif b4 then (.bool b5) else undef)) (by cases b4 <;> rfl) (by cases b4 <;> rfl) (fun hc=>by cases b4 <;> first | (cases hc; done) | exact (lssI .i64 _ _ _ _ _ _ rfl rfl rfl b5 hb5.symm _)) ?_
    simp only [aP,lI,l0,lS]
    obtain ⟨b6,hb6⟩:∃ y_,y_=(b4&&b5):=⟨_,rfl⟩
    refine xaL (.bool b6) (by subst hb6; cases b4 <;> rfl) ?_; refine xT ?_
    cases b6 with
    | true =>
      have hlt_l:q<l.length∧q<40:=by
       simp only [hb4,hb5] at hb6
       simp at hb6
       omega
      try clear hb4
      try clear hb5
      try clear hb6
      obtain ⟨hlt_l,hlt2⟩:=hlt_l
      obtain ⟨adl,hadl,_⟩:=hsl0 q hlt_l
      subst hadl; have hx:=hl _ (blIn hlt_l)
      unfold i64 at hx
      obtain ⟨K,hKe⟩:∃ K,K=max L (bl l q):=⟨_,rfl⟩
      obtain ⟨T,hTe⟩:∃ T,T=min B.length K.toNat:=⟨_,rfl⟩
      go_upto_region 13 with fail; refine wp_region_list ?_; refine xpL (.pointer (some ⟨Ra,0,none⟩)) ?_; refine xpL (.slice (some adl) l.length cap) ?_; refine xpL (.int .i64 (q:Int)) ?_; refine xaL (.pointer (some (adl.add q))) (idxSl 47 3 l.length cap .i64 adl q _ _ Try.underlying47 (fun _=>by kernel_rfl) hlt_l rfl rfl rfl _) ?_
      refine xaL (.int .i64 (bl l q)) (load1 3 _ (adl.add q) _ rfl rfl (fun _=>by kernel_rfl) ((hsl0.below M.below (xnR _)).at q hlt_l)) ?_; have Mp:=M.perm (pull0 ([]:List (Nat × List Value)) ga ([]:List (Nat × List Value))); have key:=hK.alw w0 _ _ (osl B L S) ga _ (bl l q) (osl_w hB hBl hL0 hL1 (by omega)) (show B.length<1000000 by omega) (hl _ (blIn hlt_l)) hIa Mp
      rw [osl_al B L (bl l q) S] at key
      rw [← hKe] at key
      refine xcL key ?_; clear key; rintro e w18 ⟨ba1,rfl,hI_,M',o1⟩; clear o1 Mp M hIa; have hIa:=hI_; clear hI_
      have M:Mm w0 ((ba1++([]:List (Nat × List Value)))) w18:=M'.perm (pull0 ([]:List (Nat × List Value)) ba1 ([]:List (Nat × List Value))).symm
      clear M'; refine xeL ?_; refine xT ?_; go_upto_region 14 with fail; refine wp_region_list ?_; refine xpL (.int .i64 L) ?_; refine xpL (.slice (some adl) l.length cap) ?_; refine xpL (.int .i64 (q:Int)) ?_; refine xaL (.pointer (some (adl.add q))) (idxSl 47 3 l.length cap .i64 adl q _ _ Try.underlying47 (fun _=>by kernel_rfl) hlt_l rfl rfl rfl _) ?_
      refine xaL (.int .i64 (bl l q)) (load1 3 _ (adl.add q) _ rfl rfl (fun _=>by kernel_rfl) ((hsl0.below M.below (xnR _)).at q hlt_l)) ?_; refine xaL (.int .i64 K) (maxI .i64 .i64 _ _ _ _ _ _ _ rfl rfl rfl (by split <;> omega) _) ?_; refine xpL (.int .i64 K) ?_; refine xT ?_
      by_cases hST:S<T
      · go_upto_region 15 with fail
        refine wp_region_list ?_; refine xpL (.pointer (some ⟨Ra,0,none⟩)) ?_; have Mp:=M.perm (pull0 ([]:List (Nat × List Value)) ba1 ([]:List (Nat × List Value))); have key:=hK.nxt w0 _ _ (osl B K S) ba1 _ 1048576 (osl_w hB hBl (by omega) (by omega) (by omega)) (show B.length<1000000 by omega) (by unfold i64; decide) hIa Mp
        rw [osl_F hBl (show S<min B.length K.toNat by omega)] at key
        rw [osl_B hBl (show S<min B.length K.toNat by omega)] at key
        rw [osl_N hBl K S] at key
        rw [osl_x hBl (show S≤min B.length K.toNat by omega)] at key
        rw [← hTe] at key
        rw [decide_eq_true (show 0<T-S by omega)] at key
        refine xcL key ?_; clear key; rintro e w19 ⟨p19,c19,ba2,rfl,N_19,T_19,hI_,M',o1⟩; clear o1 Mp M hIa; have hIa:=hI_; clear hI_
        have M:Mm w0 ((ba2++((obs p19)++([]:List (Nat × List Value))))) w19:=M'.perm (pullY ([]:List (Nat × List Value)) ba2 (obs p19) ([]:List (Nat × List Value)))
        clear M'; refine xeL ?_
        obtain ⟨bs19,N_19⟩:∃ b_,NewF w19 b_ ((B.drop S).take (T-S):List Int).length (bl ((B.drop S).take (T-S))) (.slice p19 ((B.drop S).take (T-S):List Int).length c19):=⟨_,N_19⟩
        refine xpL (.tuple #[.agg #[.int .i64 ((S:Nat):Int),.slice p19 (((B.drop S).take (T-S):List Int).length) c19],.bool true]) ?_; refine xpL (.agg #[.int .i64 ((S:Nat):Int),.slice p19 (((B.drop S).take (T-S):List Int).length) c19]) ?_; refine xpL (.bool true) ?_; have hlb:=(Below.refl w19.heap.size w19).alloc (xnR _) (.cells #[.int .i64 0,.slice none 0 0] 35)
        refine actL (w':=w19.alloc (.cells #[.int .i64 0,.slice none 0 0] 35)) (.pointer (some ⟨w19.heap.size,0,none⟩)) rfl (by kernel_rfl) ?_; simp only [aP,lI,l0,lS]; replace hIa:=hK.bel hIa hlb; replace N_19:=NewF.below N_19 hlb; replace T_19:=Wrt.below T_19 hlb; replace M:=M.box #[.int .i64 0,.slice none 0 0] 35 w19.heap.size rfl; clear hlb
        generalize w19.alloc (.cells #[.int .i64 0,.slice none 0 0] 35)=w20 at M hIa N_19 T_19 ⊢; generalize w19.heap.size=B20 at M ⊢
        replace M:Mm w0 ((B20,[.int .i64 0,.slice none 0 0])::(ba2++((obs p19)++([]:List (Nat × List Value))))) w20:=M
        refine skipOpL rfl (storeP [.int .i64 ((S:Nat):Int),.slice p19 (((B.drop S).take (T-S):List Int).length) c19] B20 0 35 _ _ rfl rfl rfl (M.thereP mS 0 2 (Nat.le_of_ble_eq_true rfl)) (by kernel_rfl) (List.all_eq_true.1 (rfl:([.int .i64 ((S:Nat):Int),.slice p19 (((B.drop S).take (T-S):List Int).length) c19]:List Value).all (fun u=>u.oneCell')=true))) ?_
        simp only [Act.put]; replace M:=M.setPart [.int .i64 ((S:Nat):Int),.slice p19 (((B.drop S).take (T-S):List Int).length) c19] 0 (Nat.le_of_ble_eq_true rfl)
        replace hIa:=hK.off _ _ _ _ _ _ hIa ((Off.refl [B20] _).setAll (b:=B20) mS 0 [.int .i64 ((S:Nat):Int),.slice p19 (((B.drop S).take (T-S):List Int).length) c19]) (fun b_ hb_=>by obtain rfl:=xm1 hb_; exact M.awayC (fun p_ hp_=>by simp [hp_]))
        replace N_19:=NewF.offB N_19 ((Off.refl [B20] _).setAll (b:=B20) mS 0 [.int .i64 ((S:Nat):Int),.slice p19 (((B.drop S).take (T-S):List Int).length) c19]) (fun b_ hb_=>by obtain rfl:=xm1 hb_; exact M.awayB (fun p_ hp_=>by simp [hp_]))
        replace T_19:=Wrt.offB T_19 ((Off.refl [B20] _).setAll (b:=B20) mS 0 [.int .i64 ((S:Nat):Int),.slice p19 (((B.drop S).take (T-S):List Int).length) c19]) (fun b_ hb_=>by obtain rfl:=xm1 hb_; exact M.awayB (fun p_ hp_=>by simp [hp_]))
        generalize w20.setCells B20 0 [.int .i64 ((S:Nat):Int),.slice p19 (((B.drop S).take (T-S):List Int).length) c19]=w21 at M hIa N_19 T_19 ⊢
        replace M:Mm w0 ((B20,[.int .i64 ((S:Nat):Int),.slice p19 (((B.drop S).take (T-S):List Int).length) c19])::(ba2++((obs p19)++([]:List (Nat × List Value))))) w21:=M
        refine xpL (.bool true) ?_; refine xT ?_; go_upto_region 16 with fail; refine wp_region_list ?_; refine xpL (.slice sb B.length capb) ?_; refine xaL (.int .i64 ((B.length:Nat):Int)) (lenS _ 28 5 sb B.length capb rfl Try.underlying28 rfl _) ?_; refine xpL (.int .i64 K) ?_; refine xaL (.int .i64 ((T:Nat):Int)) (minI .i64 .i64 _ _ _ _ _ _ _ rfl rfl rfl (by split <;> omega) _) ?_
        refine xpL (.int .i64 ((T:Nat):Int)) ?_; refine xT ?_
        obtain ⟨spl,hcl,hsl⟩:=cut_lh (P:=Try.prog) (t:=28) Try.underlying28 (fun w=>by kernel_rfl) sb B.length capb S T (by omega) (by omega) (by omega)
        go_upto_region 17 with fail; have hdr:=(Below.refl w21.heap.size w21).drew; replace M:=M.drew; replace hIa:=hK.bel hIa hdr; replace N_19:=NewF.below N_19 hdr; replace T_19:=Wrt.below T_19 hdr; clear hdr
        refine wp_region_held_drew (S:=fun w'=>Mm w0 [(B20,[.int .i64 ((S:Nat):Int),.slice p19 (((B.drop S).take (T-S):List Int).length) c19])] w'∧NewF w' bs19 ((B.drop S).take (T-S):List Int).length (bl ((B.drop S).take (T-S))) (.slice p19 ((B.drop S).take (T-S):List Int).length c19)) (by kernel_rfl) ⟨(M.sub _ (List.cons_sublist_cons.2 (List.nil_sublist _))),N_19⟩ ?_
        intro _; generalize w21.drew=w22 at M hIa N_19 T_19 ⊢; refine xrH 0 60 rfl (.bool true) (fun _ hS=>(by kernel_rfl)) ⟨(M.sub _ (List.cons_sublist_cons.2 (List.nil_sublist _))),N_19⟩ ?_; refine xrH 1 61 rfl (.int .i64 ((T:Nat):Int)) (fun _ hS=>(by kernel_rfl)) ⟨(M.sub _ (List.cons_sublist_cons.2 (List.nil_sublist _))),N_19⟩ ?_
        refine xrH 2 62 rfl (.int .i64 ((S:Nat):Int)) (fun _ hS=>(by kernel_rfl)) ⟨(M.sub _ (List.cons_sublist_cons.2 (List.nil_sublist _))),N_19⟩ ?_; refine xrH 3 63 rfl (.bool true) (fun _ hS=>gtrI .i64 _ _ _ _ _ _ rfl rfl rfl true (decide_eq_true (by omega)) _) ⟨(M.sub _ (List.cons_sublist_cons.2 (List.nil_sublist _))),N_19⟩ ?_
        refine xrH 4 64 rfl (.bool false) (fun _ hS=>neqBo _ _ _ _ _ _ rfl rfl rfl (by kernel_rfl) false (by rw [beq_self_eq_true]; rfl) _) ⟨(M.sub _ (List.cons_sublist_cons.2 (List.nil_sublist _))),N_19⟩ ?_; refine xrH 5 65 rfl (.bool false) (fun _ hS=>(by kernel_rfl)) ⟨(M.sub _ (List.cons_sublist_cons.2 (List.nil_sublist _))),N_19⟩ ?_
        refine xrH 6 66 rfl (.bool true) (fun _ hS=>(by kernel_rfl)) ⟨(M.sub _ (List.cons_sublist_cons.2 (List.nil_sublist _))),N_19⟩ ?_; refine xrH 7 67 rfl (.bool true) (fun _ hS=>(by kernel_rfl)) ⟨(M.sub _ (List.cons_sublist_cons.2 (List.nil_sublist _))),N_19⟩ ?_
        refine xrH 8 68 rfl (.pointer (some ⟨B20,0,none⟩)) (fun _ hS=>(by kernel_rfl)) ⟨(M.sub _ (List.cons_sublist_cons.2 (List.nil_sublist _))),N_19⟩ ?_; refine xrH 9 69 rfl (.int .i64 ((S:Nat):Int)) (fun _ hS=>load1 3 _ ⟨B20,0,none⟩ _ rfl rfl (fun _=>by kernel_rfl) (hS.1.get mS 0 _ rfl)) ⟨(M.sub _ (List.cons_sublist_cons.2 (List.nil_sublist _))),N_19⟩ ?_
        refine xrH 10 70 rfl (.int .i64 ((S:Nat):Int)) (fun _ hS=>(by kernel_rfl)) ⟨(M.sub _ (List.cons_sublist_cons.2 (List.nil_sublist _))),N_19⟩ ?_; refine xrH 11 71 rfl (.bool false) (fun _ hS=>neqI .i64 _ _ _ _ _ _ rfl rfl rfl false (bne_self_eq_false _) _) ⟨(M.sub _ (List.cons_sublist_cons.2 (List.nil_sublist _))),N_19⟩ ?_
        refine xrH 12 72 rfl (.bool false) (fun _ hS=>(by kernel_rfl)) ⟨(M.sub _ (List.cons_sublist_cons.2 (List.nil_sublist _))),N_19⟩ ?_; refine xrH 13 73 rfl (.pointer (some ⟨B20,1,none⟩)) (fun _ hS=>(by kernel_rfl)) ⟨(M.sub _ (List.cons_sublist_cons.2 (List.nil_sublist _))),N_19⟩ ?_
        refine xrH 14 74 rfl (.slice p19 (((B.drop S).take (T-S):List Int).length) c19) (fun _ hS=>load1 28 _ ⟨B20,1,none⟩ _ rfl rfl (fun _=>by kernel_rfl) (hS.1.get mS 1 _ rfl)) ⟨(M.sub _ (List.cons_sublist_cons.2 (List.nil_sublist _))),N_19⟩ ?_
        refine xrH 15 75 rfl (.string (txt (((B.drop S).take (T-S):List Int).length) (bl ((B.drop S).take (T-S))))) (fun _ hS=>conv_txt 28 5 9 _ rfl Try.underlying28 Try.underlying5 Try.underlying9 p19 (((B.drop S).take (T-S):List Int).length) c19 (bl ((B.drop S).take (T-S))) rfl _ (NewF.src hS.2) (fun e=>by have h1:=(NewF.nilCap N_19) e; have h2:=(NewF.le N_19); omega)) ⟨(M.sub _ (List.cons_sublist_cons.2 (List.nil_sublist _))),N_19⟩ ?_
        refine xrH 16 76 rfl (.slice sb B.length capb) (fun _ hS=>(by kernel_rfl)) ⟨(M.sub _ (List.cons_sublist_cons.2 (List.nil_sublist _))),N_19⟩ ?_; refine xrH 17 77 rfl (.int .i64 ((S:Nat):Int)) (fun _ hS=>(by kernel_rfl)) ⟨(M.sub _ (List.cons_sublist_cons.2 (List.nil_sublist _))),N_19⟩ ?_
        refine xrH 18 78 rfl (.int .i64 ((T:Nat):Int)) (fun _ hS=>(by kernel_rfl)) ⟨(M.sub _ (List.cons_sublist_cons.2 (List.nil_sublist _))),N_19⟩ ?_; refine xrH 19 79 rfl (.slice spl (T-S) (capb-S)) (fun _ hS=>cutLHop 28 _ _ _ _ _ _ _ rfl rfl rfl rfl (hcl _)) ⟨(M.sub _ (List.cons_sublist_cons.2 (List.nil_sublist _))),N_19⟩ ?_
        refine xrH 20 80 rfl (.string (txt (T-S) (fun j=>bl B (S+j)))) (fun _ hS=>conv_txt 28 5 9 _ rfl Try.underlying28 Try.underlying5 Try.underlying9 spl (T-S) (capb-S) (fun j=>bl B (S+j)) rfl _ (hsl _ _ (srcB.below hS.1.below (xnR _))) (fun e=>absurd ((hsl _ _ srcB).none e) (by omega))) ⟨(M.sub _ (List.cons_sublist_cons.2 (List.nil_sublist _))),N_19⟩ ?_
        refine xrH 21 81 rfl (.bool false) (fun _ hS=>neqS _ _ _ _ _ _ rfl rfl rfl (drop_txt B S T (by omega)) _) ⟨(M.sub _ (List.cons_sublist_cons.2 (List.nil_sublist _))),N_19⟩ ?_; refine xrH 22 82 rfl (.bool false) (fun _ hS=>(by kernel_rfl)) ⟨(M.sub _ (List.cons_sublist_cons.2 (List.nil_sublist _))),N_19⟩ ?_
        refine xrH 23 83 rfl (.bool false) (fun _ hS=>(by kernel_rfl)) ⟨(M.sub _ (List.cons_sublist_cons.2 (List.nil_sublist _))),N_19⟩ ?_; refine xrH 24 84 rfl (.bool false) (fun _ hS=>(by kernel_rfl)) ⟨(M.sub _ (List.cons_sublist_cons.2 (List.nil_sublist _))),N_19⟩ ?_
        refine wpAnyH_done (by kernel_rfl) ?_ _
        first | show Exit.then _ _ _ _ _ | show Exit.inBlock _ _ _ _ _
        replace M:Mm w0 ((B20,[.int .i64 ((S:Nat):Int),.slice p19 (((B.drop S).take (T-S):List Int).length) c19])::(ba2++([]:List (Nat × List Value)))) w22:=M.sub _ (List.cons_sublist_cons.2 ((List.Sublist.refl _).append (List.sublist_append_right _ _)))
        clear N_19 T_19; go_upto_region 19 with fail; refine wp_region_list ?_; refine xpL (.int .i64 ((S:Nat):Int)) ?_; refine xpL (.int .i64 ((T:Nat):Int)) ?_; refine xaL (.int .i64 ((T:Nat):Int)) (maxI .i64 .i64 _ _ _ _ _ _ _ rfl rfl rfl (by split <;> omega) _) ?_; refine xpL (.int .i64 ((T:Nat):Int)) ?_; refine xT ?_; go_upto_region 20 with fail; refine wp_region_list ?_
        refine xpL (.pointer (some ⟨Ra,0,none⟩)) ?_; have Mp:=M.perm (pull0 ([(B20,[.int .i64 ((S:Nat):Int),.slice p19 (((B.drop S).take (T-S):List Int).length) c19])]:List (Nat × List Value)) ba2 ([]:List (Nat × List Value))); have key:=hK.snt w0 _ _ (osl B K T) ba2 _ (osl_w hB hBl (by omega) (by omega) (by omega)) (show B.length<1000000 by omega) hIa Mp; clear Mp
        rw [show (osl B K T).sent=T from rfl] at key
        refine xcL key ?_; clear key; rintro e w23 ⟨rfl,l_⟩; replace M:=M.call l_; replace hIa:=hK.bel hIa l_; clear l_; refine xeL ?_; refine xpL (.int .i64 ((T:Nat):Int)) ?_; refine xaL (.bool false) (neqI .i64 _ _ _ _ _ _ rfl rfl rfl false (bne_self_eq_false _) _) ?_; refine xpL (.bool false) ?_; refine xpL (.pointer (some ⟨Ra,0,none⟩)) ?_
        have Mp:=M.perm (pull0 ([(B20,[.int .i64 ((S:Nat):Int),.slice p19 (((B.drop S).take (T-S):List Int).length) c19])]:List (Nat × List Value)) ba2 ([]:List (Nat × List Value))); have key:=hK.blk w0 _ _ (osl B K T) ba2 _ (osl_w hB hBl (by omega) (by omega) (by omega)) (show B.length<1000000 by omega) hIa Mp; clear Mp
        rw [osl_bl (B:=B) (L:=K) (S:=T) hTe] at key
        refine xcL key ?_; clear key; rintro e w24 ⟨rfl,l_⟩; replace M:=M.call l_; replace hIa:=hK.bel hIa l_; clear l_; refine xeL ?_; refine xpL (.int .i64 ((T:Nat):Int)) ?_; refine xpL (.slice sb B.length capb) ?_; refine xaL (.int .i64 ((B.length:Nat):Int)) (lenS _ 28 5 sb B.length capb rfl Try.underlying28 rfl _) ?_
        refine xaL (.bool (decide (T<B.length))) (lssI .i64 _ _ _ _ _ _ rfl rfl rfl (decide (T<B.length)) (by rw [decide_eq_decide]; omega) _) ?_; refine xaL (.bool false) (neqBo _ _ _ _ _ _ rfl rfl rfl (by kernel_rfl) false (by rw [beq_self_eq_true]; rfl) _) ?_; refine xpL (.bool false) ?_; refine xT ?_
        have HS:=show Hid _ from (show I w24 (.pointer (some ⟨Ra,0,none⟩)) (osl B K T) ba2∧Mm w0 (ba2++([]:List (Nat × List Value))) w24 from ⟨hIa,M.tail⟩); clear M hIa; go_wp2
        go_roundw
        case rel=>exact ⟨q+1,T,K,_,by omega,by omega,rfl,rfl,by go_num,by omega,by omega,hTe,HS.out⟩
        case measure=>simp [intOf]; omega
      · go_upto_region 15 with fail
        refine wp_region_list ?_; refine xpL (.pointer (some ⟨Ra,0,none⟩)) ?_; have Mp:=M.perm (pull0 ([]:List (Nat × List Value)) ba1 ([]:List (Nat × List Value))); have key:=hK.nxt w0 _ _ (osl B K S) ba1 _ 1048576 (osl_w hB hBl (by omega) (by omega) (by omega)) (show B.length<1000000 by omega) (by unfold i64; decide) hIa Mp
        rw [osl_N hBl K S] at key
        rw [osl_x hBl (show S≤min B.length K.toNat by omega)] at key
        rw [← hTe] at key
        rw [decide_eq_false (show ¬ 0<T-S by omega)] at key
        refine xcL key ?_; clear key; rintro e w25 ⟨p25,c25,ba2,rfl,N_25,T_25,hI_,M',o1⟩; clear o1 Mp M hIa; have hIa:=hI_; clear hI_
        have M:Mm w0 ((ba2++((obs p25)++([]:List (Nat × List Value))))) w25:=M'.perm (pullY ([]:List (Nat × List Value)) ba2 (obs p25) ([]:List (Nat × List Value)))
        clear M'; refine xeL ?_
        obtain ⟨bs25,N_25⟩:∃ b_,NewF w25 b_ (onB (osl B K S) 1048576:List Int).length (bl (onB (osl B K S) 1048576)) (.slice p25 (onB (osl B K S) 1048576:List Int).length c25):=⟨_,N_25⟩
        refine xpL (.tuple #[.agg #[.int .i64 ((onF (osl B K S) 1048576:Nat):Int),.slice p25 ((onB (osl B K S) 1048576:List Int).length) c25],.bool false]) ?_; refine xpL (.agg #[.int .i64 ((onF (osl B K S) 1048576:Nat):Int),.slice p25 ((onB (osl B K S) 1048576:List Int).length) c25]) ?_; refine xpL (.bool false) ?_
        have hlb:=(Below.refl w25.heap.size w25).alloc (xnR _) (.cells #[.int .i64 0,.slice none 0 0] 35); refine actL (w':=w25.alloc (.cells #[.int .i64 0,.slice none 0 0] 35)) (.pointer (some ⟨w25.heap.size,0,none⟩)) rfl (by kernel_rfl) ?_; simp only [aP,lI,l0,lS]; replace hIa:=hK.bel hIa hlb; replace N_25:=NewF.below N_25 hlb; replace T_25:=Wrt.below T_25 hlb
        replace M:=M.box #[.int .i64 0,.slice none 0 0] 35 w25.heap.size rfl; clear hlb; generalize w25.alloc (.cells #[.int .i64 0,.slice none 0 0] 35)=w26 at M hIa N_25 T_25 ⊢; generalize w25.heap.size=B26 at M ⊢
        replace M:Mm w0 ((B26,[.int .i64 0,.slice none 0 0])::(ba2++((obs p25)++([]:List (Nat × List Value))))) w26:=M
        refine skipOpL rfl (storeP [.int .i64 ((onF (osl B K S) 1048576:Nat):Int),.slice p25 ((onB (osl B K S) 1048576:List Int).length) c25] B26 0 35 _ _ rfl rfl rfl (M.thereP mS 0 2 (Nat.le_of_ble_eq_true rfl)) (by kernel_rfl) (List.all_eq_true.1 (rfl:([.int .i64 ((onF (osl B K S) 1048576:Nat):Int),.slice p25 ((onB (osl B K S) 1048576:List Int).length) c25]:List Value).all (fun u=>u.oneCell')=true))) ?_
        simp only [Act.put]; replace M:=M.setPart [.int .i64 ((onF (osl B K S) 1048576:Nat):Int),.slice p25 ((onB (osl B K S) 1048576:List Int).length) c25] 0 (Nat.le_of_ble_eq_true rfl)
        replace hIa:=hK.off _ _ _ _ _ _ hIa ((Off.refl [B26] _).setAll (b:=B26) mS 0 [.int .i64 ((onF (osl B K S) 1048576:Nat):Int),.slice p25 ((onB (osl B K S) 1048576:List Int).length) c25]) (fun b_ hb_=>by obtain rfl:=xm1 hb_; exact M.awayC (fun p_ hp_=>by simp [hp_]))
        replace N_25:=NewF.offB N_25 ((Off.refl [B26] _).setAll (b:=B26) mS 0 [.int .i64 ((onF (osl B K S) 1048576:Nat):Int),.slice p25 ((onB (osl B K S) 1048576:List Int).length) c25]) (fun b_ hb_=>by obtain rfl:=xm1 hb_; exact M.awayB (fun p_ hp_=>by simp [hp_]))
        replace T_25:=Wrt.offB T_25 ((Off.refl [B26] _).setAll (b:=B26) mS 0 [.int .i64 ((onF (osl B K S) 1048576:Nat):Int),.slice p25 ((onB (osl B K S) 1048576:List Int).length) c25]) (fun b_ hb_=>by obtain rfl:=xm1 hb_; exact M.awayB (fun p_ hp_=>by simp [hp_]))
        generalize w26.setCells B26 0 [.int .i64 ((onF (osl B K S) 1048576:Nat):Int),.slice p25 ((onB (osl B K S) 1048576:List Int).length) c25]=w27 at M hIa N_25 T_25 ⊢
        replace M:Mm w0 ((B26,[.int .i64 ((onF (osl B K S) 1048576:Nat):Int),.slice p25 ((onB (osl B K S) 1048576:List Int).length) c25])::(ba2++((obs p25)++([]:List (Nat × List Value))))) w27:=M
        refine xpL (.bool false) ?_; refine xT ?_; go_upto_region 16 with fail; refine wp_region_list ?_; refine xpL (.slice sb B.length capb) ?_; refine xaL (.int .i64 ((B.length:Nat):Int)) (lenS _ 28 5 sb B.length capb rfl Try.underlying28 rfl _) ?_; refine xpL (.int .i64 K) ?_; refine xaL (.int .i64 ((T:Nat):Int)) (minI .i64 .i64 _ _ _ _ _ _ _ rfl rfl rfl (by split <;> omega) _) ?_
        refine xpL (.int .i64 ((T:Nat):Int)) ?_; refine xT ?_; go_upto_region 17 with fail; have hdr:=(Below.refl w27.heap.size w27).drew; replace M:=M.drew; replace hIa:=hK.bel hIa hdr; replace N_25:=NewF.below N_25 hdr; replace T_25:=Wrt.below T_25 hdr; clear hdr
        refine wp_region_held_drew (S:=fun w'=>Mm w0 [(B26,[.int .i64 ((onF (osl B K S) 1048576:Nat):Int),.slice p25 ((onB (osl B K S) 1048576:List Int).length) c25])] w') (by kernel_rfl) (M.sub _ (List.cons_sublist_cons.2 (List.nil_sublist _))) ?_; intro _; generalize w27.drew=w28 at M hIa N_25 T_25 ⊢
        refine xrH 0 60 rfl (.bool false) (fun _ hS=>(by kernel_rfl)) (M.sub _ (List.cons_sublist_cons.2 (List.nil_sublist _))) ?_; refine xrH 1 61 rfl (.int .i64 ((T:Nat):Int)) (fun _ hS=>(by kernel_rfl)) (M.sub _ (List.cons_sublist_cons.2 (List.nil_sublist _))) ?_
        refine xrH 2 62 rfl (.int .i64 ((S:Nat):Int)) (fun _ hS=>(by kernel_rfl)) (M.sub _ (List.cons_sublist_cons.2 (List.nil_sublist _))) ?_; refine xrH 3 63 rfl (.bool false) (fun _ hS=>gtrI .i64 _ _ _ _ _ _ rfl rfl rfl false (decide_eq_false (by omega)) _) (M.sub _ (List.cons_sublist_cons.2 (List.nil_sublist _))) ?_
        refine xrH 4 64 rfl (.bool false) (fun _ hS=>neqBo _ _ _ _ _ _ rfl rfl rfl (by kernel_rfl) false (by rw [beq_self_eq_true]; rfl) _) (M.sub _ (List.cons_sublist_cons.2 (List.nil_sublist _))) ?_; refine xrH 5 65 rfl (.bool false) (fun _ hS=>(by kernel_rfl)) (M.sub _ (List.cons_sublist_cons.2 (List.nil_sublist _))) ?_
        refine xrH 6 66 rfl (.bool false) (fun _ hS=>(by kernel_rfl)) (M.sub _ (List.cons_sublist_cons.2 (List.nil_sublist _))) ?_; refine xrH 7 67 rfl (.bool false) (fun _ hS=>(by kernel_rfl)) (M.sub _ (List.cons_sublist_cons.2 (List.nil_sublist _))) ?_
        refine mayH (i:=8) (some 68) rfl false undef undef rfl rfl rfl (fun hc=>by cases hc) (by kernel_rfl) (by kernel_rfl) (by kernel_rfl) (fun _ _ _ h=>h) (M.sub _ (List.cons_sublist_cons.2 (List.nil_sublist _))) ?_; simp only [aP,lI,l0,lS]
        refine mayH (i:=9) (some 69) rfl false undef undef rfl rfl rfl (fun hc=>by cases hc) (by kernel_rfl) (by kernel_rfl) (by kernel_rfl) (fun _ _ _ h=>h) (M.sub _ (List.cons_sublist_cons.2 (List.nil_sublist _))) ?_; simp only [aP,lI,l0,lS]
        refine mayH (i:=10) (some 70) rfl false undef undef rfl rfl rfl (fun hc=>by cases hc) (by kernel_rfl) (by kernel_rfl) (by kernel_rfl) (fun _ _ _ h=>h) (M.sub _ (List.cons_sublist_cons.2 (List.nil_sublist _))) ?_; simp only [aP,lI,l0,lS]
        refine mayH (i:=11) (some 71) rfl false undef undef rfl rfl rfl (fun hc=>by cases hc) (by kernel_rfl) (by kernel_rfl) (by kernel_rfl) (fun _ _ _ h=>h) (M.sub _ (List.cons_sublist_cons.2 (List.nil_sublist _))) ?_; simp only [aP,lI,l0,lS]
        refine mayH (i:=12) (some 72) rfl false undef undef rfl rfl rfl (fun hc=>by cases hc) (by kernel_rfl) (by kernel_rfl) (by kernel_rfl) (fun _ _ _ h=>h) (M.sub _ (List.cons_sublist_cons.2 (List.nil_sublist _))) ?_; simp only [aP,lI,l0,lS]
        refine mayH (i:=13) (some 73) rfl false undef undef rfl rfl rfl (fun hc=>by cases hc) (by kernel_rfl) (by kernel_rfl) (by kernel_rfl) (fun _ _ _ h=>h) (M.sub _ (List.cons_sublist_cons.2 (List.nil_sublist _))) ?_; simp only [aP,lI,l0,lS]
        refine mayH (i:=14) (some 74) rfl false undef undef rfl rfl rfl (fun hc=>by cases hc) (by kernel_rfl) (by kernel_rfl) (by kernel_rfl) (fun _ _ _ h=>h) (M.sub _ (List.cons_sublist_cons.2 (List.nil_sublist _))) ?_; simp only [aP,lI,l0,lS]
        refine mayH (i:=15) (some 75) rfl false undef undef rfl rfl rfl (fun hc=>by cases hc) (by kernel_rfl) (by kernel_rfl) (by kernel_rfl) (fun _ _ _ h=>h) (M.sub _ (List.cons_sublist_cons.2 (List.nil_sublist _))) ?_; simp only [aP,lI,l0,lS]
        refine mayH (i:=16) (some 76) rfl false undef undef rfl rfl rfl (fun hc=>by cases hc) (by kernel_rfl) (by kernel_rfl) (by kernel_rfl) (fun _ _ _ h=>h) (M.sub _ (List.cons_sublist_cons.2 (List.nil_sublist _))) ?_; simp only [aP,lI,l0,lS]
        refine mayH (i:=17) (some 77) rfl false undef undef rfl rfl rfl (fun hc=>by cases hc) (by kernel_rfl) (by kernel_rfl) (by kernel_rfl) (fun _ _ _ h=>h) (M.sub _ (List.cons_sublist_cons.2 (List.nil_sublist _))) ?_; simp only [aP,lI,l0,lS]
        refine mayH (i:=18) (some 78) rfl false undef undef rfl rfl rfl (fun hc=>by cases hc) (by kernel_rfl) (by kernel_rfl) (by kernel_rfl) (fun _ _ _ h=>h) (M.sub _ (List.cons_sublist_cons.2 (List.nil_sublist _))) ?_; simp only [aP,lI,l0,lS]
        refine mayH (i:=19) (some 79) rfl false undef undef rfl rfl rfl (fun hc=>by cases hc) (by kernel_rfl) (by kernel_rfl) (by kernel_rfl) (fun _ _ _ h=>h) (M.sub _ (List.cons_sublist_cons.2 (List.nil_sublist _))) ?_; simp only [aP,lI,l0,lS]
        refine mayH (i:=20) (some 80) rfl false undef undef rfl rfl rfl (fun hc=>by cases hc) (by kernel_rfl) (by kernel_rfl) (by kernel_rfl) (fun _ _ _ h=>h) (M.sub _ (List.cons_sublist_cons.2 (List.nil_sublist _))) ?_; simp only [aP,lI,l0,lS]
        refine mayH (i:=21) (some 81) rfl false undef undef rfl rfl rfl (fun hc=>by cases hc) (by kernel_rfl) (by kernel_rfl) (by kernel_rfl) (fun _ _ _ h=>h) (M.sub _ (List.cons_sublist_cons.2 (List.nil_sublist _))) ?_; simp only [aP,lI,l0,lS]
        refine mayH (i:=22) (some 82) rfl false undef undef rfl rfl rfl (fun hc=>by cases hc) (by kernel_rfl) (by kernel_rfl) (by kernel_rfl) (fun _ _ _ h=>h) (M.sub _ (List.cons_sublist_cons.2 (List.nil_sublist _))) ?_; simp only [aP,lI,l0,lS]; refine xrH 23 83 rfl (.bool false) (fun _ hS=>(by kernel_rfl)) (M.sub _ (List.cons_sublist_cons.2 (List.nil_sublist _))) ?_
        refine xrH 24 84 rfl (.bool false) (fun _ hS=>(by kernel_rfl)) (M.sub _ (List.cons_sublist_cons.2 (List.nil_sublist _))) ?_
        refine wpAnyH_done (by kernel_rfl) ?_ _
        first | show Exit.then _ _ _ _ _ | show Exit.inBlock _ _ _ _ _
        replace M:Mm w0 ((B26,[.int .i64 ((onF (osl B K S) 1048576:Nat):Int),.slice p25 ((onB (osl B K S) 1048576:List Int).length) c25])::(ba2++([]:List (Nat × List Value)))) w28:=M.sub _ (List.cons_sublist_cons.2 ((List.Sublist.refl _).append (List.sublist_append_right _ _)))
        clear N_25 T_25; go_upto_region 19 with fail; refine wp_region_list ?_; refine xpL (.int .i64 ((S:Nat):Int)) ?_; refine xpL (.int .i64 ((T:Nat):Int)) ?_; refine xaL (.int .i64 ((T:Nat):Int)) (maxI .i64 .i64 _ _ _ _ _ _ _ rfl rfl rfl (by split <;> omega) _) ?_; refine xpL (.int .i64 ((T:Nat):Int)) ?_; refine xT ?_; go_upto_region 20 with fail; refine wp_region_list ?_
        refine xpL (.pointer (some ⟨Ra,0,none⟩)) ?_; have Mp:=M.perm (pull0 ([(B26,[.int .i64 ((onF (osl B K S) 1048576:Nat):Int),.slice p25 ((onB (osl B K S) 1048576:List Int).length) c25])]:List (Nat × List Value)) ba2 ([]:List (Nat × List Value)))
        have key:=hK.snt w0 _ _ (osl B K T) ba2 _ (osl_w hB hBl (by omega) (by omega) (by omega)) (show B.length<1000000 by omega) hIa Mp; clear Mp
        rw [show (osl B K T).sent=T from rfl] at key
        refine xcL key ?_; clear key; rintro e w29 ⟨rfl,l_⟩; replace M:=M.call l_; replace hIa:=hK.bel hIa l_; clear l_; refine xeL ?_; refine xpL (.int .i64 ((T:Nat):Int)) ?_; refine xaL (.bool false) (neqI .i64 _ _ _ _ _ _ rfl rfl rfl false (bne_self_eq_false _) _) ?_; refine xpL (.bool false) ?_; refine xpL (.pointer (some ⟨Ra,0,none⟩)) ?_
        have Mp:=M.perm (pull0 ([(B26,[.int .i64 ((onF (osl B K S) 1048576:Nat):Int),.slice p25 ((onB (osl B K S) 1048576:List Int).length) c25])]:List (Nat × List Value)) ba2 ([]:List (Nat × List Value))); have key:=hK.blk w0 _ _ (osl B K T) ba2 _ (osl_w hB hBl (by omega) (by omega) (by omega)) (show B.length<1000000 by omega) hIa Mp; clear Mp
        rw [osl_bl (B:=B) (L:=K) (S:=T) hTe] at key
        refine xcL key ?_; clear key; rintro e w30 ⟨rfl,l_⟩; replace M:=M.call l_; replace hIa:=hK.bel hIa l_; clear l_; refine xeL ?_; refine xpL (.int .i64 ((T:Nat):Int)) ?_; refine xpL (.slice sb B.length capb) ?_; refine xaL (.int .i64 ((B.length:Nat):Int)) (lenS _ 28 5 sb B.length capb rfl Try.underlying28 rfl _) ?_
        refine xaL (.bool (decide (T<B.length))) (lssI .i64 _ _ _ _ _ _ rfl rfl rfl (decide (T<B.length)) (by rw [decide_eq_decide]; omega) _) ?_; refine xaL (.bool false) (neqBo _ _ _ _ _ _ rfl rfl rfl (by kernel_rfl) false (by rw [beq_self_eq_true]; rfl) _) ?_; refine xpL (.bool false) ?_; refine xT ?_
        have HS:=show Hid _ from (show I w30 (.pointer (some ⟨Ra,0,none⟩)) (osl B K T) ba2∧Mm w0 (ba2++([]:List (Nat × List Value))) w30 from ⟨hIa,M.tail⟩); clear M hIa; go_wp2
        go_roundw
        case rel=>exact ⟨q+1,T,K,_,by omega,by omega,rfl,rfl,by go_num,by omega,by omega,hTe,HS.out⟩
        case measure=>simp [intOf]; omega
    | false =>
      try clear hb4
      try clear hb5
      try clear hb6
      go_upto_region 22 with fail; refine wp_region_list ?_; refine xpL (.bool true) ?_; refine xT ?_; have hbel:=M.below; clear M hIa; go_wp2; go_ret
      exact ⟨rfl,hbel⟩
section
section
variable {P:Program} {ops:Array Oper} {Q:Exit→Act→World→Prop} {md:Region.Mode} {S:World→Prop}
def Flt (P:Program) (ops:Array Oper) (Q:Exit→Act→World→Prop) (md:Region.Mode) (S:World→Prop) (z:Nat) (t:Tmp) (n w0 fuel:Nat):Nat→Array Bool→Act→Prop
 | 0,L,a=>Region.ready md ops L=[z]∧∀ B w,S w→Fb n w0 B w→wpAnyH P md ops Q S fuel (L.setIfInBounds z true) (a.put (some t) (.pointer (some ⟨B,0,none⟩))) w
 | k+1,L,a=>(∃ (c:Nat) (r:Tmp) (x:Oper) (f:FuncId) (g:Array Value) (V:Value→Prop),Region.ready md ops L=[c,z]∧Region.ready md ops (L.setIfInBounds z true)=[c]∧ops[c]?=some x∧x.guard=none∧x.dst=some r∧z≠c∧t≠r∧(∀ cs b,x.op≠.select cs b)∧t∉x.looksAt ops∧(∀ w,(execOp a.eval x).run P w=.ok (.enter f g) w) ∧
    (∀ w,S w→Calls P f g w fun e w'=>∃ v,e=.returned v∧V v∧Below w.heap.size w w')∧∀ v,V v→Flt P ops Q md S z t n w0 fuel k (L.setIfInBounds c true) (a.put (some r) v)) ∨
   ∃ (q:Nat) (r:Tmp) (x:Oper) (v:Value),ops[q]?=some x∧x.guard=none∧x.dst=some r∧z≠q∧t≠r∧(∀ cs b,x.op≠.select cs b)∧t∉x.looksAt ops∧(∀ w,(execOp a.eval x).run P w=.ok (.value v) w)∧Region.noSelect ops=true∧(Region.free md ops L q=true∧(Region.ready md ops L).contains q=true)∧(Region.free md ops (L.setIfInBounds z true) q=true∧(Region.ready md ops (L.setIfInBounds z true)).contains q=true) ∧
    (∀ c a w,Q (.panic c) (a.put (some r) v) w→Q (.panic c) a w)∧Flt P ops Q md S z t n w0 fuel k (L.setIfInBounds q true) (a.put (some r) v)
theorem Flt.last {z:Nat} {t:Tmp} {n w0 fuel:Nat} {L:Array Bool} {a:Act} (hr:Region.ready md ops L=[z]) (h:∀ B w,S w→Fb n w0 B w→wpAnyH P md ops Q S fuel (L.setIfInBounds z true) (a.put (some t) (.pointer (some ⟨B,0,none⟩))) w):Flt P ops Q md S z t n w0 fuel 0 L a:=⟨hr,h⟩
theorem Flt.call {z:Nat} {t:Tmp} {n w0 fuel k:Nat} {L:Array Bool} {a:Act} (c:Nat) (r:Tmp) {x:Oper} {f:FuncId} {g:Array Value} (V:Value→Prop) (hr:Region.ready md ops L=[c,z]) (hr':Region.ready md ops (L.setIfInBounds z true)=[c]) (hx:ops[c]?=some x) (hg:x.guard=none) (hd:x.dst=some r)
 (hz:z≠c) (ht:t≠r) (hs:∀ cs b,x.op≠.select cs b) (hl:t∉x.looksAt ops) (he:∀ w,(execOp a.eval x).run P w=.ok (.enter f g) w)
 (hc:∀ w,S w→Calls P f g w fun e w'=>∃ v,e=.returned v∧V v∧Below w.heap.size w w') (h:∀ v,V v→Flt P ops Q md S z t n w0 fuel k (L.setIfInBounds c true) (a.put (some r) v)):Flt P ops Q md S z t n w0 fuel (k+1) L a :=
 .inl ⟨c,r,x,f,g,V,hr,hr',hx,hg,hd,hz,ht,hs,hl,he,hc,h⟩
theorem Flt.read {z:Nat} {t:Tmp} {n w0 fuel k:Nat} {L:Array Bool} {a:Act} (q:Nat) (r:Tmp) {x:Oper} (v:Value) (hx:ops[q]?=some x) (hg:x.guard=none) (hd:x.dst=some r) (hz:z≠q) (ht:t≠r) (hs:∀ cs b,x.op≠.select cs b) (hl:t∉x.looksAt ops) (he:∀ w,(execOp a.eval x).run P w=.ok (.value v) w)
 (hn:Region.noSelect ops=true) (h1:Region.free md ops L q=true) (h2:(Region.ready md ops L).contains q=true) (h3:Region.free md ops (L.setIfInBounds z true) q=true) (h4:(Region.ready md ops (L.setIfInBounds z true)).contains q=true)
 (hQ:∀ c a w,Q (.panic c) (a.put (some r) v) w→Q (.panic c) a w) (h:Flt P ops Q md S z t n w0 fuel k (L.setIfInBounds q true) (a.put (some r) v)):Flt P ops Q md S z t n w0 fuel (k+1) L a :=
 .inr ⟨q,r,x,v,hx,hg,hd,hz,ht,hs,hl,he,hn,⟨h1,h2⟩,⟨h3,h4⟩,hQ,h⟩
theorem Flt.made {z:Nat} {t:Tmp} {n w0 fuel k:Nat} {L:Array Bool} {a:Act} (h:Flt P ops Q md S z t n w0 fuel k L a) (hSc:∀ w w',S w→Below w.heap.size w w'→S w') :
 ∀ B w,S w→Fb n w0 B w→wpAnyH P md ops Q S (fuel+k) (L.setIfInBounds z true) (a.put (some t) (.pointer (some ⟨B,0,none⟩))) w:=by
 induction k generalizing L a with
 | zero=>exact fun B w hS hB=>h.2 B w hS hB
 | succ k ih =>
   rcases h with ⟨c,r,x,f,g,V,_,hr',hx,hg,hd,hz,ht,hs,hl,he,hc,h'⟩ | ⟨q,r,x,v,hx,hg,hd,hz,ht,hs,hl,he,hn,_,⟨h3,h4⟩,hQ,h'⟩
   · intro B w hS hB
     refine wpAnyH_all hr' (by simp) fun j hj=>?_
     obtain rfl:=xm1 hj
     refine callOp hx hg (by rw [eval_one (ops:=ops) t _ hs hl]; exact he w) (hc w hS) fun e w' hR=>?_
     obtain ⟨v,rfl,hv,l⟩:=hR
     have hs1:=hSc _ _ hS l
     refine ⟨v,rfl,hs1,?_⟩
     rw [hd]
     refine wpAnyH_cast (ih (h' v hv) B w' hs1 (hB.call l)) ?_ ?_
     · rw [Array.setIfInBounds_comm _ _ hz]
     · rw [put_comm' _ _ _ ht]
   · intro B w hS hB
     refine readH (i:=q) (some r) hd v hx (by unfold Region.wanted; rw [hg]) (fun w' _=>by rw [eval_one (ops:=ops) t _ hs hl]; exact he w') hn h3 h4 hQ hS ?_
     refine wpAnyH_cast (ih h' B w hS hB) ?_ ?_
     · rw [Array.setIfInBounds_comm _ _ hz]
     · rw [put_comm' _ _ _ ht]
theorem Flt.go {z:Nat} {t:Tmp} {n w0 fuel k:Nat} {L:Array Bool} {a:Act} (h:Flt P ops Q md S z t n w0 fuel k L a) {xz:Oper} (cs:Array Value) (ty:TypeId) (iz:ops[z]?=some xz) (gz:xz.guard=none) (dz:xz.dst=some t)
 (ez:∀ (b:Act) (w:World),(execOp b.eval xz).run P w=.ok (.value (.pointer (some ⟨w.heap.size,0,none⟩))) (w.alloc (.cells cs ty)))
 (hn:∀ w:World,(w.alloc (.cells cs ty)).there w.heap.size 0 n) (hS0:∀ w,S w→w0≤w.heap.size) (hSc:∀ w w',S w→Below w.heap.size w w'→S w') :
 ∀ w,S w→wpAnyH P md ops Q S (fuel+k+1) L a w:=by
 have hSa:∀ w:World,S w→S (w.alloc (.cells cs ty)):=fun w h=>hSc w _ h ((Below.refl w.heap.size w).alloc (xnR _) _)
 have hNew:∀ w:World,S w→Fb n w0 w.heap.size (w.alloc (.cells cs ty)):=fun w h=>⟨hS0 w h,by simp,hn w⟩
 induction k generalizing L a with
 | zero =>
   intro w hS; refine wpAnyH_all h.1 (by simp) fun j hj=>?_
   obtain rfl:=xm1 hj
   refine allocOp iz gz (ez _ w) ?_
   rw [dz]
   exact ⟨hSa _ hS,h.2 _ _ (hSa _ hS) (hNew _ hS)⟩
 | succ k ih =>
   rcases h with ⟨c,r,x,f,g,V,hr,hr',hx,hg,hd,hz,ht,hs,hl,he,hc,h'⟩ | ⟨q,r,x,v,hx,hg,hd,hz,ht,hs,hl,he,hn',⟨h1,h2⟩,_,hQ,h'⟩
   · intro w hS
     refine wpAnyH_all hr (by simp) fun j hj=>?_
     simp only [List.mem_cons,List.not_mem_nil,or_false] at hj
     rcases hj with rfl | rfl
     · refine callOp hx hg (he w) (hc w hS) fun e w' hR=>?_
       obtain ⟨v,rfl,hv,l⟩:=hR
       have hs1:=hSc _ _ hS l
       refine ⟨v,rfl,hs1,?_⟩
       rw [hd]
       exact ih (h' v hv) w' hs1
     · refine allocOp iz gz (ez _ w) ?_
       rw [dz]
       exact ⟨hSa _ hS,Flt.made (Flt.call c r V hr hr' hx hg hd hz ht hs hl he hc h') hSc _ _ (hSa _ hS) (hNew _ hS)⟩
   · intro w hS
     exact readH (i:=q) (some r) hd v hx (by unfold Region.wanted; rw [hg]) (fun w' _=>he w') hn' h1 h2 hQ hS (ih h' w hS)
end
end
theorem Mm.land {w0 w:World} {l:List (Nat × List Value)} (M:Mm w0 l w) {n m B:Nat} (b:Fb n m B w) (hm:∀ p∈l,p.1<m) (h0:w0.heap.size≤m) (cs:List Value) (hc:cs.length=n):Mm w0 ((B,cs)::l) (w.setCells B 0 cs):=by
 have hlo:=b.lo
 have hM:Mm w0 ((B,(List.range n).map fun j=>(w.cell? ⟨B,j,none⟩).getD undef)::l) w:=by
  refine ⟨fun p hp=>?_,List.pairwise_cons.2 ⟨fun p hp e=>?_,M.apart⟩,M.below⟩
  · rcases xc1 hp with rfl | hp
    · refine ⟨fun j hj=>?_,by omega,b.hi⟩
      rw [List.length_map,List.length_range] at hj
      have h1:=b.th j hj
      rw [Nat.zero_add] at h1
      refine ⟨?_,h1.2⟩
      rw [List.getElem?_map,List.getElem?_range hj]
      obtain ⟨v,hv⟩:=Option.isSome_iff_exists.1 h1.1
      show w.cell? ⟨B,j,none⟩=some ((w.cell? ⟨B,j,none⟩).getD undef)
      rw [hv]
      rfl
    · exact M.rows p hp
  · have:=hm p hp
    have e':B=p.1:=e
    omega
 exact hM.setAll cs (by rw [List.length_map,List.length_range]; exact hc)
section
structure Wnd (w:World) (sp:Option Addr) (n cap:Nat) (f:Nat→Int):Prop where
 le:n≤cap
 mx:cap≤maxLen
 nl:sp=none→cap=0
 at_:∀ a,sp=some a→∃ g o,a=⟨g,o,none⟩∧g<w.heap.size∧(∀ j,j<n→w.cell? ⟨g,o+j,none⟩=some (.int .u8 (f j)))∧∀ j,j<cap→(w.cell? ⟨g,o+j,none⟩).isSome=true∧w.frozen? ⟨g,o+j,none⟩=false
section
variable {w w':World} {sp:Option Addr} {n cap:Nat} {f:Nat→Int}
theorem Wnd.nil (w:World) (f:Nat→Int):Wnd w none 0 0 f:=⟨xnR _,Nat.zero_le _,fun _=>rfl,fun _ h=>by cases h⟩
theorem Wnd.src (h:Wnd w sp n cap f):Src w sp n f:=fun j hj=>by
 cases sp with
 | none=>have:=h.nl rfl; have:=h.le; omega
 | some a =>
   obtain ⟨g,o,rfl,_,hc,_⟩:=h.at_ a rfl
   exact ⟨_,rfl,by rw [Addr.add_mid]; exact hc j hj⟩
theorem Wnd.lt (h:Wnd w sp n cap f):∀ b∈ob sp,b<w.heap.size:=fun b hb=>by
 cases sp with
 | none=>cases hb
 | some a =>
   obtain ⟨g,o,rfl,hl,_⟩:=h.at_ a rfl
   obtain rfl:=xm1 hb
   exact hl
theorem Wnd.off (h:Wnd w sp n cap f) {X:List Nat} (o:Off X w w') (hX:∀ b∈X,b∉ob sp):Wnd w' sp n cap f:=by
 refine ⟨h.le,h.mx,h.nl,fun a e=>?_⟩
 obtain ⟨g,k,e1,hl,hc,ht⟩:=h.at_ a e
 subst e; subst e1; have hb:=o.blk g hl fun hm=>hX _ hm mS
 have e1:∀ j,w'.cell? ⟨g,j,none⟩=w.cell? ⟨g,j,none⟩:=fun j=>World.cell?_of_block (a:=⟨g,j,none⟩) hb
 have e2:∀ j,w'.frozen? ⟨g,j,none⟩=w.frozen? ⟨g,j,none⟩:=fun j=>World.frozen?_of_block (a:=⟨g,j,none⟩) hb
 exact ⟨g,k,rfl,xnL hl o.size,fun j hj=>by rw [e1]; exact hc j hj,fun j hj=>by rw [e1,e2]; exact ht j hj⟩
theorem Wnd.bel (h:Wnd w sp n cap f) (l:Below w.heap.size w w'):Wnd w' sp n cap f:=h.off (X:=[]) (Off.of_below l) (fun _ hb=>by cases hb)
theorem Wnd.congr (h:Wnd w sp n cap f) {z:Nat→Int} (hz:∀ j,j<n→f j=z j):Wnd w sp n cap z:=by
 refine ⟨h.le,h.mx,h.nl,fun a e=>?_⟩
 obtain ⟨g,k,e1,hl,hc,ht⟩:=h.at_ a e
 exact ⟨g,k,e1,hl,fun j hj=>by rw [← hz j hj]; exact hc j hj,ht⟩
theorem Wnd.ofOwn {e:TypeId} {base:Nat} (h:Own w base e .u8 n f (.slice sp n cap)):Wnd w sp n cap f:=by
 rcases h.2 with ⟨hv,hn⟩ | ⟨g,c,cur,hv,_,hg,hc,hm,hs,ht⟩
 · injection hv with h1 h2 h3
   subst h1; subst h3; subst hn
   exact Wnd.nil w f
 · injection hv with h1 _ h3
   subst h1; subst h3
   refine ⟨hc,hm,fun e=>(by cases e),fun a e=>?_⟩
   injection e with e
   subst e
   refine ⟨g,0,rfl,(Array.getElem?_eq_some_iff.1 hg).1,fun j hj=>?_,fun j hj=>⟨?_,?_⟩⟩
   · have:=World.ownsRow.cells h (g:=g) rfl j (.int .u8 (f j)) (row_get .u8 n f j hj)
     rw [Addr.add_mid] at this
     exact this
   · unfold World.cell?
     rw [hg]
     simp
     omega
   · unfold World.frozen?
     rw [hg]
     simp
def slc (sp:Option Addr) (cap m:Nat):Option Addr:=if cap=m then sp else sp.map (·.add (m*1))
theorem slc_run {P:Program} {t:TypeId} (ht:P.underlying t=some (.slice (P.elem t))) (hsz:∀ w,(sizeOf (P.elem t)).run P w=.ok 1 w) (sp:Option Addr) (n cap m:Nat) (hm:m≤n) (w:World):(Instr.sliceAt t (.slice sp n cap) (some (.int .i64 (m:Int))) none none).run P w=.ok (.slice (slc sp cap m) (n-m) (cap-m)) w:=by
 rw [run_sliceAt_slice w t _ _ _ _ ht,run_slice_l w t sp n cap ht .i64 (m:Int) (by omega) (by omega),hsz]
 simp only [Result.andThen,sliced,Int.toNat_natCast,slc]
theorem slc_ob (sp:Option Addr) (cap m:Nat):ob (slc sp cap m)=ob sp:=by
 unfold slc
 split
 · rfl
 · cases sp with
   | none=>rfl
   | some a=>show [(a.add (m*1)).block]=[a.block]; rw [add_block]
theorem slc_obs (sp:Option Addr) (cap m:Nat):obs (slc sp cap m)=obs sp:=by unfold obs; rw [slc_ob]
theorem Wnd.cut (h:Wnd w sp n cap f) {m:Nat} (hm:m≤n):Wnd w (slc sp cap m) (n-m) (cap-m) (fun j=>f (m+j)):=by
 have hle:=h.le; have hmx:=h.mx
 refine ⟨by omega,by omega,fun e=>?_,fun a e=>?_⟩
 · unfold slc at e
   split at e
   · omega
   · cases sp with
     | none=>have:=h.nl rfl; omega
     | some ad=>cases e
 · unfold slc at e
   split at e
   · obtain ⟨g,k,e1,hl,_,_⟩:=h.at_ a e
     exact ⟨g,k,e1,hl,fun j hj=>by omega,fun j hj=>by omega⟩
   · cases sp with
     | none=>cases e
     | some ad =>
       obtain ⟨g,k,e1,hl,hc,ht⟩:=h.at_ ad rfl
       subst e1
       injection e with e
       replace e:(⟨g,k,none⟩:Addr).add (m*1)=a:=e
       rw [Addr.add_mid,Nat.mul_one] at e
       subst e
       exact ⟨g,k+m,rfl,hl,fun j hj=>by rw [Nat.add_assoc]; exact hc _ (by omega),fun j hj=>by rw [Nat.add_assoc]; exact ht _ (by omega)⟩
end
section
variable {P:Program}
theorem run_append_Wnd {w:World} {t ty e:TypeId} {n cap:Nat} {f:Nat→Int} {sp:Option Addr} (ht:P.underlying t=some (.slice e)) (he:One P e .u8 1) (h:Wnd w sp n cap f)
 (sq:Option Addr) (m c:Nat) (z:Nat→Int) (hs:Src w sq m z) (hz:sq=none→c=0) (hb:n+m≤100000000) :
 ∃ sp' cap' w',(Builtin.append_ #[t,t] ty #[.slice sp n cap,.slice sq m c]).run P w=.ok (.slice sp' (n+m) cap') w'∧Wnd w' sp' (n+m) cap' (app f n z)∧w.grownBy w' (sp.map (·.block))∧∀ b∈ob sp',b∈ob sp∨w.heap.size≤b:=by
 obtain ⟨i,hi,hq⟩:=Option.map_eq_some_iff.1 he.info
 simp only [Prod.mk.injEq] at hq
 obtain ⟨h1,h2,h3⟩:=hq
 have hle:=h.le
 have hnew:Go.Src P i.size t (.slice sq m c) m (row .u8 m z) w:=by
  cases sq with
  | none =>
    have hm:m=0:=by
     rcases Nat.eq_zero_or_pos m with h0 | h0
     · exact h0
     · obtain ⟨ad,e,_⟩:=hs 0 h0; cases e
    subst hm
    exact Go.Src.ofNil w ht c
  | some ad =>
    exact Go.Src.ofSlice w ht ad m c (row .u8 m z) (by rw [row_length,h3,Nat.mul_one]) (fun j u hu=>by
     obtain ⟨hj,rfl⟩:=row_get_some hu
     obtain ⟨ad',e',hc⟩:=hs j hj
     injection e' with e'
     subst e'
     exact hc) (row_one .u8 m z)
 by_cases hm:m=0
 · subst hm
   refine ⟨sp,cap,w,?_,?_,⟨rfl,rfl,rfl,xnR _,fun _ _ _=>rfl⟩,fun b hb=>.inl hb⟩
   · exact run_append_nothing w t t ty e i ht hi sp n cap hle _ hnew
   · exact h.congr fun j hj=>by unfold app; rw [if_pos hj]
 · by_cases hr:n+m≤cap
   · cases sp with
     | none=>have:=h.nl rfl; omega
     | some a =>
       obtain ⟨g,o,rfl,hl,hc,hth⟩:=h.at_ a rfl
       have hrun:=run_append_room_src (P:=P) w t t ty e i ht hi g o n cap _ m _ hnew hr (fun j hj=>by rw [row_length] at hj; rw [h3,Nat.mul_one,Nat.add_assoc]; exact (hth (n+j) (by omega)).1) (fun j hj=>by rw [row_length] at hj; rw [h3,Nat.mul_one,Nat.add_assoc]; exact (hth (n+j) (by omega)).2)
       rw [h3,Nat.mul_one] at hrun
       have hlb:=below_setAll (Below.refl 0 w) g (Nat.zero_le _) (o+n) (row .u8 m z)
       refine ⟨_,cap,_,hrun,⟨hr,h.mx,fun e=>(by cases e),fun a e=>?_⟩,⟨hlb.os,hlb.tape,hlb.output,hlb.size,fun k hk hne=>?_⟩,fun b hb=>.inl hb⟩
       · injection e with e
         subst e
         refine ⟨g,o,rfl,by rw [size_setAll]; exact hl,fun j hj=>?_,fun j hj=>⟨World.isSome_setCells g _ _ _ _ (hth j hj).1,by rw [World.frozen?_setCells]; exact (hth j hj).2⟩⟩
         by_cases hjn:j<n
         · rw [World.cell?_setCells_out g _ _ _ _ (fun _ _=>.inl (by simp only; omega)),hc j hjn]
           unfold app
           rw [if_pos hjn]
         · have:=World.cell?_setCells_in g (row .u8 m z) (o+n) w (fun j hj=>by rw [row_length] at hj; rw [Nat.add_assoc]; exact (hth (n+j) (by omega)).1) (j-n) (by rw [row_length]; omega)
           rw [show o+n+(j-n)=o+j by omega] at this
           rw [this]
           have e2:=row_get .u8 m z (j-n) (by omega)
           rw [List.getElem?_eq_getElem (by rw [row_length]; omega)] at e2
           rw [e2]
           unfold app
           rw [if_neg hjn]
       · exact ((Off.refl [g] w).setAll mS (o+n) (row .u8 m z)).blk k hk fun hm=>hne (by rw [xm1 hm]; rfl)
   · have hold:(Builtin.firstCells i.size n (.slice sp n cap)).run P w.drew=.ok (row .u8 n f).toArray w.drew:=by
      cases sp with
      | none =>
        have:=h.nl rfl
        obtain rfl:n=0:=by omega
        exact run_firstCells_none w.drew i.size 0 0 cap
      | some a =>
        exact run_firstCells_some w.drew i.size n a n cap (row .u8 n f) (by rw [row_length,h3,Nat.mul_one]) (fun j u hu=>by
         obtain ⟨hj,rfl⟩:=row_get_some hu
         obtain ⟨ad,e,hc⟩:=h.src j hj
         injection e with e
         subst e
         exact hc)
     have hrun:=run_append_grow_src (P:=P) w t t ty e i (.int .u8 0) ht hi h1 sp n cap (row .u8 n f) hold _ m _ hnew (by omega) (by omega) (growslice_fits (by omega) (by rw [h2]; omega)); have hge:=grownCap_ge w (n+m) cap e; have hcm:=grownCap_le_maxLen w (n+m) cap e (by unfold maxLen; omega)
     have hown:Own (w.drew.alloc (.cells ((row .u8 n f++row .u8 m z).toArray++Builtin.zeroCells (Value.int .u8 0).cells (grownCap w (n+m) cap e-(n+m))) e)) 0 e .u8 (n+m) (app f n z) (.slice (some ⟨w.heap.size,0,none⟩) (n+m) (grownCap w (n+m) cap e)):=by
      have hL:(row .u8 n f++row .u8 m z).length=n+m:=by rw [List.length_append,row_length,row_length]
      unfold Own
      rw [← row_app]
      refine ⟨by rw [hL,Nat.mul_one],.inr ⟨w.heap.size,_,_,rfl,Nat.zero_le _,heap_alloc_new w.drew _,hge,hcm,?_,?_⟩⟩
      · rw [Array.size_append,List.size_toArray,hL,size_zeroCells]
        show n+m+(_-(n+m))*1=_
        omega
      · rw [Array.toList_append,Nat.mul_one]
        have e2:∀ (A B:List Value) (k:Nat),A.length=k→(A++B).take k=A:=fun A B k hk=>by subst hk; exact List.take_left
        exact e2 _ _ _ hL
     refine ⟨_,_,_,hrun,Wnd.ofOwn hown,⟨rfl,rfl,rfl,by simp,fun k hk _=>Below.heap_alloc w.drew _ k hk⟩,fun b hb=>.inr ?_⟩
     rw [xm1 hb]
     exact xnR _
end
theorem Mm.rep18 {w0 w w2:World} {l:List (Nat × List Value)} {sp sq:Option Addr} (M:Mm w0 (obs sp++l) w) (hg:w.grownBy w2 (sp.map (·.block))) (hl:∀ b∈ob sq,b<w2.heap.size) (hq:∀ b∈ob sq,b∈ob sp∨w.heap.size≤b):Mm w0 (obs sq++l) w2:=by
 have Ml:Mm w0 l w:=M.sub _ (List.sublist_append_right _ _)
 have hap:∀ b∈ob sp,w0.heap.size≤b∧∀ p∈l,p.1≠b:=fun b hb=>by
  have hm:(b,[])∈obs sp:=List.mem_map.2 ⟨b,hb,rfl⟩
  refine ⟨(M.rows _ (List.mem_append_left _ hm)).2.1,fun p hp e=>?_⟩
  exact (List.pairwise_append.1 M.apart).2.2 (b,[]) hm p hp e.symm
 have Ml2:=Ml.grownN hg (fun b hb=>hap b (by
  cases sp with
  | none=>cases hb
  | some a=>injection hb with hb; subst hb; exact mS))
 cases sq with
 | none=>exact Ml2
 | some a =>
   have h1:=hq a.block mS
   exact Ml2.addB (by
    rcases h1 with h | h
    · exact (hap _ h).1
    · exact xnT Ml.below.size h) (hl _ mS) fun p hp e=>by
      rcases h1 with h | h
      · exact (hap _ h).2 p hp e
      · have:=(Ml.rows p hp).2.2
        omega
theorem Off.rep18 {w w1 w2:World} {X:List Nat} {sp:Option Addr} (h:Off X w w1) (g:w1.grownBy w2 (sp.map (·.block))) (hX:∀ b∈ob sp,b∈X∨w.heap.size≤b):Off X w w2:=h.grown g fun b hb=>hX b (by
 cases sp with
 | none=>cases hb
 | some a=>injection hb with hb; subst hb; exact mS)
theorem Wnd.wrt {w:World} {sp:Option Addr} {n cap:Nat} {f:Nat→Int} (h:Wnd w sp n cap f):Wrt w sp n:=fun j hj=>by
 have hle:=h.le
 cases sp with
 | none=>have:=h.nl rfl; omega
 | some a =>
   obtain ⟨g,o,rfl,_,_,ht⟩:=h.at_ a rfl
   exact ⟨_,rfl,by rw [Addr.add_mid]; exact ht j (by omega)⟩
theorem Wnd.newF {w:World} {base:Nat} {sp:Option Addr} {n cap:Nat} {f:Nat→Int} (h:Wnd w sp n cap f) (hb:∀ b∈ob sp,base≤b):NewF w base n f (.slice sp n cap):=⟨sp,cap,rfl,h.le,h.nl,h.src,fun a e=>by
 subst e
 exact ⟨hb _ mS,h.lt _ mS⟩⟩
theorem Mm.wnd {w0 w:World} {l:List (Nat × List Value)} {B n:Nat} {f:Nat→Int} (M:Mm w0 ((B,row .u8 n f)::l) w) (hn:n≤maxLen):Wnd w (some ⟨B,0,none⟩) n n f:=by
 have h:=M.rows _ mS
 refine ⟨xnR _,hn,fun e=>(by cases e),fun a e=>?_⟩
 injection e with e
 subst e
 have hc:∀ j,j<n→w.cell? ⟨B,0+j,none⟩=some (.int .u8 (f j)):=fun j hj=>by
  rw [Nat.zero_add,(h.1 j (by rw [row_length]; exact hj)).1]
  exact row_get .u8 n f j hj
 exact ⟨B,0,rfl,h.2.2,hc,fun j hj=>⟨by rw [hc j hj]; rfl,by rw [Nat.zero_add]; exact (h.1 j (by rw [row_length]; exact hj)).2⟩⟩
theorem Mm.newO {w0 w w':World} {l:List (Nat × List Value)} {sp:Option Addr} (M:Mm w0 l w) (b:Below w.heap.size w w') (h:∀ x∈ob sp,w.heap.size≤x∧x<w'.heap.size):Mm w0 (obs sp++l) w':=by
 cases sp with
 | none=>exact M.call b
 | some a =>
   have h1:=h a.block mS
   exact (M.call b).addB (xnT M.below.size h1.1) h1.2 fun p hp e=>by
    have:=(M.rows p hp).2.2
    omega
theorem Off.andR {X:List Nat} {w w1 w2:World} {R:Nat} {sp:Option Addr} (h:Off X w w1) (g:Off (R::ob sp) w1 w2) (hR:R∈X) (hL:Lies X w sp):Off X w w2 :=
 ⟨xnT h.size g.size,fun b hb hX=>(g.blk b (xnL hb h.size) (fun hm=>by
  rcases xc1 hm with rfl | hm
  · exact hX hR
  · rcases hL b hm with c | c
    · exact hX c
    · omega)).trans (h.blk b hb hX)⟩
theorem Lies.rep {X:List Nat} {w w1:World} {sp sq:Option Addr} (h:Lies X w sp) (g:∀ b,b∈ob sq→b∈ob sp∨w1.heap.size≤b) (hs:w.heap.size≤w1.heap.size):Lies X w sq:=fun b hb=>(g b hb).elim (h b) fun c=>.inr (xnT hs c)
theorem Mm.awayRO {w0 w:World} {R:Nat} {cs:List Value} {t:List (Nat × List Value)} {so sp:Option Addr} (h:Mm w0 ((R,cs)::(obs so++t)) w) (hs:∀ p∈obs sp,p∈t):∀ b∈R::ob so,b∉ob sp:=fun b hb=>by
 rcases xc1 hb with rfl | hb
 · exact h.awayB fun p hp=>List.mem_append_right _ (hs p hp)
 · exact (h.sub _ (List.sublist_cons_self _ _)).awayO hs b hb
theorem run_copy_wnd {P:Program} {o:Oper} {a:Act} {w:World} (d s:Operand) (dT sT elem:TypeId) (ho:o.op=.call { callee:=.builtin .copy,args:=#[d,s],argTypes:=#[dT,sT] }) (hu:P.underlying dT=some (.slice elem)) (hsz:(P.info? elem).map (·.size)=some 1)
 (b dLen dCap sLen sCap m:Nat) (z:Nat→Int) (sp:Option Addr) (hd:a.eval d=.slice (some ⟨b,0,none⟩) dLen dCap) (hs:a.eval s=.slice sp sLen sCap) (hmin:m=Nat.min sLen dLen) (hb:w.there b 0 m) (hc:Src w sp m z) :
 (execOp a.eval o).run P w=.ok (.value (.int .i64 (m:Int))) (w.setCells b 0 (row .u8 m z)):=by
 cases sp with
 | none =>
   have h0:m=0:=by
    rcases Nat.eq_zero_or_pos m with c | c
    · exact c
    · obtain ⟨ad,e,_⟩:=hc 0 c; cases e
   subst h0; have hrun:=run_copy_none (P:=P) w dT sT o.type elem (some ⟨b,0,none⟩) none dLen dCap sLen sCap hu hsz hmin.symm
   simp [execOp,ho,resolve,invoke,builtin,hd,hs,hrun,Result.andThen,goInt,row,World.setCells]
 | some ad=>exact run_copy_part d s dT sT elem ho hu hsz b dLen dCap sLen sCap m z ad hd hs hmin hb hc
end
theorem bl_takeN {b:List Int} {k j:Nat} (h:j<k):bl (b.take k) j=bl b j:=by
 unfold bl
 rw [List.getD_eq_getElem?_getD,List.getD_eq_getElem?_getD,List.getElem?_take_of_lt h]
theorem owr_bl (o:Obx) (b:List Int) (j:Nat) (h:j<(owr o b).b.length):app (bl o.b) o.b.length (bl b) j=bl (owr o b).b j:=by
 show _=bl (o.b++b.take (owN o b.length)) j
 rw [owr_len] at h
 rw [bl_app]
 unfold app
 split
 · rfl
 · rw [bl_takeN (by omega)]
def okk (o:Obx) (p:Int) (i:Nat):Nat:=min (i-onA o) (onK o p)
def kag (o:Obx) (k:Nat):Nat→Bool:=fun j=>o.ag j&&!decide (onA o≤j∧j<onA o+k)
def onM (o:Obx) (p:Int):Nat:=min p.toNat (onT o-o.sent)
theorem onB_again {o:Obx} {p:Int} (hp:¬ p<1) (hA:onA o<o.b.length):okk o p o.b.length=onK o p∧0<onK o p∧onN o p=onK o p∧onF o p=onA o∧(onB o p).length=onK o p∧∀ j,j<onK o p→bl o.b (onA o+j)=bl (onB o p) j:=by
 have hk:=onK_pos (o:=o) (most:=p) hA hp; have hle:=onK_le o p
 have e1:onN o p=onK o p:=by unfold onN; rw [if_neg hp,if_pos hA]
 have e2:onF o p=onA o:=by unfold onF; rw [e1,if_neg (by omega),if_pos hA]
 refine ⟨by unfold okk; omega,hk,e1,e2,?_,fun j hj=>?_⟩
 · unfold onB
   rw [e1,e2,List.length_take,List.length_drop]
   omega
 · unfold onB
   rw [e1,e2,bl_takeN hj]
   unfold bl
   rw [List.getD_eq_getElem?_getD,List.getD_eq_getElem?_getD,List.getElem?_drop]
theorem onB_new {o:Obx} {p:Int} (hw:ObxW o) (hp:¬ p<1) (hA:¬ onA o<o.b.length):okk o p o.b.length=0∧onN o p=onM o p∧(0<onM o p→onF o p=o.sent)∧(onM o p=0→onF o p=0)∧(onB o p).length=onM o p∧o.sent+onM o p≤o.b.length∧∀ j,j<onM o p→bl o.b (o.sent+j)=bl (onB o p) j:=by
 have hle:=onK_le o p; have hAl:=onA_le o; have hst:=hw.st
 have e1:onN o p=onM o p:=by unfold onN; rw [if_neg hp,if_neg hA]; rfl
 have e2:0<onM o p→onF o p=o.sent:=fun h=>by unfold onF; rw [e1,if_neg (by omega),if_neg hA]
 have e3:onM o p=0→onF o p=0:=fun h=>by unfold onF; rw [e1,if_pos h]
 have e4:o.sent+onM o p≤o.b.length:=by unfold onM onT; omega
 refine ⟨by unfold okk; omega,e1,e2,e3,?_,e4,fun j hj=>?_⟩
 · unfold onB
   rw [e1,List.length_take,List.length_drop]
   rcases Nat.eq_zero_or_pos (onM o p) with c | c
   · rw [c]; omega
   · rw [e2 c]; omega
 · unfold onB
   rw [e1,e2 (by omega),bl_takeN hj]
   unfold bl
   rw [List.getD_eq_getElem?_getD,List.getD_eq_getElem?_getD,List.getElem?_drop]
theorem onx_again {o:Obx} {p:Int} (hp:¬ p<1) (hA:onA o<o.b.length):onx o p={ o with ag:=kag o (onK o p) }:=by unfold onx; rw [if_neg hp,if_pos hA]; rfl
theorem onx_new {o:Obx} {p:Int} (hp:¬ p<1) (hA:¬ onA o<o.b.length):onx o p={ o with sent:=o.sent+onM o p }:=by unfold onx; rw [if_neg hp,if_neg hA]; rfl
theorem on_none {o:Obx} {p:Int} (hp:p<1):onx o p=o∧onN o p=0∧onF o p=0∧onB o p=[]:=by
 have e1:onN o p=0:=if_pos hp
 refine ⟨if_pos hp,e1,by unfold onF; rw [if_pos e1],by unfold onB; rw [e1,List.take_zero]⟩
end Go.Proofs.Ytpdpfdelglgfnaa
