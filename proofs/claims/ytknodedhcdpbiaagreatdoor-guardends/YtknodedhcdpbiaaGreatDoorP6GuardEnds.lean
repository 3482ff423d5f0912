/- Texts of Xf Gj, joined. -/
import Derived.Test.YtknodedhcdpbiaaGreatDoorP5GuardEnds
set_option maxRecDepth 20000
set_option maxHeartbeats 64000000
namespace Go.Proofs.YtknodedhcdpbiaaGreatDoor
open Go.RowKit
def pk0:Pkt:=⟨0,0,0,0,0,[]⟩
def psP (b:List Int):Pkt:=match pps b with
 | .ok p=>p
 | .error _=>pk0
def psE (b:List Int):Int:=match pps b with
 | .ok _=>0
 | .error e=>e
def ParseOK:Prop:=∀ (sp:Option Addr) (cap:Nat) (b:List Int) (w:World),PG w→b.length≤140737488351232→b.length≤cap→(sp=none→cap=0)→Byts b→Src w sp b.length (bl b)→Calls Tryz.prog 29 #[.slice sp b.length cap] w fun e w'=>(∃ bp bc,e=.returned (.tuple #[.agg (pcs (psP b) bp bc).toArray,.int .i64 (psE b)])∧PV w' (psP b) bp bc)∧Below w.heap.size w w'
theorem pv0 (w:World):PV w pk0 none 0:=⟨fun j hj=>absurd hj (xnZ j),xnR _,fun _=>rfl,Nat.zero_le _,fun x hx=>(by cases hx),show i64 0 by unfold i64; decide,show i64 0 by unfold i64; decide,show i64 0 by unfold i64; decide,show i64 0 by unfold i64; decide,show i64 0 by unfold i64; decide⟩
theorem ps_err {b:List Int} {e:Int} (h:pps b=.error e):psP b=pk0∧psE b=e:=by unfold psP psE; rw [h]; exact ⟨rfl,rfl⟩
theorem ps_ok {b:List Int} {p:Pkt} (h:pps b=.ok p):psP b=p∧psE b=0:=by unfold psP psE; rw [h]; exact ⟨rfl,rfl⟩
theorem pps_short {b:List Int} (h:b.length=0∨(bl b 0=3∧b.length<27)):pps b=.error 3:=by unfold pps; rw [if_pos h]
theorem pps_bad {b:List Int} (h:¬ (b.length=0∨(bl b 0=3∧b.length<27))) (ho:pok (prs b)=false):pps b=.error 110:=by unfold pps; rw [if_neg h,ho]; rfl
theorem pps_good {b:List Int} (h:¬ (b.length=0∨(bl b 0=3∧b.length<27))) (ho:pok (prs b)=true):pps b=.ok (prs b):=by unfold pps; rw [if_neg h,if_pos ho]
theorem bl_succ (x:Int) (t:List Int) (j:Nat):bl (x::t) (1+j)=bl t j:=by rw [Nat.add_comm]; rfl
theorem i64_byte {x:Int} (h:0≤x∧x<256):i64 x:=by unfold i64; omega
theorem fV_i64 (z:Nat→Int) (s:Nat) (hs:s≤6) (hz:In 256 s z):i64 (fV z s):=by
 have h1:=fV_nonneg z s hz s (xnR s)
 have h2:(256:Int)^s≤281474976710656:=by
  have:s=0∨s=1∨s=2∨s=3∨s=4∨s=5∨s=6:=by omega
  rcases this with rfl | rfl | rfl | rfl | rfl | rfl | rfl <;> decide
 unfold i64
 omega
theorem rparse_any (sp:Option Addr) (cap:Nat) (b:List Int) (w:World) (hlen:b.length≤140737488351232) (hcap:b.length≤cap) (hnil:sp=none→cap=0) (hb:Byts b) (hs:Src w sp b.length (bl b)):Calls Tryz.prog 28 #[.slice sp b.length cap] w fun e w'=>(∃ bp bc,e=.returned (.tuple #[.agg (pcs (psP b) bp bc).toArray,.int .i64 (psE b)])∧PV w' (psP b) bp bc)∧Below w.heap.size w w':=by
 have M:=Mm.init w
 go_enter Tryz.func28,Tryz.ntmps28
 go_upto_region 0 with fail; refine wp_region_list ?_; refine actL (w':=w.alloc (.cells #[.int .i64 0,.int .i64 0,.int .i64 0,.int .i64 0,.int .i64 0,.slice none 0 0] 70)) (.pointer (some ⟨w.heap.size,0,none⟩)) rfl (by kernel_rfl) ?_; simp only [aP,lI,l0,lS]
 have hB_B1:w.heap.size≤w.heap.size:=M.below.size
 replace M:=M.box #[.int .i64 0,.int .i64 0,.int .i64 0,.int .i64 0,.int .i64 0,.slice none 0 0] 70 w.heap.size rfl; generalize w.alloc (.cells #[.int .i64 0,.int .i64 0,.int .i64 0,.int .i64 0,.int .i64 0,.slice none 0 0] 70)=w1 at M  ⊢; generalize eB:w.heap.size=B1 at M hB_B1  ⊢
 have hE_B1:w.heap.size≤B1:=Nat.le_of_eq eB
 have hF_B1:B1≤w.heap.size:=Nat.le_of_eq eB.symm
 clear eB
 replace M:Mm w ([(B1,[.int .i64 0,.int .i64 0,.int .i64 0,.int .i64 0,.int .i64 0,.slice none 0 0])]) w1:=M
 refine xpL (.int .i64 0) ?_; refine xT ?_
 cases b with
 | nil =>
   have hQ:=show Hid _ from ps_err (pps_short (b:=[]) (.inl rfl)); go_upto_region 1 with fail; refine wp_region_list ?_; refine xpL (.slice sp 0 cap) ?_; refine xaL (.int .i64 ((0:Nat):Int)) (lenS _ 29 5 sp 0 cap rfl Tryz.underlying29 rfl _) ?_; refine xaL (.bool true) (eqlI .i64 _ _ _ _ _ _ rfl rfl rfl true rfl _) ?_; refine xpL (.bool true) ?_
   with_reducible refine skipL ?_ ?_
   · rfl
   simp only [aP,lI,l0,lS]
   with_reducible refine skipL ?_ ?_
   · rfl
   simp only [aP,lI,l0,lS]
   with_reducible refine skipL ?_ ?_
   · rfl
   simp only [aP,lI,l0,lS]
   with_reducible refine skipL ?_ ?_
   · rfl
   simp only [aP,lI,l0,lS]
   with_reducible refine skipL ?_ ?_
   · rfl
   simp only [aP,lI,l0,lS]
   with_reducible refine skipL ?_ ?_
   · rfl
   simp only [aP,lI,l0,lS]
   with_reducible refine skipL ?_ ?_
   · rfl
   simp only [aP,lI,l0,lS]
   with_reducible refine skipL ?_ ?_
   · rfl
   simp only [aP,lI,l0,lS]
   with_reducible refine skipL ?_ ?_
   · rfl
   simp only [aP,lI,l0,lS]; refine xpL (.bool true) ?_; refine xT ?_; go_upto_region 2 with fail; refine wp_region_list ?_; refine xpL (.agg #[.int .i64 0,.int .i64 0,.int .i64 0,.int .i64 0,.int .i64 0,.slice none 0 0]) ?_
   refine skipOpL rfl (storeP [.int .i64 0,.int .i64 0,.int .i64 0,.int .i64 0,.int .i64 0,.slice none 0 0] B1 0 70 _ _ rfl rfl rfl (M.thereP mS 0 6 (Nat.le_of_ble_eq_true rfl)) (by kernel_rfl) (List.all_eq_true.1 (rfl:([.int .i64 0,.int .i64 0,.int .i64 0,.int .i64 0,.int .i64 0,.slice none 0 0]:List Value).all (fun u=>u.oneCell')=true))) ?_; simp only [Act.put]
   replace M:=M.setPart [.int .i64 0,.int .i64 0,.int .i64 0,.int .i64 0,.int .i64 0,.slice none 0 0] 0 (Nat.le_of_ble_eq_true rfl); generalize w1.setCells B1 0 [.int .i64 0,.int .i64 0,.int .i64 0,.int .i64 0,.int .i64 0,.slice none 0 0]=w2 at M  ⊢
   replace M:Mm w ([(B1,[.int .i64 0,.int .i64 0,.int .i64 0,.int .i64 0,.int .i64 0,.slice none 0 0])]) w2:=M
   refine xpL (.int .i64 3) ?_; refine xT ?_; have hpv:=show Hid _ from (pv0 w2); have c1_:=M.part mS 0 (pcs pk0 none 0) rfl; have hM:=M.below; clear M; go_wp2; refine bodyPost_ret (v:=.tuple #[.agg (pcs pk0 none 0).toArray,.int .i64 3]) (retCellTmp 2 3 70 ⟨B1,0,none⟩ (pcs pk0 none 0) _ rfl rfl rfl (fun _=>by kernel_rfl) (fun _=>by kernel_rfl) c1_) rfl ?_
   exact ⟨⟨_,_,by rw [hQ.out.1,hQ.out.2],by rw [hQ.out.1]; exact hpv.out⟩,hM⟩
 | cons x bt =>
   obtain ⟨ad,rfl,_⟩:=hs 0 (by simp)
   have hx:=hb x mS; have hbt:=hb.tail
   rw [List.length_cons] at hs hlen hcap
   by_cases h3:x=3
   · by_cases h27:bt.length+1<27
     · have hQ:=show Hid _ from ps_err (pps_short (b:=x::bt) (.inr ⟨h3,by rw [List.length_cons]; omega⟩))
       go_upto_region 1 with fail; refine wp_region_list ?_; refine xpL (.slice (some ad) (bt.length+1) cap) ?_; refine readL (.int .i64 (((bt.length+1):Nat):Int)) rfl (lenS _ 29 5 (some ad) (bt.length+1) cap rfl Tryz.underlying29 rfl _) ?_; simp only [aP,lI,l0,lS]; refine xaL (.bool false) (eqlI .i64 _ _ _ _ _ _ rfl rfl rfl false (by simp; omega) _) ?_; refine xpL (.bool false) ?_
       refine xpL (.slice (some ad) (bt.length+1) cap) ?_; refine xaL (.pointer (some (ad.add 0))) (idxSl 29 5 (bt.length+1) cap .i64 ad 0 _ _ Tryz.underlying29 (fun _=>by kernel_rfl) (by omega) rfl rfl rfl _) ?_; refine xaL (.int .u8 x) (load1 5 _ (ad.add 0) _ rfl rfl (fun _=>by kernel_rfl) ((hs.below M.below (xnR _)).at 0 (by omega))) ?_
       refine xaL (.bool true) (eqlI .u8 _ _ _ _ _ _ rfl rfl rfl true (by rw [h3]; rfl) _) ?_; refine xpL (.bool true) ?_; refine xpL (.slice (some ad) (bt.length+1) cap) ?_; refine readL (.int .i64 (((bt.length+1):Nat):Int)) rfl (lenS _ 29 5 (some ad) (bt.length+1) cap rfl Tryz.underlying29 rfl _) ?_; simp only [aP,lI,l0,lS]
       refine xaL (.bool true) (lssI .i64 _ _ _ _ _ _ rfl rfl rfl true (decide_eq_true (by omega)) _) ?_; refine xpL (.bool true) ?_; refine xpL (.bool true) ?_; refine xT ?_; go_upto_region 2 with fail; refine wp_region_list ?_; refine xpL (.agg #[.int .i64 0,.int .i64 0,.int .i64 0,.int .i64 0,.int .i64 0,.slice none 0 0]) ?_
       refine skipOpL rfl (storeP [.int .i64 0,.int .i64 0,.int .i64 0,.int .i64 0,.int .i64 0,.slice none 0 0] B1 0 70 _ _ rfl rfl rfl (M.thereP mS 0 6 (Nat.le_of_ble_eq_true rfl)) (by kernel_rfl) (List.all_eq_true.1 (rfl:([.int .i64 0,.int .i64 0,.int .i64 0,.int .i64 0,.int .i64 0,.slice none 0 0]:List Value).all (fun u=>u.oneCell')=true))) ?_; simp only [Act.put]
       replace M:=M.setPart [.int .i64 0,.int .i64 0,.int .i64 0,.int .i64 0,.int .i64 0,.slice none 0 0] 0 (Nat.le_of_ble_eq_true rfl); generalize w1.setCells B1 0 [.int .i64 0,.int .i64 0,.int .i64 0,.int .i64 0,.int .i64 0,.slice none 0 0]=w3 at M  ⊢
       replace M:Mm w ([(B1,[.int .i64 0,.int .i64 0,.int .i64 0,.int .i64 0,.int .i64 0,.slice none 0 0])]) w3:=M
       refine xpL (.int .i64 3) ?_; refine xT ?_; have hpv:=show Hid _ from (pv0 w3); have c1_:=M.part mS 0 (pcs pk0 none 0) rfl; have hM:=M.below; clear M; go_wp2; refine bodyPost_ret (v:=.tuple #[.agg (pcs pk0 none 0).toArray,.int .i64 3]) (retCellTmp 2 3 70 ⟨B1,0,none⟩ (pcs pk0 none 0) _ rfl rfl rfl (fun _=>by kernel_rfl) (fun _=>by kernel_rfl) c1_) rfl ?_
       exact ⟨⟨_,_,by rw [hQ.out.1,hQ.out.2],by rw [hQ.out.1]; exact hpv.out⟩,hM⟩
     · have hns:¬ ((x::bt).length=0∨(bl (x::bt) 0=3∧(x::bt).length<27)):=by rw [List.length_cons]; omega
       go_upto_region 1 with fail; refine wp_region_list ?_; refine xpL (.slice (some ad) (bt.length+1) cap) ?_; refine readL (.int .i64 (((bt.length+1):Nat):Int)) rfl (lenS _ 29 5 (some ad) (bt.length+1) cap rfl Tryz.underlying29 rfl _) ?_; simp only [aP,lI,l0,lS]; refine xaL (.bool false) (eqlI .i64 _ _ _ _ _ _ rfl rfl rfl false (by simp; omega) _) ?_; refine xpL (.bool false) ?_
       refine xpL (.slice (some ad) (bt.length+1) cap) ?_; refine xaL (.pointer (some (ad.add 0))) (idxSl 29 5 (bt.length+1) cap .i64 ad 0 _ _ Tryz.underlying29 (fun _=>by kernel_rfl) (by omega) rfl rfl rfl _) ?_; refine xaL (.int .u8 x) (load1 5 _ (ad.add 0) _ rfl rfl (fun _=>by kernel_rfl) ((hs.below M.below (xnR _)).at 0 (by omega))) ?_
       refine xaL (.bool true) (eqlI .u8 _ _ _ _ _ _ rfl rfl rfl true (by rw [h3]; rfl) _) ?_; refine xpL (.bool true) ?_; refine xpL (.slice (some ad) (bt.length+1) cap) ?_; refine readL (.int .i64 (((bt.length+1):Nat):Int)) rfl (lenS _ 29 5 (some ad) (bt.length+1) cap rfl Tryz.underlying29 rfl _) ?_; simp only [aP,lI,l0,lS]
       refine xaL (.bool false) (lssI .i64 _ _ _ _ _ _ rfl rfl rfl false (decide_eq_false (by omega)) _) ?_; refine xpL (.bool false) ?_; refine xpL (.bool false) ?_; refine xT ?_; have hB1w:=M.lt mS; have hB1l:=M.lo mS; go_upto_region 3 with fail
       go_cut [4] (fun pv wx=>∃ (B:Nat) (bp:Option Addr) (bc:Nat),pv=.pointer (some ⟨B,0,none⟩)∧B1<B∧Mm w [(B,[.int .i64 x,.int .i64 0,.int .i64 0,.int .i64 0,.int .i64 0,.slice bp bt.length bc]),(B1,[.int .i64 0,.int .i64 0,.int .i64 0,.int .i64 0,.int .i64 0,.slice none 0 0])] wx∧SrcA [B,B1] wx bp bt.length (bl bt)∧bt.length≤bc∧(bp=none→bc=0))
       case first =>
        obtain ⟨q26,hq26,hqs26,hqn26⟩:=cut_loA (P:=Tryz.prog) (t:=29) (by kernel_rfl) (fun _=>by kernel_rfl) (some ad) (bt.length+1) cap 1 (by omega) hcap (fun e=>by cases e)
        refine wp_region_held_drew (S:=fun w'=>Below w.heap.size w w') (by kernel_rfl) M.drew.below ?_; intro _
        have hdz:w1.heap.size≤w1.drew.heap.size:=(Below.refl w1.heap.size w1).drew.size
        replace M:=M.drew; generalize w1.drew=w2 at M hdz ⊢; refine xrH 0 20 rfl (.slice (some ad) (bt.length+1) cap) (fun _ _=>by kernel_rfl) M.below ?_; refine xrH 1 21 rfl (.pointer (some (ad.add 0))) (fun w _=>idxSl 29 5 (bt.length+1) cap .i64 ad 0 _ _ Tryz.underlying29 (fun _=>by kernel_rfl) (by omega) rfl rfl rfl w) M.below ?_
        refine xrH 2 22 rfl (.int .u8 x) (fun _ hS=>load1 5 _ (ad.add 0) _ rfl rfl (fun _=>by kernel_rfl) ((hs.below hS (xnR _)).at 0 (by omega))) M.below ?_; refine xrH 3 23 rfl (.int .i64 x) (fun w _=>convI .u8 .i64 _ _ _ _ _ rfl (by kernel_rfl) Tryz.underlying3 (by kernel_rfl) rfl (by rw [xw6]; omega) w) M.below ?_
        refine xrH 5 25 rfl (.slice (some ad) (bt.length+1) cap) (fun _ _=>by kernel_rfl) M.below ?_; refine xrH 6 26 rfl (.slice q26 bt.length (cap-1)) (fun _ _=>cutOp _ _ _ _ _ _ rfl rfl rfl (hq26 _)) M.below ?_
        have hsq:∀ {w':World},Below w.heap.size w w'→Src w' q26 bt.length (bl bt):=fun hS=>(hqs26 [] _ _ ⟨hs.below hS (xnR _),fun _ _ _ h=>by cases h⟩).1.congr fun j _=>bl_succ x bt j
        refine twoH 4 9 (by kernel_rfl) ?_ ?_
        · have hlb:=(Below.refl w2.heap.size w2).alloc (xnR _) (.cells #[] 5)
          refine actO (w':=(w2.alloc (.cells #[] 5))) (i:=4) (some 24) rfl (.slice (some ⟨w2.heap.size,0,none⟩) 0 0) rfl rfl (by kernel_rfl) ?_
          refine ⟨(M.call hlb).below,?_⟩
          simp only [aP,lI,l0,lS]
          have O_4:OwnL (w2.alloc (.cells #[] 5)) (B1+1) [] (.slice (some ⟨w2.heap.size,0,none⟩) 0 0):=Own.lit w2 (B1+1) 5 .u8 0 (bl []) (by omega) (by unfold maxLen; omega)
          have h4:∀ g,((.slice (some ⟨w2.heap.size,0,none⟩) 0 0):Value).ownBlock=some g→g<(w2.alloc (.cells #[] 5)).heap.size:=fun g hg=>(World.ownsRow.lt O_4 g hg).2
          have hz4:w2.heap.size≤(w2.alloc (.cells #[] 5)).heap.size:=hlb.size
          replace M:=M.call hlb; clear hlb; generalize (w2.alloc (.cells #[] 5))=w3 at M O_4 hz4 h4 ⊢; generalize (some ⟨w2.heap.size,0,none⟩:Option Addr)=p4 at O_4 h4 ⊢; refine twoH 7 9 (by kernel_rfl) ?_ ?_
          · obtain ⟨v,w4,hr,O_7,hgr,hob⟩:=run_append_Own (P:=Tryz.prog) (ty:=29) Tryz.underlying29 one8 O_4 q26 bt.length (cap-1) (bl bt) (hsq M.below) hqn26 (by rw [List.length_nil]; unfold maxLen; omega) (by rw [List.length_nil]; omega) (by omega)
            replace M:=M.grown hgr (B1+1) (fun p hp=>by obtain rfl:=xm1 hp; exact Nat.lt_succ_self _) (Nat.le_succ_of_le hB1l) (by omega) (fun b hb=>(World.ownsRow.lt O_4 b hb).1)
            have hz7:w3.heap.size≤w4.heap.size:=hgr.size
            replace O_7:OwnL w4 (B1+1) ([]++bt) v:=OwnL.app O_7
            rw [List.nil_append] at O_7
            refine actO (i:=7) (some 27) rfl v rfl rfl (appendOp _ _ 29 _ _ _ rfl rfl rfl hr) ?_
            refine ⟨M.below,?_⟩
            simp only [aP,lI,l0,lS]
            obtain ⟨p7,c7,rfl,_,_⟩:=O_7.bytes
            clear hr hgr hob O_4; refine xrH 8 28 rfl (.agg #[.int .i64 x,.int .i64 0,.int .i64 0,.int .i64 0,.int .i64 0,.slice p7 bt.length c7]) (fun _ _=>by kernel_rfl) M.below ?_; have hlb:=(Below.refl w4.heap.size w4).alloc (xnR _) (.cells #[.int .i64 0,.int .i64 0,.int .i64 0,.int .i64 0,.int .i64 0,.slice none 0 0] 70)
            refine onlyH (i:=9) (some 4) rfl (.pointer (some ⟨w4.heap.size,0,none⟩)) (by kernel_rfl) rfl rfl (by kernel_rfl) (M.call hlb).below ?_; simp only [aP,lI,l0,lS]
            have hBB:B1<w4.heap.size:=by omega
            have hne7:∀ g,(Value.slice p7 bt.length c7).ownBlock=some g→g≠w4.heap.size:=fun g hg=>by have:=(World.ownsRow.lt O_7 g hg).2; omega
            replace O_7:=O_7.below hlb
            have hz9:w4.heap.size≤(w4.alloc (.cells #[.int .i64 0,.int .i64 0,.int .i64 0,.int .i64 0,.int .i64 0,.slice none 0 0] 70)).heap.size:=hlb.size
            replace M:=M.box #[.int .i64 0,.int .i64 0,.int .i64 0,.int .i64 0,.int .i64 0,.slice none 0 0] 70 w4.heap.size rfl; clear hlb; have hB9:=M.lt mS; generalize (w4.alloc (.cells #[.int .i64 0,.int .i64 0,.int .i64 0,.int .i64 0,.int .i64 0,.slice none 0 0] 70))=w5 at M hz9 hB9  O_7 ⊢; generalize eB:w4.heap.size=B at M hBB hB9  hne7 ⊢
            replace M:Mm w [(B,[.int .i64 0,.int .i64 0,.int .i64 0,.int .i64 0,.int .i64 0,.slice none 0 0]),(B1,[.int .i64 0,.int .i64 0,.int .i64 0,.int .i64 0,.int .i64 0,.slice none 0 0])] w5:=M
            have hA7:SrcA [B,B1] w5 p7 bt.length (bl bt):=⟨O_7.src,fun ad e hn hm=>by
             subst e; have h1:=(World.ownsRow.lt O_7 ad.block rfl).1; have h2:=hne7 ad.block rfl
             rcases xc1 hm with h | h
             · exact h2 h
             · have:=xm1 h; omega⟩
            have hc7:=O_7.le; have hn7:=O_7.nilCap; clear O_7
            refine doesH (i:=10) none rfl (by kernel_rfl) rfl rfl (storeP [.int .i64 x,.int .i64 0,.int .i64 0,.int .i64 0,.int .i64 0,.slice p7 bt.length c7] B 0 70 _ _ rfl rfl rfl (M.thereP mS 0 6 (Nat.le_of_ble_eq_true rfl)) (by kernel_rfl) (List.all_eq_true.1 (rfl:([.int .i64 x,.int .i64 0,.int .i64 0,.int .i64 0,.int .i64 0,.slice p7 bt.length c7]:List Value).all (fun u=>u.oneCell')=true))) (M.setPart [.int .i64 x,.int .i64 0,.int .i64 0,.int .i64 0,.int .i64 0,.slice p7 bt.length c7] 0 (Nat.le_of_ble_eq_true rfl)).below ?_
            simp only [Act.put]; replace M:=M.setPart [.int .i64 x,.int .i64 0,.int .i64 0,.int .i64 0,.int .i64 0,.slice p7 bt.length c7] 0 (Nat.le_of_ble_eq_true rfl); replace hA7:=hA7.off ((Off.refl [B,B1] _).setAll (b:=B) mS 0 [.int .i64 x,.int .i64 0,.int .i64 0,.int .i64 0,.int .i64 0,.slice p7 bt.length c7])
            generalize w5.setCells B 0 [.int .i64 x,.int .i64 0,.int .i64 0,.int .i64 0,.int .i64 0,.slice p7 bt.length c7]=wz at M hA7 ⊢
            refine wpAnyH_done (by kernel_rfl) ?_ _
            first | show Exit.then _ _ _ _ _ | show Exit.inBlock _ _ _ _ _
            have HS:=show Hid _ from (And.intro hBB (And.intro M (And.intro hA7 (And.intro hc7 hn7)))); clear M hA7 hc7 hn7; go_wp2
            go_meet
            exact ⟨B,p7,c7,rfl,HS.out⟩
          · have hlb:=(Below.refl w3.heap.size w3).alloc (xnR _) (.cells #[.int .i64 0,.int .i64 0,.int .i64 0,.int .i64 0,.int .i64 0,.slice none 0 0] 70)
            refine actO (w':=(w3.alloc (.cells #[.int .i64 0,.int .i64 0,.int .i64 0,.int .i64 0,.int .i64 0,.slice none 0 0] 70))) (i:=9) (some 4) rfl (.pointer (some ⟨w3.heap.size,0,none⟩)) rfl rfl (by kernel_rfl) ?_
            refine ⟨(M.call hlb).below,?_⟩
            simp only [aP,lI,l0,lS]
            have hBB:B1<w3.heap.size:=by omega
            have hne:∀ g,(Value.slice p4 0 0).ownBlock=some g→g≠w3.heap.size:=fun g hg=>by have:=h4 g hg; omega
            replace O_4:=O_4.below hlb
            have hz9:w3.heap.size≤(w3.alloc (.cells #[.int .i64 0,.int .i64 0,.int .i64 0,.int .i64 0,.int .i64 0,.slice none 0 0] 70)).heap.size:=hlb.size
            replace M:=M.box #[.int .i64 0,.int .i64 0,.int .i64 0,.int .i64 0,.int .i64 0,.slice none 0 0] 70 w3.heap.size rfl; clear hlb; have hB9:=M.lt mS; generalize (w3.alloc (.cells #[.int .i64 0,.int .i64 0,.int .i64 0,.int .i64 0,.int .i64 0,.slice none 0 0] 70))=w4 at M hz9 hB9 O_4  ⊢; generalize eB:w3.heap.size=B at M hBB hB9 hne  ⊢
            obtain ⟨v,w5,hr,O_7,hgr,hob⟩:=run_append_Own (P:=Tryz.prog) (ty:=29) Tryz.underlying29 one8 O_4 q26 bt.length (cap-1) (bl bt) (hsq M.below) hqn26 (by rw [List.length_nil]; unfold maxLen; omega) (by rw [List.length_nil]; omega) (by omega)
            have hofM:Off (ob p4) w4 w5:=(Off.refl _ _).grown hgr (fun b hb=>.inl ((ob_own _ _ _ _).1 hb))
            replace M:=M.off hofM (fun y hy=>by have h1:=(ob_lt O_4 y hy).1; omega) (fun q hq hy=>by
             have h1:=(ob_lt O_4 _ hy).1; have h2:=hne _ ((ob_own p4 0 0 _).2 hy)
             rcases xc1 hq with rfl | hq
             · exact h2 rfl
             · obtain rfl:=xm1 hq
               simp only at h1
               omega) ⟨hgr.os,hgr.tape,hgr.output⟩
            have hne7:∀ g,v.ownBlock=some g→g≠B:=fun g hg=>by
             rcases hob g hg with h | h
             · exact hne g h
             · omega
            clear hofM
            have hz7:w4.heap.size≤w5.heap.size:=hgr.size
            replace O_7:OwnL w5 (B1+1) ([]++bt) v:=OwnL.app O_7
            rw [List.nil_append] at O_7
            refine onlyH (i:=7) (some 27) rfl v (by kernel_rfl) rfl rfl (appendOp _ _ 29 _ _ _ rfl rfl rfl hr) M.below ?_; simp only [aP,lI,l0,lS]
            obtain ⟨p7,c7,rfl,_,_⟩:=O_7.bytes
            clear hr hgr hob O_4; refine xrH 8 28 rfl (.agg #[.int .i64 x,.int .i64 0,.int .i64 0,.int .i64 0,.int .i64 0,.slice p7 bt.length c7]) (fun _ _=>by kernel_rfl) M.below ?_
            replace M:Mm w [(B,[.int .i64 0,.int .i64 0,.int .i64 0,.int .i64 0,.int .i64 0,.slice none 0 0]),(B1,[.int .i64 0,.int .i64 0,.int .i64 0,.int .i64 0,.int .i64 0,.slice none 0 0])] w5:=M
            have hA7:SrcA [B,B1] w5 p7 bt.length (bl bt):=⟨O_7.src,fun ad e hn hm=>by
             subst e; have h1:=(World.ownsRow.lt O_7 ad.block rfl).1; have h2:=hne7 ad.block rfl
             rcases xc1 hm with h | h
             · exact h2 h
             · have:=xm1 h; omega⟩
            have hc7:=O_7.le; have hn7:=O_7.nilCap; clear O_7
            refine doesH (i:=10) none rfl (by kernel_rfl) rfl rfl (storeP [.int .i64 x,.int .i64 0,.int .i64 0,.int .i64 0,.int .i64 0,.slice p7 bt.length c7] B 0 70 _ _ rfl rfl rfl (M.thereP mS 0 6 (Nat.le_of_ble_eq_true rfl)) (by kernel_rfl) (List.all_eq_true.1 (rfl:([.int .i64 x,.int .i64 0,.int .i64 0,.int .i64 0,.int .i64 0,.slice p7 bt.length c7]:List Value).all (fun u=>u.oneCell')=true))) (M.setPart [.int .i64 x,.int .i64 0,.int .i64 0,.int .i64 0,.int .i64 0,.slice p7 bt.length c7] 0 (Nat.le_of_ble_eq_true rfl)).below ?_
            simp only [Act.put]; replace M:=M.setPart [.int .i64 x,.int .i64 0,.int .i64 0,.int .i64 0,.int .i64 0,.slice p7 bt.length c7] 0 (Nat.le_of_ble_eq_true rfl); replace hA7:=hA7.off ((Off.refl [B,B1] _).setAll (b:=B) mS 0 [.int .i64 x,.int .i64 0,.int .i64 0,.int .i64 0,.int .i64 0,.slice p7 bt.length c7])
            generalize w5.setCells B 0 [.int .i64 x,.int .i64 0,.int .i64 0,.int .i64 0,.int .i64 0,.slice p7 bt.length c7]=wz at M hA7 ⊢
            refine wpAnyH_done (by kernel_rfl) ?_ _
            first | show Exit.then _ _ _ _ _ | show Exit.inBlock _ _ _ _ _
            have HS:=show Hid _ from (And.intro hBB (And.intro M (And.intro hA7 (And.intro hc7 hn7)))); clear M hA7 hc7 hn7; go_wp2
            go_meet
            exact ⟨B,p7,c7,rfl,HS.out⟩
        · have hlb:=(Below.refl w2.heap.size w2).alloc (xnR _) (.cells #[.int .i64 0,.int .i64 0,.int .i64 0,.int .i64 0,.int .i64 0,.slice none 0 0] 70)
          refine actO (w':=(w2.alloc (.cells #[.int .i64 0,.int .i64 0,.int .i64 0,.int .i64 0,.int .i64 0,.slice none 0 0] 70))) (i:=9) (some 4) rfl (.pointer (some ⟨w2.heap.size,0,none⟩)) rfl rfl (by kernel_rfl) ?_
          refine ⟨(M.call hlb).below,?_⟩
          simp only [aP,lI,l0,lS]
          have hBB:B1<w2.heap.size:=by omega
          have hz9:w2.heap.size≤(w2.alloc (.cells #[.int .i64 0,.int .i64 0,.int .i64 0,.int .i64 0,.int .i64 0,.slice none 0 0] 70)).heap.size:=hlb.size
          replace M:=M.box #[.int .i64 0,.int .i64 0,.int .i64 0,.int .i64 0,.int .i64 0,.slice none 0 0] 70 w2.heap.size rfl; clear hlb; have hB9:=M.lt mS; generalize (w2.alloc (.cells #[.int .i64 0,.int .i64 0,.int .i64 0,.int .i64 0,.int .i64 0,.slice none 0 0] 70))=w3 at M hz9 hB9   ⊢; generalize eB:w2.heap.size=B at M hBB hB9   ⊢
          have hlb:=(Below.refl w3.heap.size w3).alloc (xnR _) (.cells #[] 5); refine onlyH (i:=4) (some 24) rfl (.slice (some ⟨w3.heap.size,0,none⟩) 0 0) (by kernel_rfl) rfl rfl (by kernel_rfl) (M.call hlb).below ?_; simp only [aP,lI,l0,lS]
          have O_4:OwnL (w3.alloc (.cells #[] 5)) (B1+1) [] (.slice (some ⟨w3.heap.size,0,none⟩) 0 0):=Own.lit w3 (B1+1) 5 .u8 0 (bl []) (by omega) (by unfold maxLen; omega)
          have hne:∀ g,((.slice (some ⟨w3.heap.size,0,none⟩) 0 0):Value).ownBlock=some g→g≠B:=fun g hg=>by have hg':w3.heap.size=g:=Option.some.inj hg; omega
          have hz4:w3.heap.size≤(w3.alloc (.cells #[] 5)).heap.size:=hlb.size
          replace M:=M.call hlb; clear hlb; generalize (w3.alloc (.cells #[] 5))=w4 at M O_4 hz4  ⊢; generalize (some ⟨w3.heap.size,0,none⟩:Option Addr)=p4 at O_4 hne ⊢
          obtain ⟨v,w5,hr,O_7,hgr,hob⟩:=run_append_Own (P:=Tryz.prog) (ty:=29) Tryz.underlying29 one8 O_4 q26 bt.length (cap-1) (bl bt) (hsq M.below) hqn26 (by rw [List.length_nil]; unfold maxLen; omega) (by rw [List.length_nil]; omega) (by omega)
          have hofM:Off (ob p4) w4 w5:=(Off.refl _ _).grown hgr (fun b hb=>.inl ((ob_own _ _ _ _).1 hb))
          replace M:=M.off hofM (fun y hy=>by have h1:=(ob_lt O_4 y hy).1; omega) (fun q hq hy=>by
           have h1:=(ob_lt O_4 _ hy).1; have h2:=hne _ ((ob_own p4 0 0 _).2 hy)
           rcases xc1 hq with rfl | hq
           · exact h2 rfl
           · obtain rfl:=xm1 hq
             simp only at h1
             omega) ⟨hgr.os,hgr.tape,hgr.output⟩
          have hne7:∀ g,v.ownBlock=some g→g≠B:=fun g hg=>by
           rcases hob g hg with h | h
           · exact hne g h
           · omega
          clear hofM
          have hz7:w4.heap.size≤w5.heap.size:=hgr.size
          replace O_7:OwnL w5 (B1+1) ([]++bt) v:=OwnL.app O_7
          rw [List.nil_append] at O_7
          refine onlyH (i:=7) (some 27) rfl v (by kernel_rfl) rfl rfl (appendOp _ _ 29 _ _ _ rfl rfl rfl hr) M.below ?_; simp only [aP,lI,l0,lS]
          obtain ⟨p7,c7,rfl,_,_⟩:=O_7.bytes
          clear hr hgr hob O_4; refine xrH 8 28 rfl (.agg #[.int .i64 x,.int .i64 0,.int .i64 0,.int .i64 0,.int .i64 0,.slice p7 bt.length c7]) (fun _ _=>by kernel_rfl) M.below ?_
          replace M:Mm w [(B,[.int .i64 0,.int .i64 0,.int .i64 0,.int .i64 0,.int .i64 0,.slice none 0 0]),(B1,[.int .i64 0,.int .i64 0,.int .i64 0,.int .i64 0,.int .i64 0,.slice none 0 0])] w5:=M
          have hA7:SrcA [B,B1] w5 p7 bt.length (bl bt):=⟨O_7.src,fun ad e hn hm=>by
           subst e; have h1:=(World.ownsRow.lt O_7 ad.block rfl).1; have h2:=hne7 ad.block rfl
           rcases xc1 hm with h | h
           · exact h2 h
           · have:=xm1 h; omega⟩
          have hc7:=O_7.le; have hn7:=O_7.nilCap; clear O_7
          refine doesH (i:=10) none rfl (by kernel_rfl) rfl rfl (storeP [.int .i64 x,.int .i64 0,.int .i64 0,.int .i64 0,.int .i64 0,.slice p7 bt.length c7] B 0 70 _ _ rfl rfl rfl (M.thereP mS 0 6 (Nat.le_of_ble_eq_true rfl)) (by kernel_rfl) (List.all_eq_true.1 (rfl:([.int .i64 x,.int .i64 0,.int .i64 0,.int .i64 0,.int .i64 0,.slice p7 bt.length c7]:List Value).all (fun u=>u.oneCell')=true))) (M.setPart [.int .i64 x,.int .i64 0,.int .i64 0,.int .i64 0,.int .i64 0,.slice p7 bt.length c7] 0 (Nat.le_of_ble_eq_true rfl)).below ?_
          simp only [Act.put]; replace M:=M.setPart [.int .i64 x,.int .i64 0,.int .i64 0,.int .i64 0,.int .i64 0,.slice p7 bt.length c7] 0 (Nat.le_of_ble_eq_true rfl); replace hA7:=hA7.off ((Off.refl [B,B1] _).setAll (b:=B) mS 0 [.int .i64 x,.int .i64 0,.int .i64 0,.int .i64 0,.int .i64 0,.slice p7 bt.length c7])
          generalize w5.setCells B 0 [.int .i64 x,.int .i64 0,.int .i64 0,.int .i64 0,.int .i64 0,.slice p7 bt.length c7]=wz at M hA7 ⊢
          refine wpAnyH_done (by kernel_rfl) ?_ _
          first | show Exit.then _ _ _ _ _ | show Exit.inBlock _ _ _ _ _
          have HS:=show Hid _ from (And.intro hBB (And.intro M (And.intro hA7 (And.intro hc7 hn7)))); clear M hA7 hc7 hn7; go_wp2
          go_meet
          exact ⟨B,p7,c7,rfl,HS.out⟩
       case rest =>
        obtain ⟨B,bp,bc,rfl,hBB,M,A_0,hc0,hn0⟩:=hcut
        have hy:=hbt.bl 0 (by omega); have hz:=hbt.bl 1 (by omega); go_upto_region 4 with fail; refine wp_region_list ?_; refine xpL (.pointer (some ⟨B,0,none⟩)) ?_; refine xaL (.int .i64 x) (load1 3 _ ⟨B,0,none⟩ _ rfl rfl (fun _=>by kernel_rfl) (M.get mS 0 _ rfl)) ?_; refine xaL (.bool true) (eqlI .i64 _ _ _ _ _ _ rfl rfl rfl true (by rw [h3]; rfl) _) ?_; refine xT ?_
        go_upto_region 5 with fail; refine wp_region_list ?_; refine xpL (.slice (some ad) (bt.length+1) cap) ?_; refine xaL (.pointer (some (ad.add 1))) (idxSl 29 5 (bt.length+1) cap .i64 ad 1 _ _ Tryz.underlying29 (fun _=>by kernel_rfl) (by omega) rfl rfl rfl _) ?_
        refine xaL (.int .u8 (bl bt 0)) (load1 5 _ (ad.add 1) _ rfl rfl (fun _=>by kernel_rfl) ((hs.below M.below (xnR _)).at 1 (by omega))) ?_; refine xaL (.int .i64 (bl bt 0)) (convI .u8 .i64 _ _ _ _ _ rfl (by kernel_rfl) Tryz.underlying3 (by kernel_rfl) rfl (by rw [xw6]; omega) _) ?_; refine xpL (.pointer (some ⟨B,1,none⟩)) ?_
        refine skipOpL rfl (storeAny (.int .i64 (bl bt 0)) B 1 3 _ _ rfl rfl rfl rfl rfl (M.isSome mS 1 (by simp)) (M.free mS 1 (by simp)) (by kernel_rfl)) ?_; simp only [Act.put]; replace M:=M.set 1 (by simp) (.int .i64 (bl bt 0)); replace A_0:=A_0.off (((Off.refl [B] _).set (b:=B) mS 1 (.int .i64 (bl bt 0))).mono (fun x hx=>by obtain rfl:=xm1 hx; simp))
        generalize wc.setCell ⟨B,1,none⟩ (.int .i64 (bl bt 0))=w4 at M A_0 ⊢
        replace M:Mm w ([(B,[.int .i64 x,.int .i64 (bl bt 0),.int .i64 0,.int .i64 0,.int .i64 0,.slice bp bt.length bc]),(B1,[.int .i64 0,.int .i64 0,.int .i64 0,.int .i64 0,.int .i64 0,.slice none 0 0])]) w4:=M
        refine xT ?_; go_upto_region 6 with fail; refine wp_region_list ?_; refine xpL (.slice (some ad) (bt.length+1) cap) ?_; refine xaL (.pointer (some (ad.add 2))) (idxSl 29 5 (bt.length+1) cap .i64 ad 2 _ _ Tryz.underlying29 (fun _=>by kernel_rfl) (by omega) rfl rfl rfl _) ?_
        refine xaL (.int .u8 (bl bt 1)) (load1 5 _ (ad.add 2) _ rfl rfl (fun _=>by kernel_rfl) ((hs.below M.below (xnR _)).at 2 (by omega))) ?_; refine xaL (.int .i64 (bl bt 1)) (convI .u8 .i64 _ _ _ _ _ rfl (by kernel_rfl) Tryz.underlying3 (by kernel_rfl) rfl (by rw [xw6]; omega) _) ?_; refine xpL (.pointer (some ⟨B,2,none⟩)) ?_
        refine skipOpL rfl (storeAny (.int .i64 (bl bt 1)) B 2 3 _ _ rfl rfl rfl rfl rfl (M.isSome mS 2 (by simp)) (M.free mS 2 (by simp)) (by kernel_rfl)) ?_; simp only [Act.put]; replace M:=M.set 2 (by simp) (.int .i64 (bl bt 1)); replace A_0:=A_0.off (((Off.refl [B] _).set (b:=B) mS 2 (.int .i64 (bl bt 1))).mono (fun x hx=>by obtain rfl:=xm1 hx; simp))
        generalize w4.setCell ⟨B,2,none⟩ (.int .i64 (bl bt 1))=w5 at M A_0 ⊢
        replace M:Mm w ([(B,[.int .i64 x,.int .i64 (bl bt 0),.int .i64 (bl bt 1),.int .i64 0,.int .i64 0,.slice bp bt.length bc]),(B1,[.int .i64 0,.int .i64 0,.int .i64 0,.int .i64 0,.int .i64 0,.slice none 0 0])]) w5:=M
        refine xT ?_; go_upto_region 7 with fail; refine wp_region_list ?_; refine xpL (.slice (some ad) (bt.length+1) cap) ?_
        obtain ⟨q44,hq44,hqs44⟩:=cut_lh (P:=Tryz.prog) (t:=29) (by kernel_rfl) (fun _=>by kernel_rfl) (some ad) (bt.length+1) cap 3 5 (by omega) (by omega) hcap
        refine xaL (.slice q44 2 (cap-3)) (cutLHop _ _ _ _ _ _ _ _ rfl rfl rfl rfl (hq44 _)) ?_
        have hzz:In 256 2 (fun j=>bl (x::bt) (3+j)):=fun j hj=>hb.bl (3+j) (by show 3+j<bt.length+1; omega)
        have hcc:2≤cap-3:=by omega
        refine xcL (rtakefixed_any q44 2 (cap-3) (by omega) hcc (fun e=>by obtain ⟨_,e',_⟩:=hqs44 _ _ (hs.below M.below (xnR _)) 0 (by omega); rw [e] at e'; cases e') (fun j=>bl (x::bt) (3+j)) hzz 2 _ (hqs44 _ _ (hs.below M.below (xnR _)))) ?_
        rintro e w6 ⟨rp,rc,rfl,_,l1⟩; replace M:=M.call l1; replace A_0:=A_0.off (Off.of_below l1); clear l1 hzz hcc
        have eg:gN 2 (fun j=>bl (x::bt) (3+j)) 2=fV (fun j=>bl (x::bt) (3+j)) 2:=rfl
        refine xeL ?_
        rw [eg]
        clear eg; refine xpL (.tuple #[.int .i64 (fV (fun j=>bl (x::bt) (3+j)) 2),.slice rp (gL 2 2) rc,.int .i64 (gE 2 2)]) ?_; refine xpL (.int .i64 (fV (fun j=>bl (x::bt) (3+j)) 2)) ?_; refine xpL (.slice rp (gL 2 2) rc) ?_; refine xpL (.int .i64 (gE 2 2)) ?_; refine xpL (.pointer (some ⟨B,3,none⟩)) ?_
        refine skipOpL rfl (storeAny (.int .i64 (fV (fun j=>bl (x::bt) (3+j)) 2)) B 3 3 _ _ rfl rfl rfl rfl rfl (M.isSome mS 3 (by simp)) (M.free mS 3 (by simp)) (by kernel_rfl)) ?_; simp only [Act.put]; replace M:=M.set 3 (by simp) (.int .i64 (fV (fun j=>bl (x::bt) (3+j)) 2))
        replace A_0:=A_0.off (((Off.refl [B] _).set (b:=B) mS 3 (.int .i64 (fV (fun j=>bl (x::bt) (3+j)) 2))).mono (fun x hx=>by obtain rfl:=xm1 hx; simp)); generalize w6.setCell ⟨B,3,none⟩ (.int .i64 (fV (fun j=>bl (x::bt) (3+j)) 2))=w7 at M A_0 ⊢
        replace M:Mm w ([(B,[.int .i64 x,.int .i64 (bl bt 0),.int .i64 (bl bt 1),.int .i64 (fV (fun j=>bl (x::bt) (3+j)) 2),.int .i64 0,.slice bp bt.length bc]),(B1,[.int .i64 0,.int .i64 0,.int .i64 0,.int .i64 0,.int .i64 0,.slice none 0 0])]) w7:=M
        refine xT ?_; go_upto_region 8 with fail; refine wp_region_list ?_; refine xpL (.slice (some ad) (bt.length+1) cap) ?_
        obtain ⟨q52,hq52,hqs52⟩:=cut_lh (P:=Tryz.prog) (t:=29) (by kernel_rfl) (fun _=>by kernel_rfl) (some ad) (bt.length+1) cap 5 11 (by omega) (by omega) hcap
        refine xaL (.slice q52 6 (cap-5)) (cutLHop _ _ _ _ _ _ _ _ rfl rfl rfl rfl (hq52 _)) ?_
        have hzz:In 256 6 (fun j=>bl (x::bt) (5+j)):=fun j hj=>hb.bl (5+j) (by show 5+j<bt.length+1; omega)
        have hcc:6≤cap-5:=by omega
        refine xcL (rtakefixed_any q52 6 (cap-5) (by omega) hcc (fun e=>by obtain ⟨_,e',_⟩:=hqs52 _ _ (hs.below M.below (xnR _)) 0 (by omega); rw [e] at e'; cases e') (fun j=>bl (x::bt) (5+j)) hzz 6 _ (hqs52 _ _ (hs.below M.below (xnR _)))) ?_
        rintro e w8 ⟨rp,rc,rfl,_,l1⟩; replace M:=M.call l1; replace A_0:=A_0.off (Off.of_below l1); clear l1 hzz hcc
        have eg:gN 6 (fun j=>bl (x::bt) (5+j)) 6=fV (fun j=>bl (x::bt) (5+j)) 6:=rfl
        refine xeL ?_
        rw [eg]
        clear eg; refine xpL (.tuple #[.int .i64 (fV (fun j=>bl (x::bt) (5+j)) 6),.slice rp (gL 6 6) rc,.int .i64 (gE 6 6)]) ?_; refine xpL (.int .i64 (fV (fun j=>bl (x::bt) (5+j)) 6)) ?_; refine xpL (.slice rp (gL 6 6) rc) ?_; refine xpL (.int .i64 (gE 6 6)) ?_; refine xpL (.pointer (some ⟨B,4,none⟩)) ?_
        refine skipOpL rfl (storeAny (.int .i64 (fV (fun j=>bl (x::bt) (5+j)) 6)) B 4 3 _ _ rfl rfl rfl rfl rfl (M.isSome mS 4 (by simp)) (M.free mS 4 (by simp)) (by kernel_rfl)) ?_; simp only [Act.put]; replace M:=M.set 4 (by simp) (.int .i64 (fV (fun j=>bl (x::bt) (5+j)) 6))
        replace A_0:=A_0.off (((Off.refl [B] _).set (b:=B) mS 4 (.int .i64 (fV (fun j=>bl (x::bt) (5+j)) 6))).mono (fun x hx=>by obtain rfl:=xm1 hx; simp)); generalize w8.setCell ⟨B,4,none⟩ (.int .i64 (fV (fun j=>bl (x::bt) (5+j)) 6))=w9 at M A_0 ⊢
        replace M:Mm w ([(B,[.int .i64 x,.int .i64 (bl bt 0),.int .i64 (bl bt 1),.int .i64 (fV (fun j=>bl (x::bt) (3+j)) 2),.int .i64 (fV (fun j=>bl (x::bt) (5+j)) 6),.slice bp bt.length bc]),(B1,[.int .i64 0,.int .i64 0,.int .i64 0,.int .i64 0,.int .i64 0,.slice none 0 0])]) w9:=M
        refine xT ?_; go_upto_region 9 with fail; refine wp_region_list ?_; refine actL (w':=w9.alloc (.cells #[] 5)) (.slice (some ⟨w9.heap.size,0,none⟩) 0 0) rfl (by kernel_rfl) ?_; simp only [aP,lI,l0,lS]
        have O_10:OwnL (w9.alloc (.cells #[] 5)) w9.heap.size [] (.slice (some ⟨w9.heap.size,0,none⟩) 0 0):=Own.lit w9 w9.heap.size 5 .u8 0 (bl []) (xnR _) (by unfold maxLen; omega)
        have hlb:=(Below.refl w9.heap.size w9).alloc (xnR _) (.cells #[] 5); have hbz10:=hlb.size; have hlo10:=M.lt mS; have hlp10:=M.lt (mT _ mS); replace M:=M.call hlb; replace A_0:=A_0.off (Off.of_below hlb); clear hlb; generalize w9.alloc (.cells #[] 5)=w10 at M O_10 hbz10 A_0 ⊢; generalize (some ⟨w9.heap.size,0,none⟩:Option Addr)=p10 at O_10 ⊢
        refine xpL (.slice (some ad) (bt.length+1) cap) ?_
        obtain ⟨q60,hq60,hqs60,hqn60⟩:=cut_loA (P:=Tryz.prog) (t:=29) (by kernel_rfl) (fun _=>by kernel_rfl) (some ad) (bt.length+1) cap 11 (by omega) hcap (fun e=>by cases e)
        refine xaL (.slice q60 (bt.length+1-11) (cap-11)) (cutOp _ _ _ _ _ _ rfl rfl rfl (hq60 _)) ?_
        have hsr:Src w10 q60 (bt.length+1-11) (fun j=>bl (x::bt) (11+j)):=(hqs60 [] _ _ ⟨hs.below M.below (xnR _),fun _ _ _ h=>by cases h⟩).1
        have hdl:bt.length+1-11=(bt.drop 10).length:=by rw [List.length_drop]; omega
        rw [hdl] at hsr
        replace hsr:Src w10 q60 (bt.drop 10).length (bl (bt.drop 10)):=hsr.congr fun j _=>by rw [bl_drop]; show bl (x::bt) (11+j)=_; rw [show 11+j=1+(10+j) by omega,bl_succ]
        obtain ⟨v,w11,hr,O_11,hgr,_⟩:=run_append_Own (P:=Tryz.prog) (ty:=29) Tryz.underlying29 one8 O_10 q60 (bt.drop 10).length (cap-11) (bl (bt.drop 10)) hsr hqn60 (by rw [List.length_nil]; unfold maxLen; omega) (by rw [List.length_nil]; omega) (by omega)
        replace M:=M.grown hgr w9.heap.size (fun p hp=>by rcases xc1 hp with rfl | hp; omega; obtain rfl:=xm1 hp; omega) (by have:=M.lo mS; omega) (by omega) (fun b hb=>(World.ownsRow.lt O_10 b hb).1)
        replace O_11:OwnL w11 w9.heap.size ([]++(bt.drop 10)) v:=OwnL.app O_11
        rw [List.nil_append] at O_11
        rw [hdl]
        refine xaL v (appendOp _ _ 29 _ _ _ rfl rfl rfl hr) ?_; clear hr hgr O_10
        obtain ⟨p11,c11,rfl,_,_⟩:=O_11.bytes
        have A_11:SrcA [B,B1] w11 p11 (bt.drop 10).length (bl (bt.drop 10)):=SrcA.of_own O_11 (fun x hx=>by rcases xc1 hx with rfl | hx; omega; obtain rfl:=xm1 hx; omega)
        have hc11:=O_11.le; have hn11:=O_11.nilCap; clear O_11; refine xpL (.pointer (some ⟨B,5,none⟩)) ?_; refine skipOpL rfl (storeAny (.slice p11 ((bt.drop 10).length) c11) B 5 29 _ _ rfl rfl rfl rfl rfl (M.isSome mS 5 (by simp)) (M.free mS 5 (by simp)) (by kernel_rfl)) ?_; simp only [Act.put]; replace M:=M.set 5 (by simp) (.slice p11 ((bt.drop 10).length) c11)
        replace A_11:=A_11.off (((Off.refl [B] _).set (b:=B) mS 5 (.slice p11 ((bt.drop 10).length) c11)).mono (fun x hx=>by obtain rfl:=xm1 hx; simp)); generalize w11.setCell ⟨B,5,none⟩ (.slice p11 ((bt.drop 10).length) c11)=w12 at M A_11 ⊢
        replace M:Mm w ([(B,[.int .i64 x,.int .i64 (bl bt 0),.int .i64 (bl bt 1),.int .i64 (fV (fun j=>bl (x::bt) (3+j)) 2),.int .i64 (fV (fun j=>bl (x::bt) (5+j)) 6),.slice p11 ((bt.drop 10).length) c11]),(B1,[.int .i64 0,.int .i64 0,.int .i64 0,.int .i64 0,.int .i64 0,.slice none 0 0])]) w12:=M
        refine xT ?_
        have hprs:prs (x::bt)=⟨x,bl bt 0,bl bt 1,fV (fun j=>bl (x::bt) (3+j)) 2,fV (fun j=>bl (x::bt) (5+j)) 6,bt.drop 10⟩:=by unfold prs; rw [if_pos (show bl (x::bt) 0=3 from h3),h3]; rfl
        cases hok:pok ⟨x,bl bt 0,bl bt 1,fV (fun j=>bl (x::bt) (3+j)) 2,fV (fun j=>bl (x::bt) (5+j)) 6,bt.drop 10⟩ with
        | true =>
          have hQ:=show Hid _ from ps_ok (by rw [pps_good hns (by rw [hprs]; exact hok),hprs]); go_upto_region 10 with fail; refine wp_region_list ?_
          refine readL (.agg #[.int .i64 x,.int .i64 (bl bt 0),.int .i64 (bl bt 1),.int .i64 (fV (fun j=>bl (x::bt) (3+j)) 2),.int .i64 (fV (fun j=>bl (x::bt) (5+j)) 6),.slice p11 ((bt.drop 10).length) c11]) rfl (loadN 70 _ ⟨B,0,none⟩ [.int .i64 x,.int .i64 (bl bt 0),.int .i64 (bl bt 1),.int .i64 (fV (fun j=>bl (x::bt) (3+j)) 2),.int .i64 (fV (fun j=>bl (x::bt) (5+j)) 6),.slice p11 ((bt.drop 10).length) c11] rfl rfl (fun _=>by kernel_rfl) (fun _=>by kernel_rfl) (M.rangeAt mS)) ?_
          simp only [aP,lI,l0,lS]
          have hC:Calls Tryz.prog 43 #[.agg #[.int .i64 x,.int .i64 (bl bt 0),.int .i64 (bl bt 1),.int .i64 (fV (fun j=>bl (x::bt) (3+j)) 2),.int .i64 (fV (fun j=>bl (x::bt) (5+j)) 6),.slice p11 ((bt.drop 10).length) c11]] w12 (fun e w'=>e=.returned (.bool true)∧Below w12.heap.size w12 w'):=(by rw [← hok]; exact rmay_any ⟨x,bl bt 0,bl bt 1,fV (fun j=>bl (x::bt) (3+j)) 2,fV (fun j=>bl (x::bt) (5+j)) 6,bt.drop 10⟩ p11 c11 _)
          refine xcL (hC) ?_; rintro e w13 ⟨rfl,l⟩; replace M:=M.call l
          refine ⟨_,rfl,?_⟩
          replace A_11:=A_11.off (Off.of_below l); clear l hC; simp only [aP,lI,l0,lS]; refine xpL (.bool false) ?_; refine xT ?_; go_upto_region 12 with fail; refine wp_region_list ?_
          refine readL (.agg #[.int .i64 x,.int .i64 (bl bt 0),.int .i64 (bl bt 1),.int .i64 (fV (fun j=>bl (x::bt) (3+j)) 2),.int .i64 (fV (fun j=>bl (x::bt) (5+j)) 6),.slice p11 ((bt.drop 10).length) c11]) rfl (loadN 70 _ ⟨B,0,none⟩ [.int .i64 x,.int .i64 (bl bt 0),.int .i64 (bl bt 1),.int .i64 (fV (fun j=>bl (x::bt) (3+j)) 2),.int .i64 (fV (fun j=>bl (x::bt) (5+j)) 6),.slice p11 ((bt.drop 10).length) c11] rfl rfl (fun _=>by kernel_rfl) (fun _=>by kernel_rfl) (M.rangeAt mS)) ?_
          simp only [aP,lI,l0,lS]; replace M:=M.swap
          refine skipOpL rfl (storeP [.int .i64 x,.int .i64 (bl bt 0),.int .i64 (bl bt 1),.int .i64 (fV (fun j=>bl (x::bt) (3+j)) 2),.int .i64 (fV (fun j=>bl (x::bt) (5+j)) 6),.slice p11 ((bt.drop 10).length) c11] B1 0 70 _ _ rfl rfl rfl (M.thereP mS 0 6 (Nat.le_of_ble_eq_true rfl)) (by kernel_rfl) (List.all_eq_true.1 (rfl:([.int .i64 x,.int .i64 (bl bt 0),.int .i64 (bl bt 1),.int .i64 (fV (fun j=>bl (x::bt) (3+j)) 2),.int .i64 (fV (fun j=>bl (x::bt) (5+j)) 6),.slice p11 ((bt.drop 10).length) c11]:List Value).all (fun u=>u.oneCell')=true))) ?_
          simp only [Act.put]; replace M:=M.setPart [.int .i64 x,.int .i64 (bl bt 0),.int .i64 (bl bt 1),.int .i64 (fV (fun j=>bl (x::bt) (3+j)) 2),.int .i64 (fV (fun j=>bl (x::bt) (5+j)) 6),.slice p11 ((bt.drop 10).length) c11] 0 (Nat.le_of_ble_eq_true rfl)
          replace A_11:=A_11.off (((Off.refl [B1] _).setAll (b:=B1) mS 0 [.int .i64 x,.int .i64 (bl bt 0),.int .i64 (bl bt 1),.int .i64 (fV (fun j=>bl (x::bt) (3+j)) 2),.int .i64 (fV (fun j=>bl (x::bt) (5+j)) 6),.slice p11 ((bt.drop 10).length) c11]).mono (fun x hx=>by obtain rfl:=xm1 hx; simp))
          generalize w13.setCells B1 0 [.int .i64 x,.int .i64 (bl bt 0),.int .i64 (bl bt 1),.int .i64 (fV (fun j=>bl (x::bt) (3+j)) 2),.int .i64 (fV (fun j=>bl (x::bt) (5+j)) 6),.slice p11 ((bt.drop 10).length) c11]=w14 at M A_11 ⊢
          replace M:Mm w ([(B1,[.int .i64 x,.int .i64 (bl bt 0),.int .i64 (bl bt 1),.int .i64 (fV (fun j=>bl (x::bt) (3+j)) 2),.int .i64 (fV (fun j=>bl (x::bt) (5+j)) 6),.slice p11 ((bt.drop 10).length) c11]),(B,[.int .i64 x,.int .i64 (bl bt 0),.int .i64 (bl bt 1),.int .i64 (fV (fun j=>bl (x::bt) (3+j)) 2),.int .i64 (fV (fun j=>bl (x::bt) (5+j)) 6),.slice p11 ((bt.drop 10).length) c11])]) w14:=M
          refine xpL (.int .i64 0) ?_; refine xT ?_
          have hpv:=show Hid _ from ((⟨A_11.1,hc11,hn11,by rw [List.length_drop]; omega,hbt.drop 10,i64_byte hx,i64_byte hy,i64_byte hz,fV_i64 _ 2 (by decide) (fun j hj=>hb.bl (3+j) (by rw [List.length_cons]; omega)),fV_i64 _ 6 (by decide) (fun j hj=>hb.bl (5+j) (by rw [List.length_cons]; omega))⟩:PV _ ⟨x,bl bt 0,bl bt 1,fV (fun j=>bl (x::bt) (3+j)) 2,fV (fun j=>bl (x::bt) (5+j)) 6,bt.drop 10⟩ p11 c11))
          have c1_:=M.part mS 0 (pcs ⟨x,bl bt 0,bl bt 1,fV (fun j=>bl (x::bt) (3+j)) 2,fV (fun j=>bl (x::bt) (5+j)) 6,bt.drop 10⟩ p11 c11) rfl; have hM:=M.below; clear M; go_wp2
          refine bodyPost_ret (v:=.tuple #[.agg (pcs ⟨x,bl bt 0,bl bt 1,fV (fun j=>bl (x::bt) (3+j)) 2,fV (fun j=>bl (x::bt) (5+j)) 6,bt.drop 10⟩ p11 c11).toArray,.int .i64 0]) (retCellTmp 2 3 70 ⟨B1,0,none⟩ (pcs ⟨x,bl bt 0,bl bt 1,fV (fun j=>bl (x::bt) (3+j)) 2,fV (fun j=>bl (x::bt) (5+j)) 6,bt.drop 10⟩ p11 c11) _ rfl rfl rfl (fun _=>by kernel_rfl) (fun _=>by kernel_rfl) c1_) rfl ?_
          exact ⟨⟨_,_,by rw [hQ.out.1,hQ.out.2],by rw [hQ.out.1]; exact hpv.out⟩,hM⟩
        | false =>
          have hQ:=show Hid _ from ps_err (pps_bad hns (by rw [hprs]; exact hok)); go_upto_region 10 with fail; refine wp_region_list ?_
          refine readL (.agg #[.int .i64 x,.int .i64 (bl bt 0),.int .i64 (bl bt 1),.int .i64 (fV (fun j=>bl (x::bt) (3+j)) 2),.int .i64 (fV (fun j=>bl (x::bt) (5+j)) 6),.slice p11 ((bt.drop 10).length) c11]) rfl (loadN 70 _ ⟨B,0,none⟩ [.int .i64 x,.int .i64 (bl bt 0),.int .i64 (bl bt 1),.int .i64 (fV (fun j=>bl (x::bt) (3+j)) 2),.int .i64 (fV (fun j=>bl (x::bt) (5+j)) 6),.slice p11 ((bt.drop 10).length) c11] rfl rfl (fun _=>by kernel_rfl) (fun _=>by kernel_rfl) (M.rangeAt mS)) ?_
          simp only [aP,lI,l0,lS]
          have hC:Calls Tryz.prog 43 #[.agg #[.int .i64 x,.int .i64 (bl bt 0),.int .i64 (bl bt 1),.int .i64 (fV (fun j=>bl (x::bt) (3+j)) 2),.int .i64 (fV (fun j=>bl (x::bt) (5+j)) 6),.slice p11 ((bt.drop 10).length) c11]] w12 (fun e w'=>e=.returned (.bool false)∧Below w12.heap.size w12 w'):=(by rw [← hok]; exact rmay_any ⟨x,bl bt 0,bl bt 1,fV (fun j=>bl (x::bt) (3+j)) 2,fV (fun j=>bl (x::bt) (5+j)) 6,bt.drop 10⟩ p11 c11 _)
          refine xcL (hC) ?_; rintro e w15 ⟨rfl,l⟩; replace M:=M.call l
          refine ⟨_,rfl,?_⟩
          replace A_11:=A_11.off (Off.of_below l); clear l hC; simp only [aP,lI,l0,lS]; refine xpL (.bool true) ?_; refine xT ?_; go_upto_region 11 with fail; refine wp_region_list ?_; refine xpL (.agg #[.int .i64 0,.int .i64 0,.int .i64 0,.int .i64 0,.int .i64 0,.slice none 0 0]) ?_; replace M:=M.swap
          refine skipOpL rfl (storeP [.int .i64 0,.int .i64 0,.int .i64 0,.int .i64 0,.int .i64 0,.slice none 0 0] B1 0 70 _ _ rfl rfl rfl (M.thereP mS 0 6 (Nat.le_of_ble_eq_true rfl)) (by kernel_rfl) (List.all_eq_true.1 (rfl:([.int .i64 0,.int .i64 0,.int .i64 0,.int .i64 0,.int .i64 0,.slice none 0 0]:List Value).all (fun u=>u.oneCell')=true))) ?_; simp only [Act.put]
          replace M:=M.setPart [.int .i64 0,.int .i64 0,.int .i64 0,.int .i64 0,.int .i64 0,.slice none 0 0] 0 (Nat.le_of_ble_eq_true rfl); generalize w15.setCells B1 0 [.int .i64 0,.int .i64 0,.int .i64 0,.int .i64 0,.int .i64 0,.slice none 0 0]=w16 at M  ⊢
          replace M:Mm w ([(B1,[.int .i64 0,.int .i64 0,.int .i64 0,.int .i64 0,.int .i64 0,.slice none 0 0]),(B,[.int .i64 x,.int .i64 (bl bt 0),.int .i64 (bl bt 1),.int .i64 (fV (fun j=>bl (x::bt) (3+j)) 2),.int .i64 (fV (fun j=>bl (x::bt) (5+j)) 6),.slice p11 ((bt.drop 10).length) c11])]) w16:=M
          refine xpL (.int .i64 110) ?_; refine xT ?_; have hpv:=show Hid _ from (pv0 w16); have c1_:=M.part mS 0 (pcs pk0 none 0) rfl; have hM:=M.below; clear M; go_wp2; refine bodyPost_ret (v:=.tuple #[.agg (pcs pk0 none 0).toArray,.int .i64 110]) (retCellTmp 2 3 70 ⟨B1,0,none⟩ (pcs pk0 none 0) _ rfl rfl rfl (fun _=>by kernel_rfl) (fun _=>by kernel_rfl) c1_) rfl ?_
          exact ⟨⟨_,_,by rw [hQ.out.1,hQ.out.2],by rw [hQ.out.1]; exact hpv.out⟩,hM⟩
   · have hns:¬ ((x::bt).length=0∨(bl (x::bt) 0=3∧(x::bt).length<27)):=by rw [List.length_cons]; rintro (h | h); omega; exact h3 h.1
     go_upto_region 1 with fail; refine wp_region_list ?_; refine xpL (.slice (some ad) (bt.length+1) cap) ?_; refine readL (.int .i64 (((bt.length+1):Nat):Int)) rfl (lenS _ 29 5 (some ad) (bt.length+1) cap rfl Tryz.underlying29 rfl _) ?_; simp only [aP,lI,l0,lS]; refine xaL (.bool false) (eqlI .i64 _ _ _ _ _ _ rfl rfl rfl false (by simp; omega) _) ?_; refine xpL (.bool false) ?_
     refine xpL (.slice (some ad) (bt.length+1) cap) ?_; refine xaL (.pointer (some (ad.add 0))) (idxSl 29 5 (bt.length+1) cap .i64 ad 0 _ _ Tryz.underlying29 (fun _=>by kernel_rfl) (by omega) rfl rfl rfl _) ?_; refine xaL (.int .u8 x) (load1 5 _ (ad.add 0) _ rfl rfl (fun _=>by kernel_rfl) ((hs.below M.below (xnR _)).at 0 (by omega))) ?_
     refine xaL (.bool false) (eqlI .u8 _ _ _ _ _ _ rfl rfl rfl false (by simpa using h3) _) ?_; refine xpL (.bool false) ?_
     with_reducible refine skipL ?_ ?_
     · rfl
     simp only [aP,lI,l0,lS]
     with_reducible refine skipL ?_ ?_
     · rfl
     simp only [aP,lI,l0,lS]
     with_reducible refine skipL ?_ ?_
     · rfl
     simp only [aP,lI,l0,lS]; refine xpL (.bool false) ?_; refine xpL (.bool false) ?_; refine xT ?_; have hB1w:=M.lt mS; have hB1l:=M.lo mS; go_upto_region 3 with fail
     go_cut [4] (fun pv wx=>∃ (B:Nat) (bp:Option Addr) (bc:Nat),pv=.pointer (some ⟨B,0,none⟩)∧B1<B∧Mm w [(B,[.int .i64 x,.int .i64 0,.int .i64 0,.int .i64 0,.int .i64 0,.slice bp bt.length bc]),(B1,[.int .i64 0,.int .i64 0,.int .i64 0,.int .i64 0,.int .i64 0,.slice none 0 0])] wx∧SrcA [B,B1] wx bp bt.length (bl bt)∧bt.length≤bc∧(bp=none→bc=0))
     case first =>
      obtain ⟨q26,hq26,hqs26,hqn26⟩:=cut_loA (P:=Tryz.prog) (t:=29) (by kernel_rfl) (fun _=>by kernel_rfl) (some ad) (bt.length+1) cap 1 (by omega) hcap (fun e=>by cases e)
      refine wp_region_held_drew (S:=fun w'=>Below w.heap.size w w') (by kernel_rfl) M.drew.below ?_; intro _
      have hdz:w1.heap.size≤w1.drew.heap.size:=(Below.refl w1.heap.size w1).drew.size
      replace M:=M.drew; generalize w1.drew=w2 at M hdz ⊢; refine xrH 0 20 rfl (.slice (some ad) (bt.length+1) cap) (fun _ _=>by kernel_rfl) M.below ?_; refine xrH 1 21 rfl (.pointer (some (ad.add 0))) (fun w _=>idxSl 29 5 (bt.length+1) cap .i64 ad 0 _ _ Tryz.underlying29 (fun _=>by kernel_rfl) (by omega) rfl rfl rfl w) M.below ?_
      refine xrH 2 22 rfl (.int .u8 x) (fun _ hS=>load1 5 _ (ad.add 0) _ rfl rfl (fun _=>by kernel_rfl) ((hs.below hS (xnR _)).at 0 (by omega))) M.below ?_; refine xrH 3 23 rfl (.int .i64 x) (fun w _=>convI .u8 .i64 _ _ _ _ _ rfl (by kernel_rfl) Tryz.underlying3 (by kernel_rfl) rfl (by rw [xw6]; omega) w) M.below ?_
      refine xrH 5 25 rfl (.slice (some ad) (bt.length+1) cap) (fun _ _=>by kernel_rfl) M.below ?_; refine xrH 6 26 rfl (.slice q26 bt.length (cap-1)) (fun _ _=>cutOp _ _ _ _ _ _ rfl rfl rfl (hq26 _)) M.below ?_
      have hsq:∀ {w':World},Below w.heap.size w w'→Src w' q26 bt.length (bl bt):=fun hS=>(hqs26 [] _ _ ⟨hs.below hS (xnR _),fun _ _ _ h=>by cases h⟩).1.congr fun j _=>bl_succ x bt j
      refine twoH 4 9 (by kernel_rfl) ?_ ?_
      · have hlb:=(Below.refl w2.heap.size w2).alloc (xnR _) (.cells #[] 5)
        refine actO (w':=(w2.alloc (.cells #[] 5))) (i:=4) (some 24) rfl (.slice (some ⟨w2.heap.size,0,none⟩) 0 0) rfl rfl (by kernel_rfl) ?_
        refine ⟨(M.call hlb).below,?_⟩
        simp only [aP,lI,l0,lS]
        have O_4:OwnL (w2.alloc (.cells #[] 5)) (B1+1) [] (.slice (some ⟨w2.heap.size,0,none⟩) 0 0):=Own.lit w2 (B1+1) 5 .u8 0 (bl []) (by omega) (by unfold maxLen; omega)
        have h4:∀ g,((.slice (some ⟨w2.heap.size,0,none⟩) 0 0):Value).ownBlock=some g→g<(w2.alloc (.cells #[] 5)).heap.size:=fun g hg=>(World.ownsRow.lt O_4 g hg).2
        have hz4:w2.heap.size≤(w2.alloc (.cells #[] 5)).heap.size:=hlb.size
        replace M:=M.call hlb; clear hlb; generalize (w2.alloc (.cells #[] 5))=w3 at M O_4 hz4 h4 ⊢; generalize (some ⟨w2.heap.size,0,none⟩:Option Addr)=p4 at O_4 h4 ⊢; refine twoH 7 9 (by kernel_rfl) ?_ ?_
        · obtain ⟨v,w4,hr,O_7,hgr,hob⟩:=run_append_Own (P:=Tryz.prog) (ty:=29) Tryz.underlying29 one8 O_4 q26 bt.length (cap-1) (bl bt) (hsq M.below) hqn26 (by rw [List.length_nil]; unfold maxLen; omega) (by rw [List.length_nil]; omega) (by omega)
          replace M:=M.grown hgr (B1+1) (fun p hp=>by obtain rfl:=xm1 hp; exact Nat.lt_succ_self _) (Nat.le_succ_of_le hB1l) (by omega) (fun b hb=>(World.ownsRow.lt O_4 b hb).1)
          have hz7:w3.heap.size≤w4.heap.size:=hgr.size
          replace O_7:OwnL w4 (B1+1) ([]++bt) v:=OwnL.app O_7
          rw [List.nil_append] at O_7
          refine actO (i:=7) (some 27) rfl v rfl rfl (appendOp _ _ 29 _ _ _ rfl rfl rfl hr) ?_
          refine ⟨M.below,?_⟩
          simp only [aP,lI,l0,lS]
          obtain ⟨p7,c7,rfl,_,_⟩:=O_7.bytes
          clear hr hgr hob O_4; refine xrH 8 28 rfl (.agg #[.int .i64 x,.int .i64 0,.int .i64 0,.int .i64 0,.int .i64 0,.slice p7 bt.length c7]) (fun _ _=>by kernel_rfl) M.below ?_; have hlb:=(Below.refl w4.heap.size w4).alloc (xnR _) (.cells #[.int .i64 0,.int .i64 0,.int .i64 0,.int .i64 0,.int .i64 0,.slice none 0 0] 70)
          refine onlyH (i:=9) (some 4) rfl (.pointer (some ⟨w4.heap.size,0,none⟩)) (by kernel_rfl) rfl rfl (by kernel_rfl) (M.call hlb).below ?_; simp only [aP,lI,l0,lS]
          have hBB:B1<w4.heap.size:=by omega
          have hne7:∀ g,(Value.slice p7 bt.length c7).ownBlock=some g→g≠w4.heap.size:=fun g hg=>by have:=(World.ownsRow.lt O_7 g hg).2; omega
          replace O_7:=O_7.below hlb
          have hz9:w4.heap.size≤(w4.alloc (.cells #[.int .i64 0,.int .i64 0,.int .i64 0,.int .i64 0,.int .i64 0,.slice none 0 0] 70)).heap.size:=hlb.size
          replace M:=M.box #[.int .i64 0,.int .i64 0,.int .i64 0,.int .i64 0,.int .i64 0,.slice none 0 0] 70 w4.heap.size rfl; clear hlb; have hB9:=M.lt mS; generalize (w4.alloc (.cells #[.int .i64 0,.int .i64 0,.int .i64 0,.int .i64 0,.int .i64 0,.slice none 0 0] 70))=w5 at M hz9 hB9  O_7 ⊢; generalize eB:w4.heap.size=B at M hBB hB9  hne7 ⊢
          replace M:Mm w [(B,[.int .i64 0,.int .i64 0,.int .i64 0,.int .i64 0,.int .i64 0,.slice none 0 0]),(B1,[.int .i64 0,.int .i64 0,.int .i64 0,.int .i64 0,.int .i64 0,.slice none 0 0])] w5:=M
          have hA7:SrcA [B,B1] w5 p7 bt.length (bl bt):=⟨O_7.src,fun ad e hn hm=>by
           subst e; have h1:=(World.ownsRow.lt O_7 ad.block rfl).1; have h2:=hne7 ad.block rfl
           rcases xc1 hm with h | h
           · exact h2 h
           · have:=xm1 h; omega⟩
          have hc7:=O_7.le; have hn7:=O_7.nilCap; clear O_7
          refine doesH (i:=10) none rfl (by kernel_rfl) rfl rfl (storeP [.int .i64 x,.int .i64 0,.int .i64 0,.int .i64 0,.int .i64 0,.slice p7 bt.length c7] B 0 70 _ _ rfl rfl rfl (M.thereP mS 0 6 (Nat.le_of_ble_eq_true rfl)) (by kernel_rfl) (List.all_eq_true.1 (rfl:([.int .i64 x,.int .i64 0,.int .i64 0,.int .i64 0,.int .i64 0,.slice p7 bt.length c7]:List Value).all (fun u=>u.oneCell')=true))) (M.setPart [.int .i64 x,.int .i64 0,.int .i64 0,.int .i64 0,.int .i64 0,.slice p7 bt.length c7] 0 (Nat.le_of_ble_eq_true rfl)).below ?_
          simp only [Act.put]; replace M:=M.setPart [.int .i64 x,.int .i64 0,.int .i64 0,.int .i64 0,.int .i64 0,.slice p7 bt.length c7] 0 (Nat.le_of_ble_eq_true rfl); replace hA7:=hA7.off ((Off.refl [B,B1] _).setAll (b:=B) mS 0 [.int .i64 x,.int .i64 0,.int .i64 0,.int .i64 0,.int .i64 0,.slice p7 bt.length c7])
          generalize w5.setCells B 0 [.int .i64 x,.int .i64 0,.int .i64 0,.int .i64 0,.int .i64 0,.slice p7 bt.length c7]=wz at M hA7 ⊢
          refine wpAnyH_done (by kernel_rfl) ?_ _
          first | show Exit.then _ _ _ _ _ | show Exit.inBlock _ _ _ _ _
          have HS:=show Hid _ from (And.intro hBB (And.intro M (And.intro hA7 (And.intro hc7 hn7)))); clear M hA7 hc7 hn7; go_wp2
          go_meet
          exact ⟨B,p7,c7,rfl,HS.out⟩
        · have hlb:=(Below.refl w3.heap.size w3).alloc (xnR _) (.cells #[.int .i64 0,.int .i64 0,.int .i64 0,.int .i64 0,.int .i64 0,.slice none 0 0] 70)
          refine actO (w':=(w3.alloc (.cells #[.int .i64 0,.int .i64 0,.int .i64 0,.int .i64 0,.int .i64 0,.slice none 0 0] 70))) (i:=9) (some 4) rfl (.pointer (some ⟨w3.heap.size,0,none⟩)) rfl rfl (by kernel_rfl) ?_
          refine ⟨(M.call hlb).below,?_⟩
          simp only [aP,lI,l0,lS]
          have hBB:B1<w3.heap.size:=by omega
          have hne:∀ g,(Value.slice p4 0 0).ownBlock=some g→g≠w3.heap.size:=fun g hg=>by have:=h4 g hg; omega
          replace O_4:=O_4.below hlb
          have hz9:w3.heap.size≤(w3.alloc (.cells #[.int .i64 0,.int .i64 0,.int .i64 0,.int .i64 0,.int .i64 0,.slice none 0 0] 70)).heap.size:=hlb.size
          replace M:=M.box #[.int .i64 0,.int .i64 0,.int .i64 0,.int .i64 0,.int .i64 0,.slice none 0 0] 70 w3.heap.size rfl; clear hlb; have hB9:=M.lt mS; generalize (w3.alloc (.cells #[.int .i64 0,.int .i64 0,.int .i64 0,.int .i64 0,.int .i64 0,.slice none 0 0] 70))=w4 at M hz9 hB9 O_4  ⊢; generalize eB:w3.heap.size=B at M hBB hB9 hne  ⊢
          obtain ⟨v,w5,hr,O_7,hgr,hob⟩:=run_append_Own (P:=Tryz.prog) (ty:=29) Tryz.underlying29 one8 O_4 q26 bt.length (cap-1) (bl bt) (hsq M.below) hqn26 (by rw [List.length_nil]; unfold maxLen; omega) (by rw [List.length_nil]; omega) (by omega)
          have hofM:Off (ob p4) w4 w5:=(Off.refl _ _).grown hgr (fun b hb=>.inl ((ob_own _ _ _ _).1 hb))
          replace M:=M.off hofM (fun y hy=>by have h1:=(ob_lt O_4 y hy).1; omega) (fun q hq hy=>by
           have h1:=(ob_lt O_4 _ hy).1; have h2:=hne _ ((ob_own p4 0 0 _).2 hy)
           rcases xc1 hq with rfl | hq
           · exact h2 rfl
           · obtain rfl:=xm1 hq
             simp only at h1
             omega) ⟨hgr.os,hgr.tape,hgr.output⟩
          have hne7:∀ g,v.ownBlock=some g→g≠B:=fun g hg=>by
           rcases hob g hg with h | h
           · exact hne g h
           · omega
          clear hofM
          have hz7:w4.heap.size≤w5.heap.size:=hgr.size
          replace O_7:OwnL w5 (B1+1) ([]++bt) v:=OwnL.app O_7
          rw [List.nil_append] at O_7
          refine onlyH (i:=7) (some 27) rfl v (by kernel_rfl) rfl rfl (appendOp _ _ 29 _ _ _ rfl rfl rfl hr) M.below ?_; simp only [aP,lI,l0,lS]
          obtain ⟨p7,c7,rfl,_,_⟩:=O_7.bytes
          clear hr hgr hob O_4; refine xrH 8 28 rfl (.agg #[.int .i64 x,.int .i64 0,.int .i64 0,.int .i64 0,.int .i64 0,.slice p7 bt.length c7]) (fun _ _=>by kernel_rfl) M.below ?_
          replace M:Mm w [(B,[.int .i64 0,.int .i64 0,.int .i64 0,.int .i64 0,.int .i64 0,.slice none 0 0]),(B1,[.int .i64 0,.int .i64 0,.int .i64 0,.int .i64 0,.int .i64 0,.slice none 0 0])] w5:=M
          have hA7:SrcA [B,B1] w5 p7 bt.length (bl bt):=⟨O_7.src,fun ad e hn hm=>by
           subst e; have h1:=(World.ownsRow.lt O_7 ad.block rfl).1; have h2:=hne7 ad.block rfl
           rcases xc1 hm with h | h
           · exact h2 h
           · have:=xm1 h; omega⟩
          have hc7:=O_7.le; have hn7:=O_7.nilCap; clear O_7
          refine doesH (i:=10) none rfl (by kernel_rfl) rfl rfl (storeP [.int .i64 x,.int .i64 0,.int .i64 0,.int .i64 0,.int .i64 0,.slice p7 bt.length c7] B 0 70 _ _ rfl rfl rfl (M.thereP mS 0 6 (Nat.le_of_ble_eq_true rfl)) (by kernel_rfl) (List.all_eq_true.1 (rfl:([.int .i64 x,.int .i64 0,.int .i64 0,.int .i64 0,.int .i64 0,.slice p7 bt.length c7]:List Value).all (fun u=>u.oneCell')=true))) (M.setPart [.int .i64 x,.int .i64 0,.int .i64 0,.int .i64 0,.int .i64 0,.slice p7 bt.length c7] 0 (Nat.le_of_ble_eq_true rfl)).below ?_
          simp only [Act.put]; replace M:=M.setPart [.int .i64 x,.int .i64 0,.int .i64 0,.int .i64 0,.int .i64 0,.slice p7 bt.length c7] 0 (Nat.le_of_ble_eq_true rfl); replace hA7:=hA7.off ((Off.refl [B,B1] _).setAll (b:=B) mS 0 [.int .i64 x,.int .i64 0,.int .i64 0,.int .i64 0,.int .i64 0,.slice p7 bt.length c7])
          generalize w5.setCells B 0 [.int .i64 x,.int .i64 0,.int .i64 0,.int .i64 0,.int .i64 0,.slice p7 bt.length c7]=wz at M hA7 ⊢
          refine wpAnyH_done (by kernel_rfl) ?_ _
          first | show Exit.then _ _ _ _ _ | show Exit.inBlock _ _ _ _ _
          have HS:=show Hid _ from (And.intro hBB (And.intro M (And.intro hA7 (And.intro hc7 hn7)))); clear M hA7 hc7 hn7; go_wp2
          go_meet
          exact ⟨B,p7,c7,rfl,HS.out⟩
      · have hlb:=(Below.refl w2.heap.size w2).alloc (xnR _) (.cells #[.int .i64 0,.int .i64 0,.int .i64 0,.int .i64 0,.int .i64 0,.slice none 0 0] 70)
        refine actO (w':=(w2.alloc (.cells #[.int .i64 0,.int .i64 0,.int .i64 0,.int .i64 0,.int .i64 0,.slice none 0 0] 70))) (i:=9) (some 4) rfl (.pointer (some ⟨w2.heap.size,0,none⟩)) rfl rfl (by kernel_rfl) ?_
        refine ⟨(M.call hlb).below,?_⟩
        simp only [aP,lI,l0,lS]
        have hBB:B1<w2.heap.size:=by omega
        have hz9:w2.heap.size≤(w2.alloc (.cells #[.int .i64 0,.int .i64 0,.int .i64 0,.int .i64 0,.int .i64 0,.slice none 0 0] 70)).heap.size:=hlb.size
        replace M:=M.box #[.int .i64 0,.int .i64 0,.int .i64 0,.int .i64 0,.int .i64 0,.slice none 0 0] 70 w2.heap.size rfl; clear hlb; have hB9:=M.lt mS; generalize (w2.alloc (.cells #[.int .i64 0,.int .i64 0,.int .i64 0,.int .i64 0,.int .i64 0,.slice none 0 0] 70))=w3 at M hz9 hB9   ⊢; generalize eB:w2.heap.size=B at M hBB hB9   ⊢
        have hlb:=(Below.refl w3.heap.size w3).alloc (xnR _) (.cells #[] 5); refine onlyH (i:=4) (some 24) rfl (.slice (some ⟨w3.heap.size,0,none⟩) 0 0) (by kernel_rfl) rfl rfl (by kernel_rfl) (M.call hlb).below ?_; simp only [aP,lI,l0,lS]
        have O_4:OwnL (w3.alloc (.cells #[] 5)) (B1+1) [] (.slice (some ⟨w3.heap.size,0,none⟩) 0 0):=Own.lit w3 (B1+1) 5 .u8 0 (bl []) (by omega) (by unfold maxLen; omega)
        have hne:∀ g,((.slice (some ⟨w3.heap.size,0,none⟩) 0 0):Value).ownBlock=some g→g≠B:=fun g hg=>by have hg':w3.heap.size=g:=Option.some.inj hg; omega
        have hz4:w3.heap.size≤(w3.alloc (.cells #[] 5)).heap.size:=hlb.size
        replace M:=M.call hlb; clear hlb; generalize (w3.alloc (.cells #[] 5))=w4 at M O_4 hz4  ⊢; generalize (some ⟨w3.heap.size,0,none⟩:Option Addr)=p4 at O_4 hne ⊢
        obtain ⟨v,w5,hr,O_7,hgr,hob⟩:=run_append_Own (P:=Tryz.prog) (ty:=29) Tryz.underlying29 one8 O_4 q26 bt.length (cap-1) (bl bt) (hsq M.below) hqn26 (by rw [List.length_nil]; unfold maxLen; omega) (by rw [List.length_nil]; omega) (by omega)
        have hofM:Off (ob p4) w4 w5:=(Off.refl _ _).grown hgr (fun b hb=>.inl ((ob_own _ _ _ _).1 hb))
        replace M:=M.off hofM (fun y hy=>by have h1:=(ob_lt O_4 y hy).1; omega) (fun q hq hy=>by
         have h1:=(ob_lt O_4 _ hy).1; have h2:=hne _ ((ob_own p4 0 0 _).2 hy)
         rcases xc1 hq with rfl | hq
         · exact h2 rfl
         · obtain rfl:=xm1 hq
           simp only at h1
           omega) ⟨hgr.os,hgr.tape,hgr.output⟩
        have hne7:∀ g,v.ownBlock=some g→g≠B:=fun g hg=>by
         rcases hob g hg with h | h
         · exact hne g h
         · omega
        clear hofM
        have hz7:w4.heap.size≤w5.heap.size:=hgr.size
        replace O_7:OwnL w5 (B1+1) ([]++bt) v:=OwnL.app O_7
        rw [List.nil_append] at O_7
        refine onlyH (i:=7) (some 27) rfl v (by kernel_rfl) rfl rfl (appendOp _ _ 29 _ _ _ rfl rfl rfl hr) M.below ?_; simp only [aP,lI,l0,lS]
        obtain ⟨p7,c7,rfl,_,_⟩:=O_7.bytes
        clear hr hgr hob O_4; refine xrH 8 28 rfl (.agg #[.int .i64 x,.int .i64 0,.int .i64 0,.int .i64 0,.int .i64 0,.slice p7 bt.length c7]) (fun _ _=>by kernel_rfl) M.below ?_
        replace M:Mm w [(B,[.int .i64 0,.int .i64 0,.int .i64 0,.int .i64 0,.int .i64 0,.slice none 0 0]),(B1,[.int .i64 0,.int .i64 0,.int .i64 0,.int .i64 0,.int .i64 0,.slice none 0 0])] w5:=M
        have hA7:SrcA [B,B1] w5 p7 bt.length (bl bt):=⟨O_7.src,fun ad e hn hm=>by
         subst e; have h1:=(World.ownsRow.lt O_7 ad.block rfl).1; have h2:=hne7 ad.block rfl
         rcases xc1 hm with h | h
         · exact h2 h
         · have:=xm1 h; omega⟩
        have hc7:=O_7.le; have hn7:=O_7.nilCap; clear O_7
        refine doesH (i:=10) none rfl (by kernel_rfl) rfl rfl (storeP [.int .i64 x,.int .i64 0,.int .i64 0,.int .i64 0,.int .i64 0,.slice p7 bt.length c7] B 0 70 _ _ rfl rfl rfl (M.thereP mS 0 6 (Nat.le_of_ble_eq_true rfl)) (by kernel_rfl) (List.all_eq_true.1 (rfl:([.int .i64 x,.int .i64 0,.int .i64 0,.int .i64 0,.int .i64 0,.slice p7 bt.length c7]:List Value).all (fun u=>u.oneCell')=true))) (M.setPart [.int .i64 x,.int .i64 0,.int .i64 0,.int .i64 0,.int .i64 0,.slice p7 bt.length c7] 0 (Nat.le_of_ble_eq_true rfl)).below ?_
        simp only [Act.put]; replace M:=M.setPart [.int .i64 x,.int .i64 0,.int .i64 0,.int .i64 0,.int .i64 0,.slice p7 bt.length c7] 0 (Nat.le_of_ble_eq_true rfl); replace hA7:=hA7.off ((Off.refl [B,B1] _).setAll (b:=B) mS 0 [.int .i64 x,.int .i64 0,.int .i64 0,.int .i64 0,.int .i64 0,.slice p7 bt.length c7])
        generalize w5.setCells B 0 [.int .i64 x,.int .i64 0,.int .i64 0,.int .i64 0,.int .i64 0,.slice p7 bt.length c7]=wz at M hA7 ⊢
        refine wpAnyH_done (by kernel_rfl) ?_ _
        first | show Exit.then _ _ _ _ _ | show Exit.inBlock _ _ _ _ _
        have HS:=show Hid _ from (And.intro hBB (And.intro M (And.intro hA7 (And.intro hc7 hn7)))); clear M hA7 hc7 hn7; go_wp2
        go_meet
        exact ⟨B,p7,c7,rfl,HS.out⟩
     case rest =>
      obtain ⟨B,bp,bc,rfl,hBB,M,A_0,hc0,hn0⟩:=hcut
      go_upto_region 4 with fail; refine wp_region_list ?_; refine xpL (.pointer (some ⟨B,0,none⟩)) ?_; refine xaL (.int .i64 x) (load1 3 _ ⟨B,0,none⟩ _ rfl rfl (fun _=>by kernel_rfl) (M.get mS 0 _ rfl)) ?_; refine xaL (.bool false) (eqlI .i64 _ _ _ _ _ _ rfl rfl rfl false (by simpa using h3) _) ?_; refine xT ?_
      have hprs:prs (x::bt)=⟨x,0,0,0,0,bt⟩:=by unfold prs; rw [if_neg (show ¬ bl (x::bt) 0=3 from h3)]; rfl
      cases hok:pok ⟨x,0,0,0,0,bt⟩ with
      | true =>
        have hQ:=show Hid _ from ps_ok (by rw [pps_good hns (by rw [hprs]; exact hok),hprs]); go_upto_region 10 with fail; refine wp_region_list ?_
        refine xaL (.agg #[.int .i64 x,.int .i64 0,.int .i64 0,.int .i64 0,.int .i64 0,.slice bp bt.length bc]) (loadN 70 _ ⟨B,0,none⟩ [.int .i64 x,.int .i64 0,.int .i64 0,.int .i64 0,.int .i64 0,.slice bp bt.length bc] rfl rfl (fun _=>by kernel_rfl) (fun _=>by kernel_rfl) (M.rangeAt mS)) ?_
        have hC:Calls Tryz.prog 43 #[.agg #[.int .i64 x,.int .i64 0,.int .i64 0,.int .i64 0,.int .i64 0,.slice bp bt.length bc]] wc (fun e w'=>e=.returned (.bool true)∧Below wc.heap.size wc w'):=(by rw [← hok]; exact rmay_any ⟨x,0,0,0,0,bt⟩ bp bc _)
        refine xcL (hC) ?_; rintro e w17 ⟨rfl,l⟩; replace M:=M.call l
        refine ⟨_,rfl,?_⟩
        replace A_0:=A_0.off (Off.of_below l); clear l hC; simp only [aP,lI,l0,lS]; refine xpL (.bool false) ?_; refine xT ?_; go_upto_region 12 with fail; refine wp_region_list ?_
        refine xaL (.agg #[.int .i64 x,.int .i64 0,.int .i64 0,.int .i64 0,.int .i64 0,.slice bp bt.length bc]) (loadN 70 _ ⟨B,0,none⟩ [.int .i64 x,.int .i64 0,.int .i64 0,.int .i64 0,.int .i64 0,.slice bp bt.length bc] rfl rfl (fun _=>by kernel_rfl) (fun _=>by kernel_rfl) (M.rangeAt mS)) ?_; replace M:=M.swap
        refine skipOpL rfl (storeP [.int .i64 x,.int .i64 0,.int .i64 0,.int .i64 0,.int .i64 0,.slice bp bt.length bc] B1 0 70 _ _ rfl rfl rfl (M.thereP mS 0 6 (Nat.le_of_ble_eq_true rfl)) (by kernel_rfl) (List.all_eq_true.1 (rfl:([.int .i64 x,.int .i64 0,.int .i64 0,.int .i64 0,.int .i64 0,.slice bp bt.length bc]:List Value).all (fun u=>u.oneCell')=true))) ?_
        simp only [Act.put]; replace M:=M.setPart [.int .i64 x,.int .i64 0,.int .i64 0,.int .i64 0,.int .i64 0,.slice bp bt.length bc] 0 (Nat.le_of_ble_eq_true rfl); replace A_0:=A_0.off (((Off.refl [B1] _).setAll (b:=B1) mS 0 [.int .i64 x,.int .i64 0,.int .i64 0,.int .i64 0,.int .i64 0,.slice bp bt.length bc]).mono (fun x hx=>by obtain rfl:=xm1 hx; simp))
        generalize w17.setCells B1 0 [.int .i64 x,.int .i64 0,.int .i64 0,.int .i64 0,.int .i64 0,.slice bp bt.length bc]=w18 at M A_0 ⊢
        replace M:Mm w ([(B1,[.int .i64 x,.int .i64 0,.int .i64 0,.int .i64 0,.int .i64 0,.slice bp bt.length bc]),(B,[.int .i64 x,.int .i64 0,.int .i64 0,.int .i64 0,.int .i64 0,.slice bp bt.length bc])]) w18:=M
        refine xpL (.int .i64 0) ?_; refine xT ?_; have hpv:=show Hid _ from ((⟨A_0.1,hc0,hn0,show bt.length≤140737488351232 by omega,hbt,i64_byte hx,show i64 0 by unfold i64; decide,show i64 0 by unfold i64; decide,show i64 0 by unfold i64; decide,show i64 0 by unfold i64; decide⟩:PV _ ⟨x,0,0,0,0,bt⟩ bp bc)); have c1_:=M.part mS 0 (pcs ⟨x,0,0,0,0,bt⟩ bp bc) rfl
        have hM:=M.below; clear M; go_wp2; refine bodyPost_ret (v:=.tuple #[.agg (pcs ⟨x,0,0,0,0,bt⟩ bp bc).toArray,.int .i64 0]) (retCellTmp 2 3 70 ⟨B1,0,none⟩ (pcs ⟨x,0,0,0,0,bt⟩ bp bc) _ rfl rfl rfl (fun _=>by kernel_rfl) (fun _=>by kernel_rfl) c1_) rfl ?_
        exact ⟨⟨_,_,by rw [hQ.out.1,hQ.out.2],by rw [hQ.out.1]; exact hpv.out⟩,hM⟩
      | false =>
        have hQ:=show Hid _ from ps_err (pps_bad hns (by rw [hprs]; exact hok)); go_upto_region 10 with fail; refine wp_region_list ?_
        refine xaL (.agg #[.int .i64 x,.int .i64 0,.int .i64 0,.int .i64 0,.int .i64 0,.slice bp bt.length bc]) (loadN 70 _ ⟨B,0,none⟩ [.int .i64 x,.int .i64 0,.int .i64 0,.int .i64 0,.int .i64 0,.slice bp bt.length bc] rfl rfl (fun _=>by kernel_rfl) (fun _=>by kernel_rfl) (M.rangeAt mS)) ?_
        have hC:Calls Tryz.prog 43 #[.agg #[.int .i64 x,.int .i64 0,.int .i64 0,.int .i64 0,.int .i64 0,.slice bp bt.length bc]] wc (fun e w'=>e=.returned (.bool false)∧Below wc.heap.size wc w'):=(by rw [← hok]; exact rmay_any ⟨x,0,0,0,0,bt⟩ bp bc _)
        refine xcL (hC) ?_; rintro e w19 ⟨rfl,l⟩; replace M:=M.call l
        refine ⟨_,rfl,?_⟩
        replace A_0:=A_0.off (Off.of_below l); clear l hC; simp only [aP,lI,l0,lS]; refine xpL (.bool true) ?_; refine xT ?_; go_upto_region 11 with fail; refine wp_region_list ?_; refine xpL (.agg #[.int .i64 0,.int .i64 0,.int .i64 0,.int .i64 0,.int .i64 0,.slice none 0 0]) ?_; replace M:=M.swap
        refine skipOpL rfl (storeP [.int .i64 0,.int .i64 0,.int .i64 0,.int .i64 0,.int .i64 0,.slice none 0 0] B1 0 70 _ _ rfl rfl rfl (M.thereP mS 0 6 (Nat.le_of_ble_eq_true rfl)) (by kernel_rfl) (List.all_eq_true.1 (rfl:([.int .i64 0,.int .i64 0,.int .i64 0,.int .i64 0,.int .i64 0,.slice none 0 0]:List Value).all (fun u=>u.oneCell')=true))) ?_; simp only [Act.put]
        replace M:=M.setPart [.int .i64 0,.int .i64 0,.int .i64 0,.int .i64 0,.int .i64 0,.slice none 0 0] 0 (Nat.le_of_ble_eq_true rfl); generalize w19.setCells B1 0 [.int .i64 0,.int .i64 0,.int .i64 0,.int .i64 0,.int .i64 0,.slice none 0 0]=w20 at M  ⊢
        replace M:Mm w ([(B1,[.int .i64 0,.int .i64 0,.int .i64 0,.int .i64 0,.int .i64 0,.slice none 0 0]),(B,[.int .i64 x,.int .i64 0,.int .i64 0,.int .i64 0,.int .i64 0,.slice bp bt.length bc])]) w20:=M
        refine xpL (.int .i64 110) ?_; refine xT ?_; have hpv:=show Hid _ from (pv0 w20); have c1_:=M.part mS 0 (pcs pk0 none 0) rfl; have hM:=M.below; clear M; go_wp2; refine bodyPost_ret (v:=.tuple #[.agg (pcs pk0 none 0).toArray,.int .i64 110]) (retCellTmp 2 3 70 ⟨B1,0,none⟩ (pcs pk0 none 0) _ rfl rfl rfl (fun _=>by kernel_rfl) (fun _=>by kernel_rfl) c1_) rfl ?_
        exact ⟨⟨_,_,by rw [hQ.out.1,hQ.out.2],by rw [hQ.out.1]; exact hpv.out⟩,hM⟩
theorem use_n : (Tryz.prog.fieldsOf 39).toList.map Field.name = ["Epoch", "Path", "Counter"] := by kernel_rfl
theorem use_t:(Tryz.prog.fieldsOf 39).toList.map Field.type=[3,3,3]:=by kernel_rfl
theorem use_o:(Tryz.prog.fieldsOf 39).toList.map Field.offset=[0,1,2]:=by kernel_rfl
theorem three_of {l:List Field} {n1 n2 n3:String} {t1 t2 t3:TypeId} {o1 o2 o3:Nat} (hn:l.map Field.name=[n1,n2,n3]) (ht:l.map Field.type=[t1,t2,t3]) (ho:l.map Field.offset=[o1,o2,o3]):∃ a b c:Field,l=[a,b,c]∧(a.name=n1∧b.name=n2∧c.name=n3)∧(a.type=t1∧b.type=t2∧c.type=t3)∧a.offset=o1∧b.offset=o2∧c.offset=o3:=by
 rcases l with _ | ⟨a,_ | ⟨b,_ | ⟨c,_ | ⟨d,l⟩⟩⟩⟩
 · simp at hn
 · simp at hn
 · simp at hn
 · simp only [List.map_cons,List.map_nil,List.cons.injEq,and_true] at hn ht ho
   exact ⟨a,b,c,rfl,hn,ht,ho⟩
 · simp at hn
theorem eqUse (x y z x' y' z':Int) (w:World):(Op.equalIn (9999+1) 39 (.agg #[.int .i64 x,.int .i64 y,.int .i64 z]) (.agg #[.int .i64 x',.int .i64 y',.int .i64 z'])).run Tryz.prog w=.ok (x == x'&&(y == y'&&z == z')) w:=by
 rw [run_equalIn_struct w 9999 39 _ _ (by kernel_rfl) (by kernel_rfl)]
 obtain ⟨a,b,c,e,⟨n1,n2,n3⟩,⟨t1,t2,t3⟩,o1,o2,o3⟩:=three_of use_n use_t use_o
 rw [e]
 have p1:∀ x y z:Int,(part 3 #[.int .i64 x,.int .i64 y,.int .i64 z] 0).run Tryz.prog w=.ok (.int .i64 x) w:=fun _ _ _=>by kernel_rfl
 have p2:∀ x y z:Int,(part 3 #[.int .i64 x,.int .i64 y,.int .i64 z] 1).run Tryz.prog w=.ok (.int .i64 y) w:=fun _ _ _=>by kernel_rfl
 have p3:∀ x y z:Int,(part 3 #[.int .i64 x,.int .i64 y,.int .i64 z] 2).run Tryz.prog w=.ok (.int .i64 z) w:=fun _ _ _=>by kernel_rfl
 have q:∀ u v:Int,(Op.equalIn (9998+1) 3 (.int .i64 u) (.int .i64 v)).run Tryz.prog w=.ok (u == v) w:=fun u v=>by rw [run_equalIn_int w 9998 3 .i64 .i64 u v Tryz.underlying3]
 have m1 : a.name ≠ "_" := by rw [n1]; decide
 have m2 : b.name ≠ "_" := by rw [n2]; decide
 have m3 : c.name ≠ "_" := by rw [n3]; decide
 by_cases c1:x=x'
 · by_cases c2:y=y'
   · by_cases c3:z=z'
     · subst c1 c2 c3
       simp only [Op.eqFields,m1,m2,m3,t1,t2,t3,o1,o2,o3,ne_eq,not_false_eq_true,if_true,Sem.run_bind,p1,p2,p3,q,Result.andThen_ok,beq_self_eq_true,Bool.not_true,Bool.false_eq_true,if_false,Sem.run_pure,Bool.and_self]
     · subst c1 c2
       simp only [Op.eqFields,m1,m2,m3,t1,t2,t3,o1,o2,o3,ne_eq,not_false_eq_true,if_true,Sem.run_bind,p1,p2,p3,q,Result.andThen_ok,beq_self_eq_true,beq_eq_false_iff_ne.2 c3,Bool.not_true,Bool.not_false,Bool.false_eq_true,if_false,Sem.run_pure,Bool.true_and]
   · subst c1
     simp only [Op.eqFields,m1,m2,m3,t1,t2,t3,o1,o2,o3,ne_eq,not_false_eq_true,if_true,Sem.run_bind,p1,p2,q,Result.andThen_ok,beq_self_eq_true,beq_eq_false_iff_ne.2 c2,Bool.not_true,Bool.not_false,Bool.false_eq_true,if_false,Sem.run_pure,Bool.true_and,Bool.false_and]
 · simp only [Op.eqFields,m1,m2,m3,t1,t2,t3,o1,o2,o3,ne_eq,not_false_eq_true,if_true,Sem.run_bind,p1,q,Result.andThen_ok,beq_eq_false_iff_ne.2 c1,Bool.not_false,Sem.run_pure,Bool.false_and]
theorem eqlUs {o:Oper} {a:Act} (x y z x' y' z':Int) (u v:Operand) (ho:o.op=.binOp .eql 39 u v 39) (hx:a.eval u=.agg #[.int .i64 x,.int .i64 y,.int .i64 z]) (hy:a.eval v=.agg #[.int .i64 x',.int .i64 y',.int .i64 z']) (r:Bool) (hr:(x == x'&&(y == y'&&z == z'))=r) (w:World) :
 (execOp a.eval o).run Tryz.prog w=.ok (.value (.bool r)) w:=by
 have e1:(binOp .eql 39 (.agg #[.int .i64 x,.int .i64 y,.int .i64 z]) (.agg #[.int .i64 x',.int .i64 y',.int .i64 z'])).run Tryz.prog w=.ok (.bool r) w:=by
  rw [run_eql_struct,eqUse,hr]
  rfl
 unfold execOp
 simp only [ho,hx,hy,Sem.run_bind,run_eqGuard_agg (P:=Tryz.prog) w .eql 39 u v _ _ (by kernel_rfl),Result.andThen_ok,e1,Sem.run_pure]
theorem use16_any (sp:Option Addr) (cap:Nat) (b:List Int) (w:World) (hlen:b.length≤140737488351232) (hcap:b.length≤cap) (hnil:sp=none→cap=0) (hb:Byts b) (hs:Src w sp b.length (bl b)) (p:Pkt) (hp:pps b=.ok p) (hk:p.kind=3) :
 Calls Tryz.prog 14 #[.slice sp b.length cap] w fun e w'=>e=.returned (.tuple #[.agg #[.int .i64 p.epo,.int .i64 p.path,.int .i64 p.ctr],.bool true])∧Below w.heap.size w w':=by
 have M:=Mm.init w
 go_enter Tryz.func14,Tryz.ntmps14
 go_upto_region 0 with fail; refine wp_region_list ?_; refine actL (w':=w.alloc (.cells #[.int .i64 0,.int .i64 0,.int .i64 0] 39)) (.pointer (some ⟨w.heap.size,0,none⟩)) rfl (by kernel_rfl) ?_; simp only [aP,lI,l0,lS]; replace M:=M.box #[.int .i64 0,.int .i64 0,.int .i64 0] 39 w.heap.size rfl; generalize w.alloc (.cells #[.int .i64 0,.int .i64 0,.int .i64 0] 39)=w1 at M ⊢
 generalize w.heap.size=T at M ⊢
 replace M:Mm w ((T,[.int .i64 0,.int .i64 0,.int .i64 0])::([]:List (Nat × List Value))) w1:=M
 refine xpL (.bool false) ?_; refine xT ?_; go_upto_region 1 with fail; refine wp_region_list ?_; refine xpL (.slice sp b.length cap) ?_; have key:=rparse_any sp cap b _ hlen hcap hnil hb (hs.below M.below (xnR _))
 rw [(ps_ok hp).1,(ps_ok hp).2] at key
 refine xcL key ?_; clear key; rintro e w2 ⟨⟨bp,bc,rfl,-⟩,l⟩; replace M:=M.call l; clear l; refine xeL ?_; refine xpL (.tuple #[.agg #[.int .i64 p.kind,.int .i64 p.role,.int .i64 p.path,.int .i64 p.epo,.int .i64 p.ctr,.slice bp p.body.length bc],.int .i64 0]) ?_
 refine xpL (.agg #[.int .i64 p.kind,.int .i64 p.role,.int .i64 p.path,.int .i64 p.epo,.int .i64 p.ctr,.slice bp p.body.length bc]) ?_; refine xpL (.int .i64 0) ?_; refine actL (w':=w2.alloc (.cells #[.int .i64 0,.int .i64 0,.int .i64 0,.int .i64 0,.int .i64 0,.slice none 0 0] 70)) (.pointer (some ⟨w2.heap.size,0,none⟩)) rfl (by kernel_rfl) ?_; simp only [aP,lI,l0,lS]
 replace M:=M.box #[.int .i64 0,.int .i64 0,.int .i64 0,.int .i64 0,.int .i64 0,.slice none 0 0] 70 w2.heap.size rfl; generalize w2.alloc (.cells #[.int .i64 0,.int .i64 0,.int .i64 0,.int .i64 0,.int .i64 0,.slice none 0 0] 70)=w3 at M ⊢; generalize w2.heap.size=P at M ⊢
 replace M:Mm w ((P,[.int .i64 0,.int .i64 0,.int .i64 0,.int .i64 0,.int .i64 0,.slice none 0 0])::(T,[.int .i64 0,.int .i64 0,.int .i64 0])::([]:List (Nat × List Value))) w3:=M
 refine skipOpL rfl (storeP [.int .i64 p.kind,.int .i64 p.role,.int .i64 p.path,.int .i64 p.epo,.int .i64 p.ctr,.slice bp p.body.length bc] P 0 70 _ _ rfl rfl rfl (M.thereP mS 0 6 (Nat.le_of_ble_eq_true rfl)) (by kernel_rfl) (List.all_eq_true.1 (rfl:([.int .i64 p.kind,.int .i64 p.role,.int .i64 p.path,.int .i64 p.epo,.int .i64 p.ctr,.slice bp p.body.length bc]:List Value).all (fun u=>u.oneCell')=true))) ?_
 simp only [Act.put]; replace M:=M.setAll [.int .i64 p.kind,.int .i64 p.role,.int .i64 p.path,.int .i64 p.epo,.int .i64 p.ctr,.slice bp p.body.length bc] rfl; generalize w3.setCells P 0 [.int .i64 p.kind,.int .i64 p.role,.int .i64 p.path,.int .i64 p.epo,.int .i64 p.ctr,.slice bp p.body.length bc]=w4 at M ⊢; refine xpL (.int .i64 0) ?_; refine xT ?_; replace M:=M.swap
 go_upto_region 2 with fail; refine wp_region_held_drew (S:=fun w'=>∃ cs_,Mm w ((T,cs_)::(P,[.int .i64 p.kind,.int .i64 p.role,.int .i64 p.path,.int .i64 p.epo,.int .i64 p.ctr,.slice bp p.body.length bc])::([]:List (Nat × List Value))) w') (by kernel_rfl) ⟨_,M.drew⟩ ?_; intro _; replace M:=M.drew; generalize w4.drew=w5 at M ⊢
 refine xrH 0 11 rfl (.pointer (some ⟨P,3,none⟩)) (fun _ ⟨_,M⟩=>(by kernel_rfl)) ⟨_,M⟩ ?_; refine xrH 1 12 rfl (.int .i64 p.epo) (fun _ ⟨_,M⟩=>load1 3 _ ⟨P,3,none⟩ _ rfl rfl (fun _=>by kernel_rfl) (M.get (mT _ mS) 3 _ rfl)) ⟨_,M⟩ ?_; refine xrH 2 13 rfl (.pointer (some ⟨P,2,none⟩)) (fun _ ⟨_,M⟩=>(by kernel_rfl)) ⟨_,M⟩ ?_
 refine xrH 3 14 rfl (.int .i64 p.path) (fun _ ⟨_,M⟩=>load1 3 _ ⟨P,2,none⟩ _ rfl rfl (fun _=>by kernel_rfl) (M.get (mT _ mS) 2 _ rfl)) ⟨_,M⟩ ?_; refine xrH 4 15 rfl (.pointer (some ⟨P,4,none⟩)) (fun _ ⟨_,M⟩=>(by kernel_rfl)) ⟨_,M⟩ ?_; refine xrH 5 16 rfl (.int .i64 p.ctr) (fun _ ⟨_,M⟩=>load1 3 _ ⟨P,4,none⟩ _ rfl rfl (fun _=>by kernel_rfl) (M.get (mT _ mS) 4 _ rfl)) ⟨_,M⟩ ?_
 refine xrH 6 17 rfl (.agg #[.int .i64 p.epo,.int .i64 p.path,.int .i64 p.ctr]) (fun _ ⟨_,M⟩=>(by kernel_rfl)) ⟨_,M⟩ ?_; refine xrH 7 18 rfl (.int .i64 0) (fun _ ⟨_,M⟩=>(by kernel_rfl)) ⟨_,M⟩ ?_; refine xrH 8 19 rfl (.bool true) (fun _ ⟨_,M⟩=>eqlI .i64 _ _ _ _ _ _ rfl rfl rfl true (beq_self_eq_true _) _) ⟨_,M⟩ ?_
 refine xrH 9 20 rfl (.bool true) (fun _ ⟨_,M⟩=>(by kernel_rfl)) ⟨_,M⟩ ?_; refine xrH 10 21 rfl (.pointer (some ⟨P,0,none⟩)) (fun _ ⟨_,M⟩=>(by kernel_rfl)) ⟨_,M⟩ ?_; refine xrH 11 22 rfl (.int .i64 p.kind) (fun _ ⟨_,M⟩=>load1 3 _ ⟨P,0,none⟩ _ rfl rfl (fun _=>by kernel_rfl) (M.get (mT _ mS) 0 _ rfl)) ⟨_,M⟩ ?_
 refine xrH 12 23 rfl (.bool true) (fun _ ⟨_,M⟩=>eqlI .i64 _ _ _ _ _ _ rfl rfl rfl true (by rw [hk]; rfl) _) ⟨_,M⟩ ?_; refine xrH 13 24 rfl (.bool true) (fun _ ⟨_,M⟩=>(by kernel_rfl)) ⟨_,M⟩ ?_
 refine doesH (i:=14) none rfl (by kernel_rfl) rfl rfl (storeP [.int .i64 p.epo,.int .i64 p.path,.int .i64 p.ctr] T 0 39 _ _ rfl rfl rfl (M.thereP mS 0 3 (Nat.le_of_ble_eq_true rfl)) (by kernel_rfl) (List.all_eq_true.1 (rfl:([.int .i64 p.epo,.int .i64 p.path,.int .i64 p.ctr]:List Value).all (fun u=>u.oneCell')=true))) ⟨_,M.setAll [.int .i64 p.epo,.int .i64 p.path,.int .i64 p.ctr] rfl⟩ ?_
 simp only [Act.put]; replace M:=M.setAll [.int .i64 p.epo,.int .i64 p.path,.int .i64 p.ctr] rfl; generalize w5.setCells T 0 [.int .i64 p.epo,.int .i64 p.path,.int .i64 p.ctr]=w6 at M ⊢; refine xrH 15 3 rfl (.bool true) (fun _ ⟨_,M⟩=>(by kernel_rfl)) ⟨_,M⟩ ?_
 refine wpAnyH_done (by kernel_rfl) ?_ _
 have c1_:=M.rangeAt mS; have hbel:=M.below; clear M
 first | show Exit.then _ _ _ _ _ | show Exit.inBlock _ _ _ _ _ | skip
 go_wp2; refine bodyPost_ret (v:=.tuple #[.agg #[.int .i64 p.epo,.int .i64 p.path,.int .i64 p.ctr],.bool true]) (retCellTmp 2 3 39 ⟨T,0,none⟩ [.int .i64 p.epo,.int .i64 p.path,.int .i64 p.ctr] _ rfl rfl rfl (fun _=>by kernel_rfl) (fun _=>by kernel_rfl) c1_) rfl ?_
 exact ⟨rfl,hbel⟩
end Go.Proofs.YtknodedhcdpbiaaGreatDoor
