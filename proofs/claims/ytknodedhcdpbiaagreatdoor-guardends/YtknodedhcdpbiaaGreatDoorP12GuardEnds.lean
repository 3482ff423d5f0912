/- Texts of Xt Wr Dg Rd Re Rc Rm Pr Ps Iy, joined. -/
import Derived.Test.YtknodedhcdpbiaaGreatDoorP11GuardEnds
set_option maxRecDepth 20000
set_option maxHeartbeats 64000000
namespace Go.Proofs.YtknodedhcdpbiaaGreatDoor
open Go.RowKit
def qszn:Nat→Nat
 | 3=>2
 | 4=>6
 | _=>1
def rof:Nat→Nat
 | 0=>0
 | k+1=>rof k+qszn k
def rnum (b:List Int) (k:Nat):Int:=fV (fun i=>bl b (rof k+i)) (qszn k)
def rnz (b:List Int) (j k:Nat):Int:=if k<j then rnum b k else 0
def ncs (b:List Int) (j:Nat):List Value:=[.int .i64 (rnz b j 0),.int .i64 (rnz b j 1),.int .i64 (rnz b j 2),.int .i64 (rnz b j 3),.int .i64 (rnz b j 4)]
theorem rnum_byte (b:List Int) (k:Nat) (hk:k<3):rnum b k=bl b k:=by
 have:k=0∨k=1∨k=2:=by omega
 rcases this with rfl | rfl | rfl
 · show 0*256+bl b 0=bl b 0; omega
 · show 0*256+bl b 1=bl b 1; omega
 · show 0*256+bl b 2=bl b 2; omega
theorem PG.row {w:World} (h:PG w):∀ (j:Nat) (v:Value),([.int .i64 1,.int .i64 1,.int .i64 1,.int .i64 2,.int .i64 6]:List Value)[j]?=some v→w.cell? ((⟨0,0,none⟩:Addr).add j)=some v:=fun j v hv=>by
 rw [Addr.add_mid,Nat.zero_add]
 match j,hv with
 | 0,hv=>cases hv; exact h.sz 0 (by decide)
 | 1,hv=>cases hv; exact h.sz 1 (by decide)
 | 2,hv=>cases hv; exact h.sz 2 (by decide)
 | 3,hv=>cases hv; exact h.sz 3 (by decide)
 | 4,hv=>cases hv; exact h.sz 4 (by decide)
 | _+5,hv=>cases hv
theorem prs_rec {b:List Int} (h:bl b 0=3):prs b=⟨rnum b 0,rnum b 1,rnum b 2,rnum b 3,rnum b 4,b.drop 11⟩:=by
 unfold prs
 rw [if_pos h,rnum_byte b 0 (by decide),rnum_byte b 1 (by decide),rnum_byte b 2 (by decide),h]
 rfl
theorem prs_other {b:List Int} (h:¬ bl b 0=3):prs b=⟨bl b 0,0,0,0,0,b.drop 1⟩:=by unfold prs; rw [if_neg h]
abbrev OwnN (w:World) (base n:Nat) (f:Nat→Int) (v:Value):Prop:=Own w base 5 .u8 n f v
theorem i64_0:i64 0:=by unfold i64; decide
theorem pread_any (sp:Option Addr) (cap:Nat) (b:List Int) (w0 w:World) (hl0:Below w0.heap.size w0 w) (hg:PG w) (hlen:b.length≤140737488351232) (hcap:b.length≤cap) (hnil:sp=none→cap=0) (hb:Byts b) (hs0:Src w0 sp b.length (bl b)) (h1:0<b.length) (h27:bl b 0=3→27≤b.length) :
 Calls Tryz.prog 44 #[.slice sp b.length cap] w fun e w'=>(∃ bp bc,e=.returned (.agg (pcs (prs b) bp bc).toArray)∧PV w0 (prs b) bp bc)∧Below w.heap.size w w':=by
 have M:=Mm.init w
 obtain ⟨ad,rfl,_⟩:=hs0 0 h1
 have hs:=hs0.below hl0 (xnR _); have hx0:=hb.bl 0 h1
 go_enter Tryz.func44,Tryz.ntmps44
 go_upto_region 0 with fail; refine wp_region_list ?_; refine actL (w':=w.alloc (.cells #[.int .i64 0,.int .i64 0,.int .i64 0,.int .i64 0,.int .i64 0,.slice none 0 0] 70)) (.pointer (some ⟨w.heap.size,0,none⟩)) rfl (by kernel_rfl) ?_; simp only [aP,lI,l0,lS]
 have hB_B1:w.heap.size≤w.heap.size:=M.below.size
 replace M:=M.box #[.int .i64 0,.int .i64 0,.int .i64 0,.int .i64 0,.int .i64 0,.slice none 0 0] 70 w.heap.size rfl; generalize w.alloc (.cells #[.int .i64 0,.int .i64 0,.int .i64 0,.int .i64 0,.int .i64 0,.slice none 0 0] 70)=w1 at M  ⊢; generalize eB:w.heap.size=B1 at M hB_B1  ⊢
 have hE_B1:w.heap.size≤B1:=Nat.le_of_eq eB
 have hF_B1:B1≤w.heap.size:=Nat.le_of_eq eB.symm
 clear eB
 replace M:Mm w ([(B1,[.int .i64 0,.int .i64 0,.int .i64 0,.int .i64 0,.int .i64 0,.slice none 0 0])]) w1:=M
 refine xT ?_
 by_cases h3:bl b 0=3
 · have hl27:=h27 h3
   go_upto_region 1 with fail; refine wp_region_list ?_; refine xpL (.slice (some ad) b.length cap) ?_; refine xaL (.pointer (some (ad.add 0))) (idxSl 29 5 b.length cap .i64 ad 0 _ _ Tryz.underlying29 (fun _=>by kernel_rfl) (by omega) rfl rfl rfl _) ?_; refine xaL (.int .u8 (bl b 0)) (load1 5 _ (ad.add 0) _ rfl rfl (fun _=>by kernel_rfl) ((hs.below M.below (xnR _)).at 0 (by omega))) ?_
   refine xaL (.bool false) (neqI .u8 _ _ _ _ _ _ rfl rfl rfl false (by rw [h3]; rfl) _) ?_; refine xT ?_; go_upto_region 3 with fail; refine wp_region_list ?_; refine actL (w':=w1.alloc (.cells zi64_5 110)) (.pointer (some ⟨w1.heap.size,0,none⟩)) rfl (by kernel_rfl) ?_; simp only [aP,lI,l0,lS]
   have hB_B2:w.heap.size≤w1.heap.size:=M.below.size
   replace M:=M.box zi64_5 110 w1.heap.size rfl; generalize w1.alloc (.cells zi64_5 110)=w2 at M  ⊢; generalize eB:w1.heap.size=B2 at M hB_B2  ⊢
   have hE_B2:w1.heap.size≤B2:=Nat.le_of_eq eB
   have hF_B2:B2≤w1.heap.size:=Nat.le_of_eq eB.symm
   clear eB
   replace M:Mm w ([(B2,[.int .i64 0,.int .i64 0,.int .i64 0,.int .i64 0,.int .i64 0]),(B1,[.int .i64 0,.int .i64 0,.int .i64 0,.int .i64 0,.int .i64 0,.slice none 0 0])]) w2:=M
   refine xT ?_; go_upto_region 4 with fail; refine wp_region_list ?_; refine xpL (.slice (some ad) b.length cap) ?_
   obtain ⟨q19,hq19,hqs19⟩:=cut_hi (P:=Tryz.prog) (t:=29) (by kernel_rfl) (fun _=>by kernel_rfl) (some ad) b.length cap 11 (by omega) hcap
   refine xaL (.slice q19 11 cap) (cutHi _ _ _ _ _ _ rfl rfl rfl (hq19 _)) ?_; refine xpL (.slice q19 11 cap) ?_; refine xT ?_; go_upto_region 5 with fail; refine wp_region_list ?_
   refine xaL (.agg #[.int .i64 1,.int .i64 1,.int .i64 1,.int .i64 2,.int .i64 6]) (loadN 110 _ ⟨0,0,none⟩ [.int .i64 1,.int .i64 1,.int .i64 1,.int .i64 2,.int .i64 6] rfl rfl (fun _=>by kernel_rfl) (fun _=>by kernel_rfl) (hg.mm M).row) ?_; refine xpL (.int .i64 0) ?_; refine xT ?_
   have hS0:Src w2 q19 11 (fun k=>bl b (rof 0+k)):=(hqs19 _ _ (hs.below M.below (xnR _))).congr fun k _=>congrArg (bl b) (Nat.zero_add k).symm
   have hN0:q19=none→cap=0:=fun e=>by obtain ⟨_,e',_⟩:=hS0 0 (by decide); rw [e] at e'; cases e'
   have HI:=show Hid _ from (And.intro (show Mm w [(B2,ncs b 0),(B1,[.int .i64 0,.int .i64 0,.int .i64 0,.int .i64 0,.int .i64 0,.slice none 0 0])] w2 from M) (And.intro hS0 hN0)); clear M hS0 hN0
   have hc11:11≤cap:=by omega
   go_wp2
   go_loopw [4,21] (fun v i w'=>∃ (j:Nat) (rp:Option Addr) (rc:Nat),j≤5∧i=.int .i64 (j:Int)∧v=.slice rp (11-rof j) rc∧11-rof j≤rc∧(rp=none→rc=0)∧Src w' rp (11-rof j) (fun k=>bl b (rof j+k))∧Mm w [(B2,ncs b j),(B1,[.int .i64 0,.int .i64 0,.int .i64 0,.int .i64 0,.int .i64 0,.slice none 0 0])] w') (fun _ i _=>5-(intOf i).toNat)
   case atStart=>exact ⟨0,_,_,Nat.zero_le _,rfl,rfl,hc11,HI.out.2.2,HI.out.2.1,HI.out.1⟩
   case round =>
    clear HI
    obtain ⟨j,rp,rc,hj,rfl,rfl,hrc,hrn,hrs,M⟩:=hrel
    have hj6:j=0∨j=1∨j=2∨j=3∨j=4∨j=5:=by omega
    clear hj
    rcases hj6 with rfl | rfl | rfl | rfl | rfl | rfl
    · replace hrc:11≤rc:=hrc
      replace hrs:Src wr rp 11 (fun k=>bl b (rof 0+k)):=hrs
      replace M:Mm w [(B2,[.int .i64 0,.int .i64 0,.int .i64 0,.int .i64 0,.int .i64 0]),(B1,[.int .i64 0,.int .i64 0,.int .i64 0,.int .i64 0,.int .i64 0,.slice none 0 0])] wr:=M
      have er:11-rof 0=11:=rfl
      rw [er]
      clear er; go_upto_region 6 with fail; refine wp_region_list ?_; refine xaL (.bool true) (lssI .i64 _ _ _ _ _ _ rfl rfl rfl true (by decide) _) ?_; refine xT ?_; go_upto_region 7 with fail; refine wp_region_list ?_; refine xpL (.int .i64 ((0:Nat):Int)) ?_; refine xpL (.int .i64 1) ?_; refine xpL (.int .i64 ((0:Nat):Int)) ?_; refine xpL (.int .i64 1) ?_; refine xT ?_
      go_upto_region 8 with fail; refine wp_region_list ?_; refine xpL (.int .i64 ((0:Nat):Int)) ?_; refine xpL (.slice rp 11 rc) ?_; refine xpL (.int .i64 1) ?_
      have hzz:In 256 11 (fun k=>bl b (rof 0+k)):=fun k hk=>hb.bl (rof 0+k) (by show 0+k<b.length; omega)
      have hBt:=M.lt mS; refine xcL (vtakefixed_own rp 11 rc (by decide) hrc hrn (fun k=>bl b (rof 0+k)) hzz 1 (by decide) _ hrs) ?_; rintro e w3 ⟨⟨v,rfl,O_0⟩,l⟩
      have O_2:OwnN w3 wr.heap.size 10 (fun k=>bl b (rof 1+k)) v:=(show Own w3 wr.heap.size 5 .u8 10 _ v from O_0).congr fun k _=>congrArg (bl b) (by show 0+(1+k)=1+k; omega)
      replace M:=M.call l
      obtain ⟨p2,c2,rfl,_,_⟩:=O_2.bytes
      have eg:gN 11 (fun k=>bl b (rof 0+k)) 1=rnum b 0:=rfl
      have ee:gE 11 1=0:=rfl
      rw [eg,ee]
      clear l O_0 hzz hrs hrc hrn eg ee; refine xeL ?_; refine xpL (.tuple #[.int .i64 (rnum b 0),.slice p2 10 c2,.int .i64 0]) ?_; refine xpL (.int .i64 (rnum b 0)) ?_; refine xpL (.slice p2 10 c2) ?_; refine xpL (.int .i64 0) ?_; refine xpL (.pointer (some ⟨B2,0,none⟩)) ?_
      refine skipOpL rfl (storeAny (.int .i64 (rnum b 0)) B2 0 3 _ _ rfl rfl rfl rfl rfl (M.isSome mS 0 (by simp)) (M.free mS 0 (by simp)) (by kernel_rfl)) ?_; simp only [Act.put]; replace M:=M.set 0 (by simp) (.int .i64 (rnum b 0)); replace O_2:=Own.off1 O_2 ((Off.refl [B2] _).set (b:=B2) mS 0 (.int .i64 (rnum b 0))) (by omega)
      generalize w3.setCell ⟨B2,0,none⟩ (.int .i64 (rnum b 0))=w4 at M O_2 ⊢
      replace M:Mm w ([(B2,[.int .i64 (rnum b 0),.int .i64 0,.int .i64 0,.int .i64 0,.int .i64 0]),(B1,[.int .i64 0,.int .i64 0,.int .i64 0,.int .i64 0,.int .i64 0,.slice none 0 0])]) w4:=M
      refine xpL (.slice p2 10 c2) ?_; refine xT ?_; have HS:=show Hid _ from (And.intro M O_2); clear M O_2; go_wp2
      go_roundw
      case rel=>first | exact ⟨1,_,_,by decide,by go_num,rfl,HS.out.2.le,HS.out.2.nilCap,HS.out.2.src,HS.out.1⟩ | ((repeat apply Exists.intro); refine ⟨⟨1,_,_,by decide,?_,rfl,HS.out.2.le,HS.out.2.nilCap,HS.out.2.src,HS.out.1⟩,rfl⟩ <;> first | rfl | go_num)
      case measure=>simp [intOf]
    · replace hrc:10≤rc:=hrc
      replace hrs:Src wr rp 10 (fun k=>bl b (rof 1+k)):=hrs
      replace M:Mm w [(B2,[.int .i64 (rnum b 0),.int .i64 0,.int .i64 0,.int .i64 0,.int .i64 0]),(B1,[.int .i64 0,.int .i64 0,.int .i64 0,.int .i64 0,.int .i64 0,.slice none 0 0])] wr:=M
      have er:11-rof 1=10:=rfl
      rw [er]
      clear er; go_upto_region 6 with fail; refine wp_region_list ?_; refine xaL (.bool true) (lssI .i64 _ _ _ _ _ _ rfl rfl rfl true (by decide) _) ?_; refine xT ?_; go_upto_region 7 with fail; refine wp_region_list ?_; refine xpL (.int .i64 ((1:Nat):Int)) ?_; refine xpL (.int .i64 1) ?_; refine xpL (.int .i64 ((1:Nat):Int)) ?_; refine xpL (.int .i64 1) ?_; refine xT ?_
      go_upto_region 8 with fail; refine wp_region_list ?_; refine xpL (.int .i64 ((1:Nat):Int)) ?_; refine xpL (.slice rp 10 rc) ?_; refine xpL (.int .i64 1) ?_
      have hzz:In 256 10 (fun k=>bl b (rof 1+k)):=fun k hk=>hb.bl (rof 1+k) (by show 1+k<b.length; omega)
      have hBt:=M.lt mS; refine xcL (vtakefixed_own rp 10 rc (by decide) hrc hrn (fun k=>bl b (rof 1+k)) hzz 1 (by decide) _ hrs) ?_; rintro e w5 ⟨⟨v,rfl,O_0⟩,l⟩
      have O_2:OwnN w5 wr.heap.size 9 (fun k=>bl b (rof 2+k)) v:=(show Own w5 wr.heap.size 5 .u8 9 _ v from O_0).congr fun k _=>congrArg (bl b) (by show 1+(1+k)=2+k; omega)
      replace M:=M.call l
      obtain ⟨p2,c2,rfl,_,_⟩:=O_2.bytes
      have eg:gN 10 (fun k=>bl b (rof 1+k)) 1=rnum b 1:=rfl
      have ee:gE 10 1=0:=rfl
      rw [eg,ee]
      clear l O_0 hzz hrs hrc hrn eg ee; refine xeL ?_; refine xpL (.tuple #[.int .i64 (rnum b 1),.slice p2 9 c2,.int .i64 0]) ?_; refine xpL (.int .i64 (rnum b 1)) ?_; refine xpL (.slice p2 9 c2) ?_; refine xpL (.int .i64 0) ?_; refine xpL (.pointer (some ⟨B2,1,none⟩)) ?_
      refine skipOpL rfl (storeAny (.int .i64 (rnum b 1)) B2 1 3 _ _ rfl rfl rfl rfl rfl (M.isSome mS 1 (by simp)) (M.free mS 1 (by simp)) (by kernel_rfl)) ?_; simp only [Act.put]; replace M:=M.set 1 (by simp) (.int .i64 (rnum b 1)); replace O_2:=Own.off1 O_2 ((Off.refl [B2] _).set (b:=B2) mS 1 (.int .i64 (rnum b 1))) (by omega)
      generalize w5.setCell ⟨B2,1,none⟩ (.int .i64 (rnum b 1))=w6 at M O_2 ⊢
      replace M:Mm w ([(B2,[.int .i64 (rnum b 0),.int .i64 (rnum b 1),.int .i64 0,.int .i64 0,.int .i64 0]),(B1,[.int .i64 0,.int .i64 0,.int .i64 0,.int .i64 0,.int .i64 0,.slice none 0 0])]) w6:=M
      refine xpL (.slice p2 9 c2) ?_; refine xT ?_; have HS:=show Hid _ from (And.intro M O_2); clear M O_2; go_wp2
      go_roundw
      case rel=>first | exact ⟨2,_,_,by decide,by go_num,rfl,HS.out.2.le,HS.out.2.nilCap,HS.out.2.src,HS.out.1⟩ | ((repeat apply Exists.intro); refine ⟨⟨2,_,_,by decide,?_,rfl,HS.out.2.le,HS.out.2.nilCap,HS.out.2.src,HS.out.1⟩,rfl⟩ <;> first | rfl | go_num)
      case measure=>simp [intOf]
    · replace hrc:9≤rc:=hrc
      replace hrs:Src wr rp 9 (fun k=>bl b (rof 2+k)):=hrs
      replace M:Mm w [(B2,[.int .i64 (rnum b 0),.int .i64 (rnum b 1),.int .i64 0,.int .i64 0,.int .i64 0]),(B1,[.int .i64 0,.int .i64 0,.int .i64 0,.int .i64 0,.int .i64 0,.slice none 0 0])] wr:=M
      have er:11-rof 2=9:=rfl
      rw [er]
      clear er; go_upto_region 6 with fail; refine wp_region_list ?_; refine xaL (.bool true) (lssI .i64 _ _ _ _ _ _ rfl rfl rfl true (by decide) _) ?_; refine xT ?_; go_upto_region 7 with fail; refine wp_region_list ?_; refine xpL (.int .i64 ((2:Nat):Int)) ?_; refine xpL (.int .i64 1) ?_; refine xpL (.int .i64 ((2:Nat):Int)) ?_; refine xpL (.int .i64 1) ?_; refine xT ?_
      go_upto_region 8 with fail; refine wp_region_list ?_; refine xpL (.int .i64 ((2:Nat):Int)) ?_; refine xpL (.slice rp 9 rc) ?_; refine xpL (.int .i64 1) ?_
      have hzz:In 256 9 (fun k=>bl b (rof 2+k)):=fun k hk=>hb.bl (rof 2+k) (by show 2+k<b.length; omega)
      have hBt:=M.lt mS; refine xcL (vtakefixed_own rp 9 rc (by decide) hrc hrn (fun k=>bl b (rof 2+k)) hzz 1 (by decide) _ hrs) ?_; rintro e w7 ⟨⟨v,rfl,O_0⟩,l⟩
      have O_2:OwnN w7 wr.heap.size 8 (fun k=>bl b (rof 3+k)) v:=(show Own w7 wr.heap.size 5 .u8 8 _ v from O_0).congr fun k _=>congrArg (bl b) (by show 2+(1+k)=3+k; omega)
      replace M:=M.call l
      obtain ⟨p2,c2,rfl,_,_⟩:=O_2.bytes
      have eg:gN 9 (fun k=>bl b (rof 2+k)) 1=rnum b 2:=rfl
      have ee:gE 9 1=0:=rfl
      rw [eg,ee]
      clear l O_0 hzz hrs hrc hrn eg ee; refine xeL ?_; refine xpL (.tuple #[.int .i64 (rnum b 2),.slice p2 8 c2,.int .i64 0]) ?_; refine xpL (.int .i64 (rnum b 2)) ?_; refine xpL (.slice p2 8 c2) ?_; refine xpL (.int .i64 0) ?_; refine xpL (.pointer (some ⟨B2,2,none⟩)) ?_
      refine skipOpL rfl (storeAny (.int .i64 (rnum b 2)) B2 2 3 _ _ rfl rfl rfl rfl rfl (M.isSome mS 2 (by simp)) (M.free mS 2 (by simp)) (by kernel_rfl)) ?_; simp only [Act.put]; replace M:=M.set 2 (by simp) (.int .i64 (rnum b 2)); replace O_2:=Own.off1 O_2 ((Off.refl [B2] _).set (b:=B2) mS 2 (.int .i64 (rnum b 2))) (by omega)
      generalize w7.setCell ⟨B2,2,none⟩ (.int .i64 (rnum b 2))=w8 at M O_2 ⊢
      replace M:Mm w ([(B2,[.int .i64 (rnum b 0),.int .i64 (rnum b 1),.int .i64 (rnum b 2),.int .i64 0,.int .i64 0]),(B1,[.int .i64 0,.int .i64 0,.int .i64 0,.int .i64 0,.int .i64 0,.slice none 0 0])]) w8:=M
      refine xpL (.slice p2 8 c2) ?_; refine xT ?_; have HS:=show Hid _ from (And.intro M O_2); clear M O_2; go_wp2
      go_roundw
      case rel=>first | exact ⟨3,_,_,by decide,by go_num,rfl,HS.out.2.le,HS.out.2.nilCap,HS.out.2.src,HS.out.1⟩ | ((repeat apply Exists.intro); refine ⟨⟨3,_,_,by decide,?_,rfl,HS.out.2.le,HS.out.2.nilCap,HS.out.2.src,HS.out.1⟩,rfl⟩ <;> first | rfl | go_num)
      case measure=>simp [intOf]
    · replace hrc:8≤rc:=hrc
      replace hrs:Src wr rp 8 (fun k=>bl b (rof 3+k)):=hrs
      replace M:Mm w [(B2,[.int .i64 (rnum b 0),.int .i64 (rnum b 1),.int .i64 (rnum b 2),.int .i64 0,.int .i64 0]),(B1,[.int .i64 0,.int .i64 0,.int .i64 0,.int .i64 0,.int .i64 0,.slice none 0 0])] wr:=M
      have er:11-rof 3=8:=rfl
      rw [er]
      clear er; go_upto_region 6 with fail; refine wp_region_list ?_; refine xaL (.bool true) (lssI .i64 _ _ _ _ _ _ rfl rfl rfl true (by decide) _) ?_; refine xT ?_; go_upto_region 7 with fail; refine wp_region_list ?_; refine xpL (.int .i64 ((3:Nat):Int)) ?_; refine xpL (.int .i64 2) ?_; refine xpL (.int .i64 ((3:Nat):Int)) ?_; refine xpL (.int .i64 2) ?_; refine xT ?_
      go_upto_region 8 with fail; refine wp_region_list ?_; refine xpL (.int .i64 ((3:Nat):Int)) ?_; refine xpL (.slice rp 8 rc) ?_; refine xpL (.int .i64 2) ?_
      have hzz:In 256 8 (fun k=>bl b (rof 3+k)):=fun k hk=>hb.bl (rof 3+k) (by show 3+k<b.length; omega)
      have hBt:=M.lt mS; refine xcL (vtakefixed_own rp 8 rc (by decide) hrc hrn (fun k=>bl b (rof 3+k)) hzz 2 (by decide) _ hrs) ?_; rintro e w9 ⟨⟨v,rfl,O_0⟩,l⟩
      have O_2:OwnN w9 wr.heap.size 6 (fun k=>bl b (rof 4+k)) v:=(show Own w9 wr.heap.size 5 .u8 6 _ v from O_0).congr fun k _=>congrArg (bl b) (by show 3+(2+k)=5+k; omega)
      replace M:=M.call l
      obtain ⟨p2,c2,rfl,_,_⟩:=O_2.bytes
      have eg:gN 8 (fun k=>bl b (rof 3+k)) 2=rnum b 3:=rfl
      have ee:gE 8 2=0:=rfl
      rw [eg,ee]
      clear l O_0 hzz hrs hrc hrn eg ee; refine xeL ?_; refine xpL (.tuple #[.int .i64 (rnum b 3),.slice p2 6 c2,.int .i64 0]) ?_; refine xpL (.int .i64 (rnum b 3)) ?_; refine xpL (.slice p2 6 c2) ?_; refine xpL (.int .i64 0) ?_; refine xpL (.pointer (some ⟨B2,3,none⟩)) ?_
      refine skipOpL rfl (storeAny (.int .i64 (rnum b 3)) B2 3 3 _ _ rfl rfl rfl rfl rfl (M.isSome mS 3 (by simp)) (M.free mS 3 (by simp)) (by kernel_rfl)) ?_; simp only [Act.put]; replace M:=M.set 3 (by simp) (.int .i64 (rnum b 3)); replace O_2:=Own.off1 O_2 ((Off.refl [B2] _).set (b:=B2) mS 3 (.int .i64 (rnum b 3))) (by omega)
      generalize w9.setCell ⟨B2,3,none⟩ (.int .i64 (rnum b 3))=w10 at M O_2 ⊢
      replace M:Mm w ([(B2,[.int .i64 (rnum b 0),.int .i64 (rnum b 1),.int .i64 (rnum b 2),.int .i64 (rnum b 3),.int .i64 0]),(B1,[.int .i64 0,.int .i64 0,.int .i64 0,.int .i64 0,.int .i64 0,.slice none 0 0])]) w10:=M
      refine xpL (.slice p2 6 c2) ?_; refine xT ?_; have HS:=show Hid _ from (And.intro M O_2); clear M O_2; go_wp2
      go_roundw
      case rel=>first | exact ⟨4,_,_,by decide,by go_num,rfl,HS.out.2.le,HS.out.2.nilCap,HS.out.2.src,HS.out.1⟩ | ((repeat apply Exists.intro); refine ⟨⟨4,_,_,by decide,?_,rfl,HS.out.2.le,HS.out.2.nilCap,HS.out.2.src,HS.out.1⟩,rfl⟩ <;> first | rfl | go_num)
      case measure=>simp [intOf]
    · replace hrc:6≤rc:=hrc
      replace hrs:Src wr rp 6 (fun k=>bl b (rof 4+k)):=hrs
      replace M:Mm w [(B2,[.int .i64 (rnum b 0),.int .i64 (rnum b 1),.int .i64 (rnum b 2),.int .i64 (rnum b 3),.int .i64 0]),(B1,[.int .i64 0,.int .i64 0,.int .i64 0,.int .i64 0,.int .i64 0,.slice none 0 0])] wr:=M
      have er:11-rof 4=6:=rfl
      rw [er]
      clear er; go_upto_region 6 with fail; refine wp_region_list ?_; refine xaL (.bool true) (lssI .i64 _ _ _ _ _ _ rfl rfl rfl true (by decide) _) ?_; refine xT ?_; go_upto_region 7 with fail; refine wp_region_list ?_; refine xpL (.int .i64 ((4:Nat):Int)) ?_; refine xpL (.int .i64 6) ?_; refine xpL (.int .i64 ((4:Nat):Int)) ?_; refine xpL (.int .i64 6) ?_; refine xT ?_
      go_upto_region 8 with fail; refine wp_region_list ?_; refine xpL (.int .i64 ((4:Nat):Int)) ?_; refine xpL (.slice rp 6 rc) ?_; refine xpL (.int .i64 6) ?_
      have hzz:In 256 6 (fun k=>bl b (rof 4+k)):=fun k hk=>hb.bl (rof 4+k) (by show 5+k<b.length; omega)
      have hBt:=M.lt mS; refine xcL (vtakefixed_own rp 6 rc (by decide) hrc hrn (fun k=>bl b (rof 4+k)) hzz 6 (by decide) _ hrs) ?_; rintro e w11 ⟨⟨v,rfl,O_0⟩,l⟩
      have O_2:OwnN w11 wr.heap.size 0 (fun k=>bl b (rof 5+k)) v:=(show Own w11 wr.heap.size 5 .u8 0 _ v from O_0).congr fun k _=>congrArg (bl b) (by show 5+(6+k)=11+k; omega)
      replace M:=M.call l
      obtain ⟨p2,c2,rfl,_,_⟩:=O_2.bytes
      have eg:gN 6 (fun k=>bl b (rof 4+k)) 6=rnum b 4:=rfl
      have ee:gE 6 6=0:=rfl
      rw [eg,ee]
      clear l O_0 hzz hrs hrc hrn eg ee; refine xeL ?_; refine xpL (.tuple #[.int .i64 (rnum b 4),.slice p2 0 c2,.int .i64 0]) ?_; refine xpL (.int .i64 (rnum b 4)) ?_; refine xpL (.slice p2 0 c2) ?_; refine xpL (.int .i64 0) ?_; refine xpL (.pointer (some ⟨B2,4,none⟩)) ?_
      refine skipOpL rfl (storeAny (.int .i64 (rnum b 4)) B2 4 3 _ _ rfl rfl rfl rfl rfl (M.isSome mS 4 (by simp)) (M.free mS 4 (by simp)) (by kernel_rfl)) ?_; simp only [Act.put]; replace M:=M.set 4 (by simp) (.int .i64 (rnum b 4)); replace O_2:=Own.off1 O_2 ((Off.refl [B2] _).set (b:=B2) mS 4 (.int .i64 (rnum b 4))) (by omega)
      generalize w11.setCell ⟨B2,4,none⟩ (.int .i64 (rnum b 4))=w12 at M O_2 ⊢
      replace M:Mm w ([(B2,[.int .i64 (rnum b 0),.int .i64 (rnum b 1),.int .i64 (rnum b 2),.int .i64 (rnum b 3),.int .i64 (rnum b 4)]),(B1,[.int .i64 0,.int .i64 0,.int .i64 0,.int .i64 0,.int .i64 0,.slice none 0 0])]) w12:=M
      refine xpL (.slice p2 0 c2) ?_; refine xT ?_; have HS:=show Hid _ from (And.intro M O_2); clear M O_2; go_wp2
      go_roundw
      case rel=>first | exact ⟨5,_,_,by decide,by go_num,rfl,HS.out.2.le,HS.out.2.nilCap,HS.out.2.src,HS.out.1⟩ | ((repeat apply Exists.intro); refine ⟨⟨5,_,_,by decide,?_,rfl,HS.out.2.le,HS.out.2.nilCap,HS.out.2.src,HS.out.1⟩,rfl⟩ <;> first | rfl | go_num)
      case measure=>simp [intOf]
    · clear hrs hrc hrn
      replace M:Mm w [(B2,[.int .i64 (rnum b 0),.int .i64 (rnum b 1),.int .i64 (rnum b 2),.int .i64 (rnum b 3),.int .i64 (rnum b 4)]),(B1,[.int .i64 0,.int .i64 0,.int .i64 0,.int .i64 0,.int .i64 0,.slice none 0 0])] wr:=M
      go_upto_region 6 with fail; refine wp_region_list ?_; refine xaL (.bool false) (lssI .i64 _ _ _ _ _ _ rfl rfl rfl false (by decide) _) ?_; refine xT ?_
      obtain ⟨qb,hqb,hqs,hqn⟩:=cut_loA (P:=Tryz.prog) (t:=29) (by kernel_rfl) (fun _=>by kernel_rfl) (some ad) b.length cap 11 (by omega) hcap (fun e=>by cases e)
      have hdl:b.length-11=(b.drop 11).length:=by rw [List.length_drop]
      have hsb:Src w0 qb (b.drop 11).length (bl (b.drop 11)):=by
       have h:=(hqs [] _ _ ⟨hs0,fun _ _ _ h=>by cases h⟩).1
       rw [hdl] at h
       exact h.congr fun j _=>(bl_drop b 11 j).symm
      rw [hdl] at hqb
      have hcb:(b.drop 11).length≤cap-11:=by omega
      have hmb:(b.drop 11).length≤140737488351232:=by omega
      clear hqs hdl; replace M:=M.swap
      have hI2:∀ k,k<5→i64 (rnum b k):=fun k hk=>by
       have:k=0∨k=1∨k=2∨k=3∨k=4:=by omega
       rcases this with rfl | rfl | rfl | rfl | rfl <;> exact fV_i64 _ _ (by decide) (fun i hi=>hb.bl _ (by have:i<6:=xnL hi (by decide); show _+i<b.length; first | (show 0+i<_; omega) | (show 1+i<_; omega) | (show 2+i<_; omega) | (show 3+i<_; omega) | (show 5+i<_; omega)))
      have hpv:PV w0 (prs b) qb (cap-11):=by rw [prs_rec h3]; exact ⟨hsb,hcb,hqn,hmb,hb.drop 11,hI2 0 (by decide),hI2 1 (by decide),hI2 2 (by decide),hI2 3 (by decide),hI2 4 (by decide)⟩
      have hpe:pcs (prs b) qb (cap-11)=[.int .i64 (rnum b 0),.int .i64 (rnum b 1),.int .i64 (rnum b 2),.int .i64 (rnum b 3),.int .i64 (rnum b 4),.slice qb (b.drop 11).length (cap-11)]:=by rw [prs_rec h3]; rfl
      clear hI2; go_upto_region 10 with fail; refine wp_region_held_drew (S:=fun w'=>∃ cs,Mm w ((B1,cs)::[(B2,[.int .i64 (rnum b 0),.int .i64 (rnum b 1),.int .i64 (rnum b 2),.int .i64 (rnum b 3),.int .i64 (rnum b 4)])]) w') (by kernel_rfl) ⟨_,M.drew⟩ ?_; intro _; replace M:=M.drew; generalize wr.drew=wd at M ⊢
      refine xrH 0 35 rfl (.pointer (some ⟨B2,0,none⟩)) (fun _ _=>by kernel_rfl) ⟨_,M⟩ ?_
      refine xrH 1 36 rfl (.int .i64 (rnum b 0)) (fun _ hS=>by obtain ⟨cs,M⟩:=hS; exact load1 3 _ ⟨B2,0,none⟩ _ rfl rfl (fun _=>by kernel_rfl) (M.get (mT _ mS) 0 _ rfl)) ⟨_,M⟩ ?_
      refine xrH 2 37 rfl (.pointer (some ⟨B2,1,none⟩)) (fun _ _=>by kernel_rfl) ⟨_,M⟩ ?_
      refine xrH 3 38 rfl (.int .i64 (rnum b 1)) (fun _ hS=>by obtain ⟨cs,M⟩:=hS; exact load1 3 _ ⟨B2,1,none⟩ _ rfl rfl (fun _=>by kernel_rfl) (M.get (mT _ mS) 1 _ rfl)) ⟨_,M⟩ ?_
      refine xrH 4 39 rfl (.pointer (some ⟨B2,2,none⟩)) (fun _ _=>by kernel_rfl) ⟨_,M⟩ ?_
      refine xrH 5 40 rfl (.int .i64 (rnum b 2)) (fun _ hS=>by obtain ⟨cs,M⟩:=hS; exact load1 3 _ ⟨B2,2,none⟩ _ rfl rfl (fun _=>by kernel_rfl) (M.get (mT _ mS) 2 _ rfl)) ⟨_,M⟩ ?_
      refine xrH 6 41 rfl (.pointer (some ⟨B2,3,none⟩)) (fun _ _=>by kernel_rfl) ⟨_,M⟩ ?_
      refine xrH 7 42 rfl (.int .i64 (rnum b 3)) (fun _ hS=>by obtain ⟨cs,M⟩:=hS; exact load1 3 _ ⟨B2,3,none⟩ _ rfl rfl (fun _=>by kernel_rfl) (M.get (mT _ mS) 3 _ rfl)) ⟨_,M⟩ ?_
      refine xrH 8 43 rfl (.pointer (some ⟨B2,4,none⟩)) (fun _ _=>by kernel_rfl) ⟨_,M⟩ ?_
      refine xrH 9 44 rfl (.int .i64 (rnum b 4)) (fun _ hS=>by obtain ⟨cs,M⟩:=hS; exact load1 3 _ ⟨B2,4,none⟩ _ rfl rfl (fun _=>by kernel_rfl) (M.get (mT _ mS) 4 _ rfl)) ⟨_,M⟩ ?_
      refine xrH 10 45 rfl (.slice (some ad) b.length cap) (fun _ _=>by kernel_rfl) ⟨_,M⟩ ?_; refine xrH 11 46 rfl (.slice qb (b.drop 11).length (cap-11)) (fun _ _=>cutOp _ _ _ _ _ _ rfl rfl rfl (hqb _)) ⟨_,M⟩ ?_
      refine xrH 12 47 rfl (.agg #[.int .i64 (rnum b 0),.int .i64 (rnum b 1),.int .i64 (rnum b 2),.int .i64 (rnum b 3),.int .i64 (rnum b 4),.slice qb ((b.drop 11).length) (cap-11)]) (fun _ _=>by kernel_rfl) ⟨_,M⟩ ?_
      have M2:=M.setPart [.int .i64 (rnum b 0),.int .i64 (rnum b 1),.int .i64 (rnum b 2),.int .i64 (rnum b 3),.int .i64 (rnum b 4),.slice qb ((b.drop 11).length) (cap-11)] 0 (Nat.le_of_ble_eq_true rfl)
      refine doesH (i:=13) none rfl (by kernel_rfl) rfl rfl (storeP [.int .i64 (rnum b 0),.int .i64 (rnum b 1),.int .i64 (rnum b 2),.int .i64 (rnum b 3),.int .i64 (rnum b 4),.slice qb ((b.drop 11).length) (cap-11)] B1 0 70 _ _ rfl rfl rfl (M.thereP mS 0 6 (Nat.le_of_ble_eq_true rfl)) (by kernel_rfl) (List.all_eq_true.1 (rfl:([.int .i64 (rnum b 0),.int .i64 (rnum b 1),.int .i64 (rnum b 2),.int .i64 (rnum b 3),.int .i64 (rnum b 4),.slice qb ((b.drop 11).length) (cap-11)]:List Value).all (fun u=>u.oneCell')=true))) ⟨_,M2⟩ ?_
      simp only [Act.put]; clear M; generalize wd.setCells B1 0 [.int .i64 (rnum b 0),.int .i64 (rnum b 1),.int .i64 (rnum b 2),.int .i64 (rnum b 3),.int .i64 (rnum b 4),.slice qb ((b.drop 11).length) (cap-11)]=we at M2 ⊢
      refine wpAnyH_done (by kernel_rfl) ?_ _
      first | show Exit.then _ _ _ _ _ | show Exit.inBlock _ _ _ _ _
      have c1_:=M2.part mS 0 [.int .i64 (rnum b 0),.int .i64 (rnum b 1),.int .i64 (rnum b 2),.int .i64 (rnum b 3),.int .i64 (rnum b 4),.slice qb ((b.drop 11).length) (cap-11)] rfl; have hM:=M2.below; clear M2; have hS:=show Hid _ from (And.intro hpv hpe); clear hpv hpe hsb hcb hmb; go_wp2
      refine bodyPost_ret (v:=.agg (pcs (prs b) qb (cap-11)).toArray) (by rw [hS.out.2]; exact retCell 2 70 ⟨B1,0,none⟩ [.int .i64 (rnum b 0),.int .i64 (rnum b 1),.int .i64 (rnum b 2),.int .i64 (rnum b 3),.int .i64 (rnum b 4),.slice qb ((b.drop 11).length) (cap-11)] rfl rfl (fun _=>by kernel_rfl) (fun _=>by kernel_rfl) c1_) rfl ?_
      exact ⟨⟨qb,cap-11,rfl,hS.out.1⟩,hM⟩
 · go_upto_region 1 with fail
   refine wp_region_list ?_; refine xpL (.slice (some ad) b.length cap) ?_; refine xaL (.pointer (some (ad.add 0))) (idxSl 29 5 b.length cap .i64 ad 0 _ _ Tryz.underlying29 (fun _=>by kernel_rfl) (by omega) rfl rfl rfl _) ?_; refine xaL (.int .u8 (bl b 0)) (load1 5 _ (ad.add 0) _ rfl rfl (fun _=>by kernel_rfl) ((hs.below M.below (xnR _)).at 0 (by omega))) ?_
   refine xaL (.bool true) (neqI .u8 _ _ _ _ _ _ rfl rfl rfl true (by simpa using h3) _) ?_; refine xT ?_
   obtain ⟨qb,hqb,hqs,hqn⟩:=cut_loA (P:=Tryz.prog) (t:=29) (by kernel_rfl) (fun _=>by kernel_rfl) (some ad) b.length cap 1 (by omega) hcap (fun e=>by cases e)
   have hdl:b.length-1=(b.drop 1).length:=by rw [List.length_drop]
   have hsb:Src w0 qb (b.drop 1).length (bl (b.drop 1)):=by
    have h:=(hqs [] _ _ ⟨hs0,fun _ _ _ h=>by cases h⟩).1
    rw [hdl] at h
    exact h.congr fun j _=>(bl_drop b 1 j).symm
   rw [hdl] at hqb
   have hcb:(b.drop 1).length≤cap-1:=by omega
   have hmb:(b.drop 1).length≤140737488351232:=by omega
   clear hqs hdl
   have hpv:PV w0 (prs b) qb (cap-1):=by rw [prs_other h3]; exact ⟨hsb,hcb,hqn,hmb,hb.drop 1,i64_byte hx0,i64_0,i64_0,i64_0,i64_0⟩
   have hpe:pcs (prs b) qb (cap-1)=[.int .i64 (bl b 0),.int .i64 0,.int .i64 0,.int .i64 0,.int .i64 0,.slice qb (b.drop 1).length (cap-1)]:=by rw [prs_other h3]; rfl
   go_upto_region 2 with fail; refine wp_region_held_drew (S:=fun w'=>∃ cs,Mm w ((B1,cs)::[]) w') (by kernel_rfl) ⟨_,M.drew⟩ ?_; intro _; replace M:=M.drew; generalize w1.drew=wd at M ⊢; refine xrH 0 11 rfl (.slice (some ad) b.length cap) (fun _ _=>by kernel_rfl) ⟨_,M⟩ ?_
   refine xrH 1 12 rfl (.pointer (some (ad.add 0))) (fun w _=>idxSl 29 5 b.length cap .i64 ad 0 _ _ Tryz.underlying29 (fun _=>by kernel_rfl) (by omega) rfl rfl rfl w) ⟨_,M⟩ ?_
   refine xrH 2 13 rfl (.int .u8 (bl b 0)) (fun _ hS=>by obtain ⟨cs,M⟩:=hS; exact load1 5 _ (ad.add 0) _ rfl rfl (fun _=>by kernel_rfl) ((hs.below M.below (xnR _)).at 0 (by omega))) ⟨_,M⟩ ?_
   refine xrH 3 14 rfl (.int .i64 (bl b 0)) (fun w _=>convI .u8 .i64 _ _ _ _ _ rfl (by kernel_rfl) Tryz.underlying3 (by kernel_rfl) rfl (by rw [xw6]; omega) w) ⟨_,M⟩ ?_; refine xrH 4 15 rfl (.slice (some ad) b.length cap) (fun _ _=>by kernel_rfl) ⟨_,M⟩ ?_; refine xrH 5 16 rfl (.slice qb (b.drop 1).length (cap-1)) (fun _ _=>cutOp _ _ _ _ _ _ rfl rfl rfl (hqb _)) ⟨_,M⟩ ?_
   refine xrH 6 17 rfl (.agg #[.int .i64 (bl b 0),.int .i64 0,.int .i64 0,.int .i64 0,.int .i64 0,.slice qb ((b.drop 1).length) (cap-1)]) (fun _ _=>by kernel_rfl) ⟨_,M⟩ ?_; have M2:=M.setPart [.int .i64 (bl b 0),.int .i64 0,.int .i64 0,.int .i64 0,.int .i64 0,.slice qb ((b.drop 1).length) (cap-1)] 0 (Nat.le_of_ble_eq_true rfl)
   refine doesH (i:=7) none rfl (by kernel_rfl) rfl rfl (storeP [.int .i64 (bl b 0),.int .i64 0,.int .i64 0,.int .i64 0,.int .i64 0,.slice qb ((b.drop 1).length) (cap-1)] B1 0 70 _ _ rfl rfl rfl (M.thereP mS 0 6 (Nat.le_of_ble_eq_true rfl)) (by kernel_rfl) (List.all_eq_true.1 (rfl:([.int .i64 (bl b 0),.int .i64 0,.int .i64 0,.int .i64 0,.int .i64 0,.slice qb ((b.drop 1).length) (cap-1)]:List Value).all (fun u=>u.oneCell')=true))) ⟨_,M2⟩ ?_
   simp only [Act.put]; clear M; generalize wd.setCells B1 0 [.int .i64 (bl b 0),.int .i64 0,.int .i64 0,.int .i64 0,.int .i64 0,.slice qb ((b.drop 1).length) (cap-1)]=we at M2 ⊢
   refine wpAnyH_done (by kernel_rfl) ?_ _
   first | show Exit.then _ _ _ _ _ | show Exit.inBlock _ _ _ _ _
   have c1_:=M2.part mS 0 [.int .i64 (bl b 0),.int .i64 0,.int .i64 0,.int .i64 0,.int .i64 0,.slice qb ((b.drop 1).length) (cap-1)] rfl; have hM:=M2.below; clear M2; have hS:=show Hid _ from (And.intro hpv hpe); clear hpv hpe hsb hcb hmb; go_wp2
   refine bodyPost_ret (v:=.agg (pcs (prs b) qb (cap-1)).toArray) (by rw [hS.out.2]; exact retCell 2 70 ⟨B1,0,none⟩ [.int .i64 (bl b 0),.int .i64 0,.int .i64 0,.int .i64 0,.int .i64 0,.slice qb ((b.drop 1).length) (cap-1)] rfl rfl (fun _=>by kernel_rfl) (fun _=>by kernel_rfl) c1_) rfl ?_
   exact ⟨⟨qb,cap-1,rfl,hS.out.1⟩,hM⟩
theorem vparse_any:ParseOK:=by
 intro sp cap b w hg hlen hcap hnil hb hs; have M:=Mm.init w
 go_enter Tryz.func29,Tryz.ntmps29
 go_upto_region 0 with fail; refine wp_region_list ?_; refine actL (w':=w.alloc (.cells #[.int .i64 0,.int .i64 0,.int .i64 0,.int .i64 0,.int .i64 0,.slice none 0 0] 70)) (.pointer (some ⟨w.heap.size,0,none⟩)) rfl (by kernel_rfl) ?_; simp only [aP,lI,l0,lS]
 have hB_B1:w.heap.size≤w.heap.size:=M.below.size
 replace M:=M.box #[.int .i64 0,.int .i64 0,.int .i64 0,.int .i64 0,.int .i64 0,.slice none 0 0] 70 w.heap.size rfl; generalize w.alloc (.cells #[.int .i64 0,.int .i64 0,.int .i64 0,.int .i64 0,.int .i64 0,.slice none 0 0] 70)=w1 at M  ⊢; generalize eB:w.heap.size=B1 at M hB_B1  ⊢
 have hE_B1:w.heap.size≤B1:=Nat.le_of_eq eB
 have hF_B1:B1≤w.heap.size:=Nat.le_of_eq eB.symm
 clear eB
 replace M:Mm w ([(B1,[.int .i64 0,.int .i64 0,.int .i64 0,.int .i64 0,.int .i64 0,.slice none 0 0])]) w1:=M
 refine xpL (.int .i64 0) ?_; refine xT ?_
 by_cases h0:b.length=0
 · have hQ:=show Hid _ from ps_err (pps_short (b:=b) (.inl h0))
   go_upto_region 1 with fail; refine wp_region_list ?_; refine xpL (.slice sp b.length cap) ?_; refine xaL (.int .i64 ((b.length:Nat):Int)) (lenS _ 29 5 sp b.length cap rfl Tryz.underlying29 rfl _) ?_; refine xaL (.bool true) (eqlI .i64 _ _ _ _ _ _ rfl rfl rfl true (by rw [h0]; rfl) _) ?_; refine xpL (.bool true) ?_
   with_reducible refine skipL ?_ ?_
   · rfl
   simp only [aP,lI,l0,lS]
   with_reducible refine skipL ?_ ?_
   · rfl
   simp only [aP,lI,l0,lS]
   with_reducible refine skipL ?_ ?_
   · rfl
   simp only [aP,lI,l0,lS]
   with_reducible refine skipL ?_ ?_
   · rfl
   simp only [aP,lI,l0,lS]
   with_reducible refine skipL ?_ ?_
   · rfl
   simp only [aP,lI,l0,lS]
   with_reducible refine skipL ?_ ?_
   · rfl
   simp only [aP,lI,l0,lS]
   with_reducible refine skipL ?_ ?_
   · rfl
   simp only [aP,lI,l0,lS]
   with_reducible refine skipL ?_ ?_
   · rfl
   simp only [aP,lI,l0,lS]
   with_reducible refine skipL ?_ ?_
   · rfl
   simp only [aP,lI,l0,lS]; refine xpL (.bool true) ?_; refine xT ?_; go_upto_region 2 with fail; refine wp_region_list ?_; refine xpL (.agg #[.int .i64 0,.int .i64 0,.int .i64 0,.int .i64 0,.int .i64 0,.slice none 0 0]) ?_
   refine skipOpL rfl (storeP [.int .i64 0,.int .i64 0,.int .i64 0,.int .i64 0,.int .i64 0,.slice none 0 0] B1 0 70 _ _ rfl rfl rfl (M.thereP mS 0 6 (Nat.le_of_ble_eq_true rfl)) (by kernel_rfl) (List.all_eq_true.1 (rfl:([.int .i64 0,.int .i64 0,.int .i64 0,.int .i64 0,.int .i64 0,.slice none 0 0]:List Value).all (fun u=>u.oneCell')=true))) ?_; simp only [Act.put]
   replace M:=M.setPart [.int .i64 0,.int .i64 0,.int .i64 0,.int .i64 0,.int .i64 0,.slice none 0 0] 0 (Nat.le_of_ble_eq_true rfl); generalize w1.setCells B1 0 [.int .i64 0,.int .i64 0,.int .i64 0,.int .i64 0,.int .i64 0,.slice none 0 0]=w2 at M  ⊢
   replace M:Mm w ([(B1,[.int .i64 0,.int .i64 0,.int .i64 0,.int .i64 0,.int .i64 0,.slice none 0 0])]) w2:=M
   refine xpL (.int .i64 3) ?_; refine xT ?_; have hpv:=show Hid _ from (pv0 w2); have c1_:=M.part mS 0 (pcs pk0 none 0) rfl; have hM:=M.below; clear M; go_wp2; refine bodyPost_ret (v:=.tuple #[.agg (pcs pk0 none 0).toArray,.int .i64 3]) (retCellTmp 2 3 70 ⟨B1,0,none⟩ (pcs pk0 none 0) _ rfl rfl rfl (fun _=>by kernel_rfl) (fun _=>by kernel_rfl) c1_) rfl ?_
   exact ⟨⟨_,_,by rw [hQ.out.1,hQ.out.2],by rw [hQ.out.1]; exact hpv.out⟩,hM⟩
 · have hpos:0<b.length:=by omega
   obtain ⟨ad,rfl,_⟩:=hs 0 hpos
   by_cases h3:bl b 0=3∧b.length<27
   · have hQ:=show Hid _ from ps_err (pps_short (b:=b) (.inr h3))
     go_upto_region 1 with fail; refine wp_region_list ?_; refine xpL (.slice (some ad) b.length cap) ?_; refine xaL (.int .i64 ((b.length:Nat):Int)) (lenS _ 29 5 (some ad) b.length cap rfl Tryz.underlying29 rfl _) ?_; refine xaL (.bool false) (eqlI .i64 _ _ _ _ _ _ rfl rfl rfl false (beq_eq_false_iff_ne.2 (by omega)) _) ?_; refine xpL (.bool false) ?_
     refine xpL (.slice (some ad) b.length cap) ?_; refine xaL (.pointer (some (ad.add 0))) (idxSl 29 5 b.length cap .i64 ad 0 _ _ Tryz.underlying29 (fun _=>by kernel_rfl) (by omega) rfl rfl rfl _) ?_; refine xaL (.int .u8 (bl b 0)) (load1 5 _ (ad.add 0) _ rfl rfl (fun _=>by kernel_rfl) ((hs.below M.below (xnR _)).at 0 (by omega))) ?_
     refine xaL (.bool true) (eqlI .u8 _ _ _ _ _ _ rfl rfl rfl true (by rw [h3.1]; rfl) _) ?_; refine xpL (.bool true) ?_; refine xpL (.slice (some ad) b.length cap) ?_; refine xaL (.int .i64 ((b.length:Nat):Int)) (lenS _ 29 5 (some ad) b.length cap rfl Tryz.underlying29 rfl _) ?_; refine xaL (.bool true) (lssI .i64 _ _ _ _ _ _ rfl rfl rfl true (decide_eq_true (by omega)) _) ?_
     refine xpL (.bool true) ?_; refine xpL (.bool true) ?_; refine xT ?_; go_upto_region 2 with fail; refine wp_region_list ?_; refine xpL (.agg #[.int .i64 0,.int .i64 0,.int .i64 0,.int .i64 0,.int .i64 0,.slice none 0 0]) ?_
     refine skipOpL rfl (storeP [.int .i64 0,.int .i64 0,.int .i64 0,.int .i64 0,.int .i64 0,.slice none 0 0] B1 0 70 _ _ rfl rfl rfl (M.thereP mS 0 6 (Nat.le_of_ble_eq_true rfl)) (by kernel_rfl) (List.all_eq_true.1 (rfl:([.int .i64 0,.int .i64 0,.int .i64 0,.int .i64 0,.int .i64 0,.slice none 0 0]:List Value).all (fun u=>u.oneCell')=true))) ?_; simp only [Act.put]
     replace M:=M.setPart [.int .i64 0,.int .i64 0,.int .i64 0,.int .i64 0,.int .i64 0,.slice none 0 0] 0 (Nat.le_of_ble_eq_true rfl); generalize w1.setCells B1 0 [.int .i64 0,.int .i64 0,.int .i64 0,.int .i64 0,.int .i64 0,.slice none 0 0]=w3 at M  ⊢
     replace M:Mm w ([(B1,[.int .i64 0,.int .i64 0,.int .i64 0,.int .i64 0,.int .i64 0,.slice none 0 0])]) w3:=M
     refine xpL (.int .i64 3) ?_; refine xT ?_; have hpv:=show Hid _ from (pv0 w3); have c1_:=M.part mS 0 (pcs pk0 none 0) rfl; have hM:=M.below; clear M; go_wp2; refine bodyPost_ret (v:=.tuple #[.agg (pcs pk0 none 0).toArray,.int .i64 3]) (retCellTmp 2 3 70 ⟨B1,0,none⟩ (pcs pk0 none 0) _ rfl rfl rfl (fun _=>by kernel_rfl) (fun _=>by kernel_rfl) c1_) rfl ?_
     exact ⟨⟨_,_,by rw [hQ.out.1,hQ.out.2],by rw [hQ.out.1]; exact hpv.out⟩,hM⟩
   · have h27:bl b 0=3→27≤b.length:=fun h=>by omega
     have hno:¬ (b.length=0∨(bl b 0=3∧b.length<27)):=by omega
     by_cases h3':bl b 0=3
     · go_upto_region 1 with fail
       refine wp_region_list ?_; refine xpL (.slice (some ad) b.length cap) ?_; refine xaL (.int .i64 ((b.length:Nat):Int)) (lenS _ 29 5 (some ad) b.length cap rfl Tryz.underlying29 rfl _) ?_; refine xaL (.bool false) (eqlI .i64 _ _ _ _ _ _ rfl rfl rfl false (beq_eq_false_iff_ne.2 (by omega)) _) ?_; refine xpL (.bool false) ?_; refine xpL (.slice (some ad) b.length cap) ?_
       refine xaL (.pointer (some (ad.add 0))) (idxSl 29 5 b.length cap .i64 ad 0 _ _ Tryz.underlying29 (fun _=>by kernel_rfl) (by omega) rfl rfl rfl _) ?_; refine xaL (.int .u8 (bl b 0)) (load1 5 _ (ad.add 0) _ rfl rfl (fun _=>by kernel_rfl) ((hs.below M.below (xnR _)).at 0 (by omega))) ?_; refine xaL (.bool true) (eqlI .u8 _ _ _ _ _ _ rfl rfl rfl true (by rw [h3']; rfl) _) ?_
       refine xpL (.bool true) ?_; refine xpL (.slice (some ad) b.length cap) ?_; refine xaL (.int .i64 ((b.length:Nat):Int)) (lenS _ 29 5 (some ad) b.length cap rfl Tryz.underlying29 rfl _) ?_; refine xaL (.bool false) (lssI .i64 _ _ _ _ _ _ rfl rfl rfl false (decide_eq_false (by omega)) _) ?_; refine xpL (.bool false) ?_; refine xpL (.bool false) ?_; refine xT ?_; go_upto_region 3 with fail
       refine wp_region_list ?_; refine xpL (.slice (some ad) b.length cap) ?_; refine xcL (pread_any (some ad) cap b w _ M.below (hg.mm M) hlen hcap hnil hb hs hpos h27) ?_; rintro e w4 ⟨⟨bp,bc,rfl,F_1⟩,l⟩; replace M:=M.call l; clear l
       refine ⟨_,rfl,?_⟩
       rw [show (.agg (pcs (prs b) bp bc).toArray:Value)=.agg #[.int .i64 ((prs b).kind),.int .i64 ((prs b).role),.int .i64 ((prs b).path),.int .i64 ((prs b).epo),.int .i64 ((prs b).ctr),.slice bp ((prs b).body.length) bc] from rfl]
       simp only [aP,lI,l0,lS]; refine actL (w':=w4.alloc (.cells #[.int .i64 0,.int .i64 0,.int .i64 0,.int .i64 0,.int .i64 0,.slice none 0 0] 70)) (.pointer (some ⟨w4.heap.size,0,none⟩)) rfl (by kernel_rfl) ?_; simp only [aP,lI,l0,lS]
       have hB_B5:w.heap.size≤w4.heap.size:=M.below.size
       replace M:=M.box #[.int .i64 0,.int .i64 0,.int .i64 0,.int .i64 0,.int .i64 0,.slice none 0 0] 70 w4.heap.size rfl; generalize w4.alloc (.cells #[.int .i64 0,.int .i64 0,.int .i64 0,.int .i64 0,.int .i64 0,.slice none 0 0] 70)=w5 at M  ⊢; generalize eB:w4.heap.size=B5 at M hB_B5  ⊢
       have hE_B5:w4.heap.size≤B5:=Nat.le_of_eq eB
       have hF_B5:B5≤w4.heap.size:=Nat.le_of_eq eB.symm
       clear eB
       replace M:Mm w ([(B5,[.int .i64 0,.int .i64 0,.int .i64 0,.int .i64 0,.int .i64 0,.slice none 0 0]),(B1,[.int .i64 0,.int .i64 0,.int .i64 0,.int .i64 0,.int .i64 0,.slice none 0 0])]) w5:=M
       refine skipOpL rfl (storeP [.int .i64 ((prs b).kind),.int .i64 ((prs b).role),.int .i64 ((prs b).path),.int .i64 ((prs b).epo),.int .i64 ((prs b).ctr),.slice bp ((prs b).body.length) bc] B5 0 70 _ _ rfl rfl rfl (M.thereP mS 0 6 (Nat.le_of_ble_eq_true rfl)) (by kernel_rfl) (List.all_eq_true.1 (rfl:([.int .i64 ((prs b).kind),.int .i64 ((prs b).role),.int .i64 ((prs b).path),.int .i64 ((prs b).epo),.int .i64 ((prs b).ctr),.slice bp ((prs b).body.length) bc]:List Value).all (fun u=>u.oneCell')=true))) ?_
       simp only [Act.put]; replace M:=M.setPart [.int .i64 ((prs b).kind),.int .i64 ((prs b).role),.int .i64 ((prs b).path),.int .i64 ((prs b).epo),.int .i64 ((prs b).ctr),.slice bp ((prs b).body.length) bc] 0 (Nat.le_of_ble_eq_true rfl)
       generalize w5.setCells B5 0 [.int .i64 ((prs b).kind),.int .i64 ((prs b).role),.int .i64 ((prs b).path),.int .i64 ((prs b).epo),.int .i64 ((prs b).ctr),.slice bp ((prs b).body.length) bc]=w6 at M  ⊢
       replace M:Mm w ([(B5,[.int .i64 ((prs b).kind),.int .i64 ((prs b).role),.int .i64 ((prs b).path),.int .i64 ((prs b).epo),.int .i64 ((prs b).ctr),.slice bp ((prs b).body.length) bc]),(B1,[.int .i64 0,.int .i64 0,.int .i64 0,.int .i64 0,.int .i64 0,.slice none 0 0])]) w6:=M
       refine xT ?_; go_upto_region 4 with fail; refine wp_region_list ?_
       refine xaL (.agg #[.int .i64 ((prs b).kind),.int .i64 ((prs b).role),.int .i64 ((prs b).path),.int .i64 ((prs b).epo),.int .i64 ((prs b).ctr),.slice bp ((prs b).body.length) bc]) (loadN 70 _ ⟨B5,0,none⟩ [.int .i64 ((prs b).kind),.int .i64 ((prs b).role),.int .i64 ((prs b).path),.int .i64 ((prs b).epo),.int .i64 ((prs b).ctr),.slice bp ((prs b).body.length) bc] rfl rfl (fun _=>by kernel_rfl) (fun _=>by kernel_rfl) (M.rangeAt mS)) ?_
       obtain ⟨b1,hb1⟩:∃ y_,y_=(pok (prs b)):=⟨_,rfl⟩
       have hC:Calls Tryz.prog 40 #[.agg #[.int .i64 ((prs b).kind),.int .i64 ((prs b).role),.int .i64 ((prs b).path),.int .i64 ((prs b).epo),.int .i64 ((prs b).ctr),.slice bp ((prs b).body.length) bc]] w6 (fun e w'=>e=.returned (.bool b1)∧Below w6.heap.size w6 w'):=(by rw [hb1]; exact pmay_any (prs b) bp bc _)
       refine xcL (hC) ?_; rintro e w7 ⟨rfl,l⟩; replace M:=M.call l
       refine ⟨_,rfl,?_⟩
       clear l hC; simp only [aP,lI,l0,lS]
       obtain ⟨b2,hb2⟩:∃ y_,y_=(!b1):=⟨_,rfl⟩
       refine xaL (.bool b2) (by subst hb2; cases b1 <;> rfl) ?_; refine xT ?_
       have hbb:b2=!pok (prs b):=by rw [hb2,hb1]
       try clear hb1
       try clear hb2
       cases b2 with
       | true =>
         have hQ:=show Hid _ from ps_err (pps_bad hno (show pok (prs b)=false by simpa using hbb)); clear hbb; go_upto_region 5 with fail; refine wp_region_list ?_; refine xpL (.agg #[.int .i64 0,.int .i64 0,.int .i64 0,.int .i64 0,.int .i64 0,.slice none 0 0]) ?_; replace M:=M.swap
         refine skipOpL rfl (storeP [.int .i64 0,.int .i64 0,.int .i64 0,.int .i64 0,.int .i64 0,.slice none 0 0] B1 0 70 _ _ rfl rfl rfl (M.thereP mS 0 6 (Nat.le_of_ble_eq_true rfl)) (by kernel_rfl) (List.all_eq_true.1 (rfl:([.int .i64 0,.int .i64 0,.int .i64 0,.int .i64 0,.int .i64 0,.slice none 0 0]:List Value).all (fun u=>u.oneCell')=true))) ?_; simp only [Act.put]
         replace M:=M.setPart [.int .i64 0,.int .i64 0,.int .i64 0,.int .i64 0,.int .i64 0,.slice none 0 0] 0 (Nat.le_of_ble_eq_true rfl); generalize w7.setCells B1 0 [.int .i64 0,.int .i64 0,.int .i64 0,.int .i64 0,.int .i64 0,.slice none 0 0]=w8 at M  ⊢
         replace M:Mm w ([(B1,[.int .i64 0,.int .i64 0,.int .i64 0,.int .i64 0,.int .i64 0,.slice none 0 0]),(B5,[.int .i64 ((prs b).kind),.int .i64 ((prs b).role),.int .i64 ((prs b).path),.int .i64 ((prs b).epo),.int .i64 ((prs b).ctr),.slice bp ((prs b).body.length) bc])]) w8:=M
         refine xpL (.int .i64 110) ?_; refine xT ?_; have hpv:=show Hid _ from (pv0 w8); have c1_:=M.part mS 0 (pcs pk0 none 0) rfl; have hM:=M.below; clear M; go_wp2; refine bodyPost_ret (v:=.tuple #[.agg (pcs pk0 none 0).toArray,.int .i64 110]) (retCellTmp 2 3 70 ⟨B1,0,none⟩ (pcs pk0 none 0) _ rfl rfl rfl (fun _=>by kernel_rfl) (fun _=>by kernel_rfl) c1_) rfl ?_
         exact ⟨⟨_,_,by rw [hQ.out.1,hQ.out.2],by rw [hQ.out.1]; exact hpv.out⟩,hM⟩
       | false =>
         have hQ:=show Hid _ from ps_ok (pps_good hno (show pok (prs b)=true by simpa using hbb)); clear hbb; go_upto_region 6 with fail; refine wp_region_list ?_; refine xpL (.pointer (some ⟨B5,5,none⟩)) ?_; refine xaL (.slice bp ((prs b).body.length) bc) (load1 29 _ ⟨B5,5,none⟩ _ rfl rfl (fun _=>by kernel_rfl) (M.get mS 5 _ rfl)) ?_; have hB4:=M.lt mS; have hB1:=M.lt (mT _ mS)
         refine xcL (clone_any bp _ bc (xnT F_1.max (by decide)) F_1.le F_1.nil (bl (prs b).body) _ (F_1.src.below M.below (xnR _))) ?_; rintro e w9 ⟨v,rfl,O_2,l⟩; replace M:=M.call l; clear l
         obtain ⟨p5,c5,rfl,_,_⟩:=O_2.bytes
         refine xeL ?_; refine xpL (.pointer (some ⟨B5,5,none⟩)) ?_; refine skipOpL rfl (storeAny (.slice p5 ((prs b).body.length) c5) B5 5 29 _ _ rfl rfl rfl rfl rfl (M.isSome mS 5 (by simp)) (M.free mS 5 (by simp)) (by kernel_rfl)) ?_; simp only [Act.put]; replace M:=M.set 5 (by simp) (.slice p5 ((prs b).body.length) c5)
         replace O_2:=Own.off1 O_2 ((Off.refl [B5] _).set (b:=B5) mS 5 (.slice p5 ((prs b).body.length) c5)) (by omega); generalize w9.setCell ⟨B5,5,none⟩ (.slice p5 ((prs b).body.length) c5)=w10 at M O_2 ⊢
         replace M:Mm w ([(B5,[.int .i64 ((prs b).kind),.int .i64 ((prs b).role),.int .i64 ((prs b).path),.int .i64 ((prs b).epo),.int .i64 ((prs b).ctr),.slice p5 ((prs b).body.length) c5]),(B1,[.int .i64 0,.int .i64 0,.int .i64 0,.int .i64 0,.int .i64 0,.slice none 0 0])]) w10:=M
         refine xT ?_; go_upto_region 7 with fail; refine wp_region_list ?_
         refine xaL (.agg #[.int .i64 ((prs b).kind),.int .i64 ((prs b).role),.int .i64 ((prs b).path),.int .i64 ((prs b).epo),.int .i64 ((prs b).ctr),.slice p5 ((prs b).body.length) c5]) (loadN 70 _ ⟨B5,0,none⟩ [.int .i64 ((prs b).kind),.int .i64 ((prs b).role),.int .i64 ((prs b).path),.int .i64 ((prs b).epo),.int .i64 ((prs b).ctr),.slice p5 ((prs b).body.length) c5] rfl rfl (fun _=>by kernel_rfl) (fun _=>by kernel_rfl) (M.rangeAt mS)) ?_
         replace M:=M.swap
         refine skipOpL rfl (storeP [.int .i64 ((prs b).kind),.int .i64 ((prs b).role),.int .i64 ((prs b).path),.int .i64 ((prs b).epo),.int .i64 ((prs b).ctr),.slice p5 ((prs b).body.length) c5] B1 0 70 _ _ rfl rfl rfl (M.thereP mS 0 6 (Nat.le_of_ble_eq_true rfl)) (by kernel_rfl) (List.all_eq_true.1 (rfl:([.int .i64 ((prs b).kind),.int .i64 ((prs b).role),.int .i64 ((prs b).path),.int .i64 ((prs b).epo),.int .i64 ((prs b).ctr),.slice p5 ((prs b).body.length) c5]:List Value).all (fun u=>u.oneCell')=true))) ?_
         simp only [Act.put]; replace M:=M.setPart [.int .i64 ((prs b).kind),.int .i64 ((prs b).role),.int .i64 ((prs b).path),.int .i64 ((prs b).epo),.int .i64 ((prs b).ctr),.slice p5 ((prs b).body.length) c5] 0 (Nat.le_of_ble_eq_true rfl)
         replace O_2:=Own.off1 O_2 ((Off.refl [B1] _).setAll (b:=B1) mS 0 [.int .i64 ((prs b).kind),.int .i64 ((prs b).role),.int .i64 ((prs b).path),.int .i64 ((prs b).epo),.int .i64 ((prs b).ctr),.slice p5 ((prs b).body.length) c5]) (by omega)
         generalize w10.setCells B1 0 [.int .i64 ((prs b).kind),.int .i64 ((prs b).role),.int .i64 ((prs b).path),.int .i64 ((prs b).epo),.int .i64 ((prs b).ctr),.slice p5 ((prs b).body.length) c5]=w11 at M O_2 ⊢
         replace M:Mm w ([(B1,[.int .i64 ((prs b).kind),.int .i64 ((prs b).role),.int .i64 ((prs b).path),.int .i64 ((prs b).epo),.int .i64 ((prs b).ctr),.slice p5 ((prs b).body.length) c5]),(B5,[.int .i64 ((prs b).kind),.int .i64 ((prs b).role),.int .i64 ((prs b).path),.int .i64 ((prs b).epo),.int .i64 ((prs b).ctr),.slice p5 ((prs b).body.length) c5])]) w11:=M
         refine xpL (.int .i64 0) ?_; refine xT ?_; have hpv:=show Hid _ from ((⟨O_2.src,O_2.le,O_2.nilCap,F_1.max,F_1.byts,F_1.kind,F_1.role,F_1.path,F_1.epo,F_1.ctr⟩:PV _ (prs b) p5 c5)); have c1_:=M.part mS 0 (pcs (prs b) p5 c5) rfl; have hM:=M.below; clear M; go_wp2
         refine bodyPost_ret (v:=.tuple #[.agg (pcs (prs b) p5 c5).toArray,.int .i64 0]) (retCellTmp 2 3 70 ⟨B1,0,none⟩ (pcs (prs b) p5 c5) _ rfl rfl rfl (fun _=>by kernel_rfl) (fun _=>by kernel_rfl) c1_) rfl ?_
         exact ⟨⟨_,_,by rw [hQ.out.1,hQ.out.2],by rw [hQ.out.1]; exact hpv.out⟩,hM⟩
     · go_upto_region 1 with fail
       refine wp_region_list ?_; refine xpL (.slice (some ad) b.length cap) ?_; refine xaL (.int .i64 ((b.length:Nat):Int)) (lenS _ 29 5 (some ad) b.length cap rfl Tryz.underlying29 rfl _) ?_; refine xaL (.bool false) (eqlI .i64 _ _ _ _ _ _ rfl rfl rfl false (beq_eq_false_iff_ne.2 (by omega)) _) ?_; refine xpL (.bool false) ?_; refine xpL (.slice (some ad) b.length cap) ?_
       refine xaL (.pointer (some (ad.add 0))) (idxSl 29 5 b.length cap .i64 ad 0 _ _ Tryz.underlying29 (fun _=>by kernel_rfl) (by omega) rfl rfl rfl _) ?_; refine xaL (.int .u8 (bl b 0)) (load1 5 _ (ad.add 0) _ rfl rfl (fun _=>by kernel_rfl) ((hs.below M.below (xnR _)).at 0 (by omega))) ?_; refine xaL (.bool false) (eqlI .u8 _ _ _ _ _ _ rfl rfl rfl false (by simpa using h3') _) ?_
       refine xpL (.bool false) ?_
       with_reducible refine skipL ?_ ?_
       · rfl
       simp only [aP,lI,l0,lS]
       with_reducible refine skipL ?_ ?_
       · rfl
       simp only [aP,lI,l0,lS]
       with_reducible refine skipL ?_ ?_
       · rfl
       simp only [aP,lI,l0,lS]; refine xpL (.bool false) ?_; refine xpL (.bool false) ?_; refine xT ?_; go_upto_region 3 with fail; refine wp_region_list ?_; refine xpL (.slice (some ad) b.length cap) ?_; refine xcL (pread_any (some ad) cap b w _ M.below (hg.mm M) hlen hcap hnil hb hs hpos h27) ?_; rintro e w12 ⟨⟨bp,bc,rfl,F_1⟩,l⟩; replace M:=M.call l; clear l
       refine ⟨_,rfl,?_⟩
       rw [show (.agg (pcs (prs b) bp bc).toArray:Value)=.agg #[.int .i64 ((prs b).kind),.int .i64 ((prs b).role),.int .i64 ((prs b).path),.int .i64 ((prs b).epo),.int .i64 ((prs b).ctr),.slice bp ((prs b).body.length) bc] from rfl]
       simp only [aP,lI,l0,lS]; refine actL (w':=w12.alloc (.cells #[.int .i64 0,.int .i64 0,.int .i64 0,.int .i64 0,.int .i64 0,.slice none 0 0] 70)) (.pointer (some ⟨w12.heap.size,0,none⟩)) rfl (by kernel_rfl) ?_; simp only [aP,lI,l0,lS]
       have hB_B13:w.heap.size≤w12.heap.size:=M.below.size
       replace M:=M.box #[.int .i64 0,.int .i64 0,.int .i64 0,.int .i64 0,.int .i64 0,.slice none 0 0] 70 w12.heap.size rfl; generalize w12.alloc (.cells #[.int .i64 0,.int .i64 0,.int .i64 0,.int .i64 0,.int .i64 0,.slice none 0 0] 70)=w13 at M  ⊢; generalize eB:w12.heap.size=B13 at M hB_B13  ⊢
       have hE_B13:w12.heap.size≤B13:=Nat.le_of_eq eB
       have hF_B13:B13≤w12.heap.size:=Nat.le_of_eq eB.symm
       clear eB
       replace M:Mm w ([(B13,[.int .i64 0,.int .i64 0,.int .i64 0,.int .i64 0,.int .i64 0,.slice none 0 0]),(B1,[.int .i64 0,.int .i64 0,.int .i64 0,.int .i64 0,.int .i64 0,.slice none 0 0])]) w13:=M
       refine skipOpL rfl (storeP [.int .i64 ((prs b).kind),.int .i64 ((prs b).role),.int .i64 ((prs b).path),.int .i64 ((prs b).epo),.int .i64 ((prs b).ctr),.slice bp ((prs b).body.length) bc] B13 0 70 _ _ rfl rfl rfl (M.thereP mS 0 6 (Nat.le_of_ble_eq_true rfl)) (by kernel_rfl) (List.all_eq_true.1 (rfl:([.int .i64 ((prs b).kind),.int .i64 ((prs b).role),.int .i64 ((prs b).path),.int .i64 ((prs b).epo),.int .i64 ((prs b).ctr),.slice bp ((prs b).body.length) bc]:List Value).all (fun u=>u.oneCell')=true))) ?_
       simp only [Act.put]; replace M:=M.setPart [.int .i64 ((prs b).kind),.int .i64 ((prs b).role),.int .i64 ((prs b).path),.int .i64 ((prs b).epo),.int .i64 ((prs b).ctr),.slice bp ((prs b).body.length) bc] 0 (Nat.le_of_ble_eq_true rfl)
       generalize w13.setCells B13 0 [.int .i64 ((prs b).kind),.int .i64 ((prs b).role),.int .i64 ((prs b).path),.int .i64 ((prs b).epo),.int .i64 ((prs b).ctr),.slice bp ((prs b).body.length) bc]=w14 at M  ⊢
       replace M:Mm w ([(B13,[.int .i64 ((prs b).kind),.int .i64 ((prs b).role),.int .i64 ((prs b).path),.int .i64 ((prs b).epo),.int .i64 ((prs b).ctr),.slice bp ((prs b).body.length) bc]),(B1,[.int .i64 0,.int .i64 0,.int .i64 0,.int .i64 0,.int .i64 0,.slice none 0 0])]) w14:=M
       refine xT ?_; go_upto_region 4 with fail; refine wp_region_list ?_
       refine xaL (.agg #[.int .i64 ((prs b).kind),.int .i64 ((prs b).role),.int .i64 ((prs b).path),.int .i64 ((prs b).epo),.int .i64 ((prs b).ctr),.slice bp ((prs b).body.length) bc]) (loadN 70 _ ⟨B13,0,none⟩ [.int .i64 ((prs b).kind),.int .i64 ((prs b).role),.int .i64 ((prs b).path),.int .i64 ((prs b).epo),.int .i64 ((prs b).ctr),.slice bp ((prs b).body.length) bc] rfl rfl (fun _=>by kernel_rfl) (fun _=>by kernel_rfl) (M.rangeAt mS)) ?_
       obtain ⟨b3,hb3⟩:∃ y_,y_=(pok (prs b)):=⟨_,rfl⟩
       have hC:Calls Tryz.prog 40 #[.agg #[.int .i64 ((prs b).kind),.int .i64 ((prs b).role),.int .i64 ((prs b).path),.int .i64 ((prs b).epo),.int .i64 ((prs b).ctr),.slice bp ((prs b).body.length) bc]] w14 (fun e w'=>e=.returned (.bool b3)∧Below w14.heap.size w14 w'):=(by rw [hb3]; exact pmay_any (prs b) bp bc _)
       refine xcL (hC) ?_; rintro e w15 ⟨rfl,l⟩; replace M:=M.call l
       refine ⟨_,rfl,?_⟩
       clear l hC; simp only [aP,lI,l0,lS]
       obtain ⟨b4,hb4⟩:∃ y_,y_=(!b3):=⟨_,rfl⟩
       refine xaL (.bool b4) (by subst hb4; cases b3 <;> rfl) ?_; refine xT ?_
       have hbb:b4=!pok (prs b):=by rw [hb4,hb3]
       try clear hb3
       try clear hb4
       cases b4 with
       | true =>
         have hQ:=show Hid _ from ps_err (pps_bad hno (show pok (prs b)=false by simpa using hbb)); clear hbb; go_upto_region 5 with fail; refine wp_region_list ?_; refine xpL (.agg #[.int .i64 0,.int .i64 0,.int .i64 0,.int .i64 0,.int .i64 0,.slice none 0 0]) ?_; replace M:=M.swap
         refine skipOpL rfl (storeP [.int .i64 0,.int .i64 0,.int .i64 0,.int .i64 0,.int .i64 0,.slice none 0 0] B1 0 70 _ _ rfl rfl rfl (M.thereP mS 0 6 (Nat.le_of_ble_eq_true rfl)) (by kernel_rfl) (List.all_eq_true.1 (rfl:([.int .i64 0,.int .i64 0,.int .i64 0,.int .i64 0,.int .i64 0,.slice none 0 0]:List Value).all (fun u=>u.oneCell')=true))) ?_; simp only [Act.put]
         replace M:=M.setPart [.int .i64 0,.int .i64 0,.int .i64 0,.int .i64 0,.int .i64 0,.slice none 0 0] 0 (Nat.le_of_ble_eq_true rfl); generalize w15.setCells B1 0 [.int .i64 0,.int .i64 0,.int .i64 0,.int .i64 0,.int .i64 0,.slice none 0 0]=w16 at M  ⊢
         replace M:Mm w ([(B1,[.int .i64 0,.int .i64 0,.int .i64 0,.int .i64 0,.int .i64 0,.slice none 0 0]),(B13,[.int .i64 ((prs b).kind),.int .i64 ((prs b).role),.int .i64 ((prs b).path),.int .i64 ((prs b).epo),.int .i64 ((prs b).ctr),.slice bp ((prs b).body.length) bc])]) w16:=M
         refine xpL (.int .i64 110) ?_; refine xT ?_; have hpv:=show Hid _ from (pv0 w16); have c1_:=M.part mS 0 (pcs pk0 none 0) rfl; have hM:=M.below; clear M; go_wp2; refine bodyPost_ret (v:=.tuple #[.agg (pcs pk0 none 0).toArray,.int .i64 110]) (retCellTmp 2 3 70 ⟨B1,0,none⟩ (pcs pk0 none 0) _ rfl rfl rfl (fun _=>by kernel_rfl) (fun _=>by kernel_rfl) c1_) rfl ?_
         exact ⟨⟨_,_,by rw [hQ.out.1,hQ.out.2],by rw [hQ.out.1]; exact hpv.out⟩,hM⟩
       | false =>
         have hQ:=show Hid _ from ps_ok (pps_good hno (show pok (prs b)=true by simpa using hbb)); clear hbb; go_upto_region 6 with fail; refine wp_region_list ?_; refine xpL (.pointer (some ⟨B13,5,none⟩)) ?_; refine xaL (.slice bp ((prs b).body.length) bc) (load1 29 _ ⟨B13,5,none⟩ _ rfl rfl (fun _=>by kernel_rfl) (M.get mS 5 _ rfl)) ?_; have hB4:=M.lt mS; have hB1:=M.lt (mT _ mS)
         refine xcL (clone_any bp _ bc (xnT F_1.max (by decide)) F_1.le F_1.nil (bl (prs b).body) _ (F_1.src.below M.below (xnR _))) ?_; rintro e w17 ⟨v,rfl,O_2,l⟩; replace M:=M.call l; clear l
         obtain ⟨p5,c5,rfl,_,_⟩:=O_2.bytes
         refine xeL ?_; refine xpL (.pointer (some ⟨B13,5,none⟩)) ?_; refine skipOpL rfl (storeAny (.slice p5 ((prs b).body.length) c5) B13 5 29 _ _ rfl rfl rfl rfl rfl (M.isSome mS 5 (by simp)) (M.free mS 5 (by simp)) (by kernel_rfl)) ?_; simp only [Act.put]; replace M:=M.set 5 (by simp) (.slice p5 ((prs b).body.length) c5)
         replace O_2:=Own.off1 O_2 ((Off.refl [B13] _).set (b:=B13) mS 5 (.slice p5 ((prs b).body.length) c5)) (by omega); generalize w17.setCell ⟨B13,5,none⟩ (.slice p5 ((prs b).body.length) c5)=w18 at M O_2 ⊢
         replace M:Mm w ([(B13,[.int .i64 ((prs b).kind),.int .i64 ((prs b).role),.int .i64 ((prs b).path),.int .i64 ((prs b).epo),.int .i64 ((prs b).ctr),.slice p5 ((prs b).body.length) c5]),(B1,[.int .i64 0,.int .i64 0,.int .i64 0,.int .i64 0,.int .i64 0,.slice none 0 0])]) w18:=M
         refine xT ?_; go_upto_region 7 with fail; refine wp_region_list ?_
         refine xaL (.agg #[.int .i64 ((prs b).kind),.int .i64 ((prs b).role),.int .i64 ((prs b).path),.int .i64 ((prs b).epo),.int .i64 ((prs b).ctr),.slice p5 ((prs b).body.length) c5]) (loadN 70 _ ⟨B13,0,none⟩ [.int .i64 ((prs b).kind),.int .i64 ((prs b).role),.int .i64 ((prs b).path),.int .i64 ((prs b).epo),.int .i64 ((prs b).ctr),.slice p5 ((prs b).body.length) c5] rfl rfl (fun _=>by kernel_rfl) (fun _=>by kernel_rfl) (M.rangeAt mS)) ?_
         replace M:=M.swap
         refine skipOpL rfl (storeP [.int .i64 ((prs b).kind),.int .i64 ((prs b).role),.int .i64 ((prs b).path),.int .i64 ((prs b).epo),.int .i64 ((prs b).ctr),.slice p5 ((prs b).body.length) c5] B1 0 70 _ _ rfl rfl rfl (M.thereP mS 0 6 (Nat.le_of_ble_eq_true rfl)) (by kernel_rfl) (List.all_eq_true.1 (rfl:([.int .i64 ((prs b).kind),.int .i64 ((prs b).role),.int .i64 ((prs b).path),.int .i64 ((prs b).epo),.int .i64 ((prs b).ctr),.slice p5 ((prs b).body.length) c5]:List Value).all (fun u=>u.oneCell')=true))) ?_
         simp only [Act.put]; replace M:=M.setPart [.int .i64 ((prs b).kind),.int .i64 ((prs b).role),.int .i64 ((prs b).path),.int .i64 ((prs b).epo),.int .i64 ((prs b).ctr),.slice p5 ((prs b).body.length) c5] 0 (Nat.le_of_ble_eq_true rfl)
         replace O_2:=Own.off1 O_2 ((Off.refl [B1] _).setAll (b:=B1) mS 0 [.int .i64 ((prs b).kind),.int .i64 ((prs b).role),.int .i64 ((prs b).path),.int .i64 ((prs b).epo),.int .i64 ((prs b).ctr),.slice p5 ((prs b).body.length) c5]) (by omega)
         generalize w18.setCells B1 0 [.int .i64 ((prs b).kind),.int .i64 ((prs b).role),.int .i64 ((prs b).path),.int .i64 ((prs b).epo),.int .i64 ((prs b).ctr),.slice p5 ((prs b).body.length) c5]=w19 at M O_2 ⊢
         replace M:Mm w ([(B1,[.int .i64 ((prs b).kind),.int .i64 ((prs b).role),.int .i64 ((prs b).path),.int .i64 ((prs b).epo),.int .i64 ((prs b).ctr),.slice p5 ((prs b).body.length) c5]),(B13,[.int .i64 ((prs b).kind),.int .i64 ((prs b).role),.int .i64 ((prs b).path),.int .i64 ((prs b).epo),.int .i64 ((prs b).ctr),.slice p5 ((prs b).body.length) c5])]) w19:=M
         refine xpL (.int .i64 0) ?_; refine xT ?_; have hpv:=show Hid _ from ((⟨O_2.src,O_2.le,O_2.nilCap,F_1.max,F_1.byts,F_1.kind,F_1.role,F_1.path,F_1.epo,F_1.ctr⟩:PV _ (prs b) p5 c5)); have c1_:=M.part mS 0 (pcs (prs b) p5 c5) rfl; have hM:=M.below; clear M; go_wp2
         refine bodyPost_ret (v:=.tuple #[.agg (pcs (prs b) p5 c5).toArray,.int .i64 0]) (retCellTmp 2 3 70 ⟨B1,0,none⟩ (pcs (prs b) p5 c5) _ rfl rfl rfl (fun _=>by kernel_rfl) (fun _=>by kernel_rfl) c1_) rfl ?_
         exact ⟨⟨_,_,by rw [hQ.out.1,hQ.out.2],by rw [hQ.out.1]; exact hpv.out⟩,hM⟩
theorem put_raw16 (B o c:Nat) (x:Int) (y0 y1 y2 y3 y4 y5 y6 y7:Int) (w:World) (c0:w.cell? ⟨B,o,none⟩=some (.int .u8 y0)) (f0:w.frozen? ⟨B,o,none⟩=false) (c1:w.cell? ⟨B,o+1,none⟩=some (.int .u8 y1)) (f1:w.frozen? ⟨B,o+1,none⟩=false) (c2:w.cell? ⟨B,o+2,none⟩=some (.int .u8 y2)) (f2:w.frozen? ⟨B,o+2,none⟩=false) (c3:w.cell? ⟨B,o+3,none⟩=some (.int .u8 y3)) (f3:w.frozen? ⟨B,o+3,none⟩=false) (c4:w.cell? ⟨B,o+4,none⟩=some (.int .u8 y4)) (f4:w.frozen? ⟨B,o+4,none⟩=false) (c5:w.cell? ⟨B,o+5,none⟩=some (.int .u8 y5)) (f5:w.frozen? ⟨B,o+5,none⟩=false) (c6:w.cell? ⟨B,o+6,none⟩=some (.int .u8 y6)) (f6:w.frozen? ⟨B,o+6,none⟩=false) (c7:w.cell? ⟨B,o+7,none⟩=some (.int .u8 y7)) (f7:w.frozen? ⟨B,o+7,none⟩=false) :
 Calls Tryz.prog 55 #[.slice (some ⟨B,o,none⟩) 16 c,.int .u64 x] w fun e w'=>e=.returned (.tuple #[])∧w'=((((((((w.setCell ⟨B,o,none⟩ (.int .u8 (x%256))).setCell ⟨B,o+1,none⟩ (.int .u8 (x/256%256))).setCell ⟨B,o+2,none⟩ (.int .u8 (x/65536%256))).setCell ⟨B,o+3,none⟩ (.int .u8 (x/16777216%256))).setCell ⟨B,o+4,none⟩ (.int .u8 (x/4294967296%256))).setCell ⟨B,o+5,none⟩ (.int .u8 (x/1099511627776%256))).setCell ⟨B,o+6,none⟩ (.int .u8 (x/281474976710656%256))).setCell ⟨B,o+7,none⟩ (.int .u8 (x/72057594037927936%256))):=by
 go_enter Tryz.func55,Tryz.ntmps55
 go_wp2
 go_end0
 exact ⟨rfl,rfl⟩
theorem put16_any (B o n c:Nat) (g:Nat→Int) (x:Int) (ho:o+8≤n) (w:World) (h:Has w B .u8 n g) :
 Calls Tryz.prog 55 #[.slice (some ⟨B,o,none⟩) 16 c,.int .u64 x] w fun e w'=>e=.returned (.tuple #[])∧w'=w.setCells B o (row .u8 8 (byt x)) :=
 put_raw16 B o c x _ _ _ _ _ _ _ _ w (h.cell o (by omega)) (h.free o (by omega)) (h.cell (o+1) (by omega)) (h.free (o+1) (by omega)) (h.cell (o+2) (by omega)) (h.free (o+2) (by omega)) (h.cell (o+3) (by omega)) (h.free (o+3) (by omega)) (h.cell (o+4) (by omega)) (h.free (o+4) (by omega)) (h.cell (o+5) (by omega)) (h.free (o+5) (by omega)) (h.cell (o+6) (by omega)) (h.free (o+6) (by omega)) (h.cell (o+7) (by omega)) (h.free (o+7) (by omega))
def dgN (s A j:Nat):Nat:=A/2^(s*j)%2^s
def dg (s A:Nat):Nat→Int:=fun j=>((dgN s A j:Nat):Int)
def nb (a:Nat→Int):Nat:=(val 256 a 17).toNat
abbrev D:Int:=67108864
structure RS (f:Nat→Int) (w w':World):Prop where
 hd:Has w' (w.heap.size+1) .i64 5 f
 hr:Has w' w.heap.size .u8 17 (fun _=>0)
 fr:Fr w 2 w'
structure RA (v:Int) (n B:Nat) (f:Nat→Int) (w w':World):Prop where
 cs:n=5∨n=6∨n=11
 big:∀ j,j<n→0≤f j∧f j≤(if n=11 then 72057594037927936 else if n=6 then 432345564227567616 else 2594073385365405696)
 eq:val D f n%Q=v%Q
 ht:Has w' B .i64 n f
 hB:B<w'.heap.size
 ne:B≠w.heap.size∧B≠w.heap.size+1
 rs:RS (fun _=>0) w w'
structure R2 (v:Int) (r:Int) (f:Nat→Int) (w w':World):Prop where
 r0:0≤r
 big:∀ j,j<5→0≤f j∧f j≤2594073385365405696
 eq:val D f 5%Q=v%Q
 inn:r=0→In D 5 f
 rs:RS f w w'
structure R3 (f:Nat→Int) (k:Nat) (r:Int) (g:Nat→Int) (w w':World):Prop where
 r0:0≤r
 r1:r≤137438953472
 done:∀ j,j<k→0≤g j∧g j<67108864
 rest:∀ j,k≤j→g j=f j
 eq:val D g k+D^k*r=val D f k
 rs:RS g w w'
structure Two (a b:Nat→Int) (w w':World):Prop where
 ha:Has w' w.heap.size .u8 17 a
 hb:Has w' (w.heap.size+1) .u8 17 b
 hr:w'.there (w.heap.size+1+1) 0 17
 fr:Fr w 3 w'
structure MU (a b:Nat→Int) (i k:Nat) (f:Nat→Int) (B1 B2 B3:Nat) (w w':World):Prop where
 eq:val D f 11=val D (dg 26 (nb a)) i*val D (dg 26 (nb b)) 6+D^i*dg 26 (nb a) i*val D (dg 26 (nb b)) k
 big:∀ j,j<11→0≤f j∧f j≤(i:Int)*4503599627370496+(if i≤j∧j<i+k then 4503599627370496 else 0)
 h1:Has w' B1 .i64 6 (dg 26 (nb a))
 h2:Has w' B2 .i64 6 (dg 26 (nb b))
 h3:Has w' B3 .i64 11 f
 hr:w'.there (w.heap.size+1+1) 0 17
 fr:Fr w 3 w'
 hi:B3<w'.heap.size
theorem idxTag (b i:Nat) (hi:i<16) (w:World) {o:Oper} {a:Act} (x y:Operand) (ho:o.op=.indexAddr 89 x y) (hx:a.eval x=.pointer (some ⟨b,0,none⟩)) (hy:a.eval y=.int .i64 (i:Int)) :
 (execOp a.eval o).run Tryz.prog w=.ok (.value (.pointer (some ⟨b,i,none⟩))) w:=by
 have h:=idxArr (P:=Tryz.prog) 89 5 16 .i64 b 0 i x y Tryz.underlying89 (fun _=>by kernel_rfl) hi ho hx hy w
 rw [Nat.zero_add] at h
 exact h
theorem Has.mid {w:World} {b:Nat} {k:IntKind} {n:Nat} {f:Nat→Int} (h:Has w b k n f) (o m:Nat) (ho:o+m≤n):w.rangeAt b o (row k m (fun j=>f (o+j))):=fun j v hv=>by
 obtain ⟨hj,rfl⟩:=row_get_some hv
 exact h.cell (o+j) (by omega)
theorem pfactor_any (r:Nat→Int) (hr:In 256 16 r) (w:World) (hg:Glob w) :
 Calls Tryz.prog 74 #[(.agg (row .u8 16 (r)).toArray)] w fun e w'=>e=.returned (.agg (row .u8 17 (byB (trimT r))).toArray)∧Below w.heap.size w w':=by
 have K:=Kr.init w; replace K:=K.box .u8 16 r 89 (w.heap.size) rfl; replace K:=K.make 17 zu8_17 131 (w.heap.size+1) (by simp) (big_zero _ _ _ (by simp)).there
 go_enter Tryz.func74,Tryz.ntmps74
 go_upto_region 1 with fail; generalize ((w.alloc (.cells (row .u8 16 r).toArray 89)).alloc (.cells zu8_17 131))=w0 at K ⊢; refine wp_region_list ?_; refine rowKL .u8 16 (r) (w.heap.size) 0 89 _ _ rfl rfl rfl Tryz.underlying89 rfl (tag_info _) ((K.get _ _ _ _ mS).range) ?_; simp only [aP,lI,l0,lS]; refine xcL (ctrim_any r hr _ (hg.below K.below hg.size)) ?_; rintro e w1 ⟨rfl,l⟩
 replace K:=K.call l; clear l; refine xeL ?_; refine storesL .u8 16 (trimT r) (w.heap.size) 89 _ _ rfl rfl rfl rfl (tag_there (K.get _ _ _ _ mS)) (tag_info' _) ?_; simp only [Act.put]; replace K:=K.set [] (w.heap.size) .u8 16 r (trimT r) mS (fun _ hp=>by cases hp) (fun _ hp=>by cases hp) (xnR _); generalize w1.setCells (w.heap.size) 0 (row .u8 16 (trimT r))=w2 at K ⊢
 show Exit.then _ _ _ _ _; go_upto_region 2 with fail; have zX:=K.size; replace K:=K.boxO .u8 17 (fun _=>0) (.cells zu8_17 131) w2.heap.size rfl (big_zero _ _ _ rfl); go_upto_region 3 with fail; generalize hw:w2.alloc (.cells zu8_17 131)=w3 at K ⊢; clear hw; generalize w2.heap.size=X at *; have HR:=K.get _ _ _ _ mS
 replace K:=K.loose [(w.heap.size,.u8,16,trimT r)] X .u8 17 (fun _=>0) mS (fun p hp=>by obtain rfl:=xm1 hp; exact (mT _ mS)) (fun p hp=>by obtain rfl:=xm1 hp; simp only; omega) (by omega); refine wp_region_held_drew (S:=fun w'=>Kr w (X+1) [(w.heap.size,.u8,16,trimT r)] [(X,17),(w.heap.size+1,17)] w') (by kernel_rfl) K.drew ?_; clear K; intro K; replace HR:=HR.drew
 generalize w3.drew=w4 at K HR ⊢; refine xpH 0 6 (.slice (some ⟨X,0,none⟩) 17 17) K ?_; refine xpH 1 7 (.slice (some ⟨w.heap.size,0,none⟩) 16 16) K ?_
 refine actH (i:=2) (some 8) rfl (.int .i64 ((16:Nat):Int)) (by kernel_rfl) rfl rfl (run_copy_src _ _ 29 29 5 rfl Tryz.underlying29 (by kernel_rfl) X 17 17 16 16 17 (some ⟨w.heap.size,0,none⟩) (trimT r) rfl rfl (by decide) (by decide) HR.there (K.get _ _ _ _ mS).src0) (K.fill X 17 mS (row .u8 16 (trimT r))) ?_; simp only [aP,lI,l0,lS]
 refine wpAnyH_done (by kernel_rfl) ?_ _
 replace K:=K.fill X 17 mS (row .u8 16 (trimT r))
 replace HR:=(HR.part 0 16 (by decide) (trimT r)).congr (g:=byB (trimT r)) (fun j hj=>by
  unfold over byB
  by_cases e:j<16
  · rw [if_pos (by omega),if_pos e,Nat.sub_zero]
  · rw [if_neg (by omega),if_neg e])
 generalize w4.setCells X 0 (row .u8 16 (trimT r))=w5 at K HR ⊢; go_upto_region 4 with fail; have hz:=(K.room _ (mT _ mS)).1; have hB:=(K.fill _ _ (mT _ mS) (row .u8 17 (byB (trimT r)))).below; clear K; generalize hj:byB (trimT r)=f at *
 go_wp2_with (first | (refine wpList_load_mid rfl 131 _ rfl (X) 0 rfl (row .u8 17 (f)) _ (Has.range (HR)) Tryz.underlying131 rfl (big_info _) ?_) | (refine wpList_store_mid rfl 131 _ _ rfl (w.heap.size+1) 0 (row .u8 17 f).toArray rfl rfl (room_of hz) (big_info' _) (all_oneCell_toArray (row_one _ _ _)) ?_))
 exact bodyPost_ret (v:=(.agg (row .u8 17 (f)).toArray)) (results_row Tryz.results74 rfl (Has.all hz .u8 f).range Tryz.underlying131 rfl (big_info f)) rfl ⟨rfl,hB⟩
theorem pnumber_any (sp:Option Addr) (len cap:Nat) (z:Nat→Int) (w:World) (hs:Src w sp len z) :
 Calls Tryz.prog 77 #[.slice sp len cap] w fun e w'=>e=.returned (.agg (row .u8 17 (blk len z)).toArray)∧Below w.heap.size w w':=by
 have K:=Kr.init w; replace K:=K.make 17 zu8_17 131 (w.heap.size) rfl (big_zero _ _ _ rfl).there
 go_enter Tryz.func77,Tryz.ntmps77
 go_upto_region 1 with fail; generalize (w.alloc (.cells zu8_17 131))=w0 at K ⊢; refine wp_region_list ?_; refine xpL (.slice sp len cap) ?_; refine xcL (cblock_any sp len cap z _ (hs.below K.below (xnR _))) ?_; rintro e w1 ⟨rfl,l⟩; replace K:=K.call l; clear l; refine xeL ?_; refine xpL (.tuple #[.agg (row .u8 17 (blk len z)).toArray,.int .i64 (blkE len)]) ?_
 refine xpL (.agg (row .u8 17 (blk len z)).toArray) ?_; refine xpL (.int .i64 (blkE len)) ?_; refine allocL zu8_17 131 rfl (fun _=>by kernel_rfl) ?_; simp only [aP,lI,l0,lS]; refine storesL .u8 17 (blk len z) w1.heap.size 131 _ _ rfl rfl rfl rfl (room_of (big_zero _ _ _ rfl).there) (big_info' _) ?_; simp only [Act.put]; have zG:=K.size
 replace K:=K.fresh .u8 17 (blk len z) zu8_17 131 (big_zero _ _ _ rfl).there; generalize ((w1.alloc (.cells zu8_17 131)).setCells w1.heap.size 0 (row .u8 17 (blk len z)))=w2 at K ⊢; generalize w1.heap.size=G at *; refine xpL (.int .i64 (blkE len)) ?_; show Exit.then _ _ _ _ _; go_upto_region 2 with fail; have HR:=K.get _ _ _ _ mS; have hz:=(K.room _ mS).1
 have hB:=(K.fill _ _ mS (row .u8 17 (blk len z))).below; clear K hs; generalize hj:blk len z=f at *
 go_wp2_with (first | (refine wpList_load_mid rfl 131 _ rfl (G) 0 rfl (row .u8 17 (f)) _ (Has.range (HR)) Tryz.underlying131 rfl (big_info _) ?_) | (refine wpList_store_mid rfl 131 _ _ rfl (w.heap.size) 0 (row .u8 17 f).toArray rfl rfl (room_of hz) (big_info' _) (all_oneCell_toArray (row_one _ _ _)) ?_))
 exact bodyPost_ret (v:=(.agg (row .u8 17 (f)).toArray)) (results_row Tryz.results77 rfl (Has.all hz .u8 f).range Tryz.underlying131 rfl (big_info f)) rfl ⟨rfl,hB⟩
theorem psum_any:SumOK:=by
 intro k hk sp len cap hlen hcap z hz w hg hs
 have hk1:In 256 16 k:=fun j hj=>hk j (by omega)
 have hk2:In 256 16 (fun j=>k (16+j)):=fun j hj=>hk (16+j) (by omega)
 have K:=Kr.init w; replace K:=K.box .u8 32 k 23 (w.heap.size) rfl; replace K:=K.make 16 zu8_16 89 (w.heap.size+1) (by simp) (tag_zero _ _ _ (by simp)).there
 go_enter Tryz.func56,Tryz.ntmps56
 go_upto_region 1 with fail; generalize ((w.alloc (.cells (row .u8 32 k).toArray 23)).alloc (.cells zu8_16 89))=w0 at K ⊢; refine wp_region_list ?_; refine xpL (.slice (some ⟨w.heap.size,0,none⟩) 16 32) ?_; refine xpL (.pointer (some ⟨w.heap.size,0,none⟩)) ?_
 refine rowKL .u8 16 k (w.heap.size) 0 89 _ _ rfl rfl rfl Tryz.underlying89 rfl (tag_info _) (by have h:=(K.get _ _ _ _ mS).mid 0 16 (by decide); simpa using h) ?_
 simp only [aP,lI,l0,lS]; refine xcL (pfactor_any k hk1 _ (hg.below K.below hg.size)) ?_; rintro e w1 ⟨rfl,l⟩; replace K:=K.call l; clear l; refine xeL ?_; refine allocL zu8_17 131 rfl (fun _=>by kernel_rfl) ?_; simp only [aP,lI,l0,lS]; refine storesL .u8 17 (byB (trimT k)) w1.heap.size 131 _ _ rfl rfl rfl rfl (room_of (big_zero _ _ _ rfl).there) (big_info' _) ?_; simp only [Act.put]
 have zT:=K.size; replace K:=K.fresh .u8 17 (byB (trimT k)) zu8_17 131 (big_zero _ _ _ rfl).there; generalize ((w1.alloc (.cells zu8_17 131)).setCells w1.heap.size 0 (row .u8 17 (byB (trimT k))))=w2 at K ⊢; generalize w1.heap.size=T at *; show Exit.then _ _ _ _ _; go_upto_region 2 with fail; have zX:=K.size
 replace K:=K.boxO .u8 17 (fun _=>0) (.cells zu8_17 131) w2.heap.size rfl (big_zero _ _ _ rfl); go_upto_region 3 with fail; generalize hw:w2.alloc (.cells zu8_17 131)=w5 at K ⊢; clear hw; generalize w2.heap.size=X at *; go_wp2
 go_loopw [7] (fun i w'=>∃ (t:Nat) (a:Nat→Int),16*t<len+16∧i=.int .i64 (16*(t:Int))∧Kr w (X+1) [(X,.u8,17,a),(T,.u8,17,byB (trimT k)),(w.heap.size,.u8,32,k)] [(w.heap.size+1,16)] w'∧In 256 17 a∧val 256 a 17=acc (pR k) len z t) (fun i _=>len+16-(intOf i).toNat)
 case atStart=>exact ⟨0,_,by omega,rfl,K,fun _ _=>⟨Int.le_refl 0,(by decide:(0:Int)<256)⟩,by show val 256 (fun _=>0) 17=0; decide⟩
 case round =>
  clear K
  obtain ⟨t,a,ht,rfl,K,ha,hv⟩:=hrel
  have g1:(0:Int)≤16*(t:Int):=by omega
  by_cases hlt:16*t<len
  · have g2:16*(t:Int)<(len:Int):=by omega
    obtain ⟨M,hM⟩:∃ M:Nat,M=min (16*t+16) len:=⟨_,rfl⟩
    have hm:(if (len:Int)<16*(t:Int)+16 then (len:Int) else 16*(t:Int)+16)=(M:Int):=by rw [hM]; split <;> omega
    obtain ⟨sq,hq1,hq2⟩:=cut_lh (P:=Tryz.prog) (t:=29) (by kernel_rfl) (fun _=>by kernel_rfl) sp len cap (16*t) M (by omega) (by omega) hcap
    have hpc:M-16*t=pcN len t:=by unfold pcN; omega
    rw [hpc] at hq1 hq2
    have ec:((16*t:Nat):Int)=16*(t:Int):=by omega
    rw [ec] at hq1
    go_upto_region 6 with fail; refine wp_region_C (S:=fun w'=>Kr w (X+1) [(X,.u8,17,a),(T,.u8,17,byB (trimT k)),(w.heap.size,.u8,32,k)] [(w.heap.size+1,16)] w') 13 (by kernel_rfl) K.drew ?_; clear K; intro K
    refine rowC (i:=0) (some 18) rfl .u8 17 (a) (X) 0 131 _ _ rfl rfl (by kernel_rfl) rfl rfl rfl (by kernel_rfl) (by kernel_rfl) (by kernel_rfl) (by kernel_rfl) (fun _ _ _ h=>h) Tryz.underlying131 rfl (big_info _) K (fun _ h=>(h.get _ _ _ _ mS).range) ?_; simp only [aP,lI,l0,lS]; refine xpC 1 19 (.slice sp len cap) K ?_; refine xpC 2 20 (.int .i64 (16*(t:Int))) K ?_
    refine xpC 3 21 (.int .i64 (16*(t:Int))) K ?_; refine xqC 4 22 rfl (.int .i64 (16*(t:Int)+16)) (fun w=>addI .i64 _ _ _ _ _ _ _ rfl rfl rfl (by rw [xw6]; omega) w) K ?_; refine xpC 5 23 (.slice sp len cap) K ?_
    refine rowC (i:=11) (some 29) rfl .u8 17 (byB (trimT k)) (T) 0 131 _ _ rfl rfl (by kernel_rfl) rfl rfl rfl (by kernel_rfl) (by kernel_rfl) (by kernel_rfl) (by kernel_rfl) (fun _ _ _ h=>h) Tryz.underlying131 rfl (big_info _) K (fun _ h=>(h.get _ _ _ _ (mT _ mS)).range) ?_; simp only [aP,lI,l0,lS]
    refine xqC 6 24 rfl (.int .i64 (len:Int)) (fun w=>lenS _ 29 5 sp len cap rfl Tryz.underlying29 rfl w) K ?_; refine xqC 7 25 rfl (.int .i64 (M:Int)) (fun w=>minI .i64 .i64 _ _ _ _ _ _ _ rfl rfl rfl hm w) K ?_; refine xqC 8 26 rfl (.slice sq (pcN len t) (cap-16*t)) (fun w=>cutLHop _ _ _ _ _ _ _ _ rfl rfl rfl rfl (hq1 w)) K ?_
    refine callMC (i:=9) (some 27) rfl (by kernel_rfl) rfl rfl (fun _=>by kernel_rfl) (pnumber_any sq (pcN len t) (cap-16*t) (fun j=>z (16*t+j)) _ ((hq2 _ _ hs).below K.below (xnR _))) ?_; rintro e w9 ⟨rfl,l⟩; replace K:=K.call l; clear l
    refine ⟨_,rfl,K,?_⟩
    simp only [aP,lI,l0,lS]; refine callMC (i:=10) (some 28) rfl (by kernel_rfl) rfl rfl (fun _=>by kernel_rfl) (cadd_any a (piece len z t) ha (piece_in len z t hz) _ (hg.below K.below hg.size)) ?_; rintro e w11 ⟨f1,rfl,s1,l⟩; replace K:=K.call l; clear l
    refine ⟨_,rfl,K,?_⟩
    simp only [aP,lI,l0,lS]; refine callMC (i:=12) (some 30) rfl (by kernel_rfl) rfl rfl (fun _=>by kernel_rfl) (cmul_any f1 (byB (trimT k)) s1.1 (byB_in _ (trimT_in k hk1)) _ (hg.below K.below hg.size)) ?_; rintro e w12 ⟨f2,rfl,s2,l⟩; replace K:=K.call l; clear l
    refine ⟨_,rfl,K,?_⟩
    simp only [aP,lI,l0,lS]; refine storesC (S2:=fun _=>True) none rfl .u8 17 f2 X 131 _ _ (by kernel_rfl) rfl rfl rfl rfl rfl (big_there (K.get _ _ _ _ mS)) (big_info' _) (by kernel_rfl) ?_; simp only [Act.put]
    refine wpAnyH_done (by kernel_rfl) ?_ _
    have hv2:val 256 f2 17=acc (pR k) len z (t+1):=acc_step (by rw [s1.2,hv]) (byB_val (trimT k)) s2.2
    replace K:=K.set [(T,.u8,17,byB (trimT k)),(w.heap.size,.u8,32,k)] X .u8 17 a f2 mS (fun p hp=>by rcases xc1 hp with rfl | hp; exact (mT _ mS); obtain rfl:=xm1 hp; exact (mI 2 rfl)) (fun p hp=>by rcases xc1 hp with rfl | hp; simp only; omega; obtain rfl:=xm1 hp; simp only; omega) (by omega); have HS:=show Hid _ from (And.intro K (And.intro s2.1 hv2))
    clear K s1 s2 hv hv2 ha hm hM hq1 hq2 hpc ec; generalize w12.setCells X 0 (row .u8 17 f2)=w13 at HS ⊢; go_wp2
    go_roundw
    case rel=>first | exact ⟨t+1,f2,by omega,by go_num,HS.out⟩ | ((repeat apply Exists.intro); refine ⟨⟨t+1,f2,by omega,by go_num,HS.out⟩,rfl⟩)
    case measure=>simp [intOf]; omega
  · obtain rfl:t=npc len:=by unfold npc; omega
    go_upto_region 7 with fail; refine wp_region_C (S:=fun w'=>Kr w (X+1) [(X,.u8,17,a),(T,.u8,17,byB (trimT k)),(w.heap.size,.u8,32,k)] [(w.heap.size+1,16)] w') 5 (by kernel_rfl) K.drew ?_; clear K; intro K
    refine rowC (i:=0) (some 31) rfl .u8 17 (a) (X) 0 131 _ _ rfl rfl (by kernel_rfl) rfl rfl rfl (by kernel_rfl) (by kernel_rfl) (by kernel_rfl) (by kernel_rfl) (fun _ _ _ h=>h) Tryz.underlying131 rfl (big_info _) K (fun _ h=>(h.get _ _ _ _ mS).range) ?_; simp only [aP,lI,l0,lS]; refine xpC 1 32 (.slice (some ⟨w.heap.size,16,none⟩) 16 16) K ?_
    refine xpC 2 33 (.pointer (some ⟨w.heap.size,16,none⟩)) K ?_; refine rowC (i:=3) (some 34) rfl .u8 16 (fun j=>k (16+j)) (w.heap.size) 16 89 _ _ rfl rfl (by kernel_rfl) rfl rfl rfl (by kernel_rfl) (by kernel_rfl) (by kernel_rfl) (by kernel_rfl) (fun _ _ _ h=>h) Tryz.underlying89 rfl (tag_info _) K (fun _ h=>(h.get _ _ _ _ (mI 2 rfl)).mid 16 16 (by decide)) ?_
    simp only [aP,lI,l0,lS]; refine callMC (i:=4) (some 35) rfl (by kernel_rfl) rfl rfl (fun _=>by kernel_rfl) (clow_any a (fun j=>k (16+j)) ha hk2 _ (hg.below K.below hg.size)) ?_; rintro e w9 ⟨f,rfl,s1,l⟩; replace K:=K.call l; clear l
    refine ⟨_,rfl,K,?_⟩
    simp only [aP,lI,l0,lS]
    have hz':=(K.room _ mS).1
    refine storesC (S2:=fun _=>True) none rfl .u8 16 f (w.heap.size+1) 89 _ _ (by kernel_rfl) rfl rfl rfl rfl rfl (room_of hz') (tag_info' _) (by kernel_rfl) ?_; simp only [Act.put]
    refine wpAnyH_done (by kernel_rfl) ?_ _
    have hB:=(K.fill _ _ mS (row .u8 16 f)).below; have HE:=show Hid _ from (And.intro s1.1 (show val 256 f 16=ptag k len z by rw [s1.2,hv]; rfl)); clear K s1 hv ha hlt ht g1; go_wp2
    exact bodyPost_ret (v:=(.agg (row .u8 16 (f)).toArray)) (results_row Tryz.results56 rfl (Has.all hz' .u8 f).range Tryz.underlying89 rfl (tag_info f)) rfl ⟨f,rfl,HE.out,hB⟩
theorem or_byte (d x y:Int) (hd:0≤d∧d<256) (hx:0≤x∧x<256) (hy:0≤y∧y<256) :
 (0≤bits .or .u8 d (bits .xor .u8 x y)∧bits .or .u8 d (bits .xor .u8 x y)<256)∧(bits .or .u8 d (bits .xor .u8 x y)=0↔d=0∧x=y):=by
 obtain ⟨d,rfl⟩:=xiN hd.1
 obtain ⟨x,rfl⟩:=xiN hx.1
 obtain ⟨y,rfl⟩:=xiN hy.1
 have h1:x ^^^ y<2^8:=Nat.xor_lt_two_pow (by omega) (by omega)
 have h2:d ||| (x ^^^ y)<2^8:=Nat.or_lt_two_pow (by omega) h1
 rw [u8_xor_nat x y (by omega) (by omega),u8_or_nat d _ (by omega) (by omega)]
 refine ⟨by omega,?_⟩
 have e:((d ||| (x ^^^ y):Nat):Int)=0↔d ||| (x ^^^ y)=0:=by omega
 have e2:x ^^^ y=0↔x=y:=by
  constructor
  · intro h
    have h':x ^^^ (x ^^^ y)=x:=by rw [h,Nat.xor_zero]
    rw [← Nat.xor_assoc,Nat.xor_self,Nat.zero_xor] at h'
    exact h'.symm
  · intro h; rw [h,Nat.xor_self]
 rw [e,Nat.or_eq_zero_iff,e2]
 omega
theorem orI {P:Program} {o:Oper} {a:Act} (k:IntKind) (n n' r:Int) (t t':TypeId) (x y:Operand) (ho:o.op=.binOp .or t x y t') (hx:a.eval x=.int k n) (hy:a.eval y=.int k n') (hr:bits .or k n n'=r) (w:World):(execOp a.eval o).run P w=.ok (.value (.int k r)) w:=by
 unfold execOp
 simp only [ho,hx,hy,Sem.run_bind,eqGuard_at_int,binOp_or,intBits_or,Sem.run_pure,Result.andThen_ok,hr]
theorem same_iff (a b:Nat→Int) (ha:In 256 16 a) (hb:In 256 16 b) (d:Int) (h:d=0↔∀ j,j<16→a j=b j):(d == 0)=decide (val 256 a 16=val 256 b 16):=by
 have e:d=0↔val 256 a 16=val 256 b 16:=h.trans ⟨fun h=>val_congr 256 16 h,fun h=>val_inj 256 (by decide) a b 16 ha hb h⟩
 by_cases hd:d=0
 · rw [decide_eq_true (e.1 hd),hd]; rfl
 · rw [decide_eq_false (fun h=>hd (e.2 h))]; simpa using hd
theorem psame_any:SameOK:=by
 intro a b ha hb w _; have K:=((Kr.init w).box .u8 16 a 89 (w.heap.size) rfl).box .u8 16 b 89 (w.heap.size+1) (by simp)
 go_enter Tryz.func67,Tryz.ntmps67
 go_upto_region 1 with fail; generalize ((w.alloc (.cells (row .u8 16 a).toArray 89)).alloc (.cells (row .u8 16 b).toArray 89))=w0 at K ⊢; go_wp2
 go_loopw [5,7] (fun so i w'=>∃ (m:Nat) (d:Int),m≤16∧i=.int .i64 m∧so=.int .u8 d∧Kr w (w.heap.size+1+1) [(w.heap.size+1,.u8,16,b),(w.heap.size,.u8,16,a)] [] w'∧(0≤d∧d<256)∧(d=0↔∀ j,j<m→a j=b j)) (fun _ i _=>16-(intOf i).toNat)
 case atStart=>exact ⟨0,0,by omega,rfl,rfl,K,by omega,by simp⟩
 case round =>
  clear K
  obtain ⟨m,d,hm,rfl,rfl,K,hd,hz⟩:=hrel
  have g1:(0:Int)≤(m:Int):=by omega
  by_cases hlt:m<16
  · have g2:(m:Int)<16:=by omega
    go_upto_region 5 with fail; refine wp_region_held_drew (S:=fun w'=>Kr w (w.heap.size+1+1) [(w.heap.size+1,.u8,16,b),(w.heap.size,.u8,16,a)] [] w') (by kernel_rfl) K.drew ?_; clear K; intro K; generalize wr.drew=w1 at K ⊢; refine xpH 0 10 (.int .u8 d) K ?_; refine xpH 1 11 (.int .i64 (m:Int)) K ?_
    refine xqH 2 12 rfl (.pointer (some ⟨w.heap.size,m,none⟩)) (fun w'=>idxTag (w.heap.size) m hlt w' _ _ rfl rfl rfl) K ?_; refine cellH (i:=3) (some 13) rfl .u8 (.int .u8 (a m)) (w.heap.size) m 5 _ rfl rfl rfl rfl (by kernel_rfl) (by kernel_rfl) (by kernel_rfl) (fun _ _ _ h=>h) Tryz.underlying5 K (fun _ h=>(h.get _ _ _ _ (mT _ mS)).cell m hlt) ?_; simp only [aP,lI,l0,lS]
    refine xpH 4 14 (.int .i64 (m:Int)) K ?_; refine xqH 5 15 rfl (.pointer (some ⟨w.heap.size+1,m,none⟩)) (fun w'=>idxTag (w.heap.size+1) m hlt w' _ _ rfl rfl rfl) K ?_
    refine cellH (i:=6) (some 16) rfl .u8 (.int .u8 (b m)) (w.heap.size+1) m 5 _ rfl rfl rfl rfl (by kernel_rfl) (by kernel_rfl) (by kernel_rfl) (fun _ _ _ h=>h) Tryz.underlying5 K (fun _ h=>(h.get _ _ _ _ mS).cell m hlt) ?_; simp only [aP,lI,l0,lS]; refine xqH 7 17 rfl (.int .u8 (bits .xor .u8 (a m) (b m))) (fun w=>xorI .u8 _ _ _ _ _ _ _ rfl rfl rfl rfl w) K ?_
    refine xqH 8 18 rfl (.int .u8 (bits .or .u8 d (bits .xor .u8 (a m) (b m)))) (fun w=>orI .u8 _ _ _ _ _ _ _ rfl rfl rfl rfl w) K ?_; refine xpH 9 5 (.int .u8 (bits .or .u8 d (bits .xor .u8 (a m) (b m)))) K ?_
    refine wpAnyH_done (by kernel_rfl) ?_ _
    have ho:=or_byte d (a m) (b m) hd (ha m hlt) (hb m hlt)
    have HS:=show Hid _ from (And.intro K (And.intro ho.1 (show bits .or .u8 d (bits .xor .u8 (a m) (b m))=0↔∀ j,j<m+1→a j=b j from by
     rw [ho.2,hz]
     constructor
     · intro h j hj
       by_cases e:j=m
       · subst e; exact h.2
       · exact h.1 j (by omega)
     · intro h
       exact ⟨fun j hj=>h j (by omega),h m (by omega)⟩)))
    clear K hz ho; generalize bits .or .u8 d (bits .xor .u8 (a m) (b m))=d2 at HS ⊢; go_wp2
    go_roundw
    case rel=>first | exact ⟨m+1,d2,by omega,by go_num,rfl,HS.out⟩ | ((repeat apply Exists.intro); refine ⟨⟨m+1,d2,by omega,by go_num,rfl,HS.out⟩,rfl⟩)
    case measure=>simp [intOf]; omega
  · obtain rfl:m=16:=by omega
    clear hlt hm g1; have hr:=same_iff a b ha hb d hz; have hB:=K.below; clear K hz; go_upto_region 7 with fail; refine wp_region_list ?_; refine xpL (.int .u8 d) ?_; refine xqL (.bool (decide (val 256 a 16=val 256 b 16))) (fun w=>eqlI .u8 _ _ _ _ _ _ rfl rfl rfl _ hr w) ?_; refine xpL (.bool (decide (val 256 a 16=val 256 b 16))) ?_; show Exit.then _ _ _ _ _; go_wp2; go_ret
    exact ⟨rfl,hB⟩
theorem byt_dig (x:Nat):∀ j,j<8→byt (x:Int) j=dig x j
 | 0,_=>by show (x:Int)%256=((x/1%256:Nat):Int); omega
 | 1,_=>by show (x:Int)/256%256=((x/256%256:Nat):Int); omega
 | 2,_=>by show (x:Int)/65536%256=((x/65536%256:Nat):Int); omega
 | 3,_=>by show (x:Int)/16777216%256=((x/16777216%256:Nat):Int); omega
 | 4,_=>by show (x:Int)/4294967296%256=((x/4294967296%256:Nat):Int); omega
 | 5,_=>by show (x:Int)/1099511627776%256=((x/1099511627776%256:Nat):Int); omega
 | 6,_=>by show (x:Int)/281474976710656%256=((x/281474976710656%256:Nat):Int); omega
 | 7,_=>by show (x:Int)/72057594037927936%256=((x/72057594037927936%256:Nat):Int); omega
 | _+8,h=>by omega
theorem cat3 (bl:Nat) (b:Nat→Int) (sl:Nat) (s:Nat→Int) (j:Nat):catz (pk3 (up16 bl) (up16 sl) 16) (pk3 (padz bl b) (padz sl s) (app (dig bl) 8 (dig sl))) 3 j=amx bl b sl s j:=by
 show app (app (app (fun _=>0) 0 (padz bl b)) (0+up16 bl) (padz sl s)) (0+up16 bl+up16 sl) (app (dig bl) 8 (dig sl)) j=_
 unfold amx
 generalize up16 bl=x; generalize up16 sl=y; simp only [app,Nat.zero_add,xnZ,if_false,Nat.sub_zero]
 by_cases h1:j<x+y
 · rw [if_pos h1,if_pos (show j<x+y+8 by omega),if_pos h1]
 · rw [if_neg h1]
   by_cases h2:j<x+y+8
   · rw [if_pos (by omega),if_pos h2,if_neg h1]
   · rw [if_neg (by omega),if_neg h2,show j-(x+y)-8=j-(x+y+8) by omega]
theorem once_any (k n:Nat→Int) (hk:In 256 32 k) (hn:In 256 12 n) (w:World) (hg:HGlob w) :
 Calls Tryz.prog 57 #[(.agg (row .u8 32 (k)).toArray),(.agg (row .u8 12 (n)).toArray)] w fun e w'=>e=.returned (.agg (row .u8 32 (hblk k 0 n)).toArray)∧Below w.heap.size w w':=by
 have K:=Kr.init w; replace K:=K.box .u8 32 k 23 (w.heap.size) rfl; replace K:=K.box .u8 12 n 75 (w.heap.size+1) (by simp); replace K:=K.make 32 zu8_32 23 (w.heap.size+1+1) (by simp) (key_zero _ _ _ (by simp)).there
 go_enter Tryz.func57,Tryz.ntmps57
 go_upto_region 1 with fail; generalize (((w.alloc (.cells (row .u8 32 k).toArray 23)).alloc (.cells (row .u8 12 n).toArray 75)).alloc (.cells zu8_32 23))=w0 at K ⊢; refine wp_region_list ?_; refine rowKL .u8 32 (k) (w.heap.size) 0 23 _ _ rfl rfl rfl Tryz.underlying23 rfl (key_info _) ((K.get _ _ _ _ (mT _ mS)).range) ?_; simp only [aP,lI,l0,lS]
 refine rowKL .u8 12 (n) (w.heap.size+1) 0 75 _ _ rfl rfl rfl Tryz.underlying75 rfl (hn_info _) ((K.get _ _ _ _ mS).range) ?_; simp only [aP,lI,l0,lS]; refine xcL (hblock_any k 0 n hk hn _ (hg.below K.below hg.size)) ?_; rintro e w1 ⟨rfl,l⟩; replace K:=K.call l; clear l; refine xeL ?_; refine allocL zu8_64 104 rfl (fun _=>by kernel_rfl) ?_; simp only [aP,lI,l0,lS]
 refine storesL .u8 64 (hblk k 0 n) w1.heap.size 104 _ _ rfl rfl rfl rfl (room_of (hb_zero _ _ _ rfl).there) (hb_info' _) ?_; simp only [Act.put]; have zX:=K.size; replace K:=K.fresh .u8 64 (hblk k 0 n) zu8_64 104 (hb_zero _ _ _ rfl).there; generalize ((w1.alloc (.cells zu8_64 104)).setCells w1.heap.size 0 (row .u8 64 (hblk k 0 n)))=w2 at K ⊢; generalize w1.heap.size=X at *
 show Exit.then _ _ _ _ _; go_upto_region 2 with fail; refine wp_region_list ?_; refine xpL (.slice (some ⟨X,0,none⟩) 32 64) ?_; refine xpL (.pointer (some ⟨X,0,none⟩)) ?_; refine rowKL .u8 32 (hblk k 0 n) X 0 23 _ _ rfl rfl rfl Tryz.underlying23 rfl (key_info _) ((K.get _ _ _ _ mS).head 32 (by decide)) ?_; simp only [aP,lI,l0,lS]
 have hz':=(K.room _ mS).1
 refine storesL .u8 32 (hblk k 0 n) (w.heap.size+1+1) 23 _ _ rfl rfl rfl rfl (room_of hz') (key_info' _) ?_; simp only [Act.put]; have hB:=(K.fill _ _ mS (row .u8 32 (hblk k 0 n))).below; clear K; generalize hGe:hblk k 0 n=G at *; show Exit.then _ _ _ _ _; go_wp2
 exact bodyPost_ret (v:=(.agg (row .u8 32 (G)).toArray)) (results_row Tryz.results57 rfl (Has.all hz' .u8 G).range Tryz.underlying23 rfl (key_info G)) rfl ⟨by first | rfl | rw [hGe] | (rw [← hGe]; done),hB⟩
theorem filled_any (sp:Option Addr) (len cap:Nat) (hlen:len≤140737488351232) (hcap:len≤cap) (z:Nat→Int) (w:World) (hs:Src w sp len z) :
 Calls Tryz.prog 58 #[.slice sp len cap] w fun e w'=>∃ sp' cap',e=.returned (.slice sp' (up16 len) cap')∧(up16 len≤cap'∧(sp'=none→cap'=0)∧Src w' sp' (up16 len) (padz len z))∧Below w.heap.size w w':=by
 have hu:up16 len=len+(16-len%16)%16:=by unfold up16; omega
 obtain ⟨q,hq1,hq2⟩:=cut_full (P:=Tryz.prog) (t:=29) (by kernel_rfl) (fun _=>by kernel_rfl) sp len cap hcap
 obtain ⟨p,c,w1,hr,hc,hp,hB,hn⟩:=run_append_full (P:=Tryz.prog) (w:=w) (ty:=29) Tryz.underlying29 Tryz.underlying3 one8 q len z (hq2 w z hs) ((16-len%16)%16) (by omega) (by omega)
 rw [hu]
 go_enter Tryz.func58,Tryz.ntmps58
 go_upto_region 1 with fail; refine wp_region_list ?_; refine xpL (.slice sp len cap) ?_; refine xpL (.slice sp len cap) ?_; refine xqL (.int .i64 (len:Int)) (fun w=>lenS _ 29 5 (sp) (len) (cap) rfl Tryz.underlying29 rfl w) ?_; refine xpL (.slice sp len cap) ?_; refine xqL (.int .i64 (len:Int)) (fun w=>lenS _ 29 5 (sp) (len) (cap) rfl Tryz.underlying29 rfl w) ?_
 refine xqL (.slice q len len) (fun w=>cutHMop _ _ _ _ _ _ _ _ rfl rfl rfl rfl (hq1 w)) ?_; refine xpL (.slice sp len cap) ?_; refine xqL (.int .i64 (len:Int)) (fun w=>lenS _ 29 5 (sp) (len) (cap) rfl Tryz.underlying29 rfl w) ?_
 refine xqL (.int .i64 ((len%16:Nat):Int)) (fun w=>remI .i64 _ _ _ _ _ _ _ rfl rfl rfl (by decide) (by rw [Int.tmod_eq_emod_of_nonneg (by omega)]; omega) w) ?_
 refine xqL (.int .i64 ((16-len%16:Nat):Int)) (fun w=>subI .i64 _ _ _ _ _ _ _ rfl rfl rfl (by rw [xw6]; omega) w) ?_
 refine xqL (.int .i64 (((16-len%16)%16:Nat):Int)) (fun w=>remI .i64 _ _ _ _ _ _ _ rfl rfl rfl (by decide) (by rw [Int.tmod_eq_emod_of_nonneg (by omega)]; omega) w) ?_
 refine xaL (.slice p (len+(16-len%16)%16) c) (appendNOp _ _ 29 3 _ _ _ rfl rfl rfl hr) ?_; refine xpL (.slice p (len+(16-len%16)%16) c) ?_; show Exit.then _ _ _ _ _; clear hr hq1 hq2 hu; go_wp2; go_ret
 exact ⟨p,c,rfl,⟨hc,hn,hp⟩,hB⟩
theorem tagOf_any (k n:Nat→Int) (hk:In 256 32 k) (hn:In 256 12 n) (bp:Option Addr) (bl bc:Nat) (hbl:bl≤140737488351232) (hbc:bl≤bc) (b:Nat→Int) (hb:In 256 bl b) (sp:Option Addr) (len cap:Nat) (hlen:len≤140737488351232) (hcap:len≤cap) (z:Nat→Int) (hz:In 256 len z) (w:World) (hg:AGlob w) (hsb:Src w bp bl b) (hs:Src w sp len z) :
 Calls Tryz.prog 37 #[(.agg (row .u8 32 (k)).toArray),(.agg (row .u8 12 (n)).toArray),.slice bp bl bc,.slice sp len cap] w fun e w'=>e=.returned (.agg (row .u8 16 (atag k n bl b len z)).toArray)∧Below w.heap.size w w':=by
 have K:=Kr.init w; replace K:=K.box .u8 32 k 23 (w.heap.size) rfl; replace K:=K.box .u8 12 n 75 (w.heap.size+1) (by simp); replace K:=K.make 16 zu8_16 89 (w.heap.size+1+1) (by simp) (tag_zero _ _ _ (by simp)).there; replace K:=K.boxO .u8 16 (fun _=>0) (.cells zu8_16 88) (w.heap.size+1+1+1) (by simp) (tag_zero _ _ _ (by simp))
 go_enter Tryz.func37,Tryz.ntmps37
 go_upto_region 2 with fail; generalize ((((w.alloc (.cells (row .u8 32 k).toArray 23)).alloc (.cells (row .u8 12 n).toArray 75)).alloc (.cells zu8_16 89)).alloc (.cells zu8_16 88))=w0 at K ⊢; refine wp_region_list ?_; refine xpL (.slice (some ⟨w.heap.size+1+1+1,0,none⟩) 16 16) ?_; refine xpL (.slice bp bl bc) ?_
 refine xqL (.int .i64 (bl:Int)) (fun w=>lenS _ 29 5 (bp) (bl) (bc) rfl Tryz.underlying29 rfl w) ?_; refine xqL (.int .u64 (bl:Int)) (fun w=>convI .i64 .u64 _ _ _ _ _ rfl (by kernel_rfl) Tryz.underlying107 (by kernel_rfl) rfl (by rw [IntKind.wrap_u64]; omega) w) ?_; refine xcL (put16_any (w.heap.size+1+1+1) 0 16 16 _ (bl:Int) (by decide) _ (K.get _ _ _ _ mS)) ?_
 rintro e w1 ⟨rfl,rfl⟩; replace K:=K.part [(w.heap.size+1,.u8,12,n),(w.heap.size,.u8,32,k)] (w.heap.size+1+1+1) .u8 16 _ 0 8 (by decide) (byt (bl:Int)) mS (fun p hp=>by rcases xc1 hp with rfl | hp; exact (mT _ mS); obtain rfl:=xm1 hp; exact (mI 2 rfl)) (fun p hp=>by rcases xc1 hp with rfl | hp; simp only; omega; obtain rfl:=xm1 hp; simp only; omega) (by omega)
 generalize w0.setCells (w.heap.size+1+1+1) 0 (row .u8 8 (byt (bl:Int)))=w1 at K ⊢; refine xeL ?_; show Exit.then _ _ _ _ _; go_upto_region 3 with fail; refine wp_region_list ?_; refine xpL (.slice (some ⟨w.heap.size+1+1+1,8,none⟩) 8 8) ?_; refine xpL (.slice sp len cap) ?_; refine xqL (.int .i64 (len:Int)) (fun w=>lenS _ 29 5 (sp) (len) (cap) rfl Tryz.underlying29 rfl w) ?_
 refine xqL (.int .u64 (len:Int)) (fun w=>convI .i64 .u64 _ _ _ _ _ rfl (by kernel_rfl) Tryz.underlying107 (by kernel_rfl) rfl (by rw [IntKind.wrap_u64]; omega) w) ?_; refine xcL (put_any (w.heap.size+1+1+1) 8 16 8 _ (len:Int) (by decide) _ (K.get _ _ _ _ mS)) ?_; rintro e w2 ⟨rfl,rfl⟩
 replace K:=K.part [(w.heap.size+1,.u8,12,n),(w.heap.size,.u8,32,k)] (w.heap.size+1+1+1) .u8 16 _ 8 8 (by decide) (byt (len:Int)) mS (fun p hp=>by rcases xc1 hp with rfl | hp; exact (mT _ mS); obtain rfl:=xm1 hp; exact (mI 2 rfl)) (fun p hp=>by rcases xc1 hp with rfl | hp; simp only; omega; obtain rfl:=xm1 hp; simp only; omega) (by omega)
 generalize w1.setCells (w.heap.size+1+1+1) 8 (row .u8 8 (byt (len:Int)))=w2 at K ⊢
 replace K:=K.headC (app (dig bl) 8 (dig len)) (fun j hj=>by
  unfold over app
  by_cases e:j<8
  · rw [if_neg (by omega),if_pos (by omega),if_pos e,Nat.sub_zero]; exact byt_dig bl j e
  · rw [if_pos (by omega),if_neg e]; exact byt_dig len (j-8) (by omega))
 refine xeL ?_; show Exit.then _ _ _ _ _; go_upto_region 4 with fail; refine wp_region_held_drew (S:=fun w'=>Kr w (w.heap.size+1+1+1+1) [(w.heap.size+1+1+1,.u8,16,(app (dig bl) 8 (dig len))),(w.heap.size+1,.u8,12,n),(w.heap.size,.u8,32,k)] [(w.heap.size+1+1,16)] w') (by kernel_rfl) K.drew ?_; clear K; intro K
 refine rowKH (i:=0) (some 20) rfl .u8 32 (k) (w.heap.size) 0 23 _ _ rfl rfl rfl rfl (by kernel_rfl) (by kernel_rfl) (by kernel_rfl) (fun _ _ _ h=>h) Tryz.underlying23 rfl (key_info _) K (fun _ h=>(h.get _ _ _ _ (mI 2 rfl)).range) ?_; simp only [aP,lI,l0,lS]
 refine rowKH (i:=1) (some 21) rfl .u8 12 (n) (w.heap.size+1) 0 75 _ _ rfl rfl rfl rfl (by kernel_rfl) (by kernel_rfl) (by kernel_rfl) (fun _ _ _ h=>h) Tryz.underlying75 rfl (hn_info _) K (fun _ h=>(h.get _ _ _ _ (mT _ mS)).range) ?_; simp only [aP,lI,l0,lS]; refine xpH 3 23 (.slice bp bl bc) K ?_; refine xpH 5 25 (.slice sp len cap) K ?_
 refine xpH 7 27 (.slice (some ⟨w.heap.size+1+1+1,0,none⟩) 16 16) K ?_; refine callH (i:=2) (some 22) rfl (by kernel_rfl) rfl rfl (fun _=>by kernel_rfl) (once_any k n hk hn _ (hg.h.below K.below hg.size)) ?_; rintro e w3 ⟨rfl,l⟩; replace K:=K.call l; clear l
 refine ⟨_,rfl,K,?_⟩
 simp only [aP,lI,l0,lS]; refine callH (i:=4) (some 24) rfl (by kernel_rfl) rfl rfl (fun _=>by kernel_rfl) (filled_any bp bl bc hbl hbc b _ (hsb.below K.below (xnR _))) ?_; rintro e w4 ⟨p1,c1,rfl,⟨_,n1,S1⟩,l⟩; replace K:=K.call l; clear l
 refine ⟨_,rfl,K,?_⟩
 simp only [aP,lI,l0,lS]; refine callH (i:=6) (some 26) rfl (by kernel_rfl) rfl rfl (fun _=>by kernel_rfl) (filled_any sp len cap hlen hcap z _ (hs.below K.below (xnR _))) ?_; rintro e w5 ⟨p2,c2,rfl,⟨_,n2,S2⟩,l⟩; replace K:=K.call l; replace S1:=S1.below l (xnR _); clear l
 refine ⟨_,rfl,K,?_⟩
 simp only [aP,lI,l0,lS]; have HC:=catIn3 w5.heap.size p1 p2 (some ⟨w.heap.size+1+1+1,0,none⟩) (up16 bl) (up16 len) 16 c1 c2 16 (padz bl b) (padz len z) (app (dig bl) 8 (dig len)) 29 rfl S1 S2 (K.get _ _ _ _ mS).src0 n1 n2 (fun e=>by cases e)
 replace K:=K.call ((Below.refl w5.heap.size w5).alloc (xnR _) (.cells #[.slice p1 (up16 bl) c1,.slice p2 (up16 len) c2,.slice (some ⟨w.heap.size+1+1+1,0,none⟩) 16 16] 29))
 refine actH (i:=8) (w':=w5.alloc (.cells #[.slice p1 (up16 bl) c1,.slice p2 (up16 len) c2,.slice (some ⟨w.heap.size+1+1+1,0,none⟩) 16 16] 29)) (some 28) rfl (.slice (some ⟨w5.heap.size,0,none⟩) 3 3) (by kernel_rfl) rfl rfl (by kernel_rfl) K ?_; simp only [aP,lI,l0,lS]
 generalize (w5.alloc (.cells #[.slice p1 (up16 bl) c1,.slice p2 (up16 len) c2,.slice (some ⟨w.heap.size+1+1+1,0,none⟩) 16 16] 29))=w6 at K HC ⊢; generalize w5.heap.size=C at HC ⊢; clear S1 S2
 have u1:up16 bl≤140737488351232:=by unfold up16; omega
 have u2:up16 len≤140737488351232:=by unfold up16; omega
 refine callH (i:=9) (some 29) rfl (by kernel_rfl) rfl rfl (fun _=>by kernel_rfl) (concat_any ⟨C,0,none⟩ 3 3 _ _ _ _ (by decide) (by rw [tot3]; omega) _ HC) ?_; rintro e w7 ⟨v,rfl,O,l⟩; replace K:=K.call l; clear l HC
 rw [tot3] at O
 replace O:=O.congr (fun j _=>cat3 bl b len z j)
 obtain ⟨p3,c3,rfl,hc3,S3⟩:=O.bytes
 refine ⟨_,rfl,K,?_⟩
 simp only [aP,lI,l0,lS]
 have hA:up16 bl+up16 len+16=amt bl len:=by unfold amt; omega
 rw [hA] at hc3 S3 ⊢
 have hA2:amt bl len≤281474976710656:=by omega
 clear O hA u1 u2; refine callH (i:=10) (some 30) rfl (by kernel_rfl) rfl rfl (fun _=>by kernel_rfl) (psum_any (hblk k 0 n) (hblk_in k 0 n 32) p3 (amt bl len) c3 hA2 hc3 _ (amx_in bl b len z hb hz) _ (hg.c.below K.below hg.size) S3) ?_; rintro e w8 ⟨f,rfl,⟨hf1,hf2⟩,l⟩; replace K:=K.call l; clear l S3
 rw [row_congr .u8 16 (tag_is hf1 hf2)]
 clear hf1 hf2
 refine ⟨_,rfl,K,?_⟩
 simp only [aP,lI,l0,lS]
 have hz':=(K.room _ mS).1
 refine storesH (i:=11) none rfl .u8 16 (atag k n bl b len z) (w.heap.size+1+1) 89 _ _ (by kernel_rfl) rfl rfl rfl rfl rfl (room_of hz') (tag_info' _) (K.fill _ _ mS _) ?_; simp only [Act.put]
 refine wpAnyH_done (by kernel_rfl) ?_ _
 have hB:=(K.fill _ _ mS (row .u8 16 (atag k n bl b len z))).below; clear K; generalize hGe:atag k n bl b len z=G at *; go_wp2
 exact bodyPost_ret (v:=(.agg (row .u8 16 (G)).toArray)) (results_row Tryz.results37 rfl (Has.all hz' .u8 G).range Tryz.underlying89 rfl (tag_info G)) rfl ⟨by first | rfl | rw [hGe] | (rw [← hGe]; done),hB⟩
end Go.Proofs.YtknodedhcdpbiaaGreatDoor
