/- Texts of Xq Xe Xr Vo, joined. -/
import Derived.Test.YtknodedhcdpbiaaGreatDoorP10GuardEnds
set_option maxRecDepth 20000
set_option maxHeartbeats 64000000
namespace Go.Proofs.YtknodedhcdpbiaaGreatDoor
open Go.RowKit
theorem vputfixed_good (sp:Option Addr) (cap:Nat) (l:List Int) (hlen:l.length≤140737488351232) (hcap:l.length≤cap) (hnil:sp=none→cap=0) (hb:Byts l) (n:Int) (s:Nat) (hs1:1≤s) (hs7:s≤7) (h0:0≤n) (hn:n.toNat<256^s) (w:World) (hs:Src w sp l.length (bl l)) :
 Calls Tryz.prog 59 #[.slice sp l.length cap,.int .i64 n,.int .i64 (s:Int)] w fun e w'=>∃ v,e=.returned (.tuple #[v,.int .i64 0])∧OwnL w' w.heap.size (l++flst n.toNat s) v∧Below w.heap.size w w':=by
 have h7:(256:Nat)^s≤256^7:=Nat.pow_le_pow_right (by decide) hs7
 have hc:((256^s:Nat):Int)=(256:Int)^s:=by simp
 have hq:¬ fbad n (s:Int):=by unfold fbad; rw [Int.toNat_natCast,← hc]; omega
 refine (vputfixed_any sp l.length cap hlen hcap hnil (bl l) hb.bl n (by omega) s (by omega) w hs).mono fun e w' h=>?_
 obtain ⟨⟨v,rfl,O⟩,l1⟩:=h
 refine ⟨v,by unfold fE; rw [if_neg hq],?_,l1⟩
 unfold fL fput at O
 rw [if_neg hq,Int.toNat_natCast] at O
 exact OwnL.fix O
def pnum (p:Pkt):Nat→Int
 | 0=>p.kind
 | 1=>p.role
 | 2=>p.path
 | 3=>p.epo
 | _=>p.ctr
def pszn:Nat→Nat
 | 3=>2
 | 4=>6
 | _=>1
def hpre (p:Pkt):Nat→List Int
 | 0=>[]
 | j+1=>hpre p j++flst (pnum p j).toNat (pszn j)
theorem flst_one {n:Int} (h:0≤n∧n<256):flst n.toNat 1=[n]:=by
 show [fby n.toNat 1 0]=[n]
 unfold fby
 congr 1
 simp
 omega
theorem hpre_end {p:Pkt} (hk:p.kind=3) (hR:Rec p):hpre p 5=hdr p:=by
 obtain ⟨r1,r2,_⟩:=hR
 show ((((([]++flst p.kind.toNat 1)++flst p.role.toNat 1)++flst p.path.toNat 1)++flst p.epo.toNat 2)++flst p.ctr.toNat 6)=_
 rw [hk,flst_one (n:=3) (by decide),flst_one (n:=p.role) (by omega),flst_one (n:=p.path) (by omega)]
 rfl
theorem hpre_byts (p:Pkt):∀ j,Byts (hpre p j)
 | 0=>fun x hx=>by cases hx
 | j+1=>(hpre_byts p j).app (flst_byts _ _)
theorem hpre_len (p:Pkt):∀ j,(hpre p j).length≤6*j
 | 0=>xnR _
 | j+1=>by
   have h1:=hpre_len p j
   have h2:pszn j≤6:=by unfold pszn; split <;> omega
   show (hpre p j++_).length≤_
   rw [List.length_append,flst_length]
   omega
theorem Mm.newL {w0 w:World} {l:List (Nat × List Value)} (h:Mm w0 l w) {b:Nat} {cs:List Value} (hp:(b,cs)∈l) (bs:List Int) (hc:cs=bs.map (Value.int .u8)):NewL w w0.heap.size bs (.slice (some ⟨b,0,none⟩) bs.length bs.length) :=
 ⟨_,_,rfl,xnR _,fun e=>(by cases e),h.src hp bs hc,fun a e=>by cases e; exact ⟨h.lo hp,h.lt hp⟩⟩
theorem phead_any (p:Pkt) (bp:Option Addr) (bc:Nat) (w:World) (hg:PG w) (hk:p.kind=3) (hR:Rec p):Calls Tryz.prog 39 #[.agg (pcs p bp bc).toArray] w fun e w'=>e=.returned (.agg (row .u8 11 (bl (hdr p))).toArray)∧Below w.heap.size w w':=by
 have M:=Mm.init w; have hrec:=hR
 obtain ⟨r1,r2,r3,r4,_⟩:=hrec
 unfold pcs
 go_enter Tryz.func39,Tryz.ntmps39
 go_upto_region 0 with fail; refine wp_region_list ?_; refine actL (w':=w.alloc (.cells #[.int .i64 p.kind,.int .i64 p.role,.int .i64 p.path,.int .i64 p.epo,.int .i64 p.ctr,.slice bp p.body.length bc] 70)) (.pointer (some ⟨w.heap.size,0,none⟩)) rfl (by kernel_rfl) ?_; simp only [aP,lI,l0,lS]
 have hB_B1:w.heap.size≤w.heap.size:=M.below.size
 replace M:=M.box #[.int .i64 p.kind,.int .i64 p.role,.int .i64 p.path,.int .i64 p.epo,.int .i64 p.ctr,.slice bp p.body.length bc] 70 w.heap.size rfl; generalize w.alloc (.cells #[.int .i64 p.kind,.int .i64 p.role,.int .i64 p.path,.int .i64 p.epo,.int .i64 p.ctr,.slice bp p.body.length bc] 70)=w1 at M  ⊢; generalize eB:w.heap.size=B1 at M hB_B1  ⊢
 have hE_B1:w.heap.size≤B1:=Nat.le_of_eq eB
 have hF_B1:B1≤w.heap.size:=Nat.le_of_eq eB.symm
 clear eB
 replace M:Mm w ([(B1,[.int .i64 p.kind,.int .i64 p.role,.int .i64 p.path,.int .i64 p.epo,.int .i64 p.ctr,.slice bp p.body.length bc])]) w1:=M
 refine actL (w':=w1.alloc (.cells zu8_11 92)) (.pointer (some ⟨w1.heap.size,0,none⟩)) rfl (by kernel_rfl) ?_; simp only [aP,lI,l0,lS]
 have hB_B2:w.heap.size≤w1.heap.size:=M.below.size
 replace M:=M.box zu8_11 92 w1.heap.size rfl; generalize w1.alloc (.cells zu8_11 92)=w2 at M  ⊢; generalize eB:w1.heap.size=B2 at M hB_B2  ⊢
 have hE_B2:w1.heap.size≤B2:=Nat.le_of_eq eB
 have hF_B2:B2≤w1.heap.size:=Nat.le_of_eq eB.symm
 clear eB
 replace M:Mm w ([(B2,[.int .u8 0,.int .u8 0,.int .u8 0,.int .u8 0,.int .u8 0,.int .u8 0,.int .u8 0,.int .u8 0,.int .u8 0,.int .u8 0,.int .u8 0]),(B1,[.int .i64 p.kind,.int .i64 p.role,.int .i64 p.path,.int .i64 p.epo,.int .i64 p.ctr,.slice bp p.body.length bc])]) w2:=M
 refine xT ?_; go_upto_region 1 with fail; refine wp_region_list ?_; refine xpL (.slice none 0 0) ?_; refine xT ?_; go_upto_region 2 with fail; refine wp_region_list ?_; refine xpL (.pointer (some ⟨B1,0,none⟩)) ?_; refine xaL (.int .i64 p.kind) (load1 3 _ ⟨B1,0,none⟩ _ rfl rfl (fun _=>by kernel_rfl) (M.get (mT _ mS) 0 _ rfl)) ?_; refine xpL (.pointer (some ⟨B1,1,none⟩)) ?_
 refine xaL (.int .i64 p.role) (load1 3 _ ⟨B1,1,none⟩ _ rfl rfl (fun _=>by kernel_rfl) (M.get (mT _ mS) 1 _ rfl)) ?_; refine xpL (.pointer (some ⟨B1,2,none⟩)) ?_; refine xaL (.int .i64 p.path) (load1 3 _ ⟨B1,2,none⟩ _ rfl rfl (fun _=>by kernel_rfl) (M.get (mT _ mS) 2 _ rfl)) ?_; refine xpL (.pointer (some ⟨B1,3,none⟩)) ?_
 refine xaL (.int .i64 p.epo) (load1 3 _ ⟨B1,3,none⟩ _ rfl rfl (fun _=>by kernel_rfl) (M.get (mT _ mS) 3 _ rfl)) ?_; refine xpL (.pointer (some ⟨B1,4,none⟩)) ?_; refine xaL (.int .i64 p.ctr) (load1 3 _ ⟨B1,4,none⟩ _ rfl rfl (fun _=>by kernel_rfl) (M.get (mT _ mS) 4 _ rfl)) ?_; refine xpL (.agg #[.int .i64 p.kind,.int .i64 p.role,.int .i64 p.path,.int .i64 p.epo,.int .i64 p.ctr]) ?_
 refine xpL (.int .i64 0) ?_; refine xT ?_; have HI:=show Hid _ from (show Mm w [(B2,[.int .u8 0,.int .u8 0,.int .u8 0,.int .u8 0,.int .u8 0,.int .u8 0,.int .u8 0,.int .u8 0,.int .u8 0,.int .u8 0,.int .u8 0]),(B1,[.int .i64 p.kind,.int .i64 p.role,.int .i64 p.path,.int .i64 p.epo,.int .i64 p.ctr,.slice bp p.body.length bc])] w2 from M); clear M; go_wp2
 go_loopw [3,18] (fun v i w'=>∃ j:Nat,j≤5∧i=.int .i64 (j:Int)∧Mm w [(B2,[.int .u8 0,.int .u8 0,.int .u8 0,.int .u8 0,.int .u8 0,.int .u8 0,.int .u8 0,.int .u8 0,.int .u8 0,.int .u8 0,.int .u8 0]),(B1,[.int .i64 p.kind,.int .i64 p.role,.int .i64 p.path,.int .i64 p.epo,.int .i64 p.ctr,.slice bp p.body.length bc])] w'∧OwnL w' w.heap.size (hpre p j) v) (fun _ i _=>5-(intOf i).toNat)
 case atStart=>exact ⟨0,Nat.zero_le _,rfl,HI.out,World.ownsRow_nil _ _ _ 1⟩
 case round =>
  clear HI
  obtain ⟨j,hj,rfl,M,O_1⟩:=hrel
  obtain ⟨p1,c1,rfl,_,_⟩:=O_1.bytes
  have hj6:j=0∨j=1∨j=2∨j=3∨j=4∨j=5:=by omega
  clear hj
  rcases hj6 with rfl | rfl | rfl | rfl | rfl | rfl
  · go_upto_region 3 with fail
    refine wp_region_list ?_; refine xaL (.bool true) (lssI .i64 _ _ _ _ _ _ rfl rfl rfl true (by decide) _) ?_; refine xT ?_; go_upto_region 4 with fail; refine wp_region_list ?_; refine xpL (.int .i64 ((0:Nat):Int)) ?_; refine xpL (.int .i64 p.kind) ?_; refine xpL (.int .i64 ((0:Nat):Int)) ?_; refine xpL (.int .i64 p.kind) ?_; refine xT ?_; go_upto_region 5 with fail
    refine wp_region_list ?_; refine xpL (.slice p1 ((hpre p 0).length) c1) ?_; refine xpL (.int .i64 p.kind) ?_; refine xpL (.int .i64 ((0:Nat):Int)) ?_; refine xpL (.pointer (some (⟨0,0,none⟩:Addr))) ?_; refine xaL (.int .i64 ((1:Nat):Int)) (load1 3 _ (⟨0,0,none⟩:Addr) _ rfl rfl (fun _=>by kernel_rfl) (((hg.mm M).sz 0 (by decide)))) ?_
    refine xcL (vputfixed_good p1 c1 (hpre p 0) (xnT (hpre_len p 0) (by decide)) O_1.le O_1.nilCap (hpre_byts p 0) p.kind 1 (by decide) (by decide) (by omega) (by omega) _ O_1.src) ?_; rintro e w3 ⟨v,rfl,O_2,l⟩
    replace O_2:OwnL w3 w.heap.size (hpre p 1) v:=O_2.lower M.below.size
    replace M:=M.call l; clear l O_1; refine xeL ?_; refine xpL (.tuple #[v,.int .i64 0]) ?_; refine xpL (v) ?_; refine xpL (.int .i64 0) ?_; refine xpL (v) ?_; refine xT ?_; have HS:=show Hid _ from (And.intro M O_2); clear M O_2; go_wp2
    go_roundw
    case rel=>first | exact ⟨1,by decide,by go_num,HS.out⟩ | ((repeat apply Exists.intro); refine ⟨⟨1,by decide,?_,HS.out⟩,rfl⟩ <;> first | rfl | go_num)
    case measure=>simp [intOf]
  · go_upto_region 3 with fail
    refine wp_region_list ?_; refine xaL (.bool true) (lssI .i64 _ _ _ _ _ _ rfl rfl rfl true (by decide) _) ?_; refine xT ?_; go_upto_region 4 with fail; refine wp_region_list ?_; refine xpL (.int .i64 ((1:Nat):Int)) ?_; refine xpL (.int .i64 p.role) ?_; refine xpL (.int .i64 ((1:Nat):Int)) ?_; refine xpL (.int .i64 p.role) ?_; refine xT ?_; go_upto_region 5 with fail
    refine wp_region_list ?_; refine xpL (.slice p1 ((hpre p 1).length) c1) ?_; refine xpL (.int .i64 p.role) ?_; refine xpL (.int .i64 ((1:Nat):Int)) ?_; refine xpL (.pointer (some (⟨0,1,none⟩:Addr))) ?_; refine xaL (.int .i64 ((1:Nat):Int)) (load1 3 _ (⟨0,1,none⟩:Addr) _ rfl rfl (fun _=>by kernel_rfl) (((hg.mm M).sz 1 (by decide)))) ?_
    refine xcL (vputfixed_good p1 c1 (hpre p 1) (xnT (hpre_len p 1) (by decide)) O_1.le O_1.nilCap (hpre_byts p 1) p.role 1 (by decide) (by decide) (by omega) (by omega) _ O_1.src) ?_; rintro e w4 ⟨v,rfl,O_2,l⟩
    replace O_2:OwnL w4 w.heap.size (hpre p 2) v:=O_2.lower M.below.size
    replace M:=M.call l; clear l O_1; refine xeL ?_; refine xpL (.tuple #[v,.int .i64 0]) ?_; refine xpL (v) ?_; refine xpL (.int .i64 0) ?_; refine xpL (v) ?_; refine xT ?_; have HS:=show Hid _ from (And.intro M O_2); clear M O_2; go_wp2
    go_roundw
    case rel=>first | exact ⟨2,by decide,by go_num,HS.out⟩ | ((repeat apply Exists.intro); refine ⟨⟨2,by decide,?_,HS.out⟩,rfl⟩ <;> first | rfl | go_num)
    case measure=>simp [intOf]
  · go_upto_region 3 with fail
    refine wp_region_list ?_; refine xaL (.bool true) (lssI .i64 _ _ _ _ _ _ rfl rfl rfl true (by decide) _) ?_; refine xT ?_; go_upto_region 4 with fail; refine wp_region_list ?_; refine xpL (.int .i64 ((2:Nat):Int)) ?_; refine xpL (.int .i64 p.path) ?_; refine xpL (.int .i64 ((2:Nat):Int)) ?_; refine xpL (.int .i64 p.path) ?_; refine xT ?_; go_upto_region 5 with fail
    refine wp_region_list ?_; refine xpL (.slice p1 ((hpre p 2).length) c1) ?_; refine xpL (.int .i64 p.path) ?_; refine xpL (.int .i64 ((2:Nat):Int)) ?_; refine xpL (.pointer (some (⟨0,2,none⟩:Addr))) ?_; refine xaL (.int .i64 ((1:Nat):Int)) (load1 3 _ (⟨0,2,none⟩:Addr) _ rfl rfl (fun _=>by kernel_rfl) (((hg.mm M).sz 2 (by decide)))) ?_
    refine xcL (vputfixed_good p1 c1 (hpre p 2) (xnT (hpre_len p 2) (by decide)) O_1.le O_1.nilCap (hpre_byts p 2) p.path 1 (by decide) (by decide) (by omega) (by omega) _ O_1.src) ?_; rintro e w5 ⟨v,rfl,O_2,l⟩
    replace O_2:OwnL w5 w.heap.size (hpre p 3) v:=O_2.lower M.below.size
    replace M:=M.call l; clear l O_1; refine xeL ?_; refine xpL (.tuple #[v,.int .i64 0]) ?_; refine xpL (v) ?_; refine xpL (.int .i64 0) ?_; refine xpL (v) ?_; refine xT ?_; have HS:=show Hid _ from (And.intro M O_2); clear M O_2; go_wp2
    go_roundw
    case rel=>first | exact ⟨3,by decide,by go_num,HS.out⟩ | ((repeat apply Exists.intro); refine ⟨⟨3,by decide,?_,HS.out⟩,rfl⟩ <;> first | rfl | go_num)
    case measure=>simp [intOf]
  · go_upto_region 3 with fail
    refine wp_region_list ?_; refine xaL (.bool true) (lssI .i64 _ _ _ _ _ _ rfl rfl rfl true (by decide) _) ?_; refine xT ?_; go_upto_region 4 with fail; refine wp_region_list ?_; refine xpL (.int .i64 ((3:Nat):Int)) ?_; refine xpL (.int .i64 p.epo) ?_; refine xpL (.int .i64 ((3:Nat):Int)) ?_; refine xpL (.int .i64 p.epo) ?_; refine xT ?_; go_upto_region 5 with fail
    refine wp_region_list ?_; refine xpL (.slice p1 ((hpre p 3).length) c1) ?_; refine xpL (.int .i64 p.epo) ?_; refine xpL (.int .i64 ((3:Nat):Int)) ?_; refine xpL (.pointer (some (⟨0,3,none⟩:Addr))) ?_; refine xaL (.int .i64 ((2:Nat):Int)) (load1 3 _ (⟨0,3,none⟩:Addr) _ rfl rfl (fun _=>by kernel_rfl) (((hg.mm M).sz 3 (by decide)))) ?_
    refine xcL (vputfixed_good p1 c1 (hpre p 3) (xnT (hpre_len p 3) (by decide)) O_1.le O_1.nilCap (hpre_byts p 3) p.epo 2 (by decide) (by decide) (by omega) (by omega) _ O_1.src) ?_; rintro e w6 ⟨v,rfl,O_2,l⟩
    replace O_2:OwnL w6 w.heap.size (hpre p 4) v:=O_2.lower M.below.size
    replace M:=M.call l; clear l O_1; refine xeL ?_; refine xpL (.tuple #[v,.int .i64 0]) ?_; refine xpL (v) ?_; refine xpL (.int .i64 0) ?_; refine xpL (v) ?_; refine xT ?_; have HS:=show Hid _ from (And.intro M O_2); clear M O_2; go_wp2
    go_roundw
    case rel=>first | exact ⟨4,by decide,by go_num,HS.out⟩ | ((repeat apply Exists.intro); refine ⟨⟨4,by decide,?_,HS.out⟩,rfl⟩ <;> first | rfl | go_num)
    case measure=>simp [intOf]
  · go_upto_region 3 with fail
    refine wp_region_list ?_; refine xaL (.bool true) (lssI .i64 _ _ _ _ _ _ rfl rfl rfl true (by decide) _) ?_; refine xT ?_; go_upto_region 4 with fail; refine wp_region_list ?_; refine xpL (.int .i64 ((4:Nat):Int)) ?_; refine xpL (.int .i64 p.ctr) ?_; refine xpL (.int .i64 ((4:Nat):Int)) ?_; refine xpL (.int .i64 p.ctr) ?_; refine xT ?_; go_upto_region 5 with fail
    refine wp_region_list ?_; refine xpL (.slice p1 ((hpre p 4).length) c1) ?_; refine xpL (.int .i64 p.ctr) ?_; refine xpL (.int .i64 ((4:Nat):Int)) ?_; refine xpL (.pointer (some (⟨0,4,none⟩:Addr))) ?_; refine xaL (.int .i64 ((6:Nat):Int)) (load1 3 _ (⟨0,4,none⟩:Addr) _ rfl rfl (fun _=>by kernel_rfl) (((hg.mm M).sz 4 (by decide)))) ?_
    refine xcL (vputfixed_good p1 c1 (hpre p 4) (xnT (hpre_len p 4) (by decide)) O_1.le O_1.nilCap (hpre_byts p 4) p.ctr 6 (by decide) (by decide) (by omega) (by omega) _ O_1.src) ?_; rintro e w7 ⟨v,rfl,O_2,l⟩
    replace O_2:OwnL w7 w.heap.size (hpre p 5) v:=O_2.lower M.below.size
    replace M:=M.call l; clear l O_1; refine xeL ?_; refine xpL (.tuple #[v,.int .i64 0]) ?_; refine xpL (v) ?_; refine xpL (.int .i64 0) ?_; refine xpL (v) ?_; refine xT ?_; have HS:=show Hid _ from (And.intro M O_2); clear M O_2; go_wp2
    go_roundw
    case rel=>first | exact ⟨5,by decide,by go_num,HS.out⟩ | ((repeat apply Exists.intro); refine ⟨⟨5,by decide,?_,HS.out⟩,rfl⟩ <;> first | rfl | go_num)
    case measure=>simp [intOf]
  · have O_2:Own wr w.heap.size 5 .u8 11 (bl (hdr p)) (.slice p1 (hpre p 5).length c1):=by have h:=O_1; rw [hpre_end hk hR] at h; rw [hpre_end hk hR]; unfold OwnL at h; rw [hdr_length] at h ⊢; exact h
    clear O_1
    rw [hpre_end hk hR,hdr_length] at O_2 ⊢
    go_upto_region 3 with fail; refine wp_region_list ?_; refine xaL (.bool false) (lssI .i64 _ _ _ _ _ _ rfl rfl rfl false (by decide) _) ?_; refine xT ?_; go_upto_region 7 with fail; refine wp_region_list ?_; refine actL (w':=wr.alloc (.cells zu8_11 92)) (.pointer (some ⟨wr.heap.size,0,none⟩)) rfl (by kernel_rfl) ?_; simp only [aP,lI,l0,lS]
    have hlb:=(Below.refl wr.heap.size wr).alloc (xnR _) (.cells zu8_11 92); replace O_2:=O_2.below hlb; clear hlb
    have hB_B8:w.heap.size≤wr.heap.size:=M.below.size
    replace M:=M.box zu8_11 92 wr.heap.size rfl; generalize wr.alloc (.cells zu8_11 92)=w8 at M O_2 ⊢; generalize eB:wr.heap.size=B8 at M hB_B8  ⊢
    have hE_B8:wr.heap.size≤B8:=Nat.le_of_eq eB
    have hF_B8:B8≤wr.heap.size:=Nat.le_of_eq eB.symm
    clear eB
    replace M:Mm w ([(B8,[.int .u8 0,.int .u8 0,.int .u8 0,.int .u8 0,.int .u8 0,.int .u8 0,.int .u8 0,.int .u8 0,.int .u8 0,.int .u8 0,.int .u8 0]),(B2,[.int .u8 0,.int .u8 0,.int .u8 0,.int .u8 0,.int .u8 0,.int .u8 0,.int .u8 0,.int .u8 0,.int .u8 0,.int .u8 0,.int .u8 0]),(B1,[.int .i64 p.kind,.int .i64 p.role,.int .i64 p.path,.int .i64 p.epo,.int .i64 p.ctr,.slice bp p.body.length bc])]) w8:=M
    refine xT ?_; go_upto_region 8 with fail; refine wp_region_list ?_; refine xpL (.slice (some ⟨B8,0,none⟩) 11 11) ?_; refine xpL (.slice p1 11 c1) ?_
    refine actL (w':=w8.setCells B8 0 (row .u8 11 (bl (hdr p)))) (.int .i64 11) rfl (run_copy_src _ _ 29 29 5 rfl Tryz.underlying29 (by kernel_rfl) B8 11 11 11 c1 11 p1 (bl (hdr p)) rfl rfl (xnR _) (xnR _) (M.thereP mS 0 11 (Nat.le_of_ble_eq_true rfl)) O_2.src) ?_; simp only [aP,lI,l0,lS]
    replace M:Mm w ([(B8,[.int .u8 (bl (hdr p) 0),.int .u8 (bl (hdr p) 1),.int .u8 (bl (hdr p) 2),.int .u8 (bl (hdr p) 3),.int .u8 (bl (hdr p) 4),.int .u8 (bl (hdr p) 5),.int .u8 (bl (hdr p) 6),.int .u8 (bl (hdr p) 7),.int .u8 (bl (hdr p) 8),.int .u8 (bl (hdr p) 9),.int .u8 (bl (hdr p) 10)]),(B2,[.int .u8 0,.int .u8 0,.int .u8 0,.int .u8 0,.int .u8 0,.int .u8 0,.int .u8 0,.int .u8 0,.int .u8 0,.int .u8 0,.int .u8 0]),(B1,[.int .i64 p.kind,.int .i64 p.role,.int .i64 p.path,.int .i64 p.epo,.int .i64 p.ctr,.slice bp p.body.length bc])]) _:=M.setPart (row .u8 11 (bl (hdr p))) 0 (Nat.le_of_ble_eq_true rfl)
    clear O_2; generalize w8.setCells B8 0 (row .u8 11 (bl (hdr p)))=w9 at M ⊢; refine xT ?_; go_upto_region 9 with fail; refine wp_region_list ?_
    refine xaL (.agg #[.int .u8 (bl (hdr p) 0),.int .u8 (bl (hdr p) 1),.int .u8 (bl (hdr p) 2),.int .u8 (bl (hdr p) 3),.int .u8 (bl (hdr p) 4),.int .u8 (bl (hdr p) 5),.int .u8 (bl (hdr p) 6),.int .u8 (bl (hdr p) 7),.int .u8 (bl (hdr p) 8),.int .u8 (bl (hdr p) 9),.int .u8 (bl (hdr p) 10)]) (loadN 92 _ ⟨B8,0,none⟩ [.int .u8 (bl (hdr p) 0),.int .u8 (bl (hdr p) 1),.int .u8 (bl (hdr p) 2),.int .u8 (bl (hdr p) 3),.int .u8 (bl (hdr p) 4),.int .u8 (bl (hdr p) 5),.int .u8 (bl (hdr p) 6),.int .u8 (bl (hdr p) 7),.int .u8 (bl (hdr p) 8),.int .u8 (bl (hdr p) 9),.int .u8 (bl (hdr p) 10)] rfl rfl (fun _=>by kernel_rfl) (fun _=>by kernel_rfl) (M.rangeAt mS)) ?_
    replace M:=M.swap
    refine skipOpL rfl (storeP [.int .u8 (bl (hdr p) 0),.int .u8 (bl (hdr p) 1),.int .u8 (bl (hdr p) 2),.int .u8 (bl (hdr p) 3),.int .u8 (bl (hdr p) 4),.int .u8 (bl (hdr p) 5),.int .u8 (bl (hdr p) 6),.int .u8 (bl (hdr p) 7),.int .u8 (bl (hdr p) 8),.int .u8 (bl (hdr p) 9),.int .u8 (bl (hdr p) 10)] B2 0 92 _ _ rfl rfl rfl (M.thereP mS 0 11 (Nat.le_of_ble_eq_true rfl)) (by kernel_rfl) (List.all_eq_true.1 (rfl:([.int .u8 (bl (hdr p) 0),.int .u8 (bl (hdr p) 1),.int .u8 (bl (hdr p) 2),.int .u8 (bl (hdr p) 3),.int .u8 (bl (hdr p) 4),.int .u8 (bl (hdr p) 5),.int .u8 (bl (hdr p) 6),.int .u8 (bl (hdr p) 7),.int .u8 (bl (hdr p) 8),.int .u8 (bl (hdr p) 9),.int .u8 (bl (hdr p) 10)]:List Value).all (fun u=>u.oneCell')=true))) ?_
    simp only [Act.put]; replace M:=M.setPart [.int .u8 (bl (hdr p) 0),.int .u8 (bl (hdr p) 1),.int .u8 (bl (hdr p) 2),.int .u8 (bl (hdr p) 3),.int .u8 (bl (hdr p) 4),.int .u8 (bl (hdr p) 5),.int .u8 (bl (hdr p) 6),.int .u8 (bl (hdr p) 7),.int .u8 (bl (hdr p) 8),.int .u8 (bl (hdr p) 9),.int .u8 (bl (hdr p) 10)] 0 (Nat.le_of_ble_eq_true rfl)
    generalize w9.setCells B2 0 [.int .u8 (bl (hdr p) 0),.int .u8 (bl (hdr p) 1),.int .u8 (bl (hdr p) 2),.int .u8 (bl (hdr p) 3),.int .u8 (bl (hdr p) 4),.int .u8 (bl (hdr p) 5),.int .u8 (bl (hdr p) 6),.int .u8 (bl (hdr p) 7),.int .u8 (bl (hdr p) 8),.int .u8 (bl (hdr p) 9),.int .u8 (bl (hdr p) 10)]=w10 at M  ⊢
    replace M:Mm w ([(B2,[.int .u8 (bl (hdr p) 0),.int .u8 (bl (hdr p) 1),.int .u8 (bl (hdr p) 2),.int .u8 (bl (hdr p) 3),.int .u8 (bl (hdr p) 4),.int .u8 (bl (hdr p) 5),.int .u8 (bl (hdr p) 6),.int .u8 (bl (hdr p) 7),.int .u8 (bl (hdr p) 8),.int .u8 (bl (hdr p) 9),.int .u8 (bl (hdr p) 10)]),(B8,[.int .u8 (bl (hdr p) 0),.int .u8 (bl (hdr p) 1),.int .u8 (bl (hdr p) 2),.int .u8 (bl (hdr p) 3),.int .u8 (bl (hdr p) 4),.int .u8 (bl (hdr p) 5),.int .u8 (bl (hdr p) 6),.int .u8 (bl (hdr p) 7),.int .u8 (bl (hdr p) 8),.int .u8 (bl (hdr p) 9),.int .u8 (bl (hdr p) 10)]),(B1,[.int .i64 p.kind,.int .i64 p.role,.int .i64 p.path,.int .i64 p.epo,.int .i64 p.ctr,.slice bp p.body.length bc])]) w10:=M
    refine xT ?_; have c1_:=M.part mS 0 (row .u8 11 (bl (hdr p))) rfl; have hM:=M.below; clear M; go_wp2; refine bodyPost_ret (v:=.agg (row .u8 11 (bl (hdr p))).toArray) (retCell 2 92 ⟨B2,0,none⟩ (row .u8 11 (bl (hdr p))) rfl rfl (fun _=>by kernel_rfl) (fun _=>by kernel_rfl) c1_) rfl ?_
    exact ⟨rfl,hM⟩
theorem vhead_any:HeadOK:=by
 intro p bp bc w hg hp; have M:=Mm.init w
 have fold:(.agg #[.int .i64 p.kind,.int .i64 p.role,.int .i64 p.path,.int .i64 p.epo,.int .i64 p.ctr,.slice bp p.body.length bc]:Value)=.agg (pcs p bp bc).toArray:=rfl
 rw [← fold]
 go_enter Tryz.func26,Tryz.ntmps26
 go_upto_region 0 with fail; refine wp_region_list ?_; refine actL (w':=w.alloc (.cells #[.int .i64 p.kind,.int .i64 p.role,.int .i64 p.path,.int .i64 p.epo,.int .i64 p.ctr,.slice bp p.body.length bc] 70)) (.pointer (some ⟨w.heap.size,0,none⟩)) rfl (by kernel_rfl) ?_; simp only [aP,lI,l0,lS]
 have hB_B1:w.heap.size≤w.heap.size:=M.below.size
 replace M:=M.box #[.int .i64 p.kind,.int .i64 p.role,.int .i64 p.path,.int .i64 p.epo,.int .i64 p.ctr,.slice bp p.body.length bc] 70 w.heap.size rfl; generalize w.alloc (.cells #[.int .i64 p.kind,.int .i64 p.role,.int .i64 p.path,.int .i64 p.epo,.int .i64 p.ctr,.slice bp p.body.length bc] 70)=w1 at M  ⊢; generalize eB:w.heap.size=B1 at M hB_B1  ⊢
 have hE_B1:w.heap.size≤B1:=Nat.le_of_eq eB
 have hF_B1:B1≤w.heap.size:=Nat.le_of_eq eB.symm
 clear eB
 replace M:Mm w ([(B1,[.int .i64 p.kind,.int .i64 p.role,.int .i64 p.path,.int .i64 p.epo,.int .i64 p.ctr,.slice bp p.body.length bc])]) w1:=M
 refine xpL (.slice none 0 0) ?_; refine xT ?_; go_upto_region 1 with fail; refine wp_region_list ?_
 refine xaL (.agg #[.int .i64 p.kind,.int .i64 p.role,.int .i64 p.path,.int .i64 p.epo,.int .i64 p.ctr,.slice bp p.body.length bc]) (loadN 70 _ ⟨B1,0,none⟩ [.int .i64 p.kind,.int .i64 p.role,.int .i64 p.path,.int .i64 p.epo,.int .i64 p.ctr,.slice bp p.body.length bc] rfl rfl (fun _=>by kernel_rfl) (fun _=>by kernel_rfl) (M.rangeAt mS)) ?_
 obtain ⟨b1,hb1⟩:∃ y_,y_=(prc p):=⟨_,rfl⟩
 have hC:Calls Tryz.prog 38 #[.agg #[.int .i64 p.kind,.int .i64 p.role,.int .i64 p.path,.int .i64 p.epo,.int .i64 p.ctr,.slice bp p.body.length bc]] w1 (fun e w'=>e=.returned (.bool b1)∧Below w1.heap.size w1 w'):=(by rw [hb1]; exact prec_any p bp bc _)
 refine xcL (hC) ?_; rintro e w2 ⟨rfl,l⟩; replace M:=M.call l
 refine ⟨_,rfl,?_⟩
 clear l hC; simp only [aP,lI,l0,lS]
 obtain ⟨b2,hb2⟩:∃ y_,y_=(!b1):=⟨_,rfl⟩
 refine xaL (.bool b2) (by subst hb2; cases b1 <;> rfl) ?_; refine xT ?_
 have hb:b2=!prc p:=by rw [hb2,hb1]
 try clear hb1
 try clear hb2
 cases b2 with
 | true =>
   go_upto_region 2 with fail; refine wp_region_list ?_; refine xpL (.slice none 0 0) ?_; refine xT ?_
   have hA:phd p=[]:=phd_none (of_decide_eq_false (show prc p=false by simpa using hb))
   replace hA:=show Hid _ from hA; clear hb; go_wp2; go_ret
   exact ⟨⟨_,rfl,by rw [hA.out]; exact NewF.nil _ _ _⟩,M.below⟩
 | false =>
   have hk:p.kind=3∧pok p=true:=of_decide_eq_true (show prc p=true by simpa using hb)
   have hR:Rec p:=of_decide_eq_true ((pok_rec hk.1).symm.trans hk.2)
   clear hb; go_upto_region 3 with fail; refine wp_region_list ?_
   refine xaL (.agg #[.int .i64 p.kind,.int .i64 p.role,.int .i64 p.path,.int .i64 p.epo,.int .i64 p.ctr,.slice bp p.body.length bc]) (loadN 70 _ ⟨B1,0,none⟩ [.int .i64 p.kind,.int .i64 p.role,.int .i64 p.path,.int .i64 p.epo,.int .i64 p.ctr,.slice bp p.body.length bc] rfl rfl (fun _=>by kernel_rfl) (fun _=>by kernel_rfl) (M.rangeAt mS)) ?_
   have hC:Calls Tryz.prog 39 #[.agg #[.int .i64 p.kind,.int .i64 p.role,.int .i64 p.path,.int .i64 p.epo,.int .i64 p.ctr,.slice bp p.body.length bc]] w2 (fun e w'=>e=.returned (.agg #[.int .u8 (bl (hdr p) 0),.int .u8 (bl (hdr p) 1),.int .u8 (bl (hdr p) 2),.int .u8 (bl (hdr p) 3),.int .u8 (bl (hdr p) 4),.int .u8 (bl (hdr p) 5),.int .u8 (bl (hdr p) 6),.int .u8 (bl (hdr p) 7),.int .u8 (bl (hdr p) 8),.int .u8 (bl (hdr p) 9),.int .u8 (bl (hdr p) 10)])∧Below w2.heap.size w2 w'):=(phead_any p bp bc _ (hg.mm M) hk.1 hR)
   refine xcL (hC) ?_; rintro e w3 ⟨rfl,l⟩; replace M:=M.call l
   refine ⟨_,rfl,?_⟩
   clear l hC; simp only [aP,lI,l0,lS]; refine actL (w':=w3.alloc (.cells zu8_11 92)) (.pointer (some ⟨w3.heap.size,0,none⟩)) rfl (by kernel_rfl) ?_; simp only [aP,lI,l0,lS]
   have hB_B4:w.heap.size≤w3.heap.size:=M.below.size
   replace M:=M.box zu8_11 92 w3.heap.size rfl; generalize w3.alloc (.cells zu8_11 92)=w4 at M  ⊢; generalize eB:w3.heap.size=B4 at M hB_B4  ⊢
   have hE_B4:w3.heap.size≤B4:=Nat.le_of_eq eB
   have hF_B4:B4≤w3.heap.size:=Nat.le_of_eq eB.symm
   clear eB
   replace M:Mm w ([(B4,[.int .u8 0,.int .u8 0,.int .u8 0,.int .u8 0,.int .u8 0,.int .u8 0,.int .u8 0,.int .u8 0,.int .u8 0,.int .u8 0,.int .u8 0]),(B1,[.int .i64 p.kind,.int .i64 p.role,.int .i64 p.path,.int .i64 p.epo,.int .i64 p.ctr,.slice bp p.body.length bc])]) w4:=M
   refine skipOpL rfl (storeP [.int .u8 (bl (hdr p) 0),.int .u8 (bl (hdr p) 1),.int .u8 (bl (hdr p) 2),.int .u8 (bl (hdr p) 3),.int .u8 (bl (hdr p) 4),.int .u8 (bl (hdr p) 5),.int .u8 (bl (hdr p) 6),.int .u8 (bl (hdr p) 7),.int .u8 (bl (hdr p) 8),.int .u8 (bl (hdr p) 9),.int .u8 (bl (hdr p) 10)] B4 0 92 _ _ rfl rfl rfl (M.thereP mS 0 11 (Nat.le_of_ble_eq_true rfl)) (by kernel_rfl) (List.all_eq_true.1 (rfl:([.int .u8 (bl (hdr p) 0),.int .u8 (bl (hdr p) 1),.int .u8 (bl (hdr p) 2),.int .u8 (bl (hdr p) 3),.int .u8 (bl (hdr p) 4),.int .u8 (bl (hdr p) 5),.int .u8 (bl (hdr p) 6),.int .u8 (bl (hdr p) 7),.int .u8 (bl (hdr p) 8),.int .u8 (bl (hdr p) 9),.int .u8 (bl (hdr p) 10)]:List Value).all (fun u=>u.oneCell')=true))) ?_
   simp only [Act.put]; replace M:=M.setPart [.int .u8 (bl (hdr p) 0),.int .u8 (bl (hdr p) 1),.int .u8 (bl (hdr p) 2),.int .u8 (bl (hdr p) 3),.int .u8 (bl (hdr p) 4),.int .u8 (bl (hdr p) 5),.int .u8 (bl (hdr p) 6),.int .u8 (bl (hdr p) 7),.int .u8 (bl (hdr p) 8),.int .u8 (bl (hdr p) 9),.int .u8 (bl (hdr p) 10)] 0 (Nat.le_of_ble_eq_true rfl)
   generalize w4.setCells B4 0 [.int .u8 (bl (hdr p) 0),.int .u8 (bl (hdr p) 1),.int .u8 (bl (hdr p) 2),.int .u8 (bl (hdr p) 3),.int .u8 (bl (hdr p) 4),.int .u8 (bl (hdr p) 5),.int .u8 (bl (hdr p) 6),.int .u8 (bl (hdr p) 7),.int .u8 (bl (hdr p) 8),.int .u8 (bl (hdr p) 9),.int .u8 (bl (hdr p) 10)]=w5 at M  ⊢
   replace M:Mm w ([(B4,[.int .u8 (bl (hdr p) 0),.int .u8 (bl (hdr p) 1),.int .u8 (bl (hdr p) 2),.int .u8 (bl (hdr p) 3),.int .u8 (bl (hdr p) 4),.int .u8 (bl (hdr p) 5),.int .u8 (bl (hdr p) 6),.int .u8 (bl (hdr p) 7),.int .u8 (bl (hdr p) 8),.int .u8 (bl (hdr p) 9),.int .u8 (bl (hdr p) 10)]),(B1,[.int .i64 p.kind,.int .i64 p.role,.int .i64 p.path,.int .i64 p.epo,.int .i64 p.ctr,.slice bp p.body.length bc])]) w5:=M
   refine xT ?_; go_upto_region 4 with fail; refine wp_region_list ?_; refine xpL (.slice (some ⟨B4,0,none⟩) 11 11) ?_; refine xpL (.slice (some ⟨B4,0,none⟩) 11 11) ?_; refine xT ?_; have hN:=M.newL mS (hdr p) rfl
   rw [hdr_length] at hN
   have hA:phd p=hdr p:=phd_rec hk.1 hk.2
   have hS:=show Hid _ from (And.intro hN hA); clear hk hR hN hA; go_wp2; go_ret
   exact ⟨⟨_,rfl,by rw [hS.out.2]; exact hS.out.1⟩,M.below⟩
def NonceOK:Prop:=∀ (p:Pkt) (bp:Option Addr) (bc:Nat) (w:World),PG w→PV w p bp bc→Calls Tryz.prog 25 #[.agg (pcs p bp bc).toArray] w fun e w'=>e=.returned (.agg (row .u8 12 (bl (pno p))).toArray)∧Below w.heap.size w w'
theorem pno_rec {p:Pkt} (hk:p.kind=3∧pok p=true):pno p=p.path::(flst p.epo.toNat 2++(0::0::0::flst p.ctr.toNat 6)):=by unfold pno; rw [if_pos hk]
theorem pno_none {p:Pkt} (hk:¬ (p.kind=3∧pok p=true)):pno p=List.replicate 12 0:=by unfold pno; rw [if_neg hk]
theorem run_copy_at {P:Program} {o:Oper} {a:Act} {w:World} (d s:Operand) (dT sT elem:TypeId) (ho:o.op=.call { callee:=.builtin .copy,args:=#[d,s],argTypes:=#[dT,sT] }) (hu:P.underlying dT=some (.slice elem)) (hsz:(P.info? elem).map (·.size)=some 1)
 (b o' dLen dCap sLen sCap m:Nat) (z:Nat→Int) (ad:Addr) (hd:a.eval d=.slice (some ⟨b,o',none⟩) dLen dCap) (hs:a.eval s=.slice (some ad) sLen sCap) (hmin:m=Nat.min sLen dLen) (hb:w.there b o' m) (hc:Src w (some ad) m z) :
 (execOp a.eval o).run P w=.ok (.value (.int .i64 (m:Int))) (w.setCells b o' (row .u8 m z)):=by
 have hrun:=run_copy_cells (P:=P) w dT sT o.type elem b o' dLen dCap ad sLen sCap (row .u8 m z) hu hsz (by rw [row_length]; exact hmin) (fun j v hv=>by
  obtain ⟨hj,rfl⟩:=row_get_some hv
  obtain ⟨ad',he,hc'⟩:=hc j hj
  injection he with he
  subst he
  exact hc') (fun j hj=>by rw [row_length] at hj; exact (hb j hj).1) (fun j hj=>by rw [row_length] at hj; exact (hb j hj).2) (row_one .u8 m z)
 rw [row_length] at hrun
 simp [execOp,ho,resolve,invoke,builtin,hd,hs,hrun,Result.andThen,goInt]
theorem vnonce_any:NonceOK:=by
 intro p bp bc w hg hp; have M:=Mm.init w
 have fold:(.agg #[.int .i64 p.kind,.int .i64 p.role,.int .i64 p.path,.int .i64 p.epo,.int .i64 p.ctr,.slice bp p.body.length bc]:Value)=.agg (pcs p bp bc).toArray:=rfl
 rw [← fold]
 go_enter Tryz.func25,Tryz.ntmps25
 go_upto_region 0 with fail; refine wp_region_list ?_; refine actL (w':=w.alloc (.cells #[.int .i64 p.kind,.int .i64 p.role,.int .i64 p.path,.int .i64 p.epo,.int .i64 p.ctr,.slice bp p.body.length bc] 70)) (.pointer (some ⟨w.heap.size,0,none⟩)) rfl (by kernel_rfl) ?_; simp only [aP,lI,l0,lS]
 have hB_B1:w.heap.size≤w.heap.size:=M.below.size
 replace M:=M.box #[.int .i64 p.kind,.int .i64 p.role,.int .i64 p.path,.int .i64 p.epo,.int .i64 p.ctr,.slice bp p.body.length bc] 70 w.heap.size rfl; generalize w.alloc (.cells #[.int .i64 p.kind,.int .i64 p.role,.int .i64 p.path,.int .i64 p.epo,.int .i64 p.ctr,.slice bp p.body.length bc] 70)=w1 at M  ⊢; generalize eB:w.heap.size=B1 at M hB_B1  ⊢
 have hE_B1:w.heap.size≤B1:=Nat.le_of_eq eB
 have hF_B1:B1≤w.heap.size:=Nat.le_of_eq eB.symm
 clear eB
 replace M:Mm w ([(B1,[.int .i64 p.kind,.int .i64 p.role,.int .i64 p.path,.int .i64 p.epo,.int .i64 p.ctr,.slice bp p.body.length bc])]) w1:=M
 refine actL (w':=w1.alloc (.cells zu8_12 75)) (.pointer (some ⟨w1.heap.size,0,none⟩)) rfl (by kernel_rfl) ?_; simp only [aP,lI,l0,lS]
 have hB_B2:w.heap.size≤w1.heap.size:=M.below.size
 replace M:=M.box zu8_12 75 w1.heap.size rfl; generalize w1.alloc (.cells zu8_12 75)=w2 at M  ⊢; generalize eB:w1.heap.size=B2 at M hB_B2  ⊢
 have hE_B2:w1.heap.size≤B2:=Nat.le_of_eq eB
 have hF_B2:B2≤w1.heap.size:=Nat.le_of_eq eB.symm
 clear eB
 replace M:Mm w ([(B2,[.int .u8 0,.int .u8 0,.int .u8 0,.int .u8 0,.int .u8 0,.int .u8 0,.int .u8 0,.int .u8 0,.int .u8 0,.int .u8 0,.int .u8 0,.int .u8 0]),(B1,[.int .i64 p.kind,.int .i64 p.role,.int .i64 p.path,.int .i64 p.epo,.int .i64 p.ctr,.slice bp p.body.length bc])]) w2:=M
 refine xT ?_; go_upto_region 1 with fail; refine wp_region_list ?_; refine actL (w':=w2.alloc (.cells zu8_12 75)) (.pointer (some ⟨w2.heap.size,0,none⟩)) rfl (by kernel_rfl) ?_; simp only [aP,lI,l0,lS]
 have hB_B3:w.heap.size≤w2.heap.size:=M.below.size
 replace M:=M.box zu8_12 75 w2.heap.size rfl; generalize w2.alloc (.cells zu8_12 75)=w3 at M  ⊢; generalize eB:w2.heap.size=B3 at M hB_B3  ⊢
 have hE_B3:w2.heap.size≤B3:=Nat.le_of_eq eB
 have hF_B3:B3≤w2.heap.size:=Nat.le_of_eq eB.symm
 clear eB
 replace M:Mm w ([(B3,[.int .u8 0,.int .u8 0,.int .u8 0,.int .u8 0,.int .u8 0,.int .u8 0,.int .u8 0,.int .u8 0,.int .u8 0,.int .u8 0,.int .u8 0,.int .u8 0]),(B2,[.int .u8 0,.int .u8 0,.int .u8 0,.int .u8 0,.int .u8 0,.int .u8 0,.int .u8 0,.int .u8 0,.int .u8 0,.int .u8 0,.int .u8 0,.int .u8 0]),(B1,[.int .i64 p.kind,.int .i64 p.role,.int .i64 p.path,.int .i64 p.epo,.int .i64 p.ctr,.slice bp p.body.length bc])]) w3:=M
 refine xT ?_; go_upto_region 2 with fail; refine wp_region_list ?_
 refine xaL (.agg #[.int .i64 p.kind,.int .i64 p.role,.int .i64 p.path,.int .i64 p.epo,.int .i64 p.ctr,.slice bp p.body.length bc]) (loadN 70 _ ⟨B1,0,none⟩ [.int .i64 p.kind,.int .i64 p.role,.int .i64 p.path,.int .i64 p.epo,.int .i64 p.ctr,.slice bp p.body.length bc] rfl rfl (fun _=>by kernel_rfl) (fun _=>by kernel_rfl) (M.rangeAt (mI 2 rfl))) ?_
 obtain ⟨b1,hb1⟩:∃ y_,y_=(prc p):=⟨_,rfl⟩
 have hC:Calls Tryz.prog 38 #[.agg #[.int .i64 p.kind,.int .i64 p.role,.int .i64 p.path,.int .i64 p.epo,.int .i64 p.ctr,.slice bp p.body.length bc]] w3 (fun e w'=>e=.returned (.bool b1)∧Below w3.heap.size w3 w'):=(by rw [hb1]; exact prec_any p bp bc _)
 refine xcL (hC) ?_; rintro e w4 ⟨rfl,l⟩; replace M:=M.call l
 refine ⟨_,rfl,?_⟩
 clear l hC; simp only [aP,lI,l0,lS]; refine xT ?_
 have hb:b1=prc p:=by rw [hb1]
 try clear hb1
 cases b1 with
 | true =>
   have hk:p.kind=3∧pok p=true:=of_decide_eq_true (show prc p=true by simpa using hb)
   have hR:Rec p:=of_decide_eq_true ((pok_rec hk.1).symm.trans hk.2)
   clear hb; go_upto_region 3 with fail; refine wp_region_list ?_
   refine xaL (.agg #[.int .i64 p.kind,.int .i64 p.role,.int .i64 p.path,.int .i64 p.epo,.int .i64 p.ctr,.slice bp p.body.length bc]) (loadN 70 _ ⟨B1,0,none⟩ [.int .i64 p.kind,.int .i64 p.role,.int .i64 p.path,.int .i64 p.epo,.int .i64 p.ctr,.slice bp p.body.length bc] rfl rfl (fun _=>by kernel_rfl) (fun _=>by kernel_rfl) (M.rangeAt (mI 2 rfl))) ?_
   have hC:Calls Tryz.prog 39 #[.agg #[.int .i64 p.kind,.int .i64 p.role,.int .i64 p.path,.int .i64 p.epo,.int .i64 p.ctr,.slice bp p.body.length bc]] w4 (fun e w'=>e=.returned (.agg #[.int .u8 (bl (hdr p) 0),.int .u8 (bl (hdr p) 1),.int .u8 (bl (hdr p) 2),.int .u8 (bl (hdr p) 3),.int .u8 (bl (hdr p) 4),.int .u8 (bl (hdr p) 5),.int .u8 (bl (hdr p) 6),.int .u8 (bl (hdr p) 7),.int .u8 (bl (hdr p) 8),.int .u8 (bl (hdr p) 9),.int .u8 (bl (hdr p) 10)])∧Below w4.heap.size w4 w'):=(phead_any p bp bc _ (hg.mm M) hk.1 hR)
   refine xcL (hC) ?_; rintro e w5 ⟨rfl,l⟩; replace M:=M.call l
   refine ⟨_,rfl,?_⟩
   clear l hC; simp only [aP,lI,l0,lS]; refine actL (w':=w5.alloc (.cells zu8_11 92)) (.pointer (some ⟨w5.heap.size,0,none⟩)) rfl (by kernel_rfl) ?_; simp only [aP,lI,l0,lS]
   have hB_B6:w.heap.size≤w5.heap.size:=M.below.size
   replace M:=M.box zu8_11 92 w5.heap.size rfl; generalize w5.alloc (.cells zu8_11 92)=w6 at M  ⊢; generalize eB:w5.heap.size=B6 at M hB_B6  ⊢
   have hE_B6:w5.heap.size≤B6:=Nat.le_of_eq eB
   have hF_B6:B6≤w5.heap.size:=Nat.le_of_eq eB.symm
   clear eB
   replace M:Mm w ([(B6,[.int .u8 0,.int .u8 0,.int .u8 0,.int .u8 0,.int .u8 0,.int .u8 0,.int .u8 0,.int .u8 0,.int .u8 0,.int .u8 0,.int .u8 0]),(B3,[.int .u8 0,.int .u8 0,.int .u8 0,.int .u8 0,.int .u8 0,.int .u8 0,.int .u8 0,.int .u8 0,.int .u8 0,.int .u8 0,.int .u8 0,.int .u8 0]),(B2,[.int .u8 0,.int .u8 0,.int .u8 0,.int .u8 0,.int .u8 0,.int .u8 0,.int .u8 0,.int .u8 0,.int .u8 0,.int .u8 0,.int .u8 0,.int .u8 0]),(B1,[.int .i64 p.kind,.int .i64 p.role,.int .i64 p.path,.int .i64 p.epo,.int .i64 p.ctr,.slice bp p.body.length bc])]) w6:=M
   refine skipOpL rfl (storeP [.int .u8 (bl (hdr p) 0),.int .u8 (bl (hdr p) 1),.int .u8 (bl (hdr p) 2),.int .u8 (bl (hdr p) 3),.int .u8 (bl (hdr p) 4),.int .u8 (bl (hdr p) 5),.int .u8 (bl (hdr p) 6),.int .u8 (bl (hdr p) 7),.int .u8 (bl (hdr p) 8),.int .u8 (bl (hdr p) 9),.int .u8 (bl (hdr p) 10)] B6 0 92 _ _ rfl rfl rfl (M.thereP mS 0 11 (Nat.le_of_ble_eq_true rfl)) (by kernel_rfl) (List.all_eq_true.1 (rfl:([.int .u8 (bl (hdr p) 0),.int .u8 (bl (hdr p) 1),.int .u8 (bl (hdr p) 2),.int .u8 (bl (hdr p) 3),.int .u8 (bl (hdr p) 4),.int .u8 (bl (hdr p) 5),.int .u8 (bl (hdr p) 6),.int .u8 (bl (hdr p) 7),.int .u8 (bl (hdr p) 8),.int .u8 (bl (hdr p) 9),.int .u8 (bl (hdr p) 10)]:List Value).all (fun u=>u.oneCell')=true))) ?_
   simp only [Act.put]; replace M:=M.setPart [.int .u8 (bl (hdr p) 0),.int .u8 (bl (hdr p) 1),.int .u8 (bl (hdr p) 2),.int .u8 (bl (hdr p) 3),.int .u8 (bl (hdr p) 4),.int .u8 (bl (hdr p) 5),.int .u8 (bl (hdr p) 6),.int .u8 (bl (hdr p) 7),.int .u8 (bl (hdr p) 8),.int .u8 (bl (hdr p) 9),.int .u8 (bl (hdr p) 10)] 0 (Nat.le_of_ble_eq_true rfl)
   generalize w6.setCells B6 0 [.int .u8 (bl (hdr p) 0),.int .u8 (bl (hdr p) 1),.int .u8 (bl (hdr p) 2),.int .u8 (bl (hdr p) 3),.int .u8 (bl (hdr p) 4),.int .u8 (bl (hdr p) 5),.int .u8 (bl (hdr p) 6),.int .u8 (bl (hdr p) 7),.int .u8 (bl (hdr p) 8),.int .u8 (bl (hdr p) 9),.int .u8 (bl (hdr p) 10)]=w7 at M  ⊢
   replace M:Mm w ([(B6,[.int .u8 (bl (hdr p) 0),.int .u8 (bl (hdr p) 1),.int .u8 (bl (hdr p) 2),.int .u8 (bl (hdr p) 3),.int .u8 (bl (hdr p) 4),.int .u8 (bl (hdr p) 5),.int .u8 (bl (hdr p) 6),.int .u8 (bl (hdr p) 7),.int .u8 (bl (hdr p) 8),.int .u8 (bl (hdr p) 9),.int .u8 (bl (hdr p) 10)]),(B3,[.int .u8 0,.int .u8 0,.int .u8 0,.int .u8 0,.int .u8 0,.int .u8 0,.int .u8 0,.int .u8 0,.int .u8 0,.int .u8 0,.int .u8 0,.int .u8 0]),(B2,[.int .u8 0,.int .u8 0,.int .u8 0,.int .u8 0,.int .u8 0,.int .u8 0,.int .u8 0,.int .u8 0,.int .u8 0,.int .u8 0,.int .u8 0,.int .u8 0]),(B1,[.int .i64 p.kind,.int .i64 p.role,.int .i64 p.path,.int .i64 p.epo,.int .i64 p.ctr,.slice bp p.body.length bc])]) w7:=M
   refine xT ?_; go_upto_region 4 with fail; refine wp_region_list ?_; refine xpL (.slice (some ⟨B6,5,none⟩) 6 6) ?_; refine xpL (.slice (some ⟨B6,5,none⟩) 6 6) ?_; refine xT ?_; replace M:=M.swap; go_upto_region 5 with fail
   refine wp_region_held_drew (S:=fun w'=>∃ cs,Mm w ((B3,cs)::(B6,[.int .u8 (bl (hdr p) 0),.int .u8 (bl (hdr p) 1),.int .u8 (bl (hdr p) 2),.int .u8 (bl (hdr p) 3),.int .u8 (bl (hdr p) 4),.int .u8 (bl (hdr p) 5),.int .u8 (bl (hdr p) 6),.int .u8 (bl (hdr p) 7),.int .u8 (bl (hdr p) 8),.int .u8 (bl (hdr p) 9),.int .u8 (bl (hdr p) 10)])::(B2,[.int .u8 0,.int .u8 0,.int .u8 0,.int .u8 0,.int .u8 0,.int .u8 0,.int .u8 0,.int .u8 0,.int .u8 0,.int .u8 0,.int .u8 0,.int .u8 0])::(B1,[.int .i64 p.kind,.int .i64 p.role,.int .i64 p.path,.int .i64 p.epo,.int .i64 p.ctr,.slice bp p.body.length bc])::[]) w') (by kernel_rfl) ⟨_,M.drew⟩ ?_
   intro _; replace M:=M.drew; generalize w7.drew=wd at M ⊢; refine xrH 0 11 rfl (.slice (some ⟨B3,0,none⟩) 12 12) (fun _ _=>by kernel_rfl) ⟨_,M⟩ ?_; refine xrH 1 12 rfl (.slice (some ⟨B6,2,none⟩) 3 9) (fun _ _=>by kernel_rfl) ⟨_,M⟩ ?_
   have M2:Mm w [(B3,[.int .u8 (bl (hdr p) (2+0)),.int .u8 (bl (hdr p) (2+1)),.int .u8 (bl (hdr p) (2+2)),.int .u8 0,.int .u8 0,.int .u8 0,.int .u8 0,.int .u8 0,.int .u8 0,.int .u8 0,.int .u8 0,.int .u8 0]),(B6,[.int .u8 (bl (hdr p) 0),.int .u8 (bl (hdr p) 1),.int .u8 (bl (hdr p) 2),.int .u8 (bl (hdr p) 3),.int .u8 (bl (hdr p) 4),.int .u8 (bl (hdr p) 5),.int .u8 (bl (hdr p) 6),.int .u8 (bl (hdr p) 7),.int .u8 (bl (hdr p) 8),.int .u8 (bl (hdr p) 9),.int .u8 (bl (hdr p) 10)]),(B2,[.int .u8 0,.int .u8 0,.int .u8 0,.int .u8 0,.int .u8 0,.int .u8 0,.int .u8 0,.int .u8 0,.int .u8 0,.int .u8 0,.int .u8 0,.int .u8 0]),(B1,[.int .i64 p.kind,.int .i64 p.role,.int .i64 p.path,.int .i64 p.epo,.int .i64 p.ctr,.slice bp p.body.length bc])] (wd.setCells B3 0 (row .u8 3 (fun j=>bl (hdr p) (2+j)))):=Mm.setPart M (row .u8 3 (fun j=>bl (hdr p) (2+j))) 0 (Nat.le_of_ble_eq_true rfl)
   refine onlyH (i:=2) (some 13) rfl (.int .i64 3) (by kernel_rfl) rfl rfl (run_copy_at _ _ 29 29 5 rfl Tryz.underlying29 (by kernel_rfl) B3 0 12 12 3 9 3 (fun j=>bl (hdr p) (2+j)) ⟨B6,2,none⟩ rfl rfl rfl (M.thereP mS 0 3 (Nat.le_of_ble_eq_true rfl)) (M.srcRow (mT _ mS) 2 3 _ rfl)) ⟨_,M2⟩ ?_; simp only [aP,lI,l0,lS]; clear M
   generalize wd.setCells B3 0 (row .u8 3 (fun j=>bl (hdr p) (2+j)))=we at M2 ⊢; have M:=M2; clear M2
   refine wpAnyH_done (by kernel_rfl) ?_ _
   first | show Exit.then _ _ _ _ _ | show Exit.inBlock _ _ _ _ _
   go_upto_region 6 with fail; refine wp_region_list ?_; refine xpL (.slice (some ⟨B6,5,none⟩) 6 6) ?_; refine xaL (.int .i64 ((6:Nat):Int)) (lenS _ 29 5 (some ⟨B6,5,none⟩) 6 6 rfl Tryz.underlying29 rfl _) ?_; refine xaL (.int .i64 6) (subI .i64 _ _ _ _ _ _ _ rfl rfl rfl (by decide) _) ?_; refine xpL (.slice (some ⟨B3,6,none⟩) 6 6) ?_; refine xpL (.slice (some ⟨B6,5,none⟩) 6 6) ?_
   refine actL (w':=we.setCells B3 6 (row .u8 6 (fun j=>bl (hdr p) (5+j)))) (.int .i64 6) rfl (run_copy_at _ _ 29 29 5 rfl Tryz.underlying29 (by kernel_rfl) B3 6 6 6 6 6 6 (fun j=>bl (hdr p) (5+j)) ⟨B6,5,none⟩ rfl rfl rfl (M.thereP mS 6 6 (Nat.le_of_ble_eq_true rfl)) (M.srcRow (mT _ mS) 5 6 _ rfl)) ?_; simp only [aP,lI,l0,lS]
   replace M:Mm w ([(B3,[.int .u8 (bl (hdr p) (2+0)),.int .u8 (bl (hdr p) (2+1)),.int .u8 (bl (hdr p) (2+2)),.int .u8 0,.int .u8 0,.int .u8 0,.int .u8 (bl (hdr p) (5+0)),.int .u8 (bl (hdr p) (5+1)),.int .u8 (bl (hdr p) (5+2)),.int .u8 (bl (hdr p) (5+3)),.int .u8 (bl (hdr p) (5+4)),.int .u8 (bl (hdr p) (5+5))]),(B6,[.int .u8 (bl (hdr p) 0),.int .u8 (bl (hdr p) 1),.int .u8 (bl (hdr p) 2),.int .u8 (bl (hdr p) 3),.int .u8 (bl (hdr p) 4),.int .u8 (bl (hdr p) 5),.int .u8 (bl (hdr p) 6),.int .u8 (bl (hdr p) 7),.int .u8 (bl (hdr p) 8),.int .u8 (bl (hdr p) 9),.int .u8 (bl (hdr p) 10)]),(B2,[.int .u8 0,.int .u8 0,.int .u8 0,.int .u8 0,.int .u8 0,.int .u8 0,.int .u8 0,.int .u8 0,.int .u8 0,.int .u8 0,.int .u8 0,.int .u8 0]),(B1,[.int .i64 p.kind,.int .i64 p.role,.int .i64 p.path,.int .i64 p.epo,.int .i64 p.ctr,.slice bp p.body.length bc])]) _:=M.setPart (row .u8 6 (fun j=>bl (hdr p) (5+j))) 6 (Nat.le_of_ble_eq_true rfl)
   generalize we.setCells B3 6 (row .u8 6 (fun j=>bl (hdr p) (5+j)))=w8 at M ⊢; refine xT ?_; go_upto_region 7 with fail; refine wp_region_list ?_
   refine xaL (.agg #[.int .u8 (bl (hdr p) (2+0)),.int .u8 (bl (hdr p) (2+1)),.int .u8 (bl (hdr p) (2+2)),.int .u8 0,.int .u8 0,.int .u8 0,.int .u8 (bl (hdr p) (5+0)),.int .u8 (bl (hdr p) (5+1)),.int .u8 (bl (hdr p) (5+2)),.int .u8 (bl (hdr p) (5+3)),.int .u8 (bl (hdr p) (5+4)),.int .u8 (bl (hdr p) (5+5))]) (loadN 75 _ ⟨B3,0,none⟩ [.int .u8 (bl (hdr p) (2+0)),.int .u8 (bl (hdr p) (2+1)),.int .u8 (bl (hdr p) (2+2)),.int .u8 0,.int .u8 0,.int .u8 0,.int .u8 (bl (hdr p) (5+0)),.int .u8 (bl (hdr p) (5+1)),.int .u8 (bl (hdr p) (5+2)),.int .u8 (bl (hdr p) (5+3)),.int .u8 (bl (hdr p) (5+4)),.int .u8 (bl (hdr p) (5+5))] rfl rfl (fun _=>by kernel_rfl) (fun _=>by kernel_rfl) (M.rangeAt mS)) ?_
   replace M:=M.rot3
   refine skipOpL rfl (storeP [.int .u8 (bl (hdr p) (2+0)),.int .u8 (bl (hdr p) (2+1)),.int .u8 (bl (hdr p) (2+2)),.int .u8 0,.int .u8 0,.int .u8 0,.int .u8 (bl (hdr p) (5+0)),.int .u8 (bl (hdr p) (5+1)),.int .u8 (bl (hdr p) (5+2)),.int .u8 (bl (hdr p) (5+3)),.int .u8 (bl (hdr p) (5+4)),.int .u8 (bl (hdr p) (5+5))] B2 0 75 _ _ rfl rfl rfl (M.thereP mS 0 12 (Nat.le_of_ble_eq_true rfl)) (by kernel_rfl) (List.all_eq_true.1 (rfl:([.int .u8 (bl (hdr p) (2+0)),.int .u8 (bl (hdr p) (2+1)),.int .u8 (bl (hdr p) (2+2)),.int .u8 0,.int .u8 0,.int .u8 0,.int .u8 (bl (hdr p) (5+0)),.int .u8 (bl (hdr p) (5+1)),.int .u8 (bl (hdr p) (5+2)),.int .u8 (bl (hdr p) (5+3)),.int .u8 (bl (hdr p) (5+4)),.int .u8 (bl (hdr p) (5+5))]:List Value).all (fun u=>u.oneCell')=true))) ?_
   simp only [Act.put]; replace M:=M.setPart [.int .u8 (bl (hdr p) (2+0)),.int .u8 (bl (hdr p) (2+1)),.int .u8 (bl (hdr p) (2+2)),.int .u8 0,.int .u8 0,.int .u8 0,.int .u8 (bl (hdr p) (5+0)),.int .u8 (bl (hdr p) (5+1)),.int .u8 (bl (hdr p) (5+2)),.int .u8 (bl (hdr p) (5+3)),.int .u8 (bl (hdr p) (5+4)),.int .u8 (bl (hdr p) (5+5))] 0 (Nat.le_of_ble_eq_true rfl)
   generalize w8.setCells B2 0 [.int .u8 (bl (hdr p) (2+0)),.int .u8 (bl (hdr p) (2+1)),.int .u8 (bl (hdr p) (2+2)),.int .u8 0,.int .u8 0,.int .u8 0,.int .u8 (bl (hdr p) (5+0)),.int .u8 (bl (hdr p) (5+1)),.int .u8 (bl (hdr p) (5+2)),.int .u8 (bl (hdr p) (5+3)),.int .u8 (bl (hdr p) (5+4)),.int .u8 (bl (hdr p) (5+5))]=w9 at M  ⊢
   replace M:Mm w ([(B2,[.int .u8 (bl (hdr p) (2+0)),.int .u8 (bl (hdr p) (2+1)),.int .u8 (bl (hdr p) (2+2)),.int .u8 0,.int .u8 0,.int .u8 0,.int .u8 (bl (hdr p) (5+0)),.int .u8 (bl (hdr p) (5+1)),.int .u8 (bl (hdr p) (5+2)),.int .u8 (bl (hdr p) (5+3)),.int .u8 (bl (hdr p) (5+4)),.int .u8 (bl (hdr p) (5+5))]),(B3,[.int .u8 (bl (hdr p) (2+0)),.int .u8 (bl (hdr p) (2+1)),.int .u8 (bl (hdr p) (2+2)),.int .u8 0,.int .u8 0,.int .u8 0,.int .u8 (bl (hdr p) (5+0)),.int .u8 (bl (hdr p) (5+1)),.int .u8 (bl (hdr p) (5+2)),.int .u8 (bl (hdr p) (5+3)),.int .u8 (bl (hdr p) (5+4)),.int .u8 (bl (hdr p) (5+5))]),(B6,[.int .u8 (bl (hdr p) 0),.int .u8 (bl (hdr p) 1),.int .u8 (bl (hdr p) 2),.int .u8 (bl (hdr p) 3),.int .u8 (bl (hdr p) 4),.int .u8 (bl (hdr p) 5),.int .u8 (bl (hdr p) 6),.int .u8 (bl (hdr p) 7),.int .u8 (bl (hdr p) 8),.int .u8 (bl (hdr p) 9),.int .u8 (bl (hdr p) 10)]),(B1,[.int .i64 p.kind,.int .i64 p.role,.int .i64 p.path,.int .i64 p.epo,.int .i64 p.ctr,.slice bp p.body.length bc])]) w9:=M
   refine xT ?_
   have hA:[.int .u8 (bl (hdr p) (2+0)),.int .u8 (bl (hdr p) (2+1)),.int .u8 (bl (hdr p) (2+2)),.int .u8 0,.int .u8 0,.int .u8 0,.int .u8 (bl (hdr p) (5+0)),.int .u8 (bl (hdr p) (5+1)),.int .u8 (bl (hdr p) (5+2)),.int .u8 (bl (hdr p) (5+3)),.int .u8 (bl (hdr p) (5+4)),.int .u8 (bl (hdr p) (5+5))]=row .u8 12 (bl (pno p)):=by rw [pno_rec hk]; rfl
   have c1_:=M.part mS 0 [.int .u8 (bl (hdr p) (2+0)),.int .u8 (bl (hdr p) (2+1)),.int .u8 (bl (hdr p) (2+2)),.int .u8 0,.int .u8 0,.int .u8 0,.int .u8 (bl (hdr p) (5+0)),.int .u8 (bl (hdr p) (5+1)),.int .u8 (bl (hdr p) (5+2)),.int .u8 (bl (hdr p) (5+3)),.int .u8 (bl (hdr p) (5+4)),.int .u8 (bl (hdr p) (5+5))] rfl; have hM:=M.below; clear M
   replace hA:=show Hid _ from hA
   try clear hk
   try clear hR
   go_wp2
   refine bodyPost_ret (v:=.agg (row .u8 12 (bl (pno p))).toArray) (by rw [← hA.out]; exact retCell 2 75 ⟨B2,0,none⟩ [.int .u8 (bl (hdr p) (2+0)),.int .u8 (bl (hdr p) (2+1)),.int .u8 (bl (hdr p) (2+2)),.int .u8 0,.int .u8 0,.int .u8 0,.int .u8 (bl (hdr p) (5+0)),.int .u8 (bl (hdr p) (5+1)),.int .u8 (bl (hdr p) (5+2)),.int .u8 (bl (hdr p) (5+3)),.int .u8 (bl (hdr p) (5+4)),.int .u8 (bl (hdr p) (5+5))] rfl rfl (fun _=>by kernel_rfl) (fun _=>by kernel_rfl) c1_) rfl ?_
   exact ⟨rfl,hM⟩
 | false =>
   have hk:¬ (p.kind=3∧pok p=true):=of_decide_eq_false (show prc p=false by simpa using hb)
   clear hb; go_upto_region 7 with fail; refine wp_region_list ?_; refine xaL (.agg zu8_12) (loadN 75 _ ⟨B3,0,none⟩ [.int .u8 0,.int .u8 0,.int .u8 0,.int .u8 0,.int .u8 0,.int .u8 0,.int .u8 0,.int .u8 0,.int .u8 0,.int .u8 0,.int .u8 0,.int .u8 0] rfl rfl (fun _=>by kernel_rfl) (fun _=>by kernel_rfl) (M.rangeAt mS)) ?_; replace M:=M.swap
   refine skipOpL rfl (storeP [.int .u8 0,.int .u8 0,.int .u8 0,.int .u8 0,.int .u8 0,.int .u8 0,.int .u8 0,.int .u8 0,.int .u8 0,.int .u8 0,.int .u8 0,.int .u8 0] B2 0 75 _ _ rfl rfl rfl (M.thereP mS 0 12 (Nat.le_of_ble_eq_true rfl)) (by kernel_rfl) (List.all_eq_true.1 (rfl:([.int .u8 0,.int .u8 0,.int .u8 0,.int .u8 0,.int .u8 0,.int .u8 0,.int .u8 0,.int .u8 0,.int .u8 0,.int .u8 0,.int .u8 0,.int .u8 0]:List Value).all (fun u=>u.oneCell')=true))) ?_
   simp only [Act.put]; replace M:=M.setPart [.int .u8 0,.int .u8 0,.int .u8 0,.int .u8 0,.int .u8 0,.int .u8 0,.int .u8 0,.int .u8 0,.int .u8 0,.int .u8 0,.int .u8 0,.int .u8 0] 0 (Nat.le_of_ble_eq_true rfl)
   generalize w4.setCells B2 0 [.int .u8 0,.int .u8 0,.int .u8 0,.int .u8 0,.int .u8 0,.int .u8 0,.int .u8 0,.int .u8 0,.int .u8 0,.int .u8 0,.int .u8 0,.int .u8 0]=w10 at M  ⊢
   replace M:Mm w ([(B2,[.int .u8 0,.int .u8 0,.int .u8 0,.int .u8 0,.int .u8 0,.int .u8 0,.int .u8 0,.int .u8 0,.int .u8 0,.int .u8 0,.int .u8 0,.int .u8 0]),(B3,[.int .u8 0,.int .u8 0,.int .u8 0,.int .u8 0,.int .u8 0,.int .u8 0,.int .u8 0,.int .u8 0,.int .u8 0,.int .u8 0,.int .u8 0,.int .u8 0]),(B1,[.int .i64 p.kind,.int .i64 p.role,.int .i64 p.path,.int .i64 p.epo,.int .i64 p.ctr,.slice bp p.body.length bc])]) w10:=M
   refine xT ?_
   have hA:[.int .u8 0,.int .u8 0,.int .u8 0,.int .u8 0,.int .u8 0,.int .u8 0,.int .u8 0,.int .u8 0,.int .u8 0,.int .u8 0,.int .u8 0,.int .u8 0]=row .u8 12 (bl (pno p)):=by rw [pno_none hk]; rfl
   have c1_:=M.part mS 0 [.int .u8 0,.int .u8 0,.int .u8 0,.int .u8 0,.int .u8 0,.int .u8 0,.int .u8 0,.int .u8 0,.int .u8 0,.int .u8 0,.int .u8 0,.int .u8 0] rfl; have hM:=M.below; clear M; replace hA:=show Hid _ from hA
   try clear hk
   try clear hR
   go_wp2
   refine bodyPost_ret (v:=.agg (row .u8 12 (bl (pno p))).toArray) (by rw [← hA.out]; exact retCell 2 75 ⟨B2,0,none⟩ [.int .u8 0,.int .u8 0,.int .u8 0,.int .u8 0,.int .u8 0,.int .u8 0,.int .u8 0,.int .u8 0,.int .u8 0,.int .u8 0,.int .u8 0,.int .u8 0] rfl rfl (fun _=>by kernel_rfl) (fun _=>by kernel_rfl) c1_) rfl ?_
   exact ⟨rfl,hM⟩
theorem vprint_any:PrintOK:=by
 intro p bp bc w hg hp; have M:=Mm.init w
 have fold:(.agg #[.int .i64 p.kind,.int .i64 p.role,.int .i64 p.path,.int .i64 p.epo,.int .i64 p.ctr,.slice bp p.body.length bc]:Value)=.agg (pcs p bp bc).toArray:=rfl
 rw [← fold]
 go_enter Tryz.func27,Tryz.ntmps27
 go_upto_region 0 with fail; refine wp_region_list ?_; refine actL (w':=w.alloc (.cells #[.int .i64 p.kind,.int .i64 p.role,.int .i64 p.path,.int .i64 p.epo,.int .i64 p.ctr,.slice bp p.body.length bc] 70)) (.pointer (some ⟨w.heap.size,0,none⟩)) rfl (by kernel_rfl) ?_; simp only [aP,lI,l0,lS]
 have hB_B1:w.heap.size≤w.heap.size:=M.below.size
 replace M:=M.box #[.int .i64 p.kind,.int .i64 p.role,.int .i64 p.path,.int .i64 p.epo,.int .i64 p.ctr,.slice bp p.body.length bc] 70 w.heap.size rfl; generalize w.alloc (.cells #[.int .i64 p.kind,.int .i64 p.role,.int .i64 p.path,.int .i64 p.epo,.int .i64 p.ctr,.slice bp p.body.length bc] 70)=w1 at M  ⊢; generalize eB:w.heap.size=B1 at M hB_B1  ⊢
 have hE_B1:w.heap.size≤B1:=Nat.le_of_eq eB
 have hF_B1:B1≤w.heap.size:=Nat.le_of_eq eB.symm
 clear eB
 replace M:Mm w ([(B1,[.int .i64 p.kind,.int .i64 p.role,.int .i64 p.path,.int .i64 p.epo,.int .i64 p.ctr,.slice bp p.body.length bc])]) w1:=M
 refine xpL (.slice none 0 0) ?_; refine xpL (.int .i64 0) ?_; refine xT ?_; go_upto_region 1 with fail; refine wp_region_list ?_
 refine xaL (.agg #[.int .i64 p.kind,.int .i64 p.role,.int .i64 p.path,.int .i64 p.epo,.int .i64 p.ctr,.slice bp p.body.length bc]) (loadN 70 _ ⟨B1,0,none⟩ [.int .i64 p.kind,.int .i64 p.role,.int .i64 p.path,.int .i64 p.epo,.int .i64 p.ctr,.slice bp p.body.length bc] rfl rfl (fun _=>by kernel_rfl) (fun _=>by kernel_rfl) (M.rangeAt mS)) ?_
 obtain ⟨b1,hb1⟩:∃ y_,y_=(pok p):=⟨_,rfl⟩
 have hC:Calls Tryz.prog 40 #[.agg #[.int .i64 p.kind,.int .i64 p.role,.int .i64 p.path,.int .i64 p.epo,.int .i64 p.ctr,.slice bp p.body.length bc]] w1 (fun e w'=>e=.returned (.bool b1)∧Below w1.heap.size w1 w'):=(by rw [hb1]; exact pmay_any p bp bc _)
 refine xcL (hC) ?_; rintro e w2 ⟨rfl,l⟩; replace M:=M.call l
 refine ⟨_,rfl,?_⟩
 clear l hC; simp only [aP,lI,l0,lS]
 obtain ⟨b2,hb2⟩:∃ y_,y_=(!b1):=⟨_,rfl⟩
 refine xaL (.bool b2) (by subst hb2; cases b1 <;> rfl) ?_; refine xpL (.bool b2) ?_; refine xT ?_
 have hb:b2=!pok p:=by rw [hb2,hb1]
 try clear hb1
 try clear hb2
 cases b2 with
 | true =>
   go_upto_region 2 with fail; refine wp_region_list ?_; refine xpL (.slice none 0 0) ?_; refine xpL (.int .i64 110) ?_; refine xT ?_
   have hok:pok p=false:=by simpa using hb
   have hA:pE p=110∧pL p=[]:=by unfold pE pL; rw [hok]; exact ⟨rfl,rfl⟩
   replace hA:=show Hid _ from hA; clear hb hok; go_wp2; go_ret2
   exact ⟨⟨_,by rw [hA.out.1]; rfl,by rw [hA.out.2]; exact World.ownsRow_nil _ _ _ 1⟩,M.below⟩
 | false =>
   have hok:pok p=true:=by simpa using hb
   have hlen:p.body.length≤300:=by rcases (pok_iff p).1 hok with h | h; exact h.2.1.2; have:=h.2.2.2.2.2; omega
   have hA:pE p=0∧pL p=pby p:=by unfold pE pL; rw [if_pos hok,if_pos hok]; exact ⟨rfl,rfl⟩
   clear hb
   by_cases h3:p.kind=3
   · have hh:phd p=hdr p:=phd_rec h3 hok
     have hhl:=hdr_length p; go_upto_region 3 with fail; refine wp_region_list ?_; refine xpL (.pointer (some ⟨B1,0,none⟩)) ?_; refine xaL (.int .i64 p.kind) (load1 3 _ ⟨B1,0,none⟩ _ rfl rfl (fun _=>by kernel_rfl) (M.get mS 0 _ rfl)) ?_; refine xaL (.bool true) (eqlI .i64 _ _ _ _ _ _ rfl rfl rfl true (by rw [h3]; rfl) _) ?_; refine xpL (.bool true) ?_; refine xT ?_
     go_upto_region 4 with fail; refine wp_region_held_drew (S:=fun w'=>Mm w [(B1,[.int .i64 p.kind,.int .i64 p.role,.int .i64 p.path,.int .i64 p.epo,.int .i64 p.ctr,.slice bp p.body.length bc])] w') (by kernel_rfl) M.drew ?_; clear M; intro M; generalize w2.drew=w3 at M  ⊢
     refine xrH 0 12 rfl (.agg #[.int .i64 p.kind,.int .i64 p.role,.int .i64 p.path,.int .i64 p.epo,.int .i64 p.ctr,.slice bp p.body.length bc]) (fun _ M=>loadN 70 _ ⟨B1,0,none⟩ [.int .i64 p.kind,.int .i64 p.role,.int .i64 p.path,.int .i64 p.epo,.int .i64 p.ctr,.slice bp p.body.length bc] rfl rfl (fun _=>by kernel_rfl) (fun _=>by kernel_rfl) (M.rangeAt mS)) M ?_
     refine xrH 2 14 rfl (.pointer (some ⟨B1,5,none⟩)) (fun _ M=>(by kernel_rfl)) M ?_; refine xrH 3 15 rfl (.slice bp p.body.length bc) (fun _ M=>load1 29 _ ⟨B1,5,none⟩ _ rfl rfl (fun _=>by kernel_rfl) (M.get mS 5 _ rfl)) M ?_; refine callH (i:=1) (some 13) rfl (by kernel_rfl) rfl rfl (fun _=>by kernel_rfl) (vhead_any p bp bc _ (hg.mm M) (hp.below M.below (xnR _))) ?_
     rintro e w4 ⟨⟨v,rfl,O_1⟩,l⟩; replace M:=M.call l; clear l
     rw [hh] at O_1
     obtain ⟨p1,c1,rfl,_,_⟩:=O_1.bytes
     refine ⟨_,rfl,M,?_⟩
     simp only [aP,lI,l0,lS]; have HC:=catIn2 w4.heap.size p1 bp ((hdr p).length) p.body.length c1 bc (bl (hdr p)) (bl p.body) 29 rfl O_1.src (hp.src.below M.below (xnR _)) O_1.nilCap hp.nil; have hlb:=(Below.refl w4.heap.size w4).alloc (xnR _) (.cells #[.slice p1 ((hdr p).length) c1,.slice bp p.body.length bc] 29)
     refine onlyH (i:=4) (some 16) rfl (.slice (some ⟨w4.heap.size,0,none⟩) 2 2) (by kernel_rfl) rfl rfl (by kernel_rfl) (M.call hlb) ?_; simp only [aP,lI,l0,lS]; replace M:=M.call hlb; clear hlb O_1; generalize hC:w4.heap.size=C at HC ⊢; clear hC; generalize (w4.alloc (.cells #[.slice p1 ((hdr p).length) c1,.slice bp p.body.length bc] 29))=w5 at M HC ⊢
     refine callH (i:=5) (some 17) rfl (by kernel_rfl) rfl rfl (fun _=>by kernel_rfl) (concat_any ⟨C,0,none⟩ 2 2 _ _ _ _ (by decide) (by rw [tot2]; omega) _ HC) ?_; rintro e w6 ⟨v,rfl,hO,l⟩
     rw [tot2] at hO
     have O_9:OwnL w6 w.heap.size (hdr p++p.body) v:=OwnL.app ((hO.congr fun j _=>catz2 _ _ _ _ j).lower M.below.size)
     replace M:=M.call l; clear l hO HC
     refine ⟨_,rfl,M,?_⟩
     simp only [aP,lI,l0,lS]; refine xrH 6 2 rfl (v) (fun _ M=>(by kernel_rfl)) M ?_; refine xrH 7 3 rfl (.int .i64 0) (fun _ M=>(by kernel_rfl)) M ?_
     refine wpAnyH_done (by kernel_rfl) ?_ _
     first | show Exit.then _ _ _ _ _ | show Exit.inBlock _ _ _ _ _
     have hB:(hdr p++p.body)=pby p:=by unfold pby; rw [if_pos h3]
     replace hA:=show Hid _ from hA; replace hB:=show Hid _ from hB; clear hok hlen hh hhl h3; go_wp2; go_ret2
     exact ⟨⟨_,by rw [hA.out.1]; rfl,by rw [hA.out.2,← hB.out]; exact O_9⟩,M.below⟩
   · have hk:1≤p.kind∧p.kind≤2:=by rcases (pok_iff p).1 hok with h | h; have:=h.1; omega; exact absurd h.1 h3
     go_upto_region 3 with fail; refine wp_region_list ?_; refine xpL (.pointer (some ⟨B1,0,none⟩)) ?_; refine xaL (.int .i64 p.kind) (load1 3 _ ⟨B1,0,none⟩ _ rfl rfl (fun _=>by kernel_rfl) (M.get mS 0 _ rfl)) ?_; refine xaL (.bool false) (eqlI .i64 _ _ _ _ _ _ rfl rfl rfl false (by simpa using h3) _) ?_; refine xpL (.bool false) ?_; refine xT ?_; go_upto_region 5 with fail
     refine wp_region_list ?_; refine xpL (.pointer (some ⟨B1,0,none⟩)) ?_; refine xaL (.int .i64 p.kind) (load1 3 _ ⟨B1,0,none⟩ _ rfl rfl (fun _=>by kernel_rfl) (M.get mS 0 _ rfl)) ?_; refine xaL (.int .u8 p.kind) (convI .i64 .u8 _ _ _ _ _ rfl (by kernel_rfl) Tryz.underlying5 (by kernel_rfl) rfl (by rw [IntKind.wrap_u8]; omega) _) ?_
     refine actL (w':=w2.alloc (.cells #[.int .u8 p.kind] 5)) (.slice (some ⟨w2.heap.size,0,none⟩) 1 1) rfl (by kernel_rfl) ?_; simp only [aP,lI,l0,lS]
     have O_1:OwnL (w2.alloc (.cells #[.int .u8 p.kind] 5)) w.heap.size [p.kind] (.slice (some ⟨w2.heap.size,0,none⟩) 1 1):=Own.lit w2 w.heap.size 5 .u8 1 (bl [p.kind]) M.below.size (by unfold maxLen; omega)
     replace M:=M.call ((Below.refl w2.heap.size w2).alloc (xnR _) (.cells #[.int .u8 p.kind] 5)); generalize w2.alloc (.cells #[.int .u8 p.kind] 5)=w7 at M O_1 ⊢; generalize (some ⟨w2.heap.size,0,none⟩:Option Addr)=p1 at O_1 ⊢; refine xpL (.pointer (some ⟨B1,5,none⟩)) ?_
     refine xaL (.slice bp p.body.length bc) (load1 29 _ ⟨B1,5,none⟩ _ rfl rfl (fun _=>by kernel_rfl) (M.get mS 5 _ rfl)) ?_; have HC:=catIn2 w7.heap.size p1 bp 1 p.body.length 1 bc (bl ([p.kind])) (bl p.body) 29 rfl O_1.src (hp.src.below M.below (xnR _)) O_1.nilCap hp.nil; have hlb:=(Below.refl w7.heap.size w7).alloc (xnR _) (.cells #[.slice p1 1 1,.slice bp p.body.length bc] 29)
     refine actL (w':=(w7.alloc (.cells #[.slice p1 1 1,.slice bp p.body.length bc] 29))) (.slice (some ⟨w7.heap.size,0,none⟩) 2 2) rfl (by kernel_rfl) ?_; simp only [aP,lI,l0,lS]; replace M:=M.call hlb; clear hlb O_1; generalize hC:w7.heap.size=C at HC ⊢; clear hC; generalize (w7.alloc (.cells #[.slice p1 1 1,.slice bp p.body.length bc] 29))=w8 at M HC ⊢
     refine xcL (concat_any ⟨C,0,none⟩ 2 2 _ _ _ _ (by decide) (by rw [tot2]; omega) _ HC) ?_; rintro e w9 ⟨v,rfl,hO,l⟩
     rw [tot2] at hO
     have O_9:OwnL w9 w.heap.size ([p.kind]++p.body) v:=OwnL.app ((hO.congr fun j _=>catz2 _ _ _ _ j).lower M.below.size)
     replace M:=M.call l; clear l hO HC; refine xeL ?_; refine xpL (v) ?_; refine xpL (.int .i64 0) ?_; refine xT ?_
     have hB:([p.kind]++p.body)=pby p:=by unfold pby; rw [if_neg h3]; rfl
     replace hA:=show Hid _ from hA; replace hB:=show Hid _ from hB; clear hok hlen hk h3; go_wp2; go_ret2
     exact ⟨⟨_,by rw [hA.out.1]; rfl,by rw [hA.out.2,← hB.out]; exact O_9⟩,M.below⟩
def TakeFO (len:Nat) (z:Nat→Int) (s:Int) (B:Nat) (e:Ending) (w':World):Prop:=∃ v,e=.returned (.tuple #[.int .i64 (gN len z s),v,.int .i64 (gE len s)])∧Own w' B 5 .u8 (gL len s) (fun j=>z (s.toNat+j)) v
def TakeFixedOw:Prop:=∀ (sp:Option Addr) (len cap:Nat),len≤140737488351240→len≤cap→(sp=none→cap=0)→∀ z:Nat→Int,In 256 len z→∀ s:Int,(-9223372036854775808≤s∧s<9223372036854775808)→∀ w:World,Src w sp len z→Calls Tryz.prog 62 #[.slice sp len cap,.int .i64 s] w fun e w'=>TakeFO len z s w.heap.size e w'∧Below w.heap.size w w'
theorem vtakefixed_own:TakeFixedOw:=by
 intro sp len cap hlen hcap hnil z hz s hs2 w hs
 go_enter Tryz.func62,Tryz.ntmps62
 by_cases hsz':1≤s∧s≤7
 · have hsz:decide (1≤s∧s≤7)=true:=decide_eq_true hsz'
   have hgE:gE len s=if (len:Int)<s then 3 else 0:=by unfold gE; rw [if_neg (by omega)]
   go_upto_region 1 with fail; refine wp_region_list ?_; refine xpL (.int .i64 s) ?_; refine xcL (isSize_any s _) ?_; rintro e w1 ⟨rfl,hB⟩
   rw [hsz]
   refine xeL ?_; refine xpL (.bool false) ?_; show Exit.then _ _ _ _ _; clear hsz
   obtain ⟨s,rfl⟩:=xiN (show 0≤s by omega)
   go_upto_region 3 with fail; refine wp_region_list ?_; refine xpL (.slice sp len cap) ?_; refine xcL (along_any sp len cap hcap hnil z _ (hs.below hB (xnR _))) ?_; rintro e w2 ⟨B,rfl,T⟩; refine xeL ?_; refine xpL (.tuple #[(.func (.func 96) #[] #[.pointer (some ⟨B,0,none⟩)]),(.func (.func 97) #[] #[.pointer (some ⟨B,0,none⟩)])]) ?_
   refine xpL (.func (.func 96) #[] #[.pointer (some ⟨B,0,none⟩)]) ?_; refine xpL (.func (.func 97) #[] #[.pointer (some ⟨B,0,none⟩)]) ?_; refine xpL (.func (.func 96) #[] #[.pointer (some ⟨B,0,none⟩)]) ?_; refine xpL (.func (.func 97) #[] #[.pointer (some ⟨B,0,none⟩)]) ?_; show Exit.then _ _ _ _ _; go_upto_region 4 with fail; refine wp_region_list ?_
   refine xpL (.func (.func 96) #[] #[.pointer (some ⟨B,0,none⟩)]) ?_; refine xpL (.int .i64 (s:Int)) ?_; refine xcL (next_any w1 B len z s _ T) ?_; intro e w3 h; clear T
   rcases h with ⟨h1,rfl,T⟩ | ⟨h1,dp,dc,rfl,hdc,hdn,hds,T⟩
   · have hE:gE len (s:Int)=3:=by rw [hgE,if_pos (by omega)]
     have hN:gN len z (s:Int)=0:=by unfold gN; rw [hE]; rfl
     have hL:gL len (s:Int)=0:=by unfold gL; rw [hE]; rfl
     replace hB:=hB.trans (T.below.mono hB.size); refine xeL ?_; refine xpL (.tuple #[(.slice none 0 0),.bool false]) ?_; refine xpL (.slice none 0 0) ?_; refine xpL (.bool false) ?_; refine xpL (.slice none 0 0) ?_; refine xpL (.bool false) ?_; show Exit.then _ _ _ _ _; go_upto_region 5 with fail; refine wp_region_list ?_; refine xpL (.bool false) ?_; refine xpL (.bool true) ?_
     show Exit.then _ _ _ _ _; have hA:=show Hid _ from (And.intro hN (And.intro hL hE)); clear hN hL hE; go_wp2; refine bodyPost_ret (results_tmp3 Tryz.results62 _ _ _) rfl ?_
     exact ⟨⟨.slice none 0 0,by rw [hA.out.1,hA.out.2.2]; rfl,by rw [hA.out.2.1]; exact World.ownsRow_nil _ _ _ 1⟩,hB⟩
   · have hE:gE len (s:Int)=0:=by rw [hgE,if_neg (by omega)]
     have hN:gN len z (s:Int)=fV z s:=by unfold gN; rw [if_pos hE,Int.toNat_natCast]
     have hL:gL len (s:Int)=len-s:=by unfold gL; rw [if_pos hE,Int.toNat_natCast]
     refine xeL ?_; refine xpL (.tuple #[(.slice dp s dc),.bool true]) ?_; refine xpL (.slice dp s dc) ?_; refine xpL (.bool true) ?_; refine xpL (.slice dp s dc) ?_; refine xpL (.bool true) ?_; show Exit.then _ _ _ _ _; go_upto_region 5 with fail; refine wp_region_list ?_; refine xpL (.bool true) ?_; refine xpL (.bool false) ?_; show Exit.then _ _ _ _ _; go_upto_region 7 with fail
     refine wp_region_list ?_; refine xpL (.slice dp s dc) ?_; refine xcL (vjoin_any 0 (by decide) dp s dc (by omega) z (fun j hj=>hz j (by omega)) _ (hds.below T.below (xnR _))) ?_; rintro e w4 ⟨rfl,l⟩
     rw [jV_zero z s]
     replace T:=T.call l; clear l; refine xeL ?_; refine xpL (.func (.func 97) #[] #[.pointer (some ⟨B,0,none⟩)]) ?_; replace hB:=hB.trans (T.below.mono hB.size); refine xcL (left_any w1 B _ (by omega) _ _ T) ?_; rintro e w5 ⟨v,rfl,hO,l⟩
     obtain ⟨rp,rc,rfl,_,_⟩:=hO.bytes
     replace hO:=hO.lower hB.size; replace hB:=hB.trans (l.mono hB.size); clear T l; refine xeL ?_; refine xpL (.int .i64 (fV z s)) ?_; refine xpL (.slice rp (len-s) rc) ?_; refine xpL (.int .i64 0) ?_; show Exit.then _ _ _ _ _; have hA:=show Hid _ from (And.intro hN (And.intro hL hE)); clear hN hL hE hgE; go_wp2; refine bodyPost_ret (results_tmp3 Tryz.results62 _ _ _) rfl ?_
     exact ⟨⟨_,by rw [hA.out.1,hA.out.2.2]; rfl,by rw [hA.out.2.1]; exact hO⟩,hB⟩
 · have hsz:decide (1≤s∧s≤7)=false:=decide_eq_false hsz'
   have hE:gE len s=1:=by unfold gE; rw [if_pos (by omega)]
   have hN:gN len z s=0:=by unfold gN; rw [hE]; rfl
   have hL:gL len s=0:=by unfold gL; rw [hE]; rfl
   go_upto_region 1 with fail; refine wp_region_list ?_; refine xpL (.int .i64 s) ?_; refine xcL (isSize_any s _) ?_; rintro e w1 ⟨rfl,hB⟩
   rw [hsz]
   refine xeL ?_; refine xpL (.bool true) ?_; show Exit.then _ _ _ _ _; have hA:=show Hid _ from (And.intro hN (And.intro hL hE)); clear hN hL hE; go_wp2; refine bodyPost_ret (results_tmp3 Tryz.results62 _ _ _) rfl ?_
   exact ⟨⟨.slice none 0 0,by rw [hA.out.1,hA.out.2.2]; rfl,by rw [hA.out.2.1]; exact World.ownsRow_nil _ _ _ 1⟩,hB⟩
end Go.Proofs.YtknodedhcdpbiaaGreatDoor
