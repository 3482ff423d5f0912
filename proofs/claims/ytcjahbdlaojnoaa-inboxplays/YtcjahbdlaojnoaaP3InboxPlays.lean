/- Texts of Dd Nt Db Df Dj Dk Dn, joined. -/
import Derived.Test.YtcjahbdlaojnoaaP2InboxPlays
set_option maxRecDepth 20000
set_option maxHeartbeats 64000000
namespace Go.Proofs.Ytcjahbdlaojnoaa
open Go.RowKit
section
def iput (f:Nat→Int) (i:Nat) (v:Int):Nat→Int:=fun j=>if j=i then v else f j
theorem row_put19 (n:Nat) (f:Nat→Int) (i:Nat) (v:Int):(row .u8 n f).set i (.int .u8 v)=row .u8 n (iput f i v):=by
 refine List.ext_getElem? fun j=>?_
 rw [List.getElem?_set]
 by_cases hj:j<n
 · rw [row_get .u8 n f j hj,row_get .u8 n (iput f i v) j hj,row_length]
   unfold iput
   by_cases c:i=j
   · subst c
     rw [if_pos rfl,if_pos hj,if_pos rfl]
   · rw [if_neg c,if_neg fun e=>c e.symm]
 · have h1:(row .u8 n f)[j]?=none:=List.getElem?_eq_none (by rw [row_length]; omega)
   have h2:(row .u8 n (iput f i v))[j]?=none:=List.getElem?_eq_none (by rw [row_length]; omega)
   rw [h1,h2,row_length]
   split
   · rw [if_neg (by omega)]
   · rfl
theorem app_zero19 {f:Nat→Int} {n:Nat} (h:f n=0) (j:Nat):j<n+1→app f n (fun _=>0) j=f j:=fun hj=>by
 unfold app
 split
 · rfl
 · obtain rfl:j=n:=by omega
   rw [h]
theorem bput_id {f:Nat→Bool} {n:Nat} (h:f n=false) (j:Nat):bput f n false j=f j:=by
 by_cases c:j=n
 · subst c; rw [bput_same,h]
 · rw [bput_other c]
def rowlen19 (w:World) (R:Nat):Nat:=match w.cell? ⟨R,2,none⟩ with | some (.slice _ n _)=>n | _=>0
theorem rowlen19_at {w0 w:World} {R n:Nat} {a b:Value} {sb:Option Addr} {cb:Nat} {d:Value} {l:List (Nat × List Value)} (M:Mm w0 ((R,[a,b,.slice sb n cb,d])::l) w):rowlen19 w R=n:=by
 have h:=M.get mS 2 (.slice sb n cb) rfl
 unfold rowlen19
 rw [h]
section
variable {x:Ibx} {at_:Int} {bs:List Int} {i:Nat}
theorem inw_bad (h:at_<0∨(ilim x:Int)≤at_) (m k:Nat):inw x at_ m k=false:=by
 cases e:inw x at_ m k
 · rfl
 · have:=(inw_iff.1 e).1; omega
theorem take_len (hi:i≤bs.length):(bs.take i).length=i:=by rw [List.length_take]; omega
theorem itp_is (hi:i≤bs.length) (k:Nat):(itk x at_ (bs.take i)).is k=(x.is k || inw x at_ i k):=by
 show (x.is k || inw x at_ (bs.take i).length k)=_
 rw [take_len hi]
theorem itp_b (hi:i≤bs.length) (k:Nat):(itk x at_ (bs.take i)).b k=if inw x at_ i k=true then bl bs (k-at_.toNat) else x.b k:=by
 show (if inw x at_ (bs.take i).length k=true then bl (bs.take i) (k-at_.toNat) else x.b k)=_
 rw [take_len hi]
 split
 · next c =>
   have:=(inw_iff.1 c).1
   unfold bl
   rw [List.getD_eq_getElem?_getD,List.getD_eq_getElem?_getD,List.getElem?_take_of_lt (by omega)]
 · rfl
theorem inw_pass (h0:0≤at_) (h:at_.toNat+i<x.dn∨ilim x≤at_.toNat+i∨x.is (at_.toNat+i)=true) (k:Nat):inw x at_ (i+1) k=inw x at_ i k:=by
 rw [Bool.eq_iff_iff,inw_iff,inw_iff]
 constructor
 · rintro ⟨⟨a,b,c,d,e⟩,f⟩
   refine ⟨⟨a,b,?_,d,e⟩,f⟩
   by_cases hk:k=at_.toNat+i
   · subst hk
     rcases h with h | h | h
     · omega
     · omega
     · rw [f] at h; cases h
   · omega
 · rintro ⟨⟨a,b,c,d,e⟩,f⟩
   exact ⟨⟨a,b,by omega,d,e⟩,f⟩
theorem inw_here (h0:0≤at_) (h1:x.dn≤at_.toNat+i) (h2:at_.toNat+i<ilim x) (h3:x.is (at_.toNat+i)=false) (k:Nat):inw x at_ (i+1) k=(inw x at_ i k || decide (k=at_.toNat+i)):=by
 rw [Bool.eq_iff_iff,inw_iff,Bool.or_eq_true,inw_iff,decide_eq_true_eq]
 constructor
 · rintro ⟨⟨a,b,c,d,e⟩,f⟩
   by_cases hk:k=at_.toNat+i
   · exact .inr hk
   · exact .inl ⟨⟨a,b,by omega,d,e⟩,f⟩
 · rintro (⟨⟨a,b,c,d,e⟩,f⟩ | rfl)
   · exact ⟨⟨a,b,by omega,d,e⟩,f⟩
   · exact ⟨⟨h0,by omega,by omega,h1,h2⟩,h3⟩
theorem itN_pass (h:∀ k,inw x at_ (i+1) k=inw x at_ i k):itN x at_ (i+1)=itN x at_ i:=icnt_congr fun k _=>h k
theorem itN_here (h0:0≤at_) (h1:x.dn≤at_.toNat+i) (h2:at_.toNat+i<ilim x) (h3:x.is (at_.toNat+i)=false):itN x at_ (i+1)=itN x at_ i+1:=by
 unfold itN
 rw [icnt_congr fun k _=>inw_here h0 h1 h2 h3 k,icnt_or fun k _ hk=>by
  rw [decide_eq_true_eq] at hk
  cases e:inw x at_ i k
  · rfl
  · have:=(inw_iff.1 e).1; omega]
 congr 1
 have hone:∀ n,at_.toNat+i<n→icnt (fun k=>decide (k=at_.toNat+i)) n=1:=fun n hn=>by
  have e:=icnt_more (fun k=>decide (k=at_.toNat+i)) (at_.toNat+i+1) (n-(at_.toNat+i+1)) fun j hj _=>decide_eq_false (by omega)
  rw [show at_.toNat+i+1+(n-(at_.toNat+i+1))=n by omega] at e
  rw [e,icnt_yes (decide_eq_true rfl),icnt_none fun j hj=>decide_eq_false (by omega)]
 exact hone _ h2
end
def DTk (w0 w:World) (R:Nat) (l:List (Nat × List Value)) (x:Ibx) (sb si:Option Addr) (at_:Int) (bs:List Int) (e:Ending) (w':World):Prop:=∃ n' sb' si' cb' ci',e=.returned (.int .i64 ((itN x at_ bs.length:Nat):Int))∧(∀ k,(itk x at_ bs).is k=true→k<n')∧n'≤ilim x∧Mm w0 ((R,dcs19 x n' sb' si' cb' ci')::(obs sb'++(obs si'++l))) w'∧w'.ownsRow w0.heap.size 5 1 (.slice sb' n' cb') n' (row .u8 n' (itk x at_ bs).b)∧w'.ownsRow w0.heap.size 4 1 (.slice si' n' ci') n' (brw n' (itk x at_ bs).is)∧Off (R::(ob sb++ob si)) w w'
theorem dtake_any (w0 w:World) (R:Nat) (l:List (Nat × List Value)) (x:Ibx) (n:Nat) (sb si:Option Addr) (cb ci:Nat) (hw:IbxW x) (hn:∀ k,x.is k=true→k<n) (hnl:n≤ilim x) (hln:x.dn<10000000) (at_:Int) (hat:i64 at_) (sp:Option Addr) (cap:Nat) (bs:List Int) (hbb:Byts bs) (hbl:bs.length<1000000) (A_s:SrcA (R::(ob sb++ob si)) w sp bs.length (bl bs)) (M:Mm w0 ((R,dcs19 x n sb si cb ci)::(obs sb++(obs si++l))) w) (V_b:w.ownsRow w0.heap.size 5 1 (.slice sb n cb) n (row .u8 n x.b)) (V_i:w.ownsRow w0.heap.size 4 1 (.slice si n ci) n (brw n x.is)) :
 Calls Try.prog 12 #[.pointer (some ⟨R,0,none⟩),.int .i64 at_,.slice sp bs.length cap] w fun e w'=>DTk w0 w R l x sb si at_ bs e w':=by
 replace M:Mm w0 ((R,[.int .i64 ((x.size:Nat):Int),.int .i64 ((x.dn:Nat):Int),.slice sb n cb,.slice si n ci])::((obs sb)++((obs si)++l))) w:=M
 have hb0:=M.below
 obtain ⟨XS,hXS⟩:∃ X_,X_=(R::(ob sb++ob si)):=⟨_,rfl⟩
 have hRX:R∈XS:=by rw [hXS]; simp
 rw [← hXS] at A_s
 have L_b:Lies XS w sb:=fun b_ hb_=>.inl (by rw [hXS]; simp [hb_])
 have L_i:Lies XS w si:=fun b_ hb_=>.inl (by rw [hXS]; simp [hb_])
 have OF:=Off.refl XS w; have hs1:=hw.s1; have hs2:=hw.s2; have hdn:=dn_le hw hn
 have hli:ilim x=x.dn+x.size:=rfl
 go_enter Try.func12,Try.ntmps12
 unfold i64 at hat
 go_upto_region 0 with fail; refine wp_region_list ?_; refine xpL (.int .i64 0) ?_; refine xT ?_; go_upto_region 1 with fail; refine wp_region_list ?_; refine xpL (.int .i64 0) ?_; refine xT ?_; go_upto_region 2 with fail; refine wp_region_list ?_; refine xpL (.int .i64 0) ?_; refine xT ?_
 rw [row_congr .u8 n (fun k _=>(show x.b k=(itk x at_ (bs.take 0)).b k by rw [itp_b (Nat.zero_le _),if_neg (fun h=>by have:=(inw_iff.1 h).1; omega)]))] at V_b
 rw [brw_congr (fun k _=>(show x.is k=(itk x at_ (bs.take 0)).is k by rw [itp_is (Nat.zero_le _),show inw x at_ 0 k=false from Bool.eq_false_iff.2 (fun h=>by have:=(inw_iff.1 h).1; omega),Bool.or_false]))] at V_i
 have hn0:∀ k,(itk x at_ (bs.take 0)).is k=true→k<n:=fun k hk=>by
  rw [itp_is (Nat.zero_le _),Bool.or_eq_true] at hk
  rcases hk with h | h
  · exact hn k h
  · have:=(inw_iff.1 h).1; omega
 have HI:=show Hid _ from (show (∀ k,(itk x at_ (bs.take 0)).is k=true→k<n)∧n≤ilim x∧Mm w0 ((R,[.int .i64 ((x.size:Nat):Int),.int .i64 ((x.dn:Nat):Int),.slice sb n cb,.slice si n ci])::((obs sb)++((obs si)++l))) w∧w.ownsRow w0.heap.size 5 1 (.slice sb n cb) n (row .u8 n (itk x at_ (bs.take 0)).b)∧w.ownsRow w0.heap.size 4 1 (.slice si n ci) n (brw n (itk x at_ (bs.take 0)).is)∧Lies XS w sb∧Lies XS w si∧Off XS w w from ⟨hn0,hnl,M,V_b,V_i,L_b,L_i,OF⟩)
 clear M V_b V_i L_b L_i OF; go_wp2
 go_loopw [7,8] (fun c v w'=>∃ (i' n':Nat) (sb' si':Option Addr) (cb' ci':Nat),i'≤bs.length∧c=.int .i64 ((itN x at_ i':Nat):Int)∧v=.int .i64 (i':Int)∧(∀ k,(itk x at_ (bs.take i')).is k=true→k<n')∧n'≤ilim x∧Mm w0 ((R,[.int .i64 ((x.size:Nat):Int),.int .i64 ((x.dn:Nat):Int),.slice sb' n' cb',.slice si' n' ci'])::((obs sb')++((obs si')++l))) w'∧w'.ownsRow w0.heap.size 5 1 (.slice sb' n' cb') n' (row .u8 n' (itk x at_ (bs.take i')).b)∧w'.ownsRow w0.heap.size 4 1 (.slice si' n' ci') n' (brw n' (itk x at_ (bs.take i')).is)∧Lies XS w sb'∧Lies XS w si'∧Off XS w w') (fun _ v _=>bs.length-(intOf v).toNat)
 case atStart=>exact ⟨0,n,sb,si,cb,ci,Nat.zero_le _,by rw [show itN x at_ 0=0 from icnt_none fun k _=>Bool.eq_false_iff.2 (fun h=>by have:=(inw_iff.1 h).1; omega)]; rfl,rfl,HI.out⟩
 case round =>
  clear HI hn0
  obtain ⟨i,n1,sb1,si1,cb1,ci1,hi,rfl,rfl,hn1,hn1l,M,V_b,V_i,L_b,L_i,OF⟩:=hrel
  have hYw:IbxW (itk x at_ (bs.take i)):=itk_w hw at_ (fun z hz=>hbb z (List.mem_of_mem_take hz))
  have hYz:=hYw.z; have hcn:=itN_le x at_ i
  by_cases h1:i<bs.length
  · by_cases h2:0≤at_
    · by_cases h3:at_<(ilim x:Int)
      · go_upto_region 3 with fail
        refine wp_region_list ?_; refine xpL (.int .i64 (i:Int)) ?_; refine xpL (.slice sp bs.length cap) ?_; refine xaL (.int .i64 ((bs.length:Nat):Int)) (lenS _ 28 5 sp bs.length cap rfl Try.underlying28 rfl _) ?_; refine xaL (.bool true) (lssI .i64 _ _ _ _ _ _ rfl rfl rfl true (decide_eq_true (by omega)) _) ?_; refine xpL (.bool true) ?_; refine xpL (.int .i64 at_) ?_
        refine xaL (.bool true) (geqI .i64 _ _ _ _ _ _ rfl rfl rfl true (decide_eq_true (by omega)) _) ?_; refine xpL (.bool true) ?_; refine xpL (.bool true) ?_; refine xpL (.int .i64 at_) ?_; refine xpL (.pointer (some ⟨R,0,none⟩)) ?_; have key:=dlim_any w0 _ R _ (itk x at_ (bs.take i)) n1 sb1 si1 cb1 ci1 hYw hn1 hn1l hln M V_b V_i
        rw [show ilim (itk x at_ (bs.take i))=ilim x from rfl] at key
        refine xcL key ?_; clear key; rintro e w2 ⟨rfl,l_⟩; replace M:=M.call l_; replace V_b:=ownsRow_bel V_b l_; replace V_i:=ownsRow_bel V_i l_; replace OF:=OF.below l_; clear l_; refine xeL ?_; refine xaL (.bool true) (lssI .i64 _ _ _ _ _ _ rfl rfl rfl true (decide_eq_true (by omega)) _) ?_; refine xpL (.bool true) ?_; refine xT ?_; go_upto_region 5 with fail
        refine wp_region_list ?_; refine xpL (.int .i64 at_) ?_; refine xpL (.int .i64 (i:Int)) ?_; refine readL (.int .i64 (((at_.toNat+i):Nat):Int)) rfl (addI .i64 _ _ _ _ _ _ _ rfl rfl rfl (by rw [xw6]; omega) _) ?_; simp only [aP,lI,l0,lS]; refine xpL (.int .i64 (((at_.toNat+i):Nat):Int)) ?_; refine xT ?_
        by_cases h4:(at_.toNat+i)<x.dn
        · go_upto_region 6 with fail
          refine wp_region_list ?_; refine xpL (.int .i64 (((at_.toNat+i):Nat):Int)) ?_; refine xpL (.pointer (some ⟨R,0,none⟩)) ?_; refine xpL (.pointer (some ⟨R,0,none⟩)) ?_; refine xpL (.pointer (some ⟨R,1,none⟩)) ?_; refine xaL (.int .i64 ((x.dn:Nat):Int)) (load1 3 _ ⟨R,1,none⟩ _ rfl rfl (fun _=>by kernel_rfl) (M.get mS 1 _ rfl)) ?_
          refine xaL (.bool true) (lssI .i64 _ _ _ _ _ _ rfl rfl rfl true (decide_eq_true (by omega)) _) ?_; refine xpL (.bool true) ?_
          with_reducible refine skipL ?_ ?_
          · rfl
          simp only [aP,lI,l0,lS]
          with_reducible refine skipL ?_ ?_
          · rfl
          simp only [aP,lI,l0,lS]
          with_reducible refine skipL ?_ ?_
          · rfl
          simp only [aP,lI,l0,lS]
          with_reducible refine skipL ?_ ?_
          · rfl
          simp only [aP,lI,l0,lS]; refine xpL (.bool true) ?_; refine xT ?_; have hpass:=inw_pass (x:=x) (at_:=at_) (i:=i) (by omega) (.inl (by omega)); have hN:=show Hid _ from (show itN x at_ i=itN x at_ (i+1) from (itN_pass hpass).symm)
          rw [row_congr .u8 n1 (fun k _=>(show (itk x at_ (bs.take i)).b k=(itk x at_ (bs.take (i+1))).b k by rw [itp_b hi,itp_b (show i+1≤bs.length by omega),hpass k]))] at V_b
          rw [brw_congr (fun k _=>(show (itk x at_ (bs.take i)).is k=(itk x at_ (bs.take (i+1))).is k by rw [itp_is hi,itp_is (show i+1≤bs.length by omega),hpass k]))] at V_i
          have hn3:∀ k,(itk x at_ (bs.take (i+1))).is k=true→k<n1:=fun k hk=>hn1 k (by rw [(show (itk x at_ (bs.take i)).is k=(itk x at_ (bs.take (i+1))).is k by rw [itp_is hi,itp_is (show i+1≤bs.length by omega),hpass k])]; exact hk)
          have HS:=show Hid _ from (show (∀ k,(itk x at_ (bs.take (i+1))).is k=true→k<n1)∧n1≤ilim x∧Mm w0 ((R,[.int .i64 ((x.size:Nat):Int),.int .i64 ((x.dn:Nat):Int),.slice sb1 n1 cb1,.slice si1 n1 ci1])::((obs sb1)++((obs si1)++l))) w2∧w2.ownsRow w0.heap.size 5 1 (.slice sb1 n1 cb1) n1 (row .u8 n1 (itk x at_ (bs.take (i+1))).b)∧w2.ownsRow w0.heap.size 4 1 (.slice si1 n1 ci1) n1 (brw n1 (itk x at_ (bs.take (i+1))).is)∧Lies XS w sb1∧Lies XS w si1∧Off XS w w2 from ⟨hn3,hn1l,M,V_b,V_i,L_b,L_i,OF⟩)
          clear M V_b V_i L_b L_i OF hn3 hpass; go_wp2
          go_roundw
          case rel=>exact ⟨i+1,n1,sb1,si1,cb1,ci1,by omega,by rw [hN.out],by go_num,HS.out⟩
          case measure=>simp [intOf]; omega
        · by_cases h5:ilim x≤(at_.toNat+i)
          · go_upto_region 6 with fail
            refine wp_region_list ?_; refine xpL (.int .i64 (((at_.toNat+i):Nat):Int)) ?_; refine xpL (.pointer (some ⟨R,0,none⟩)) ?_; refine xpL (.pointer (some ⟨R,0,none⟩)) ?_; refine xpL (.pointer (some ⟨R,1,none⟩)) ?_; refine xaL (.int .i64 ((x.dn:Nat):Int)) (load1 3 _ ⟨R,1,none⟩ _ rfl rfl (fun _=>by kernel_rfl) (M.get mS 1 _ rfl)) ?_
            refine xaL (.bool false) (lssI .i64 _ _ _ _ _ _ rfl rfl rfl false (decide_eq_false (by omega)) _) ?_; refine xpL (.bool false) ?_; refine xpL (.int .i64 (((at_.toNat+i):Nat):Int)) ?_; refine xpL (.pointer (some ⟨R,0,none⟩)) ?_; have key:=dlim_any w0 _ R _ (itk x at_ (bs.take i)) n1 sb1 si1 cb1 ci1 hYw hn1 hn1l hln M V_b V_i
            rw [show ilim (itk x at_ (bs.take i))=ilim x from rfl] at key
            refine xcL key ?_; clear key; rintro e w3 ⟨rfl,l_⟩; replace M:=M.call l_; replace V_b:=ownsRow_bel V_b l_; replace V_i:=ownsRow_bel V_i l_; replace OF:=OF.below l_; clear l_; refine xeL ?_; refine xaL (.bool true) (geqI .i64 _ _ _ _ _ _ rfl rfl rfl true (decide_eq_true (by omega)) _) ?_; refine xpL (.bool true) ?_; refine xT ?_
            have hpass:=inw_pass (x:=x) (at_:=at_) (i:=i) (by omega) (.inr (.inl (by omega))); have hN:=show Hid _ from (show itN x at_ i=itN x at_ (i+1) from (itN_pass hpass).symm)
            rw [row_congr .u8 n1 (fun k _=>(show (itk x at_ (bs.take i)).b k=(itk x at_ (bs.take (i+1))).b k by rw [itp_b hi,itp_b (show i+1≤bs.length by omega),hpass k]))] at V_b
            rw [brw_congr (fun k _=>(show (itk x at_ (bs.take i)).is k=(itk x at_ (bs.take (i+1))).is k by rw [itp_is hi,itp_is (show i+1≤bs.length by omega),hpass k]))] at V_i
            have hn3:∀ k,(itk x at_ (bs.take (i+1))).is k=true→k<n1:=fun k hk=>hn1 k (by rw [(show (itk x at_ (bs.take i)).is k=(itk x at_ (bs.take (i+1))).is k by rw [itp_is hi,itp_is (show i+1≤bs.length by omega),hpass k])]; exact hk)
            have HS:=show Hid _ from (show (∀ k,(itk x at_ (bs.take (i+1))).is k=true→k<n1)∧n1≤ilim x∧Mm w0 ((R,[.int .i64 ((x.size:Nat):Int),.int .i64 ((x.dn:Nat):Int),.slice sb1 n1 cb1,.slice si1 n1 ci1])::((obs sb1)++((obs si1)++l))) w3∧w3.ownsRow w0.heap.size 5 1 (.slice sb1 n1 cb1) n1 (row .u8 n1 (itk x at_ (bs.take (i+1))).b)∧w3.ownsRow w0.heap.size 4 1 (.slice si1 n1 ci1) n1 (brw n1 (itk x at_ (bs.take (i+1))).is)∧Lies XS w sb1∧Lies XS w si1∧Off XS w w3 from ⟨hn3,hn1l,M,V_b,V_i,L_b,L_i,OF⟩)
            clear M V_b V_i L_b L_i OF hn3 hpass; go_wp2
            go_roundw
            case rel=>exact ⟨i+1,n1,sb1,si1,cb1,ci1,by omega,by rw [hN.out],by go_num,HS.out⟩
            case measure=>simp [intOf]; omega
          · go_upto_region 6 with fail
            refine wp_region_list ?_; refine xpL (.int .i64 (((at_.toNat+i):Nat):Int)) ?_; refine xpL (.pointer (some ⟨R,0,none⟩)) ?_; refine xpL (.pointer (some ⟨R,0,none⟩)) ?_; refine xpL (.pointer (some ⟨R,1,none⟩)) ?_; refine xaL (.int .i64 ((x.dn:Nat):Int)) (load1 3 _ ⟨R,1,none⟩ _ rfl rfl (fun _=>by kernel_rfl) (M.get mS 1 _ rfl)) ?_
            refine xaL (.bool false) (lssI .i64 _ _ _ _ _ _ rfl rfl rfl false (decide_eq_false (by omega)) _) ?_; refine xpL (.bool false) ?_; refine xpL (.int .i64 (((at_.toNat+i):Nat):Int)) ?_; refine xpL (.pointer (some ⟨R,0,none⟩)) ?_; have key:=dlim_any w0 _ R _ (itk x at_ (bs.take i)) n1 sb1 si1 cb1 ci1 hYw hn1 hn1l hln M V_b V_i
            rw [show ilim (itk x at_ (bs.take i))=ilim x from rfl] at key
            refine xcL key ?_; clear key; rintro e w4 ⟨rfl,l_⟩; replace M:=M.call l_; replace V_b:=ownsRow_bel V_b l_; replace V_i:=ownsRow_bel V_i l_; replace OF:=OF.below l_; clear l_; refine xeL ?_; refine xaL (.bool false) (geqI .i64 _ _ _ _ _ _ rfl rfl rfl false (decide_eq_false (by omega)) _) ?_; refine xpL (.bool false) ?_; refine xT ?_
            have HI:=show Hid _ from (show n1≤n1∧n1≤max n1 ((at_.toNat+i)+1)∧Mm w0 ((R,[.int .i64 ((x.size:Nat):Int),.int .i64 ((x.dn:Nat):Int),.slice sb1 n1 cb1,.slice si1 n1 ci1])::((obs sb1)++((obs si1)++l))) w4∧w4.ownsRow w0.heap.size 5 1 (.slice sb1 n1 cb1) n1 (row .u8 n1 (itk x at_ (bs.take i)).b)∧w4.ownsRow w0.heap.size 4 1 (.slice si1 n1 ci1) n1 (brw n1 (itk x at_ (bs.take i)).is)∧Lies XS w sb1∧Lies XS w si1∧Off XS w w4 from ⟨xnR _,by omega,M,V_b,V_i,L_b,L_i,OF⟩)
            clear M V_b V_i L_b L_i OF; go_wp2
            go_loopw [] (fun w'=>∃ (n2:Nat) (sb2 si2:Option Addr) (cb2 ci2:Nat),n1≤n2∧n2≤max n1 ((at_.toNat+i)+1)∧Mm w0 ((R,[.int .i64 ((x.size:Nat):Int),.int .i64 ((x.dn:Nat):Int),.slice sb2 n2 cb2,.slice si2 n2 ci2])::((obs sb2)++((obs si2)++l))) w'∧w'.ownsRow w0.heap.size 5 1 (.slice sb2 n2 cb2) n2 (row .u8 n2 (itk x at_ (bs.take i)).b)∧w'.ownsRow w0.heap.size 4 1 (.slice si2 n2 ci2) n2 (brw n2 (itk x at_ (bs.take i)).is)∧Lies XS w sb2∧Lies XS w si2∧Off XS w w') (fun w'=>max n1 ((at_.toNat+i)+1)-rowlen19 w' R)
            case atStart=>exact ⟨n1,sb1,si1,cb1,ci1,HI.out⟩
            case round =>
             clear HI
             obtain ⟨n2,sb2,si2,cb2,ci2,hn12,hn2m,M,V_b,V_i,L_b,L_i,OF⟩:=hrel
             have hn2:∀ k,(itk x at_ (bs.take i)).is k=true→k<n2:=fun k hk=>xnL (hn1 k hk) hn12
             have hrl:=rowlen19_at M
             by_cases hmo:n2≤(at_.toNat+i)
             · go_upto_region 7 with fail
               refine wp_region_list ?_; refine xpL (.pointer (some ⟨R,0,none⟩)) ?_; refine xpL (.pointer (some ⟨R,0,none⟩)) ?_; refine xpL (.pointer (some ⟨R,2,none⟩)) ?_; refine xaL (.slice sb2 n2 cb2) (load1 28 _ ⟨R,2,none⟩ _ rfl rfl (fun _=>by kernel_rfl) (M.get mS 2 _ rfl)) ?_; refine xaL (.int .i64 ((n2:Nat):Int)) (lenS _ 28 5 sb2 n2 cb2 rfl Try.underlying28 rfl _) ?_
               refine xpL (.int .i64 (((at_.toNat+i):Nat):Int)) ?_; refine xaL (.bool true) (leqI .i64 _ _ _ _ _ _ rfl rfl rfl true (decide_eq_true (by omega)) _) ?_; refine xT ?_; go_upto_region 8 with fail; refine wp_region_list ?_; refine xpL (.pointer (some ⟨R,0,none⟩)) ?_; refine xpL (.pointer (some ⟨R,0,none⟩)) ?_; refine xpL (.pointer (some ⟨R,0,none⟩)) ?_
               refine xpL (.pointer (some ⟨R,2,none⟩)) ?_; refine xaL (.slice sb2 n2 cb2) (load1 28 _ ⟨R,2,none⟩ _ rfl rfl (fun _=>by kernel_rfl) (M.get mS 2 _ rfl)) ?_; have hlb:=(Below.refl wr.heap.size wr).alloc (xnR _) (.cells #[.int .u8 0] 5)
               have T_5:=World.ownsRow.cells (World.ownsRow_lit (base:=wr.heap.size) (e:=5) (size:=1) wr #[.int .u8 0] 1 (xnR _) (by unfold maxLen; omega) rfl) (g:=wr.heap.size) rfl; replace V_b:=ownsRow_bel V_b hlb; replace V_i:=ownsRow_bel V_i hlb; replace OF:=OF.below hlb; replace M:=M.call hlb; clear hlb
               refine actL (w':=wr.alloc (.cells #[.int .u8 0] 5)) (.slice (some ⟨wr.heap.size,0,none⟩) 1 1) rfl (by kernel_rfl) ?_; simp only [aP,lI,l0,lS]; generalize wr.alloc (.cells #[.int .u8 0] 5)=w5 at M T_5 V_b V_i OF ⊢; generalize wr.heap.size=bz5 at T_5 ⊢
               obtain ⟨v2,w6,hr,V2,hgr,hg2⟩:=run_append_Own (P:=Try.prog) (ty:=28) Try.underlying28 one8 V_b (some ⟨bz5,0,none⟩) 1 1 (fun _=>0) (fun j_ hj_=>⟨_,rfl,T_5 j_ _ (by have e_:j_=0:=(by omega); subst e_; rfl)⟩) (fun e_=>by cases e_) (by unfold maxLen; omega) (by omega) (xnT hb0.size OF.size)
               have Mp:=M.perm (pull0 ([(R,[.int .i64 ((x.size:Nat):Int),.int .i64 ((x.dn:Nat):Int),.slice sb2 n2 cb2,.slice si2 n2 ci2])]:List (Nat × List Value)) (obs sb2) ((obs si2)++l)); have ho:=Off.grown (Off.refl (ob sb2) w5) hgr (fun b_ hb_=>.inl ((ob_own _ _ _ b_).1 hb_)); replace V_i:=ownsRow_away V_i ho (Mp.awayO (fun p_ hp_=>by simp [hp_]))
               obtain ⟨sv6,cv6,rfl,_,_⟩:=row_form16 V2
               have L2:=L_b.grown hg2 OF.size; replace OF:=OF.grown hgr (fun b_ hb_=>L_b b_ ((ob_own _ _ _ b_).1 hb_))
               have M':=Mp.rowApp V_b hgr V2 hg2 (xnR _)
               clear M Mp ho hgr hg2 V_b L_b; have L_b:=L2; clear L2
               have M:Mm w0 ((R,[.int .i64 ((x.size:Nat):Int),.int .i64 ((x.dn:Nat):Int),.slice sb2 n2 cb2,.slice si2 n2 ci2])::((obs sv6)++((obs si2)++l))) w6:=M'.perm (pull0 ([(R,[.int .i64 ((x.size:Nat):Int),.int .i64 ((x.dn:Nat):Int),.slice sb2 n2 cb2,.slice si2 n2 ci2])]:List (Nat × List Value)) (obs sv6) ((obs si2)++l)).symm
               clear M'; refine xaL (_) (appendOp _ _ 28 _ _ _ rfl rfl rfl hr) ?_; clear hr; replace V2:=Own.congr V2 (fun j hj=>app_zero19 (hYz _ (is_past hn2 (xnR _))) j hj)
               replace V2:w6.ownsRow w0.heap.size 5 1 (.slice sv6 (n2+1) cv6) (n2+1) (row .u8 (n2+1) (itk x at_ (bs.take i)).b):=V2
               have V_b:=V2; clear V2; clear T_5; refine xpL (.pointer (some ⟨R,0,none⟩)) ?_; refine xpL (.pointer (some ⟨R,2,none⟩)) ?_; refine skipOpL rfl (storeAny (.slice sv6 (n2+1) cv6) R 2 28 _ _ rfl rfl rfl rfl rfl (M.isSome mS 2 (by simp)) (M.free mS 2 (by simp)) (by kernel_rfl)) ?_; simp only [Act.put]; replace M:=M.set 2 (by simp) (.slice sv6 (n2+1) cv6)
               replace V_b:=ownsRow_away V_b ((Off.refl [R] _).set (b:=R) mS 2 (.slice sv6 (n2+1) cv6)) (fun b_ hb_=>by obtain rfl:=xm1 hb_; exact M.awayB (fun p_ hp_=>by simp [hp_])); replace V_i:=ownsRow_away V_i ((Off.refl [R] _).set (b:=R) mS 2 (.slice sv6 (n2+1) cv6)) (fun b_ hb_=>by obtain rfl:=xm1 hb_; exact M.awayB (fun p_ hp_=>by simp [hp_]))
               replace OF:=OF.and1 ((Off.refl [R] _).set (b:=R) mS 2 (.slice sv6 (n2+1) cv6)) (.inl hRX); generalize w6.setCell ⟨R,2,none⟩ (.slice sv6 (n2+1) cv6)=w7 at M V_b V_i OF L_b L_i ⊢
               replace M:Mm w0 ((R,[.int .i64 ((x.size:Nat):Int),.int .i64 ((x.dn:Nat):Int),.slice sv6 (n2+1) cv6,.slice si2 n2 ci2])::((obs sv6)++((obs si2)++l))) w7:=M
               refine xT ?_; go_upto_region 9 with fail; refine wp_region_list ?_; refine xpL (.pointer (some ⟨R,0,none⟩)) ?_; refine xpL (.pointer (some ⟨R,0,none⟩)) ?_; refine xpL (.pointer (some ⟨R,0,none⟩)) ?_; refine xpL (.pointer (some ⟨R,3,none⟩)) ?_; refine xaL (.slice si2 n2 ci2) (load1 49 _ ⟨R,3,none⟩ _ rfl rfl (fun _=>by kernel_rfl) (M.get mS 3 _ rfl)) ?_
               have hlb:=(Below.refl w7.heap.size w7).alloc (xnR _) (.cells #[.bool false] 4); have T_8:=World.ownsRow.cells (World.ownsRow_lit (base:=w7.heap.size) (e:=4) (size:=1) w7 #[.bool false] 1 (xnR _) (by unfold maxLen; omega) rfl) (g:=w7.heap.size) rfl; replace V_b:=ownsRow_bel V_b hlb; replace V_i:=ownsRow_bel V_i hlb; replace OF:=OF.below hlb
               replace M:=M.call hlb; clear hlb; refine actL (w':=w7.alloc (.cells #[.bool false] 4)) (.slice (some ⟨w7.heap.size,0,none⟩) 1 1) rfl (by kernel_rfl) ?_; simp only [aP,lI,l0,lS]; generalize w7.alloc (.cells #[.bool false] 4)=w8 at M T_8 V_b V_i OF ⊢; generalize w7.heap.size=bz8 at T_8 ⊢
               obtain ⟨v2,w9,hr,V2,hgr,hg2⟩:=run_append_OwnV (P:=Try.prog) (ty:=49) Try.underlying49 manyB rfl (by decide) V_i ⟨bz8,0,none⟩ 1 1 [.bool false] rfl T_8 (by intro u hu; obtain rfl:=xm1 hu; rfl) (by unfold maxLen; skip; omega) (by skip; omega) (xnT hb0.size OF.size)
               have Mp:=M.perm (pull1 ([(R,[.int .i64 ((x.size:Nat):Int),.int .i64 ((x.dn:Nat):Int),.slice sv6 (n2+1) cv6,.slice si2 n2 ci2])]:List (Nat × List Value)) (obs sv6) (obs si2) l); have ho:=Off.grown (Off.refl (ob si2) w8) hgr (fun b_ hb_=>.inl ((ob_own _ _ _ b_).1 hb_)); replace V_b:=ownsRow_away V_b ho (Mp.awayO (fun p_ hp_=>by simp [hp_]))
               obtain ⟨sv9,cv9,rfl,_,_⟩:=row_form16 V2
               have L2:=L_i.grown hg2 OF.size; replace OF:=OF.grown hgr (fun b_ hb_=>L_i b_ ((ob_own _ _ _ b_).1 hb_))
               have M':=Mp.rowApp V_i hgr V2 hg2 (xnR _)
               clear M Mp ho hgr hg2 V_i L_i; have L_i:=L2; clear L2
               have M:Mm w0 ((R,[.int .i64 ((x.size:Nat):Int),.int .i64 ((x.dn:Nat):Int),.slice sv6 (n2+1) cv6,.slice si2 n2 ci2])::((obs sv6)++((obs sv9)++l))) w9:=M'.perm (pull1 ([(R,[.int .i64 ((x.size:Nat):Int),.int .i64 ((x.dn:Nat):Int),.slice sv6 (n2+1) cv6,.slice si2 n2 ci2])]:List (Nat × List Value)) (obs sv6) (obs sv9) l).symm
               clear M'; refine xaL (_) (appendOp _ _ 49 _ _ _ rfl rfl rfl hr) ?_; clear hr
               rw [brw_snoc] at V2
               replace V2:w9.ownsRow w0.heap.size 4 1 (.slice sv9 (n2+1) cv9) (n2+1) (brw (n2+1) (bput ((itk x at_ (bs.take i)).is) n2 false)):=V2
               have V_i:=V2; clear V2; clear T_8; refine xpL (.pointer (some ⟨R,0,none⟩)) ?_; refine xpL (.pointer (some ⟨R,3,none⟩)) ?_; refine skipOpL rfl (storeAny (.slice sv9 (n2+1) cv9) R 3 49 _ _ rfl rfl rfl rfl rfl (M.isSome mS 3 (by simp)) (M.free mS 3 (by simp)) (by kernel_rfl)) ?_; simp only [Act.put]; replace M:=M.set 3 (by simp) (.slice sv9 (n2+1) cv9)
               replace V_b:=ownsRow_away V_b ((Off.refl [R] _).set (b:=R) mS 3 (.slice sv9 (n2+1) cv9)) (fun b_ hb_=>by obtain rfl:=xm1 hb_; exact M.awayB (fun p_ hp_=>by simp [hp_])); replace V_i:=ownsRow_away V_i ((Off.refl [R] _).set (b:=R) mS 3 (.slice sv9 (n2+1) cv9)) (fun b_ hb_=>by obtain rfl:=xm1 hb_; exact M.awayB (fun p_ hp_=>by simp [hp_]))
               replace OF:=OF.and1 ((Off.refl [R] _).set (b:=R) mS 3 (.slice sv9 (n2+1) cv9)) (.inl hRX); generalize w9.setCell ⟨R,3,none⟩ (.slice sv9 (n2+1) cv9)=w10 at M V_b V_i OF L_b L_i ⊢
               replace M:Mm w0 ((R,[.int .i64 ((x.size:Nat):Int),.int .i64 ((x.dn:Nat):Int),.slice sv6 (n2+1) cv6,.slice sv9 (n2+1) cv9])::((obs sv6)++((obs sv9)++l))) w10:=M
               refine xT ?_
               rw [brw_congr (fun j _=>bput_id (is_past hn2 (xnR _)) j)] at V_i
               replace M:Mm w0 ((R,[.int .i64 ((x.size:Nat):Int),.int .i64 ((x.dn:Nat):Int),.slice sv6 (n2+1) cv6,.slice sv9 (n2+1) cv9])::((obs sv6)++((obs sv9)++l))) w10:=M
               have hrl2:=rowlen19_at M
               have HS:=show Hid _ from (show n1≤(n2+1)∧(n2+1)≤max n1 ((at_.toNat+i)+1)∧Mm w0 ((R,[.int .i64 ((x.size:Nat):Int),.int .i64 ((x.dn:Nat):Int),.slice sv6 (n2+1) cv6,.slice sv9 (n2+1) cv9])::((obs sv6)++((obs sv9)++l))) w10∧w10.ownsRow w0.heap.size 5 1 (.slice sv6 (n2+1) cv6) (n2+1) (row .u8 (n2+1) (itk x at_ (bs.take i)).b)∧w10.ownsRow w0.heap.size 4 1 (.slice sv9 (n2+1) cv9) (n2+1) (brw (n2+1) (itk x at_ (bs.take i)).is)∧Lies XS w sv6∧Lies XS w sv9∧Off XS w w10 from ⟨by omega,by omega,M,V_b,V_i,L_b,L_i,OF⟩)
               have HL:=show Hid _ from (And.intro hrl hrl2); clear M V_b V_i L_b L_i OF hrl hrl2; go_wp2
               go_roundw
               case rel=>exact ⟨n2+1,_,_,_,_,HS.out⟩
               case measure=>have h1_:=HL.out.1; have h2_:=HL.out.2; omega
             · clear hrl
               go_upto_region 7 with fail; refine wp_region_list ?_; refine xpL (.pointer (some ⟨R,0,none⟩)) ?_; refine xpL (.pointer (some ⟨R,0,none⟩)) ?_; refine xpL (.pointer (some ⟨R,2,none⟩)) ?_; refine xaL (.slice sb2 n2 cb2) (load1 28 _ ⟨R,2,none⟩ _ rfl rfl (fun _=>by kernel_rfl) (M.get mS 2 _ rfl)) ?_
               refine xaL (.int .i64 ((n2:Nat):Int)) (lenS _ 28 5 sb2 n2 cb2 rfl Try.underlying28 rfl _) ?_; refine xpL (.int .i64 (((at_.toNat+i):Nat):Int)) ?_; refine xaL (.bool false) (leqI .i64 _ _ _ _ _ _ rfl rfl rfl false (decide_eq_false (by omega)) _) ?_; refine xT ?_
               have hkn:(at_.toNat+i)<n2:=by omega
               have hib:i<bs.length:=by omega
               have hn2l:n2≤ilim x:=by omega
               obtain ⟨gi,hg_i⟩:=row_some16 V_i (by omega)
               subst hg_i
               replace M:Mm w0 ((R,[.int .i64 ((x.size:Nat):Int),.int .i64 ((x.dn:Nat):Int),.slice sb2 n2 cb2,.slice (some ⟨gi,0,none⟩) n2 ci2])::((obs sb2)++((obs (some ⟨gi,0,none⟩))++l))) wr:=M
               obtain ⟨gb,hg_b⟩:=row_some16 V_b (by omega)
               subst hg_b
               replace M:Mm w0 ((R,[.int .i64 ((x.size:Nat):Int),.int .i64 ((x.dn:Nat):Int),.slice (some ⟨gb,0,none⟩) n2 cb2,.slice (some ⟨gi,0,none⟩) n2 ci2])::((obs (some ⟨gb,0,none⟩))++((obs (some ⟨gi,0,none⟩))++l))) wr:=M
               by_cases hh:(itk x at_ (bs.take i)).is (at_.toNat+i)=true
               · have hxk:x.is (at_.toNat+i)=true:=by
                  rw [itp_is hi,Bool.or_eq_true] at hh
                  rcases hh with h | h
                  · exact h
                  · have:=(inw_iff.1 h).1; omega
                 go_upto_region 10 with fail; refine wp_region_list ?_; refine xpL (.pointer (some ⟨R,0,none⟩)) ?_; refine xpL (.pointer (some ⟨R,0,none⟩)) ?_; refine xpL (.pointer (some ⟨R,3,none⟩)) ?_; refine xaL (.slice (some ⟨gi,0,none⟩) n2 ci2) (load1 49 _ ⟨R,3,none⟩ _ rfl rfl (fun _=>by kernel_rfl) (M.get mS 3 _ rfl)) ?_
                 refine xpL (.int .i64 (((at_.toNat+i):Nat):Int)) ?_; refine xaL (.pointer (some ⟨gi,(at_.toNat+i),none⟩)) (idxRow 49 4 gi _ _ (at_.toNat+i) _ _ Try.underlying49 (fun _=>by kernel_rfl) hkn rfl rfl rfl _) ?_; refine xaL (.bool true) (load1 4 _ ⟨gi,(at_.toNat+i),none⟩ _ rfl rfl (fun _=>by kernel_rfl) (rowCell V_i (by rw [brw_get _ hkn,hh]))) ?_
                 refine xpL (.bool false) ?_; refine xT ?_; clear hh; have hpass:=inw_pass (x:=x) (at_:=at_) (i:=i) (by omega) (.inr (.inr hxk)); have hN:=show Hid _ from (show itN x at_ i=itN x at_ (i+1) from (itN_pass hpass).symm)
                 rw [row_congr .u8 n2 (fun k _=>(show (itk x at_ (bs.take i)).b k=(itk x at_ (bs.take (i+1))).b k by rw [itp_b hi,itp_b (show i+1≤bs.length by omega),hpass k]))] at V_b
                 rw [brw_congr (fun k _=>(show (itk x at_ (bs.take i)).is k=(itk x at_ (bs.take (i+1))).is k by rw [itp_is hi,itp_is (show i+1≤bs.length by omega),hpass k]))] at V_i
                 have hn3:∀ k,(itk x at_ (bs.take (i+1))).is k=true→k<n2:=fun k hk=>hn2 k (by rw [(show (itk x at_ (bs.take i)).is k=(itk x at_ (bs.take (i+1))).is k by rw [itp_is hi,itp_is (show i+1≤bs.length by omega),hpass k])]; exact hk)
                 have HS:=show Hid _ from (show (∀ k,(itk x at_ (bs.take (i+1))).is k=true→k<n2)∧n2≤ilim x∧Mm w0 ((R,[.int .i64 ((x.size:Nat):Int),.int .i64 ((x.dn:Nat):Int),.slice (some ⟨gb,0,none⟩) n2 cb2,.slice (some ⟨gi,0,none⟩) n2 ci2])::((obs (some ⟨gb,0,none⟩))++((obs (some ⟨gi,0,none⟩))++l))) wr∧wr.ownsRow w0.heap.size 5 1 (.slice (some ⟨gb,0,none⟩) n2 cb2) n2 (row .u8 n2 (itk x at_ (bs.take (i+1))).b)∧wr.ownsRow w0.heap.size 4 1 (.slice (some ⟨gi,0,none⟩) n2 ci2) n2 (brw n2 (itk x at_ (bs.take (i+1))).is)∧Lies XS w (some ⟨gb,0,none⟩)∧Lies XS w (some ⟨gi,0,none⟩)∧Off XS w wr from ⟨hn3,hn2l,M,V_b,V_i,L_b,L_i,OF⟩)
                 clear M V_b V_i L_b L_i OF hn3 hpass; go_wp2
                 go_roundw
                 case rel=>exact ⟨i+1,n2,(some ⟨gb,0,none⟩),(some ⟨gi,0,none⟩),cb2,ci2,by omega,by rw [hN.out],by go_num,HS.out⟩
                 case measure=>simp [intOf]; omega
               · rw [Bool.not_eq_true] at hh
                 have hxk:x.is (at_.toNat+i)=false:=by
                  rw [itp_is hi,Bool.or_eq_false_iff] at hh
                  exact hh.1
                 obtain ⟨ads,hads,hsc⟩:=A_s.1 i hib
                 subst hads; go_upto_region 10 with fail; refine wp_region_list ?_; refine xpL (.pointer (some ⟨R,0,none⟩)) ?_; refine xpL (.pointer (some ⟨R,0,none⟩)) ?_; refine xpL (.pointer (some ⟨R,3,none⟩)) ?_; refine xaL (.slice (some ⟨gi,0,none⟩) n2 ci2) (load1 49 _ ⟨R,3,none⟩ _ rfl rfl (fun _=>by kernel_rfl) (M.get mS 3 _ rfl)) ?_
                 refine xpL (.int .i64 (((at_.toNat+i):Nat):Int)) ?_; refine xaL (.pointer (some ⟨gi,(at_.toNat+i),none⟩)) (idxRow 49 4 gi _ _ (at_.toNat+i) _ _ Try.underlying49 (fun _=>by kernel_rfl) hkn rfl rfl rfl _) ?_; refine xaL (.bool false) (load1 4 _ ⟨gi,(at_.toNat+i),none⟩ _ rfl rfl (fun _=>by kernel_rfl) (rowCell V_i (by rw [brw_get _ hkn,hh]))) ?_
                 refine xpL (.bool true) ?_; refine xT ?_; go_upto_region 11 with fail; refine wp_region_list ?_; refine xpL (.pointer (some ⟨R,0,none⟩)) ?_; refine xpL (.pointer (some ⟨R,0,none⟩)) ?_; refine xpL (.pointer (some ⟨R,3,none⟩)) ?_; refine xaL (.slice (some ⟨gi,0,none⟩) n2 ci2) (load1 49 _ ⟨R,3,none⟩ _ rfl rfl (fun _=>by kernel_rfl) (M.get mS 3 _ rfl)) ?_
                 refine xpL (.int .i64 (((at_.toNat+i):Nat):Int)) ?_; refine xaL (.pointer (some ⟨gi,(at_.toNat+i),none⟩)) (idxRow 49 4 gi _ _ (at_.toNat+i) _ _ Try.underlying49 (fun _=>by kernel_rfl) hkn rfl rfl rfl _) ?_
                 have Mp:=M.perm (pull1 ([(R,[.int .i64 ((x.size:Nat):Int),.int .i64 ((x.dn:Nat):Int),.slice (some ⟨gb,0,none⟩) n2 cb2,.slice (some ⟨gi,0,none⟩) n2 ci2])]:List (Nat × List Value)) (obs (some ⟨gb,0,none⟩)) (obs (some ⟨gi,0,none⟩)) l)
                 obtain ⟨hsf,M'⟩:=Mp.setObs V_i (xnR _) (at_.toNat+i) (by rw [brw_length]; exact hkn) (.bool true)
                 refine skipOpL rfl (storeAny (.bool true) gi (at_.toNat+i) 4 _ _ rfl rfl rfl rfl rfl hsf.1 hsf.2 (by kernel_rfl)) ?_; simp only [Act.put]; have ho:=(Off.refl [gi] wr).set (b:=gi) mS (at_.toNat+i) (.bool true); replace V_b:=ownsRow_away V_b ho (Mp.awayO (so:=some ⟨gi,0,none⟩) (fun p_ hp_=>by simp [hp_])); replace OF:=OF.and1 ho (L_i gi mS)
                 replace V_i:=ownsRow_put V_i (at_.toNat+i) (.bool true)
                 rw [brw_set] at V_i
                 clear M Mp ho hsf; have M:=M'.perm (pull1 ([(R,[.int .i64 ((x.size:Nat):Int),.int .i64 ((x.dn:Nat):Int),.slice (some ⟨gb,0,none⟩) n2 cb2,.slice (some ⟨gi,0,none⟩) n2 ci2])]:List (Nat × List Value)) (obs (some ⟨gb,0,none⟩)) (obs (some ⟨gi,0,none⟩)) l).symm; clear M'; generalize wr.setCell ⟨gi,(at_.toNat+i),none⟩ (.bool true)=w11 at M V_b V_i OF ⊢
                 replace M:Mm w0 ((R,[.int .i64 ((x.size:Nat):Int),.int .i64 ((x.dn:Nat):Int),.slice (some ⟨gb,0,none⟩) n2 cb2,.slice (some ⟨gi,0,none⟩) n2 ci2])::((obs (some ⟨gb,0,none⟩))++((obs (some ⟨gi,0,none⟩))++l))) w11:=M
                 refine xT ?_; clear hh
                 have hsd:w11.cell? (ads.add i)=some (.int .u8 (bl bs i)):=OF.cell hsc (by rw [add_block]; exact A_s.2 ads rfl (by omega))
                 go_upto_region 12 with fail; have hdr:=(Below.refl w11.heap.size w11).drew; replace M:=M.drew; replace V_b:=ownsRow_bel V_b hdr; replace V_i:=ownsRow_bel V_i hdr; replace OF:=OF.below hdr; clear hdr
                 refine wp_region_C (S:=fun w'=>Mm w0 [(R,[.int .i64 ((x.size:Nat):Int),.int .i64 ((x.dn:Nat):Int),.slice (some ⟨gb,0,none⟩) n2 cb2,.slice (some ⟨gi,0,none⟩) n2 ci2])] w'∧w'.cell? (ads.add i)=some (.int .u8 (bl bs i))) 10 (by kernel_rfl) ⟨(M.sub _ (List.cons_sublist_cons.2 (List.nil_sublist _))),hsd⟩ ?_; intro _
                 replace hsd:w11.drew.cell? (ads.add i)=some (.int .u8 (bl bs i)):=hsd
                 generalize w11.drew=w12 at M hsd V_b V_i OF ⊢; refine readC (i:=0) (some 80) rfl (.pointer (some ⟨R,0,none⟩)) rfl rfl (by kernel_rfl) rfl (fun _ hS=>(by kernel_rfl)) (by kernel_rfl) (by kernel_rfl) (by kernel_rfl) (by kernel_rfl) (fun _ _ _ h=>h) ⟨(M.sub _ (List.cons_sublist_cons.2 (List.nil_sublist _))),hsd⟩ ?_; simp only [aP,lI,l0,lS]
                 refine readC (i:=1) (some 81) rfl (.pointer (some ⟨R,0,none⟩)) rfl rfl (by kernel_rfl) rfl (fun _ hS=>(by kernel_rfl)) (by kernel_rfl) (by kernel_rfl) (by kernel_rfl) (by kernel_rfl) (fun _ _ _ h=>h) ⟨(M.sub _ (List.cons_sublist_cons.2 (List.nil_sublist _))),hsd⟩ ?_; simp only [aP,lI,l0,lS]
                 refine readC (i:=2) (some 82) rfl (.pointer (some ⟨R,2,none⟩)) rfl rfl (by kernel_rfl) rfl (fun _ hS=>(by kernel_rfl)) (by kernel_rfl) (by kernel_rfl) (by kernel_rfl) (by kernel_rfl) (fun _ _ _ h=>h) ⟨(M.sub _ (List.cons_sublist_cons.2 (List.nil_sublist _))),hsd⟩ ?_; simp only [aP,lI,l0,lS]
                 refine readC (i:=3) (some 83) rfl (.slice (some ⟨gb,0,none⟩) n2 cb2) rfl rfl (by kernel_rfl) rfl (fun _ hS=>load1 28 _ ⟨R,2,none⟩ _ rfl rfl (fun _=>by kernel_rfl) (hS.1.get mS 2 _ rfl)) (by kernel_rfl) (by kernel_rfl) (by kernel_rfl) (by kernel_rfl) (fun _ _ _ h=>h) ⟨(M.sub _ (List.cons_sublist_cons.2 (List.nil_sublist _))),hsd⟩ ?_; simp only [aP,lI,l0,lS]
                 refine readC (i:=4) (some 84) rfl (.int .i64 (((at_.toNat+i):Nat):Int)) rfl rfl (by kernel_rfl) rfl (fun _ hS=>(by kernel_rfl)) (by kernel_rfl) (by kernel_rfl) (by kernel_rfl) (by kernel_rfl) (fun _ _ _ h=>h) ⟨(M.sub _ (List.cons_sublist_cons.2 (List.nil_sublist _))),hsd⟩ ?_; simp only [aP,lI,l0,lS]
                 refine readC (i:=5) (some 85) rfl (.slice (some ads) bs.length cap) rfl rfl (by kernel_rfl) rfl (fun _ hS=>(by kernel_rfl)) (by kernel_rfl) (by kernel_rfl) (by kernel_rfl) (by kernel_rfl) (fun _ _ _ h=>h) ⟨(M.sub _ (List.cons_sublist_cons.2 (List.nil_sublist _))),hsd⟩ ?_; simp only [aP,lI,l0,lS]
                 refine readC (i:=6) (some 86) rfl (.int .i64 (i:Int)) rfl rfl (by kernel_rfl) rfl (fun _ hS=>(by kernel_rfl)) (by kernel_rfl) (by kernel_rfl) (by kernel_rfl) (by kernel_rfl) (fun _ _ _ h=>h) ⟨(M.sub _ (List.cons_sublist_cons.2 (List.nil_sublist _))),hsd⟩ ?_; simp only [aP,lI,l0,lS]
                 refine readC (i:=7) (some 87) rfl (.pointer (some (ads.add i))) rfl rfl (by kernel_rfl) rfl (fun _ hS=>idxSl 28 5 bs.length cap .i64 ads i _ _ Try.underlying28 (fun _=>by kernel_rfl) hib rfl rfl rfl _) (by kernel_rfl) (by kernel_rfl) (by kernel_rfl) (by kernel_rfl) (fun _ _ _ h=>h) ⟨(M.sub _ (List.cons_sublist_cons.2 (List.nil_sublist _))),hsd⟩ ?_
                 simp only [aP,lI,l0,lS]; refine readC (i:=8) (some 88) rfl (.int .u8 (bl bs i)) rfl rfl (by kernel_rfl) rfl (fun _ hS=>load1 5 _ (ads.add i) _ rfl rfl (fun _=>by kernel_rfl) (hS.2)) (by kernel_rfl) (by kernel_rfl) (by kernel_rfl) (by kernel_rfl) (fun _ _ _ h=>h) ⟨(M.sub _ (List.cons_sublist_cons.2 (List.nil_sublist _))),hsd⟩ ?_; simp only [aP,lI,l0,lS]
                 refine readC (i:=9) (some 89) rfl (.pointer (some ⟨gb,(at_.toNat+i),none⟩)) rfl rfl (by kernel_rfl) rfl (fun _ hS=>idxRow 28 5 gb _ _ (at_.toNat+i) _ _ Try.underlying28 (fun _=>by kernel_rfl) hkn rfl rfl rfl _) (by kernel_rfl) (by kernel_rfl) (by kernel_rfl) (by kernel_rfl) (fun _ _ _ h=>h) ⟨(M.sub _ (List.cons_sublist_cons.2 (List.nil_sublist _))),hsd⟩ ?_
                 simp only [aP,lI,l0,lS]; have Mp:=M.perm (pull0 ([(R,[.int .i64 ((x.size:Nat):Int),.int .i64 ((x.dn:Nat):Int),.slice (some ⟨gb,0,none⟩) n2 cb2,.slice (some ⟨gi,0,none⟩) n2 ci2])]:List (Nat × List Value)) (obs (some ⟨gb,0,none⟩)) ((obs (some ⟨gi,0,none⟩))++l))
                 obtain ⟨hsf,M'⟩:=Mp.setObs V_b (xnR _) (at_.toNat+i) (by rw [row_length]; exact hkn) (.int .u8 (bl bs i))
                 refine skipC (S2:=fun _=>True) none rfl (by kernel_rfl) rfl rfl (storeAny (.int .u8 (bl bs i)) gb (at_.toNat+i) 5 _ _ rfl rfl rfl rfl rfl hsf.1 hsf.2 (by kernel_rfl)) (by kernel_rfl) ?_; simp only [Act.put]; have ho:=(Off.refl [gb] w12).set (b:=gb) mS (at_.toNat+i) (.int .u8 (bl bs i))
                 replace V_i:=ownsRow_away V_i ho (Mp.awayO (so:=some ⟨gb,0,none⟩) (fun p_ hp_=>by simp [hp_])); replace OF:=OF.and1 ho (L_b gb mS); replace V_b:=ownsRow_put V_b (at_.toNat+i) (.int .u8 (bl bs i))
                 rw [row_put19] at V_b
                 clear M Mp ho hsf; have M:=M'.perm (pull0 ([(R,[.int .i64 ((x.size:Nat):Int),.int .i64 ((x.dn:Nat):Int),.slice (some ⟨gb,0,none⟩) n2 cb2,.slice (some ⟨gi,0,none⟩) n2 ci2])]:List (Nat × List Value)) (obs (some ⟨gb,0,none⟩)) ((obs (some ⟨gi,0,none⟩))++l)).symm; clear M'
                 generalize w12.setCell ⟨gb,(at_.toNat+i),none⟩ (.int .u8 (bl bs i))=w13 at M V_b V_i OF ⊢
                 replace M:Mm w0 ((R,[.int .i64 ((x.size:Nat):Int),.int .i64 ((x.dn:Nat):Int),.slice (some ⟨gb,0,none⟩) n2 cb2,.slice (some ⟨gi,0,none⟩) n2 ci2])::((obs (some ⟨gb,0,none⟩))++((obs (some ⟨gi,0,none⟩))++l))) w13:=M
                 refine wpAnyH_done (by kernel_rfl) ?_ _
                 first | show Exit.then _ _ _ _ _ | show Exit.inBlock _ _ _ _ _
                 clear hsd; go_upto_region 13 with fail; refine wp_region_list ?_; refine xpL (.int .i64 ((itN x at_ i:Nat):Int)) ?_; refine xaL (.int .i64 ((itN x at_ i+1:Nat):Int)) (addI .i64 _ _ _ _ _ _ _ rfl rfl rfl (by rw [xw6]; omega) _) ?_; refine xpL (.int .i64 ((itN x at_ i+1:Nat):Int)) ?_; refine xT ?_
                 have hEi:∀ k,bput (itk x at_ (bs.take i)).is (at_.toNat+i) true k=(itk x at_ (bs.take (i+1))).is k:=fun k=>(show bput (itk x at_ (bs.take i)).is (at_.toNat+i) true k=(itk x at_ (bs.take (i+1))).is k by
                  rw [itp_is (show i+1≤bs.length by omega),inw_here (by omega) (by omega) (by omega) hxk k]
                  by_cases c:k=(at_.toNat+i)
                  · subst c; rw [bput_same,decide_eq_true rfl]; simp
                  · rw [bput_other c,itp_is hi,decide_eq_false c,Bool.or_false])
                 have hEb:∀ k,iput (itk x at_ (bs.take i)).b (at_.toNat+i) (bl bs i) k=(itk x at_ (bs.take (i+1))).b k:=fun k=>(show iput (itk x at_ (bs.take i)).b (at_.toNat+i) (bl bs i) k=(itk x at_ (bs.take (i+1))).b k by
                  rw [itp_b (show i+1≤bs.length by omega),inw_here (by omega) (by omega) (by omega) hxk k]
                  unfold iput
                  by_cases c:k=(at_.toNat+i)
                  · subst c; rw [if_pos rfl,decide_eq_true rfl,Bool.or_true,if_pos rfl,show (at_.toNat+i)-at_.toNat=i by omega]
                  · rw [if_neg c,itp_b hi,decide_eq_false c,Bool.or_false])
                 have hN:=show Hid _ from (show (itN x at_ i+1)=itN x at_ (i+1) from (itN_here (by omega) (by omega) (by omega) hxk).symm)
                 rw [row_congr .u8 n2 (fun k _=>hEb k)] at V_b
                 rw [brw_congr (fun k _=>hEi k)] at V_i
                 have hn3:∀ k,(itk x at_ (bs.take (i+1))).is k=true→k<n2:=fun k hk=>by
                  rw [← hEi k] at hk
                  by_cases c:k=(at_.toNat+i)
                  · omega
                  · rw [bput_other c] at hk; exact hn2 k hk
                 have HS:=show Hid _ from (show (∀ k,(itk x at_ (bs.take (i+1))).is k=true→k<n2)∧n2≤ilim x∧Mm w0 ((R,[.int .i64 ((x.size:Nat):Int),.int .i64 ((x.dn:Nat):Int),.slice (some ⟨gb,0,none⟩) n2 cb2,.slice (some ⟨gi,0,none⟩) n2 ci2])::((obs (some ⟨gb,0,none⟩))++((obs (some ⟨gi,0,none⟩))++l))) w13∧w13.ownsRow w0.heap.size 5 1 (.slice (some ⟨gb,0,none⟩) n2 cb2) n2 (row .u8 n2 (itk x at_ (bs.take (i+1))).b)∧w13.ownsRow w0.heap.size 4 1 (.slice (some ⟨gi,0,none⟩) n2 ci2) n2 (brw n2 (itk x at_ (bs.take (i+1))).is)∧Lies XS w (some ⟨gb,0,none⟩)∧Lies XS w (some ⟨gi,0,none⟩)∧Off XS w w13 from ⟨hn3,hn2l,M,V_b,V_i,L_b,L_i,OF⟩)
                 clear M V_b V_i L_b L_i OF hn3 hEi hEb; go_wp2
                 go_roundw
                 case rel=>exact ⟨i+1,n2,(some ⟨gb,0,none⟩),(some ⟨gi,0,none⟩),cb2,ci2,by omega,by rw [hN.out],by go_num,HS.out⟩
                 case measure=>simp [intOf]; omega
      · have hbad:at_<0∨(ilim x:Int)≤at_:=.inr (by omega)
        go_upto_region 3 with fail; refine wp_region_list ?_; refine xpL (.int .i64 (i:Int)) ?_; refine xpL (.slice sp bs.length cap) ?_; refine xaL (.int .i64 ((bs.length:Nat):Int)) (lenS _ 28 5 sp bs.length cap rfl Try.underlying28 rfl _) ?_; refine xaL (.bool true) (lssI .i64 _ _ _ _ _ _ rfl rfl rfl true (decide_eq_true (by omega)) _) ?_; refine xpL (.bool true) ?_
        refine xpL (.int .i64 at_) ?_; refine xaL (.bool true) (geqI .i64 _ _ _ _ _ _ rfl rfl rfl true (decide_eq_true (by omega)) _) ?_; refine xpL (.bool true) ?_; refine xpL (.bool true) ?_; refine xpL (.int .i64 at_) ?_; refine xpL (.pointer (some ⟨R,0,none⟩)) ?_; have key:=dlim_any w0 _ R _ (itk x at_ (bs.take i)) n1 sb1 si1 cb1 ci1 hYw hn1 hn1l hln M V_b V_i
        rw [show ilim (itk x at_ (bs.take i))=ilim x from rfl] at key
        refine xcL key ?_; clear key; rintro e w1 ⟨rfl,l_⟩; replace M:=M.call l_; replace V_b:=ownsRow_bel V_b l_; replace V_i:=ownsRow_bel V_i l_; replace OF:=OF.below l_; clear l_; refine xeL ?_; refine xaL (.bool false) (lssI .i64 _ _ _ _ _ _ rfl rfl rfl false (decide_eq_false (by omega)) _) ?_; refine xpL (.bool false) ?_; refine xT ?_; go_upto_region 14 with fail
        refine wp_region_list ?_; refine xpL (.int .i64 ((itN x at_ i:Nat):Int)) ?_; refine xpL (.int .i64 ((itN x at_ i:Nat):Int)) ?_; refine xT ?_; have hN:=show Hid _ from (show itN x at_ bs.length=itN x at_ i from icnt_congr fun k _=>by rw [inw_bad hbad,inw_bad hbad])
        rw [row_congr .u8 n1 (fun k _=>(show (itk x at_ (bs.take i)).b k=(itk x at_ bs).b k by rw [itp_b hi]; show _=(if inw x at_ bs.length k=true then _ else x.b k); rw [if_neg (by rw [inw_bad hbad]; exact fun h=>by cases h),if_neg (by rw [inw_bad hbad]; exact fun h=>by cases h)]))] at V_b
        rw [brw_congr (fun k _=>(show (itk x at_ (bs.take i)).is k=(itk x at_ bs).is k by rw [itp_is hi]; show _=(x.is k || inw x at_ bs.length k); rw [inw_bad hbad,inw_bad hbad]))] at V_i
        have hnF:∀ k,(itk x at_ bs).is k=true→k<n1:=fun k hk=>hn1 k (by rw [(show (itk x at_ (bs.take i)).is k=(itk x at_ bs).is k by rw [itp_is hi]; show _=(x.is k || inw x at_ bs.length k); rw [inw_bad hbad,inw_bad hbad])]; exact hk)
        rw [hXS] at OF
        have HS:=show Hid _ from (And.intro hnF (And.intro hn1l (And.intro M (And.intro V_b (And.intro V_i OF))))); clear M V_b V_i OF hnF; go_wp2; go_ret
        unfold DTk
        exact ⟨n1,sb1,si1,cb1,ci1,by rw [hN.out]; rfl,HS.out⟩
    · have hbad:at_<0∨(ilim x:Int)≤at_:=.inl (by omega)
      go_upto_region 3 with fail; refine wp_region_list ?_; refine xpL (.int .i64 (i:Int)) ?_; refine xpL (.slice sp bs.length cap) ?_; refine xaL (.int .i64 ((bs.length:Nat):Int)) (lenS _ 28 5 sp bs.length cap rfl Try.underlying28 rfl _) ?_; refine xaL (.bool true) (lssI .i64 _ _ _ _ _ _ rfl rfl rfl true (decide_eq_true (by omega)) _) ?_; refine xpL (.bool true) ?_
      refine xpL (.int .i64 at_) ?_; refine xaL (.bool false) (geqI .i64 _ _ _ _ _ _ rfl rfl rfl false (decide_eq_false (by omega)) _) ?_; refine xpL (.bool false) ?_; refine xpL (.bool false) ?_
      with_reducible refine skipL ?_ ?_
      · rfl
      simp only [aP,lI,l0,lS]
      with_reducible refine skipL ?_ ?_
      · rfl
      simp only [aP,lI,l0,lS]
      with_reducible refine skipL ?_ ?_
      · rfl
      simp only [aP,lI,l0,lS]
      with_reducible refine skipL ?_ ?_
      · rfl
      simp only [aP,lI,l0,lS]; refine xpL (.bool false) ?_; refine xT ?_; go_upto_region 14 with fail; refine wp_region_list ?_; refine xpL (.int .i64 ((itN x at_ i:Nat):Int)) ?_; refine xpL (.int .i64 ((itN x at_ i:Nat):Int)) ?_; refine xT ?_; have hN:=show Hid _ from (show itN x at_ bs.length=itN x at_ i from icnt_congr fun k _=>by rw [inw_bad hbad,inw_bad hbad])
      rw [row_congr .u8 n1 (fun k _=>(show (itk x at_ (bs.take i)).b k=(itk x at_ bs).b k by rw [itp_b hi]; show _=(if inw x at_ bs.length k=true then _ else x.b k); rw [if_neg (by rw [inw_bad hbad]; exact fun h=>by cases h),if_neg (by rw [inw_bad hbad]; exact fun h=>by cases h)]))] at V_b
      rw [brw_congr (fun k _=>(show (itk x at_ (bs.take i)).is k=(itk x at_ bs).is k by rw [itp_is hi]; show _=(x.is k || inw x at_ bs.length k); rw [inw_bad hbad,inw_bad hbad]))] at V_i
      have hnF:∀ k,(itk x at_ bs).is k=true→k<n1:=fun k hk=>hn1 k (by rw [(show (itk x at_ (bs.take i)).is k=(itk x at_ bs).is k by rw [itp_is hi]; show _=(x.is k || inw x at_ bs.length k); rw [inw_bad hbad,inw_bad hbad])]; exact hk)
      rw [hXS] at OF
      have HS:=show Hid _ from (And.intro hnF (And.intro hn1l (And.intro M (And.intro V_b (And.intro V_i OF))))); clear M V_b V_i OF hnF; go_wp2; go_ret
      unfold DTk
      exact ⟨n1,sb1,si1,cb1,ci1,by rw [hN.out]; rfl,HS.out⟩
  · go_upto_region 3 with fail
    refine wp_region_list ?_; refine xpL (.int .i64 (i:Int)) ?_; refine xpL (.slice sp bs.length cap) ?_; refine xaL (.int .i64 ((bs.length:Nat):Int)) (lenS _ 28 5 sp bs.length cap rfl Try.underlying28 rfl _) ?_; refine xaL (.bool false) (lssI .i64 _ _ _ _ _ _ rfl rfl rfl false (decide_eq_false (by omega)) _) ?_; refine xpL (.bool false) ?_
    with_reducible refine skipL ?_ ?_
    · rfl
    simp only [aP,lI,l0,lS]
    with_reducible refine skipL ?_ ?_
    · rfl
    simp only [aP,lI,l0,lS]; refine xpL (.bool false) ?_; refine xpL (.bool false) ?_
    with_reducible refine skipL ?_ ?_
    · rfl
    simp only [aP,lI,l0,lS]
    with_reducible refine skipL ?_ ?_
    · rfl
    simp only [aP,lI,l0,lS]
    with_reducible refine skipL ?_ ?_
    · rfl
    simp only [aP,lI,l0,lS]
    with_reducible refine skipL ?_ ?_
    · rfl
    simp only [aP,lI,l0,lS]; refine xpL (.bool false) ?_; refine xT ?_
    have hie:i=bs.length:=by omega
    go_upto_region 14 with fail; refine wp_region_list ?_; refine xpL (.int .i64 ((itN x at_ i:Nat):Int)) ?_; refine xpL (.int .i64 ((itN x at_ i:Nat):Int)) ?_; refine xT ?_; have hN:=show Hid _ from (show itN x at_ bs.length=itN x at_ i from by rw [hie])
    rw [row_congr .u8 n1 (fun k _=>(show (itk x at_ (bs.take i)).b k=(itk x at_ bs).b k by rw [hie,List.take_length]))] at V_b
    rw [brw_congr (fun k _=>(show (itk x at_ (bs.take i)).is k=(itk x at_ bs).is k by rw [hie,List.take_length]))] at V_i
    have hnF:∀ k,(itk x at_ bs).is k=true→k<n1:=fun k hk=>hn1 k (by rw [(show (itk x at_ (bs.take i)).is k=(itk x at_ bs).is k by rw [hie,List.take_length])]; exact hk)
    rw [hXS] at OF
    have HS:=show Hid _ from (And.intro hnF (And.intro hn1l (And.intro M (And.intro V_b (And.intro V_i OF))))); clear M V_b V_i OF hnF; go_wp2; go_ret
    unfold DTk
    exact ⟨n1,sb1,si1,cb1,ci1,by rw [hN.out]; rfl,HS.out⟩
end
def Wrt (w:World) (sp:Option Addr) (n:Nat):Prop:=∀ j,j<n→∃ ad,sp=some ad∧(w.cell? (ad.add j)).isSome=true∧w.frozen? (ad.add j)=false
theorem Wrt.offB {w w':World} {sp:Option Addr} {n:Nat} {X:List Nat} (h:Wrt w sp n) (o:Off X w w') (hX:∀ b∈X,b∉ob sp):Wrt w' sp n:=fun j hj=>by
 obtain ⟨ad,e,h1,h2⟩:=h j hj
 subst e
 have hb:(ad.add j).block∉X:=by rw [add_block]; exact fun hm=>hX _ hm mS
 cases hc:w.cell? (ad.add j) with
 | none=>rw [hc] at h1; cases h1
 | some v=>exact ⟨ad,rfl,by rw [o.cell hc hb]; rfl,by rw [World.frozen?_of_block (o.blk _ (World.block_lt_of_cell? w _ hc) hb)]; exact h2⟩
theorem Wrt.below {w w':World} {sp:Option Addr} {n:Nat} (h:Wrt w sp n) (l:Below w.heap.size w w'):Wrt w' sp n:=h.offB (X:=[]) (Off.of_below l) (fun _ hb=>by cases hb)
def InI:=World→Value→Ibx→List (Nat × List Value)→Prop
structure InOK (I:InI):Prop where
 ptr:∀ w v x bs,I w v x bs→∃ R,v=.pointer (some ⟨R,0,none⟩)
 off:∀ w w' v x bs X,I w v x bs→Off X w w'→(∀ b∈X,b∉bs.map Prod.fst)→I w' v x bs
 new:∀ (w0 w:World) (l:List (Nat × List Value)) (n:Int),i64 n→Mm w0 l w →
  Calls Try.prog 8 #[.int .i64 n] w fun e w'=>∃ v bs,e=.returned v∧I w' v (inew n) bs∧Mm w0 (bs++l) w'∧Below w.heap.size w w'
 tak:∀ (w0 w:World) (v:Value) (x:Ibx) (bs l:List (Nat × List Value)) (p:Int) (sp:Option Addr) (cap:Nat) (b:List Int),IbxW x→x.dn<10000000→i64 p→b.length<1000000→b.length≤cap→(sp=none→cap=0)→Byts b→I w v x bs→Mm w0 (bs++l) w→SrcA (bs.map Prod.fst) w sp b.length (bl b) →
  Calls Try.prog 11 #[v,.int .i64 p,.slice sp b.length cap] w fun e w'=>∃ bs',e=.returned (.int .i64 ((itN x p b.length:Nat):Int))∧I w' v (itk x p b) bs'∧Mm w0 (bs'++l) w'∧Off (bs.map Prod.fst) w w'
 red:∀ (w0 w:World) (v:Value) (x:Ibx) (bs l:List (Nat × List Value)) (m:Int),IbxW x→x.dn<10000000→i64 m→I w v x bs→Mm w0 (bs++l) w →
  Calls Try.prog 13 #[v,.int .i64 m] w fun e w'=>∃ sq cq bs',e=.returned (.slice sq (irB x m).length cq)∧NewL w' w.heap.size (irB x m) (.slice sq (irB x m).length cq)∧Wrt w' sq (irB x m).length∧I w' v (irx x m) bs'∧Mm w0 (bs'++(obs sq++l)) w'∧Off (bs.map Prod.fst) w w'
 her:∀ (w0 w:World) (v:Value) (x:Ibx) (bs l:List (Nat × List Value)),IbxW x→x.dn<10000000→I w v x bs→Mm w0 (bs++l) w →
  Calls Try.prog 21 #[v] w fun e w'=>e=.returned (.int .i64 ((ihr x:Nat):Int))∧Below w.heap.size w w'
 bey:∀ (w0 w:World) (v:Value) (x:Ibx) (bs l:List (Nat × List Value)),IbxW x→x.dn<10000000→I w v x bs→Mm w0 (bs++l) w →
  Calls Try.prog 19 #[v] w fun e w'=>∃ sq cq,e=.returned (.slice sq (ibe x).length cq)∧NewW w' w.heap.size (ibe x) (.slice sq (ibe x).length cq)∧Below w.heap.size w w'
 lim:∀ (w0 w:World) (v:Value) (x:Ibx) (bs l:List (Nat × List Value)),IbxW x→x.dn<10000000→I w v x bs→Mm w0 (bs++l) w →
  Calls Try.prog 20 #[v] w fun e w'=>e=.returned (.int .i64 ((ilim x:Nat):Int))∧Below w.heap.size w w'
 don:∀ (w0 w:World) (v:Value) (x:Ibx) (bs l:List (Nat × List Value)),IbxW x→x.dn<10000000→I w v x bs→Mm w0 (bs++l) w →
  Calls Try.prog 18 #[v] w fun e w'=>e=.returned (.int .i64 ((x.dn:Nat):Int))∧Below w.heap.size w w'
 hld:∀ (w0 w:World) (v:Value) (x:Ibx) (bs l:List (Nat × List Value)),IbxW x→x.dn<10000000→I w v x bs→Mm w0 (bs++l) w →
  Calls Try.prog 17 #[v] w fun e w'=>e=.returned (.int .i64 ((ihd x:Nat):Int))∧Below w.heap.size w w'
theorem InOK.bel {I:InI} (h:InOK I) {w w':World} {v:Value} {x:Ibx} {bs:List (Nat × List Value)} (hI:I w v x bs) (l:Below w.heap.size w w'):I w' v x bs:=h.off w w' v x bs [] hI (Off.of_below l) (fun _ hb=>by cases hb)
def InCl (I:InI):Prop :=
 ∀ (w0 w:World) (v:Value) (x:Ibx) (bs l:List (Nat × List Value)),IbxW x→x.dn<10000000→I w v x bs→Mm w0 (bs++l) w →
  Calls Try.prog 15 #[v] w fun e w'=>∃ v' bs',e=.returned v'∧I w' v' x bs'∧Mm w0 (bs'++(bs++l)) w'∧Below w.heap.size w w'
def dbk19 (R:Nat) (x:Ibx) (n:Nat) (sb si:Option Addr) (cb ci:Nat):List (Nat × List Value):=(R,dcs19 x n sb si cb ci)::(obs sb++obs si)
theorem dbk19_fst (R:Nat) (x:Ibx) (n:Nat) (sb si:Option Addr) (cb ci:Nat):(dbk19 R x n sb si cb ci).map Prod.fst=R::(ob sb++ob si):=by
 unfold dbk19
 rw [List.map_cons,List.map_append,obs_fst,obs_fst]
theorem dbk19_app (R:Nat) (x:Ibx) (n:Nat) (sb si:Option Addr) (cb ci:Nat) (l:List (Nat × List Value)):dbk19 R x n sb si cb ci++l=(R,dcs19 x n sb si cb ci)::(obs sb++(obs si++l)):=by
 unfold dbk19
 simp only [List.cons_append,List.append_assoc]
def DI19 (w0:World):InI:=fun w v x bs=>∃ R n sb si cb ci,v=.pointer (some ⟨R,0,none⟩)∧bs=dbk19 R x n sb si cb ci∧(∀ k,x.is k=true→k<n)∧n≤ilim x∧(∀ j u,(dcs19 x n sb si cb ci)[j]?=some u→w.cell? ⟨R,j,none⟩=some u)∧w.ownsRow w0.heap.size 5 1 (.slice sb n cb) n (row .u8 n x.b)∧w.ownsRow w0.heap.size 4 1 (.slice si n ci) n (brw n x.is)
theorem DI19.off {w0 w w':World} {v:Value} {x:Ibx} {bs:List (Nat × List Value)} {X:List Nat} (h:DI19 w0 w v x bs) (f:Off X w w') (hX:∀ b∈X,b∉bs.map Prod.fst):DI19 w0 w' v x bs:=by
 obtain ⟨R,n,sb,si,cb,ci,e1,e2,hn,hnl,hc,hb,hi⟩:=h
 subst e2
 rw [dbk19_fst] at hX
 refine ⟨R,n,sb,si,cb,ci,e1,rfl,hn,hnl,fun j u hu=>f.cell (hc j u hu) fun hm=>hX _ hm mS,?_,?_⟩
 · exact ownsRow_away hb f fun b hb hm=>hX b hb (mT _ (List.mem_append_left _ hm))
 · exact ownsRow_away hi f fun b hb hm=>hX b hb (mT _ (List.mem_append_right _ hm))
theorem Mm.dcell19 {w0 w:World} {R:Nat} {cs:List Value} {l:List (Nat × List Value)} (M:Mm w0 ((R,cs)::l) w):∀ j u,cs[j]?=some u→w.cell? ⟨R,j,none⟩=some u:=fun j u hu=>M.get mS j u hu
theorem ownsRow_wrt19 {w:World} {base:Nat} {e:TypeId} {n:Nat} {xs:List Value} {sp:Option Addr} {cap:Nat} (h:w.ownsRow base e 1 (.slice sp n cap) n xs):Wrt w sp n:=fun j hj=>by
 rcases h.2 with ⟨_,e2⟩ | ⟨g,cap',cur,e1,_,hg,hc,_,hs,_⟩
 · omega
 · injection e1 with e1 _ e3
   subst e1; subst e3
   refine ⟨_,rfl,?_,?_⟩
   · rw [Addr.add_mid,Nat.zero_add]
     unfold World.cell?
     rw [hg]
     simp
     omega
   · rw [Addr.add_mid,Nat.zero_add]
     unfold World.frozen?
     rw [hg]
     simp
structure DocI19 (w0:World) (I:InI):Prop where
 ptr:∀ w v x bs,I w v x bs→∃ R,v=.pointer (some ⟨R,0,none⟩)
 off:∀ w w' v x bs X,I w v x bs→Off X w w'→(∀ b∈X,b∉bs.map Prod.fst)→I w' v x bs
 tak:∀ (_ w:World) (v:Value) (x:Ibx) (bs l:List (Nat × List Value)) (p:Int) (sp:Option Addr) (cap:Nat) (b:List Int),IbxW x→x.dn<10000000→i64 p→b.length<1000000→b.length≤cap→(sp=none→cap=0)→Byts b→I w v x bs→Mm w0 (bs++l) w→SrcA (bs.map Prod.fst) w sp b.length (bl b) →
  Calls Try.prog 12 #[v,.int .i64 p,.slice sp b.length cap] w fun e w'=>∃ bs',e=.returned (.int .i64 ((itN x p b.length:Nat):Int))∧I w' v (itk x p b) bs'∧Mm w0 (bs'++l) w'∧Off (bs.map Prod.fst) w w'
 red:∀ (_ w:World) (v:Value) (x:Ibx) (bs l:List (Nat × List Value)) (m:Int),IbxW x→x.dn<10000000→i64 m→I w v x bs→Mm w0 (bs++l) w →
  Calls Try.prog 14 #[v,.int .i64 m] w fun e w'=>∃ sq cq bs',e=.returned (.slice sq (irB x m).length cq)∧NewL w' w0.heap.size (irB x m) (.slice sq (irB x m).length cq)∧Wrt w' sq (irB x m).length∧I w' v (irx x m) bs'∧Mm w0 (bs'++(obs sq++l)) w'∧Off (bs.map Prod.fst) w w'
 her:∀ (_ w:World) (v:Value) (x:Ibx) (bs l:List (Nat × List Value)),IbxW x→x.dn<10000000→I w v x bs→Mm w0 (bs++l) w →
  Calls Try.prog 26 #[v] w fun e w'=>e=.returned (.int .i64 ((ihr x:Nat):Int))∧Below w.heap.size w w'
 bey:∀ (_ w:World) (v:Value) (x:Ibx) (bs l:List (Nat × List Value)),IbxW x→x.dn<10000000→I w v x bs→Mm w0 (bs++l) w →
  Calls Try.prog 29 #[v] w fun e w'=>∃ sq cq,e=.returned (.slice sq (ibe x).length cq)∧NewW w' w.heap.size (ibe x) (.slice sq (ibe x).length cq)∧Below w.heap.size w w'
 lim:∀ (_ w:World) (v:Value) (x:Ibx) (bs l:List (Nat × List Value)),IbxW x→x.dn<10000000→I w v x bs→Mm w0 (bs++l) w →
  Calls Try.prog 25 #[v] w fun e w'=>e=.returned (.int .i64 ((ilim x:Nat):Int))∧Below w.heap.size w w'
 hld:∀ (_ w:World) (v:Value) (x:Ibx) (bs l:List (Nat × List Value)),IbxW x→x.dn<10000000→I w v x bs→Mm w0 (bs++l) w →
  Calls Try.prog 30 #[v] w fun e w'=>e=.returned (.int .i64 ((ihd x:Nat):Int))∧Below w.heap.size w w'
theorem DocI19.bel {w0:World} {I:InI} (h:DocI19 w0 I) {w w':World} {v:Value} {x:Ibx} {bs:List (Nat × List Value)} (hI:I w v x bs) (l:Below w.heap.size w w'):I w' v x bs:=h.off w w' v x bs [] hI (Off.of_below l) (fun _ hb=>by cases hb)
theorem di19_new {w0 w:World} {R:Nat} (n:Int) {l:List (Nat × List Value)} (M:Mm w0 ((R,dcs19 (inew n) 0 none none 0 0)::l) w):DI19 w0 w (.pointer (some ⟨R,0,none⟩)) (inew n) [(R,dcs19 (inew n) 0 none none 0 0)] :=
 ⟨R,0,none,none,0,0,rfl,rfl,fun _ h=>(by cases h),Nat.zero_le _,M.dcell19,World.ownsRow_nil ..,World.ownsRow_nil ..⟩
theorem DI19.row {w0 w:World} {R:Nat} {x:Ibx} {bs:List (Nat × List Value)} (h:DI19 w0 w (.pointer (some ⟨R,0,none⟩)) x bs):∃ n sb si cb ci,∀ j u,(dcs19 x n sb si cb ci)[j]?=some u→w.cell? ⟨R,j,none⟩=some u:=by
 obtain ⟨R',n,sb,si,cb,ci,e1,_,_,_,hc,_⟩:=h
 injection e1 with e1
 injection e1 with e1
 injection e1 with e1 _ _
 subst e1
 exact ⟨n,sb,si,cb,ci,hc⟩
theorem dok19 (w0:World):DocI19 w0 (DI19 w0) where
 ptr:=fun _ _ _ _ h=>let ⟨R,_,_,_,_,_,e,_⟩:=h; ⟨R,e⟩
 off:=fun _ _ _ _ _ _ h f hX=>h.off f hX
 tak:=fun _ w v x bs l p sp cap b hw hl hp hbl _ _ hb hI M hs=>by
  obtain ⟨R,n,sb,si,cb,ci,rfl,rfl,hn,hnl,_,Vb,Vi⟩:=hI
  rw [dbk19_app] at M
  rw [dbk19_fst] at hs
  refine (dtake_any w0 w R l x n sb si cb ci hw hn hnl hl p hp sp cap b hb hbl hs M Vb Vi).mono ?_; rintro e w' ⟨n',sb',si',cb',ci',rfl,hn',hnl',M',Vb',Vi',f⟩
  refine ⟨dbk19 R (itk x p b) n' sb' si' cb' ci',rfl,⟨R,n',sb',si',cb',ci',rfl,rfl,hn',hnl',M'.dcell19,Vb',Vi'⟩,?_,?_⟩
  · rw [dbk19_app]; exact M'
  · rw [dbk19_fst]; exact f
 red:=fun _ w v x bs l m hw hl _ hI M=>by
  obtain ⟨R,n,sb,si,cb,ci,rfl,rfl,hn,hnl,_,Vb,Vi⟩:=hI
  rw [dbk19_app] at M
  refine (dread_any w0 w R l x n sb si cb ci hw hn hnl hl m M Vb Vi).mono ?_; rintro e w' ⟨sq,cq,rfl,M',Vq,Vb',Vi',f⟩
  refine ⟨sq,cq,dbk19 R (irx x m) n sb si cb ci,rfl,NewF.of_own Vq,ownsRow_wrt19 Vq,⟨R,n,sb,si,cb,ci,rfl,rfl,hn,?_,M'.dcell19,Vb',Vi'⟩,?_,?_⟩
  · have h1:ilim x=x.dn+x.size:=rfl
    show n≤x.dn+irN x m+x.size
    omega
  · rw [dbk19_app]
    exact M'.perm (by
     classical
     exact List.perm_iff_count.2 fun x=>by simp only [List.count_append,List.count_cons]; ac_rfl)
  · rw [dbk19_fst]; exact f
 her:=fun _ w v x bs l hw hl hI M=>by
  obtain ⟨R,n,sb,si,cb,ci,rfl,rfl,hn,hnl,_,Vb,Vi⟩:=hI
  rw [dbk19_app] at M
  exact dhere_any w0 w R l x n sb si cb ci hw hn hnl hl M Vb Vi
 bey:=fun _ w v x bs l hw hl hI M=>by
  obtain ⟨R,n,sb,si,cb,ci,rfl,rfl,hn,hnl,_,Vb,Vi⟩:=hI
  rw [dbk19_app] at M
  exact dbey_any w0 w R l x n sb si cb ci hw hn hnl hl M Vb Vi
 lim:=fun _ w v x bs l hw hl hI M=>by
  obtain ⟨R,n,sb,si,cb,ci,rfl,rfl,hn,hnl,_,Vb,Vi⟩:=hI
  rw [dbk19_app] at M
  exact dlim_any w0 w R l x n sb si cb ci hw hn hnl hl M Vb Vi
 hld:=fun _ w v x bs l hw hl hI M=>by
  obtain ⟨R,n,sb,si,cb,ci,rfl,rfl,hn,hnl,_,Vb,Vi⟩:=hI
  rw [dbk19_app] at M
  exact dheld_any w0 w R l x n sb si cb ci hw hn hnl hl M Vb Vi
theorem NewW.rngE {w:World} {base:Nat} {l:List (Int × Int)} {sp:Option Addr} {ad:Addr} {cap:Nat} (h:NewW w base l (.slice sp l.length cap)) (hsp:sp=some ad) {i:Nat} {p:Int × Int} (hi:l[i]?=some p):∀ j u,[Value.int .i64 p.1,Value.int .i64 p.2][j]?=some u→w.cell? ((ad.add (i*2)).add j)=some u:=by
 subst hsp
 exact NewW.rng h hi
theorem NewW.someE {w:World} {base:Nat} {l:List (Int × Int)} {sp:Option Addr} {cap:Nat} (h:NewW w base l (.slice sp l.length cap)) {i:Nat} (hi:i<l.length):∃ ad,sp=some ad:=by
 obtain ⟨ad,e,_⟩:=h.at (List.getElem?_eq_getElem hi)
 exact ⟨ad,e⟩
theorem idxR2E (ad:Addr) (len cap i:Nat) (sp:Option Addr) (hsp:sp=some ad) (hi:i<len) {o:Oper} {a:Act} (x y:Operand) (ho:o.op=.indexAddr 39 x y) (hx:a.eval x=.slice sp len cap) (hy:a.eval y=.int .i64 (i:Int)) (w:World):(execOp a.eval o).run Try.prog w=.ok (.value (.pointer (some (ad.add (i*2))))) w:=by
 subst hsp
 exact idxR2 ad len cap i hi x y ho hx hy w
structure Opv where
 k:Int
 n:Int
 b:List Int
def Opc (v:Opv) (bp:Option Addr) (bc:Nat):List Value:=[.int .i64 v.k,.int .i64 v.n,.slice bp v.b.length bc]
structure OpV (w:World) (m:Nat) (v:Opv) (bp:Option Addr) (bc:Nat):Prop where
 k_i:i64 v.k
 n_i:i64 v.n
 b_src:Src w bp v.b.length (bl v.b)
 b_le:v.b.length≤bc
 b_nil:bp=none→bc=0
 b_max:v.b.length≤m
 b_byts:Byts v.b
def OpsIn (w:World) (m:Nat) (sp:Option Addr) (l:List Opv):Prop:=∀ j v,l[j]?=some v→∃ ad bp bc,sp=some ad∧(∀ k x,(Opc v bp bc)[k]?=some x→w.cell? ((ad.add (j*3)).add k)=some x)∧OpV w m v bp bc
theorem cellS19 {w w':World} (l:Below w.heap.size w w') {p:Addr} {u:Value} (h:w.cell? p=some u):w'.cell? p=some u:=by
 rw [l.cell (World.block_lt_of_cell? w _ h)]
 exact h
theorem idxO19 (ad:Addr) (len cap i:Nat) (hi:i<len) {o:Oper} {a:Act} (x y:Operand) (ho:o.op=.indexAddr 22 x y) (hx:a.eval x=.slice (some ad) len cap) (hy:a.eval y=.int .i64 (i:Int)) (w:World):(execOp a.eval o).run Try.prog w=.ok (.value (.pointer (some (ad.add (i*3))))) w :=
 idxSm 22 30 len cap 3 .i64 ad i x y Try.underlying22 (fun _=>by kernel_rfl) hi ho hx hy w
theorem bl_take9 {b:List Int} {k j:Nat} (h:j<k):bl (b.take k) j=bl b j:=by
 unfold bl
 rw [List.getD_eq_getElem?_getD,List.getD_eq_getElem?_getD,List.getElem?_take_of_lt h]
theorem take_byts9 {b:List Int} (h:Byts b) (n:Nat):Byts (b.take n):=fun x hx=>h x (List.mem_of_mem_take hx)
structure Inv19 (m:Nat) (x:Ibx) (q:Nat):Prop where
 w:IbxW x
 sz:x.size=m
 ln:x.dn+ihd x≤1000*q
theorem Inv19.lt {m:Nat} {x:Ibx} {q:Nat} (h:Inv19 m x q) (hq:q≤100):x.dn<10000000:=by have:=h.ln; omega
theorem Inv19.start {z:Int} {m:Nat} (hm:m=(max 1 (min z 1048576)).toNat):Inv19 m (inew z) 0:=⟨inew_w z,hm.symm,by
 have h1:ihd (inew z)=0:=by
  unfold ihd
  have:icnt (inew z).is (ilim (inew z))=0:=icnt_none fun _ _=>rfl
  rw [this]
  exact Nat.zero_sub _
 rw [h1]
 exact xnR 0⟩
theorem Inv19.tk {m:Nat} {x:Ibx} {q:Nat} (h:Inv19 m x q) (p:Int) {b:List Int} (hb:Byts b) (hl:b.length≤1000):Inv19 m (itk x p b) (q+1) :=
 ⟨itk_w h.w p hb,h.sz,by
  have h1:=ihd_take h.w p b; have h2:=itN_le x p b.length; have h3:=h.ln
  show x.dn+ihd (itk x p b)≤_
  omega⟩
theorem Inv19.rd {m:Nat} {x:Ibx} {q:Nat} (h:Inv19 m x q) (n:Int):Inv19 m (irx x n) (q+1) :=
 ⟨irx_w h.w n,h.sz,by
  have h1:=ihd_read h.w n; have h3:=h.ln
  show x.dn+irN x n+ihd (irx x n)≤_
  omega⟩
theorem Inv19.more {m:Nat} {x:Ibx} {q:Nat} (h:Inv19 m x q):Inv19 m x (q+1):=⟨h.w,h.sz,by have:=h.ln; omega⟩
theorem like19_any {I:InI} (hK:InOK I) (w0 w:World) (Ra Ry:Nat) (x:Ibx) (ga gy:List (Nat × List Value)) (hW:IbxW x) (hl:x.dn<10000000) (hIa:I w (.pointer (some ⟨Ra,0,none⟩)) x ga) (hIy:DI19 w0 w (.pointer (some ⟨Ry,0,none⟩)) x gy) (M:Mm w0 (gy++(ga++([]:List (Nat × List Value)))) w) :
 Calls Try.prog 16 #[.pointer (some ⟨Ra,0,none⟩),.pointer (some ⟨Ry,0,none⟩)] w fun e w'=>e=.returned (.bool true)∧I w' (.pointer (some ⟨Ra,0,none⟩)) x ga∧DI19 w0 w' (.pointer (some ⟨Ry,0,none⟩)) x gy∧Mm w0 (gy++(ga++([]:List (Nat × List Value)))) w':=by
 have hbl:=ibe_len x
 go_enter Try.func16,Try.ntmps16
 go_upto_region 0 with fail; refine wp_region_list ?_; refine xpL (.bool false) ?_; refine xT ?_; go_upto_region 1 with fail; refine wp_region_list ?_; refine xpL (.pointer (some ⟨Ra,0,none⟩)) ?_; have Mp:=M.perm (pull1 ([]:List (Nat × List Value)) gy ga ([]:List (Nat × List Value))); have key:=hK.bey w0 _ _ x ga _ hW hl hIa Mp; clear Mp; refine xcL key ?_; clear key
 rintro e w1 ⟨p1,c1,rfl,W_1,l_⟩; replace M:=M.newW l_ W_1; replace hIa:=hK.bel hIa l_; replace hIy:=(dok19 w0).bel hIy l_; clear l_
 replace M:Mm w0 (((obs p1)++(gy++(ga++([]:List (Nat × List Value)))))) w1:=M.perm (pull0 ([]:List (Nat × List Value)) (obs p1) (gy++(ga++([]:List (Nat × List Value))))).symm
 refine xeL ?_; refine xpL (.slice p1 (((ibe x):List (Int × Int)).length) c1) ?_; refine xT ?_; go_upto_region 2 with fail; refine wp_region_list ?_; refine xpL (.pointer (some ⟨Ry,0,none⟩)) ?_; have Mp:=M.perm (pull1 ([]:List (Nat × List Value)) (obs p1) gy (ga++([]:List (Nat × List Value)))); have key:=(dok19 w0).bey w0 _ _ x gy _ hW hl hIy Mp; clear Mp; refine xcL key ?_
 clear key; rintro e w2 ⟨p2,c2,rfl,W_2,l_⟩; replace M:=M.newW l_ W_2; replace hIa:=hK.bel hIa l_; replace hIy:=(dok19 w0).bel hIy l_; replace W_1:=NewW.below W_1 l_; clear l_
 replace M:Mm w0 (((obs p2)++((obs p1)++(gy++(ga++([]:List (Nat × List Value))))))) w2:=M.perm (pull0 ([]:List (Nat × List Value)) (obs p2) ((obs p1)++(gy++(ga++([]:List (Nat × List Value)))))).symm
 refine xeL ?_; refine xpL (.slice p2 (((ibe x):List (Int × Int)).length) c2) ?_; refine xT ?_
 obtain ⟨n_,sb,si,cb,ci,c_y⟩:=hIy.row
 go_upto_region 3 with fail; have hdr:=(Below.refl w2.heap.size w2).drew; replace M:=M.drew; replace hIa:=hK.bel hIa hdr; replace hIy:=(dok19 w0).bel hIy hdr; replace W_1:=NewW.below W_1 hdr; replace W_2:=NewW.below W_2 hdr; replace c_y:=fun j_ u_ h_=>cellS19 hdr (c_y j_ u_ h_); clear hdr
 refine wp_region_held_drew (S:=fun w'=>∀ j_ u_,(dcs19 x n_ sb si cb ci)[j_]?=some u_→w'.cell? ⟨Ry,j_,none⟩=some u_) (by kernel_rfl) c_y ?_; intro _; generalize w2.drew=w3 at M hIa hIy W_1 W_2 c_y ⊢; refine xrH 0 12 rfl (.pointer (some ⟨Ra,0,none⟩)) (fun _ hS=>(by kernel_rfl)) c_y ?_; refine xrH 2 14 rfl (.pointer (some ⟨Ry,0,none⟩)) (fun _ hS=>(by kernel_rfl)) c_y ?_
 have Mp:=M.perm (pull3 ([]:List (Nat × List Value)) (obs p2) (obs p1) gy ga ([]:List (Nat × List Value))); have key:=hK.her w0 _ _ x ga _ hW hl hIa Mp; clear Mp; refine callH (i:=1) (some 13) rfl (by kernel_rfl) rfl rfl (fun _=>by kernel_rfl) key ?_; clear key; rintro e w4 ⟨rfl,l_⟩; replace M:=M.call l_; replace hIa:=hK.bel hIa l_; replace hIy:=(dok19 w0).bel hIy l_
 replace W_1:=NewW.below W_1 l_; replace W_2:=NewW.below W_2 l_; replace c_y:=fun j_ u_ h_=>cellS19 l_ (c_y j_ u_ h_); clear l_
 refine ⟨_,rfl,c_y,?_⟩
 simp only [aP,lI,l0,lS]; have Mp:=M.perm (pull2 ([]:List (Nat × List Value)) (obs p2) (obs p1) gy (ga++([]:List (Nat × List Value)))); have key:=(dok19 w0).her w0 _ _ x gy _ hW hl hIy Mp; clear Mp; refine callH (i:=3) (some 15) rfl (by kernel_rfl) rfl rfl (fun _=>by kernel_rfl) key ?_; clear key; rintro e w5 ⟨rfl,l_⟩; replace M:=M.call l_; replace hIa:=hK.bel hIa l_
 replace hIy:=(dok19 w0).bel hIy l_; replace W_1:=NewW.below W_1 l_; replace W_2:=NewW.below W_2 l_; replace c_y:=fun j_ u_ h_=>cellS19 l_ (c_y j_ u_ h_); clear l_
 refine ⟨_,rfl,c_y,?_⟩
 simp only [aP,lI,l0,lS]; refine xrH 4 16 rfl (.bool false) (fun _ hS=>neqI .i64 _ _ _ _ _ _ rfl rfl rfl false (bne_self_eq_false _) _) c_y ?_; refine xrH 5 17 rfl (.bool false) (fun _ hS=>(by kernel_rfl)) c_y ?_; refine xrH 6 18 rfl (.pointer (some ⟨Ra,0,none⟩)) (fun _ hS=>(by kernel_rfl)) c_y ?_; refine xrH 8 20 rfl (.pointer (some ⟨Ry,0,none⟩)) (fun _ hS=>(by kernel_rfl)) c_y ?_
 have Mp:=M.perm (pull3 ([]:List (Nat × List Value)) (obs p2) (obs p1) gy ga ([]:List (Nat × List Value))); have key:=hK.lim w0 _ _ x ga _ hW hl hIa Mp; clear Mp; refine callH (i:=7) (some 19) rfl (by kernel_rfl) rfl rfl (fun _=>by kernel_rfl) key ?_; clear key; rintro e w6 ⟨rfl,l_⟩; replace M:=M.call l_; replace hIa:=hK.bel hIa l_; replace hIy:=(dok19 w0).bel hIy l_
 replace W_1:=NewW.below W_1 l_; replace W_2:=NewW.below W_2 l_; replace c_y:=fun j_ u_ h_=>cellS19 l_ (c_y j_ u_ h_); clear l_
 refine ⟨_,rfl,c_y,?_⟩
 simp only [aP,lI,l0,lS]; have Mp:=M.perm (pull2 ([]:List (Nat × List Value)) (obs p2) (obs p1) gy (ga++([]:List (Nat × List Value)))); have key:=(dok19 w0).lim w0 _ _ x gy _ hW hl hIy Mp; clear Mp; refine callH (i:=9) (some 21) rfl (by kernel_rfl) rfl rfl (fun _=>by kernel_rfl) key ?_; clear key; rintro e w7 ⟨rfl,l_⟩; replace M:=M.call l_; replace hIa:=hK.bel hIa l_
 replace hIy:=(dok19 w0).bel hIy l_; replace W_1:=NewW.below W_1 l_; replace W_2:=NewW.below W_2 l_; replace c_y:=fun j_ u_ h_=>cellS19 l_ (c_y j_ u_ h_); clear l_
 refine ⟨_,rfl,c_y,?_⟩
 simp only [aP,lI,l0,lS]; refine xrH 10 22 rfl (.bool false) (fun _ hS=>neqI .i64 _ _ _ _ _ _ rfl rfl rfl false (bne_self_eq_false _) _) c_y ?_; refine xrH 11 23 rfl (.bool false) (fun _ hS=>(by kernel_rfl)) c_y ?_; refine xrH 12 24 rfl (.bool false) (fun _ hS=>(by kernel_rfl)) c_y ?_; refine xrH 13 25 rfl (.pointer (some ⟨Ra,0,none⟩)) (fun _ hS=>(by kernel_rfl)) c_y ?_
 refine xrH 15 27 rfl (.pointer (some ⟨Ry,0,none⟩)) (fun _ hS=>(by kernel_rfl)) c_y ?_; refine xrH 16 28 rfl (.pointer (some ⟨Ry,0,none⟩)) (fun _ hS=>(by kernel_rfl)) c_y ?_; refine xrH 17 29 rfl (.pointer (some ⟨Ry,1,none⟩)) (fun _ hS=>(by kernel_rfl)) c_y ?_
 refine xrH 18 30 rfl (.int .i64 ((x.dn:Nat):Int)) (fun _ hS=>load1 3 _ ⟨Ry,1,none⟩ _ rfl rfl (fun _=>by kernel_rfl) ((hS 1 _ rfl))) c_y ?_; have Mp:=M.perm (pull3 ([]:List (Nat × List Value)) (obs p2) (obs p1) gy ga ([]:List (Nat × List Value))); have key:=hK.don w0 _ _ x ga _ hW hl hIa Mp; clear Mp
 refine callH (i:=14) (some 26) rfl (by kernel_rfl) rfl rfl (fun _=>by kernel_rfl) key ?_; clear key; rintro e w8 ⟨rfl,l_⟩; replace M:=M.call l_; replace hIa:=hK.bel hIa l_; replace hIy:=(dok19 w0).bel hIy l_; replace W_1:=NewW.below W_1 l_; replace W_2:=NewW.below W_2 l_; replace c_y:=fun j_ u_ h_=>cellS19 l_ (c_y j_ u_ h_); clear l_
 refine ⟨_,rfl,c_y,?_⟩
 simp only [aP,lI,l0,lS]; refine xrH 19 31 rfl (.bool false) (fun _ hS=>neqI .i64 _ _ _ _ _ _ rfl rfl rfl false (bne_self_eq_false _) _) c_y ?_; refine xrH 20 32 rfl (.bool false) (fun _ hS=>(by kernel_rfl)) c_y ?_; refine xrH 21 33 rfl (.bool false) (fun _ hS=>(by kernel_rfl)) c_y ?_; refine xrH 22 34 rfl (.pointer (some ⟨Ra,0,none⟩)) (fun _ hS=>(by kernel_rfl)) c_y ?_
 refine xrH 24 36 rfl (.pointer (some ⟨Ry,0,none⟩)) (fun _ hS=>(by kernel_rfl)) c_y ?_; have Mp:=M.perm (pull3 ([]:List (Nat × List Value)) (obs p2) (obs p1) gy ga ([]:List (Nat × List Value))); have key:=hK.hld w0 _ _ x ga _ hW hl hIa Mp; clear Mp; refine callH (i:=23) (some 35) rfl (by kernel_rfl) rfl rfl (fun _=>by kernel_rfl) key ?_; clear key; rintro e w9 ⟨rfl,l_⟩
 replace M:=M.call l_; replace hIa:=hK.bel hIa l_; replace hIy:=(dok19 w0).bel hIy l_; replace W_1:=NewW.below W_1 l_; replace W_2:=NewW.below W_2 l_; replace c_y:=fun j_ u_ h_=>cellS19 l_ (c_y j_ u_ h_); clear l_
 refine ⟨_,rfl,c_y,?_⟩
 simp only [aP,lI,l0,lS]; have Mp:=M.perm (pull2 ([]:List (Nat × List Value)) (obs p2) (obs p1) gy (ga++([]:List (Nat × List Value)))); have key:=(dok19 w0).hld w0 _ _ x gy _ hW hl hIy Mp; clear Mp; refine callH (i:=25) (some 37) rfl (by kernel_rfl) rfl rfl (fun _=>by kernel_rfl) key ?_; clear key; rintro e w10 ⟨rfl,l_⟩; replace M:=M.call l_; replace hIa:=hK.bel hIa l_
 replace hIy:=(dok19 w0).bel hIy l_; replace W_1:=NewW.below W_1 l_; replace W_2:=NewW.below W_2 l_; replace c_y:=fun j_ u_ h_=>cellS19 l_ (c_y j_ u_ h_); clear l_
 refine ⟨_,rfl,c_y,?_⟩
 simp only [aP,lI,l0,lS]; refine xrH 26 38 rfl (.bool false) (fun _ hS=>neqI .i64 _ _ _ _ _ _ rfl rfl rfl false (bne_self_eq_false _) _) c_y ?_; refine xrH 27 39 rfl (.bool false) (fun _ hS=>(by kernel_rfl)) c_y ?_; refine xrH 28 40 rfl (.bool false) (fun _ hS=>(by kernel_rfl)) c_y ?_
 refine xrH 29 41 rfl (.slice p1 (((ibe x):List (Int × Int)).length) c1) (fun _ hS=>(by kernel_rfl)) c_y ?_; refine xrH 30 42 rfl (.int .i64 ((((ibe x):List (Int × Int)).length:Nat):Int)) (fun _ hS=>lenS _ 39 44 p1 (((ibe x):List (Int × Int)).length) c1 rfl Try.underlying39 rfl _) c_y ?_
 refine xrH 31 43 rfl (.slice p2 (((ibe x):List (Int × Int)).length) c2) (fun _ hS=>(by kernel_rfl)) c_y ?_; refine xrH 32 44 rfl (.int .i64 ((((ibe x):List (Int × Int)).length:Nat):Int)) (fun _ hS=>lenS _ 39 44 p2 (((ibe x):List (Int × Int)).length) c2 rfl Try.underlying39 rfl _) c_y ?_
 refine xrH 33 45 rfl (.bool false) (fun _ hS=>neqI .i64 _ _ _ _ _ _ rfl rfl rfl false (bne_self_eq_false _) _) c_y ?_; refine xrH 34 46 rfl (.bool false) (fun _ hS=>(by kernel_rfl)) c_y ?_
 refine wpAnyH_done (by kernel_rfl) ?_ _
 first | show Exit.then _ _ _ _ _ | show Exit.inBlock _ _ _ _ _
 clear c_y; go_upto_region 5 with fail; refine wp_region_list ?_; refine xpL (.int .i64 0) ?_; refine xT ?_
 obtain ⟨b_1,W_1⟩:∃ b_,NewW w10 b_ (ibe x) (.slice p1 (ibe x).length c1):=⟨_,W_1⟩
 obtain ⟨b_2,W_2⟩:∃ b_,NewW w10 b_ (ibe x) (.slice p2 (ibe x).length c2):=⟨_,W_2⟩
 have HI:=show Hid _ from (show I w10 (.pointer (some ⟨Ra,0,none⟩)) x ga∧DI19 w0 w10 (.pointer (some ⟨Ry,0,none⟩)) x gy∧NewW w10 b_1 (ibe x) (.slice p1 (ibe x).length c1)∧NewW w10 b_2 (ibe x) (.slice p2 (ibe x).length c2)∧Mm w0 (((obs p2)++((obs p1)++(gy++(ga++([]:List (Nat × List Value))))))) w10 from ⟨hIa,hIy,W_1,W_2,M⟩); clear M hIa hIy W_1 W_2; go_wp2
 go_loopw [7] (fun i w'=>∃ i':Nat,i'≤(ibe x).length∧i=.int .i64 (i':Int)∧I w' (.pointer (some ⟨Ra,0,none⟩)) x ga∧DI19 w0 w' (.pointer (some ⟨Ry,0,none⟩)) x gy∧NewW w' b_1 (ibe x) (.slice p1 (ibe x).length c1)∧NewW w' b_2 (ibe x) (.slice p2 (ibe x).length c2)∧Mm w0 (((obs p2)++((obs p1)++(gy++(ga++([]:List (Nat × List Value))))))) w') (fun i _=>(ibe x).length-(intOf i).toNat)
 case atStart=>exact ⟨0,Nat.zero_le _,rfl,HI.out⟩
 case round =>
  clear HI
  obtain ⟨i,hi,rfl,hIa,hIy,W_1,W_2,M⟩:=hrel
  by_cases hil:i<(ibe x).length
  · obtain ⟨pr,hpr⟩:∃ pr,(ibe x)[i]?=some pr:=⟨_,List.getElem?_eq_getElem hil⟩
    obtain ⟨ad_1,had_1⟩:=NewW.someE W_1 hil
    obtain ⟨ad_2,had_2⟩:=NewW.someE W_2 hil
    go_upto_region 6 with fail; refine wp_region_list ?_; refine xpL (.int .i64 (i:Int)) ?_; refine xpL (.slice p1 (((ibe x):List (Int × Int)).length) c1) ?_; refine readL (.int .i64 ((((ibe x):List (Int × Int)).length:Nat):Int)) rfl (lenS _ 39 44 p1 (((ibe x):List (Int × Int)).length) c1 rfl Try.underlying39 rfl _) ?_; simp only [aP,lI,l0,lS]
    refine xaL (.bool true) (lssI .i64 _ _ _ _ _ _ rfl rfl rfl true (decide_eq_true (by omega)) _) ?_; refine xT ?_; go_upto_region 8 with fail; have hdr:=(Below.refl wr.heap.size wr).drew; replace M:=M.drew; replace hIa:=hK.bel hIa hdr; replace hIy:=(dok19 w0).bel hIy hdr; replace W_1:=NewW.below W_1 hdr; replace W_2:=NewW.below W_2 hdr; clear hdr
    refine wp_region_held_drew (S:=fun w'=>NewW w' b_1 (ibe x) (.slice p1 (ibe x).length c1)∧NewW w' b_2 (ibe x) (.slice p2 (ibe x).length c2)) (by kernel_rfl) ⟨W_1,W_2⟩ ?_; intro _; generalize wr.drew=w11 at M hIa hIy W_1 W_2 ⊢; refine xrH 0 53 rfl (.slice p1 (((ibe x):List (Int × Int)).length) c1) (fun _ hS=>(by kernel_rfl)) ⟨W_1,W_2⟩ ?_
    refine xrH 1 54 rfl (.int .i64 (i:Int)) (fun _ hS=>(by kernel_rfl)) ⟨W_1,W_2⟩ ?_; refine xrH 2 55 rfl (.pointer (some (ad_1.add (i*2)))) (fun _ hS=>idxR2E ad_1 _ _ i _ had_1 hil _ _ rfl rfl rfl _) ⟨W_1,W_2⟩ ?_
    refine xrH 3 56 rfl (.agg #[.int .i64 pr.1,.int .i64 pr.2]) (fun _ hS=>loadN 44 _ (ad_1.add (i*2)) [.int .i64 pr.1,.int .i64 pr.2] rfl rfl (fun _=>by kernel_rfl) (fun _=>by kernel_rfl) (NewW.rngE hS.1 had_1 hpr)) ⟨W_1,W_2⟩ ?_; refine xrH 4 57 rfl (.slice p2 (((ibe x):List (Int × Int)).length) c2) (fun _ hS=>(by kernel_rfl)) ⟨W_1,W_2⟩ ?_
    refine xrH 5 58 rfl (.int .i64 (i:Int)) (fun _ hS=>(by kernel_rfl)) ⟨W_1,W_2⟩ ?_; refine xrH 6 59 rfl (.pointer (some (ad_2.add (i*2)))) (fun _ hS=>idxR2E ad_2 _ _ i _ had_2 hil _ _ rfl rfl rfl _) ⟨W_1,W_2⟩ ?_
    refine xrH 7 60 rfl (.agg #[.int .i64 pr.1,.int .i64 pr.2]) (fun _ hS=>loadN 44 _ (ad_2.add (i*2)) [.int .i64 pr.1,.int .i64 pr.2] rfl rfl (fun _=>by kernel_rfl) (fun _=>by kernel_rfl) (NewW.rngE hS.2 had_2 hpr)) ⟨W_1,W_2⟩ ?_; refine xrH 8 61 rfl (.bool false) (fun _ hS=>neqRg _ _ _ _ rfl rfl rfl _) ⟨W_1,W_2⟩ ?_
    refine wpAnyH_done (by kernel_rfl) ?_ _
    first | show Exit.then _ _ _ _ _ | show Exit.inBlock _ _ _ _ _
    have HS:=show Hid _ from (show I w11 (.pointer (some ⟨Ra,0,none⟩)) x ga∧DI19 w0 w11 (.pointer (some ⟨Ry,0,none⟩)) x gy∧NewW w11 b_1 (ibe x) (.slice p1 (ibe x).length c1)∧NewW w11 b_2 (ibe x) (.slice p2 (ibe x).length c2)∧Mm w0 (((obs p2)++((obs p1)++(gy++(ga++([]:List (Nat × List Value))))))) w11 from ⟨hIa,hIy,W_1,W_2,M⟩); clear M hIa hIy W_1 W_2; go_wp2
    go_roundw
    case rel=>exact ⟨i+1,by omega,by go_num,HS.out⟩
    case measure=>simp [intOf]; omega
  · go_upto_region 6 with fail
    refine wp_region_list ?_; refine xpL (.int .i64 (i:Int)) ?_; refine xpL (.slice p1 (((ibe x):List (Int × Int)).length) c1) ?_; refine readL (.int .i64 ((((ibe x):List (Int × Int)).length:Nat):Int)) rfl (lenS _ 39 44 p1 (((ibe x):List (Int × Int)).length) c1 rfl Try.underlying39 rfl _) ?_; simp only [aP,lI,l0,lS]
    refine xaL (.bool false) (lssI .i64 _ _ _ _ _ _ rfl rfl rfl false (decide_eq_false (by omega)) _) ?_; refine xT ?_; go_upto_region 10 with fail; refine wp_region_list ?_; refine xpL (.bool true) ?_; refine xT ?_
    replace M:Mm w0 (((obs p2)++(gy++(ga++([]:List (Nat × List Value)))))) wr:=M.sub _ ((List.Sublist.refl _).append (List.sublist_append_right _ _))
    clear W_1
    replace M:Mm w0 ((gy++(ga++([]:List (Nat × List Value))))) wr:=M.sub _ (List.sublist_append_right _ _)
    clear W_2; have HS:=show Hid _ from (show I wr (.pointer (some ⟨Ra,0,none⟩)) x ga∧DI19 w0 wr (.pointer (some ⟨Ry,0,none⟩)) x gy∧Mm w0 (gy++(ga++([]:List (Nat × List Value)))) wr from ⟨hIa,hIy,M⟩); clear M hIa hIy; go_wp2; go_ret
    exact ⟨rfl,HS.out⟩
end Go.Proofs.Ytcjahbdlaojnoaa
