/- Texts of LawPathsOnce, joined. -/
import Derived.Test.YtdengjdfmhcbiaaP2PathsOnce
import Derived.Deep.CutBlock
import Derived.Deep.DeepCutAuto
set_option maxRecDepth 20000
set_option maxHeartbeats 64000000
namespace Go.Proofs.Ytdengjdfmhcbiaa
open Go.RowKit
theorem idxBE (b i:Nat) (j:Int) (hj:j=(i:Int)) (hi:i<256) {o:Oper} {a:Act} (x y:Operand) (ho:o.op=.indexAddr 47 x y) (hx:a.eval x=.pointer (some ⟨b,0,none⟩)) (hy:a.eval y=.int .i64 j) (w:World) :
 (execOp a.eval o).run Try.prog w=.ok (.value (.pointer (some ⟨b,i,none⟩))) w:=by
 subst hj; have h:=idxArr (P:=Try.prog) 47 4 256 .i64 b 0 i x y Try.underlying47 (fun _=>by kernel_rfl) hi ho hx hy w
 rw [Nat.zero_add] at h
 exact h
def Usd (t:Ptb) (u:Nat→Bool):Prop:=∀ k,u k=decide ((t k).st≠0)
theorem Usd.same {t t2:Ptb} {u:Nat→Bool} (h:Usd t u) (he:∀ k,(t2 k).st=0↔(t k).st=0):Usd t2 u:=fun k=>by
 rw [h k,decide_eq_decide]
 exact not_congr (he k).symm
theorem Usd.put {t:Ptb} {u:Nat→Bool} (h:Usd t u) (i:Nat) {p:Pth} (hp:p.st≠0):Usd (pput t i p) (bput u i true):=fun k=>by
 by_cases c:k=i
 · subst c
   rw [bput_same,pput_same,decide_eq_true hp]
 · rw [bput_other c,pput_other c]
   exact h k
theorem st_put {t:Ptb} {i:Nat} {p:Pth} (h0:(t i).st≠0) (hp:p.st≠0) (k:Nat):(pput t i p k).st=0↔(t k).st=0:=by
 by_cases c:k=i
 · subst c
   rw [pput_same]
   exact ⟨fun e=>absurd e hp,fun e=>absurd e h0⟩
 · rw [pput_other c]
theorem st_due (t:Ptb) (m k:Nat):(pdt t m k).st=0↔(t k).st=0:=by
 unfold pdt
 split
 · next c =>
   have h1:(t k).st=1∧(t k).nx≤m:=of_decide_eq_true c
   split
   · exact ⟨fun e=>absurd e (show (4:Nat)≠0 by decide),fun e=>absurd h1.1 (by omega)⟩
   · exact Iff.rfl
 · exact Iff.rfl
theorem st_ans (t:Ptb) (id:Int) (tk:Nat→Int) (k:Nat):(pant t id tk k).st=0↔(t k).st=0:=by
 unfold pant
 split
 · next c =>
   have h1:(t (pix id)).st=1:=of_decide_eq_true (Bool.and_eq_true_iff.1 c).1
   exact st_put (by omega) (show (2:Nat)≠0 by decide) k
 · exact Iff.rfl
theorem st_rem (t:Ptb) (id:Int) (k:Nat):(prm t id k).st=0↔(t k).st=0:=by
 unfold prm
 split
 · next c=>exact st_put (by omega) (show (3:Nat)≠0 by decide) k
 · exact Iff.rfl
theorem pst_nat {t:Ptb} {j:Nat} (h:j<256):pst t ((j:Nat):Int)=(t j).st:=by
 unfold pst pix
 rw [if_pos (by omega),Int.toNat_natCast]
theorem pmay_in {t:Ptb} {id:Int} {i:Nat} (hi:id=(i:Int)) (h:i<256):pix id=i∧((pmay t id=0∧(t i).st=0)∨(pmay t id=201∧(t i).st≠0)∨(pmay t id=2∧(t i).st=0)):=by
 have hp:pix id=i:=by
  unfold pix
  rw [if_pos (by omega)]
  omega
 refine ⟨hp,?_⟩
 unfold pmay
 rw [if_neg (by omega),hp]
 by_cases d:(t i).st≠0
 · rw [if_pos d]; exact .inr (.inl ⟨rfl,d⟩)
 · rw [if_neg d]
   by_cases e:16≤pcn t
   · rw [if_pos e]; exact .inr (.inr ⟨rfl,by omega⟩)
   · rw [if_neg e]; exact .inl ⟨rfl,by omega⟩
theorem pmay_out {t:Ptb} {id:Int} (h:¬ (0≤id∧id≤255)):pmay t id=1:=if_pos (by omega)
theorem padd_no {t:Ptb} {id:Int} (h:pmay t id≠0) (tk:Nat→Int) (n:Int):padd t id tk n=t:=if_neg h
theorem pbeg_no {t:Ptb} {id:Int} (h:pmay t id≠0):pbeg t id=t:=if_neg h
theorem padd_ok {t:Ptb} {id:Int} {i:Nat} (h:pmay t id=0) (hi:pix id=i) (tk:Nat→Int) (n:Int):padd t id tk n=pput t i ⟨1,100,0,pmom n,tk⟩:=by
 unfold padd
 rw [if_pos h,hi]
theorem law_PathsOnce {I:TabI} (hK:TabOK I) (sp:Option Addr) (cap:Nat) (l:List Opv) (_maxl:l.length≤140737488351232) (w0:World) (hin:OpsIn w0 140737488351232 sp l) :
 Calls Try.prog 4 #[.slice sp l.length cap] w0 fun e w'=>e=.returned (.bool true)∧Below w0.heap.size w0 w':=by
 have M:=Mm.init w0
 go_enter Try.func4,Try.ntmps4
 go_upto_region 0 with fail; refine wp_region_list ?_; refine xpL (.bool false) ?_; refine xT ?_; go_upto_region 1 with fail; refine wp_region_list ?_; have key:=shown20_any hK w0; refine xcL key ?_; clear key; rintro e w1 ⟨rfl,l_⟩; replace M:=M.call l_; clear l_; refine xeL ?_; refine xpL (.bool true) ?_; refine xT ?_; go_upto_region 2 with fail; refine wp_region_list ?_
 have key:=hK.new w0 _ _ M; refine xcL key ?_; clear key; rintro e w2 ⟨v_,ba0,rfl,hIa,M',l_⟩
 obtain ⟨Ra,rfl⟩:=hK.ptr _ _ _ _ hIa
 clear M; have M:=M'.perm (pull0 ([]:List (Nat × List Value)) ba0 ([]:List (Nat × List Value))).symm; clear M'; clear l_
 replace M:Mm w0 ((ba0++([]:List (Nat × List Value)))) w2:=M
 refine xeL ?_; refine xpL (.pointer (some ⟨Ra,0,none⟩)) ?_; refine xT ?_; go_upto_region 3 with fail; refine wp_region_list ?_; refine xpL (.bool true) ?_; refine xpL (.bool false) ?_; refine xpL (.bool false) ?_; refine xpL (.pointer (some ⟨Ra,0,none⟩)) ?_; refine xpL (.bool false) ?_; refine xpL (.bool false) ?_; refine xT ?_; go_upto_region 5 with fail; refine wp_region_list ?_
 refine xpL (.agg (brw 256 (fun _=>false)).toArray) ?_; have hlb:=(Below.refl w2.heap.size w2).alloc (xnR _) (.cells (brw 256 (fun _=>false)).toArray 47); refine actL (w':=w2.alloc (.cells (brw 256 (fun _=>false)).toArray 47)) (.pointer (some ⟨w2.heap.size,0,none⟩)) rfl (by kernel_rfl) ?_; simp only [aP,lI,l0,lS]; replace hIa:=hK.bel hIa hlb
 replace M:=M.box (brw 256 (fun _=>false)).toArray 47 w2.heap.size rfl; clear hlb; generalize w2.alloc (.cells (brw 256 (fun _=>false)).toArray 47)=w3 at M hIa ⊢; generalize w2.heap.size=B3 at M ⊢
 replace M:Mm w0 ((B3,brw 256 (fun _=>false))::(ba0++([]:List (Nat × List Value)))) w3:=M
 refine skipOpL rfl (storeP (brw 256 (fun _=>false)) B3 0 47 _ _ rfl rfl rfl (by rw [List.size_toArray,brw_length]; exact M.thereP mS 0 256 (by rw [brw_length]; decide)) (by rw [List.size_toArray,brw_length]; kernel_rfl) (brw_one _ _)) ?_
 simp only [Act.put]; replace M:=M.setAll (brw 256 (fun _=>false)) rfl; replace hIa:=hK.off _ _ _ _ _ _ hIa ((Off.refl [B3] _).setAll (b:=B3) mS 0 (brw 256 (fun _=>false))) (fun b_ hb_=>by obtain rfl:=xm1 hb_; exact M.awayC (fun p_ hp_=>by simp [hp_])); generalize w3.setCells B3 0 (brw 256 (fun _=>false))=w4 at M hIa ⊢
 replace M:Mm w0 ((B3,brw 256 (fun _=>false))::(ba0++([]:List (Nat × List Value)))) w4:=M
 refine xT ?_; go_upto_region 6 with fail; refine wp_region_list ?_; refine xpL (.int .i64 0) ?_; refine xT ?_; have HI:=show Hid _ from (show PtbW pnew∧Usd pnew (fun _=>false)∧I w4 (.pointer (some ⟨Ra,0,none⟩)) pnew ba0∧Mm w0 ((B3,brw 256 (fun _=>false))::(ba0++([]:List (Nat × List Value)))) w4 from ⟨pnew_w,fun _=>rfl,hIa,M⟩); clear M hIa; go_wp2
 go_loopw [6] (fun i w'=>∃ (q:Nat) (t:Ptb) (u:Nat→Bool) (ga:List (Nat × List Value)),q≤100∧q≤l.length∧i=.int .i64 (q:Int)∧PtbW t∧Usd t u∧I w' (.pointer (some ⟨Ra,0,none⟩)) t ga∧Mm w0 ((B3,brw 256 u)::(ga++([]:List (Nat × List Value)))) w') (fun i _=>l.length-(intOf i).toNat)
 case atStart=>exact ⟨0,_,_,_,by omega,by omega,rfl,HI.out⟩
 case round =>
  clear HI
  obtain ⟨q,t,u,ga,hq,hq2,rfl,hW,hU,hIa,M⟩:=hrel
  go_upto_region 7 with fail; refine wp_region_list ?_; refine xpL (.int .i64 (q:Int)) ?_; refine xpL (.slice sp l.length cap) ?_; refine xaL (.int .i64 ((l.length:Nat):Int)) (lenS _ 22 32 sp l.length cap rfl Try.underlying22 rfl _) ?_
  obtain ⟨b1,hb1⟩:∃ y_,y_=(decide ((q:Int)<((l.length:Nat):Int))):=⟨_,rfl⟩
  refine xaL (.bool b1) (lssI .i64 _ _ _ _ _ _ rfl rfl rfl b1 hb1.symm _) ?_; refine xpL (.bool b1) ?_
  refine mayL (b1) (.int .i64 (q:Int)) ((bif b1 then (.int .i64 (q:Int)) else undef)) (by cases b1 <;> rfl) (by cases b1 <;> rfl) (fun hc=>by cases b1 <;> first | (cases hc; done) | kernel_rfl) ?_
  simp only [aP,lI,l0,lS]
  obtain ⟨b2,hb2⟩:∃ y_,y_=(decide ((q:Int)<100)):=⟨_,rfl⟩
  refine mayL (b1) (.bool b2) ((bif b1 then (.bool b2) else undef)) (by cases b1 <;> rfl) (by cases b1 <;> rfl) (fun hc=>by cases b1 <;> first | (cases hc; done) | exact (lssI .i64 _ _ _ _ _ _ rfl rfl rfl b2 hb2.symm _)) ?_
  simp only [aP,lI,l0,lS]
  obtain ⟨b3,hb3⟩:∃ y_,y_=(b1&&b2):=⟨_,rfl⟩
  refine xaL (.bool b3) (by subst hb3; cases b1 <;> rfl) ?_; refine xT ?_
  cases b3 with
  | true =>
    have hlt_l:q<l.length∧q<100:=by
     simp only [hb1,hb2] at hb3
     simp at hb3
     omega
    try clear hb1
    try clear hb2
    try clear hb3
    obtain ⟨hlt_l,hlt2⟩:=hlt_l
    obtain ⟨v,hv⟩:∃ v,l[q]?=some v:=⟨_,List.getElem?_eq_getElem hlt_l⟩
    obtain ⟨ad,rfl,hoc,hov⟩:=hin q v hv
    go_upto_region 9 with fail; refine wp_region_list ?_; refine xpL (.slice (some ad) l.length cap) ?_; refine xpL (.int .i64 (q:Int)) ?_; refine readL (.pointer (some (ad.add (q*11)))) rfl (idxO20 ad _ _ q hlt_l _ _ rfl rfl rfl _) ?_; simp only [aP,lI,l0,lS]
    refine xaL (.agg #[.int .i64 v.k,.int .i64 v.d,.int .i64 v.n,.int .u8 (v.t 0),.int .u8 (v.t 1),.int .u8 (v.t 2),.int .u8 (v.t 3),.int .u8 (v.t 4),.int .u8 (v.t 5),.int .u8 (v.t 6),.int .u8 (v.t 7)]) (loadN 32 _ (ad.add (q*11)) [.int .i64 v.k,.int .i64 v.d,.int .i64 v.n,.int .u8 (v.t 0),.int .u8 (v.t 1),.int .u8 (v.t 2),.int .u8 (v.t 3),.int .u8 (v.t 4),.int .u8 (v.t 5),.int .u8 (v.t 6),.int .u8 (v.t 7)] rfl rfl (fun _=>by kernel_rfl) (fun _=>by kernel_rfl) (fun k_ x_ hx_=>cellS20 M.below (hoc k_ x_ hx_))) ?_
    have hlb:=(Below.refl wr.heap.size wr).alloc (xnR _) (.cells #[.int .i64 0,.int .i64 0,.int .i64 0,.int .u8 0,.int .u8 0,.int .u8 0,.int .u8 0,.int .u8 0,.int .u8 0,.int .u8 0,.int .u8 0] 32)
    refine actL (w':=wr.alloc (.cells #[.int .i64 0,.int .i64 0,.int .i64 0,.int .u8 0,.int .u8 0,.int .u8 0,.int .u8 0,.int .u8 0,.int .u8 0,.int .u8 0,.int .u8 0] 32)) (.pointer (some ⟨wr.heap.size,0,none⟩)) rfl (by kernel_rfl) ?_; simp only [aP,lI,l0,lS]; replace hIa:=hK.bel hIa hlb
    replace M:=M.box #[.int .i64 0,.int .i64 0,.int .i64 0,.int .u8 0,.int .u8 0,.int .u8 0,.int .u8 0,.int .u8 0,.int .u8 0,.int .u8 0,.int .u8 0] 32 wr.heap.size rfl; clear hlb; generalize wr.alloc (.cells #[.int .i64 0,.int .i64 0,.int .i64 0,.int .u8 0,.int .u8 0,.int .u8 0,.int .u8 0,.int .u8 0,.int .u8 0,.int .u8 0,.int .u8 0] 32)=w5 at M hIa ⊢
    generalize wr.heap.size=B5 at M ⊢
    replace M:Mm w0 ((B5,[.int .i64 0,.int .i64 0,.int .i64 0,.int .u8 0,.int .u8 0,.int .u8 0,.int .u8 0,.int .u8 0,.int .u8 0,.int .u8 0,.int .u8 0])::(B3,brw 256 u)::(ga++([]:List (Nat × List Value)))) w5:=M
    refine skipOpL rfl (storeP [.int .i64 v.k,.int .i64 v.d,.int .i64 v.n,.int .u8 (v.t 0),.int .u8 (v.t 1),.int .u8 (v.t 2),.int .u8 (v.t 3),.int .u8 (v.t 4),.int .u8 (v.t 5),.int .u8 (v.t 6),.int .u8 (v.t 7)] B5 0 32 _ _ rfl rfl rfl (M.thereP mS 0 11 (Nat.le_of_ble_eq_true rfl)) (by kernel_rfl) (List.all_eq_true.1 (rfl:([.int .i64 v.k,.int .i64 v.d,.int .i64 v.n,.int .u8 (v.t 0),.int .u8 (v.t 1),.int .u8 (v.t 2),.int .u8 (v.t 3),.int .u8 (v.t 4),.int .u8 (v.t 5),.int .u8 (v.t 6),.int .u8 (v.t 7)]:List Value).all (fun u=>u.oneCell')=true))) ?_
    simp only [Act.put]; replace M:=M.setPart [.int .i64 v.k,.int .i64 v.d,.int .i64 v.n,.int .u8 (v.t 0),.int .u8 (v.t 1),.int .u8 (v.t 2),.int .u8 (v.t 3),.int .u8 (v.t 4),.int .u8 (v.t 5),.int .u8 (v.t 6),.int .u8 (v.t 7)] 0 (Nat.le_of_ble_eq_true rfl)
    replace hIa:=hK.off _ _ _ _ _ _ hIa ((Off.refl [B5] _).setAll (b:=B5) mS 0 [.int .i64 v.k,.int .i64 v.d,.int .i64 v.n,.int .u8 (v.t 0),.int .u8 (v.t 1),.int .u8 (v.t 2),.int .u8 (v.t 3),.int .u8 (v.t 4),.int .u8 (v.t 5),.int .u8 (v.t 6),.int .u8 (v.t 7)]) (fun b_ hb_=>by obtain rfl:=xm1 hb_; exact M.awayC (fun p_ hp_=>by simp [hp_]))
    generalize w5.setCells B5 0 [.int .i64 v.k,.int .i64 v.d,.int .i64 v.n,.int .u8 (v.t 0),.int .u8 (v.t 1),.int .u8 (v.t 2),.int .u8 (v.t 3),.int .u8 (v.t 4),.int .u8 (v.t 5),.int .u8 (v.t 6),.int .u8 (v.t 7)]=w6 at M hIa ⊢
    replace M:Mm w0 ((B5,[.int .i64 v.k,.int .i64 v.d,.int .i64 v.n,.int .u8 (v.t 0),.int .u8 (v.t 1),.int .u8 (v.t 2),.int .u8 (v.t 3),.int .u8 (v.t 4),.int .u8 (v.t 5),.int .u8 (v.t 6),.int .u8 (v.t 7)])::(B3,brw 256 u)::(ga++([]:List (Nat × List Value)))) w6:=M
    refine xT ?_; go_upto_region 10 with fail; refine wp_region_list ?_; refine xpL (.pointer (some ⟨B5,1,none⟩)) ?_; refine xaL (.int .i64 v.d) (load1 3 _ ⟨B5,1,none⟩ _ rfl rfl (fun _=>by kernel_rfl) (M.get mS 1 _ rfl)) ?_
    obtain ⟨b4,hb4⟩:∃ y_,y_=(decide (v.d≥0)):=⟨_,rfl⟩
    refine xaL (.bool b4) (geqI .i64 _ _ _ _ _ _ rfl rfl rfl b4 hb4.symm _) ?_; refine xpL (.bool b4) ?_
    refine mayL (b4) (.pointer (some ⟨B5,1,none⟩)) ((bif b4 then (.pointer (some ⟨B5,1,none⟩)) else undef)) (by cases b4 <;> rfl) (by cases b4 <;> rfl) (fun hc=>by cases b4 <;> first | (cases hc; done) | kernel_rfl) ?_
    simp only [aP,lI,l0,lS]
    refine mayL (b4) (.int .i64 v.d) ((bif b4 then (.int .i64 v.d) else undef)) (by cases b4 <;> rfl) (by cases b4 <;> rfl) (fun hc=>by cases b4 <;> first | (cases hc; done) | exact (load1 3 _ ⟨B5,1,none⟩ _ rfl rfl (fun _=>by kernel_rfl) (M.get mS 1 _ rfl))) ?_
    simp only [aP,lI,l0,lS]
    obtain ⟨b5,hb5⟩:∃ y_,y_=(decide (v.d≤255)):=⟨_,rfl⟩
    refine mayL (b4) (.bool b5) ((bif b4 then (.bool b5) else undef)) (by cases b4 <;> rfl) (by cases b4 <;> rfl) (fun hc=>by cases b4 <;> first | (cases hc; done) | exact (leqI .i64 _ _ _ _ _ _ rfl rfl rfl b5 hb5.symm _)) ?_
    simp only [aP,lI,l0,lS]
    obtain ⟨b6,hb6⟩:∃ y_,y_=(b4&&b5):=⟨_,rfl⟩
    refine xaL (.bool b6) (by subst hb6; cases b4 <;> rfl) ?_; refine xpL (.bool b6) ?_; refine xT ?_
    have hinb:b6=decide (0≤v.d∧v.d≤255):=by
     rw [hb6,hb5,hb4]
     by_cases c1:0≤v.d <;> by_cases c2:v.d≤255 <;> simp [c1,c2]
    try clear hb4
    try clear hb5
    try clear hb6
    go_upto_region 11 with fail; refine wp_region_list ?_; refine xpL (.pointer (some ⟨B5,0,none⟩)) ?_; refine xaL (.int .i64 v.k) (load1 3 _ ⟨B5,0,none⟩ _ rfl rfl (fun _=>by kernel_rfl) (M.get mS 0 _ rfl)) ?_; have key:=kind20_any v.k 8 (by decide) hov.k_i w6; refine xcL key ?_; clear key; rintro e w7 ⟨rfl,l_⟩; replace M:=M.call l_; replace hIa:=hK.bel hIa l_; clear l_
    refine xeL ?_; have hkd:=kdn_lt v.k 8 (by decide)
    obtain ⟨kz,hkz⟩:∃ kz,kdn v.k 8=kz:=⟨_,rfl⟩
    rw [hkz] at hkd ⊢
    refine xT ?_
    go_upto_block 2 with fail
    go_cut [4] (fun r_ wx=>r_=(.pointer (some ⟨Ra,0,none⟩))∧∃ (t2:Ptb) (u2:Nat→Bool) (ga2:List (Nat × List Value)),PtbW t2∧Usd t2 u2∧I wx (.pointer (some ⟨Ra,0,none⟩)) t2 ga2∧Mm w0 ((B3,brw 256 u2)::(ga2++([]:List (Nat × List Value)))) wx)
    case first =>
     by_cases hin2:0≤v.d∧v.d≤255
     · rw [decide_eq_true hin2] at hinb
       subst hinb
       obtain ⟨i,hvd⟩:∃ i:Nat,v.d=(i:Int):=⟨v.d.toNat,by omega⟩
       have hi256:i<256:=by omega
       obtain h_ | h_ | h_ | h_ | h_ | h_ | h_:kz=0∨kz=1∨kz=2∨kz=3∨kz=4∨kz=5∨6≤kz:=by omega
       · as_aux_lemma =>
          go_upto_region 12 with fail; refine wp_region_list ?_; refine xaL (.bool true) (eqlI .i64 _ _ _ _ _ _ rfl rfl rfl true (beq_iff_eq.2 (by omega)) _) ?_; refine xpL (.bool true) ?_; refine xT ?_
          obtain ⟨hpx,⟨hm,hs⟩ | ⟨hm,hs⟩ | ⟨hm,hs⟩⟩:=pmay_in (t:=t) hvd hi256
          · have huf:u i=false:=by rw [hU i,decide_eq_false (fun h_=>h_ hs)]
            have hW2:PtbW (pput t i ⟨1,100,0,pmom v.n,v.t⟩):=by
             have h_:=padd_w hW v.d hov.t_i v.n
             rw [padd_ok hm hpx] at h_
             exact h_
            go_upto_region 15 with fail; refine wp_region_list ?_; refine xpL (.pointer (some ⟨Ra,0,none⟩)) ?_; refine xpL (.pointer (some ⟨B5,1,none⟩)) ?_; refine xaL (.int .i64 v.d) (load1 3 _ ⟨B5,1,none⟩ _ rfl rfl (fun _=>by kernel_rfl) (M.get mS 1 _ rfl)) ?_; refine xpL (.pointer (some ⟨B5,3,none⟩)) ?_
            refine xaL (.agg #[.int .u8 (v.t 0),.int .u8 (v.t 1),.int .u8 (v.t 2),.int .u8 (v.t 3),.int .u8 (v.t 4),.int .u8 (v.t 5),.int .u8 (v.t 6),.int .u8 (v.t 7)]) (loadN 30 _ ⟨B5,3,none⟩ [.int .u8 (v.t 0),.int .u8 (v.t 1),.int .u8 (v.t 2),.int .u8 (v.t 3),.int .u8 (v.t 4),.int .u8 (v.t 5),.int .u8 (v.t 6),.int .u8 (v.t 7)] rfl rfl (fun _=>by kernel_rfl) (fun _=>by kernel_rfl) (M.part mS 3 _ rfl)) ?_
            refine xpL (.pointer (some ⟨B5,2,none⟩)) ?_; refine xaL (.int .i64 v.n) (load1 3 _ ⟨B5,2,none⟩ _ rfl rfl (fun _=>by kernel_rfl) (M.get mS 2 _ rfl)) ?_
            have Mp:=M.perm (pull0 ([(B5,[.int .i64 v.k,.int .i64 v.d,.int .i64 v.n,.int .u8 (v.t 0),.int .u8 (v.t 1),.int .u8 (v.t 2),.int .u8 (v.t 3),.int .u8 (v.t 4),.int .u8 (v.t 5),.int .u8 (v.t 6),.int .u8 (v.t 7)]),(B3,brw 256 u)]:List (Nat × List Value)) ga ([]:List (Nat × List Value))); have key:=hK.add w0 _ _ t ga _ v.d v.t v.n hW hov.d_i hov.t_i hov.n_i hIa Mp
            rw [hm] at key
            rw [padd_ok hm hpx _ _] at key
            rw [tok8_v] at key
            refine xcL key ?_; clear key; rintro e w8 ⟨ba1,rfl,hI_,M',o1⟩; clear o1 Mp M hIa; have hIa:=hI_; clear hI_
            have M:Mm w0 ((B5,[.int .i64 v.k,.int .i64 v.d,.int .i64 v.n,.int .u8 (v.t 0),.int .u8 (v.t 1),.int .u8 (v.t 2),.int .u8 (v.t 3),.int .u8 (v.t 4),.int .u8 (v.t 5),.int .u8 (v.t 6),.int .u8 (v.t 7)])::(B3,brw 256 u)::(ba1++([]:List (Nat × List Value)))) w8:=M'.perm (pull0 ([(B5,[.int .i64 v.k,.int .i64 v.d,.int .i64 v.n,.int .u8 (v.t 0),.int .u8 (v.t 1),.int .u8 (v.t 2),.int .u8 (v.t 3),.int .u8 (v.t 4),.int .u8 (v.t 5),.int .u8 (v.t 6),.int .u8 (v.t 7)]),(B3,brw 256 u)]:List (Nat × List Value)) ba1 ([]:List (Nat × List Value))).symm
            clear M'; refine xeL ?_; refine xpL (.int .i64 ((0:Nat):Int)) ?_; refine xT ?_; go_upto_region 16 with fail; refine wp_region_list ?_; refine xpL (.pointer (some ⟨B5,0,none⟩)) ?_; refine xaL (.int .i64 v.k) (load1 3 _ ⟨B5,0,none⟩ _ rfl rfl (fun _=>by kernel_rfl) (M.get mS 0 _ rfl)) ?_; have key:=kind20_any v.k 8 (by decide) hov.k_i w8; refine xcL key ?_; clear key
            rintro e w9 ⟨rfl,l_⟩; replace M:=M.call l_; replace hIa:=hK.bel hIa l_; clear l_; refine xeL ?_
            rw [hkz]
            refine xaL (.bool true) (eqlI .i64 _ _ _ _ _ _ rfl rfl rfl true (beq_iff_eq.2 (by omega)) _) ?_; refine xpL (.bool true) ?_; refine xpL (.int .i64 ((0:Nat):Int)) ?_; refine xaL (.bool false) (neqI .i64 _ _ _ _ _ _ rfl rfl rfl false (by rw [bne_eq_false_iff_eq]; omega) _) ?_; refine xpL (.bool false) ?_; refine xT ?_; go_upto_region 18 with fail; refine wp_region_list ?_
            refine xpL (.int .i64 ((0:Nat):Int)) ?_; refine xaL (.bool true) (eqlI .i64 _ _ _ _ _ _ rfl rfl rfl true (beq_iff_eq.2 (by omega)) _) ?_; refine xpL (.bool true) ?_; refine xpL (.bool true) ?_; refine xpL (.bool false) ?_; refine xpL (.bool false) ?_; refine xpL (.pointer (some ⟨B5,1,none⟩)) ?_
            refine xaL (.int .i64 v.d) (load1 3 _ ⟨B5,1,none⟩ _ rfl rfl (fun _=>by kernel_rfl) (M.get mS 1 _ rfl)) ?_; refine xaL (.pointer (some ⟨B3,i,none⟩)) (idxBE B3 i _ hvd hi256 _ _ rfl rfl rfl _) ?_
            refine xaL (.bool false) (load1 4 _ ⟨B3,i,none⟩ _ rfl rfl (fun _=>by kernel_rfl) ((by rw [M.get (mT _ mS) i _ (brw_get u hi256)]; exact congrArg (fun b_=>some (Value.bool b_)) (huf)))) ?_
            refine xpL (.bool false) ?_; refine xpL (.bool false) ?_; refine xpL (.bool false) ?_; refine xpL (.bool true) ?_; refine xpL (.bool true) ?_; refine xpL (.pointer (some ⟨B5,1,none⟩)) ?_; refine xaL (.int .i64 v.d) (load1 3 _ ⟨B5,1,none⟩ _ rfl rfl (fun _=>by kernel_rfl) (M.get mS 1 _ rfl)) ?_
            refine xaL (.pointer (some ⟨B3,i,none⟩)) (idxBE B3 i _ hvd hi256 _ _ rfl rfl rfl _) ?_
            refine xaL (.bool false) (load1 4 _ ⟨B3,i,none⟩ _ rfl rfl (fun _=>by kernel_rfl) ((by rw [M.get (mT _ mS) i _ (brw_get u hi256)]; exact congrArg (fun b_=>some (Value.bool b_)) (huf)))) ?_
            refine xpL (.bool false) ?_; refine xpL (.bool false) ?_
            with_reducible refine skipL ?_ ?_
            · rfl
            simp only [aP,lI,l0,lS]
            with_reducible refine skipL ?_ ?_
            · rfl
            simp only [aP,lI,l0,lS]; refine xpL (.bool false) ?_; refine xpL (.bool false) ?_; refine xT ?_; go_upto_region 20 with fail; refine wp_region_list ?_; refine xpL (.int .i64 ((0:Nat):Int)) ?_; refine xaL (.bool true) (eqlI .i64 _ _ _ _ _ _ rfl rfl rfl true (beq_iff_eq.2 (by omega)) _) ?_; refine xT ?_; go_upto_region 21 with fail; refine wp_region_list ?_
            refine xpL (.pointer (some ⟨B5,1,none⟩)) ?_; refine xaL (.int .i64 v.d) (load1 3 _ ⟨B5,1,none⟩ _ rfl rfl (fun _=>by kernel_rfl) (M.get mS 1 _ rfl)) ?_; refine xaL (.pointer (some ⟨B3,i,none⟩)) (idxBE B3 i _ hvd hi256 _ _ rfl rfl rfl _) ?_; replace M:=M.swap
            refine skipOpL rfl (storeAny (.bool true) B3 i 4 _ _ rfl rfl rfl rfl rfl (M.isSome mS i (by rw [brw_length]; exact hi256)) (M.free mS i (by rw [brw_length]; exact hi256)) (by kernel_rfl)) ?_; simp only [Act.put]; replace M:=M.set i (by rw [brw_length]; exact hi256) (.bool true)
            rw [brw_set] at M
            replace hIa:=hK.off _ _ _ _ _ _ hIa ((Off.refl [B3] _).set (b:=B3) mS i (.bool true)) (fun b_ hb_=>by obtain rfl:=xm1 hb_; exact M.awayC (fun p_ hp_=>by simp [hp_])); generalize w9.setCell ⟨B3,i,none⟩ (.bool true)=w10 at M hIa ⊢
            replace M:Mm w0 ((B3,brw 256 (bput u i true))::(B5,[.int .i64 v.k,.int .i64 v.d,.int .i64 v.n,.int .u8 (v.t 0),.int .u8 (v.t 1),.int .u8 (v.t 2),.int .u8 (v.t 3),.int .u8 (v.t 4),.int .u8 (v.t 5),.int .u8 (v.t 6),.int .u8 (v.t 7)])::(ba1++([]:List (Nat × List Value)))) w10:=M
            refine xT ?_; replace M:=M.swap
            have HS:=show Hid _ from (show PtbW (pput t i ⟨1,100,0,pmom v.n,v.t⟩)∧Usd (pput t i ⟨1,100,0,pmom v.n,v.t⟩) (bput u i true)∧I w10 (.pointer (some ⟨Ra,0,none⟩)) (pput t i ⟨1,100,0,pmom v.n,v.t⟩) ba1∧Mm w0 ((B3,brw 256 (bput u i true))::(ba1++([]:List (Nat × List Value)))) w10 from ⟨hW2,hU.put i (show (1:Nat)≠0 by decide),hIa,M.tail⟩); clear M hIa
            go_wp2
            go_meet
            exact ⟨rfl,pput t i ⟨1,100,0,pmom v.n,v.t⟩,bput u i true,_,HS.out⟩
          · have huf:u i=true:=by rw [hU i,decide_eq_true hs]
            have hmn:pmay t v.d≠0:=by rw [hm]; decide
            go_upto_region 15 with fail; refine wp_region_list ?_; refine xpL (.pointer (some ⟨Ra,0,none⟩)) ?_; refine xpL (.pointer (some ⟨B5,1,none⟩)) ?_; refine xaL (.int .i64 v.d) (load1 3 _ ⟨B5,1,none⟩ _ rfl rfl (fun _=>by kernel_rfl) (M.get mS 1 _ rfl)) ?_; refine xpL (.pointer (some ⟨B5,3,none⟩)) ?_
            refine xaL (.agg #[.int .u8 (v.t 0),.int .u8 (v.t 1),.int .u8 (v.t 2),.int .u8 (v.t 3),.int .u8 (v.t 4),.int .u8 (v.t 5),.int .u8 (v.t 6),.int .u8 (v.t 7)]) (loadN 30 _ ⟨B5,3,none⟩ [.int .u8 (v.t 0),.int .u8 (v.t 1),.int .u8 (v.t 2),.int .u8 (v.t 3),.int .u8 (v.t 4),.int .u8 (v.t 5),.int .u8 (v.t 6),.int .u8 (v.t 7)] rfl rfl (fun _=>by kernel_rfl) (fun _=>by kernel_rfl) (M.part mS 3 _ rfl)) ?_
            refine xpL (.pointer (some ⟨B5,2,none⟩)) ?_; refine xaL (.int .i64 v.n) (load1 3 _ ⟨B5,2,none⟩ _ rfl rfl (fun _=>by kernel_rfl) (M.get mS 2 _ rfl)) ?_
            have Mp:=M.perm (pull0 ([(B5,[.int .i64 v.k,.int .i64 v.d,.int .i64 v.n,.int .u8 (v.t 0),.int .u8 (v.t 1),.int .u8 (v.t 2),.int .u8 (v.t 3),.int .u8 (v.t 4),.int .u8 (v.t 5),.int .u8 (v.t 6),.int .u8 (v.t 7)]),(B3,brw 256 u)]:List (Nat × List Value)) ga ([]:List (Nat × List Value))); have key:=hK.add w0 _ _ t ga _ v.d v.t v.n hW hov.d_i hov.t_i hov.n_i hIa Mp
            rw [hm] at key
            rw [padd_no hmn _ _] at key
            rw [tok8_v] at key
            refine xcL key ?_; clear key; rintro e w11 ⟨ba1,rfl,hI_,M',o1⟩; clear o1 Mp M hIa; have hIa:=hI_; clear hI_
            have M:Mm w0 ((B5,[.int .i64 v.k,.int .i64 v.d,.int .i64 v.n,.int .u8 (v.t 0),.int .u8 (v.t 1),.int .u8 (v.t 2),.int .u8 (v.t 3),.int .u8 (v.t 4),.int .u8 (v.t 5),.int .u8 (v.t 6),.int .u8 (v.t 7)])::(B3,brw 256 u)::(ba1++([]:List (Nat × List Value)))) w11:=M'.perm (pull0 ([(B5,[.int .i64 v.k,.int .i64 v.d,.int .i64 v.n,.int .u8 (v.t 0),.int .u8 (v.t 1),.int .u8 (v.t 2),.int .u8 (v.t 3),.int .u8 (v.t 4),.int .u8 (v.t 5),.int .u8 (v.t 6),.int .u8 (v.t 7)]),(B3,brw 256 u)]:List (Nat × List Value)) ba1 ([]:List (Nat × List Value))).symm
            clear M'; refine xeL ?_; refine xpL (.int .i64 ((201:Nat):Int)) ?_; refine xT ?_; go_upto_region 16 with fail; refine wp_region_list ?_; refine xpL (.pointer (some ⟨B5,0,none⟩)) ?_; refine xaL (.int .i64 v.k) (load1 3 _ ⟨B5,0,none⟩ _ rfl rfl (fun _=>by kernel_rfl) (M.get mS 0 _ rfl)) ?_; have key:=kind20_any v.k 8 (by decide) hov.k_i w11; refine xcL key ?_; clear key
            rintro e w12 ⟨rfl,l_⟩; replace M:=M.call l_; replace hIa:=hK.bel hIa l_; clear l_; refine xeL ?_
            rw [hkz]
            refine xaL (.bool true) (eqlI .i64 _ _ _ _ _ _ rfl rfl rfl true (beq_iff_eq.2 (by omega)) _) ?_; refine xpL (.bool true) ?_; refine xpL (.int .i64 ((201:Nat):Int)) ?_; refine xaL (.bool true) (neqI .i64 _ _ _ _ _ _ rfl rfl rfl true (bne_iff_ne.2 (by omega)) _) ?_; refine xpL (.bool true) ?_; refine xT ?_; go_upto_region 17 with fail; refine wp_region_list ?_
            refine xpL (.pointer (some ⟨Ra,0,none⟩)) ?_; refine xpL (.pointer (some ⟨B5,1,none⟩)) ?_; refine xaL (.int .i64 v.d) (load1 3 _ ⟨B5,1,none⟩ _ rfl rfl (fun _=>by kernel_rfl) (M.get mS 1 _ rfl)) ?_
            have Mp:=M.perm (pull0 ([(B5,[.int .i64 v.k,.int .i64 v.d,.int .i64 v.n,.int .u8 (v.t 0),.int .u8 (v.t 1),.int .u8 (v.t 2),.int .u8 (v.t 3),.int .u8 (v.t 4),.int .u8 (v.t 5),.int .u8 (v.t 6),.int .u8 (v.t 7)]),(B3,brw 256 u)]:List (Nat × List Value)) ba1 ([]:List (Nat × List Value))); have key:=hK.beg w0 _ _ t ba1 _ v.d hW hov.d_i hIa Mp
            rw [hm] at key
            rw [pbeg_no hmn] at key
            refine xcL key ?_; clear key; rintro e w13 ⟨ba2,rfl,hI_,M',o1⟩; clear o1 Mp M hIa; have hIa:=hI_; clear hI_
            have M:Mm w0 ((B5,[.int .i64 v.k,.int .i64 v.d,.int .i64 v.n,.int .u8 (v.t 0),.int .u8 (v.t 1),.int .u8 (v.t 2),.int .u8 (v.t 3),.int .u8 (v.t 4),.int .u8 (v.t 5),.int .u8 (v.t 6),.int .u8 (v.t 7)])::(B3,brw 256 u)::(ba2++([]:List (Nat × List Value)))) w13:=M'.perm (pull0 ([(B5,[.int .i64 v.k,.int .i64 v.d,.int .i64 v.n,.int .u8 (v.t 0),.int .u8 (v.t 1),.int .u8 (v.t 2),.int .u8 (v.t 3),.int .u8 (v.t 4),.int .u8 (v.t 5),.int .u8 (v.t 6),.int .u8 (v.t 7)]),(B3,brw 256 u)]:List (Nat × List Value)) ba2 ([]:List (Nat × List Value))).symm
            clear M'; refine xeL ?_; refine xpL (.int .i64 ((201:Nat):Int)) ?_; refine xT ?_; go_upto_region 18 with fail; refine wp_region_list ?_; refine xpL (.int .i64 ((201:Nat):Int)) ?_; refine xaL (.bool false) (eqlI .i64 _ _ _ _ _ _ rfl rfl rfl false (beq_eq_false_iff_ne.2 (by omega)) _) ?_; refine xpL (.bool false) ?_
            with_reducible refine skipL ?_ ?_
            · rfl
            simp only [aP,lI,l0,lS]
            with_reducible refine skipL ?_ ?_
            · rfl
            simp only [aP,lI,l0,lS]
            with_reducible refine skipL ?_ ?_
            · rfl
            simp only [aP,lI,l0,lS]
            with_reducible refine skipL ?_ ?_
            · rfl
            simp only [aP,lI,l0,lS]
            with_reducible refine skipL ?_ ?_
            · rfl
            simp only [aP,lI,l0,lS]
            with_reducible refine skipL ?_ ?_
            · rfl
            simp only [aP,lI,l0,lS]
            with_reducible refine skipL ?_ ?_
            · rfl
            simp only [aP,lI,l0,lS]
            with_reducible refine skipL ?_ ?_
            · rfl
            simp only [aP,lI,l0,lS]; refine xpL (.bool false) ?_; refine xpL (.bool false) ?_; refine xpL (.bool true) ?_; refine xpL (.bool true) ?_; refine xpL (.pointer (some ⟨B5,1,none⟩)) ?_; refine xaL (.int .i64 v.d) (load1 3 _ ⟨B5,1,none⟩ _ rfl rfl (fun _=>by kernel_rfl) (M.get mS 1 _ rfl)) ?_
            refine xaL (.pointer (some ⟨B3,i,none⟩)) (idxBE B3 i _ hvd hi256 _ _ rfl rfl rfl _) ?_
            refine xaL (.bool true) (load1 4 _ ⟨B3,i,none⟩ _ rfl rfl (fun _=>by kernel_rfl) ((by rw [M.get (mT _ mS) i _ (brw_get u hi256)]; exact congrArg (fun b_=>some (Value.bool b_)) (huf)))) ?_
            refine xpL (.bool true) ?_; refine xpL (.bool true) ?_; refine xpL (.int .i64 ((201:Nat):Int)) ?_; refine xaL (.bool false) (neqI .i64 _ _ _ _ _ _ rfl rfl rfl false (by rw [bne_eq_false_iff_eq]; omega) _) ?_; refine xpL (.bool false) ?_; refine xpL (.bool false) ?_; refine xT ?_; go_upto_region 20 with fail; refine wp_region_list ?_; refine xpL (.int .i64 ((201:Nat):Int)) ?_
            refine xaL (.bool false) (eqlI .i64 _ _ _ _ _ _ rfl rfl rfl false (beq_eq_false_iff_ne.2 (by omega)) _) ?_; refine xT ?_; have HS:=show Hid _ from (show PtbW t∧Usd t u∧I w13 (.pointer (some ⟨Ra,0,none⟩)) t ba2∧Mm w0 ((B3,brw 256 u)::(ba2++([]:List (Nat × List Value)))) w13 from ⟨hW,hU,hIa,M.tail⟩); clear M hIa; go_wp2
            go_meet
            exact ⟨rfl,t,u,_,HS.out⟩
          · have huf:u i=false:=by rw [hU i,decide_eq_false (fun h_=>h_ hs)]
            have hmn:pmay t v.d≠0:=by rw [hm]; decide
            go_upto_region 15 with fail; refine wp_region_list ?_; refine xpL (.pointer (some ⟨Ra,0,none⟩)) ?_; refine xpL (.pointer (some ⟨B5,1,none⟩)) ?_; refine xaL (.int .i64 v.d) (load1 3 _ ⟨B5,1,none⟩ _ rfl rfl (fun _=>by kernel_rfl) (M.get mS 1 _ rfl)) ?_; refine xpL (.pointer (some ⟨B5,3,none⟩)) ?_
            refine xaL (.agg #[.int .u8 (v.t 0),.int .u8 (v.t 1),.int .u8 (v.t 2),.int .u8 (v.t 3),.int .u8 (v.t 4),.int .u8 (v.t 5),.int .u8 (v.t 6),.int .u8 (v.t 7)]) (loadN 30 _ ⟨B5,3,none⟩ [.int .u8 (v.t 0),.int .u8 (v.t 1),.int .u8 (v.t 2),.int .u8 (v.t 3),.int .u8 (v.t 4),.int .u8 (v.t 5),.int .u8 (v.t 6),.int .u8 (v.t 7)] rfl rfl (fun _=>by kernel_rfl) (fun _=>by kernel_rfl) (M.part mS 3 _ rfl)) ?_
            refine xpL (.pointer (some ⟨B5,2,none⟩)) ?_; refine xaL (.int .i64 v.n) (load1 3 _ ⟨B5,2,none⟩ _ rfl rfl (fun _=>by kernel_rfl) (M.get mS 2 _ rfl)) ?_
            have Mp:=M.perm (pull0 ([(B5,[.int .i64 v.k,.int .i64 v.d,.int .i64 v.n,.int .u8 (v.t 0),.int .u8 (v.t 1),.int .u8 (v.t 2),.int .u8 (v.t 3),.int .u8 (v.t 4),.int .u8 (v.t 5),.int .u8 (v.t 6),.int .u8 (v.t 7)]),(B3,brw 256 u)]:List (Nat × List Value)) ga ([]:List (Nat × List Value))); have key:=hK.add w0 _ _ t ga _ v.d v.t v.n hW hov.d_i hov.t_i hov.n_i hIa Mp
            rw [hm] at key
            rw [padd_no hmn _ _] at key
            rw [tok8_v] at key
            refine xcL key ?_; clear key; rintro e w14 ⟨ba1,rfl,hI_,M',o1⟩; clear o1 Mp M hIa; have hIa:=hI_; clear hI_
            have M:Mm w0 ((B5,[.int .i64 v.k,.int .i64 v.d,.int .i64 v.n,.int .u8 (v.t 0),.int .u8 (v.t 1),.int .u8 (v.t 2),.int .u8 (v.t 3),.int .u8 (v.t 4),.int .u8 (v.t 5),.int .u8 (v.t 6),.int .u8 (v.t 7)])::(B3,brw 256 u)::(ba1++([]:List (Nat × List Value)))) w14:=M'.perm (pull0 ([(B5,[.int .i64 v.k,.int .i64 v.d,.int .i64 v.n,.int .u8 (v.t 0),.int .u8 (v.t 1),.int .u8 (v.t 2),.int .u8 (v.t 3),.int .u8 (v.t 4),.int .u8 (v.t 5),.int .u8 (v.t 6),.int .u8 (v.t 7)]),(B3,brw 256 u)]:List (Nat × List Value)) ba1 ([]:List (Nat × List Value))).symm
            clear M'; refine xeL ?_; refine xpL (.int .i64 ((2:Nat):Int)) ?_; refine xT ?_; go_upto_region 16 with fail; refine wp_region_list ?_; refine xpL (.pointer (some ⟨B5,0,none⟩)) ?_; refine xaL (.int .i64 v.k) (load1 3 _ ⟨B5,0,none⟩ _ rfl rfl (fun _=>by kernel_rfl) (M.get mS 0 _ rfl)) ?_; have key:=kind20_any v.k 8 (by decide) hov.k_i w14; refine xcL key ?_; clear key
            rintro e w15 ⟨rfl,l_⟩; replace M:=M.call l_; replace hIa:=hK.bel hIa l_; clear l_; refine xeL ?_
            rw [hkz]
            refine xaL (.bool true) (eqlI .i64 _ _ _ _ _ _ rfl rfl rfl true (beq_iff_eq.2 (by omega)) _) ?_; refine xpL (.bool true) ?_; refine xpL (.int .i64 ((2:Nat):Int)) ?_; refine xaL (.bool true) (neqI .i64 _ _ _ _ _ _ rfl rfl rfl true (bne_iff_ne.2 (by omega)) _) ?_; refine xpL (.bool true) ?_; refine xT ?_; go_upto_region 17 with fail; refine wp_region_list ?_
            refine xpL (.pointer (some ⟨Ra,0,none⟩)) ?_; refine xpL (.pointer (some ⟨B5,1,none⟩)) ?_; refine xaL (.int .i64 v.d) (load1 3 _ ⟨B5,1,none⟩ _ rfl rfl (fun _=>by kernel_rfl) (M.get mS 1 _ rfl)) ?_
            have Mp:=M.perm (pull0 ([(B5,[.int .i64 v.k,.int .i64 v.d,.int .i64 v.n,.int .u8 (v.t 0),.int .u8 (v.t 1),.int .u8 (v.t 2),.int .u8 (v.t 3),.int .u8 (v.t 4),.int .u8 (v.t 5),.int .u8 (v.t 6),.int .u8 (v.t 7)]),(B3,brw 256 u)]:List (Nat × List Value)) ba1 ([]:List (Nat × List Value))); have key:=hK.beg w0 _ _ t ba1 _ v.d hW hov.d_i hIa Mp
            rw [hm] at key
            rw [pbeg_no hmn] at key
            refine xcL key ?_; clear key; rintro e w16 ⟨ba2,rfl,hI_,M',o1⟩; clear o1 Mp M hIa; have hIa:=hI_; clear hI_
            have M:Mm w0 ((B5,[.int .i64 v.k,.int .i64 v.d,.int .i64 v.n,.int .u8 (v.t 0),.int .u8 (v.t 1),.int .u8 (v.t 2),.int .u8 (v.t 3),.int .u8 (v.t 4),.int .u8 (v.t 5),.int .u8 (v.t 6),.int .u8 (v.t 7)])::(B3,brw 256 u)::(ba2++([]:List (Nat × List Value)))) w16:=M'.perm (pull0 ([(B5,[.int .i64 v.k,.int .i64 v.d,.int .i64 v.n,.int .u8 (v.t 0),.int .u8 (v.t 1),.int .u8 (v.t 2),.int .u8 (v.t 3),.int .u8 (v.t 4),.int .u8 (v.t 5),.int .u8 (v.t 6),.int .u8 (v.t 7)]),(B3,brw 256 u)]:List (Nat × List Value)) ba2 ([]:List (Nat × List Value))).symm
            clear M'; refine xeL ?_; refine xpL (.int .i64 ((2:Nat):Int)) ?_; refine xT ?_; go_upto_region 18 with fail; refine wp_region_list ?_; refine xpL (.int .i64 ((2:Nat):Int)) ?_; refine xaL (.bool false) (eqlI .i64 _ _ _ _ _ _ rfl rfl rfl false (beq_eq_false_iff_ne.2 (by omega)) _) ?_; refine xpL (.bool false) ?_
            with_reducible refine skipL ?_ ?_
            · rfl
            simp only [aP,lI,l0,lS]
            with_reducible refine skipL ?_ ?_
            · rfl
            simp only [aP,lI,l0,lS]
            with_reducible refine skipL ?_ ?_
            · rfl
            simp only [aP,lI,l0,lS]
            with_reducible refine skipL ?_ ?_
            · rfl
            simp only [aP,lI,l0,lS]
            with_reducible refine skipL ?_ ?_
            · rfl
            simp only [aP,lI,l0,lS]
            with_reducible refine skipL ?_ ?_
            · rfl
            simp only [aP,lI,l0,lS]
            with_reducible refine skipL ?_ ?_
            · rfl
            simp only [aP,lI,l0,lS]
            with_reducible refine skipL ?_ ?_
            · rfl
            simp only [aP,lI,l0,lS]; refine xpL (.bool false) ?_; refine xpL (.bool false) ?_; refine xpL (.bool true) ?_; refine xpL (.bool true) ?_; refine xpL (.pointer (some ⟨B5,1,none⟩)) ?_; refine xaL (.int .i64 v.d) (load1 3 _ ⟨B5,1,none⟩ _ rfl rfl (fun _=>by kernel_rfl) (M.get mS 1 _ rfl)) ?_
            refine xaL (.pointer (some ⟨B3,i,none⟩)) (idxBE B3 i _ hvd hi256 _ _ rfl rfl rfl _) ?_
            refine xaL (.bool false) (load1 4 _ ⟨B3,i,none⟩ _ rfl rfl (fun _=>by kernel_rfl) ((by rw [M.get (mT _ mS) i _ (brw_get u hi256)]; exact congrArg (fun b_=>some (Value.bool b_)) (huf)))) ?_
            refine xpL (.bool false) ?_; refine xpL (.bool false) ?_
            with_reducible refine skipL ?_ ?_
            · rfl
            simp only [aP,lI,l0,lS]
            with_reducible refine skipL ?_ ?_
            · rfl
            simp only [aP,lI,l0,lS]; refine xpL (.bool false) ?_; refine xpL (.bool false) ?_; refine xT ?_; go_upto_region 20 with fail; refine wp_region_list ?_; refine xpL (.int .i64 ((2:Nat):Int)) ?_; refine xaL (.bool false) (eqlI .i64 _ _ _ _ _ _ rfl rfl rfl false (beq_eq_false_iff_ne.2 (by omega)) _) ?_; refine xT ?_
            have HS:=show Hid _ from (show PtbW t∧Usd t u∧I w16 (.pointer (some ⟨Ra,0,none⟩)) t ba2∧Mm w0 ((B3,brw 256 u)::(ba2++([]:List (Nat × List Value)))) w16 from ⟨hW,hU,hIa,M.tail⟩); clear M hIa; go_wp2
            go_meet
            exact ⟨rfl,t,u,_,HS.out⟩
       · as_aux_lemma =>
          go_upto_region 12 with fail; refine wp_region_list ?_; refine xaL (.bool false) (eqlI .i64 _ _ _ _ _ _ rfl rfl rfl false (beq_eq_false_iff_ne.2 (by omega)) _) ?_; refine xpL (.bool false) ?_; refine xT ?_; go_upto_region 13 with fail; refine wp_region_list ?_; refine xaL (.bool true) (eqlI .i64 _ _ _ _ _ _ rfl rfl rfl true (beq_iff_eq.2 (by omega)) _) ?_; refine xpL (.bool true) ?_
          refine xT ?_
          obtain ⟨hpx,⟨hm,hs⟩ | ⟨hm,hs⟩ | ⟨hm,hs⟩⟩:=pmay_in (t:=t) hvd hi256
          · have huf:u i=false:=by rw [hU i,decide_eq_false (fun h_=>h_ hs)]
            have hW2:PtbW (pput t i ⟨1,100,0,pmom v.n,v.t⟩):=by
             have h_:=padd_w hW v.d hov.t_i v.n
             rw [padd_ok hm hpx] at h_
             exact h_
            go_upto_region 15 with fail; refine wp_region_list ?_; refine xpL (.pointer (some ⟨Ra,0,none⟩)) ?_; refine xpL (.pointer (some ⟨B5,1,none⟩)) ?_; refine xaL (.int .i64 v.d) (load1 3 _ ⟨B5,1,none⟩ _ rfl rfl (fun _=>by kernel_rfl) (M.get mS 1 _ rfl)) ?_; refine xpL (.pointer (some ⟨B5,3,none⟩)) ?_
            refine xaL (.agg #[.int .u8 (v.t 0),.int .u8 (v.t 1),.int .u8 (v.t 2),.int .u8 (v.t 3),.int .u8 (v.t 4),.int .u8 (v.t 5),.int .u8 (v.t 6),.int .u8 (v.t 7)]) (loadN 30 _ ⟨B5,3,none⟩ [.int .u8 (v.t 0),.int .u8 (v.t 1),.int .u8 (v.t 2),.int .u8 (v.t 3),.int .u8 (v.t 4),.int .u8 (v.t 5),.int .u8 (v.t 6),.int .u8 (v.t 7)] rfl rfl (fun _=>by kernel_rfl) (fun _=>by kernel_rfl) (M.part mS 3 _ rfl)) ?_
            refine xpL (.pointer (some ⟨B5,2,none⟩)) ?_; refine xaL (.int .i64 v.n) (load1 3 _ ⟨B5,2,none⟩ _ rfl rfl (fun _=>by kernel_rfl) (M.get mS 2 _ rfl)) ?_
            have Mp:=M.perm (pull0 ([(B5,[.int .i64 v.k,.int .i64 v.d,.int .i64 v.n,.int .u8 (v.t 0),.int .u8 (v.t 1),.int .u8 (v.t 2),.int .u8 (v.t 3),.int .u8 (v.t 4),.int .u8 (v.t 5),.int .u8 (v.t 6),.int .u8 (v.t 7)]),(B3,brw 256 u)]:List (Nat × List Value)) ga ([]:List (Nat × List Value))); have key:=hK.add w0 _ _ t ga _ v.d v.t v.n hW hov.d_i hov.t_i hov.n_i hIa Mp
            rw [hm] at key
            rw [padd_ok hm hpx _ _] at key
            rw [tok8_v] at key
            refine xcL key ?_; clear key; rintro e w17 ⟨ba1,rfl,hI_,M',o1⟩; clear o1 Mp M hIa; have hIa:=hI_; clear hI_
            have M:Mm w0 ((B5,[.int .i64 v.k,.int .i64 v.d,.int .i64 v.n,.int .u8 (v.t 0),.int .u8 (v.t 1),.int .u8 (v.t 2),.int .u8 (v.t 3),.int .u8 (v.t 4),.int .u8 (v.t 5),.int .u8 (v.t 6),.int .u8 (v.t 7)])::(B3,brw 256 u)::(ba1++([]:List (Nat × List Value)))) w17:=M'.perm (pull0 ([(B5,[.int .i64 v.k,.int .i64 v.d,.int .i64 v.n,.int .u8 (v.t 0),.int .u8 (v.t 1),.int .u8 (v.t 2),.int .u8 (v.t 3),.int .u8 (v.t 4),.int .u8 (v.t 5),.int .u8 (v.t 6),.int .u8 (v.t 7)]),(B3,brw 256 u)]:List (Nat × List Value)) ba1 ([]:List (Nat × List Value))).symm
            clear M'; refine xeL ?_; refine xpL (.int .i64 ((0:Nat):Int)) ?_; refine xT ?_; go_upto_region 16 with fail; refine wp_region_list ?_; refine xpL (.pointer (some ⟨B5,0,none⟩)) ?_; refine xaL (.int .i64 v.k) (load1 3 _ ⟨B5,0,none⟩ _ rfl rfl (fun _=>by kernel_rfl) (M.get mS 0 _ rfl)) ?_; have key:=kind20_any v.k 8 (by decide) hov.k_i w17; refine xcL key ?_; clear key
            rintro e w18 ⟨rfl,l_⟩; replace M:=M.call l_; replace hIa:=hK.bel hIa l_; clear l_; refine xeL ?_
            rw [hkz]
            refine xaL (.bool false) (eqlI .i64 _ _ _ _ _ _ rfl rfl rfl false (beq_eq_false_iff_ne.2 (by omega)) _) ?_; refine xpL (.bool false) ?_
            with_reducible refine skipL ?_ ?_
            · rfl
            simp only [aP,lI,l0,lS]
            with_reducible refine skipL ?_ ?_
            · rfl
            simp only [aP,lI,l0,lS]; refine xpL (.bool false) ?_; refine xT ?_; go_upto_region 18 with fail; refine wp_region_list ?_; refine xpL (.int .i64 ((0:Nat):Int)) ?_; refine xaL (.bool true) (eqlI .i64 _ _ _ _ _ _ rfl rfl rfl true (beq_iff_eq.2 (by omega)) _) ?_; refine xpL (.bool true) ?_; refine xpL (.bool true) ?_; refine xpL (.bool false) ?_; refine xpL (.bool false) ?_
            refine xpL (.pointer (some ⟨B5,1,none⟩)) ?_; refine xaL (.int .i64 v.d) (load1 3 _ ⟨B5,1,none⟩ _ rfl rfl (fun _=>by kernel_rfl) (M.get mS 1 _ rfl)) ?_; refine xaL (.pointer (some ⟨B3,i,none⟩)) (idxBE B3 i _ hvd hi256 _ _ rfl rfl rfl _) ?_
            refine xaL (.bool false) (load1 4 _ ⟨B3,i,none⟩ _ rfl rfl (fun _=>by kernel_rfl) ((by rw [M.get (mT _ mS) i _ (brw_get u hi256)]; exact congrArg (fun b_=>some (Value.bool b_)) (huf)))) ?_
            refine xpL (.bool false) ?_; refine xpL (.bool false) ?_; refine xpL (.bool false) ?_; refine xpL (.bool true) ?_; refine xpL (.bool true) ?_; refine xpL (.pointer (some ⟨B5,1,none⟩)) ?_; refine xaL (.int .i64 v.d) (load1 3 _ ⟨B5,1,none⟩ _ rfl rfl (fun _=>by kernel_rfl) (M.get mS 1 _ rfl)) ?_
            refine xaL (.pointer (some ⟨B3,i,none⟩)) (idxBE B3 i _ hvd hi256 _ _ rfl rfl rfl _) ?_
            refine xaL (.bool false) (load1 4 _ ⟨B3,i,none⟩ _ rfl rfl (fun _=>by kernel_rfl) ((by rw [M.get (mT _ mS) i _ (brw_get u hi256)]; exact congrArg (fun b_=>some (Value.bool b_)) (huf)))) ?_
            refine xpL (.bool false) ?_; refine xpL (.bool false) ?_
            with_reducible refine skipL ?_ ?_
            · rfl
            simp only [aP,lI,l0,lS]
            with_reducible refine skipL ?_ ?_
            · rfl
            simp only [aP,lI,l0,lS]; refine xpL (.bool false) ?_; refine xpL (.bool false) ?_; refine xT ?_; go_upto_region 20 with fail; refine wp_region_list ?_; refine xpL (.int .i64 ((0:Nat):Int)) ?_; refine xaL (.bool true) (eqlI .i64 _ _ _ _ _ _ rfl rfl rfl true (beq_iff_eq.2 (by omega)) _) ?_; refine xT ?_; go_upto_region 21 with fail; refine wp_region_list ?_
            refine xpL (.pointer (some ⟨B5,1,none⟩)) ?_; refine xaL (.int .i64 v.d) (load1 3 _ ⟨B5,1,none⟩ _ rfl rfl (fun _=>by kernel_rfl) (M.get mS 1 _ rfl)) ?_; refine xaL (.pointer (some ⟨B3,i,none⟩)) (idxBE B3 i _ hvd hi256 _ _ rfl rfl rfl _) ?_; replace M:=M.swap
            refine skipOpL rfl (storeAny (.bool true) B3 i 4 _ _ rfl rfl rfl rfl rfl (M.isSome mS i (by rw [brw_length]; exact hi256)) (M.free mS i (by rw [brw_length]; exact hi256)) (by kernel_rfl)) ?_; simp only [Act.put]; replace M:=M.set i (by rw [brw_length]; exact hi256) (.bool true)
            rw [brw_set] at M
            replace hIa:=hK.off _ _ _ _ _ _ hIa ((Off.refl [B3] _).set (b:=B3) mS i (.bool true)) (fun b_ hb_=>by obtain rfl:=xm1 hb_; exact M.awayC (fun p_ hp_=>by simp [hp_])); generalize w18.setCell ⟨B3,i,none⟩ (.bool true)=w19 at M hIa ⊢
            replace M:Mm w0 ((B3,brw 256 (bput u i true))::(B5,[.int .i64 v.k,.int .i64 v.d,.int .i64 v.n,.int .u8 (v.t 0),.int .u8 (v.t 1),.int .u8 (v.t 2),.int .u8 (v.t 3),.int .u8 (v.t 4),.int .u8 (v.t 5),.int .u8 (v.t 6),.int .u8 (v.t 7)])::(ba1++([]:List (Nat × List Value)))) w19:=M
            refine xT ?_; replace M:=M.swap
            have HS:=show Hid _ from (show PtbW (pput t i ⟨1,100,0,pmom v.n,v.t⟩)∧Usd (pput t i ⟨1,100,0,pmom v.n,v.t⟩) (bput u i true)∧I w19 (.pointer (some ⟨Ra,0,none⟩)) (pput t i ⟨1,100,0,pmom v.n,v.t⟩) ba1∧Mm w0 ((B3,brw 256 (bput u i true))::(ba1++([]:List (Nat × List Value)))) w19 from ⟨hW2,hU.put i (show (1:Nat)≠0 by decide),hIa,M.tail⟩); clear M hIa
            go_wp2
            go_meet
            exact ⟨rfl,pput t i ⟨1,100,0,pmom v.n,v.t⟩,bput u i true,_,HS.out⟩
          · have huf:u i=true:=by rw [hU i,decide_eq_true hs]
            have hmn:pmay t v.d≠0:=by rw [hm]; decide
            go_upto_region 15 with fail; refine wp_region_list ?_; refine xpL (.pointer (some ⟨Ra,0,none⟩)) ?_; refine xpL (.pointer (some ⟨B5,1,none⟩)) ?_; refine xaL (.int .i64 v.d) (load1 3 _ ⟨B5,1,none⟩ _ rfl rfl (fun _=>by kernel_rfl) (M.get mS 1 _ rfl)) ?_; refine xpL (.pointer (some ⟨B5,3,none⟩)) ?_
            refine xaL (.agg #[.int .u8 (v.t 0),.int .u8 (v.t 1),.int .u8 (v.t 2),.int .u8 (v.t 3),.int .u8 (v.t 4),.int .u8 (v.t 5),.int .u8 (v.t 6),.int .u8 (v.t 7)]) (loadN 30 _ ⟨B5,3,none⟩ [.int .u8 (v.t 0),.int .u8 (v.t 1),.int .u8 (v.t 2),.int .u8 (v.t 3),.int .u8 (v.t 4),.int .u8 (v.t 5),.int .u8 (v.t 6),.int .u8 (v.t 7)] rfl rfl (fun _=>by kernel_rfl) (fun _=>by kernel_rfl) (M.part mS 3 _ rfl)) ?_
            refine xpL (.pointer (some ⟨B5,2,none⟩)) ?_; refine xaL (.int .i64 v.n) (load1 3 _ ⟨B5,2,none⟩ _ rfl rfl (fun _=>by kernel_rfl) (M.get mS 2 _ rfl)) ?_
            have Mp:=M.perm (pull0 ([(B5,[.int .i64 v.k,.int .i64 v.d,.int .i64 v.n,.int .u8 (v.t 0),.int .u8 (v.t 1),.int .u8 (v.t 2),.int .u8 (v.t 3),.int .u8 (v.t 4),.int .u8 (v.t 5),.int .u8 (v.t 6),.int .u8 (v.t 7)]),(B3,brw 256 u)]:List (Nat × List Value)) ga ([]:List (Nat × List Value))); have key:=hK.add w0 _ _ t ga _ v.d v.t v.n hW hov.d_i hov.t_i hov.n_i hIa Mp
            rw [hm] at key
            rw [padd_no hmn _ _] at key
            rw [tok8_v] at key
            refine xcL key ?_; clear key; rintro e w20 ⟨ba1,rfl,hI_,M',o1⟩; clear o1 Mp M hIa; have hIa:=hI_; clear hI_
            have M:Mm w0 ((B5,[.int .i64 v.k,.int .i64 v.d,.int .i64 v.n,.int .u8 (v.t 0),.int .u8 (v.t 1),.int .u8 (v.t 2),.int .u8 (v.t 3),.int .u8 (v.t 4),.int .u8 (v.t 5),.int .u8 (v.t 6),.int .u8 (v.t 7)])::(B3,brw 256 u)::(ba1++([]:List (Nat × List Value)))) w20:=M'.perm (pull0 ([(B5,[.int .i64 v.k,.int .i64 v.d,.int .i64 v.n,.int .u8 (v.t 0),.int .u8 (v.t 1),.int .u8 (v.t 2),.int .u8 (v.t 3),.int .u8 (v.t 4),.int .u8 (v.t 5),.int .u8 (v.t 6),.int .u8 (v.t 7)]),(B3,brw 256 u)]:List (Nat × List Value)) ba1 ([]:List (Nat × List Value))).symm
            clear M'; refine xeL ?_; refine xpL (.int .i64 ((201:Nat):Int)) ?_; refine xT ?_; go_upto_region 16 with fail; refine wp_region_list ?_; refine xpL (.pointer (some ⟨B5,0,none⟩)) ?_; refine xaL (.int .i64 v.k) (load1 3 _ ⟨B5,0,none⟩ _ rfl rfl (fun _=>by kernel_rfl) (M.get mS 0 _ rfl)) ?_; have key:=kind20_any v.k 8 (by decide) hov.k_i w20; refine xcL key ?_; clear key
            rintro e w21 ⟨rfl,l_⟩; replace M:=M.call l_; replace hIa:=hK.bel hIa l_; clear l_; refine xeL ?_
            rw [hkz]
            refine xaL (.bool false) (eqlI .i64 _ _ _ _ _ _ rfl rfl rfl false (beq_eq_false_iff_ne.2 (by omega)) _) ?_; refine xpL (.bool false) ?_
            with_reducible refine skipL ?_ ?_
            · rfl
            simp only [aP,lI,l0,lS]
            with_reducible refine skipL ?_ ?_
            · rfl
            simp only [aP,lI,l0,lS]; refine xpL (.bool false) ?_; refine xT ?_; go_upto_region 18 with fail; refine wp_region_list ?_; refine xpL (.int .i64 ((201:Nat):Int)) ?_; refine xaL (.bool false) (eqlI .i64 _ _ _ _ _ _ rfl rfl rfl false (beq_eq_false_iff_ne.2 (by omega)) _) ?_; refine xpL (.bool false) ?_
            with_reducible refine skipL ?_ ?_
            · rfl
            simp only [aP,lI,l0,lS]
            with_reducible refine skipL ?_ ?_
            · rfl
            simp only [aP,lI,l0,lS]
            with_reducible refine skipL ?_ ?_
            · rfl
            simp only [aP,lI,l0,lS]
            with_reducible refine skipL ?_ ?_
            · rfl
            simp only [aP,lI,l0,lS]
            with_reducible refine skipL ?_ ?_
            · rfl
            simp only [aP,lI,l0,lS]
            with_reducible refine skipL ?_ ?_
            · rfl
            simp only [aP,lI,l0,lS]
            with_reducible refine skipL ?_ ?_
            · rfl
            simp only [aP,lI,l0,lS]
            with_reducible refine skipL ?_ ?_
            · rfl
            simp only [aP,lI,l0,lS]; refine xpL (.bool false) ?_; refine xpL (.bool false) ?_; refine xpL (.bool true) ?_; refine xpL (.bool true) ?_; refine xpL (.pointer (some ⟨B5,1,none⟩)) ?_; refine xaL (.int .i64 v.d) (load1 3 _ ⟨B5,1,none⟩ _ rfl rfl (fun _=>by kernel_rfl) (M.get mS 1 _ rfl)) ?_
            refine xaL (.pointer (some ⟨B3,i,none⟩)) (idxBE B3 i _ hvd hi256 _ _ rfl rfl rfl _) ?_
            refine xaL (.bool true) (load1 4 _ ⟨B3,i,none⟩ _ rfl rfl (fun _=>by kernel_rfl) ((by rw [M.get (mT _ mS) i _ (brw_get u hi256)]; exact congrArg (fun b_=>some (Value.bool b_)) (huf)))) ?_
            refine xpL (.bool true) ?_; refine xpL (.bool true) ?_; refine xpL (.int .i64 ((201:Nat):Int)) ?_; refine xaL (.bool false) (neqI .i64 _ _ _ _ _ _ rfl rfl rfl false (by rw [bne_eq_false_iff_eq]; omega) _) ?_; refine xpL (.bool false) ?_; refine xpL (.bool false) ?_; refine xT ?_; go_upto_region 20 with fail; refine wp_region_list ?_; refine xpL (.int .i64 ((201:Nat):Int)) ?_
            refine xaL (.bool false) (eqlI .i64 _ _ _ _ _ _ rfl rfl rfl false (beq_eq_false_iff_ne.2 (by omega)) _) ?_; refine xT ?_; have HS:=show Hid _ from (show PtbW t∧Usd t u∧I w21 (.pointer (some ⟨Ra,0,none⟩)) t ba1∧Mm w0 ((B3,brw 256 u)::(ba1++([]:List (Nat × List Value)))) w21 from ⟨hW,hU,hIa,M.tail⟩); clear M hIa; go_wp2
            go_meet
            exact ⟨rfl,t,u,_,HS.out⟩
          · have huf:u i=false:=by rw [hU i,decide_eq_false (fun h_=>h_ hs)]
            have hmn:pmay t v.d≠0:=by rw [hm]; decide
            go_upto_region 15 with fail; refine wp_region_list ?_; refine xpL (.pointer (some ⟨Ra,0,none⟩)) ?_; refine xpL (.pointer (some ⟨B5,1,none⟩)) ?_; refine xaL (.int .i64 v.d) (load1 3 _ ⟨B5,1,none⟩ _ rfl rfl (fun _=>by kernel_rfl) (M.get mS 1 _ rfl)) ?_; refine xpL (.pointer (some ⟨B5,3,none⟩)) ?_
            refine xaL (.agg #[.int .u8 (v.t 0),.int .u8 (v.t 1),.int .u8 (v.t 2),.int .u8 (v.t 3),.int .u8 (v.t 4),.int .u8 (v.t 5),.int .u8 (v.t 6),.int .u8 (v.t 7)]) (loadN 30 _ ⟨B5,3,none⟩ [.int .u8 (v.t 0),.int .u8 (v.t 1),.int .u8 (v.t 2),.int .u8 (v.t 3),.int .u8 (v.t 4),.int .u8 (v.t 5),.int .u8 (v.t 6),.int .u8 (v.t 7)] rfl rfl (fun _=>by kernel_rfl) (fun _=>by kernel_rfl) (M.part mS 3 _ rfl)) ?_
            refine xpL (.pointer (some ⟨B5,2,none⟩)) ?_; refine xaL (.int .i64 v.n) (load1 3 _ ⟨B5,2,none⟩ _ rfl rfl (fun _=>by kernel_rfl) (M.get mS 2 _ rfl)) ?_
            have Mp:=M.perm (pull0 ([(B5,[.int .i64 v.k,.int .i64 v.d,.int .i64 v.n,.int .u8 (v.t 0),.int .u8 (v.t 1),.int .u8 (v.t 2),.int .u8 (v.t 3),.int .u8 (v.t 4),.int .u8 (v.t 5),.int .u8 (v.t 6),.int .u8 (v.t 7)]),(B3,brw 256 u)]:List (Nat × List Value)) ga ([]:List (Nat × List Value))); have key:=hK.add w0 _ _ t ga _ v.d v.t v.n hW hov.d_i hov.t_i hov.n_i hIa Mp
            rw [hm] at key
            rw [padd_no hmn _ _] at key
            rw [tok8_v] at key
            refine xcL key ?_; clear key; rintro e w22 ⟨ba1,rfl,hI_,M',o1⟩; clear o1 Mp M hIa; have hIa:=hI_; clear hI_
            have M:Mm w0 ((B5,[.int .i64 v.k,.int .i64 v.d,.int .i64 v.n,.int .u8 (v.t 0),.int .u8 (v.t 1),.int .u8 (v.t 2),.int .u8 (v.t 3),.int .u8 (v.t 4),.int .u8 (v.t 5),.int .u8 (v.t 6),.int .u8 (v.t 7)])::(B3,brw 256 u)::(ba1++([]:List (Nat × List Value)))) w22:=M'.perm (pull0 ([(B5,[.int .i64 v.k,.int .i64 v.d,.int .i64 v.n,.int .u8 (v.t 0),.int .u8 (v.t 1),.int .u8 (v.t 2),.int .u8 (v.t 3),.int .u8 (v.t 4),.int .u8 (v.t 5),.int .u8 (v.t 6),.int .u8 (v.t 7)]),(B3,brw 256 u)]:List (Nat × List Value)) ba1 ([]:List (Nat × List Value))).symm
            clear M'; refine xeL ?_; refine xpL (.int .i64 ((2:Nat):Int)) ?_; refine xT ?_; go_upto_region 16 with fail; refine wp_region_list ?_; refine xpL (.pointer (some ⟨B5,0,none⟩)) ?_; refine xaL (.int .i64 v.k) (load1 3 _ ⟨B5,0,none⟩ _ rfl rfl (fun _=>by kernel_rfl) (M.get mS 0 _ rfl)) ?_; have key:=kind20_any v.k 8 (by decide) hov.k_i w22; refine xcL key ?_; clear key
            rintro e w23 ⟨rfl,l_⟩; replace M:=M.call l_; replace hIa:=hK.bel hIa l_; clear l_; refine xeL ?_
            rw [hkz]
            refine xaL (.bool false) (eqlI .i64 _ _ _ _ _ _ rfl rfl rfl false (beq_eq_false_iff_ne.2 (by omega)) _) ?_; refine xpL (.bool false) ?_
            with_reducible refine skipL ?_ ?_
            · rfl
            simp only [aP,lI,l0,lS]
            with_reducible refine skipL ?_ ?_
            · rfl
            simp only [aP,lI,l0,lS]; refine xpL (.bool false) ?_; refine xT ?_; go_upto_region 18 with fail; refine wp_region_list ?_; refine xpL (.int .i64 ((2:Nat):Int)) ?_; refine xaL (.bool false) (eqlI .i64 _ _ _ _ _ _ rfl rfl rfl false (beq_eq_false_iff_ne.2 (by omega)) _) ?_; refine xpL (.bool false) ?_
            with_reducible refine skipL ?_ ?_
            · rfl
            simp only [aP,lI,l0,lS]
            with_reducible refine skipL ?_ ?_
            · rfl
            simp only [aP,lI,l0,lS]
            with_reducible refine skipL ?_ ?_
            · rfl
            simp only [aP,lI,l0,lS]
            with_reducible refine skipL ?_ ?_
            · rfl
            simp only [aP,lI,l0,lS]
            with_reducible refine skipL ?_ ?_
            · rfl
            simp only [aP,lI,l0,lS]
            with_reducible refine skipL ?_ ?_
            · rfl
            simp only [aP,lI,l0,lS]
            with_reducible refine skipL ?_ ?_
            · rfl
            simp only [aP,lI,l0,lS]
            with_reducible refine skipL ?_ ?_
            · rfl
            simp only [aP,lI,l0,lS]; refine xpL (.bool false) ?_; refine xpL (.bool false) ?_; refine xpL (.bool true) ?_; refine xpL (.bool true) ?_; refine xpL (.pointer (some ⟨B5,1,none⟩)) ?_; refine xaL (.int .i64 v.d) (load1 3 _ ⟨B5,1,none⟩ _ rfl rfl (fun _=>by kernel_rfl) (M.get mS 1 _ rfl)) ?_
            refine xaL (.pointer (some ⟨B3,i,none⟩)) (idxBE B3 i _ hvd hi256 _ _ rfl rfl rfl _) ?_
            refine xaL (.bool false) (load1 4 _ ⟨B3,i,none⟩ _ rfl rfl (fun _=>by kernel_rfl) ((by rw [M.get (mT _ mS) i _ (brw_get u hi256)]; exact congrArg (fun b_=>some (Value.bool b_)) (huf)))) ?_
            refine xpL (.bool false) ?_; refine xpL (.bool false) ?_
            with_reducible refine skipL ?_ ?_
            · rfl
            simp only [aP,lI,l0,lS]
            with_reducible refine skipL ?_ ?_
            · rfl
            simp only [aP,lI,l0,lS]; refine xpL (.bool false) ?_; refine xpL (.bool false) ?_; refine xT ?_; go_upto_region 20 with fail; refine wp_region_list ?_; refine xpL (.int .i64 ((2:Nat):Int)) ?_; refine xaL (.bool false) (eqlI .i64 _ _ _ _ _ _ rfl rfl rfl false (beq_eq_false_iff_ne.2 (by omega)) _) ?_; refine xT ?_
            have HS:=show Hid _ from (show PtbW t∧Usd t u∧I w23 (.pointer (some ⟨Ra,0,none⟩)) t ba1∧Mm w0 ((B3,brw 256 u)::(ba1++([]:List (Nat × List Value)))) w23 from ⟨hW,hU,hIa,M.tail⟩); clear M hIa; go_wp2
            go_meet
            exact ⟨rfl,t,u,_,HS.out⟩
       · as_aux_lemma =>
          go_upto_region 12 with fail; refine wp_region_list ?_; refine xaL (.bool false) (eqlI .i64 _ _ _ _ _ _ rfl rfl rfl false (beq_eq_false_iff_ne.2 (by omega)) _) ?_; refine xpL (.bool false) ?_; refine xT ?_; go_upto_region 13 with fail; refine wp_region_list ?_; refine xaL (.bool false) (eqlI .i64 _ _ _ _ _ _ rfl rfl rfl false (beq_eq_false_iff_ne.2 (by omega)) _) ?_
          refine xpL (.bool false) ?_; refine xT ?_; go_upto_region 14 with fail; refine wp_region_list ?_; refine xaL (.bool true) (eqlI .i64 _ _ _ _ _ _ rfl rfl rfl true (beq_iff_eq.2 (by omega)) _) ?_; refine xpL (.bool true) ?_; refine xT ?_
          obtain ⟨hpx,⟨hm,hs⟩ | ⟨hm,hs⟩ | ⟨hm,hs⟩⟩:=pmay_in (t:=t) hvd hi256
          · have huf:u i=false:=by rw [hU i,decide_eq_false (fun h_=>h_ hs)]
            have hW2:PtbW (pput t i ⟨1,100,0,pmom v.n,v.t⟩):=by
             have h_:=padd_w hW v.d hov.t_i v.n
             rw [padd_ok hm hpx] at h_
             exact h_
            go_upto_region 15 with fail; refine wp_region_list ?_; refine xpL (.pointer (some ⟨Ra,0,none⟩)) ?_; refine xpL (.pointer (some ⟨B5,1,none⟩)) ?_; refine xaL (.int .i64 v.d) (load1 3 _ ⟨B5,1,none⟩ _ rfl rfl (fun _=>by kernel_rfl) (M.get mS 1 _ rfl)) ?_; refine xpL (.pointer (some ⟨B5,3,none⟩)) ?_
            refine xaL (.agg #[.int .u8 (v.t 0),.int .u8 (v.t 1),.int .u8 (v.t 2),.int .u8 (v.t 3),.int .u8 (v.t 4),.int .u8 (v.t 5),.int .u8 (v.t 6),.int .u8 (v.t 7)]) (loadN 30 _ ⟨B5,3,none⟩ [.int .u8 (v.t 0),.int .u8 (v.t 1),.int .u8 (v.t 2),.int .u8 (v.t 3),.int .u8 (v.t 4),.int .u8 (v.t 5),.int .u8 (v.t 6),.int .u8 (v.t 7)] rfl rfl (fun _=>by kernel_rfl) (fun _=>by kernel_rfl) (M.part mS 3 _ rfl)) ?_
            refine xpL (.pointer (some ⟨B5,2,none⟩)) ?_; refine xaL (.int .i64 v.n) (load1 3 _ ⟨B5,2,none⟩ _ rfl rfl (fun _=>by kernel_rfl) (M.get mS 2 _ rfl)) ?_
            have Mp:=M.perm (pull0 ([(B5,[.int .i64 v.k,.int .i64 v.d,.int .i64 v.n,.int .u8 (v.t 0),.int .u8 (v.t 1),.int .u8 (v.t 2),.int .u8 (v.t 3),.int .u8 (v.t 4),.int .u8 (v.t 5),.int .u8 (v.t 6),.int .u8 (v.t 7)]),(B3,brw 256 u)]:List (Nat × List Value)) ga ([]:List (Nat × List Value))); have key:=hK.add w0 _ _ t ga _ v.d v.t v.n hW hov.d_i hov.t_i hov.n_i hIa Mp
            rw [hm] at key
            rw [padd_ok hm hpx _ _] at key
            rw [tok8_v] at key
            refine xcL key ?_; clear key; rintro e w24 ⟨ba1,rfl,hI_,M',o1⟩; clear o1 Mp M hIa; have hIa:=hI_; clear hI_
            have M:Mm w0 ((B5,[.int .i64 v.k,.int .i64 v.d,.int .i64 v.n,.int .u8 (v.t 0),.int .u8 (v.t 1),.int .u8 (v.t 2),.int .u8 (v.t 3),.int .u8 (v.t 4),.int .u8 (v.t 5),.int .u8 (v.t 6),.int .u8 (v.t 7)])::(B3,brw 256 u)::(ba1++([]:List (Nat × List Value)))) w24:=M'.perm (pull0 ([(B5,[.int .i64 v.k,.int .i64 v.d,.int .i64 v.n,.int .u8 (v.t 0),.int .u8 (v.t 1),.int .u8 (v.t 2),.int .u8 (v.t 3),.int .u8 (v.t 4),.int .u8 (v.t 5),.int .u8 (v.t 6),.int .u8 (v.t 7)]),(B3,brw 256 u)]:List (Nat × List Value)) ba1 ([]:List (Nat × List Value))).symm
            clear M'; refine xeL ?_; refine xpL (.int .i64 ((0:Nat):Int)) ?_; refine xT ?_; go_upto_region 16 with fail; refine wp_region_list ?_; refine xpL (.pointer (some ⟨B5,0,none⟩)) ?_; refine xaL (.int .i64 v.k) (load1 3 _ ⟨B5,0,none⟩ _ rfl rfl (fun _=>by kernel_rfl) (M.get mS 0 _ rfl)) ?_; have key:=kind20_any v.k 8 (by decide) hov.k_i w24; refine xcL key ?_; clear key
            rintro e w25 ⟨rfl,l_⟩; replace M:=M.call l_; replace hIa:=hK.bel hIa l_; clear l_; refine xeL ?_
            rw [hkz]
            refine xaL (.bool false) (eqlI .i64 _ _ _ _ _ _ rfl rfl rfl false (beq_eq_false_iff_ne.2 (by omega)) _) ?_; refine xpL (.bool false) ?_
            with_reducible refine skipL ?_ ?_
            · rfl
            simp only [aP,lI,l0,lS]
            with_reducible refine skipL ?_ ?_
            · rfl
            simp only [aP,lI,l0,lS]; refine xpL (.bool false) ?_; refine xT ?_; go_upto_region 18 with fail; refine wp_region_list ?_; refine xpL (.int .i64 ((0:Nat):Int)) ?_; refine xaL (.bool true) (eqlI .i64 _ _ _ _ _ _ rfl rfl rfl true (beq_iff_eq.2 (by omega)) _) ?_; refine xpL (.bool true) ?_; refine xpL (.bool true) ?_; refine xpL (.bool false) ?_; refine xpL (.bool false) ?_
            refine xpL (.pointer (some ⟨B5,1,none⟩)) ?_; refine xaL (.int .i64 v.d) (load1 3 _ ⟨B5,1,none⟩ _ rfl rfl (fun _=>by kernel_rfl) (M.get mS 1 _ rfl)) ?_; refine xaL (.pointer (some ⟨B3,i,none⟩)) (idxBE B3 i _ hvd hi256 _ _ rfl rfl rfl _) ?_
            refine xaL (.bool false) (load1 4 _ ⟨B3,i,none⟩ _ rfl rfl (fun _=>by kernel_rfl) ((by rw [M.get (mT _ mS) i _ (brw_get u hi256)]; exact congrArg (fun b_=>some (Value.bool b_)) (huf)))) ?_
            refine xpL (.bool false) ?_; refine xpL (.bool false) ?_; refine xpL (.bool false) ?_; refine xpL (.bool true) ?_; refine xpL (.bool true) ?_; refine xpL (.pointer (some ⟨B5,1,none⟩)) ?_; refine xaL (.int .i64 v.d) (load1 3 _ ⟨B5,1,none⟩ _ rfl rfl (fun _=>by kernel_rfl) (M.get mS 1 _ rfl)) ?_
            refine xaL (.pointer (some ⟨B3,i,none⟩)) (idxBE B3 i _ hvd hi256 _ _ rfl rfl rfl _) ?_
            refine xaL (.bool false) (load1 4 _ ⟨B3,i,none⟩ _ rfl rfl (fun _=>by kernel_rfl) ((by rw [M.get (mT _ mS) i _ (brw_get u hi256)]; exact congrArg (fun b_=>some (Value.bool b_)) (huf)))) ?_
            refine xpL (.bool false) ?_; refine xpL (.bool false) ?_
            with_reducible refine skipL ?_ ?_
            · rfl
            simp only [aP,lI,l0,lS]
            with_reducible refine skipL ?_ ?_
            · rfl
            simp only [aP,lI,l0,lS]; refine xpL (.bool false) ?_; refine xpL (.bool false) ?_; refine xT ?_; go_upto_region 20 with fail; refine wp_region_list ?_; refine xpL (.int .i64 ((0:Nat):Int)) ?_; refine xaL (.bool true) (eqlI .i64 _ _ _ _ _ _ rfl rfl rfl true (beq_iff_eq.2 (by omega)) _) ?_; refine xT ?_; go_upto_region 21 with fail; refine wp_region_list ?_
            refine xpL (.pointer (some ⟨B5,1,none⟩)) ?_; refine xaL (.int .i64 v.d) (load1 3 _ ⟨B5,1,none⟩ _ rfl rfl (fun _=>by kernel_rfl) (M.get mS 1 _ rfl)) ?_; refine xaL (.pointer (some ⟨B3,i,none⟩)) (idxBE B3 i _ hvd hi256 _ _ rfl rfl rfl _) ?_; replace M:=M.swap
            refine skipOpL rfl (storeAny (.bool true) B3 i 4 _ _ rfl rfl rfl rfl rfl (M.isSome mS i (by rw [brw_length]; exact hi256)) (M.free mS i (by rw [brw_length]; exact hi256)) (by kernel_rfl)) ?_; simp only [Act.put]; replace M:=M.set i (by rw [brw_length]; exact hi256) (.bool true)
            rw [brw_set] at M
            replace hIa:=hK.off _ _ _ _ _ _ hIa ((Off.refl [B3] _).set (b:=B3) mS i (.bool true)) (fun b_ hb_=>by obtain rfl:=xm1 hb_; exact M.awayC (fun p_ hp_=>by simp [hp_])); generalize w25.setCell ⟨B3,i,none⟩ (.bool true)=w26 at M hIa ⊢
            replace M:Mm w0 ((B3,brw 256 (bput u i true))::(B5,[.int .i64 v.k,.int .i64 v.d,.int .i64 v.n,.int .u8 (v.t 0),.int .u8 (v.t 1),.int .u8 (v.t 2),.int .u8 (v.t 3),.int .u8 (v.t 4),.int .u8 (v.t 5),.int .u8 (v.t 6),.int .u8 (v.t 7)])::(ba1++([]:List (Nat × List Value)))) w26:=M
            refine xT ?_; replace M:=M.swap
            have HS:=show Hid _ from (show PtbW (pput t i ⟨1,100,0,pmom v.n,v.t⟩)∧Usd (pput t i ⟨1,100,0,pmom v.n,v.t⟩) (bput u i true)∧I w26 (.pointer (some ⟨Ra,0,none⟩)) (pput t i ⟨1,100,0,pmom v.n,v.t⟩) ba1∧Mm w0 ((B3,brw 256 (bput u i true))::(ba1++([]:List (Nat × List Value)))) w26 from ⟨hW2,hU.put i (show (1:Nat)≠0 by decide),hIa,M.tail⟩); clear M hIa
            go_wp2
            go_meet
            exact ⟨rfl,pput t i ⟨1,100,0,pmom v.n,v.t⟩,bput u i true,_,HS.out⟩
          · have huf:u i=true:=by rw [hU i,decide_eq_true hs]
            have hmn:pmay t v.d≠0:=by rw [hm]; decide
            go_upto_region 15 with fail; refine wp_region_list ?_; refine xpL (.pointer (some ⟨Ra,0,none⟩)) ?_; refine xpL (.pointer (some ⟨B5,1,none⟩)) ?_; refine xaL (.int .i64 v.d) (load1 3 _ ⟨B5,1,none⟩ _ rfl rfl (fun _=>by kernel_rfl) (M.get mS 1 _ rfl)) ?_; refine xpL (.pointer (some ⟨B5,3,none⟩)) ?_
            refine xaL (.agg #[.int .u8 (v.t 0),.int .u8 (v.t 1),.int .u8 (v.t 2),.int .u8 (v.t 3),.int .u8 (v.t 4),.int .u8 (v.t 5),.int .u8 (v.t 6),.int .u8 (v.t 7)]) (loadN 30 _ ⟨B5,3,none⟩ [.int .u8 (v.t 0),.int .u8 (v.t 1),.int .u8 (v.t 2),.int .u8 (v.t 3),.int .u8 (v.t 4),.int .u8 (v.t 5),.int .u8 (v.t 6),.int .u8 (v.t 7)] rfl rfl (fun _=>by kernel_rfl) (fun _=>by kernel_rfl) (M.part mS 3 _ rfl)) ?_
            refine xpL (.pointer (some ⟨B5,2,none⟩)) ?_; refine xaL (.int .i64 v.n) (load1 3 _ ⟨B5,2,none⟩ _ rfl rfl (fun _=>by kernel_rfl) (M.get mS 2 _ rfl)) ?_
            have Mp:=M.perm (pull0 ([(B5,[.int .i64 v.k,.int .i64 v.d,.int .i64 v.n,.int .u8 (v.t 0),.int .u8 (v.t 1),.int .u8 (v.t 2),.int .u8 (v.t 3),.int .u8 (v.t 4),.int .u8 (v.t 5),.int .u8 (v.t 6),.int .u8 (v.t 7)]),(B3,brw 256 u)]:List (Nat × List Value)) ga ([]:List (Nat × List Value))); have key:=hK.add w0 _ _ t ga _ v.d v.t v.n hW hov.d_i hov.t_i hov.n_i hIa Mp
            rw [hm] at key
            rw [padd_no hmn _ _] at key
            rw [tok8_v] at key
            refine xcL key ?_; clear key; rintro e w27 ⟨ba1,rfl,hI_,M',o1⟩; clear o1 Mp M hIa; have hIa:=hI_; clear hI_
            have M:Mm w0 ((B5,[.int .i64 v.k,.int .i64 v.d,.int .i64 v.n,.int .u8 (v.t 0),.int .u8 (v.t 1),.int .u8 (v.t 2),.int .u8 (v.t 3),.int .u8 (v.t 4),.int .u8 (v.t 5),.int .u8 (v.t 6),.int .u8 (v.t 7)])::(B3,brw 256 u)::(ba1++([]:List (Nat × List Value)))) w27:=M'.perm (pull0 ([(B5,[.int .i64 v.k,.int .i64 v.d,.int .i64 v.n,.int .u8 (v.t 0),.int .u8 (v.t 1),.int .u8 (v.t 2),.int .u8 (v.t 3),.int .u8 (v.t 4),.int .u8 (v.t 5),.int .u8 (v.t 6),.int .u8 (v.t 7)]),(B3,brw 256 u)]:List (Nat × List Value)) ba1 ([]:List (Nat × List Value))).symm
            clear M'; refine xeL ?_; refine xpL (.int .i64 ((201:Nat):Int)) ?_; refine xT ?_; go_upto_region 16 with fail; refine wp_region_list ?_; refine xpL (.pointer (some ⟨B5,0,none⟩)) ?_; refine xaL (.int .i64 v.k) (load1 3 _ ⟨B5,0,none⟩ _ rfl rfl (fun _=>by kernel_rfl) (M.get mS 0 _ rfl)) ?_; have key:=kind20_any v.k 8 (by decide) hov.k_i w27; refine xcL key ?_; clear key
            rintro e w28 ⟨rfl,l_⟩; replace M:=M.call l_; replace hIa:=hK.bel hIa l_; clear l_; refine xeL ?_
            rw [hkz]
            refine xaL (.bool false) (eqlI .i64 _ _ _ _ _ _ rfl rfl rfl false (beq_eq_false_iff_ne.2 (by omega)) _) ?_; refine xpL (.bool false) ?_
            with_reducible refine skipL ?_ ?_
            · rfl
            simp only [aP,lI,l0,lS]
            with_reducible refine skipL ?_ ?_
            · rfl
            simp only [aP,lI,l0,lS]; refine xpL (.bool false) ?_; refine xT ?_; go_upto_region 18 with fail; refine wp_region_list ?_; refine xpL (.int .i64 ((201:Nat):Int)) ?_; refine xaL (.bool false) (eqlI .i64 _ _ _ _ _ _ rfl rfl rfl false (beq_eq_false_iff_ne.2 (by omega)) _) ?_; refine xpL (.bool false) ?_
            with_reducible refine skipL ?_ ?_
            · rfl
            simp only [aP,lI,l0,lS]
            with_reducible refine skipL ?_ ?_
            · rfl
            simp only [aP,lI,l0,lS]
            with_reducible refine skipL ?_ ?_
            · rfl
            simp only [aP,lI,l0,lS]
            with_reducible refine skipL ?_ ?_
            · rfl
            simp only [aP,lI,l0,lS]
            with_reducible refine skipL ?_ ?_
            · rfl
            simp only [aP,lI,l0,lS]
            with_reducible refine skipL ?_ ?_
            · rfl
            simp only [aP,lI,l0,lS]
            with_reducible refine skipL ?_ ?_
            · rfl
            simp only [aP,lI,l0,lS]
            with_reducible refine skipL ?_ ?_
            · rfl
            simp only [aP,lI,l0,lS]; refine xpL (.bool false) ?_; refine xpL (.bool false) ?_; refine xpL (.bool true) ?_; refine xpL (.bool true) ?_; refine xpL (.pointer (some ⟨B5,1,none⟩)) ?_; refine xaL (.int .i64 v.d) (load1 3 _ ⟨B5,1,none⟩ _ rfl rfl (fun _=>by kernel_rfl) (M.get mS 1 _ rfl)) ?_
            refine xaL (.pointer (some ⟨B3,i,none⟩)) (idxBE B3 i _ hvd hi256 _ _ rfl rfl rfl _) ?_
            refine xaL (.bool true) (load1 4 _ ⟨B3,i,none⟩ _ rfl rfl (fun _=>by kernel_rfl) ((by rw [M.get (mT _ mS) i _ (brw_get u hi256)]; exact congrArg (fun b_=>some (Value.bool b_)) (huf)))) ?_
            refine xpL (.bool true) ?_; refine xpL (.bool true) ?_; refine xpL (.int .i64 ((201:Nat):Int)) ?_; refine xaL (.bool false) (neqI .i64 _ _ _ _ _ _ rfl rfl rfl false (by rw [bne_eq_false_iff_eq]; omega) _) ?_; refine xpL (.bool false) ?_; refine xpL (.bool false) ?_; refine xT ?_; go_upto_region 20 with fail; refine wp_region_list ?_; refine xpL (.int .i64 ((201:Nat):Int)) ?_
            refine xaL (.bool false) (eqlI .i64 _ _ _ _ _ _ rfl rfl rfl false (beq_eq_false_iff_ne.2 (by omega)) _) ?_; refine xT ?_; have HS:=show Hid _ from (show PtbW t∧Usd t u∧I w28 (.pointer (some ⟨Ra,0,none⟩)) t ba1∧Mm w0 ((B3,brw 256 u)::(ba1++([]:List (Nat × List Value)))) w28 from ⟨hW,hU,hIa,M.tail⟩); clear M hIa; go_wp2
            go_meet
            exact ⟨rfl,t,u,_,HS.out⟩
          · have huf:u i=false:=by rw [hU i,decide_eq_false (fun h_=>h_ hs)]
            have hmn:pmay t v.d≠0:=by rw [hm]; decide
            go_upto_region 15 with fail; refine wp_region_list ?_; refine xpL (.pointer (some ⟨Ra,0,none⟩)) ?_; refine xpL (.pointer (some ⟨B5,1,none⟩)) ?_; refine xaL (.int .i64 v.d) (load1 3 _ ⟨B5,1,none⟩ _ rfl rfl (fun _=>by kernel_rfl) (M.get mS 1 _ rfl)) ?_; refine xpL (.pointer (some ⟨B5,3,none⟩)) ?_
            refine xaL (.agg #[.int .u8 (v.t 0),.int .u8 (v.t 1),.int .u8 (v.t 2),.int .u8 (v.t 3),.int .u8 (v.t 4),.int .u8 (v.t 5),.int .u8 (v.t 6),.int .u8 (v.t 7)]) (loadN 30 _ ⟨B5,3,none⟩ [.int .u8 (v.t 0),.int .u8 (v.t 1),.int .u8 (v.t 2),.int .u8 (v.t 3),.int .u8 (v.t 4),.int .u8 (v.t 5),.int .u8 (v.t 6),.int .u8 (v.t 7)] rfl rfl (fun _=>by kernel_rfl) (fun _=>by kernel_rfl) (M.part mS 3 _ rfl)) ?_
            refine xpL (.pointer (some ⟨B5,2,none⟩)) ?_; refine xaL (.int .i64 v.n) (load1 3 _ ⟨B5,2,none⟩ _ rfl rfl (fun _=>by kernel_rfl) (M.get mS 2 _ rfl)) ?_
            have Mp:=M.perm (pull0 ([(B5,[.int .i64 v.k,.int .i64 v.d,.int .i64 v.n,.int .u8 (v.t 0),.int .u8 (v.t 1),.int .u8 (v.t 2),.int .u8 (v.t 3),.int .u8 (v.t 4),.int .u8 (v.t 5),.int .u8 (v.t 6),.int .u8 (v.t 7)]),(B3,brw 256 u)]:List (Nat × List Value)) ga ([]:List (Nat × List Value))); have key:=hK.add w0 _ _ t ga _ v.d v.t v.n hW hov.d_i hov.t_i hov.n_i hIa Mp
            rw [hm] at key
            rw [padd_no hmn _ _] at key
            rw [tok8_v] at key
            refine xcL key ?_; clear key; rintro e w29 ⟨ba1,rfl,hI_,M',o1⟩; clear o1 Mp M hIa; have hIa:=hI_; clear hI_
            have M:Mm w0 ((B5,[.int .i64 v.k,.int .i64 v.d,.int .i64 v.n,.int .u8 (v.t 0),.int .u8 (v.t 1),.int .u8 (v.t 2),.int .u8 (v.t 3),.int .u8 (v.t 4),.int .u8 (v.t 5),.int .u8 (v.t 6),.int .u8 (v.t 7)])::(B3,brw 256 u)::(ba1++([]:List (Nat × List Value)))) w29:=M'.perm (pull0 ([(B5,[.int .i64 v.k,.int .i64 v.d,.int .i64 v.n,.int .u8 (v.t 0),.int .u8 (v.t 1),.int .u8 (v.t 2),.int .u8 (v.t 3),.int .u8 (v.t 4),.int .u8 (v.t 5),.int .u8 (v.t 6),.int .u8 (v.t 7)]),(B3,brw 256 u)]:List (Nat × List Value)) ba1 ([]:List (Nat × List Value))).symm
            clear M'; refine xeL ?_; refine xpL (.int .i64 ((2:Nat):Int)) ?_; refine xT ?_; go_upto_region 16 with fail; refine wp_region_list ?_; refine xpL (.pointer (some ⟨B5,0,none⟩)) ?_; refine xaL (.int .i64 v.k) (load1 3 _ ⟨B5,0,none⟩ _ rfl rfl (fun _=>by kernel_rfl) (M.get mS 0 _ rfl)) ?_; have key:=kind20_any v.k 8 (by decide) hov.k_i w29; refine xcL key ?_; clear key
            rintro e w30 ⟨rfl,l_⟩; replace M:=M.call l_; replace hIa:=hK.bel hIa l_; clear l_; refine xeL ?_
            rw [hkz]
            refine xaL (.bool false) (eqlI .i64 _ _ _ _ _ _ rfl rfl rfl false (beq_eq_false_iff_ne.2 (by omega)) _) ?_; refine xpL (.bool false) ?_
            with_reducible refine skipL ?_ ?_
            · rfl
            simp only [aP,lI,l0,lS]
            with_reducible refine skipL ?_ ?_
            · rfl
            simp only [aP,lI,l0,lS]; refine xpL (.bool false) ?_; refine xT ?_; go_upto_region 18 with fail; refine wp_region_list ?_; refine xpL (.int .i64 ((2:Nat):Int)) ?_; refine xaL (.bool false) (eqlI .i64 _ _ _ _ _ _ rfl rfl rfl false (beq_eq_false_iff_ne.2 (by omega)) _) ?_; refine xpL (.bool false) ?_
            with_reducible refine skipL ?_ ?_
            · rfl
            simp only [aP,lI,l0,lS]
            with_reducible refine skipL ?_ ?_
            · rfl
            simp only [aP,lI,l0,lS]
            with_reducible refine skipL ?_ ?_
            · rfl
            simp only [aP,lI,l0,lS]
            with_reducible refine skipL ?_ ?_
            · rfl
            simp only [aP,lI,l0,lS]
            with_reducible refine skipL ?_ ?_
            · rfl
            simp only [aP,lI,l0,lS]
            with_reducible refine skipL ?_ ?_
            · rfl
            simp only [aP,lI,l0,lS]
            with_reducible refine skipL ?_ ?_
            · rfl
            simp only [aP,lI,l0,lS]
            with_reducible refine skipL ?_ ?_
            · rfl
            simp only [aP,lI,l0,lS]; refine xpL (.bool false) ?_; refine xpL (.bool false) ?_; refine xpL (.bool true) ?_; refine xpL (.bool true) ?_; refine xpL (.pointer (some ⟨B5,1,none⟩)) ?_; refine xaL (.int .i64 v.d) (load1 3 _ ⟨B5,1,none⟩ _ rfl rfl (fun _=>by kernel_rfl) (M.get mS 1 _ rfl)) ?_
            refine xaL (.pointer (some ⟨B3,i,none⟩)) (idxBE B3 i _ hvd hi256 _ _ rfl rfl rfl _) ?_
            refine xaL (.bool false) (load1 4 _ ⟨B3,i,none⟩ _ rfl rfl (fun _=>by kernel_rfl) ((by rw [M.get (mT _ mS) i _ (brw_get u hi256)]; exact congrArg (fun b_=>some (Value.bool b_)) (huf)))) ?_
            refine xpL (.bool false) ?_; refine xpL (.bool false) ?_
            with_reducible refine skipL ?_ ?_
            · rfl
            simp only [aP,lI,l0,lS]
            with_reducible refine skipL ?_ ?_
            · rfl
            simp only [aP,lI,l0,lS]; refine xpL (.bool false) ?_; refine xpL (.bool false) ?_; refine xT ?_; go_upto_region 20 with fail; refine wp_region_list ?_; refine xpL (.int .i64 ((2:Nat):Int)) ?_; refine xaL (.bool false) (eqlI .i64 _ _ _ _ _ _ rfl rfl rfl false (beq_eq_false_iff_ne.2 (by omega)) _) ?_; refine xT ?_
            have HS:=show Hid _ from (show PtbW t∧Usd t u∧I w30 (.pointer (some ⟨Ra,0,none⟩)) t ba1∧Mm w0 ((B3,brw 256 u)::(ba1++([]:List (Nat × List Value)))) w30 from ⟨hW,hU,hIa,M.tail⟩); clear M hIa; go_wp2
            go_meet
            exact ⟨rfl,t,u,_,HS.out⟩
       · as_aux_lemma =>
          go_upto_region 12 with fail; refine wp_region_list ?_; refine xaL (.bool false) (eqlI .i64 _ _ _ _ _ _ rfl rfl rfl false (beq_eq_false_iff_ne.2 (by omega)) _) ?_; refine xpL (.bool false) ?_; refine xT ?_; go_upto_region 13 with fail; refine wp_region_list ?_; refine xaL (.bool false) (eqlI .i64 _ _ _ _ _ _ rfl rfl rfl false (beq_eq_false_iff_ne.2 (by omega)) _) ?_
          refine xpL (.bool false) ?_; refine xT ?_; go_upto_region 14 with fail; refine wp_region_list ?_; refine xaL (.bool false) (eqlI .i64 _ _ _ _ _ _ rfl rfl rfl false (beq_eq_false_iff_ne.2 (by omega)) _) ?_; refine xpL (.bool false) ?_; refine xT ?_; go_upto_region 22 with fail; refine wp_region_list ?_
          refine xaL (.bool true) (eqlI .i64 _ _ _ _ _ _ rfl rfl rfl true (beq_iff_eq.2 (by omega)) _) ?_; refine xpL (.bool true) ?_; refine xT ?_; go_upto_region 23 with fail; refine wp_region_list ?_; refine xpL (.pointer (some ⟨Ra,0,none⟩)) ?_; refine xpL (.pointer (some ⟨B5,2,none⟩)) ?_
          refine xaL (.int .i64 v.n) (load1 3 _ ⟨B5,2,none⟩ _ rfl rfl (fun _=>by kernel_rfl) (M.get mS 2 _ rfl)) ?_
          have Mp:=M.perm (pull0 ([(B5,[.int .i64 v.k,.int .i64 v.d,.int .i64 v.n,.int .u8 (v.t 0),.int .u8 (v.t 1),.int .u8 (v.t 2),.int .u8 (v.t 3),.int .u8 (v.t 4),.int .u8 (v.t 5),.int .u8 (v.t 6),.int .u8 (v.t 7)]),(B3,brw 256 u)]:List (Nat × List Value)) ga ([]:List (Nat × List Value))); have key:=hK.due w0 _ _ t ga _ v.n hW hov.n_i hIa Mp; refine xcL key ?_
          clear key; rintro e w31 ⟨p31,c31,ba1,rfl,L_31,hI_,M',o1⟩; clear o1 Mp M hIa; have hIa:=hI_; clear hI_
          have M:Mm w0 ((B5,[.int .i64 v.k,.int .i64 v.d,.int .i64 v.n,.int .u8 (v.t 0),.int .u8 (v.t 1),.int .u8 (v.t 2),.int .u8 (v.t 3),.int .u8 (v.t 4),.int .u8 (v.t 5),.int .u8 (v.t 6),.int .u8 (v.t 7)])::(B3,brw 256 u)::(ba1++((obs p31)++([]:List (Nat × List Value))))) w31:=M'.perm (pullY ([(B5,[.int .i64 v.k,.int .i64 v.d,.int .i64 v.n,.int .u8 (v.t 0),.int .u8 (v.t 1),.int .u8 (v.t 2),.int .u8 (v.t 3),.int .u8 (v.t 4),.int .u8 (v.t 5),.int .u8 (v.t 6),.int .u8 (v.t 7)]),(B3,brw 256 u)]:List (Nat × List Value)) ba1 (obs p31) ([]:List (Nat × List Value)))
          clear M'; refine xeL ?_; refine xT ?_
          replace M:Mm w0 ((B5,[.int .i64 v.k,.int .i64 v.d,.int .i64 v.n,.int .u8 (v.t 0),.int .u8 (v.t 1),.int .u8 (v.t 2),.int .u8 (v.t 3),.int .u8 (v.t 4),.int .u8 (v.t 5),.int .u8 (v.t 6),.int .u8 (v.t 7)])::(B3,brw 256 u)::(ba1++([]:List (Nat × List Value)))) w31:=M.sub _ (List.cons_sublist_cons.2 (List.cons_sublist_cons.2 ((List.Sublist.refl _).append (List.sublist_append_right _ _))))
          clear L_31; have HS:=show Hid _ from (show PtbW (pdt t (pmom v.n))∧Usd (pdt t (pmom v.n)) u∧I w31 (.pointer (some ⟨Ra,0,none⟩)) (pdt t (pmom v.n)) ba1∧Mm w0 ((B3,brw 256 u)::(ba1++([]:List (Nat × List Value)))) w31 from ⟨pdt_w hW (pmom_le _),hU.same (st_due t _),hIa,M.tail⟩); clear M hIa; go_wp2
          go_meet
          exact ⟨rfl,pdt t (pmom v.n),u,_,HS.out⟩
       · as_aux_lemma =>
          go_upto_region 12 with fail; refine wp_region_list ?_; refine xaL (.bool false) (eqlI .i64 _ _ _ _ _ _ rfl rfl rfl false (beq_eq_false_iff_ne.2 (by omega)) _) ?_; refine xpL (.bool false) ?_; refine xT ?_; go_upto_region 13 with fail; refine wp_region_list ?_; refine xaL (.bool false) (eqlI .i64 _ _ _ _ _ _ rfl rfl rfl false (beq_eq_false_iff_ne.2 (by omega)) _) ?_
          refine xpL (.bool false) ?_; refine xT ?_; go_upto_region 14 with fail; refine wp_region_list ?_; refine xaL (.bool false) (eqlI .i64 _ _ _ _ _ _ rfl rfl rfl false (beq_eq_false_iff_ne.2 (by omega)) _) ?_; refine xpL (.bool false) ?_; refine xT ?_; go_upto_region 22 with fail; refine wp_region_list ?_
          refine xaL (.bool false) (eqlI .i64 _ _ _ _ _ _ rfl rfl rfl false (beq_eq_false_iff_ne.2 (by omega)) _) ?_; refine xpL (.bool false) ?_; refine xT ?_; go_upto_region 24 with fail; refine wp_region_list ?_; refine xaL (.bool true) (eqlI .i64 _ _ _ _ _ _ rfl rfl rfl true (beq_iff_eq.2 (by omega)) _) ?_; refine xpL (.bool true) ?_; refine xT ?_; go_upto_region 25 with fail
          refine wp_region_list ?_; refine xpL (.pointer (some ⟨Ra,0,none⟩)) ?_; refine xpL (.pointer (some ⟨B5,1,none⟩)) ?_; refine xaL (.int .i64 v.d) (load1 3 _ ⟨B5,1,none⟩ _ rfl rfl (fun _=>by kernel_rfl) (M.get mS 1 _ rfl)) ?_; refine xpL (.pointer (some ⟨B5,3,none⟩)) ?_
          refine xaL (.agg #[.int .u8 (v.t 0),.int .u8 (v.t 1),.int .u8 (v.t 2),.int .u8 (v.t 3),.int .u8 (v.t 4),.int .u8 (v.t 5),.int .u8 (v.t 6),.int .u8 (v.t 7)]) (loadN 30 _ ⟨B5,3,none⟩ [.int .u8 (v.t 0),.int .u8 (v.t 1),.int .u8 (v.t 2),.int .u8 (v.t 3),.int .u8 (v.t 4),.int .u8 (v.t 5),.int .u8 (v.t 6),.int .u8 (v.t 7)] rfl rfl (fun _=>by kernel_rfl) (fun _=>by kernel_rfl) (M.part mS 3 _ rfl)) ?_
          have Mp:=M.perm (pull0 ([(B5,[.int .i64 v.k,.int .i64 v.d,.int .i64 v.n,.int .u8 (v.t 0),.int .u8 (v.t 1),.int .u8 (v.t 2),.int .u8 (v.t 3),.int .u8 (v.t 4),.int .u8 (v.t 5),.int .u8 (v.t 6),.int .u8 (v.t 7)]),(B3,brw 256 u)]:List (Nat × List Value)) ga ([]:List (Nat × List Value))); have key:=hK.ans w0 _ _ t ga _ v.d v.t hW hov.d_i hov.t_i hIa Mp
          rw [tok8_v] at key
          refine xcL key ?_; clear key; rintro e w32 ⟨ba1,rfl,hI_,M',o1⟩; clear o1 Mp M hIa; have hIa:=hI_; clear hI_
          have M:Mm w0 ((B5,[.int .i64 v.k,.int .i64 v.d,.int .i64 v.n,.int .u8 (v.t 0),.int .u8 (v.t 1),.int .u8 (v.t 2),.int .u8 (v.t 3),.int .u8 (v.t 4),.int .u8 (v.t 5),.int .u8 (v.t 6),.int .u8 (v.t 7)])::(B3,brw 256 u)::(ba1++([]:List (Nat × List Value)))) w32:=M'.perm (pull0 ([(B5,[.int .i64 v.k,.int .i64 v.d,.int .i64 v.n,.int .u8 (v.t 0),.int .u8 (v.t 1),.int .u8 (v.t 2),.int .u8 (v.t 3),.int .u8 (v.t 4),.int .u8 (v.t 5),.int .u8 (v.t 6),.int .u8 (v.t 7)]),(B3,brw 256 u)]:List (Nat × List Value)) ba1 ([]:List (Nat × List Value))).symm
          clear M'; refine xeL ?_; refine xT ?_; have HS:=show Hid _ from (show PtbW (pant t v.d v.t)∧Usd (pant t v.d v.t) u∧I w32 (.pointer (some ⟨Ra,0,none⟩)) (pant t v.d v.t) ba1∧Mm w0 ((B3,brw 256 u)::(ba1++([]:List (Nat × List Value)))) w32 from ⟨pant_w hW _ _,hU.same (st_ans t _ _),hIa,M.tail⟩); clear M hIa; go_wp2
          go_meet
          exact ⟨rfl,pant t v.d v.t,u,_,HS.out⟩
       · as_aux_lemma =>
          go_upto_region 12 with fail; refine wp_region_list ?_; refine xaL (.bool false) (eqlI .i64 _ _ _ _ _ _ rfl rfl rfl false (beq_eq_false_iff_ne.2 (by omega)) _) ?_; refine xpL (.bool false) ?_; refine xT ?_; go_upto_region 13 with fail; refine wp_region_list ?_; refine xaL (.bool false) (eqlI .i64 _ _ _ _ _ _ rfl rfl rfl false (beq_eq_false_iff_ne.2 (by omega)) _) ?_
          refine xpL (.bool false) ?_; refine xT ?_; go_upto_region 14 with fail; refine wp_region_list ?_; refine xaL (.bool false) (eqlI .i64 _ _ _ _ _ _ rfl rfl rfl false (beq_eq_false_iff_ne.2 (by omega)) _) ?_; refine xpL (.bool false) ?_; refine xT ?_; go_upto_region 22 with fail; refine wp_region_list ?_
          refine xaL (.bool false) (eqlI .i64 _ _ _ _ _ _ rfl rfl rfl false (beq_eq_false_iff_ne.2 (by omega)) _) ?_; refine xpL (.bool false) ?_; refine xT ?_; go_upto_region 24 with fail; refine wp_region_list ?_; refine xaL (.bool false) (eqlI .i64 _ _ _ _ _ _ rfl rfl rfl false (beq_eq_false_iff_ne.2 (by omega)) _) ?_; refine xpL (.bool false) ?_; refine xT ?_; go_upto_region 26 with fail
          refine wp_region_list ?_; refine xaL (.bool true) (eqlI .i64 _ _ _ _ _ _ rfl rfl rfl true (beq_iff_eq.2 (by omega)) _) ?_; refine xpL (.bool true) ?_; refine xT ?_; go_upto_region 27 with fail; refine wp_region_list ?_; refine xpL (.pointer (some ⟨Ra,0,none⟩)) ?_; refine xpL (.pointer (some ⟨B5,1,none⟩)) ?_
          refine xaL (.int .i64 v.d) (load1 3 _ ⟨B5,1,none⟩ _ rfl rfl (fun _=>by kernel_rfl) (M.get mS 1 _ rfl)) ?_
          have Mp:=M.perm (pull0 ([(B5,[.int .i64 v.k,.int .i64 v.d,.int .i64 v.n,.int .u8 (v.t 0),.int .u8 (v.t 1),.int .u8 (v.t 2),.int .u8 (v.t 3),.int .u8 (v.t 4),.int .u8 (v.t 5),.int .u8 (v.t 6),.int .u8 (v.t 7)]),(B3,brw 256 u)]:List (Nat × List Value)) ga ([]:List (Nat × List Value))); have key:=hK.rem w0 _ _ t ga _ v.d hW hov.d_i hIa Mp; refine xcL key ?_
          clear key; rintro e w33 ⟨ba1,rfl,hI_,M',o1⟩; clear o1 Mp M hIa; have hIa:=hI_; clear hI_
          have M:Mm w0 ((B5,[.int .i64 v.k,.int .i64 v.d,.int .i64 v.n,.int .u8 (v.t 0),.int .u8 (v.t 1),.int .u8 (v.t 2),.int .u8 (v.t 3),.int .u8 (v.t 4),.int .u8 (v.t 5),.int .u8 (v.t 6),.int .u8 (v.t 7)])::(B3,brw 256 u)::(ba1++([]:List (Nat × List Value)))) w33:=M'.perm (pull0 ([(B5,[.int .i64 v.k,.int .i64 v.d,.int .i64 v.n,.int .u8 (v.t 0),.int .u8 (v.t 1),.int .u8 (v.t 2),.int .u8 (v.t 3),.int .u8 (v.t 4),.int .u8 (v.t 5),.int .u8 (v.t 6),.int .u8 (v.t 7)]),(B3,brw 256 u)]:List (Nat × List Value)) ba1 ([]:List (Nat × List Value))).symm
          clear M'; refine xeL ?_; refine xT ?_; have HS:=show Hid _ from (show PtbW (prm t v.d)∧Usd (prm t v.d) u∧I w33 (.pointer (some ⟨Ra,0,none⟩)) (prm t v.d) ba1∧Mm w0 ((B3,brw 256 u)::(ba1++([]:List (Nat × List Value)))) w33 from ⟨prm_w hW _,hU.same (st_rem t _),hIa,M.tail⟩); clear M hIa; go_wp2
          go_meet
          exact ⟨rfl,prm t v.d,u,_,HS.out⟩
       · as_aux_lemma =>
          go_upto_region 12 with fail; refine wp_region_list ?_; refine xaL (.bool false) (eqlI .i64 _ _ _ _ _ _ rfl rfl rfl false (beq_eq_false_iff_ne.2 (by omega)) _) ?_; refine xpL (.bool false) ?_; refine xT ?_; go_upto_region 13 with fail; refine wp_region_list ?_; refine xaL (.bool false) (eqlI .i64 _ _ _ _ _ _ rfl rfl rfl false (beq_eq_false_iff_ne.2 (by omega)) _) ?_
          refine xpL (.bool false) ?_; refine xT ?_; go_upto_region 14 with fail; refine wp_region_list ?_; refine xaL (.bool false) (eqlI .i64 _ _ _ _ _ _ rfl rfl rfl false (beq_eq_false_iff_ne.2 (by omega)) _) ?_; refine xpL (.bool false) ?_; refine xT ?_; go_upto_region 22 with fail; refine wp_region_list ?_
          refine xaL (.bool false) (eqlI .i64 _ _ _ _ _ _ rfl rfl rfl false (beq_eq_false_iff_ne.2 (by omega)) _) ?_; refine xpL (.bool false) ?_; refine xT ?_; go_upto_region 24 with fail; refine wp_region_list ?_; refine xaL (.bool false) (eqlI .i64 _ _ _ _ _ _ rfl rfl rfl false (beq_eq_false_iff_ne.2 (by omega)) _) ?_; refine xpL (.bool false) ?_; refine xT ?_; go_upto_region 26 with fail
          refine wp_region_list ?_; refine xaL (.bool false) (eqlI .i64 _ _ _ _ _ _ rfl rfl rfl false (beq_eq_false_iff_ne.2 (by omega)) _) ?_; refine xpL (.bool false) ?_; refine xT ?_; have HS:=show Hid _ from (show PtbW t∧Usd t u∧I w7 (.pointer (some ⟨Ra,0,none⟩)) t ga∧Mm w0 ((B3,brw 256 u)::(ga++([]:List (Nat × List Value)))) w7 from ⟨hW,hU,hIa,M.tail⟩); clear M hIa
          go_wp2
          go_meet
          exact ⟨rfl,t,u,_,HS.out⟩
     · have hnot:=hin2
       rw [decide_eq_false hin2] at hinb
       subst hinb
       obtain h_ | h_ | h_ | h_ | h_ | h_ | h_:kz=0∨kz=1∨kz=2∨kz=3∨kz=4∨kz=5∨6≤kz:=by omega
       · as_aux_lemma =>
          go_upto_region 12 with fail; refine wp_region_list ?_; refine xaL (.bool true) (eqlI .i64 _ _ _ _ _ _ rfl rfl rfl true (beq_iff_eq.2 (by omega)) _) ?_; refine xpL (.bool true) ?_; refine xT ?_; have hm:=pmay_out (t:=t) hnot
          have hmn:pmay t v.d≠0:=by rw [hm]; decide
          go_upto_region 15 with fail; refine wp_region_list ?_; refine xpL (.pointer (some ⟨Ra,0,none⟩)) ?_; refine xpL (.pointer (some ⟨B5,1,none⟩)) ?_; refine xaL (.int .i64 v.d) (load1 3 _ ⟨B5,1,none⟩ _ rfl rfl (fun _=>by kernel_rfl) (M.get mS 1 _ rfl)) ?_; refine xpL (.pointer (some ⟨B5,3,none⟩)) ?_
          refine xaL (.agg #[.int .u8 (v.t 0),.int .u8 (v.t 1),.int .u8 (v.t 2),.int .u8 (v.t 3),.int .u8 (v.t 4),.int .u8 (v.t 5),.int .u8 (v.t 6),.int .u8 (v.t 7)]) (loadN 30 _ ⟨B5,3,none⟩ [.int .u8 (v.t 0),.int .u8 (v.t 1),.int .u8 (v.t 2),.int .u8 (v.t 3),.int .u8 (v.t 4),.int .u8 (v.t 5),.int .u8 (v.t 6),.int .u8 (v.t 7)] rfl rfl (fun _=>by kernel_rfl) (fun _=>by kernel_rfl) (M.part mS 3 _ rfl)) ?_
          refine xpL (.pointer (some ⟨B5,2,none⟩)) ?_; refine xaL (.int .i64 v.n) (load1 3 _ ⟨B5,2,none⟩ _ rfl rfl (fun _=>by kernel_rfl) (M.get mS 2 _ rfl)) ?_
          have Mp:=M.perm (pull0 ([(B5,[.int .i64 v.k,.int .i64 v.d,.int .i64 v.n,.int .u8 (v.t 0),.int .u8 (v.t 1),.int .u8 (v.t 2),.int .u8 (v.t 3),.int .u8 (v.t 4),.int .u8 (v.t 5),.int .u8 (v.t 6),.int .u8 (v.t 7)]),(B3,brw 256 u)]:List (Nat × List Value)) ga ([]:List (Nat × List Value))); have key:=hK.add w0 _ _ t ga _ v.d v.t v.n hW hov.d_i hov.t_i hov.n_i hIa Mp
          rw [hm] at key
          rw [padd_no hmn _ _] at key
          rw [tok8_v] at key
          refine xcL key ?_; clear key; rintro e w34 ⟨ba1,rfl,hI_,M',o1⟩; clear o1 Mp M hIa; have hIa:=hI_; clear hI_
          have M:Mm w0 ((B5,[.int .i64 v.k,.int .i64 v.d,.int .i64 v.n,.int .u8 (v.t 0),.int .u8 (v.t 1),.int .u8 (v.t 2),.int .u8 (v.t 3),.int .u8 (v.t 4),.int .u8 (v.t 5),.int .u8 (v.t 6),.int .u8 (v.t 7)])::(B3,brw 256 u)::(ba1++([]:List (Nat × List Value)))) w34:=M'.perm (pull0 ([(B5,[.int .i64 v.k,.int .i64 v.d,.int .i64 v.n,.int .u8 (v.t 0),.int .u8 (v.t 1),.int .u8 (v.t 2),.int .u8 (v.t 3),.int .u8 (v.t 4),.int .u8 (v.t 5),.int .u8 (v.t 6),.int .u8 (v.t 7)]),(B3,brw 256 u)]:List (Nat × List Value)) ba1 ([]:List (Nat × List Value))).symm
          clear M'; refine xeL ?_; refine xpL (.int .i64 ((1:Nat):Int)) ?_; refine xT ?_; go_upto_region 16 with fail; refine wp_region_list ?_; refine xpL (.pointer (some ⟨B5,0,none⟩)) ?_; refine xaL (.int .i64 v.k) (load1 3 _ ⟨B5,0,none⟩ _ rfl rfl (fun _=>by kernel_rfl) (M.get mS 0 _ rfl)) ?_; have key:=kind20_any v.k 8 (by decide) hov.k_i w34; refine xcL key ?_; clear key
          rintro e w35 ⟨rfl,l_⟩; replace M:=M.call l_; replace hIa:=hK.bel hIa l_; clear l_; refine xeL ?_
          rw [hkz]
          refine xaL (.bool true) (eqlI .i64 _ _ _ _ _ _ rfl rfl rfl true (beq_iff_eq.2 (by omega)) _) ?_; refine xpL (.bool true) ?_; refine xpL (.int .i64 ((1:Nat):Int)) ?_; refine xaL (.bool true) (neqI .i64 _ _ _ _ _ _ rfl rfl rfl true (bne_iff_ne.2 (by omega)) _) ?_; refine xpL (.bool true) ?_; refine xT ?_; go_upto_region 17 with fail; refine wp_region_list ?_
          refine xpL (.pointer (some ⟨Ra,0,none⟩)) ?_; refine xpL (.pointer (some ⟨B5,1,none⟩)) ?_; refine xaL (.int .i64 v.d) (load1 3 _ ⟨B5,1,none⟩ _ rfl rfl (fun _=>by kernel_rfl) (M.get mS 1 _ rfl)) ?_
          have Mp:=M.perm (pull0 ([(B5,[.int .i64 v.k,.int .i64 v.d,.int .i64 v.n,.int .u8 (v.t 0),.int .u8 (v.t 1),.int .u8 (v.t 2),.int .u8 (v.t 3),.int .u8 (v.t 4),.int .u8 (v.t 5),.int .u8 (v.t 6),.int .u8 (v.t 7)]),(B3,brw 256 u)]:List (Nat × List Value)) ba1 ([]:List (Nat × List Value))); have key:=hK.beg w0 _ _ t ba1 _ v.d hW hov.d_i hIa Mp
          rw [hm] at key
          rw [pbeg_no hmn] at key
          refine xcL key ?_; clear key; rintro e w36 ⟨ba2,rfl,hI_,M',o1⟩; clear o1 Mp M hIa; have hIa:=hI_; clear hI_
          have M:Mm w0 ((B5,[.int .i64 v.k,.int .i64 v.d,.int .i64 v.n,.int .u8 (v.t 0),.int .u8 (v.t 1),.int .u8 (v.t 2),.int .u8 (v.t 3),.int .u8 (v.t 4),.int .u8 (v.t 5),.int .u8 (v.t 6),.int .u8 (v.t 7)])::(B3,brw 256 u)::(ba2++([]:List (Nat × List Value)))) w36:=M'.perm (pull0 ([(B5,[.int .i64 v.k,.int .i64 v.d,.int .i64 v.n,.int .u8 (v.t 0),.int .u8 (v.t 1),.int .u8 (v.t 2),.int .u8 (v.t 3),.int .u8 (v.t 4),.int .u8 (v.t 5),.int .u8 (v.t 6),.int .u8 (v.t 7)]),(B3,brw 256 u)]:List (Nat × List Value)) ba2 ([]:List (Nat × List Value))).symm
          clear M'; refine xeL ?_; refine xpL (.int .i64 ((1:Nat):Int)) ?_; refine xT ?_; go_upto_region 18 with fail; refine wp_region_list ?_; refine xpL (.int .i64 ((1:Nat):Int)) ?_; refine xaL (.bool false) (eqlI .i64 _ _ _ _ _ _ rfl rfl rfl false (beq_eq_false_iff_ne.2 (by omega)) _) ?_; refine xpL (.bool false) ?_
          with_reducible refine skipL ?_ ?_
          · rfl
          simp only [aP,lI,l0,lS]
          with_reducible refine skipL ?_ ?_
          · rfl
          simp only [aP,lI,l0,lS]
          with_reducible refine skipL ?_ ?_
          · rfl
          simp only [aP,lI,l0,lS]
          with_reducible refine skipL ?_ ?_
          · rfl
          simp only [aP,lI,l0,lS]
          with_reducible refine skipL ?_ ?_
          · rfl
          simp only [aP,lI,l0,lS]
          with_reducible refine skipL ?_ ?_
          · rfl
          simp only [aP,lI,l0,lS]
          with_reducible refine skipL ?_ ?_
          · rfl
          simp only [aP,lI,l0,lS]
          with_reducible refine skipL ?_ ?_
          · rfl
          simp only [aP,lI,l0,lS]; refine xpL (.bool false) ?_; refine xpL (.bool false) ?_; refine xpL (.bool false) ?_; refine xpL (.bool false) ?_
          with_reducible refine skipL ?_ ?_
          · rfl
          simp only [aP,lI,l0,lS]
          with_reducible refine skipL ?_ ?_
          · rfl
          simp only [aP,lI,l0,lS]
          with_reducible refine skipL ?_ ?_
          · rfl
          simp only [aP,lI,l0,lS]
          with_reducible refine skipL ?_ ?_
          · rfl
          simp only [aP,lI,l0,lS]; refine xpL (.bool false) ?_; refine xpL (.bool false) ?_
          with_reducible refine skipL ?_ ?_
          · rfl
          simp only [aP,lI,l0,lS]
          with_reducible refine skipL ?_ ?_
          · rfl
          simp only [aP,lI,l0,lS]; refine xpL (.bool false) ?_; refine xpL (.bool false) ?_; refine xT ?_; go_upto_region 20 with fail; refine wp_region_list ?_; refine xpL (.int .i64 ((1:Nat):Int)) ?_; refine xaL (.bool false) (eqlI .i64 _ _ _ _ _ _ rfl rfl rfl false (beq_eq_false_iff_ne.2 (by omega)) _) ?_; refine xT ?_
          have HS:=show Hid _ from (show PtbW t∧Usd t u∧I w36 (.pointer (some ⟨Ra,0,none⟩)) t ba2∧Mm w0 ((B3,brw 256 u)::(ba2++([]:List (Nat × List Value)))) w36 from ⟨hW,hU,hIa,M.tail⟩); clear M hIa; go_wp2
          go_meet
          exact ⟨rfl,t,u,_,HS.out⟩
       · as_aux_lemma =>
          go_upto_region 12 with fail; refine wp_region_list ?_; refine xaL (.bool false) (eqlI .i64 _ _ _ _ _ _ rfl rfl rfl false (beq_eq_false_iff_ne.2 (by omega)) _) ?_; refine xpL (.bool false) ?_; refine xT ?_; go_upto_region 13 with fail; refine wp_region_list ?_; refine xaL (.bool true) (eqlI .i64 _ _ _ _ _ _ rfl rfl rfl true (beq_iff_eq.2 (by omega)) _) ?_; refine xpL (.bool true) ?_
          refine xT ?_; have hm:=pmay_out (t:=t) hnot
          have hmn:pmay t v.d≠0:=by rw [hm]; decide
          go_upto_region 15 with fail; refine wp_region_list ?_; refine xpL (.pointer (some ⟨Ra,0,none⟩)) ?_; refine xpL (.pointer (some ⟨B5,1,none⟩)) ?_; refine xaL (.int .i64 v.d) (load1 3 _ ⟨B5,1,none⟩ _ rfl rfl (fun _=>by kernel_rfl) (M.get mS 1 _ rfl)) ?_; refine xpL (.pointer (some ⟨B5,3,none⟩)) ?_
          refine xaL (.agg #[.int .u8 (v.t 0),.int .u8 (v.t 1),.int .u8 (v.t 2),.int .u8 (v.t 3),.int .u8 (v.t 4),.int .u8 (v.t 5),.int .u8 (v.t 6),.int .u8 (v.t 7)]) (loadN 30 _ ⟨B5,3,none⟩ [.int .u8 (v.t 0),.int .u8 (v.t 1),.int .u8 (v.t 2),.int .u8 (v.t 3),.int .u8 (v.t 4),.int .u8 (v.t 5),.int .u8 (v.t 6),.int .u8 (v.t 7)] rfl rfl (fun _=>by kernel_rfl) (fun _=>by kernel_rfl) (M.part mS 3 _ rfl)) ?_
          refine xpL (.pointer (some ⟨B5,2,none⟩)) ?_; refine xaL (.int .i64 v.n) (load1 3 _ ⟨B5,2,none⟩ _ rfl rfl (fun _=>by kernel_rfl) (M.get mS 2 _ rfl)) ?_
          have Mp:=M.perm (pull0 ([(B5,[.int .i64 v.k,.int .i64 v.d,.int .i64 v.n,.int .u8 (v.t 0),.int .u8 (v.t 1),.int .u8 (v.t 2),.int .u8 (v.t 3),.int .u8 (v.t 4),.int .u8 (v.t 5),.int .u8 (v.t 6),.int .u8 (v.t 7)]),(B3,brw 256 u)]:List (Nat × List Value)) ga ([]:List (Nat × List Value))); have key:=hK.add w0 _ _ t ga _ v.d v.t v.n hW hov.d_i hov.t_i hov.n_i hIa Mp
          rw [hm] at key
          rw [padd_no hmn _ _] at key
          rw [tok8_v] at key
          refine xcL key ?_; clear key; rintro e w37 ⟨ba1,rfl,hI_,M',o1⟩; clear o1 Mp M hIa; have hIa:=hI_; clear hI_
          have M:Mm w0 ((B5,[.int .i64 v.k,.int .i64 v.d,.int .i64 v.n,.int .u8 (v.t 0),.int .u8 (v.t 1),.int .u8 (v.t 2),.int .u8 (v.t 3),.int .u8 (v.t 4),.int .u8 (v.t 5),.int .u8 (v.t 6),.int .u8 (v.t 7)])::(B3,brw 256 u)::(ba1++([]:List (Nat × List Value)))) w37:=M'.perm (pull0 ([(B5,[.int .i64 v.k,.int .i64 v.d,.int .i64 v.n,.int .u8 (v.t 0),.int .u8 (v.t 1),.int .u8 (v.t 2),.int .u8 (v.t 3),.int .u8 (v.t 4),.int .u8 (v.t 5),.int .u8 (v.t 6),.int .u8 (v.t 7)]),(B3,brw 256 u)]:List (Nat × List Value)) ba1 ([]:List (Nat × List Value))).symm
          clear M'; refine xeL ?_; refine xpL (.int .i64 ((1:Nat):Int)) ?_; refine xT ?_; go_upto_region 16 with fail; refine wp_region_list ?_; refine xpL (.pointer (some ⟨B5,0,none⟩)) ?_; refine xaL (.int .i64 v.k) (load1 3 _ ⟨B5,0,none⟩ _ rfl rfl (fun _=>by kernel_rfl) (M.get mS 0 _ rfl)) ?_; have key:=kind20_any v.k 8 (by decide) hov.k_i w37; refine xcL key ?_; clear key
          rintro e w38 ⟨rfl,l_⟩; replace M:=M.call l_; replace hIa:=hK.bel hIa l_; clear l_; refine xeL ?_
          rw [hkz]
          refine xaL (.bool false) (eqlI .i64 _ _ _ _ _ _ rfl rfl rfl false (beq_eq_false_iff_ne.2 (by omega)) _) ?_; refine xpL (.bool false) ?_
          with_reducible refine skipL ?_ ?_
          · rfl
          simp only [aP,lI,l0,lS]
          with_reducible refine skipL ?_ ?_
          · rfl
          simp only [aP,lI,l0,lS]; refine xpL (.bool false) ?_; refine xT ?_; go_upto_region 18 with fail; refine wp_region_list ?_; refine xpL (.int .i64 ((1:Nat):Int)) ?_; refine xaL (.bool false) (eqlI .i64 _ _ _ _ _ _ rfl rfl rfl false (beq_eq_false_iff_ne.2 (by omega)) _) ?_; refine xpL (.bool false) ?_
          with_reducible refine skipL ?_ ?_
          · rfl
          simp only [aP,lI,l0,lS]
          with_reducible refine skipL ?_ ?_
          · rfl
          simp only [aP,lI,l0,lS]
          with_reducible refine skipL ?_ ?_
          · rfl
          simp only [aP,lI,l0,lS]
          with_reducible refine skipL ?_ ?_
          · rfl
          simp only [aP,lI,l0,lS]
          with_reducible refine skipL ?_ ?_
          · rfl
          simp only [aP,lI,l0,lS]
          with_reducible refine skipL ?_ ?_
          · rfl
          simp only [aP,lI,l0,lS]
          with_reducible refine skipL ?_ ?_
          · rfl
          simp only [aP,lI,l0,lS]
          with_reducible refine skipL ?_ ?_
          · rfl
          simp only [aP,lI,l0,lS]; refine xpL (.bool false) ?_; refine xpL (.bool false) ?_; refine xpL (.bool false) ?_; refine xpL (.bool false) ?_
          with_reducible refine skipL ?_ ?_
          · rfl
          simp only [aP,lI,l0,lS]
          with_reducible refine skipL ?_ ?_
          · rfl
          simp only [aP,lI,l0,lS]
          with_reducible refine skipL ?_ ?_
          · rfl
          simp only [aP,lI,l0,lS]
          with_reducible refine skipL ?_ ?_
          · rfl
          simp only [aP,lI,l0,lS]; refine xpL (.bool false) ?_; refine xpL (.bool false) ?_
          with_reducible refine skipL ?_ ?_
          · rfl
          simp only [aP,lI,l0,lS]
          with_reducible refine skipL ?_ ?_
          · rfl
          simp only [aP,lI,l0,lS]; refine xpL (.bool false) ?_; refine xpL (.bool false) ?_; refine xT ?_; go_upto_region 20 with fail; refine wp_region_list ?_; refine xpL (.int .i64 ((1:Nat):Int)) ?_; refine xaL (.bool false) (eqlI .i64 _ _ _ _ _ _ rfl rfl rfl false (beq_eq_false_iff_ne.2 (by omega)) _) ?_; refine xT ?_
          have HS:=show Hid _ from (show PtbW t∧Usd t u∧I w38 (.pointer (some ⟨Ra,0,none⟩)) t ba1∧Mm w0 ((B3,brw 256 u)::(ba1++([]:List (Nat × List Value)))) w38 from ⟨hW,hU,hIa,M.tail⟩); clear M hIa; go_wp2
          go_meet
          exact ⟨rfl,t,u,_,HS.out⟩
       · as_aux_lemma =>
          go_upto_region 12 with fail; refine wp_region_list ?_; refine xaL (.bool false) (eqlI .i64 _ _ _ _ _ _ rfl rfl rfl false (beq_eq_false_iff_ne.2 (by omega)) _) ?_; refine xpL (.bool false) ?_; refine xT ?_; go_upto_region 13 with fail; refine wp_region_list ?_; refine xaL (.bool false) (eqlI .i64 _ _ _ _ _ _ rfl rfl rfl false (beq_eq_false_iff_ne.2 (by omega)) _) ?_
          refine xpL (.bool false) ?_; refine xT ?_; go_upto_region 14 with fail; refine wp_region_list ?_; refine xaL (.bool true) (eqlI .i64 _ _ _ _ _ _ rfl rfl rfl true (beq_iff_eq.2 (by omega)) _) ?_; refine xpL (.bool true) ?_; refine xT ?_; have hm:=pmay_out (t:=t) hnot
          have hmn:pmay t v.d≠0:=by rw [hm]; decide
          go_upto_region 15 with fail; refine wp_region_list ?_; refine xpL (.pointer (some ⟨Ra,0,none⟩)) ?_; refine xpL (.pointer (some ⟨B5,1,none⟩)) ?_; refine xaL (.int .i64 v.d) (load1 3 _ ⟨B5,1,none⟩ _ rfl rfl (fun _=>by kernel_rfl) (M.get mS 1 _ rfl)) ?_; refine xpL (.pointer (some ⟨B5,3,none⟩)) ?_
          refine xaL (.agg #[.int .u8 (v.t 0),.int .u8 (v.t 1),.int .u8 (v.t 2),.int .u8 (v.t 3),.int .u8 (v.t 4),.int .u8 (v.t 5),.int .u8 (v.t 6),.int .u8 (v.t 7)]) (loadN 30 _ ⟨B5,3,none⟩ [.int .u8 (v.t 0),.int .u8 (v.t 1),.int .u8 (v.t 2),.int .u8 (v.t 3),.int .u8 (v.t 4),.int .u8 (v.t 5),.int .u8 (v.t 6),.int .u8 (v.t 7)] rfl rfl (fun _=>by kernel_rfl) (fun _=>by kernel_rfl) (M.part mS 3 _ rfl)) ?_
          refine xpL (.pointer (some ⟨B5,2,none⟩)) ?_; refine xaL (.int .i64 v.n) (load1 3 _ ⟨B5,2,none⟩ _ rfl rfl (fun _=>by kernel_rfl) (M.get mS 2 _ rfl)) ?_
          have Mp:=M.perm (pull0 ([(B5,[.int .i64 v.k,.int .i64 v.d,.int .i64 v.n,.int .u8 (v.t 0),.int .u8 (v.t 1),.int .u8 (v.t 2),.int .u8 (v.t 3),.int .u8 (v.t 4),.int .u8 (v.t 5),.int .u8 (v.t 6),.int .u8 (v.t 7)]),(B3,brw 256 u)]:List (Nat × List Value)) ga ([]:List (Nat × List Value))); have key:=hK.add w0 _ _ t ga _ v.d v.t v.n hW hov.d_i hov.t_i hov.n_i hIa Mp
          rw [hm] at key
          rw [padd_no hmn _ _] at key
          rw [tok8_v] at key
          refine xcL key ?_; clear key; rintro e w39 ⟨ba1,rfl,hI_,M',o1⟩; clear o1 Mp M hIa; have hIa:=hI_; clear hI_
          have M:Mm w0 ((B5,[.int .i64 v.k,.int .i64 v.d,.int .i64 v.n,.int .u8 (v.t 0),.int .u8 (v.t 1),.int .u8 (v.t 2),.int .u8 (v.t 3),.int .u8 (v.t 4),.int .u8 (v.t 5),.int .u8 (v.t 6),.int .u8 (v.t 7)])::(B3,brw 256 u)::(ba1++([]:List (Nat × List Value)))) w39:=M'.perm (pull0 ([(B5,[.int .i64 v.k,.int .i64 v.d,.int .i64 v.n,.int .u8 (v.t 0),.int .u8 (v.t 1),.int .u8 (v.t 2),.int .u8 (v.t 3),.int .u8 (v.t 4),.int .u8 (v.t 5),.int .u8 (v.t 6),.int .u8 (v.t 7)]),(B3,brw 256 u)]:List (Nat × List Value)) ba1 ([]:List (Nat × List Value))).symm
          clear M'; refine xeL ?_; refine xpL (.int .i64 ((1:Nat):Int)) ?_; refine xT ?_; go_upto_region 16 with fail; refine wp_region_list ?_; refine xpL (.pointer (some ⟨B5,0,none⟩)) ?_; refine xaL (.int .i64 v.k) (load1 3 _ ⟨B5,0,none⟩ _ rfl rfl (fun _=>by kernel_rfl) (M.get mS 0 _ rfl)) ?_; have key:=kind20_any v.k 8 (by decide) hov.k_i w39; refine xcL key ?_; clear key
          rintro e w40 ⟨rfl,l_⟩; replace M:=M.call l_; replace hIa:=hK.bel hIa l_; clear l_; refine xeL ?_
          rw [hkz]
          refine xaL (.bool false) (eqlI .i64 _ _ _ _ _ _ rfl rfl rfl false (beq_eq_false_iff_ne.2 (by omega)) _) ?_; refine xpL (.bool false) ?_
          with_reducible refine skipL ?_ ?_
          · rfl
          simp only [aP,lI,l0,lS]
          with_reducible refine skipL ?_ ?_
          · rfl
          simp only [aP,lI,l0,lS]; refine xpL (.bool false) ?_; refine xT ?_; go_upto_region 18 with fail; refine wp_region_list ?_; refine xpL (.int .i64 ((1:Nat):Int)) ?_; refine xaL (.bool false) (eqlI .i64 _ _ _ _ _ _ rfl rfl rfl false (beq_eq_false_iff_ne.2 (by omega)) _) ?_; refine xpL (.bool false) ?_
          with_reducible refine skipL ?_ ?_
          · rfl
          simp only [aP,lI,l0,lS]
          with_reducible refine skipL ?_ ?_
          · rfl
          simp only [aP,lI,l0,lS]
          with_reducible refine skipL ?_ ?_
          · rfl
          simp only [aP,lI,l0,lS]
          with_reducible refine skipL ?_ ?_
          · rfl
          simp only [aP,lI,l0,lS]
          with_reducible refine skipL ?_ ?_
          · rfl
          simp only [aP,lI,l0,lS]
          with_reducible refine skipL ?_ ?_
          · rfl
          simp only [aP,lI,l0,lS]
          with_reducible refine skipL ?_ ?_
          · rfl
          simp only [aP,lI,l0,lS]
          with_reducible refine skipL ?_ ?_
          · rfl
          simp only [aP,lI,l0,lS]; refine xpL (.bool false) ?_; refine xpL (.bool false) ?_; refine xpL (.bool false) ?_; refine xpL (.bool false) ?_
          with_reducible refine skipL ?_ ?_
          · rfl
          simp only [aP,lI,l0,lS]
          with_reducible refine skipL ?_ ?_
          · rfl
          simp only [aP,lI,l0,lS]
          with_reducible refine skipL ?_ ?_
          · rfl
          simp only [aP,lI,l0,lS]
          with_reducible refine skipL ?_ ?_
          · rfl
          simp only [aP,lI,l0,lS]; refine xpL (.bool false) ?_; refine xpL (.bool false) ?_
          with_reducible refine skipL ?_ ?_
          · rfl
          simp only [aP,lI,l0,lS]
          with_reducible refine skipL ?_ ?_
          · rfl
          simp only [aP,lI,l0,lS]; refine xpL (.bool false) ?_; refine xpL (.bool false) ?_; refine xT ?_; go_upto_region 20 with fail; refine wp_region_list ?_; refine xpL (.int .i64 ((1:Nat):Int)) ?_; refine xaL (.bool false) (eqlI .i64 _ _ _ _ _ _ rfl rfl rfl false (beq_eq_false_iff_ne.2 (by omega)) _) ?_; refine xT ?_
          have HS:=show Hid _ from (show PtbW t∧Usd t u∧I w40 (.pointer (some ⟨Ra,0,none⟩)) t ba1∧Mm w0 ((B3,brw 256 u)::(ba1++([]:List (Nat × List Value)))) w40 from ⟨hW,hU,hIa,M.tail⟩); clear M hIa; go_wp2
          go_meet
          exact ⟨rfl,t,u,_,HS.out⟩
       · as_aux_lemma =>
          go_upto_region 12 with fail; refine wp_region_list ?_; refine xaL (.bool false) (eqlI .i64 _ _ _ _ _ _ rfl rfl rfl false (beq_eq_false_iff_ne.2 (by omega)) _) ?_; refine xpL (.bool false) ?_; refine xT ?_; go_upto_region 13 with fail; refine wp_region_list ?_; refine xaL (.bool false) (eqlI .i64 _ _ _ _ _ _ rfl rfl rfl false (beq_eq_false_iff_ne.2 (by omega)) _) ?_
          refine xpL (.bool false) ?_; refine xT ?_; go_upto_region 14 with fail; refine wp_region_list ?_; refine xaL (.bool false) (eqlI .i64 _ _ _ _ _ _ rfl rfl rfl false (beq_eq_false_iff_ne.2 (by omega)) _) ?_; refine xpL (.bool false) ?_; refine xT ?_; go_upto_region 22 with fail; refine wp_region_list ?_
          refine xaL (.bool true) (eqlI .i64 _ _ _ _ _ _ rfl rfl rfl true (beq_iff_eq.2 (by omega)) _) ?_; refine xpL (.bool true) ?_; refine xT ?_; go_upto_region 23 with fail; refine wp_region_list ?_; refine xpL (.pointer (some ⟨Ra,0,none⟩)) ?_; refine xpL (.pointer (some ⟨B5,2,none⟩)) ?_
          refine xaL (.int .i64 v.n) (load1 3 _ ⟨B5,2,none⟩ _ rfl rfl (fun _=>by kernel_rfl) (M.get mS 2 _ rfl)) ?_
          have Mp:=M.perm (pull0 ([(B5,[.int .i64 v.k,.int .i64 v.d,.int .i64 v.n,.int .u8 (v.t 0),.int .u8 (v.t 1),.int .u8 (v.t 2),.int .u8 (v.t 3),.int .u8 (v.t 4),.int .u8 (v.t 5),.int .u8 (v.t 6),.int .u8 (v.t 7)]),(B3,brw 256 u)]:List (Nat × List Value)) ga ([]:List (Nat × List Value))); have key:=hK.due w0 _ _ t ga _ v.n hW hov.n_i hIa Mp; refine xcL key ?_
          clear key; rintro e w41 ⟨p41,c41,ba1,rfl,L_41,hI_,M',o1⟩; clear o1 Mp M hIa; have hIa:=hI_; clear hI_
          have M:Mm w0 ((B5,[.int .i64 v.k,.int .i64 v.d,.int .i64 v.n,.int .u8 (v.t 0),.int .u8 (v.t 1),.int .u8 (v.t 2),.int .u8 (v.t 3),.int .u8 (v.t 4),.int .u8 (v.t 5),.int .u8 (v.t 6),.int .u8 (v.t 7)])::(B3,brw 256 u)::(ba1++((obs p41)++([]:List (Nat × List Value))))) w41:=M'.perm (pullY ([(B5,[.int .i64 v.k,.int .i64 v.d,.int .i64 v.n,.int .u8 (v.t 0),.int .u8 (v.t 1),.int .u8 (v.t 2),.int .u8 (v.t 3),.int .u8 (v.t 4),.int .u8 (v.t 5),.int .u8 (v.t 6),.int .u8 (v.t 7)]),(B3,brw 256 u)]:List (Nat × List Value)) ba1 (obs p41) ([]:List (Nat × List Value)))
          clear M'; refine xeL ?_; refine xT ?_
          replace M:Mm w0 ((B5,[.int .i64 v.k,.int .i64 v.d,.int .i64 v.n,.int .u8 (v.t 0),.int .u8 (v.t 1),.int .u8 (v.t 2),.int .u8 (v.t 3),.int .u8 (v.t 4),.int .u8 (v.t 5),.int .u8 (v.t 6),.int .u8 (v.t 7)])::(B3,brw 256 u)::(ba1++([]:List (Nat × List Value)))) w41:=M.sub _ (List.cons_sublist_cons.2 (List.cons_sublist_cons.2 ((List.Sublist.refl _).append (List.sublist_append_right _ _))))
          clear L_41; have HS:=show Hid _ from (show PtbW (pdt t (pmom v.n))∧Usd (pdt t (pmom v.n)) u∧I w41 (.pointer (some ⟨Ra,0,none⟩)) (pdt t (pmom v.n)) ba1∧Mm w0 ((B3,brw 256 u)::(ba1++([]:List (Nat × List Value)))) w41 from ⟨pdt_w hW (pmom_le _),hU.same (st_due t _),hIa,M.tail⟩); clear M hIa; go_wp2
          go_meet
          exact ⟨rfl,pdt t (pmom v.n),u,_,HS.out⟩
       · as_aux_lemma =>
          go_upto_region 12 with fail; refine wp_region_list ?_; refine xaL (.bool false) (eqlI .i64 _ _ _ _ _ _ rfl rfl rfl false (beq_eq_false_iff_ne.2 (by omega)) _) ?_; refine xpL (.bool false) ?_; refine xT ?_; go_upto_region 13 with fail; refine wp_region_list ?_; refine xaL (.bool false) (eqlI .i64 _ _ _ _ _ _ rfl rfl rfl false (beq_eq_false_iff_ne.2 (by omega)) _) ?_
          refine xpL (.bool false) ?_; refine xT ?_; go_upto_region 14 with fail; refine wp_region_list ?_; refine xaL (.bool false) (eqlI .i64 _ _ _ _ _ _ rfl rfl rfl false (beq_eq_false_iff_ne.2 (by omega)) _) ?_; refine xpL (.bool false) ?_; refine xT ?_; go_upto_region 22 with fail; refine wp_region_list ?_
          refine xaL (.bool false) (eqlI .i64 _ _ _ _ _ _ rfl rfl rfl false (beq_eq_false_iff_ne.2 (by omega)) _) ?_; refine xpL (.bool false) ?_; refine xT ?_; go_upto_region 24 with fail; refine wp_region_list ?_; refine xaL (.bool true) (eqlI .i64 _ _ _ _ _ _ rfl rfl rfl true (beq_iff_eq.2 (by omega)) _) ?_; refine xpL (.bool true) ?_; refine xT ?_; go_upto_region 25 with fail
          refine wp_region_list ?_; refine xpL (.pointer (some ⟨Ra,0,none⟩)) ?_; refine xpL (.pointer (some ⟨B5,1,none⟩)) ?_; refine xaL (.int .i64 v.d) (load1 3 _ ⟨B5,1,none⟩ _ rfl rfl (fun _=>by kernel_rfl) (M.get mS 1 _ rfl)) ?_; refine xpL (.pointer (some ⟨B5,3,none⟩)) ?_
          refine xaL (.agg #[.int .u8 (v.t 0),.int .u8 (v.t 1),.int .u8 (v.t 2),.int .u8 (v.t 3),.int .u8 (v.t 4),.int .u8 (v.t 5),.int .u8 (v.t 6),.int .u8 (v.t 7)]) (loadN 30 _ ⟨B5,3,none⟩ [.int .u8 (v.t 0),.int .u8 (v.t 1),.int .u8 (v.t 2),.int .u8 (v.t 3),.int .u8 (v.t 4),.int .u8 (v.t 5),.int .u8 (v.t 6),.int .u8 (v.t 7)] rfl rfl (fun _=>by kernel_rfl) (fun _=>by kernel_rfl) (M.part mS 3 _ rfl)) ?_
          have Mp:=M.perm (pull0 ([(B5,[.int .i64 v.k,.int .i64 v.d,.int .i64 v.n,.int .u8 (v.t 0),.int .u8 (v.t 1),.int .u8 (v.t 2),.int .u8 (v.t 3),.int .u8 (v.t 4),.int .u8 (v.t 5),.int .u8 (v.t 6),.int .u8 (v.t 7)]),(B3,brw 256 u)]:List (Nat × List Value)) ga ([]:List (Nat × List Value))); have key:=hK.ans w0 _ _ t ga _ v.d v.t hW hov.d_i hov.t_i hIa Mp
          rw [tok8_v] at key
          refine xcL key ?_; clear key; rintro e w42 ⟨ba1,rfl,hI_,M',o1⟩; clear o1 Mp M hIa; have hIa:=hI_; clear hI_
          have M:Mm w0 ((B5,[.int .i64 v.k,.int .i64 v.d,.int .i64 v.n,.int .u8 (v.t 0),.int .u8 (v.t 1),.int .u8 (v.t 2),.int .u8 (v.t 3),.int .u8 (v.t 4),.int .u8 (v.t 5),.int .u8 (v.t 6),.int .u8 (v.t 7)])::(B3,brw 256 u)::(ba1++([]:List (Nat × List Value)))) w42:=M'.perm (pull0 ([(B5,[.int .i64 v.k,.int .i64 v.d,.int .i64 v.n,.int .u8 (v.t 0),.int .u8 (v.t 1),.int .u8 (v.t 2),.int .u8 (v.t 3),.int .u8 (v.t 4),.int .u8 (v.t 5),.int .u8 (v.t 6),.int .u8 (v.t 7)]),(B3,brw 256 u)]:List (Nat × List Value)) ba1 ([]:List (Nat × List Value))).symm
          clear M'; refine xeL ?_; refine xT ?_; have HS:=show Hid _ from (show PtbW (pant t v.d v.t)∧Usd (pant t v.d v.t) u∧I w42 (.pointer (some ⟨Ra,0,none⟩)) (pant t v.d v.t) ba1∧Mm w0 ((B3,brw 256 u)::(ba1++([]:List (Nat × List Value)))) w42 from ⟨pant_w hW _ _,hU.same (st_ans t _ _),hIa,M.tail⟩); clear M hIa; go_wp2
          go_meet
          exact ⟨rfl,pant t v.d v.t,u,_,HS.out⟩
       · as_aux_lemma =>
          go_upto_region 12 with fail; refine wp_region_list ?_; refine xaL (.bool false) (eqlI .i64 _ _ _ _ _ _ rfl rfl rfl false (beq_eq_false_iff_ne.2 (by omega)) _) ?_; refine xpL (.bool false) ?_; refine xT ?_; go_upto_region 13 with fail; refine wp_region_list ?_; refine xaL (.bool false) (eqlI .i64 _ _ _ _ _ _ rfl rfl rfl false (beq_eq_false_iff_ne.2 (by omega)) _) ?_
          refine xpL (.bool false) ?_; refine xT ?_; go_upto_region 14 with fail; refine wp_region_list ?_; refine xaL (.bool false) (eqlI .i64 _ _ _ _ _ _ rfl rfl rfl false (beq_eq_false_iff_ne.2 (by omega)) _) ?_; refine xpL (.bool false) ?_; refine xT ?_; go_upto_region 22 with fail; refine wp_region_list ?_
          refine xaL (.bool false) (eqlI .i64 _ _ _ _ _ _ rfl rfl rfl false (beq_eq_false_iff_ne.2 (by omega)) _) ?_; refine xpL (.bool false) ?_; refine xT ?_; go_upto_region 24 with fail; refine wp_region_list ?_; refine xaL (.bool false) (eqlI .i64 _ _ _ _ _ _ rfl rfl rfl false (beq_eq_false_iff_ne.2 (by omega)) _) ?_; refine xpL (.bool false) ?_; refine xT ?_; go_upto_region 26 with fail
          refine wp_region_list ?_; refine xaL (.bool true) (eqlI .i64 _ _ _ _ _ _ rfl rfl rfl true (beq_iff_eq.2 (by omega)) _) ?_; refine xpL (.bool true) ?_; refine xT ?_; go_upto_region 27 with fail; refine wp_region_list ?_; refine xpL (.pointer (some ⟨Ra,0,none⟩)) ?_; refine xpL (.pointer (some ⟨B5,1,none⟩)) ?_
          refine xaL (.int .i64 v.d) (load1 3 _ ⟨B5,1,none⟩ _ rfl rfl (fun _=>by kernel_rfl) (M.get mS 1 _ rfl)) ?_
          have Mp:=M.perm (pull0 ([(B5,[.int .i64 v.k,.int .i64 v.d,.int .i64 v.n,.int .u8 (v.t 0),.int .u8 (v.t 1),.int .u8 (v.t 2),.int .u8 (v.t 3),.int .u8 (v.t 4),.int .u8 (v.t 5),.int .u8 (v.t 6),.int .u8 (v.t 7)]),(B3,brw 256 u)]:List (Nat × List Value)) ga ([]:List (Nat × List Value))); have key:=hK.rem w0 _ _ t ga _ v.d hW hov.d_i hIa Mp; refine xcL key ?_
          clear key; rintro e w43 ⟨ba1,rfl,hI_,M',o1⟩; clear o1 Mp M hIa; have hIa:=hI_; clear hI_
          have M:Mm w0 ((B5,[.int .i64 v.k,.int .i64 v.d,.int .i64 v.n,.int .u8 (v.t 0),.int .u8 (v.t 1),.int .u8 (v.t 2),.int .u8 (v.t 3),.int .u8 (v.t 4),.int .u8 (v.t 5),.int .u8 (v.t 6),.int .u8 (v.t 7)])::(B3,brw 256 u)::(ba1++([]:List (Nat × List Value)))) w43:=M'.perm (pull0 ([(B5,[.int .i64 v.k,.int .i64 v.d,.int .i64 v.n,.int .u8 (v.t 0),.int .u8 (v.t 1),.int .u8 (v.t 2),.int .u8 (v.t 3),.int .u8 (v.t 4),.int .u8 (v.t 5),.int .u8 (v.t 6),.int .u8 (v.t 7)]),(B3,brw 256 u)]:List (Nat × List Value)) ba1 ([]:List (Nat × List Value))).symm
          clear M'; refine xeL ?_; refine xT ?_; have HS:=show Hid _ from (show PtbW (prm t v.d)∧Usd (prm t v.d) u∧I w43 (.pointer (some ⟨Ra,0,none⟩)) (prm t v.d) ba1∧Mm w0 ((B3,brw 256 u)::(ba1++([]:List (Nat × List Value)))) w43 from ⟨prm_w hW _,hU.same (st_rem t _),hIa,M.tail⟩); clear M hIa; go_wp2
          go_meet
          exact ⟨rfl,prm t v.d,u,_,HS.out⟩
       · as_aux_lemma =>
          go_upto_region 12 with fail; refine wp_region_list ?_; refine xaL (.bool false) (eqlI .i64 _ _ _ _ _ _ rfl rfl rfl false (beq_eq_false_iff_ne.2 (by omega)) _) ?_; refine xpL (.bool false) ?_; refine xT ?_; go_upto_region 13 with fail; refine wp_region_list ?_; refine xaL (.bool false) (eqlI .i64 _ _ _ _ _ _ rfl rfl rfl false (beq_eq_false_iff_ne.2 (by omega)) _) ?_
          refine xpL (.bool false) ?_; refine xT ?_; go_upto_region 14 with fail; refine wp_region_list ?_; refine xaL (.bool false) (eqlI .i64 _ _ _ _ _ _ rfl rfl rfl false (beq_eq_false_iff_ne.2 (by omega)) _) ?_; refine xpL (.bool false) ?_; refine xT ?_; go_upto_region 22 with fail; refine wp_region_list ?_
          refine xaL (.bool false) (eqlI .i64 _ _ _ _ _ _ rfl rfl rfl false (beq_eq_false_iff_ne.2 (by omega)) _) ?_; refine xpL (.bool false) ?_; refine xT ?_; go_upto_region 24 with fail; refine wp_region_list ?_; refine xaL (.bool false) (eqlI .i64 _ _ _ _ _ _ rfl rfl rfl false (beq_eq_false_iff_ne.2 (by omega)) _) ?_; refine xpL (.bool false) ?_; refine xT ?_; go_upto_region 26 with fail
          refine wp_region_list ?_; refine xaL (.bool false) (eqlI .i64 _ _ _ _ _ _ rfl rfl rfl false (beq_eq_false_iff_ne.2 (by omega)) _) ?_; refine xpL (.bool false) ?_; refine xT ?_; have HS:=show Hid _ from (show PtbW t∧Usd t u∧I w7 (.pointer (some ⟨Ra,0,none⟩)) t ga∧Mm w0 ((B3,brw 256 u)::(ga++([]:List (Nat × List Value)))) w7 from ⟨hW,hU,hIa,M.tail⟩); clear M hIa
          go_wp2
          go_meet
          exact ⟨rfl,t,u,_,HS.out⟩
    case rest =>
     as_aux_lemma =>
      clear hW hU hIa M; clear t u ga
      obtain ⟨rfl,t,u,ga,hW,hU,hIa,M⟩:=hcut
      go_upto_region 28 with fail; refine wp_region_list ?_; refine xpL (.int .i64 0) ?_; refine xT ?_; go_upto_region 29 with fail; refine wp_region_list ?_; refine xpL (.int .i64 0) ?_; refine xT ?_; have HI:=show Hid _ from (show I wc (.pointer (some ⟨Ra,0,none⟩)) t ga∧Mm w0 ((B3,brw 256 u)::(ga++([]:List (Nat × List Value)))) wc from ⟨hIa,M⟩); clear M hIa; go_wp2
      go_loopw [10,11] (fun n_ i w'=>∃ j:Nat,j≤256∧n_=.int .i64 ((pnum (pup t) j:Nat):Int)∧i=.int .i64 (j:Int)∧I w' (.pointer (some ⟨Ra,0,none⟩)) t ga∧Mm w0 ((B3,brw 256 u)::(ga++([]:List (Nat × List Value)))) w') (fun _ i _=>256-(intOf i).toNat)
      case atStart=>exact ⟨0,by omega,rfl,rfl,HI.out⟩
      case round =>
       clear HI
       obtain ⟨j,hj,rfl,rfl,hIa,M⟩:=hrel
       have hpl:=pnum_le (pup t) j
       by_cases hj2:j<256
       · have hi256:j<256:=hj2
         go_upto_region 30 with fail; refine wp_region_list ?_; refine xpL (.int .i64 ((j:Nat):Int)) ?_; refine xaL (.bool true) (lssI .i64 _ _ _ _ _ _ rfl rfl rfl true (decide_eq_true (by omega)) _) ?_; refine xT ?_; go_upto_region 32 with fail; refine wp_region_list ?_; refine xpL (.pointer (some ⟨Ra,0,none⟩)) ?_; refine xpL (.int .i64 ((j:Nat):Int)) ?_
         have Mp:=M.perm (pull0 ([(B3,brw 256 u)]:List (Nat × List Value)) ga ([]:List (Nat × List Value))); have key:=hK.sta w0 _ _ t ga _ ((j:Nat):Int) hW (by unfold i64; omega) hIa Mp; clear Mp
         rw [pst_nat hi256] at key
         refine xcL key ?_; clear key; rintro e w44 ⟨rfl,l_⟩; replace M:=M.call l_; replace hIa:=hK.bel hIa l_; clear l_; refine xeL ?_; refine xpL (.int .i64 (((t j).st:Nat):Int)) ?_; refine xT ?_
         obtain hc | hc | hc | hc:(t j).st=1∨(t j).st=2∨(t j).st=0∨((t j).st≠0∧(t j).st≠1∧(t j).st≠2):=by omega
         · have hup:pnum (pup t) (j+1)=pnum (pup t) j+1:=by
            show pnum (pup t) j+(if pup t j=true then 1 else 0)=_
            unfold pup
            rw [decide_eq_true (by omega)]
            rfl
           go_upto_region 33 with fail; refine wp_region_list ?_; refine xpL (.int .i64 (((t j).st:Nat):Int)) ?_; refine xaL (.bool true) (eqlI .i64 _ _ _ _ _ _ rfl rfl rfl true (beq_iff_eq.2 (by omega)) _) ?_; refine xpL (.bool true) ?_
           with_reducible refine skipL ?_ ?_
           · rfl
           simp only [aP,lI,l0,lS]
           with_reducible refine skipL ?_ ?_
           · rfl
           simp only [aP,lI,l0,lS]; refine xpL (.bool true) ?_; refine xT ?_; go_upto_region 34 with fail; refine wp_region_list ?_; refine xpL (.int .i64 ((pnum (pup t) j:Nat):Int)) ?_; refine readL (.int .i64 ((pnum (pup t) j+1:Nat):Int)) rfl (addI .i64 _ _ _ _ _ _ _ rfl rfl rfl (by rw [xw6]; omega) _) ?_; simp only [aP,lI,l0,lS]
           refine xpL (.int .i64 ((pnum (pup t) j+1:Nat):Int)) ?_; refine xT ?_; go_upto_region 35 with fail; refine wp_region_list ?_; refine xpL (.int .i64 (((t j).st:Nat):Int)) ?_; refine xaL (.bool true) (neqI .i64 _ _ _ _ _ _ rfl rfl rfl true (bne_iff_ne.2 (by omega)) _) ?_; refine xpL (.int .i64 ((j:Nat):Int)) ?_
           refine xaL (.pointer (some ⟨B3,j,none⟩)) (idxBE B3 j _ rfl hi256 _ _ rfl rfl rfl _) ?_
           refine xaL (.bool true) (load1 4 _ ⟨B3,j,none⟩ _ rfl rfl (fun _=>by kernel_rfl) ((by rw [M.get mS j _ (brw_get u hi256)]; exact congrArg (fun b_=>some (Value.bool b_)) ((hU j).trans (decide_eq_true (by omega)))))) ?_
           refine xaL (.bool false) (neqBo _ _ _ _ _ _ rfl rfl rfl (by kernel_rfl) false (by rfl) _) ?_; refine xT ?_; have HS:=show Hid _ from (show I w44 (.pointer (some ⟨Ra,0,none⟩)) t ga∧Mm w0 ((B3,brw 256 u)::(ga++([]:List (Nat × List Value)))) w44 from ⟨hIa,M⟩); clear M hIa; go_wp2
           go_roundw
           case rel=>exact ⟨j+1,by omega,by rw [hup],by go_num,HS.out⟩
           case measure=>simp [intOf]; omega
         · have hup:pnum (pup t) (j+1)=pnum (pup t) j+1:=by
            show pnum (pup t) j+(if pup t j=true then 1 else 0)=_
            unfold pup
            rw [decide_eq_true (by omega)]
            rfl
           go_upto_region 33 with fail; refine wp_region_list ?_; refine xpL (.int .i64 (((t j).st:Nat):Int)) ?_; refine xaL (.bool false) (eqlI .i64 _ _ _ _ _ _ rfl rfl rfl false (beq_eq_false_iff_ne.2 (by omega)) _) ?_; refine xpL (.bool false) ?_; refine xpL (.int .i64 (((t j).st:Nat):Int)) ?_
           refine xaL (.bool true) (eqlI .i64 _ _ _ _ _ _ rfl rfl rfl true (beq_iff_eq.2 (by omega)) _) ?_; refine xpL (.bool true) ?_; refine xT ?_; go_upto_region 34 with fail; refine wp_region_list ?_; refine xpL (.int .i64 ((pnum (pup t) j:Nat):Int)) ?_; refine readL (.int .i64 ((pnum (pup t) j+1:Nat):Int)) rfl (addI .i64 _ _ _ _ _ _ _ rfl rfl rfl (by rw [xw6]; omega) _) ?_
           simp only [aP,lI,l0,lS]; refine xpL (.int .i64 ((pnum (pup t) j+1:Nat):Int)) ?_; refine xT ?_; go_upto_region 35 with fail; refine wp_region_list ?_; refine xpL (.int .i64 (((t j).st:Nat):Int)) ?_; refine xaL (.bool true) (neqI .i64 _ _ _ _ _ _ rfl rfl rfl true (bne_iff_ne.2 (by omega)) _) ?_; refine xpL (.int .i64 ((j:Nat):Int)) ?_
           refine xaL (.pointer (some ⟨B3,j,none⟩)) (idxBE B3 j _ rfl hi256 _ _ rfl rfl rfl _) ?_
           refine xaL (.bool true) (load1 4 _ ⟨B3,j,none⟩ _ rfl rfl (fun _=>by kernel_rfl) ((by rw [M.get mS j _ (brw_get u hi256)]; exact congrArg (fun b_=>some (Value.bool b_)) ((hU j).trans (decide_eq_true (by omega)))))) ?_
           refine xaL (.bool false) (neqBo _ _ _ _ _ _ rfl rfl rfl (by kernel_rfl) false (by rfl) _) ?_; refine xT ?_; have HS:=show Hid _ from (show I w44 (.pointer (some ⟨Ra,0,none⟩)) t ga∧Mm w0 ((B3,brw 256 u)::(ga++([]:List (Nat × List Value)))) w44 from ⟨hIa,M⟩); clear M hIa; go_wp2
           go_roundw
           case rel=>exact ⟨j+1,by omega,by rw [hup],by go_num,HS.out⟩
           case measure=>simp [intOf]; omega
         · have hup:pnum (pup t) (j+1)=pnum (pup t) j:=by
            show pnum (pup t) j+(if pup t j=true then 1 else 0)=_
            unfold pup
            rw [decide_eq_false (by omega)]
            rfl
           go_upto_region 33 with fail; refine wp_region_list ?_; refine xpL (.int .i64 (((t j).st:Nat):Int)) ?_; refine xaL (.bool false) (eqlI .i64 _ _ _ _ _ _ rfl rfl rfl false (beq_eq_false_iff_ne.2 (by omega)) _) ?_; refine xpL (.bool false) ?_; refine xpL (.int .i64 (((t j).st:Nat):Int)) ?_
           refine xaL (.bool false) (eqlI .i64 _ _ _ _ _ _ rfl rfl rfl false (beq_eq_false_iff_ne.2 (by omega)) _) ?_; refine xpL (.bool false) ?_; refine xT ?_; go_upto_region 35 with fail; refine wp_region_list ?_; refine xpL (.int .i64 (((t j).st:Nat):Int)) ?_; refine xaL (.bool false) (neqI .i64 _ _ _ _ _ _ rfl rfl rfl false (by rw [bne_eq_false_iff_eq]; omega) _) ?_
           refine xpL (.int .i64 ((j:Nat):Int)) ?_; refine xaL (.pointer (some ⟨B3,j,none⟩)) (idxBE B3 j _ rfl hi256 _ _ rfl rfl rfl _) ?_
           refine xaL (.bool false) (load1 4 _ ⟨B3,j,none⟩ _ rfl rfl (fun _=>by kernel_rfl) ((by rw [M.get mS j _ (brw_get u hi256)]; exact congrArg (fun b_=>some (Value.bool b_)) ((hU j).trans (decide_eq_false (by omega)))))) ?_
           refine xaL (.bool false) (neqBo _ _ _ _ _ _ rfl rfl rfl (by kernel_rfl) false (by rfl) _) ?_; refine xT ?_; have HS:=show Hid _ from (show I w44 (.pointer (some ⟨Ra,0,none⟩)) t ga∧Mm w0 ((B3,brw 256 u)::(ga++([]:List (Nat × List Value)))) w44 from ⟨hIa,M⟩); clear M hIa; go_wp2
           go_roundw
           case rel=>exact ⟨j+1,by omega,by rw [hup],by go_num,HS.out⟩
           case measure=>simp [intOf]; omega
         · have hup:pnum (pup t) (j+1)=pnum (pup t) j:=by
            show pnum (pup t) j+(if pup t j=true then 1 else 0)=_
            unfold pup
            rw [decide_eq_false (by omega)]
            rfl
           go_upto_region 33 with fail; refine wp_region_list ?_; refine xpL (.int .i64 (((t j).st:Nat):Int)) ?_; refine xaL (.bool false) (eqlI .i64 _ _ _ _ _ _ rfl rfl rfl false (beq_eq_false_iff_ne.2 (by omega)) _) ?_; refine xpL (.bool false) ?_; refine xpL (.int .i64 (((t j).st:Nat):Int)) ?_
           refine xaL (.bool false) (eqlI .i64 _ _ _ _ _ _ rfl rfl rfl false (beq_eq_false_iff_ne.2 (by omega)) _) ?_; refine xpL (.bool false) ?_; refine xT ?_; go_upto_region 35 with fail; refine wp_region_list ?_; refine xpL (.int .i64 (((t j).st:Nat):Int)) ?_; refine xaL (.bool true) (neqI .i64 _ _ _ _ _ _ rfl rfl rfl true (bne_iff_ne.2 (by omega)) _) ?_
           refine xpL (.int .i64 ((j:Nat):Int)) ?_; refine xaL (.pointer (some ⟨B3,j,none⟩)) (idxBE B3 j _ rfl hi256 _ _ rfl rfl rfl _) ?_
           refine xaL (.bool true) (load1 4 _ ⟨B3,j,none⟩ _ rfl rfl (fun _=>by kernel_rfl) ((by rw [M.get mS j _ (brw_get u hi256)]; exact congrArg (fun b_=>some (Value.bool b_)) ((hU j).trans (decide_eq_true (by omega)))))) ?_
           refine xaL (.bool false) (neqBo _ _ _ _ _ _ rfl rfl rfl (by kernel_rfl) false (by rfl) _) ?_; refine xT ?_; have HS:=show Hid _ from (show I w44 (.pointer (some ⟨Ra,0,none⟩)) t ga∧Mm w0 ((B3,brw 256 u)::(ga++([]:List (Nat × List Value)))) w44 from ⟨hIa,M⟩); clear M hIa; go_wp2
           go_roundw
           case rel=>exact ⟨j+1,by omega,by rw [hup],by go_num,HS.out⟩
           case measure=>simp [intOf]; omega
       · obtain rfl:j=256:=by omega
         have hc16:pnum (pup t) 256≤16:=hW.c
         go_upto_region 30 with fail; refine wp_region_list ?_; refine xpL (.int .i64 ((256:Nat):Int)) ?_; refine xaL (.bool false) (lssI .i64 _ _ _ _ _ _ rfl rfl rfl false (decide_eq_false (by omega)) _) ?_; refine xT ?_; go_upto_region 37 with fail; refine wp_region_list ?_; refine xpL (.int .i64 ((pnum (pup t) 256:Nat):Int)) ?_
         refine xaL (.bool false) (gtrI .i64 _ _ _ _ _ _ rfl rfl rfl false (decide_eq_false (by omega)) _) ?_; refine xT ?_; have HS:=show Hid _ from (show PtbW t∧Usd t u∧I wr (.pointer (some ⟨Ra,0,none⟩)) t ga∧Mm w0 ((B3,brw 256 u)::(ga++([]:List (Nat × List Value)))) wr from ⟨hW,hU,hIa,M⟩); clear M hIa; go_wp2
         go_roundw
         case rel=>first | exact ⟨q+1,_,_,_,by omega,by omega,by go_num,HS.out⟩ | ((repeat apply Exists.intro); exact ⟨⟨q+1,_,_,_,by omega,by omega,by go_num,HS.out⟩,rfl⟩)
         case measure=>simp [intOf]; omega
  | false =>
    try clear hb1
    try clear hb2
    try clear hb3
    go_upto_region 39 with fail; refine wp_region_list ?_; refine xpL (.bool true) ?_; refine xT ?_; have hbel:=M.below; clear M hIa; go_wp2; go_ret
    exact ⟨rfl,hbel⟩
end Go.Proofs.Ytdengjdfmhcbiaa
