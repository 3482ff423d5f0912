/- Texts of Aq As At Au, joined. -/
import Derived.Test.YtmedjdadhmdpgaaP2SchedPlays
set_option maxRecDepth 20000
set_option maxHeartbeats 64000000
namespace Go.Proofs.Ytmedjdadhmdpgaa
open Go.RowKit
theorem manyP:Many Try.prog 72 (.agg #[.int .i64 0,.int .i64 0,.slice none 0 0]) 40 3:=⟨by kernel_rfl⟩
theorem idxR3p (g len cap i:Nat) (sp:Option Addr) (hsp:sp=some ⟨g,0,none⟩) (hi:i<len) {o:Oper} {a:Act} (x y:Operand) (ho:o.op=.indexAddr 61 x y) (hx:a.eval x=.slice sp len cap) (hy:a.eval y=.int .i64 (i:Int)) (w:World):(execOp a.eval o).run Try.prog w=.ok (.value (.pointer (some ⟨g,i*3,none⟩))) w:=by
 subst hsp; have h:=idxSm 61 72 len cap 3 .i64 ⟨g,0,none⟩ i x y Try.underlying61 (fun _=>by kernel_rfl) hi ho hx hy w
 rw [Addr.add_mid,Nat.zero_add] at h
 exact h
theorem row_rec21 {w:World} {base n g cap:Nat} {e:TypeId} {sp:Option Addr} {Z:List (Rcd × Option Addr × Nat)} (V:w.ownsRow base e 3 (.slice sp n cap) n (rcs Z)) (hsp:sp=some ⟨g,0,none⟩) {i:Nat} {q:Rcd × Option Addr × Nat} (hq:Z[i]?=some q):∀ j v,(rc1 q)[j]?=some v→w.cell? ((⟨g,i*3,none⟩:Addr).add j)=some v:=fun j v hv=>by
 have:=row_cell5 V hsp (rcs_get hq hv)
 rw [Addr.add_mid]
 exact this
def tkr (top now:Int) (rs:List Rcd):Int:=match rs.find? fun r=>decide ((r.c:Int)=top) with | some r=>max 0 (now-r.m) | none=>-1
theorem stk_none {top now:Int}:∀ (rs:List Rcd) (a:Int),(∀ r∈rs,(r.c:Int)≠top)→rs.foldl (fun a r=>if (r.c:Int)=top then max 0 ((smom now:Int)-r.m) else a) a=a
 | [],_,_=>rfl
 | r::rs,a,h=>by
   show rs.foldl _ (if (r.c:Int)=top then _ else a)=a
   rw [if_neg (h r mS)]
   exact stk_none rs a fun x hx=>h x (mT _ hx)
theorem stk_tkr (top now:Int) (q:Rcd→Bool) (hq:∀ r:Rcd,(r.c:Int)=top→q r=true):∀ (rs:List Rcd),(rs.Pairwise fun a b=>a.c<b.c)→stk top now rs=tkr top (smom now) (rs.filter q)
 | [],_=>rfl
 | r::rs,h=>by
   obtain ⟨h1,h2⟩:=List.pairwise_cons.1 h
   by_cases c:(r.c:Int)=top
   · have e1:stk top now (r::rs)=max 0 ((smom now:Int)-r.m):=by
      show rs.foldl _ (if (r.c:Int)=top then _ else _)=_
      rw [if_pos c]
      exact stk_none rs _ fun x hx e=>by have:=h1 x hx; omega
     rw [e1,List.filter_cons,if_pos (hq r c)]
     unfold tkr
     rw [List.find?_cons,decide_eq_true c]
   · have e1:stk top now (r::rs)=stk top now rs:=by
      show rs.foldl _ (if (r.c:Int)=top then _ else _)=_
      rw [if_neg c]
      rfl
     rw [e1,stk_tkr top now q hq rs h2,List.filter_cons]
     split
     · unfold tkr
       rw [List.find?_cons,decide_eq_false c]
     · rfl
theorem vclk21_any (n:Int) (w:World) :
 Calls Try.prog 34 #[.int .i64 n] w fun e w'=>e=.returned (.int .i64 ((smom n:Nat):Int))∧Below w.heap.size w w':=by
 have hsm:=show Hid _ from (show ((smom n:Nat):Int)=max 0 (min n 1099511627776) by unfold smom; omega); have M:=Mm.init w
 go_enter Try.func34,Try.ntmps34
 go_upto_region 0 with fail; refine wp_region_list ?_; refine xpL (.int .i64 0) ?_; refine xT ?_; go_upto_region 1 with fail; refine wp_region_list ?_; refine xpL (.int .i64 n) ?_; refine xaL (.int .i64 (max n 0)) (maxI .i64 .i64 _ _ _ _ _ _ _ rfl rfl rfl (by split <;> omega) _) ?_
 refine xaL (.int .i64 ((smom n:Nat):Int)) (minI .i64 .i64 _ _ _ _ _ _ _ rfl rfl rfl (by have h_:=hsm.out; split <;> omega) _) ?_; refine xpL (.int .i64 ((smom n:Nat):Int)) ?_; refine xT ?_; have hbel:=M.below; clear M ; go_wp2; go_ret
 exact ⟨rfl,hbel⟩
theorem vcar21_any (base:Nat) (Z:List (Rcd × Option Addr × Nat)) (sr:Option Addr) (cr:Nat) (hz:Z.length<1000000000) (hs:(sall (Z.map Prod.fst)).length<1000000000) (w:World) (V:w.ownsRow base 72 3 (.slice sr Z.length cr) Z.length (rcs Z)) (K:Pks w Z) :
 Calls Try.prog 32 #[.slice sr Z.length cr] w fun e w'=>∃ sq cq,e=.returned (.slice sq (sall (Z.map Prod.fst)).length cq)∧w'.ownsRow w.heap.size 38 2 (.slice sq (sall (Z.map Prod.fst)).length cq) (sall (Z.map Prod.fst)).length (wrc (sall (Z.map Prod.fst)))∧Below w.heap.size w w':=by
 have M:=Mm.init w
 go_enter Try.func32,Try.ntmps32
 go_upto_region 0 with fail; refine wp_region_list ?_; refine xpL (.slice none 0 0) ?_; refine xT ?_; go_upto_region 1 with fail; refine wp_region_list ?_; refine xpL (.slice none 0 0) ?_; refine xT ?_; go_upto_region 2 with fail; refine wp_region_list ?_; refine xpL (.slice sr Z.length cr) ?_
 refine xaL (.int .i64 ((Z.length:Nat):Int)) (lenS _ 61 72 sr Z.length cr rfl Try.underlying61 rfl _) ?_; refine xpL (.int .i64 0) ?_; refine xT ?_; clear M; go_wp2
 go_loopw [3,8] (fun o_ v_ w'=>∃ (i':Nat) (so:Option Addr) (co:Nat),i'≤Z.length∧o_=.slice so (sall ((Z.take i').map Prod.fst)).length co∧v_=.int .i64 (i':Int)∧w'.ownsRow w.heap.size 38 2 (.slice so (sall ((Z.take i').map Prod.fst)).length co) (sall ((Z.take i').map Prod.fst)).length (wrc (sall ((Z.take i').map Prod.fst)))∧Below w.heap.size w w') (fun o_ v_ _=>Z.length-(intOf v_).toNat)
 case atStart=>exact ⟨0,none,0,Nat.zero_le _,rfl,rfl,World.ownsRow_nil w w.heap.size 38 2,Below.refl _ _⟩
 case round =>
  obtain ⟨i,so,co,hi,rfl,rfl,VO,hB⟩:=hrel
  replace V:=ownsRow_bel V hB; replace K:=K.below hB; have M:=Mm.init wr; have hpt:=sall_part Z i
  by_cases hil:i<Z.length
  · go_upto_region 3 with fail
    refine wp_region_list ?_; refine xaL (.bool true) (lssI .i64 _ _ _ _ _ _ rfl rfl rfl true (decide_eq_true (by omega)) _) ?_; refine xT ?_
    obtain ⟨q,hq⟩:∃ q,Z[i]?=some q:=⟨_,List.getElem?_eq_getElem hil⟩
    obtain ⟨g,hg⟩:=row_some5 V (by omega)
    have hk:=K q (List.mem_of_getElem? hq); have hpt2:=sall_part Z (i+1)
    rw [sall_take hq,List.length_append] at hpt2
    go_upto_region 4 with fail; refine wp_region_list ?_; refine xaL (.pointer (some ⟨g,i*3,none⟩)) (idxR3p g _ _ i sr hg (List.getElem?_eq_some_iff.1 hq).1 _ _ rfl rfl rfl _) ?_
    refine xaL (.agg #[.int .i64 ((q.1.c:Nat):Int),.int .i64 ((q.1.m:Nat):Int),.slice q.2.1 q.1.cs.length q.2.2]) (loadN 72 _ ⟨g,i*3,none⟩ [.int .i64 ((q.1.c:Nat):Int),.int .i64 ((q.1.m:Nat):Int),.slice q.2.1 q.1.cs.length q.2.2] rfl rfl (fun _=>by kernel_rfl) (fun _=>by kernel_rfl) (row_rec21 V hg hq)) ?_
    refine actL (w':=wr.alloc (.cells #[.int .i64 0,.int .i64 0,.slice none 0 0] 72)) (.pointer (some ⟨wr.heap.size,0,none⟩)) rfl (by kernel_rfl) ?_; simp only [aP,lI,l0,lS]
    have hB_B1:wr.heap.size≤wr.heap.size:=M.below.size
    replace M:=M.box #[.int .i64 0,.int .i64 0,.slice none 0 0] 72 wr.heap.size rfl; generalize wr.alloc (.cells #[.int .i64 0,.int .i64 0,.slice none 0 0] 72)=w1 at M  ⊢; generalize eB:wr.heap.size=B1 at M hB_B1  ⊢
    have hE_B1:wr.heap.size≤B1:=Nat.le_of_eq eB
    have hF_B1:B1≤wr.heap.size:=Nat.le_of_eq eB.symm
    clear eB
    replace M:Mm wr ((B1,[.int .i64 0,.int .i64 0,.slice none 0 0])::([]:List (Nat × List Value))) w1:=M
    refine skipOpL rfl (storeP [.int .i64 ((q.1.c:Nat):Int),.int .i64 ((q.1.m:Nat):Int),.slice q.2.1 q.1.cs.length q.2.2] B1 0 72 _ _ rfl rfl rfl (M.thereP mS 0 3 (Nat.le_of_ble_eq_true rfl)) (by kernel_rfl) (List.all_eq_true.1 (rfl:([.int .i64 ((q.1.c:Nat):Int),.int .i64 ((q.1.m:Nat):Int),.slice q.2.1 q.1.cs.length q.2.2]:List Value).all (fun u=>u.oneCell')=true))) ?_
    simp only [Act.put]; replace M:=M.setPart [.int .i64 ((q.1.c:Nat):Int),.int .i64 ((q.1.m:Nat):Int),.slice q.2.1 q.1.cs.length q.2.2] 0 (Nat.le_of_ble_eq_true rfl); generalize w1.setCells B1 0 [.int .i64 ((q.1.c:Nat):Int),.int .i64 ((q.1.m:Nat):Int),.slice q.2.1 q.1.cs.length q.2.2]=w2 at M  ⊢
    replace M:Mm wr ((B1,[.int .i64 ((q.1.c:Nat):Int),.int .i64 ((q.1.m:Nat):Int),.slice q.2.1 q.1.cs.length q.2.2])::([]:List (Nat × List Value))) w2:=M
    refine xT ?_; go_upto_region 5 with fail; refine wp_region_list ?_; refine xpL (.slice so ((sall ((Z.take i).map Prod.fst)).length) co) ?_; refine xpL (.pointer (some ⟨B1,2,none⟩)) ?_; refine xaL (.slice q.2.1 q.1.cs.length q.2.2) (load1 28 _ ⟨B1,2,none⟩ _ rfl rfl (fun _=>by kernel_rfl) (M.get mS 2 _ rfl)) ?_; replace hk:=hk.below M.below; replace VO:=ownsRow_bel VO M.below
    have hB1:=hB.trans (M.below.mono hB.size)
    have hcl:∀ j u,(wrc q.1.cs)[j]?=some u→∃ ad,q.2.1=some ad∧w2.cell? (ad.add j)=some u:=fun j u hu=>by
     obtain ⟨_,_,e_,_,_,h_⟩:=hk
     injection e_ with e1_
     subst e1_
     exact h_ j u hu
    obtain ⟨v2,w9,hr,V2,hgr,hg2⟩:=run_append_opt (P:=Try.prog) (ty:=28) Try.underlying28 manyW rfl (by decide) VO q.2.1 q.1.cs.length q.2.2 (wrc q.1.cs) (wrc_len q.1.cs) hcl (wrc_one q.1.cs) (by unfold maxLen; omega) (by omega) hB1.size
    have hB2:=hB1.grown hgr hB1.size (fun b_ hb_=>(World.ownsRow.lt VO b_ hb_).1)
    obtain ⟨sv,cv,rfl,_,_⟩:=row_form16 V2
    refine xaL _ (appendOp _ _ 28 _ _ _ rfl rfl rfl hr) ?_; clear hr hgr hg2 M VO V K hcl hB1 hk
    rw [← wrc_ap] at V2
    rw [← List.length_append] at V2 ⊢
    rw [← sall_take hq] at V2 ⊢
    refine xpL (.slice sv ((sall ((Z.take (i+1)).map Prod.fst)).length) cv) ?_; refine xT ?_; have HS:=show Hid _ from (And.intro V2 hB2); clear V2 hB2 hB; go_wp2
    go_roundw
    case rel=>exact ⟨i+1,sv,cv,by omega,rfl,by go_num,HS.out⟩
    case measure=>simp [intOf]; omega
  · go_upto_region 3 with fail
    refine wp_region_list ?_; refine xaL (.bool false) (lssI .i64 _ _ _ _ _ _ rfl rfl rfl false (decide_eq_false (by omega)) _) ?_; refine xT ?_; go_upto_region 7 with fail; refine wp_region_list ?_; refine xpL (.slice so ((sall ((Z.take i).map Prod.fst)).length) co) ?_; refine xpL (.slice so ((sall ((Z.take i).map Prod.fst)).length) co) ?_; refine xT ?_
    obtain rfl:i=Z.length:=by omega
    rw [List.take_length] at VO ⊢
    have HS:=show Hid _ from (And.intro VO hB); clear M VO hB V K; go_wp2; go_ret
    exact ⟨so,co,rfl,HS.out⟩
def inx21 (x:Int × Int) (n:Int):Bool:=decide (x.1≤n∧n<x.2)
theorem vam1_any (x:Int × Int) (c:Nat) (n:Int) (w:World) (hc:w.cell? ⟨c,0,none⟩=some (.int .i64 n)) :
 Calls Try.prog 50 #[.agg #[.int .i64 x.1,.int .i64 x.2],.pointer (some ⟨c,0,none⟩)] w fun e w'=>e=.returned (.bool (inx21 x n))∧Below w.heap.size w w':=by
 have M:=Mm.init w
 go_enter Try.func50,Try.ntmps50
 go_upto_region 0 with fail; refine wp_region_list ?_; refine actL (w':=w.alloc (.cells #[.int .i64 x.1,.int .i64 x.2] 38)) (.pointer (some ⟨w.heap.size,0,none⟩)) rfl (by kernel_rfl) ?_; simp only [aP,lI,l0,lS]
 have hB_B1:w.heap.size≤w.heap.size:=M.below.size
 replace M:=M.box #[.int .i64 x.1,.int .i64 x.2] 38 w.heap.size rfl; generalize w.alloc (.cells #[.int .i64 x.1,.int .i64 x.2] 38)=w1 at M  ⊢; generalize eB:w.heap.size=B1 at M hB_B1  ⊢
 have hE_B1:w.heap.size≤B1:=Nat.le_of_eq eB
 have hF_B1:B1≤w.heap.size:=Nat.le_of_eq eB.symm
 clear eB
 replace M:Mm w ((B1,[.int .i64 x.1,.int .i64 x.2])::([]:List (Nat × List Value))) w1:=M
 refine xpL (.bool false) ?_; refine xT ?_
 by_cases h1:x.1≤n
 · by_cases h2:n<x.2
   · go_upto_region 1 with fail
     refine wp_region_list ?_; refine xpL (.pointer (some ⟨B1,0,none⟩)) ?_; refine xaL (.int .i64 x.1) (load1 3 _ ⟨B1,0,none⟩ _ rfl rfl (fun _=>by kernel_rfl) (M.get mS 0 _ rfl)) ?_; refine xaL (.int .i64 n) (load1 3 _ ⟨c,0,none⟩ _ rfl rfl (fun _=>by kernel_rfl) (cell21 M.below hc)) ?_; refine xaL (.bool true) (leqI .i64 _ _ _ _ _ _ rfl rfl rfl true (decide_eq_true (by omega)) _) ?_
     refine xpL (.bool true) ?_; refine xaL (.int .i64 n) (load1 3 _ ⟨c,0,none⟩ _ rfl rfl (fun _=>by kernel_rfl) (cell21 M.below hc)) ?_; refine xpL (.pointer (some ⟨B1,1,none⟩)) ?_; refine xaL (.int .i64 x.2) (load1 3 _ ⟨B1,1,none⟩ _ rfl rfl (fun _=>by kernel_rfl) (M.get mS 1 _ rfl)) ?_; refine xaL (.bool true) (lssI .i64 _ _ _ _ _ _ rfl rfl rfl true (decide_eq_true (by omega)) _) ?_
     refine xpL (.bool true) ?_; refine xpL (.bool true) ?_; refine xT ?_; have hE:=show Hid _ from (show inx21 x n=true from decide_eq_true (by omega)); have hbel:=M.below; clear M ; go_wp2; go_ret
     exact ⟨by rw [hE.out]; try rfl,hbel⟩
   · go_upto_region 1 with fail
     refine wp_region_list ?_; refine xpL (.pointer (some ⟨B1,0,none⟩)) ?_; refine xaL (.int .i64 x.1) (load1 3 _ ⟨B1,0,none⟩ _ rfl rfl (fun _=>by kernel_rfl) (M.get mS 0 _ rfl)) ?_; refine xaL (.int .i64 n) (load1 3 _ ⟨c,0,none⟩ _ rfl rfl (fun _=>by kernel_rfl) (cell21 M.below hc)) ?_; refine xaL (.bool true) (leqI .i64 _ _ _ _ _ _ rfl rfl rfl true (decide_eq_true (by omega)) _) ?_
     refine xpL (.bool true) ?_; refine xaL (.int .i64 n) (load1 3 _ ⟨c,0,none⟩ _ rfl rfl (fun _=>by kernel_rfl) (cell21 M.below hc)) ?_; refine xpL (.pointer (some ⟨B1,1,none⟩)) ?_; refine xaL (.int .i64 x.2) (load1 3 _ ⟨B1,1,none⟩ _ rfl rfl (fun _=>by kernel_rfl) (M.get mS 1 _ rfl)) ?_; refine xaL (.bool false) (lssI .i64 _ _ _ _ _ _ rfl rfl rfl false (decide_eq_false (by omega)) _) ?_
     refine xpL (.bool false) ?_; refine xpL (.bool false) ?_; refine xT ?_; have hE:=show Hid _ from (show inx21 x n=false from decide_eq_false (by omega)); have hbel:=M.below; clear M ; go_wp2; go_ret
     exact ⟨by rw [hE.out]; try rfl,hbel⟩
 · go_upto_region 1 with fail
   refine wp_region_list ?_; refine xpL (.pointer (some ⟨B1,0,none⟩)) ?_; refine xaL (.int .i64 x.1) (load1 3 _ ⟨B1,0,none⟩ _ rfl rfl (fun _=>by kernel_rfl) (M.get mS 0 _ rfl)) ?_; refine xaL (.int .i64 n) (load1 3 _ ⟨c,0,none⟩ _ rfl rfl (fun _=>by kernel_rfl) (cell21 M.below hc)) ?_; refine xaL (.bool false) (leqI .i64 _ _ _ _ _ _ rfl rfl rfl false (decide_eq_false (by omega)) _) ?_
   refine xpL (.bool false) ?_
   with_reducible refine skipL ?_ ?_
   · rfl
   simp only [aP,lI,l0,lS]
   with_reducible refine skipL ?_ ?_
   · rfl
   simp only [aP,lI,l0,lS]
   with_reducible refine skipL ?_ ?_
   · rfl
   simp only [aP,lI,l0,lS]
   with_reducible refine skipL ?_ ?_
   · rfl
   simp only [aP,lI,l0,lS]; refine xpL (.bool false) ?_; refine xpL (.bool false) ?_; refine xT ?_; have hE:=show Hid _ from (show inx21 x n=false from decide_eq_false (by omega)); have hbel:=M.below; clear M ; go_wp2; go_ret
   exact ⟨by rw [hE.out]; try rfl,hbel⟩
def inr21 (k:List (Int × Int)) (n:Int):Bool:=k.any fun x=>inx21 x n
theorem inr21_no {k:List (Int × Int)} {n:Int} (h:∀ j p,j<k.length→k[j]?=some p→¬ (p.1≤n∧n<p.2)):inr21 k n=false:=by
 rw [Bool.eq_false_iff]
 intro c
 obtain ⟨p,hp,hq⟩:=List.any_eq_true.1 c
 obtain ⟨j,hj,hje⟩:=List.mem_iff_getElem.1 hp
 exact h j p hj (by rw [List.getElem?_eq_getElem hj,hje]) (of_decide_eq_true hq)
theorem inr21_yes {k:List (Int × Int)} {n:Int} {i:Nat} {p:Int × Int} (h:k[i]?=some p) (hp:p.1≤n∧n<p.2):inr21 k n=true:=List.any_eq_true.2 ⟨p,List.mem_of_getElem? h,decide_eq_true hp⟩
theorem vix21_any (k:List (Int × Int)) (sk:Option Addr) (ck:Nat) (hk:k.length<140737488355328) (c:Nat) (n:Int) (w:World) (hc:w.cell? ⟨c,0,none⟩=some (.int .i64 n)) (N:RgW w k (.slice sk k.length ck)) :
 Calls Try.prog 55 #[.slice sk k.length ck,.func (.func 50) #[] #[.pointer (some ⟨c,0,none⟩)]] w fun e w'=>∃ r:Int,e=.returned (.int .i64 r)∧decide (r≥0)=inr21 k n∧Below w.heap.size w w':=by
 have M:=Mm.init w
 go_enter Try.func55,Try.ntmps55
 go_upto_region 0 with fail; refine wp_region_list ?_; refine xpL (.int .i64 0) ?_; refine xT ?_; go_upto_region 1 with fail; refine wp_region_list ?_; refine xpL (.slice sk k.length ck) ?_; refine xaL (.int .i64 ((k.length:Nat):Int)) (lenS _ 28 38 sk k.length ck rfl Try.underlying28 rfl _) ?_; refine xpL (.int .i64 0) ?_; refine xT ?_; clear M; go_wp2
 go_loopw [8] (fun v_ w'=>∃ i:Nat,i≤k.length∧v_=.int .i64 (i:Int)∧(∀ j p,j<i→k[j]?=some p→¬ (p.1≤n∧n<p.2))∧Below w.heap.size w w') (fun v_ _=>k.length-(intOf v_).toNat)
 case atStart=>exact ⟨0,Nat.zero_le _,rfl,fun _ _ h=>absurd h (xnZ _),Below.refl _ _⟩
 case round =>
  obtain ⟨i,hi,rfl,hb,hB⟩:=hrel
  have M:=(Mm.init w).call hB
  by_cases hil:i<k.length
  · go_upto_region 2 with fail
    refine wp_region_list ?_; refine xaL (.bool true) (lssI .i64 _ _ _ _ _ _ rfl rfl rfl true (decide_eq_true (by omega)) _) ?_; refine xT ?_
    obtain ⟨p,hp⟩:∃ p,k[i]?=some p:=⟨_,List.getElem?_eq_getElem hil⟩
    obtain ⟨adr,hadr,_,_⟩:=RgW.at N hp
    subst hadr; go_upto_region 3 with fail; refine wp_region_list ?_; refine xpL (.int .i64 (i:Int)) ?_; refine xpL (.int .i64 (i:Int)) ?_; refine xT ?_
    cases hb2:inx21 p n with
    | true =>
      go_upto_region 4 with fail; refine wp_region_list ?_; refine xpL (.func (.func 50) #[] #[.pointer (some ⟨c,0,none⟩)]) ?_; refine xpL (.slice (some adr) k.length ck) ?_; refine xpL (.int .i64 (i:Int)) ?_; refine readL (.pointer (some (adr.add (i*2)))) rfl (idxR2 adr _ _ i hil _ _ rfl rfl rfl _) ?_; simp only [aP,lI,l0,lS]
      refine xaL (.agg #[.int .i64 p.1,.int .i64 p.2]) (loadN 38 _ (adr.add (i*2)) [.int .i64 p.1,.int .i64 p.2] rfl rfl (fun _=>by kernel_rfl) (fun _=>by kernel_rfl) (RgW.rng (N.below M.below) hp)) ?_; have key_:=vam1_any p c n wr (cell21 M.below hc)
      rw [hb2] at key_
      have key:=key_; refine xcL key ?_; clear key; rintro e w1 ⟨rfl,l_⟩; replace M:=M.call l_
      clear l_; refine xeL ?_; clear key_; refine xT ?_; go_upto_region 5 with fail; refine wp_region_list ?_; refine xpL (.int .i64 (i:Int)) ?_; refine xpL (.int .i64 (i:Int)) ?_; refine xT ?_; have hE:=show Hid _ from (show decide (((i:Nat):Int)≥0)=inr21 k n from by rw [inr21_yes hp (of_decide_eq_true hb2)]; exact decide_eq_true (by omega)); have hbel:=M.below; clear M; go_wp2
      go_ret
      first | exact ⟨_,rfl,hE.out,hbel⟩ | exact ⟨rfl,hE.out,hbel⟩
    | false =>
      go_upto_region 4 with fail; refine wp_region_list ?_; refine xpL (.func (.func 50) #[] #[.pointer (some ⟨c,0,none⟩)]) ?_; refine xpL (.slice (some adr) k.length ck) ?_; refine xpL (.int .i64 (i:Int)) ?_; refine readL (.pointer (some (adr.add (i*2)))) rfl (idxR2 adr _ _ i hil _ _ rfl rfl rfl _) ?_; simp only [aP,lI,l0,lS]
      refine xaL (.agg #[.int .i64 p.1,.int .i64 p.2]) (loadN 38 _ (adr.add (i*2)) [.int .i64 p.1,.int .i64 p.2] rfl rfl (fun _=>by kernel_rfl) (fun _=>by kernel_rfl) (RgW.rng (N.below M.below) hp)) ?_; have key_:=vam1_any p c n wr (cell21 M.below hc)
      rw [hb2] at key_
      have key:=key_; refine xcL key ?_; clear key; rintro e w2 ⟨rfl,l_⟩; replace M:=M.call l_
      clear l_; refine xeL ?_; clear key_; refine xT ?_; have hbel:=show Hid _ from M.below; clear M; go_wp2
      go_roundw
      case rel=>exact ⟨i+1,by omega,by go_num,fun j r hj hr=>by
       rcases Nat.lt_or_ge j i with h_ | h_
       · exact hb j r h_ hr
       · obtain rfl:j=i:=by omega
         rw [hp] at hr
         obtain rfl:=Option.some.inj hr
         exact of_decide_eq_false hb2,hbel.out⟩
      case measure=>simp [intOf]; omega
  · go_upto_region 2 with fail
    refine wp_region_list ?_; refine xaL (.bool false) (lssI .i64 _ _ _ _ _ _ rfl rfl rfl false (decide_eq_false (by omega)) _) ?_; refine xT ?_; go_upto_region 7 with fail; refine wp_region_list ?_; refine xpL (.int .i64 (-1)) ?_; refine xT ?_; have hE:=show Hid _ from (show decide ((-1:Int)≥0)=inr21 k n from by rw [inr21_no fun j r hj hr=>hb j r (by omega) hr]; rfl)
    have hbel:=M.below; clear M; go_wp2; go_ret
    first | exact ⟨_,rfl,hE.out,hbel⟩ | exact ⟨rfl,hE.out,hbel⟩
theorem vcf21_any (k:List (Int × Int)) (sk:Option Addr) (ck:Nat) (hk:k.length<140737488355328) (c:Nat) (n:Int) (w:World) (hc:w.cell? ⟨c,0,none⟩=some (.int .i64 n)) (N:RgW w k (.slice sk k.length ck)) :
 Calls Try.prog 49 #[.slice sk k.length ck,.func (.func 50) #[] #[.pointer (some ⟨c,0,none⟩)]] w fun e w'=>e=.returned (.bool (inr21 k n))∧Below w.heap.size w w':=by
 have M:=Mm.init w
 go_enter Try.func49,Try.ntmps49
 go_upto_region 0 with fail; refine wp_region_list ?_; refine xpL (.bool false) ?_; refine xT ?_; go_upto_region 1 with fail; refine wp_region_list ?_; refine xpL (.slice sk k.length ck) ?_; refine xpL (.func (.func 50) #[] #[.pointer (some ⟨c,0,none⟩)]) ?_; have key:=vix21_any k sk ck hk c n _ (cell21 M.below hc) (N.below M.below); refine xcL key ?_; clear key; rintro e w2 ⟨r_,rfl,hr_,l_⟩
 replace M:=M.call l_
 clear l_; refine xeL ?_; refine xaL (.bool (inr21 k n)) (geqI .i64 _ _ _ _ _ _ rfl rfl rfl (inr21 k n) hr_ _) ?_; refine xpL (.bool (inr21 k n)) ?_; refine xT ?_; have hbel:=M.below; clear M ; go_wp2; go_ret
 exact ⟨rfl,hbel⟩
theorem vamg21_any (k:List (Int × Int)) (sk:Option Addr) (ck:Nat) (hk:k.length<140737488355328) (n:Int) (w:World) (N:RgW w k (.slice sk k.length ck)) :
 Calls Try.prog 39 #[.slice sk k.length ck,.int .i64 n] w fun e w'=>e=.returned (.bool (inr21 k n))∧Below w.heap.size w w':=by
 have M:=Mm.init w
 go_enter Try.func39,Try.ntmps39
 go_upto_region 0 with fail; refine wp_region_list ?_; refine actL (w':=w.alloc (.cells #[.int .i64 n] 3)) (.pointer (some ⟨w.heap.size,0,none⟩)) rfl (by kernel_rfl) ?_; simp only [aP,lI,l0,lS]
 have hB_B1:w.heap.size≤w.heap.size:=M.below.size
 replace M:=M.box #[.int .i64 n] 3 w.heap.size rfl; generalize w.alloc (.cells #[.int .i64 n] 3)=w1 at M  ⊢; generalize eB:w.heap.size=B1 at M hB_B1  ⊢
 have hE_B1:w.heap.size≤B1:=Nat.le_of_eq eB
 have hF_B1:B1≤w.heap.size:=Nat.le_of_eq eB.symm
 clear eB
 replace M:Mm w ((B1,[.int .i64 n])::([]:List (Nat × List Value))) w1:=M
 refine xpL (.bool false) ?_; refine xT ?_; go_upto_region 1 with fail; refine wp_region_list ?_; refine xpL (.slice sk k.length ck) ?_; refine xpL (.func (.func 50) #[] #[.pointer (some ⟨B1,0,none⟩)]) ?_; have key:=vcf21_any k sk ck hk B1 n _ (M.get mS 0 _ rfl) (N.below M.below); refine xcL key ?_; clear key; rintro e w3 ⟨rfl,l_⟩; replace M:=M.call l_
 clear l_; refine xeL ?_; refine xpL (.bool (inr21 k n)) ?_; refine xT ?_; have hbel:=M.below; clear M ; go_wp2; go_ret
 exact ⟨rfl,hbel⟩
theorem vg1_any (q:Rcd × Option Addr × Nat) (k:List (Int × Int)) (sk:Option Addr) (ck:Nat) (hk:k.length<140737488355328) (c d:Nat) (top:Int) (w:World) (hc:w.cell? ⟨c,0,none⟩=some (.int .i64 top)) (hd:w.cell? ⟨d,0,none⟩=some (.slice sk k.length ck)) (N:RgW w k (.slice sk k.length ck)) :
 Calls Try.prog 38 #[.agg #[.int .i64 ((q.1.c:Nat):Int),.int .i64 ((q.1.m:Nat):Int),.slice q.2.1 q.1.cs.length q.2.2],.pointer (some ⟨c,0,none⟩),.pointer (some ⟨d,0,none⟩)] w fun e w'=>e=.returned (.bool (stl q.1.c top k))∧Below w.heap.size w w':=by
 have M:=Mm.init w
 go_enter Try.func38,Try.ntmps38
 go_upto_region 0 with fail; refine wp_region_list ?_; refine actL (w':=w.alloc (.cells #[.int .i64 ((q.1.c:Nat):Int),.int .i64 ((q.1.m:Nat):Int),.slice q.2.1 q.1.cs.length q.2.2] 72)) (.pointer (some ⟨w.heap.size,0,none⟩)) rfl (by kernel_rfl) ?_; simp only [aP,lI,l0,lS]
 have hB_B1:w.heap.size≤w.heap.size:=M.below.size
 replace M:=M.box #[.int .i64 ((q.1.c:Nat):Int),.int .i64 ((q.1.m:Nat):Int),.slice q.2.1 q.1.cs.length q.2.2] 72 w.heap.size rfl; generalize w.alloc (.cells #[.int .i64 ((q.1.c:Nat):Int),.int .i64 ((q.1.m:Nat):Int),.slice q.2.1 q.1.cs.length q.2.2] 72)=w1 at M  ⊢; generalize eB:w.heap.size=B1 at M hB_B1  ⊢
 have hE_B1:w.heap.size≤B1:=Nat.le_of_eq eB
 have hF_B1:B1≤w.heap.size:=Nat.le_of_eq eB.symm
 clear eB
 replace M:Mm w ((B1,[.int .i64 ((q.1.c:Nat):Int),.int .i64 ((q.1.m:Nat):Int),.slice q.2.1 q.1.cs.length q.2.2])::([]:List (Nat × List Value))) w1:=M
 refine xpL (.bool false) ?_; refine xT ?_
 by_cases h1:((q.1.c:Nat):Int)=top
 · go_upto_region 1 with fail
   refine wp_region_list ?_; refine xpL (.pointer (some ⟨B1,0,none⟩)) ?_; refine xaL (.int .i64 ((q.1.c:Nat):Int)) (load1 3 _ ⟨B1,0,none⟩ _ rfl rfl (fun _=>by kernel_rfl) (M.get mS 0 _ rfl)) ?_; refine xaL (.int .i64 top) (load1 3 _ ⟨c,0,none⟩ _ rfl rfl (fun _=>by kernel_rfl) (cell21 M.below hc)) ?_
   refine xaL (.bool true) (eqlI .i64 _ _ _ _ _ _ rfl rfl rfl true (beq_iff_eq.2 (h1)) _) ?_; refine xpL (.bool true) ?_
   with_reducible refine skipL ?_ ?_
   · rfl
   simp only [aP,lI,l0,lS]
   with_reducible refine skipL ?_ ?_
   · rfl
   simp only [aP,lI,l0,lS]
   with_reducible refine skipL ?_ ?_
   · rfl
   simp only [aP,lI,l0,lS]
   with_reducible refine skipL ?_ ?_
   · rfl
   simp only [aP,lI,l0,lS]; refine xpL (.bool true) ?_; refine xpL (.bool true) ?_; refine xT ?_; have hE:=show Hid _ from (show stl q.1.c top k=true by unfold stl; rw [beq_iff_eq.2 h1,Bool.or_true]); have hbel:=M.below; clear M ; go_wp2; go_ret
   exact ⟨by rw [hE.out]; try rfl,hbel⟩
 · go_upto_region 1 with fail
   refine wp_region_list ?_; refine xpL (.pointer (some ⟨B1,0,none⟩)) ?_; refine xaL (.int .i64 ((q.1.c:Nat):Int)) (load1 3 _ ⟨B1,0,none⟩ _ rfl rfl (fun _=>by kernel_rfl) (M.get mS 0 _ rfl)) ?_; refine xaL (.int .i64 top) (load1 3 _ ⟨c,0,none⟩ _ rfl rfl (fun _=>by kernel_rfl) (cell21 M.below hc)) ?_
   refine xaL (.bool false) (eqlI .i64 _ _ _ _ _ _ rfl rfl rfl false (beq_eq_false_iff_ne.2 (h1)) _) ?_; refine xpL (.bool false) ?_; refine xaL (.slice sk k.length ck) (load1 28 _ ⟨d,0,none⟩ _ rfl rfl (fun _=>by kernel_rfl) (cell21 M.below hd)) ?_; refine xpL (.pointer (some ⟨B1,0,none⟩)) ?_
   refine xaL (.int .i64 ((q.1.c:Nat):Int)) (load1 3 _ ⟨B1,0,none⟩ _ rfl rfl (fun _=>by kernel_rfl) (M.get mS 0 _ rfl)) ?_; have key:=vamg21_any k sk ck hk ((q.1.c:Nat):Int) _ (N.below M.below); refine xcL key ?_; clear key; rintro e w3 ⟨rfl,l_⟩; replace M:=M.call l_
   clear l_; refine xeL ?_; refine xpL (.bool (inr21 k ((q.1.c:Nat):Int))) ?_; refine xpL (.bool (inr21 k ((q.1.c:Nat):Int))) ?_; refine xT ?_; have hE:=show Hid _ from (show stl q.1.c top k=inr21 k ((q.1.c:Nat):Int) by unfold stl inr21; rw [beq_eq_false_iff_ne.2 h1,Bool.or_false]; rfl); have hbel:=M.below; clear M ; go_wp2; go_ret
   exact ⟨by rw [hE.out]; try rfl,hbel⟩
theorem vg2_any (q:Rcd × Option Addr × Nat) (hq:q.1.c≤281474976710655) (c:Nat) (top:Int) (w:World) (hc:w.cell? ⟨c,0,none⟩=some (.int .i64 top)) :
 Calls Try.prog 41 #[.agg #[.int .i64 ((q.1.c:Nat):Int),.int .i64 ((q.1.m:Nat):Int),.slice q.2.1 q.1.cs.length q.2.2],.pointer (some ⟨c,0,none⟩)] w fun e w'=>e=.returned (.bool (sold top q.1))∧Below w.heap.size w w':=by
 have M:=Mm.init w
 go_enter Try.func41,Try.ntmps41
 go_upto_region 0 with fail; refine wp_region_list ?_; refine actL (w':=w.alloc (.cells #[.int .i64 ((q.1.c:Nat):Int),.int .i64 ((q.1.m:Nat):Int),.slice q.2.1 q.1.cs.length q.2.2] 72)) (.pointer (some ⟨w.heap.size,0,none⟩)) rfl (by kernel_rfl) ?_; simp only [aP,lI,l0,lS]
 have hB_B1:w.heap.size≤w.heap.size:=M.below.size
 replace M:=M.box #[.int .i64 ((q.1.c:Nat):Int),.int .i64 ((q.1.m:Nat):Int),.slice q.2.1 q.1.cs.length q.2.2] 72 w.heap.size rfl; generalize w.alloc (.cells #[.int .i64 ((q.1.c:Nat):Int),.int .i64 ((q.1.m:Nat):Int),.slice q.2.1 q.1.cs.length q.2.2] 72)=w1 at M  ⊢; generalize eB:w.heap.size=B1 at M hB_B1  ⊢
 have hE_B1:w.heap.size≤B1:=Nat.le_of_eq eB
 have hF_B1:B1≤w.heap.size:=Nat.le_of_eq eB.symm
 clear eB
 replace M:Mm w ((B1,[.int .i64 ((q.1.c:Nat):Int),.int .i64 ((q.1.m:Nat):Int),.slice q.2.1 q.1.cs.length q.2.2])::([]:List (Nat × List Value))) w1:=M
 refine xpL (.bool false) ?_; refine xT ?_; go_upto_region 1 with fail; refine wp_region_list ?_; refine xpL (.pointer (some ⟨B1,0,none⟩)) ?_; refine xaL (.int .i64 ((q.1.c:Nat):Int)) (load1 3 _ ⟨B1,0,none⟩ _ rfl rfl (fun _=>by kernel_rfl) (M.get mS 0 _ rfl)) ?_; refine readL (.int .i64 (((q.1.c:Nat):Int)+3)) rfl (addI .i64 _ _ _ _ _ _ _ rfl rfl rfl (by rw [xw6]; omega) _) ?_
 simp only [aP,lI,l0,lS]; refine xaL (.int .i64 top) (load1 3 _ ⟨c,0,none⟩ _ rfl rfl (fun _=>by kernel_rfl) (cell21 M.below hc)) ?_; refine xaL (.bool (sold top q.1)) (leqI .i64 _ _ _ _ _ _ rfl rfl rfl (sold top q.1) rfl _) ?_; refine xpL (.bool (sold top q.1)) ?_; refine xT ?_; have hbel:=M.below; clear M ; go_wp2; go_ret
 exact ⟨rfl,hbel⟩
theorem vl1_any (q:Rcd × Option Addr × Nat) (c:Nat) (last:Int) (w:World) (hc:w.cell? ⟨c,0,none⟩=some (.int .i64 last)) :
 Calls Try.prog 45 #[.agg #[.int .i64 ((q.1.c:Nat):Int),.int .i64 ((q.1.m:Nat):Int),.slice q.2.1 q.1.cs.length q.2.2],.pointer (some ⟨c,0,none⟩)] w fun e w'=>e=.returned (.bool (decide (((q.1.m:Nat):Int)≤last)))∧Below w.heap.size w w':=by
 have M:=Mm.init w
 go_enter Try.func45,Try.ntmps45
 go_upto_region 0 with fail; refine wp_region_list ?_; refine actL (w':=w.alloc (.cells #[.int .i64 ((q.1.c:Nat):Int),.int .i64 ((q.1.m:Nat):Int),.slice q.2.1 q.1.cs.length q.2.2] 72)) (.pointer (some ⟨w.heap.size,0,none⟩)) rfl (by kernel_rfl) ?_; simp only [aP,lI,l0,lS]
 have hB_B1:w.heap.size≤w.heap.size:=M.below.size
 replace M:=M.box #[.int .i64 ((q.1.c:Nat):Int),.int .i64 ((q.1.m:Nat):Int),.slice q.2.1 q.1.cs.length q.2.2] 72 w.heap.size rfl; generalize w.alloc (.cells #[.int .i64 ((q.1.c:Nat):Int),.int .i64 ((q.1.m:Nat):Int),.slice q.2.1 q.1.cs.length q.2.2] 72)=w1 at M  ⊢; generalize eB:w.heap.size=B1 at M hB_B1  ⊢
 have hE_B1:w.heap.size≤B1:=Nat.le_of_eq eB
 have hF_B1:B1≤w.heap.size:=Nat.le_of_eq eB.symm
 clear eB
 replace M:Mm w ((B1,[.int .i64 ((q.1.c:Nat):Int),.int .i64 ((q.1.m:Nat):Int),.slice q.2.1 q.1.cs.length q.2.2])::([]:List (Nat × List Value))) w1:=M
 refine xpL (.bool false) ?_; refine xT ?_; go_upto_region 1 with fail; refine wp_region_list ?_; refine xpL (.pointer (some ⟨B1,1,none⟩)) ?_; refine xaL (.int .i64 ((q.1.m:Nat):Int)) (load1 3 _ ⟨B1,1,none⟩ _ rfl rfl (fun _=>by kernel_rfl) (M.get mS 1 _ rfl)) ?_; refine xaL (.int .i64 last) (load1 3 _ ⟨c,0,none⟩ _ rfl rfl (fun _=>by kernel_rfl) (cell21 M.below hc)) ?_
 refine readL (.bool (decide (((q.1.m:Nat):Int)≤last))) rfl (leqI .i64 _ _ _ _ _ _ rfl rfl rfl (decide (((q.1.m:Nat):Int)≤last)) rfl _) ?_; simp only [aP,lI,l0,lS]; refine xpL (.bool (decide (((q.1.m:Nat):Int)≤last))) ?_; refine xT ?_; have hbel:=M.below; clear M ; go_wp2; go_ret
 exact ⟨rfl,hbel⟩
theorem tkr_hit {Z:List (Rcd × Option Addr × Nat)} {top now:Int} {i:Nat} {q:Rcd × Option Addr × Nat} (hq:Z[i]?=some q) (hc:((q.1.c:Nat):Int)=top) (hb:∀ j r,j<i→Z[j]?=some r→((r.1.c:Nat):Int)≠top):tkr top now (Z.map Prod.fst)=max 0 (now-q.1.m):=by
 obtain ⟨hi,he⟩:=List.getElem?_eq_some_iff.1 hq
 have h1:(Z.map Prod.fst).find? (fun r=>decide ((r.c:Int)=top))=some q.1:=by
  rw [List.find?_eq_some_iff_getElem]
  refine ⟨decide_eq_true hc,i,by rw [List.length_map]; exact hi,by rw [List.getElem_map,he],fun j hj=>?_⟩
  have hj':j<Z.length:=by omega
  rw [List.getElem_map]
  have:=hb j Z[j] hj (List.getElem?_eq_getElem hj')
  simp [this]
 unfold tkr
 rw [h1]
theorem tkr_miss {Z:List (Rcd × Option Addr × Nat)} {top now:Int} (hb:∀ j r,j<Z.length→Z[j]?=some r→((r.1.c:Nat):Int)≠top):tkr top now (Z.map Prod.fst)=-1:=by
 have h1:(Z.map Prod.fst).find? (fun r=>decide ((r.c:Int)=top))=none:=by
  rw [List.find?_eq_none]
  intro r hr
  obtain ⟨q,hq,rfl⟩:=List.mem_map.1 hr
  obtain ⟨j,hj,hje⟩:=List.mem_iff_getElem.1 hq
  have:=hb j q hj (by rw [List.getElem?_eq_getElem hj,hje])
  simp [this]
 unfold tkr
 rw [h1]
theorem vtk21_any (base:Nat) (Z:List (Rcd × Option Addr × Nat)) (sr:Option Addr) (cr:Nat) (hz:Z.length<1000000000) (hm:∀ q∈Z,q.1.m≤1099511627776) (top now:Int) (hn:0≤now∧now≤1099511627776) (w:World) (V:w.ownsRow base 72 3 (.slice sr Z.length cr) Z.length (rcs Z)) :
 Calls Try.prog 42 #[.slice sr Z.length cr,.int .i64 top,.int .i64 now] w fun e w'=>e=.returned (.int .i64 (tkr top now (Z.map Prod.fst)))∧Below w.heap.size w w':=by
 have M:=Mm.init w
 go_enter Try.func42,Try.ntmps42
 go_upto_region 0 with fail; refine wp_region_list ?_; refine xpL (.int .i64 0) ?_; refine xT ?_; go_upto_region 1 with fail; refine wp_region_list ?_; refine xpL (.slice sr Z.length cr) ?_; refine xaL (.int .i64 ((Z.length:Nat):Int)) (lenS _ 61 72 sr Z.length cr rfl Try.underlying61 rfl _) ?_; refine xpL (.int .i64 0) ?_; refine xT ?_; clear M; go_wp2
 go_loopw [11] (fun v_ w'=>∃ i:Nat,i≤Z.length∧v_=.int .i64 (i:Int)∧(∀ j r,j<i→Z[j]?=some r→((r.1.c:Nat):Int)≠top)∧Below w.heap.size w w') (fun v_ _=>Z.length-(intOf v_).toNat)
 case atStart=>exact ⟨0,Nat.zero_le _,rfl,fun _ _ h=>absurd h (xnZ _),Below.refl _ _⟩
 case round =>
  obtain ⟨i,hi,rfl,hb,hB⟩:=hrel
  have M:=(Mm.init w).call hB
  by_cases hil:i<Z.length
  · go_upto_region 2 with fail
    refine wp_region_list ?_; refine xaL (.bool true) (lssI .i64 _ _ _ _ _ _ rfl rfl rfl true (decide_eq_true (by omega)) _) ?_; refine xT ?_
    obtain ⟨q,hq⟩:∃ q,Z[i]?=some q:=⟨_,List.getElem?_eq_getElem hil⟩
    obtain ⟨g,hg⟩:=row_some5 V (by omega)
    have hqm:=hm q (List.mem_of_getElem? hq); go_upto_region 3 with fail; refine wp_region_list ?_; refine xaL (.pointer (some ⟨g,i*3,none⟩)) (idxR3p g _ _ i sr hg (List.getElem?_eq_some_iff.1 hq).1 _ _ rfl rfl rfl _) ?_
    refine xaL (.agg #[.int .i64 ((q.1.c:Nat):Int),.int .i64 ((q.1.m:Nat):Int),.slice q.2.1 q.1.cs.length q.2.2]) (loadN 72 _ ⟨g,i*3,none⟩ [.int .i64 ((q.1.c:Nat):Int),.int .i64 ((q.1.m:Nat):Int),.slice q.2.1 q.1.cs.length q.2.2] rfl rfl (fun _=>by kernel_rfl) (fun _=>by kernel_rfl) (row_rec21 (ownsRow_bel V M.below) hg hq)) ?_
    refine actL (w':=wr.alloc (.cells #[.int .i64 0,.int .i64 0,.slice none 0 0] 72)) (.pointer (some ⟨wr.heap.size,0,none⟩)) rfl (by kernel_rfl) ?_; simp only [aP,lI,l0,lS]
    have hB_B1:w.heap.size≤wr.heap.size:=M.below.size
    replace M:=M.box #[.int .i64 0,.int .i64 0,.slice none 0 0] 72 wr.heap.size rfl; generalize wr.alloc (.cells #[.int .i64 0,.int .i64 0,.slice none 0 0] 72)=w1 at M  ⊢; generalize eB:wr.heap.size=B1 at M hB_B1  ⊢
    have hE_B1:wr.heap.size≤B1:=Nat.le_of_eq eB
    have hF_B1:B1≤wr.heap.size:=Nat.le_of_eq eB.symm
    clear eB
    replace M:Mm w ((B1,[.int .i64 0,.int .i64 0,.slice none 0 0])::([]:List (Nat × List Value))) w1:=M
    refine skipOpL rfl (storeP [.int .i64 ((q.1.c:Nat):Int),.int .i64 ((q.1.m:Nat):Int),.slice q.2.1 q.1.cs.length q.2.2] B1 0 72 _ _ rfl rfl rfl (M.thereP mS 0 3 (Nat.le_of_ble_eq_true rfl)) (by kernel_rfl) (List.all_eq_true.1 (rfl:([.int .i64 ((q.1.c:Nat):Int),.int .i64 ((q.1.m:Nat):Int),.slice q.2.1 q.1.cs.length q.2.2]:List Value).all (fun u=>u.oneCell')=true))) ?_
    simp only [Act.put]; replace M:=M.setPart [.int .i64 ((q.1.c:Nat):Int),.int .i64 ((q.1.m:Nat):Int),.slice q.2.1 q.1.cs.length q.2.2] 0 (Nat.le_of_ble_eq_true rfl); generalize w1.setCells B1 0 [.int .i64 ((q.1.c:Nat):Int),.int .i64 ((q.1.m:Nat):Int),.slice q.2.1 q.1.cs.length q.2.2]=w2 at M  ⊢
    replace M:Mm w ((B1,[.int .i64 ((q.1.c:Nat):Int),.int .i64 ((q.1.m:Nat):Int),.slice q.2.1 q.1.cs.length q.2.2])::([]:List (Nat × List Value))) w2:=M
    refine xT ?_
    by_cases h1:((q.1.c:Nat):Int)=top
    · go_upto_region 4 with fail
      refine wp_region_list ?_; refine xpL (.pointer (some ⟨B1,0,none⟩)) ?_; refine xaL (.int .i64 ((q.1.c:Nat):Int)) (load1 3 _ ⟨B1,0,none⟩ _ rfl rfl (fun _=>by kernel_rfl) (M.get mS 0 _ rfl)) ?_; refine xpL (.int .i64 top) ?_; refine xaL (.bool true) (eqlI .i64 _ _ _ _ _ _ rfl rfl rfl true (beq_iff_eq.2 (h1)) _) ?_; refine xT ?_; go_upto_region 5 with fail; refine wp_region_list ?_
      refine xpL (.int .i64 now) ?_; refine xpL (.pointer (some ⟨B1,1,none⟩)) ?_; refine xaL (.int .i64 ((q.1.m:Nat):Int)) (load1 3 _ ⟨B1,1,none⟩ _ rfl rfl (fun _=>by kernel_rfl) (M.get mS 1 _ rfl)) ?_; refine readL (.int .i64 (now-((q.1.m:Nat):Int))) rfl (subI .i64 _ _ _ _ _ _ _ rfl rfl rfl (by rw [xw6]; omega) _) ?_; simp only [aP,lI,l0,lS]
      refine readL (.int .i64 (max 0 (now-((q.1.m:Nat):Int)))) rfl (maxI .i64 .i64 _ _ _ _ _ _ _ rfl rfl rfl (by split <;> omega) _) ?_; simp only [aP,lI,l0,lS]; refine xpL (.int .i64 (max 0 (now-((q.1.m:Nat):Int)))) ?_; refine xT ?_; have hE:=show Hid _ from tkr_hit (now:=now) hq h1 hb; have hbel:=M.below; clear M ; go_wp2; go_ret
      exact ⟨by rw [hE.out]; try rfl,hbel⟩
    · go_upto_region 4 with fail
      refine wp_region_list ?_; refine xpL (.pointer (some ⟨B1,0,none⟩)) ?_; refine xaL (.int .i64 ((q.1.c:Nat):Int)) (load1 3 _ ⟨B1,0,none⟩ _ rfl rfl (fun _=>by kernel_rfl) (M.get mS 0 _ rfl)) ?_; refine xpL (.int .i64 top) ?_; refine xaL (.bool false) (eqlI .i64 _ _ _ _ _ _ rfl rfl rfl false (beq_eq_false_iff_ne.2 (h1)) _) ?_; refine xT ?_; have hbel:=show Hid _ from M.below
      clear M; go_wp2
      go_roundw
      case rel=>exact ⟨i+1,by omega,by go_num,fun j r hj hr=>by
       rcases Nat.lt_or_ge j i with h_ | h_
       · exact hb j r h_ hr
       · obtain rfl:j=i:=by omega
         rw [hq] at hr
         obtain rfl:=Option.some.inj hr
         exact h1,hbel.out⟩
      case measure=>simp [intOf]; omega
  · go_upto_region 2 with fail
    refine wp_region_list ?_; refine xaL (.bool false) (lssI .i64 _ _ _ _ _ _ rfl rfl rfl false (decide_eq_false (by omega)) _) ?_; refine xT ?_; go_upto_region 7 with fail; refine wp_region_list ?_; refine xpL (.int .i64 (-1)) ?_; refine xT ?_; have hE:=show Hid _ from tkr_miss (now:=now) fun j r hj hr=>hb j r (by omega) hr; have hbel:=M.below; clear M ; go_wp2; go_ret
    exact ⟨by rw [hE.out]; try rfl,hbel⟩
theorem ownsRow_mono21 {w:World} {b b':Nat} {e:TypeId} {size n:Nat} {xs:List Value} {v:Value} (h:w.ownsRow b' e size v n xs) (hb:b≤b'):w.ownsRow b e size v n xs:=by
 refine ⟨h.1,?_⟩
 rcases h.2 with h0 | ⟨g,cap,cur,hv,hg,h5⟩
 · exact .inl h0
 · exact .inr ⟨g,cap,cur,hv,xnT hb hg,h5⟩
theorem Mm.own21 {w0 w:World} {l:List (Nat × List Value)} (M:Mm w0 l w) {base:Nat} {e:TypeId} {size n cap:Nat} {xs:List Value} {sp:Option Addr} (V:w.ownsRow base e size (.slice sp n cap) n xs) (h0:w0.heap.size≤base) (hne:∀ b,base≤b→b∉l.map Prod.fst):Mm w0 (obs sp++l) w:=by
 cases sp with
 | none=>exact M
 | some a =>
   have hl:=World.ownsRow.lt V a.block rfl
   exact M.addB (xnT h0 hl.1) hl.2 fun p hp e=>hne a.block hl.1 (List.mem_map.2 ⟨p,hp,e⟩)
theorem Mm.lts21 {w0 w:World} {a l:List (Nat × List Value)} (M:Mm w0 (a++l) w) {x:Nat} (hx:x∈l.map Prod.fst):x<w.heap.size:=by
 obtain ⟨p,hp,rfl⟩:=List.mem_map.1 hx
 exact (M.rows p (List.mem_append_right _ hp)).2.2
theorem Mm.newRow21 {w0 w w':World} {l:List (Nat × List Value)} (M:Mm w0 l w) (b:Below w.heap.size w w') {e:TypeId} {size n cap:Nat} {xs:List Value} {sp:Option Addr} (V:w'.ownsRow w.heap.size e size (.slice sp n cap) n xs):Mm w0 (obs sp++l) w' :=
 (M.call b).own21 V M.below.size fun x hx hm=>by
  have:=M.lts21 (a:=[]) hm
  omega
structure Clo21 (w:World) (fv:Value) (pr:Rcd→Bool) (Z:List (Rcd × Option Addr × Nat)):Prop where
 is:∃ K caps,fv=.func (.func K) #[] caps∧((K=38∧∃ c d:Nat,caps=#[.pointer (some ⟨c,0,none⟩),.pointer (some ⟨d,0,none⟩)])∨((K=41∨K=45)∧∃ c:Nat,caps=#[.pointer (some ⟨c,0,none⟩)])) ∧
  ∀ w',Below w.heap.size w w'→∀ q∈Z,Calls Try.prog K (#[.agg #[.int .i64 ((q.1.c:Nat):Int),.int .i64 ((q.1.m:Nat):Int),.slice q.2.1 q.1.cs.length q.2.2]]++caps) w' fun e w''=>e=.returned (.bool (pr q.1))∧Below w'.heap.size w' w''
def lwn (Z:List (Rcd × Option Addr × Nat)) (win:Nat):Nat:=if Z=[] then win else max 2 (win/2)
theorem filt_take {Z:List (Rcd × Option Addr × Nat)} {i:Nat} {q:Rcd × Option Addr × Nat} (h:Z[i]?=some q) (pr:Rcd × Option Addr × Nat→Bool):(Z.take (i+1)).filter pr=(Z.take i).filter pr++(if pr q=true then [q] else []):=by
 rw [List.take_add_one,h,List.filter_append]
 congr 1
 show List.filter pr [q]=_
 rw [List.filter_cons]
 rfl
theorem filt_len (Z:List (Rcd × Option Addr × Nat)) (i:Nat) (pr:Rcd × Option Addr × Nat→Bool):((Z.take i).filter pr).length≤Z.length:=by
 have h1:=List.length_filter_le pr (Z.take i); have h2:=List.length_take_le' i Z
 omega
theorem vtake21_any (w0 w:World) (B:Nat) (d:Dfl) (l:List (Nat × List Value)) (M:Mm w0 ((B,ppc d)::l) w) (V:w.ownsRow 0 72 3 (.slice d.sr d.Z.length d.cr) d.Z.length (rcs d.Z)) (hz:d.Z.length<1000000000) (fv:Value) (pr:Rcd→Bool) (hF:Clo21 w fv pr d.Z) :
 Calls Try.prog 37 #[.pointer (some ⟨B,0,none⟩),fv] w fun e w'=>∃ st ct sl cl,e=.returned (.slice st (d.Z.filter fun q=>pr q.1).length ct)∧w'.ownsRow w.heap.size 72 3 (.slice st (d.Z.filter fun q=>pr q.1).length ct) (d.Z.filter fun q=>pr q.1).length (rcs (d.Z.filter fun q=>pr q.1))∧w'.ownsRow w.heap.size 72 3 (.slice sl (d.Z.filter fun q=>!pr q.1).length cl) (d.Z.filter fun q=>!pr q.1).length (rcs (d.Z.filter fun q=>!pr q.1))∧Mm w0 ((B,ppc { d with Z:=(d.Z.filter fun q=>!pr q.1),sr:=sl,cr:=cl })::(obs sl++l)) w'∧Off [B] w w':=by
 obtain ⟨K,caps,rfl,hk,hs⟩:=hF.is
 replace M:Mm w0 ((B,[.int .i64 ((d.win:Nat):Int),.int .i64 (pnx d.top),.slice d.sr d.Z.length d.cr])::l) w:=M
 go_enter Try.func37,Try.ntmps37
 go_upto_region 0 with fail; refine wp_region_list ?_; refine xpL (.slice none 0 0) ?_; refine xT ?_; go_upto_region 1 with fail; refine wp_region_list ?_; refine xpL (.slice none 0 0) ?_; refine xpL (.slice none 0 0) ?_; refine xT ?_; go_upto_region 2 with fail; refine wp_region_list ?_; refine xpL (.pointer (some ⟨B,0,none⟩)) ?_; refine xpL (.pointer (some ⟨B,0,none⟩)) ?_
 refine xpL (.pointer (some ⟨B,2,none⟩)) ?_; refine xaL (.slice d.sr d.Z.length d.cr) (load1 61 _ ⟨B,2,none⟩ _ rfl rfl (fun _=>by kernel_rfl) (M.get mS 2 _ rfl)) ?_; refine xaL (.int .i64 ((d.Z.length:Nat):Int)) (lenS _ 61 72 d.sr d.Z.length d.cr rfl Try.underlying61 rfl _) ?_; refine xpL (.int .i64 0) ?_; refine xT ?_; have HI:=show Hid _ from M; have hBlt:=M.lt mS
 have HM0:=M.below.size; have HLT:=fun x (hx:x∈l.map Prod.fst)=>M.lts21 (a:=[_]) hx; clear M; go_wp2
 go_loopw [5,6,14] (fun a_ b_ v_ w'=>∃ (i':Nat) (st sl:Option Addr) (ct cl:Nat),i'≤d.Z.length∧a_=.slice st ((d.Z.take i').filter fun q=>pr q.1).length ct∧b_=.slice sl ((d.Z.take i').filter fun q=>!pr q.1).length cl∧v_=.int .i64 (i':Int)∧w'.ownsRow w.heap.size 72 3 (.slice st ((d.Z.take i').filter fun q=>pr q.1).length ct) ((d.Z.take i').filter fun q=>pr q.1).length (rcs ((d.Z.take i').filter fun q=>pr q.1))∧w'.ownsRow w.heap.size 72 3 (.slice sl ((d.Z.take i').filter fun q=>!pr q.1).length cl) ((d.Z.take i').filter fun q=>!pr q.1).length (rcs ((d.Z.take i').filter fun q=>!pr q.1))∧(∀ b∈ob st,b∉ob sl)∧Below w.heap.size w w') (fun _ _ v_ _=>d.Z.length-(intOf v_).toNat)
 case atStart=>exact ⟨0,none,none,0,0,Nat.zero_le _,rfl,rfl,rfl,World.ownsRow_nil _ _ _ _,World.ownsRow_nil _ _ _ _,(fun _ h _=>by cases h),Below.refl _ _⟩
 case round =>
  obtain ⟨i,st,sl,ct,cl,hi,rfl,rfl,rfl,Vt,Vl,hap,hB⟩:=hrel
  by_cases hil:i<d.Z.length
  · clear HI
    replace V:=ownsRow_bel V hB; have M:=Mm.init wr; go_upto_region 3 with fail; refine wp_region_list ?_; refine xaL (.bool true) (lssI .i64 _ _ _ _ _ _ rfl rfl rfl true (decide_eq_true (by omega)) _) ?_; refine xT ?_
    obtain ⟨q,hq⟩:∃ q,d.Z[i]?=some q:=⟨_,List.getElem?_eq_getElem hil⟩
    obtain ⟨g,hg⟩:=row_some5 V (by omega)
    have hl1:=filt_len d.Z i (fun q=>pr q.1); have hl0:=filt_len d.Z i (fun q=>!pr q.1); go_upto_region 4 with fail; refine wp_region_list ?_; refine xaL (.pointer (some ⟨g,i*3,none⟩)) (idxR3p g _ _ i d.sr hg (List.getElem?_eq_some_iff.1 hq).1 _ _ rfl rfl rfl _) ?_
    refine xaL (.agg #[.int .i64 ((q.1.c:Nat):Int),.int .i64 ((q.1.m:Nat):Int),.slice q.2.1 q.1.cs.length q.2.2]) (loadN 72 _ ⟨g,i*3,none⟩ [.int .i64 ((q.1.c:Nat):Int),.int .i64 ((q.1.m:Nat):Int),.slice q.2.1 q.1.cs.length q.2.2] rfl rfl (fun _=>by kernel_rfl) (fun _=>by kernel_rfl) (row_rec21 V hg hq)) ?_
    refine actL (w':=wr.alloc (.cells #[.int .i64 0,.int .i64 0,.slice none 0 0] 72)) (.pointer (some ⟨wr.heap.size,0,none⟩)) rfl (by kernel_rfl) ?_; simp only [aP,lI,l0,lS]
    have hB_B1:wr.heap.size≤wr.heap.size:=M.below.size
    replace M:=M.box #[.int .i64 0,.int .i64 0,.slice none 0 0] 72 wr.heap.size rfl; generalize wr.alloc (.cells #[.int .i64 0,.int .i64 0,.slice none 0 0] 72)=w1 at M  ⊢; generalize eB:wr.heap.size=B1 at M hB_B1  ⊢
    have hE_B1:wr.heap.size≤B1:=Nat.le_of_eq eB
    have hF_B1:B1≤wr.heap.size:=Nat.le_of_eq eB.symm
    clear eB
    replace M:Mm wr ((B1,[.int .i64 0,.int .i64 0,.slice none 0 0])::([]:List (Nat × List Value))) w1:=M
    refine skipOpL rfl (storeP [.int .i64 ((q.1.c:Nat):Int),.int .i64 ((q.1.m:Nat):Int),.slice q.2.1 q.1.cs.length q.2.2] B1 0 72 _ _ rfl rfl rfl (M.thereP mS 0 3 (Nat.le_of_ble_eq_true rfl)) (by kernel_rfl) (List.all_eq_true.1 (rfl:([.int .i64 ((q.1.c:Nat):Int),.int .i64 ((q.1.m:Nat):Int),.slice q.2.1 q.1.cs.length q.2.2]:List Value).all (fun u=>u.oneCell')=true))) ?_
    simp only [Act.put]; replace M:=M.setPart [.int .i64 ((q.1.c:Nat):Int),.int .i64 ((q.1.m:Nat):Int),.slice q.2.1 q.1.cs.length q.2.2] 0 (Nat.le_of_ble_eq_true rfl); generalize w1.setCells B1 0 [.int .i64 ((q.1.c:Nat):Int),.int .i64 ((q.1.m:Nat):Int),.slice q.2.1 q.1.cs.length q.2.2]=w2 at M  ⊢
    replace M:Mm wr ((B1,[.int .i64 ((q.1.c:Nat):Int),.int .i64 ((q.1.m:Nat):Int),.slice q.2.1 q.1.cs.length q.2.2])::([]:List (Nat × List Value))) w2:=M
    refine xT ?_
    cases hb:pr q.1 with
    | true =>
      go_upto_region 5 with fail; refine wp_region_list ?_; refine xpL (.func (.func K) #[] caps) ?_
      refine xaL (.agg #[.int .i64 ((q.1.c:Nat):Int),.int .i64 ((q.1.m:Nat):Int),.slice q.2.1 q.1.cs.length q.2.2]) (loadN 72 _ ⟨B1,0,none⟩ [.int .i64 ((q.1.c:Nat):Int),.int .i64 ((q.1.m:Nat):Int),.slice q.2.1 q.1.cs.length q.2.2] rfl rfl (fun _=>by kernel_rfl) (fun _=>by kernel_rfl) (M.rangeAt mS)) ?_
      have key:=hs w2 (hB.trans (M.below.mono hB.size)) q (List.mem_of_getElem? hq)
      rw [hb] at key
      refine callL rfl (fun _=>by rcases hk with ⟨rfl,c_,d_,rfl⟩ | ⟨rfl | rfl,c_,rfl⟩ <;> kernel_rfl) key ?_; clear key; rintro e w3 ⟨rfl,l_⟩; replace M:=M.call l_; clear l_
      refine ⟨_,rfl,?_⟩
      simp only [aP,lI,l0,lS]; refine xT ?_; go_upto_region 6 with fail; refine wp_region_list ?_; refine xpL (.slice st (((d.Z.take i).filter fun q=>pr q.1).length) ct) ?_
      refine xaL (.agg #[.int .i64 ((q.1.c:Nat):Int),.int .i64 ((q.1.m:Nat):Int),.slice q.2.1 q.1.cs.length q.2.2]) (loadN 72 _ ⟨B1,0,none⟩ [.int .i64 ((q.1.c:Nat):Int),.int .i64 ((q.1.m:Nat):Int),.slice q.2.1 q.1.cs.length q.2.2] rfl rfl (fun _=>by kernel_rfl) (fun _=>by kernel_rfl) (M.rangeAt mS)) ?_
      have hlb:=(Below.refl w3.heap.size w3).alloc (xnR _) (.cells #[.int .i64 ((q.1.c:Nat):Int),.int .i64 ((q.1.m:Nat):Int),.slice q.2.1 q.1.cs.length q.2.2] 72)
      have T_b:=World.ownsRow.cells (World.ownsRow_lit (base:=w3.heap.size) (e:=72) (size:=3) w3 #[.int .i64 ((q.1.c:Nat):Int),.int .i64 ((q.1.m:Nat):Int),.slice q.2.1 q.1.cs.length q.2.2] 1 (xnR _) (by unfold maxLen; omega) rfl) (g:=w3.heap.size) rfl
      refine actL (w':=w3.alloc (.cells #[.int .i64 ((q.1.c:Nat):Int),.int .i64 ((q.1.m:Nat):Int),.slice q.2.1 q.1.cs.length q.2.2] 72)) (.slice (some ⟨w3.heap.size,0,none⟩) 1 1) rfl (by kernel_rfl) ?_; simp only [aP,lI,l0,lS]; replace M:=M.call hlb; clear hlb
      generalize w3.alloc (.cells #[.int .i64 ((q.1.c:Nat):Int),.int .i64 ((q.1.m:Nat):Int),.slice q.2.1 q.1.cs.length q.2.2] 72)=w4 at M T_b ⊢; generalize w3.heap.size=bz at T_b ⊢; replace Vt:=ownsRow_bel Vt M.below; replace Vl:=ownsRow_bel Vl M.below; have hB1:=hB.trans (M.below.mono hB.size)
      obtain ⟨v2,w9,hr,V2,hgr,hg2⟩:=run_append_OwnV (P:=Try.prog) (ty:=61) Try.underlying61 manyP rfl (by decide) Vt ⟨bz,0,none⟩ 1 1 (rc1 q) rfl T_b (fun u hu=>rcs_one [q] u (by rw [rcs_one1]; exact hu)) (by unfold maxLen; omega) (by omega) hB1.size
      have ho:=Off.grown (Off.refl (ob st) _) hgr (fun b_ hb_=>.inl ((ob_own _ _ _ b_).1 hb_)); have hlo:=fun b_ hb_=>(World.ownsRow.lt Vl b_ hb_).2; replace Vl:=ownsRow_away Vl ho hap; have hB2:=hB1.grown hgr hB1.size (fun b_ hb_=>(World.ownsRow.lt Vt b_ hb_).1)
      obtain ⟨sv,cv,rfl,_,_⟩:=row_form16 V2
      have hap2:∀ b∈ob sv,b∉ob sl:=fun b h1 h2=>by
       rcases hg2 b ((ob_own sv _ cv b).2 h1) with h | h
       · exact hap b ((ob_own _ _ _ b).1 h) h2
       · have:=hlo b ((ob_own _ _ _ b).2 h2)
         omega
      refine xaL _ (appendOp _ _ 61 _ _ _ rfl rfl rfl hr) ?_; clear hr hgr hg2 ho hlo M hB1 T_b Vt
      have e1_:((d.Z.take i).filter fun q=>pr q.1)++[q]=((d.Z.take (i+1)).filter fun q=>pr q.1):=by rw [filt_take hq]; simp [hb]
      have e2_:((d.Z.take i).filter fun q=>!pr q.1)=((d.Z.take (i+1)).filter fun q=>!pr q.1):=by rw [filt_take hq]; simp [hb]
      rw [← rcs_one1,← rcs_app,e1_,show ((d.Z.take i).filter fun q=>pr q.1).length+1=((d.Z.take (i+1)).filter fun q=>pr q.1).length by rw [← e1_,List.length_append]; rfl] at V2
      rw [show ((d.Z.take i).filter fun q=>pr q.1).length+1=((d.Z.take (i+1)).filter fun q=>pr q.1).length by rw [← e1_,List.length_append]; rfl]
      rw [e2_] at Vl
      refine xpL (.slice sv (((d.Z.take (i+1)).filter fun q=>pr q.1).length) cv) ?_; refine xT ?_; have HS:=show Hid _ from (And.intro V2 (And.intro Vl (And.intro hap2 hB2))); have hee:=show Hid _ from e2_; clear V2 Vl hap2 hB2 hB V hap e1_ e2_; go_wp2
      go_roundw
      case rel=>exact ⟨i+1,sv,sl,cv,cl,by omega,rfl,by rw [hee.out],by go_num,HS.out⟩
      case measure=>simp [intOf]; omega
    | false =>
      go_upto_region 5 with fail; refine wp_region_list ?_; refine xpL (.func (.func K) #[] caps) ?_
      refine xaL (.agg #[.int .i64 ((q.1.c:Nat):Int),.int .i64 ((q.1.m:Nat):Int),.slice q.2.1 q.1.cs.length q.2.2]) (loadN 72 _ ⟨B1,0,none⟩ [.int .i64 ((q.1.c:Nat):Int),.int .i64 ((q.1.m:Nat):Int),.slice q.2.1 q.1.cs.length q.2.2] rfl rfl (fun _=>by kernel_rfl) (fun _=>by kernel_rfl) (M.rangeAt mS)) ?_
      have key:=hs w2 (hB.trans (M.below.mono hB.size)) q (List.mem_of_getElem? hq)
      rw [hb] at key
      refine callL rfl (fun _=>by rcases hk with ⟨rfl,c_,d_,rfl⟩ | ⟨rfl | rfl,c_,rfl⟩ <;> kernel_rfl) key ?_; clear key; rintro e w5 ⟨rfl,l_⟩; replace M:=M.call l_; clear l_
      refine ⟨_,rfl,?_⟩
      simp only [aP,lI,l0,lS]; refine xT ?_; go_upto_region 7 with fail; refine wp_region_list ?_; refine xpL (.slice sl (((d.Z.take i).filter fun q=>!pr q.1).length) cl) ?_
      refine xaL (.agg #[.int .i64 ((q.1.c:Nat):Int),.int .i64 ((q.1.m:Nat):Int),.slice q.2.1 q.1.cs.length q.2.2]) (loadN 72 _ ⟨B1,0,none⟩ [.int .i64 ((q.1.c:Nat):Int),.int .i64 ((q.1.m:Nat):Int),.slice q.2.1 q.1.cs.length q.2.2] rfl rfl (fun _=>by kernel_rfl) (fun _=>by kernel_rfl) (M.rangeAt mS)) ?_
      have hlb:=(Below.refl w5.heap.size w5).alloc (xnR _) (.cells #[.int .i64 ((q.1.c:Nat):Int),.int .i64 ((q.1.m:Nat):Int),.slice q.2.1 q.1.cs.length q.2.2] 72)
      have T_b:=World.ownsRow.cells (World.ownsRow_lit (base:=w5.heap.size) (e:=72) (size:=3) w5 #[.int .i64 ((q.1.c:Nat):Int),.int .i64 ((q.1.m:Nat):Int),.slice q.2.1 q.1.cs.length q.2.2] 1 (xnR _) (by unfold maxLen; omega) rfl) (g:=w5.heap.size) rfl
      refine actL (w':=w5.alloc (.cells #[.int .i64 ((q.1.c:Nat):Int),.int .i64 ((q.1.m:Nat):Int),.slice q.2.1 q.1.cs.length q.2.2] 72)) (.slice (some ⟨w5.heap.size,0,none⟩) 1 1) rfl (by kernel_rfl) ?_; simp only [aP,lI,l0,lS]; replace M:=M.call hlb; clear hlb
      generalize w5.alloc (.cells #[.int .i64 ((q.1.c:Nat):Int),.int .i64 ((q.1.m:Nat):Int),.slice q.2.1 q.1.cs.length q.2.2] 72)=w6 at M T_b ⊢; generalize w5.heap.size=bz at T_b ⊢; replace Vt:=ownsRow_bel Vt M.below; replace Vl:=ownsRow_bel Vl M.below; have hB1:=hB.trans (M.below.mono hB.size)
      obtain ⟨v2,w9,hr,V2,hgr,hg2⟩:=run_append_OwnV (P:=Try.prog) (ty:=61) Try.underlying61 manyP rfl (by decide) Vl ⟨bz,0,none⟩ 1 1 (rc1 q) rfl T_b (fun u hu=>rcs_one [q] u (by rw [rcs_one1]; exact hu)) (by unfold maxLen; omega) (by omega) hB1.size
      have ho:=Off.grown (Off.refl (ob sl) _) hgr (fun b_ hb_=>.inl ((ob_own _ _ _ b_).1 hb_)); have hlo:=fun b_ hb_=>(World.ownsRow.lt Vt b_ hb_).2; replace Vt:=ownsRow_away Vt ho (fun b_ h1_ h2_=>hap b_ h2_ h1_); have hB2:=hB1.grown hgr hB1.size (fun b_ hb_=>(World.ownsRow.lt Vl b_ hb_).1)
      obtain ⟨sv,cv,rfl,_,_⟩:=row_form16 V2
      have hap2:∀ b∈ob sv,b∉ob st:=fun b h1 h2=>by
       rcases hg2 b ((ob_own sv _ cv b).2 h1) with h | h
       · exact hap b h2 ((ob_own _ _ _ b).1 h)
       · have:=hlo b ((ob_own _ _ _ b).2 h2)
         omega
      refine xaL _ (appendOp _ _ 61 _ _ _ rfl rfl rfl hr) ?_; clear hr hgr hg2 ho hlo M hB1 T_b Vl
      have e1_:((d.Z.take i).filter fun q=>!pr q.1)++[q]=((d.Z.take (i+1)).filter fun q=>!pr q.1):=by rw [filt_take hq]; simp [hb]
      have e2_:((d.Z.take i).filter fun q=>pr q.1)=((d.Z.take (i+1)).filter fun q=>pr q.1):=by rw [filt_take hq]; simp [hb]
      rw [← rcs_one1,← rcs_app,e1_,show ((d.Z.take i).filter fun q=>!pr q.1).length+1=((d.Z.take (i+1)).filter fun q=>!pr q.1).length by rw [← e1_,List.length_append]; rfl] at V2
      rw [show ((d.Z.take i).filter fun q=>!pr q.1).length+1=((d.Z.take (i+1)).filter fun q=>!pr q.1).length by rw [← e1_,List.length_append]; rfl]
      rw [e2_] at Vt
      refine xpL (.slice sv (((d.Z.take (i+1)).filter fun q=>!pr q.1).length) cv) ?_; refine xT ?_; have HS:=show Hid _ from (And.intro Vt (And.intro V2 (And.intro (fun b h1 h2=>hap2 b h2 h1) hB2))); have hee:=show Hid _ from e2_; clear V2 Vt hap2 hB2 hB V hap e1_ e2_; go_wp2
      go_roundw
      case rel=>exact ⟨i+1,st,sv,ct,cv,by omega,by rw [hee.out],rfl,by go_num,HS.out⟩
      case measure=>simp [intOf]; omega
  · have e_:d.Z.take i=d.Z:=List.take_of_length_le (by omega)
    rw [e_] at Vt Vl
    rw [e_]
    have M:=HI.out.call hB; have OF:=Off.of_below (X:=[B]) hB; have V_t:=Vt; have V_l:=Vl; clear HI Vt Vl
    have hBw:B<w.heap.size:=hBlt
    go_upto_region 3 with fail; refine wp_region_list ?_; refine xaL (.bool false) (lssI .i64 _ _ _ _ _ _ rfl rfl rfl false (decide_eq_false (by omega)) _) ?_; refine xT ?_; go_upto_region 9 with fail; refine wp_region_list ?_; refine xpL (.pointer (some ⟨B,0,none⟩)) ?_; refine xpL (.slice sl ((d.Z.filter fun q=>!pr q.1).length) cl) ?_; refine xpL (.pointer (some ⟨B,0,none⟩)) ?_
    refine xpL (.pointer (some ⟨B,2,none⟩)) ?_; refine skipOpL rfl (storeAny (.slice sl ((d.Z.filter fun q=>!pr q.1).length) cl) B 2 61 _ _ rfl rfl rfl rfl rfl (M.isSome mS 2 (by simp)) (M.free mS 2 (by simp)) (by kernel_rfl)) ?_; simp only [Act.put]; replace M:=M.set 2 (by simp) (.slice sl ((d.Z.filter fun q=>!pr q.1).length) cl)
    replace V_t:=ownsRow_away V_t ((Off.refl [B] _).set (b:=B) mS 2 (.slice sl ((d.Z.filter fun q=>!pr q.1).length) cl)) (fun b_ hb_ hm_=>by obtain rfl:=xm1 hb_; have:=(World.ownsRow.lt V_t _ ((ob_own _ _ _ _).2 hm_)).1; omega)
    replace V_l:=ownsRow_away V_l ((Off.refl [B] _).set (b:=B) mS 2 (.slice sl ((d.Z.filter fun q=>!pr q.1).length) cl)) (fun b_ hb_ hm_=>by obtain rfl:=xm1 hb_; have:=(World.ownsRow.lt V_l _ ((ob_own _ _ _ _).2 hm_)).1; omega); replace OF:=OF.and1 ((Off.refl [B] _).set (b:=B) mS 2 (.slice sl ((d.Z.filter fun q=>!pr q.1).length) cl)) (.inl mS)
    generalize wr.setCell ⟨B,2,none⟩ (.slice sl ((d.Z.filter fun q=>!pr q.1).length) cl)=w7 at M V_t V_l OF ⊢
    replace M:Mm w0 ((B,[.int .i64 ((d.win:Nat):Int),.int .i64 (pnx d.top),.slice sl ((d.Z.filter fun q=>!pr q.1).length) cl])::l) w7:=M
    refine xT ?_; go_upto_region 10 with fail; refine wp_region_list ?_; refine xpL (.slice st ((d.Z.filter fun q=>pr q.1).length) ct) ?_; refine xpL (.slice st ((d.Z.filter fun q=>pr q.1).length) ct) ?_; refine xT ?_
    have M2:Mm w0 (obs sl++((B,ppc { d with Z:=(d.Z.filter fun q=>!pr q.1),sr:=sl,cr:=cl })::l)) w7:=Mm.own21 M V_l (by have:=HM0; omega) (fun b hb hm=>by rcases xc1 hm with rfl | hm; omega; exact absurd hb (by have:=HLT _ hm; omega))
    have HS:=show Hid _ from (And.intro V_t (And.intro V_l (And.intro (M2.perm List.perm_middle) OF))); clear M M2 V_t V_l OF hB hap; go_wp2; go_ret
    exact ⟨st,ct,sl,cl,rfl,HS.out⟩
theorem vlose21_any (w0 w:World) (B:Nat) (d:Dfl) (l:List (Nat × List Value)) (M:Mm w0 ((B,ppc d)::l) w) (P:POK w d) (hz:d.Z.length<1000000000) (hs:(sall (d.Z.map Prod.fst)).length<1000000000) (hw:d.win≤32) (hC:B∉(gks d.Z).map Prod.fst) (fv:Value) (pr:Rcd→Bool) (hF:Clo21 w fv pr d.Z) :
 Calls Try.prog 40 #[.pointer (some ⟨B,0,none⟩),fv] w fun e w'=>∃ sq cq sl cl,e=.returned (.slice sq (sall ((d.Z.filter fun q=>pr q.1).map Prod.fst)).length cq)∧w'.ownsRow w.heap.size 38 2 (.slice sq (sall ((d.Z.filter fun q=>pr q.1).map Prod.fst)).length cq) (sall ((d.Z.filter fun q=>pr q.1).map Prod.fst)).length (wrc (sall ((d.Z.filter fun q=>pr q.1).map Prod.fst)))∧w'.ownsRow w.heap.size 72 3 (.slice sl (d.Z.filter fun q=>!pr q.1).length cl) (d.Z.filter fun q=>!pr q.1).length (rcs (d.Z.filter fun q=>!pr q.1))∧Mm w0 (obs sq++((B,ppc { d with win:=lwn (d.Z.filter fun q=>pr q.1) d.win,Z:=(d.Z.filter fun q=>!pr q.1),sr:=sl,cr:=cl })::(obs sl++l))) w'∧Off [B] w w':=by
 have hBlt:=M.lt mS; have HM0:=M.below.size
 replace M:Mm w0 ((B,[.int .i64 ((d.win:Nat):Int),.int .i64 (pnx d.top),.slice d.sr d.Z.length d.cr])::l) w:=M
 have OF:=Off.refl [B] w
 go_enter Try.func40,Try.ntmps40
 go_upto_region 0 with fail; refine wp_region_list ?_; refine xpL (.slice none 0 0) ?_; refine xT ?_; go_upto_region 1 with fail; refine wp_region_list ?_; refine xpL (.pointer (some ⟨B,0,none⟩)) ?_; refine xpL (fv) ?_; have key:=vtake21_any w0 w B d l M P.V hz fv pr hF; refine xcL key ?_; clear key; rintro e w1 ⟨st,ct,sl,cl,rfl,V_t,V_l,M',o1⟩; replace OF:=OF.trans o1
 have hsz1:=o1.size; have K_:=P.K.off o1 (fun b hb=>by obtain rfl:=xm1 hb; exact hC); clear o1 M P hF; refine xeL ?_
 have M:Mm w0 ((B,[.int .i64 ((d.win:Nat):Int),.int .i64 (pnx d.top),.slice sl ((d.Z.filter fun q=>!pr q.1).length) cl])::(obs sl++l)) w1:=M'
 clear M'; refine xpL (.slice st ((d.Z.filter fun q=>pr q.1).length) ct) ?_; refine xT ?_
 by_cases hg:(d.Z.filter fun q=>pr q.1)=[]
 · replace hg:=show Hid _ from hg
   go_upto_region 2 with fail; refine wp_region_list ?_; refine xpL (.slice st ((d.Z.filter fun q=>pr q.1).length) ct) ?_; refine readL (.int .i64 (((d.Z.filter fun q=>pr q.1).length:Nat):Int)) rfl (lenS _ 61 72 st ((d.Z.filter fun q=>pr q.1).length) ct rfl Try.underlying61 rfl _) ?_; simp only [aP,lI,l0,lS]
   refine xaL (.bool false) (gtrI .i64 _ _ _ _ _ _ rfl rfl rfl false (decide_eq_false (by rw [hg.out]; decide)) _) ?_; refine xT ?_; go_upto_region 4 with fail; refine wp_region_list ?_; refine xpL (.slice st ((d.Z.filter fun q=>pr q.1).length) ct) ?_
   have key:=vcar21_any w.heap.size (d.Z.filter fun q=>pr q.1) st ct (by have:=List.length_filter_le (fun q:Rcd × Option Addr × Nat=>pr q.1) d.Z; omega) (by have:=sall_sub ((List.filter_sublist (p:=fun q:Rcd × Option Addr × Nat=>pr q.1) (l:=d.Z)).map Prod.fst); omega) w1 V_t (K_.sub fun q hq=>(List.mem_filter.1 hq).1); refine xcL key ?_; clear key
   rintro e w2 ⟨sq,cq,rfl,V_q,l_⟩; replace M:=M.newRow21 l_ V_q; replace V_q:=ownsRow_mono21 (b:=w.heap.size) V_q OF.size; replace OF:=OF.below l_; replace V_l:=ownsRow_bel V_l l_; clear l_ V_t K_; refine xeL ?_; refine xpL (.slice sq ((sall ((d.Z.filter fun q=>pr q.1).map Prod.fst)).length) cq) ?_; refine xT ?_
   have hN:=show Hid _ from (show lwn (d.Z.filter fun q=>pr q.1) d.win=d.win from if_pos hg.out); have HS:=show Hid _ from (And.intro V_q (And.intro V_l (And.intro M OF))); clear M V_q V_l OF; go_wp2; go_ret
   rw [hN.out]
   exact ⟨sq,cq,sl,cl,rfl,HS.out⟩
 · replace hg:=show Hid _ from hg
   go_upto_region 2 with fail; refine wp_region_list ?_; refine xpL (.slice st ((d.Z.filter fun q=>pr q.1).length) ct) ?_; refine readL (.int .i64 (((d.Z.filter fun q=>pr q.1).length:Nat):Int)) rfl (lenS _ 61 72 st ((d.Z.filter fun q=>pr q.1).length) ct rfl Try.underlying61 rfl _) ?_; simp only [aP,lI,l0,lS]
   refine xaL (.bool true) (gtrI .i64 _ _ _ _ _ _ rfl rfl rfl true (decide_eq_true (by have:=List.length_pos_iff.2 hg.out; omega)) _) ?_; refine xT ?_; go_upto_region 3 with fail; refine wp_region_list ?_; refine xpL (.pointer (some ⟨B,0,none⟩)) ?_; refine xpL (.pointer (some ⟨B,0,none⟩)) ?_; refine xpL (.pointer (some ⟨B,0,none⟩)) ?_; refine xpL (.pointer (some ⟨B,0,none⟩)) ?_
   refine xaL (.int .i64 ((d.win:Nat):Int)) (load1 3 _ ⟨B,0,none⟩ _ rfl rfl (fun _=>by kernel_rfl) (M.get mS 0 _ rfl)) ?_
   refine xaL (.int .i64 ((d.win/2:Nat):Int)) (quoI .i64 _ 2 _ _ _ _ _ rfl rfl rfl (by decide) (by rw [Int.tdiv_eq_ediv_of_nonneg (by omega),xw6]; omega) _) ?_
   refine readL (.int .i64 ((max 2 (d.win/2):Nat):Int)) rfl (maxI .i64 .i64 _ _ _ _ _ _ _ rfl rfl rfl (by split <;> omega) _) ?_; simp only [aP,lI,l0,lS]; refine xpL (.pointer (some ⟨B,0,none⟩)) ?_; refine xpL (.pointer (some ⟨B,0,none⟩)) ?_
   refine skipOpL rfl (storeAny (.int .i64 ((max 2 (d.win/2):Nat):Int)) B 0 3 _ _ rfl rfl rfl rfl rfl (M.isSome mS 0 (by simp)) (M.free mS 0 (by simp)) (by kernel_rfl)) ?_; simp only [Act.put]; replace M:=M.set 0 (by simp) (.int .i64 ((max 2 (d.win/2):Nat):Int)); replace OF:=OF.and1 ((Off.refl [B] _).set (b:=B) mS 0 (.int .i64 ((max 2 (d.win/2):Nat):Int))) (.inl mS)
   replace V_t:=ownsRow_away V_t ((Off.refl [B] _).set (b:=B) mS 0 (.int .i64 ((max 2 (d.win/2):Nat):Int))) (fun b_ hb_ hm_=>by obtain rfl:=xm1 hb_; have:=(World.ownsRow.lt V_t _ ((ob_own _ _ _ _).2 hm_)).1; omega)
   replace V_l:=ownsRow_away V_l ((Off.refl [B] _).set (b:=B) mS 0 (.int .i64 ((max 2 (d.win/2):Nat):Int))) (fun b_ hb_ hm_=>by obtain rfl:=xm1 hb_; have:=(World.ownsRow.lt V_l _ ((ob_own _ _ _ _).2 hm_)).1; omega); replace K_:=K_.off ((Off.refl [B] _).set (b:=B) mS 0 (.int .i64 ((max 2 (d.win/2):Nat):Int))) (fun b hb=>by obtain rfl:=xm1 hb; exact hC)
   generalize w1.setCell ⟨B,0,none⟩ (.int .i64 ((max 2 (d.win/2):Nat):Int))=w3 at M OF V_t V_l K_ ⊢
   replace M:Mm w0 ((B,[.int .i64 ((max 2 (d.win/2):Nat):Int),.int .i64 (pnx d.top),.slice sl ((d.Z.filter fun q=>!pr q.1).length) cl])::(obs sl++l)) w3:=M
   refine xT ?_; go_upto_region 4 with fail; refine wp_region_list ?_; refine xpL (.slice st ((d.Z.filter fun q=>pr q.1).length) ct) ?_
   have key:=vcar21_any w.heap.size (d.Z.filter fun q=>pr q.1) st ct (by have:=List.length_filter_le (fun q:Rcd × Option Addr × Nat=>pr q.1) d.Z; omega) (by have:=sall_sub ((List.filter_sublist (p:=fun q:Rcd × Option Addr × Nat=>pr q.1) (l:=d.Z)).map Prod.fst); omega) w3 V_t (K_.sub fun q hq=>(List.mem_filter.1 hq).1); refine xcL key ?_; clear key
   rintro e w4 ⟨sq,cq,rfl,V_q,l_⟩; replace M:=M.newRow21 l_ V_q; replace V_q:=ownsRow_mono21 (b:=w.heap.size) V_q OF.size; replace OF:=OF.below l_; replace V_l:=ownsRow_bel V_l l_; clear l_ V_t K_; refine xeL ?_; refine xpL (.slice sq ((sall ((d.Z.filter fun q=>pr q.1).map Prod.fst)).length) cq) ?_; refine xT ?_
   have hN:=show Hid _ from (show lwn (d.Z.filter fun q=>pr q.1) d.win=max 2 (d.win/2) from if_neg hg.out); have HS:=show Hid _ from (And.intro V_q (And.intro V_l (And.intro M OF))); clear M V_q V_l OF; go_wp2; go_ret
   rw [hN.out]
   exact ⟨sq,cq,sl,cl,rfl,HS.out⟩
theorem vat21_any (w0 w:World) (R:Nat) (p:Int) (m:Option Nat) (E:Pes) (C l:List (Nat × List Value)) (s:Sch) (hI:PIn w s p m E C) (M:Mm w0 (pow R s p m E++(C++l)) w) (id:Int) (hid:i64 id) :
 Calls Try.prog 31 #[.pointer (some ⟨R,0,none⟩),.int .i64 id] w fun e w'=>∃ B d X,e=.returned (.pointer (some ⟨B,0,none⟩))∧Mm w0 ((B,ppc d)::(obs d.sr++X)) w'∧POK w' d∧d.f=sgf s id∧(∀ q∈gks d.Z,q∈C)∧Below w.heap.size w w'∧Back w s R p m E (C++l) id B d X:=by
 replace M:Mm w0 ((R,[.int .i64 p,.int .u64 (s.last+1),.map m])::((mbk m++gp E)++(C++l))) w:=M
 have M0:=show Hid _ from M
 go_enter Try.func31,Try.ntmps31
 go_upto_region 0 with fail; refine wp_region_list ?_; refine xpL (.pointer none) ?_; refine xT ?_
 rcases plk_cases E id with ⟨h1,h2⟩ | ⟨A,B,d,F,rfl,h2,h3,h4,h5⟩
 · go_upto_region 1 with fail
   refine wp_region_list ?_; refine xpL (.pointer (some ⟨R,0,none⟩)) ?_; refine xpL (.pointer (some ⟨R,0,none⟩)) ?_; refine xpL (.pointer (some ⟨R,2,none⟩)) ?_; refine xaL (.map m) (load1 53 _ ⟨R,2,none⟩ _ rfl rfl (fun _=>by kernel_rfl) (M.get mS 2 _ rfl)) ?_; refine xpL (.int .i64 id) ?_
   refine xaL (.tuple #[.pointer none,.bool false]) (lookOk21 hI.map Try.underlying53 (.pointer none) (fun _=>by kernel_rfl) id hid (.pointer none) (by unfold pmf; rw [h1]; rfl) false (by unfold pmf; rw [h1]; rfl) _ _ rfl rfl rfl) ?_; refine xpL (.tuple #[.pointer none,.bool false]) ?_; refine xpL (.pointer none) ?_; refine xpL (.bool false) ?_; refine xpL (.pointer none) ?_
   refine xpL (.bool false) ?_; refine xT ?_; go_upto_region 2 with fail; refine wp_region_list ?_; refine xpL (.bool false) ?_; refine xT ?_; have lb_:=Below.refl w.heap.size w; go_upto_region 4 with fail; refine wp_region_list ?_; refine xpL (.agg #[.int .i64 0,.int .i64 0,.slice none 0 0]) ?_
   refine actL (w':=w.alloc (.cells #[.int .i64 0,.int .i64 0,.slice none 0 0] 63)) (.pointer (some ⟨w.heap.size,0,none⟩)) rfl (by kernel_rfl) ?_; simp only [aP,lI,l0,lS]; have hlb:=(Below.refl w.heap.size w).alloc (xnR _) (.cells #[.int .i64 0,.int .i64 0,.slice none 0 0] 63); replace lb_:=lb_.trans (hlb.mono lb_.size); clear hlb
   have hB_B1:w0.heap.size≤w.heap.size:=M.below.size
   replace M:=M.box #[.int .i64 0,.int .i64 0,.slice none 0 0] 63 w.heap.size rfl; generalize w.alloc (.cells #[.int .i64 0,.int .i64 0,.slice none 0 0] 63)=w1 at M lb_ ⊢; generalize eB:w.heap.size=B1 at M hB_B1  ⊢
   have hE_B1:w.heap.size≤B1:=Nat.le_of_eq eB
   have hF_B1:B1≤w.heap.size:=Nat.le_of_eq eB.symm
   clear eB
   replace M:Mm w0 ((B1,[.int .i64 0,.int .i64 0,.slice none 0 0])::(R,[.int .i64 p,.int .u64 (s.last+1),.map m])::((mbk m++gp E)++(C++l))) w1:=M
   refine xpL (.pointer (some ⟨B1,0,none⟩)) ?_; refine xT ?_; have HS:=show Hid _ from (show Mm w0 ((B1,ppc dno)::(obs dno.sr++((R,prc s p m)::(mbk m++(gp E++(C++l)))))) w1 by have h_:=M; rw [List.append_assoc] at h_; exact h_); have hbel:=show Hid _ from (show Below w.heap.size w w1 from lb_)
   have hsg:=show Hid _ from (show dno.f=sgf s id by unfold sgf; rw [← hI.lst,h2]; rfl); have hfd:=show Hid _ from (show sfd s.L id=none by rw [← hI.lst]; exact h2); clear M M0 lb_; go_wp2; go_ret
   exact ⟨B1,dno,_,rfl,HS.out,dno_ok _,hsg.out,(fun q hq=>by cases hq),hbel.out,.inr ⟨hfd.out,rfl,hE_B1,rfl⟩⟩
 · go_upto_region 1 with fail
   refine wp_region_list ?_; refine xpL (.pointer (some ⟨R,0,none⟩)) ?_; refine xpL (.pointer (some ⟨R,0,none⟩)) ?_; refine xpL (.pointer (some ⟨R,2,none⟩)) ?_; refine xaL (.map m) (load1 53 _ ⟨R,2,none⟩ _ rfl rfl (fun _=>by kernel_rfl) (M.get mS 2 _ rfl)) ?_; refine xpL (.int .i64 id) ?_
   refine xaL (.tuple #[.pointer (some ⟨B,0,none⟩),.bool true]) (lookOk21 hI.map Try.underlying53 (.pointer none) (fun _=>by kernel_rfl) id hid (.pointer (some ⟨B,0,none⟩)) (by unfold pmf; rw [h4]; rfl) true (by unfold pmf; rw [h4]; rfl) _ _ rfl rfl rfl) ?_; refine xpL (.tuple #[.pointer (some ⟨B,0,none⟩),.bool true]) ?_; refine xpL (.pointer (some ⟨B,0,none⟩)) ?_
   refine xpL (.bool true) ?_; refine xpL (.pointer (some ⟨B,0,none⟩)) ?_; refine xpL (.bool true) ?_; refine xT ?_; go_upto_region 2 with fail; refine wp_region_list ?_; refine xpL (.bool true) ?_; refine xT ?_; go_upto_region 3 with fail; refine wp_region_list ?_; refine xpL (.pointer (some ⟨B,0,none⟩)) ?_; refine xpL (.pointer (some ⟨B,0,none⟩)) ?_; refine xT ?_
   have HS:=show Hid _ from Mm.fetch21 (show Mm w0 (pow R s p m (A++(B,d)::F)++(C++l)) w from M0.out); have hP:=show Hid _ from hI.ok (B,d) (by simp); have hck:=show Hid _ from hI.ck (B,d) (by simp); have hsg:=show Hid _ from (show d.f=sgf s id by unfold sgf; rw [← hI.lst,h5]; rfl); clear M M0; go_wp2; go_ret
   exact ⟨B,rfl,d,_,HS.out,hP.out,hsg.out,(fun a b hq=>hck.out (a,b) hq),Below.refl _ _,.inl ⟨A,F,rfl,h2,h3,rfl⟩⟩
theorem vwin21_any (w0 w:World) (R:Nat) (p:Int) (m:Option Nat) (E:Pes) (C l:List (Nat × List Value)) (s:Sch) (hI:PIn w s p m E C) (M:Mm w0 (pow R s p m E++(C++l)) w) (id:Int) (hid:i64 id) :
 Calls Try.prog 26 #[.pointer (some ⟨R,0,none⟩),.int .i64 id] w fun e w'=>e=.returned (.int .i64 ((swn s id:Nat):Int))∧Below w.heap.size w w':=by
 replace M:Mm w0 ((R,[.int .i64 p,.int .u64 (s.last+1),.map m])::((mbk m++gp E)++(C++l))) w:=M
 go_enter Try.func26,Try.ntmps26
 go_upto_region 0 with fail; refine wp_region_list ?_; refine xpL (.int .i64 0) ?_; refine xT ?_; go_upto_region 1 with fail; refine wp_region_list ?_; refine xpL (.pointer (some ⟨R,0,none⟩)) ?_; refine xpL (.int .i64 id) ?_; have key:=vat21_any w0 w R p m E C l s hI M id hid; refine xcL key ?_; clear key; rintro e w2 ⟨B,d,X,rfl,M',P,hdf,hck,lb,hbk⟩; clear M
 have M:Mm w0 ((B,[.int .i64 ((d.win:Nat):Int),.int .i64 (pnx d.top),.slice d.sr d.Z.length d.cr])::(obs d.sr++X)) w2:=M'
 clear M'; refine xeL ?_; refine xpL (.pointer (some ⟨B,0,none⟩)) ?_; refine xpL (.pointer (some ⟨B,0,none⟩)) ?_; refine xaL (.int .i64 ((d.win:Nat):Int)) (load1 3 _ ⟨B,0,none⟩ _ rfl rfl (fun _=>by kernel_rfl) (M.get mS 0 _ rfl)) ?_; refine xpL (.int .i64 ((d.win:Nat):Int)) ?_; refine xT ?_
 have hE:=show Hid _ from (show swn s id=d.win by rw [swn_is,← hdf]; first | rfl | exact List.length_map ..); clear M hbk; go_wp2; go_ret
 exact ⟨by rw [hE.out]; try rfl,lb⟩
theorem vund21_any (w0 w:World) (R:Nat) (p:Int) (m:Option Nat) (E:Pes) (C l:List (Nat × List Value)) (s:Sch) (hI:PIn w s p m E C) (M:Mm w0 (pow R s p m E++(C++l)) w) (id:Int) (hid:i64 id) :
 Calls Try.prog 28 #[.pointer (some ⟨R,0,none⟩),.int .i64 id] w fun e w'=>e=.returned (.int .i64 ((sun s id:Nat):Int))∧Below w.heap.size w w':=by
 replace M:Mm w0 ((R,[.int .i64 p,.int .u64 (s.last+1),.map m])::((mbk m++gp E)++(C++l))) w:=M
 go_enter Try.func28,Try.ntmps28
 go_upto_region 0 with fail; refine wp_region_list ?_; refine xpL (.int .i64 0) ?_; refine xT ?_; go_upto_region 1 with fail; refine wp_region_list ?_; refine xpL (.pointer (some ⟨R,0,none⟩)) ?_; refine xpL (.int .i64 id) ?_; have key:=vat21_any w0 w R p m E C l s hI M id hid; refine xcL key ?_; clear key; rintro e w2 ⟨B,d,X,rfl,M',P,hdf,hck,lb,hbk⟩; clear M
 have M:Mm w0 ((B,[.int .i64 ((d.win:Nat):Int),.int .i64 (pnx d.top),.slice d.sr d.Z.length d.cr])::(obs d.sr++X)) w2:=M'
 clear M'; refine xeL ?_; refine xpL (.pointer (some ⟨B,0,none⟩)) ?_; refine xpL (.pointer (some ⟨B,2,none⟩)) ?_; refine xaL (.slice d.sr d.Z.length d.cr) (load1 61 _ ⟨B,2,none⟩ _ rfl rfl (fun _=>by kernel_rfl) (M.get mS 2 _ rfl)) ?_; refine xaL (.int .i64 ((d.Z.length:Nat):Int)) (lenS _ 61 72 d.sr d.Z.length d.cr rfl Try.underlying61 rfl _) ?_
 refine xpL (.int .i64 ((d.Z.length:Nat):Int)) ?_; refine xT ?_; have hE:=show Hid _ from (show sun s id=d.Z.length by rw [sun_is,← hdf]; first | rfl | exact List.length_map ..); clear M hbk; go_wp2; go_ret
 exact ⟨by rw [hE.out]; try rfl,lb⟩
def PK21 (w:World) (E:Pes):Prop:=∀ e∈E,POK w e.2
theorem PK21.off {w w':World} {E:Pes} {C X:List (Nat × List Value)} {Y:List Nat} (h:PK21 w E) (hck:∀ e∈E,∀ q∈gks e.2.Z,q∈C) (o:Off Y w w') (h2:∀ b∈Y,b∉X.map Prod.fst) (hX:∀ q∈gp E++C,q∈X):PK21 w' E:=fun e he=>(h e he).off o (fun b hb hm=>h2 b hb (mem_bl (q:=(b,[])) (hX _ (List.mem_append_left _ (gp_mem he (mT _ (List.mem_map.2 ⟨b,hm,rfl⟩))))))) (fun b hb hm=>by
 obtain ⟨q,hq,rfl⟩:=List.mem_map.1 hm
 exact h2 q.1 hb (mem_bl (hX _ (List.mem_append_right _ (hck e he q hq)))))
theorem PK21.below {w w':World} {E:Pes} (h:PK21 w E) (l:Below w.heap.size w w'):PK21 w' E:=fun e he=>(h e he).below l
theorem plk_app (E:Pes) (B:Nat) (d:Dfl) (x:Int):plk (E++[(B,d)]) x=match plk E x with | some b=>some b | none=>if ((d.n:Nat):Int)=x then some B else none:=by
 induction E with
 | nil=>rfl
 | cons e E ih =>
   show (if ((e.2.n:Nat):Int)=x then some e.1 else plk (E++[(B,d)]) x)=match (if ((e.2.n:Nat):Int)=x then some e.1 else plk E x) with | some b=>some b | none=>_
   by_cases c:((e.2.n:Nat):Int)=x
   · rw [if_pos c,if_pos c]
   · rw [if_neg c,if_neg c,ih]
theorem pmf_app {E:Pes} {B:Nat} {d:Dfl} {id:Int} (hd:((d.n:Nat):Int)=id) (hn:plk E id=none):∀ x,iput (pmf E) id (.pointer (some ⟨B,0,none⟩)) x=pmf (E++[(B,d)]) x:=fun x=>by
 unfold pmf
 rw [plk_app]
 by_cases c:x=id
 · subst c
   rw [iput_same,hn,if_pos hd]
   rfl
 · rw [iput_other c]
   cases h:plk E x with
   | some b=>rfl
   | none=>show none=Option.map _ (if ((d.n:Nat):Int)=x then some B else none); rw [if_neg (fun e=>c (e.symm.trans hd))]; rfl
theorem plk_none {E:Pes} {x:Int} (h:∀ e∈pfl E,((e.n:Nat):Int)≠x):plk E x=none:=by
 induction E with
 | nil=>rfl
 | cons e E ih =>
   show (if ((e.2.n:Nat):Int)=x then some e.1 else plk E x)=none
   rw [if_neg (h e.2 (by unfold pfl; simp)),ih fun y hy=>h y (by unfold pfl at hy ⊢; simp only [List.map_cons,List.mem_cons]; exact .inr hy)]
theorem plk_drop {A F:Pes} {B:Nat} {d:Dfl} {x:Int} (h:((d.n:Nat):Int)≠x):plk (A++(B,d)::F) x=plk (A++F) x:=by
 induction A with
 | nil=>show (if ((d.n:Nat):Int)=x then _ else _)=_; rw [if_neg h]; rfl
 | cons e A ih=>show (if _ then _ else plk (A++(B,d)::F) x)=if _ then _ else plk (A++F) x; rw [ih]
theorem pmf_del {A F:Pes} {B:Nat} {d:Dfl} {id:Int} (hd:((d.n:Nat):Int)=id) (hA:∀ e∈pfl (A++F),((e.n:Nat):Int)≠id):∀ x,idel (pmf (A++(B,d)::F)) id x=pmf (A++F) x:=fun x=>by
 by_cases c:x=id
 · subst c
   rw [idel_same]
   unfold pmf
   rw [plk_none hA]
   rfl
 · rw [idel_other c]
   unfold pmf
   rw [plk_drop (fun e=>c (e.symm.trans hd))]
theorem pmf_key {E:Pes} {x:Int} (h:(pmf E x).isSome=true):x∈E.map fun e=>((e.2.n:Nat):Int):=by
 induction E with
 | nil=>cases h
 | cons e E ih =>
   unfold pmf at h
   by_cases c:((e.2.n:Nat):Int)=x
   · rw [← c]
     exact mS
   · refine mT _ (ih ?_)
     rw [show plk (e::E) x=plk E x from if_neg c] at h
     exact h
theorem NS.keys {w:World} {m:Option Nat} {n:Nat} {E:Pes} (h:NS w m n (pmf E)):NS w m E.length (pmf E):=by
 cases m with
 | none=>exact h
 | some b =>
   have:=IM.boundL h uk21 (E.map fun e=>((e.2.n:Nat):Int)) fun x hx=>pmf_key hx
   rw [List.length_map] at this
   exact this
theorem perm_open {α:Type} (b B R:α) (g T:List α):(R::b::B::(g++T)).Perm ((R::([b]++(g++[B])))++T):=by
 refine List.Perm.cons _ (List.Perm.cons _ ?_)
 show (B::(g++T)).Perm ((g++[B])++T)
 rw [List.append_assoc]
 exact List.perm_middle.symm
theorem sdel_none:∀ {L:List (Nat × Flg)} {id:Int},sfd L id=none→sdel L id=L
 | [],_,_=>rfl
 | q::L,id,h=>by
   unfold sfd at h
   unfold sdel
   by_cases c:((q.1:Nat):Int)=id
   · rw [if_pos c] at h; cases h
   · rw [if_neg c] at h ⊢
     rw [sdel_none h]
theorem vnew21_any (w0 w:World) (l:List (Nat × List Value)) (pol:Int) (M:Mm w0 l w) :
 Calls Try.prog 9 #[.int .i64 pol] w fun e w'=>∃ R,e=.returned (.pointer (some ⟨R,0,none⟩))∧PIn w' (snew pol) pol none [] []∧Mm w0 (pow R (snew pol) pol none []++l) w'∧Below w.heap.size w w':=by
 have lb_:=Below.refl w.heap.size w
 go_enter Try.func9,Try.ntmps9
 go_upto_region 0 with fail; refine wp_region_list ?_; refine xpL (.pointer none) ?_; refine xT ?_; go_upto_region 1 with fail; refine wp_region_list ?_; refine xpL (.int .i64 pol) ?_; refine xpL (.agg #[.int .i64 pol,.int .u64 0,.map none]) ?_; refine actL (w':=w.alloc (.cells #[.int .i64 pol,.int .u64 0,.map none] 55)) (.pointer (some ⟨w.heap.size,0,none⟩)) rfl (by kernel_rfl) ?_
 simp only [aP,lI,l0,lS]; have hlb:=(Below.refl w.heap.size w).alloc (xnR _) (.cells #[.int .i64 pol,.int .u64 0,.map none] 55); replace lb_:=lb_.trans (hlb.mono lb_.size); clear hlb
 have hB_B1:w0.heap.size≤w.heap.size:=M.below.size
 replace M:=M.box #[.int .i64 pol,.int .u64 0,.map none] 55 w.heap.size rfl; generalize w.alloc (.cells #[.int .i64 pol,.int .u64 0,.map none] 55)=w1 at M lb_ ⊢; generalize eB:w.heap.size=B1 at M hB_B1  ⊢
 have hE_B1:w.heap.size≤B1:=Nat.le_of_eq eB
 have hF_B1:B1≤w.heap.size:=Nat.le_of_eq eB.symm
 clear eB
 replace M:Mm w0 ((B1,[.int .i64 pol,.int .u64 0,.map none])::l) w1:=M
 refine xpL (.pointer (some ⟨B1,0,none⟩)) ?_; refine xT ?_; have HS:=show Hid _ from (show Mm w0 (pow B1 (snew pol) pol none []++l) w1 from M); have hbel:=show Hid _ from lb_; have hI:=show Hid _ from (show PIn w1 (snew pol) pol none [] [] from ⟨rfl,fun _=>rfl,rfl,(fun _ h=>by cases h),(fun _ h=>by cases h)⟩); clear M lb_; go_wp2; go_ret
 exact ⟨B1,rfl,hI.out,HS.out,hbel.out⟩
theorem vopn21_any (w0 w:World) (R:Nat) (p:Int) (m:Option Nat) (E:Pes) (C l:List (Nat × List Value)) (s:Sch) (hI:PIn w s p m E C) (hsz_:ssz s<1000000000) (M:Mm w0 (pow R s p m E++(C++l)) w) (id:Int) (hid:i64 id) :
 Calls Try.prog 12 #[.pointer (some ⟨R,0,none⟩),.int .i64 id] w fun e w'=>∃ m' E',e=.returned (.tuple #[])∧PIn w' (sop s id) p m' E' C∧Mm w0 (pow R (sop s id) p m' E'++(C++l)) w'∧Off ((pow R s p m E).map Prod.fst) w w':=by
 replace M:Mm w0 ((R,[.int .i64 p,.int .u64 (s.last+1),.map m])::((mbk m++gp E)++(C++l))) w:=M
 have M0:=show Hid _ from M; have hln:=hI.len
 go_enter Try.func12,Try.ntmps12
 rcases plk_cases E id with ⟨h1,h2⟩ | ⟨A,B,d,F,rfl,h2,h3,h4,h5⟩
 · go_upto_region 0 with fail
   refine wp_region_list ?_; refine xpL (.pointer (some ⟨R,0,none⟩)) ?_; refine xpL (.pointer (some ⟨R,0,none⟩)) ?_; refine xpL (.pointer (some ⟨R,2,none⟩)) ?_; refine xaL (.map m) (load1 53 _ ⟨R,2,none⟩ _ rfl rfl (fun _=>by kernel_rfl) (M.get mS 2 _ rfl)) ?_; refine xpL (.int .i64 id) ?_
   refine xaL (.tuple #[.pointer none,.bool false]) (lookOk21 hI.map Try.underlying53 (.pointer none) (fun _=>by kernel_rfl) id hid (.pointer none) (by unfold pmf; rw [h1]; rfl) false (by unfold pmf; rw [h1]; rfl) _ _ rfl rfl rfl) ?_; refine xpL (.tuple #[.pointer none,.bool false]) ?_; refine xpL (.pointer none) ?_; refine xpL (.bool false) ?_; refine xpL (.pointer none) ?_
   refine xpL (.bool false) ?_; refine xT ?_
   by_cases h0:id<0
   · go_upto_region 1 with fail
     refine wp_region_list ?_; refine xpL (.bool false) ?_; refine xpL (.bool false) ?_; refine xpL (.int .i64 id) ?_; refine xaL (.bool true) (lssI .i64 _ _ _ _ _ _ rfl rfl rfl true (decide_eq_true (by omega)) _) ?_; refine xpL (.bool true) ?_; refine xT ?_; have hE:=show Hid _ from (show sop s id=s from if_neg (fun h_=>by have:=h_.1; omega)); have HS:=show Hid _ from M0.out
     have hI2:=show Hid _ from hI; clear M M0 hI; go_wp2
     exact ⟨rfl,.tuple #[],by kernel_rfl,m,_,rfl,by rw [hE.out]; exact hI2.out,by rw [hE.out]; exact HS.out,Off.refl _ _⟩
   · go_upto_region 1 with fail
     refine wp_region_list ?_; refine xpL (.bool false) ?_; refine xpL (.bool false) ?_; refine xpL (.int .i64 id) ?_; refine xaL (.bool false) (lssI .i64 _ _ _ _ _ _ rfl rfl rfl false (decide_eq_false (by omega)) _) ?_; refine xpL (.bool false) ?_; refine xT ?_
     obtain ⟨n,rfl⟩:∃ n:Nat,id=(n:Int):=⟨id.toNat,by omega⟩
     have hsp:=show Hid _ from (show sop s (n:Int)={ s with L:=s.L++[(n,flg0)] } by unfold sop; rw [if_pos ⟨by omega,by rw [← hI.lst]; exact h2⟩,Int.toNat_natCast]); have hsz:=xnR w.heap.size
     have PK_:PK21 w E:=hI.ok
     have I_:=hI.map; have OF:=Off.refl ((pow R s p m E).map Prod.fst) w
     cases m with
     | none =>
       clear M
       have M:Mm w0 ((R,[.int .i64 p,.int .u64 (s.last+1),.map none])::(gp E++(C++l))) w:=M0.out
       clear M0; have M0:=show Hid _ from M; go_upto_region 2 with fail; refine wp_region_list ?_; refine xpL (.pointer (some ⟨R,0,none⟩)) ?_; refine xpL (.pointer (some ⟨R,0,none⟩)) ?_; refine xpL (.pointer (some ⟨R,2,none⟩)) ?_; refine xaL (.map none) (load1 53 _ ⟨R,2,none⟩ _ rfl rfl (fun _=>by kernel_rfl) (M.get mS 2 _ rfl)) ?_
       refine xaL (.bool true) (eqlM21 none _ _ _ _ _ _ true rfl rfl rfl rfl Try.underlying53 _) ?_; refine xT ?_; go_upto_region 3 with fail; refine wp_region_list ?_; refine xpL (.pointer (some ⟨R,0,none⟩)) ?_; have hlb:=(Below.refl w.heap.size w).alloc (xnR _) (.map #[] 0); refine actL (w':=w.alloc (.map #[] 0)) (.map (some w.heap.size)) rfl (by kernel_rfl) ?_; simp only [aP,lI,l0,lS]
       have hB_:=hsz; replace PK_:=PK_.below hlb; replace I_:=I_.below hlb; replace OF:=OF.below hlb; replace hsz:=xnT hsz hlb.size; have J_:=IM.made Try.prog 3 w; replace M:=M.boxM21; clear hlb; generalize w.alloc (.map #[] 0)=w1 at M J_ PK_ I_ OF hsz ⊢; generalize eB_:w.heap.size=b at M J_ ⊢
       have hB_b:w.heap.size≤b:=by rw [← eB_]; exact hB_
       clear hB_ eB_
       replace M:Mm w0 ((b,[])::(R,[.int .i64 p,.int .u64 (s.last+1),.map none])::(gp E++(C++l))) w1:=M
       refine xpL (.pointer (some ⟨R,0,none⟩)) ?_; refine xpL (.pointer (some ⟨R,2,none⟩)) ?_; replace M:=M.swap; refine skipOpL rfl (storeAny (.map (some b)) R 2 53 _ _ rfl rfl rfl rfl rfl (M.isSome mS 2 (by simp)) (M.free mS 2 (by simp)) (by kernel_rfl)) ?_; simp only [Act.put]; replace M:=M.set 2 (by simp) (.map (some b))
       replace PK_:=PK_.off hI.ck (X:=gp E++C) ((Off.refl [R] _).set (b:=R) mS 2 (.map (some b))) (fun b_ hb_=>by obtain rfl:=xm1 hb_; exact M.awayC (fun p_ hp_=>by rcases List.mem_append.1 hp_ with h_ | h_ <;> simp [h_])) (fun _ h_=>h_); replace OF:=OF.and1 ((Off.refl [R] _).set (b:=R) mS 2 (.map (some b))) (.inl (by simp [pow,mbk]))
       replace hsz:=xnT hsz (Off.size ((Off.refl [R] _).set (b:=R) mS 2 (.map (some b)))); replace J_:=J_.off ((Off.refl [R] _).set (b:=R) mS 2 (.map (some b))) (fun hm_=>by have h1_:=xm1 hm_; have h2_:=(List.pairwise_cons.1 M.apart).1 _ (mS); exact h2_ h1_.symm); generalize w1.setCell ⟨R,2,none⟩ (.map (some b))=w2 at M PK_ OF hsz J_ ⊢
       replace M:Mm w0 ((R,[.int .i64 p,.int .u64 (s.last+1),.map (some b)])::(b,[])::(gp E++(C++l))) w2:=M
       refine xT ?_; have I_:=J_; clear J_; replace I_:=I_.mono (Nat.zero_le E.length); replace I_:=I_.congr (g:=pmf E) (fun x _=>(hI.map x).symm); go_upto_region 4 with fail; refine wp_region_list ?_; refine xpL (.pointer (some ⟨R,0,none⟩)) ?_; refine xpL (.pointer (some ⟨R,0,none⟩)) ?_; refine xpL (.pointer (some ⟨R,2,none⟩)) ?_
       refine xaL (.map (some b)) (load1 53 _ ⟨R,2,none⟩ _ rfl rfl (fun _=>by kernel_rfl) (M.get mS 2 _ rfl)) ?_; refine xpL (.int .i64 (n:Int)) ?_; refine xpL (.agg #[.int .i64 4,.int .i64 0,.slice none 0 0]) ?_; refine actL (w':=w2.alloc (.cells #[.int .i64 4,.int .i64 0,.slice none 0 0] 63)) (.pointer (some ⟨w2.heap.size,0,none⟩)) rfl (by kernel_rfl) ?_; simp only [aP,lI,l0,lS]
       have hlb:=(Below.refl w2.heap.size w2).alloc (xnR _) (.cells #[.int .i64 4,.int .i64 0,.slice none 0 0] 63); replace PK_:=PK_.below hlb; replace OF:=OF.below hlb; replace hsz:=xnT hsz hlb.size; replace I_:=I_.bel hlb; clear hlb
       have hB_B3:w0.heap.size≤w2.heap.size:=M.below.size
       replace M:=M.box #[.int .i64 4,.int .i64 0,.slice none 0 0] 63 w2.heap.size rfl; generalize w2.alloc (.cells #[.int .i64 4,.int .i64 0,.slice none 0 0] 63)=w3 at M PK_ OF hsz I_ ⊢; generalize eB:w2.heap.size=B3 at M hB_B3  ⊢
       have hE_B3:w2.heap.size≤B3:=Nat.le_of_eq eB
       have hF_B3:B3≤w2.heap.size:=Nat.le_of_eq eB.symm
       clear eB
       replace M:Mm w0 ((B3,[.int .i64 4,.int .i64 0,.slice none 0 0])::(R,[.int .i64 p,.int .u64 (s.last+1),.map (some b)])::(b,[])::(gp E++(C++l))) w3:=M
       replace M:=M.rot3
       replace M:Mm w0 ((b,[])::(B3,[.int .i64 4,.int .i64 0,.slice none 0 0])::(R,[.int .i64 p,.int .u64 (s.last+1),.map (some b)])::(gp E++(C++l))) w3:=M
       obtain ⟨w4,hr,I2,hgr⟩:=IM.put I_ uk21 Try.underlying53 (by unfold maxLen; omega) hid (.pointer (some ⟨B3,0,none⟩))
       refine skipOpL rfl (putOp21 _ _ _ rfl rfl rfl rfl hr) ?_; simp only [Act.put]; replace M:=M.touch hgr; have o1_:=Off.touched hgr; replace PK_:=PK_.off hI.ck (X:=gp E++C) o1_ (fun b_ hb_=>by obtain rfl:=xm1 hb_; exact M.awayC (fun p_ hp_=>by rcases List.mem_append.1 hp_ with h_ | h_ <;> simp [h_])) (fun _ h_=>h_); replace OF:=OF.and1 o1_ (.inr (by omega))
       replace hsz:=xnT hsz (Off.size o1_); clear hr hgr o1_ I_; have I_:=I2; clear I2; replace M:=M.rot3
       replace M:Mm w0 ((R,[.int .i64 p,.int .u64 (s.last+1),.map (some b)])::(b,[])::(B3,[.int .i64 4,.int .i64 0,.slice none 0 0])::(gp E++(C++l))) w4:=M
       have HS:=show Hid _ from (show Mm w0 (pow R { s with L:=s.L++[(n,flg0)] } p (some b) (E++[(B3,⟨n,4,none,[],none,0⟩)])++(C++l)) w4 by
        refine M.perm ?_
        unfold pow
        rw [gp_app]
        exact perm_open (b,[]) _ _ _ _)
       have hI2:=show Hid _ from (show PIn w4 { s with L:=s.L++[(n,flg0)] } p (some b) (E++[(B3,⟨n,4,none,[],none,0⟩)]) C from ⟨hI.pol,NS.keys (NS.congr (m:=some b) (n:=E.length+1) I_ (pmf_app (d:=⟨n,4,none,[],none,0⟩) rfl h1)),(by unfold pfl; rw [List.map_append,dpl_app,show dpl (E.map Prod.snd)=s.L from hI.lst]; rfl),fun e he=>by
        rcases List.mem_append.1 he with h | h
        · exact PK_ e h
        · obtain rfl:=xm1 h
          exact ⟨World.ownsRow_nil _ _ _ _,fun _ h=>by cases h⟩,fun e he q hq=>by
        rcases List.mem_append.1 he with h | h
        · exact hI.ck e h q hq
        · obtain rfl:=xm1 h
          cases hq⟩)
       have HO:=show Hid _ from OF; clear M M0 OF PK_ I_ hI
       exact ⟨rfl,.tuple #[],by kernel_rfl,some b,E++[(B3,⟨n,4,none,[],none,0⟩)],rfl,by rw [hsp.out]; exact hI2.out,by rw [hsp.out]; exact HS.out,HO.out⟩
     | some b =>
       clear M
       have M:Mm w0 ((R,[.int .i64 p,.int .u64 (s.last+1),.map (some b)])::(b,[])::(gp E++(C++l))) w:=M0.out
       clear M0; have M0:=show Hid _ from M; have hbR:=(List.pairwise_cons.1 M.apart).1 _ mS; have hbw:=M.lt (mT _ mS); go_upto_region 2 with fail; refine wp_region_list ?_; refine xpL (.pointer (some ⟨R,0,none⟩)) ?_; refine xpL (.pointer (some ⟨R,0,none⟩)) ?_; refine xpL (.pointer (some ⟨R,2,none⟩)) ?_
       refine xaL (.map (some b)) (load1 53 _ ⟨R,2,none⟩ _ rfl rfl (fun _=>by kernel_rfl) (M.get mS 2 _ rfl)) ?_; refine xaL (.bool false) (eqlM21 (some b) _ _ _ _ _ _ false rfl rfl rfl rfl Try.underlying53 _) ?_; refine xT ?_; go_upto_region 4 with fail; refine wp_region_list ?_; refine xpL (.pointer (some ⟨R,0,none⟩)) ?_; refine xpL (.pointer (some ⟨R,0,none⟩)) ?_
       refine xpL (.pointer (some ⟨R,2,none⟩)) ?_; refine xaL (.map (some b)) (load1 53 _ ⟨R,2,none⟩ _ rfl rfl (fun _=>by kernel_rfl) (M.get mS 2 _ rfl)) ?_; refine xpL (.int .i64 (n:Int)) ?_; refine xpL (.agg #[.int .i64 4,.int .i64 0,.slice none 0 0]) ?_
       refine actL (w':=w.alloc (.cells #[.int .i64 4,.int .i64 0,.slice none 0 0] 63)) (.pointer (some ⟨w.heap.size,0,none⟩)) rfl (by kernel_rfl) ?_; simp only [aP,lI,l0,lS]; have hlb:=(Below.refl w.heap.size w).alloc (xnR _) (.cells #[.int .i64 4,.int .i64 0,.slice none 0 0] 63); replace PK_:=PK_.below hlb; replace I_:=I_.bel hlb; replace OF:=OF.below hlb
       replace hsz:=xnT hsz hlb.size; clear hlb
       have hB_B5:w0.heap.size≤w.heap.size:=M.below.size
       replace M:=M.box #[.int .i64 4,.int .i64 0,.slice none 0 0] 63 w.heap.size rfl; generalize w.alloc (.cells #[.int .i64 4,.int .i64 0,.slice none 0 0] 63)=w5 at M PK_ I_ OF hsz ⊢; generalize eB:w.heap.size=B5 at M hB_B5  ⊢
       have hE_B5:w.heap.size≤B5:=Nat.le_of_eq eB
       have hF_B5:B5≤w.heap.size:=Nat.le_of_eq eB.symm
       clear eB
       replace M:Mm w0 ((B5,[.int .i64 4,.int .i64 0,.slice none 0 0])::(R,[.int .i64 p,.int .u64 (s.last+1),.map (some b)])::(b,[])::(gp E++(C++l))) w5:=M
       replace M:=M.rot3
       replace M:Mm w0 ((b,[])::(B5,[.int .i64 4,.int .i64 0,.slice none 0 0])::(R,[.int .i64 p,.int .u64 (s.last+1),.map (some b)])::(gp E++(C++l))) w5:=M
       obtain ⟨w6,hr,I2,hgr⟩:=IM.put I_ uk21 Try.underlying53 (by unfold maxLen; omega) hid (.pointer (some ⟨B5,0,none⟩))
       refine skipOpL rfl (putOp21 _ _ _ rfl rfl rfl rfl hr) ?_; simp only [Act.put]; replace M:=M.touch hgr; have o1_:=Off.touched hgr; replace PK_:=PK_.off hI.ck (X:=gp E++C) o1_ (fun b_ hb_=>by obtain rfl:=xm1 hb_; exact M.awayC (fun p_ hp_=>by rcases List.mem_append.1 hp_ with h_ | h_ <;> simp [h_])) (fun _ h_=>h_); replace OF:=OF.and1 o1_ (.inl (by simp [pow,mbk]))
       replace hsz:=xnT hsz (Off.size o1_); clear hr hgr o1_ I_; have I_:=I2; clear I2; replace M:=M.rot3
       replace M:Mm w0 ((R,[.int .i64 p,.int .u64 (s.last+1),.map (some b)])::(b,[])::(B5,[.int .i64 4,.int .i64 0,.slice none 0 0])::(gp E++(C++l))) w6:=M
       have HS:=show Hid _ from (show Mm w0 (pow R { s with L:=s.L++[(n,flg0)] } p (some b) (E++[(B5,⟨n,4,none,[],none,0⟩)])++(C++l)) w6 by
        refine M.perm ?_
        unfold pow
        rw [gp_app]
        exact perm_open (b,[]) _ _ _ _)
       have hI2:=show Hid _ from (show PIn w6 { s with L:=s.L++[(n,flg0)] } p (some b) (E++[(B5,⟨n,4,none,[],none,0⟩)]) C from ⟨hI.pol,NS.keys (NS.congr (m:=some b) (n:=E.length+1) I_ (pmf_app (d:=⟨n,4,none,[],none,0⟩) rfl h1)),(by unfold pfl; rw [List.map_append,dpl_app,show dpl (E.map Prod.snd)=s.L from hI.lst]; rfl),fun e he=>by
        rcases List.mem_append.1 he with h | h
        · exact PK_ e h
        · obtain rfl:=xm1 h
          exact ⟨World.ownsRow_nil _ _ _ _,fun _ h=>by cases h⟩,fun e he q hq=>by
        rcases List.mem_append.1 he with h | h
        · exact hI.ck e h q hq
        · obtain rfl:=xm1 h
          cases hq⟩)
       have HO:=show Hid _ from OF; clear M M0 OF PK_ I_ hI
       exact ⟨rfl,.tuple #[],by kernel_rfl,some b,E++[(B5,⟨n,4,none,[],none,0⟩)],rfl,by rw [hsp.out]; exact hI2.out,by rw [hsp.out]; exact HS.out,HO.out⟩
 · go_upto_region 0 with fail
   refine wp_region_list ?_; refine xpL (.pointer (some ⟨R,0,none⟩)) ?_; refine xpL (.pointer (some ⟨R,0,none⟩)) ?_; refine xpL (.pointer (some ⟨R,2,none⟩)) ?_; refine xaL (.map m) (load1 53 _ ⟨R,2,none⟩ _ rfl rfl (fun _=>by kernel_rfl) (M.get mS 2 _ rfl)) ?_; refine xpL (.int .i64 id) ?_
   refine xaL (.tuple #[.pointer (some ⟨B,0,none⟩),.bool true]) (lookOk21 hI.map Try.underlying53 (.pointer none) (fun _=>by kernel_rfl) id hid (.pointer (some ⟨B,0,none⟩)) (by unfold pmf; rw [h4]; rfl) true (by unfold pmf; rw [h4]; rfl) _ _ rfl rfl rfl) ?_; refine xpL (.tuple #[.pointer (some ⟨B,0,none⟩),.bool true]) ?_; refine xpL (.pointer (some ⟨B,0,none⟩)) ?_
   refine xpL (.bool true) ?_; refine xpL (.pointer (some ⟨B,0,none⟩)) ?_; refine xpL (.bool true) ?_; refine xT ?_; go_upto_region 1 with fail; refine wp_region_list ?_; refine xpL (.bool true) ?_; refine xpL (.bool true) ?_
   with_reducible refine skipL ?_ ?_
   · rfl
   simp only [aP,lI,l0,lS]
   with_reducible refine skipL ?_ ?_
   · rfl
   simp only [aP,lI,l0,lS]; refine xpL (.bool true) ?_; refine xT ?_; have hE:=show Hid _ from (show sop s id=s from if_neg (fun h_=>by rw [← hI.lst,h5] at h_; cases h_.2)); have HS:=show Hid _ from M0.out; have hI2:=show Hid _ from hI; clear M M0 hI; go_wp2
   exact ⟨rfl,.tuple #[],by kernel_rfl,m,_,rfl,by rw [hE.out]; exact hI2.out,by rw [hE.out]; exact HS.out,Off.refl _ _⟩
theorem Back.gone {w0 w:World} {s:Sch} {R:Nat} {p:Int} {m:Option Nat} {E:Pes} {C l X:List (Nat × List Value)} {id:Int} {B:Nat} {d:Dfl} (hw:SchW s) (hI:PIn w0 s p m E C) (h:Back w s R p m E (C++l) id B d X):∃ G,X=(R,prc s p m)::(mbk m++(gp G++(C++l)))∧(∀ e∈G,e∈E)∧(∀ x,idel (pmf E) id x=pmf G x)∧dpl (pfl G)=(scl s id).L∧(∀ b∈B::ob d.sr,b∈(pow R s p m E).map Prod.fst∨w.heap.size≤b):=by
 rcases h with ⟨A,F,rfl,hid,hA,rfl⟩ | ⟨hs,rfl,hB,rfl⟩
 · have e1:pfl (A++(B,d)::F)=pfl A++d::pfl F:=by unfold pfl; rw [List.map_append,List.map_cons]
   have e2:pfl (A++F)=pfl A++pfl F:=by unfold pfl; rw [List.map_append]
   have hnd:∀ e∈pfl (A++F),((e.n:Nat):Int)≠id:=fun e he=>by
    rw [e2] at he
    rcases List.mem_append.1 he with h | h
    · exact hA e h
    · have h1:=hw.d
      rw [← hI.lst,e1,dpl_app,dpl_cons,List.map_append,List.map_cons,List.nodup_append] at h1
      have h2:=(List.nodup_cons.1 h1.2.1).1
      exact fun c=>h2 (by
       have:e.n=d.n:=by omega
       rw [← this]
       exact List.mem_map.2 ⟨(e.n,e.f),List.mem_map.2 ⟨e,h,rfl⟩,rfl⟩)
   refine ⟨A++F,rfl,fun e he=>?_,pmf_del hid hnd,?_,fun b hb=>.inl ?_⟩
   · rcases List.mem_append.1 he with h | h
     · exact List.mem_append_left _ h
     · exact List.mem_append_right _ (mT _ h)
   · show _=sdel s.L id
     rw [← hI.lst,e1,e2,sdel_mid hid hA]
   · have hm:(B,d)∈A++(B,d)::F:=by simp
     rcases xc1 hb with rfl | hb
     · exact mem_bl (q:=(b,ppc d)) (mT _ (List.mem_append_right _ (gp_mem hm mS)))
     · exact mem_bl (q:=(b,[])) (mT _ (List.mem_append_right _ (gp_mem hm (mT _ (List.mem_map.2 ⟨b,hb,rfl⟩)))))
 · refine ⟨E,rfl,fun e he=>he,fun x=>?_,?_,fun b hb=>.inr ?_⟩
   · by_cases c:x=id
     · subst c
       rw [idel_same]
       rcases plk_cases E x with ⟨h1,_⟩ | ⟨A,B',d',F,rfl,h2,h3,h4,h5⟩
       · unfold pmf; rw [h1]; rfl
       · rw [hI.lst,hs] at h5
         cases h5
     · rw [idel_other c]
   · rw [hI.lst]
     exact (sdel_none hs).symm
   · rcases xc1 hb with rfl | hb
     · exact hB
     · cases hb
theorem perm_close2 {α:Type} (S k d g T:List α) (R:α):(S++(R::(k++(d++(g++T))))).Perm (d++((R::(k++g))++(S++T))):=by
 have e1:(R::(k++(d++(g++T))))=(R::k)++(d++(g++T)):=rfl
 rw [e1]
 have h1:=(sw21 (R::k) d (g++T)).append_left S; have h2:=sw21 S d ((R::k)++(g++T)); have h3:=(sw21 S (R::(k++g)) T).append_left d; refine (h1.trans h2).trans ?_
 have e2:((R::k)++(g++T))=(R::(k++g))++T:=by simp [List.append_assoc]
 rw [e2]
 exact h3
theorem NewW.ofOwn21 {w:World} {base:Nat} {rl:List (Int × Int)} {so:Option Addr} {co:Nat} (h:w.ownsRow base 38 2 (.slice so rl.length co) rl.length (wrc rl)):NewW w base rl (.slice so rl.length co):=by
 rcases h.2 with ⟨e,h0⟩ | ⟨g,cap,cur,e,hb,hgg,hc,_⟩
 · injection e with e1 e2 e3
   subst e1 e3
   obtain rfl:=List.eq_nil_of_length_eq_zero h0
   exact ⟨none,0,rfl,xnR _,fun _=>rfl,fun j u hu=>(by cases hu),fun a e=>(by cases e)⟩
 · injection e with e1 e2 e3
   subst e1 e3
   refine ⟨some ⟨g,0,none⟩,co,rfl,hc,fun e=>(by cases e),fun j u hu=>⟨_,rfl,World.ownsRow.cells h (g:=g) rfl j u hu⟩,fun a e=>?_⟩
   cases e
   exact World.ownsRow.lt h g rfl
theorem vcls21_any (w0 w:World) (R:Nat) (p:Int) (m:Option Nat) (E:Pes) (C l:List (Nat × List Value)) (s:Sch) (hI:PIn w s p m E C) (hw:SchW s) (hsz_:ssz s<1000000000) (M:Mm w0 (pow R s p m E++(C++l)) w) (id:Int) (hid:i64 id) :
 Calls Try.prog 15 #[.pointer (some ⟨R,0,none⟩),.int .i64 id] w fun e w'=>∃ sq cq E',e=.returned (.slice sq (sclO s id).length cq)∧NewW w' w0.heap.size (sclO s id) (.slice sq (sclO s id).length cq)∧PIn w' (scl s id) p m E' C∧Mm w0 (pow R (scl s id) p m E'++(obs sq++(C++l))) w'∧Off ((pow R s p m E).map Prod.fst) w w':=by
 replace M:Mm w0 ((R,[.int .i64 p,.int .u64 (s.last+1),.map m])::((mbk m++gp E)++(C++l))) w:=M
 go_enter Try.func15,Try.ntmps15
 go_upto_region 0 with fail; refine wp_region_list ?_; refine xpL (.slice none 0 0) ?_; refine xT ?_; go_upto_region 1 with fail; refine wp_region_list ?_; refine xpL (.pointer (some ⟨R,0,none⟩)) ?_; refine xpL (.int .i64 id) ?_; have key:=vat21_any w0 w R p m E C l s hI M id hid; refine xcL key ?_; clear key; rintro e w2 ⟨B,d,X,rfl,M',P,hdf,hck,lb,hbk⟩; clear M
 have M:Mm w0 ((B,[.int .i64 ((d.win:Nat):Int),.int .i64 (pnx d.top),.slice d.sr d.Z.length d.cr])::(obs d.sr++X)) w2:=M'
 clear M'; refine xeL ?_; refine xpL (.pointer (some ⟨B,0,none⟩)) ?_; refine xpL (.pointer (some ⟨B,2,none⟩)) ?_; refine xaL (.slice d.sr d.Z.length d.cr) (load1 61 _ ⟨B,2,none⟩ _ rfl rfl (fun _=>by kernel_rfl) (M.get mS 2 _ rfl)) ?_; refine xpL (.slice d.sr d.Z.length d.cr) ?_; refine xT ?_
 obtain ⟨G,hX,hGE,hGm,hGL,hB3⟩:=hbk.gone hw hI
 subst hX; have hI1:=hI.below lb; have I_:=hI1.map
 have hsd:=show Hid _ from (show sclO s id=sall (d.Z.map Prod.fst) by
  have:sclO s id=sall (sgf s id).rs:=by unfold sclO sgf; cases sfd s.L id <;> rfl
  rw [this,← hdf]; rfl)
 have hlen:=sgf_len (s:=s) id
 rw [← hdf] at hlen
 have hln1:d.Z.length≤ssz s:=by have h_:d.f.rs.length=d.Z.length:=List.length_map ..; omega
 have hln2:(sall (d.Z.map Prod.fst)).length≤ssz s:=by have h_:(sall d.f.rs).length=(sall (d.Z.map Prod.fst)).length:=rfl; omega
 have OF:Off ((pow R s p m E).map Prod.fst) w w2:=Off.of_below lb
 have hPK:∀ e∈G,POK w2 e.2:=fun e he=>hI1.ok e (hGE e he)
 have hsub:Mm w0 ((R,[.int .i64 p,.int .u64 (s.last+1),.map m])::(mbk m++(obs d.sr++(gp G++(C++l))))) w2:=by
  have h1:=M.tail
  have h2:(obs d.sr++((R,prc s p m)::(mbk m++(gp G++(C++l))))).Perm ((R,prc s p m)::(mbk m++(obs d.sr++(gp G++(C++l))))):=by
   have h3:=sw21 (obs d.sr) ((R,prc s p m)::mbk m) (gp G++(C++l))
   simpa [List.append_assoc] using h3
  exact h1.perm h2
 clear M; have M:=hsub; clear hsub; go_upto_region 2 with fail; refine wp_region_list ?_; refine xpL (.pointer (some ⟨R,0,none⟩)) ?_; refine xpL (.pointer (some ⟨R,0,none⟩)) ?_; refine xpL (.pointer (some ⟨R,2,none⟩)) ?_; refine xaL (.map m) (load1 53 _ ⟨R,2,none⟩ _ rfl rfl (fun _=>by kernel_rfl) (M.get mS 2 _ rfl)) ?_; refine xpL (.int .i64 id) ?_
 obtain ⟨w3,hr,I2,hgr⟩:=NS.del I_ Try.underlying53 hid 0
 have MM:=Mm.touch21 (m:=m) (l:=(R,[.int .i64 p,.int .u64 (s.last+1),.map m])::(obs d.sr++(gp G++(C++l)))) (M.perm (List.perm_middle (l₁:=mbk m)).symm) hgr; have o1:=Off.touched21 hgr
 have haw:∀ x∈(mbk m).map Prod.fst,x∉(obs d.sr++(gp G++(C++l))).map Prod.fst:=Mm.apart2 (M.tail)
 refine actL _ rfl (delOp21 _ _ rfl rfl rfl hr) ?_; simp only [Act.put]
 have P2:=P.off o1 (fun b hb hm=>haw b hb (mem_bl (q:=(b,[])) (List.mem_append_left _ (List.mem_map.2 ⟨b,hm,rfl⟩)))) (fun b hb hm=>by
  obtain ⟨q,hq,rfl⟩:=List.mem_map.1 hm
  exact haw q.1 hb (mem_bl (List.mem_append_right _ (List.mem_append_right _ (List.mem_append_left _ (hck q hq))))))
 have hPK2:PK21 w3 G:=PK21.off (C:=C) hPK (fun e he=>hI.ck e (hGE e he)) o1 (X:=obs d.sr++(gp G++(C++l))) haw (fun q hq=>by
  rcases List.mem_append.1 hq with h | h <;> simp [h])
 have I3:NS w3 m G.length (pmf G):=NS.keys (I2.congr hGm)
 replace OF:=OF.and21 o1 (fun b hb=>.inl (by
  obtain ⟨q,hq,rfl⟩:=List.mem_map.1 hb
  exact mem_bl (mT _ (List.mem_append_left _ hq))))
 clear M P hPK I_ I2 hr hgr o1 haw
 have M:Mm w0 ((R,[.int .i64 p,.int .u64 (s.last+1),.map m])::(mbk m++(obs d.sr++(gp G++(C++l))))) w3:=MM.perm (List.perm_middle (l₁:=mbk m))
 clear MM; refine xT ?_; go_upto_region 3 with fail; refine wp_region_list ?_; refine xpL (.slice d.sr d.Z.length d.cr) ?_; have key:=vcar21_any 0 d.Z d.sr d.cr (by omega) (by omega) w3 P2.V P2.K; refine xcL key ?_; clear key; rintro e w4 ⟨sq,cq,rfl,V_q,l_⟩; have M3:=M.newRow21 l_ V_q; replace OF:=OF.below l_; replace I3:=I3.below l_; replace hPK2:=hPK2.below l_
 have N_q:=NewW.ofOwn21 (ownsRow_mono21 (b:=w0.heap.size) V_q M.below.size); clear l_ V_q M P2; refine xeL ?_; refine xpL (.slice sq ((sall (d.Z.map Prod.fst)).length) cq) ?_; refine xT ?_; have hI2:=show Hid _ from (show PIn w4 (scl s id) p m G C from ⟨hI.pol,I3,hGL,hPK2,fun e he=>hI.ck e (hGE e he)⟩)
 have HS:=show Hid _ from (show Mm w0 (pow R (scl s id) p m G++(obs sq++(C++l))) w4 by
  have h1:=M3.perm (perm_close2 (obs sq) (mbk m) (obs d.sr) (gp G) (C++l) _)
  exact h1.sub _ (List.sublist_append_right (obs d.sr) _))
 have HN:=show Hid _ from N_q; have HO:=show Hid _ from OF; clear M3 N_q OF I3 hPK2; go_wp2; go_ret
 rw [hsd.out]
 exact ⟨sq,cq,G,rfl,HN.out,hI2.out,HS.out,HO.out⟩
end Go.Proofs.Ytmedjdadhmdpgaa
