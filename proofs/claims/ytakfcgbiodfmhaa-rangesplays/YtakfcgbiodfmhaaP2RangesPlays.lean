/- Texts of Te Tf Tg Gv Th Ti Tj Hz, joined. -/
import Derived.Test.YtakfcgbiodfmhaaP1RangesPlays
set_option maxRecDepth 20000
set_option maxHeartbeats 64000000
namespace Go.Proofs.Ytakfcgbiodfmhaa
open Go.RowKit
theorem kind17_any (c:Int) (n:Nat) (hn:0<n) (h1:i64 c) (w:World) :
 Calls Try.prog 8 #[.int .i64 c,.int .i64 (n:Int)] w fun e w'=>e=.returned (.int .i64 (kdn c n:Int))∧Below w.heap.size w w':=by
 unfold i64 at h1
 have M:=Mm.init w
 go_enter Try.func8,Try.ntmps8
 go_upto_region 0 with fail; refine wp_region_list ?_; refine xpL (.int .i64 0) ?_; refine xT ?_
 by_cases hc:c<0
 · go_upto_region 1 with fail
   refine wp_region_list ?_; refine xpL (.int .i64 c) ?_; refine xaL (.bool true) (lssI .i64 _ _ _ _ _ _ rfl rfl rfl true (decide_eq_true hc) _) ?_; refine xT ?_; go_upto_region 2 with fail; refine wp_region_list ?_; refine xpL (.int .i64 c) ?_; refine xaL (.int .i64 (c+1)) (addI .i64 _ _ _ _ _ _ _ rfl rfl rfl (by rw [xw6]; omega) _) ?_
   refine xaL (.int .i64 (-(c+1))) (negI .i64 _ _ _ _ rfl rfl (by rw [xw6]; omega) _) ?_; refine xpL (.int .i64 (-(c+1))) ?_; refine xT ?_
   have hrem:(-(c+1)).tmod (n:Int)=((kdn c n:Nat):Int):=by
    unfold kdn
    rw [if_pos hc]
    obtain ⟨m,hm⟩:∃ m:Nat,-(c+1)=(m:Int):=⟨(-(c+1)).toNat,by omega⟩
    rw [hm,Int.toNat_natCast]
    rfl
   go_upto_region 3 with fail; refine wp_region_list ?_; refine xpL (.int .i64 (-(c+1))) ?_; refine xpL (.int .i64 (n:Int)) ?_; refine xaL (.int .i64 ((kdn c n:Nat):Int)) (remI .i64 _ _ _ _ _ _ _ rfl rfl rfl (by omega) hrem _) ?_; refine xpL (.int .i64 ((kdn c n:Nat):Int)) ?_; refine xT ?_; have hB:=M.below; clear M; go_wp2; go_ret
   exact ⟨rfl,hB⟩
 · go_upto_region 1 with fail
   refine wp_region_list ?_; refine xpL (.int .i64 c) ?_; refine xaL (.bool false) (lssI .i64 _ _ _ _ _ _ rfl rfl rfl false (decide_eq_false hc) _) ?_; refine xT ?_
   have hrem:(c).tmod (n:Int)=((kdn c n:Nat):Int):=by
    unfold kdn
    rw [if_neg hc]
    obtain ⟨m,hm⟩:∃ m:Nat,c=(m:Int):=⟨(c).toNat,by omega⟩
    rw [hm,Int.toNat_natCast]
    rfl
   go_upto_region 3 with fail; refine wp_region_list ?_; refine xpL (.int .i64 c) ?_; refine xpL (.int .i64 (n:Int)) ?_; refine xaL (.int .i64 ((kdn c n:Nat):Int)) (remI .i64 _ _ _ _ _ _ _ rfl rfl rfl (by omega) hrem _) ?_; refine xpL (.int .i64 ((kdn c n:Nat):Int)) ?_; refine xT ?_; have hB:=M.below; clear M; go_wp2; go_ret
   exact ⟨rfl,hB⟩
theorem same17_any (rl:Rgs17) (hln:rl.length<1000000) (b1_ b2_:Nat) (p1 p2:Option Addr) (c1 c2:Nat) (w:World) (N1:NewW w b1_ rl (.slice p1 rl.length c1)) (N2:NewW w b2_ rl (.slice p2 rl.length c2)) :
 Calls Try.prog 16 #[.slice p1 rl.length c1,.slice p2 rl.length c2] w fun e w'=>e=.returned (.bool true)∧Below w.heap.size w w':=by
 have M:=Mm.init w
 go_enter Try.func16,Try.ntmps16
 go_upto_region 0 with fail; refine wp_region_list ?_; refine xpL (.bool false) ?_; refine xT ?_; go_upto_region 1 with fail; refine wp_region_list ?_; refine xpL (.slice p1 rl.length c1) ?_; refine xaL (.int .i64 ((rl.length:Nat):Int)) (lenS _ 27 34 p1 rl.length c1 rfl Try.underlying27 rfl _) ?_; refine xpL (.slice p2 rl.length c2) ?_
 refine xaL (.int .i64 ((rl.length:Nat):Int)) (lenS _ 27 34 p2 rl.length c2 rfl Try.underlying27 rfl _) ?_; refine xaL (.bool false) (neqI .i64 _ _ _ _ _ _ rfl rfl rfl false (by simp) _) ?_; refine xT ?_; go_upto_region 3 with fail; refine wp_region_list ?_; refine xpL (.int .i64 0) ?_; refine xT ?_; have HI:=show Hid _ from (And.intro N1 (And.intro N2 M.below)); clear M N1 N2; go_wp2
 go_loopw [5] (fun i w'=>∃ i':Nat,i'≤rl.length∧i=.int .i64 (i':Int)∧NewW w' b1_ rl (.slice p1 rl.length c1)∧NewW w' b2_ rl (.slice p2 rl.length c2)∧Below w.heap.size w w') (fun i _=>rl.length-(intOf i).toNat)
 case atStart=>exact ⟨0,Nat.zero_le _,rfl,HI.out⟩
 case round =>
  clear HI
  obtain ⟨i,hi,rfl,N1,N2,hB⟩:=hrel
  by_cases hil:i<rl.length
  · obtain ⟨pr,hpr⟩:∃ pr,rl[i]?=some pr:=⟨_,List.getElem?_eq_getElem hil⟩
    obtain ⟨adr1,rfl,_,_⟩:=NewW.at N1 hpr
    obtain ⟨adr2,rfl,_,_⟩:=NewW.at N2 hpr
    have M:=(Mm.init w).call hB; go_upto_region 4 with fail; refine wp_region_list ?_; refine xpL (.int .i64 (i:Int)) ?_; refine xpL (.slice (some adr1) rl.length c1) ?_; refine xaL (.int .i64 ((rl.length:Nat):Int)) (lenS _ 27 34 (some adr1) rl.length c1 rfl Try.underlying27 rfl _) ?_; refine xaL (.bool true) (lssI .i64 _ _ _ _ _ _ rfl rfl rfl true (decide_eq_true (by omega)) _) ?_
    refine xT ?_; have N_1:=N1; have N_2:=N2; clear N1 N2; go_upto_region 6 with fail; refine wp_region_held_drew (S:=fun w'=>NewW w' b1_ rl (.slice (some adr1) rl.length c1)∧NewW w' b2_ rl (.slice (some adr2) rl.length c2)) (by kernel_rfl) ⟨NewW.below N_1 (Below.refl _ _).drew,NewW.below N_2 (Below.refl _ _).drew⟩ ?_; intro _; replace M:=M.drew
    have hdr:=(Below.refl wr.heap.size wr).drew; replace N_1:=NewW.below N_1 hdr; replace N_2:=NewW.below N_2 hdr; clear hdr; generalize wr.drew=w1 at M N_1 N_2 ⊢; refine xrH 0 17 rfl (.slice (some adr1) rl.length c1) (fun _ ⟨hS1,hS2⟩=>(by kernel_rfl)) ⟨N_1,N_2⟩ ?_; refine xrH 1 18 rfl (.int .i64 (i:Int)) (fun _ ⟨hS1,hS2⟩=>(by kernel_rfl)) ⟨N_1,N_2⟩ ?_
    refine xrH 2 19 rfl (.pointer (some (adr1.add (i*2)))) (fun _ ⟨hS1,hS2⟩=>idxR2 adr1 _ _ i hil _ _ rfl rfl rfl _) ⟨N_1,N_2⟩ ?_; refine xrH 3 20 rfl (.agg #[.int .i64 pr.1,.int .i64 pr.2]) (fun _ ⟨hS1,hS2⟩=>loadN 34 _ (adr1.add (i*2)) [.int .i64 pr.1,.int .i64 pr.2] rfl rfl (fun _=>by kernel_rfl) (fun _=>by kernel_rfl) (NewW.rng hS1 hpr)) ⟨N_1,N_2⟩ ?_
    refine xrH 4 21 rfl (.slice (some adr2) rl.length c2) (fun _ ⟨hS1,hS2⟩=>(by kernel_rfl)) ⟨N_1,N_2⟩ ?_; refine xrH 5 22 rfl (.int .i64 (i:Int)) (fun _ ⟨hS1,hS2⟩=>(by kernel_rfl)) ⟨N_1,N_2⟩ ?_; refine xrH 6 23 rfl (.pointer (some (adr2.add (i*2)))) (fun _ ⟨hS1,hS2⟩=>idxR2 adr2 _ _ i hil _ _ rfl rfl rfl _) ⟨N_1,N_2⟩ ?_
    refine xrH 7 24 rfl (.agg #[.int .i64 pr.1,.int .i64 pr.2]) (fun _ ⟨hS1,hS2⟩=>loadN 34 _ (adr2.add (i*2)) [.int .i64 pr.1,.int .i64 pr.2] rfl rfl (fun _=>by kernel_rfl) (fun _=>by kernel_rfl) (NewW.rng hS2 hpr)) ⟨N_1,N_2⟩ ?_; refine xrH 8 25 rfl (.bool false) (fun _ ⟨hS1,hS2⟩=>neqRg _ _ _ _ rfl rfl rfl _) ⟨N_1,N_2⟩ ?_
    refine wpAnyH_done (by kernel_rfl) ?_ _
    first | show Exit.then _ _ _ _ _ | show Exit.inBlock _ _ _ _ _
    have HS:=show Hid _ from (And.intro N_1 (And.intro N_2 M.below)); clear M N_1 N_2; go_wp2
    go_roundw
    case rel=>exact ⟨i+1,by omega,by go_num,HS.out⟩
    case measure=>simp [intOf]; omega
  · have M:=(Mm.init w).call hB
    clear N1 N2; go_upto_region 4 with fail; refine wp_region_list ?_; refine xpL (.int .i64 (i:Int)) ?_; refine xpL (.slice p1 rl.length c1) ?_; refine xaL (.int .i64 ((rl.length:Nat):Int)) (lenS _ 27 34 p1 rl.length c1 rfl Try.underlying27 rfl _) ?_; refine xaL (.bool false) (lssI .i64 _ _ _ _ _ _ rfl rfl rfl false (decide_eq_false (by omega)) _) ?_; refine xT ?_
    go_upto_region 8 with fail; refine wp_region_list ?_; refine xpL (.bool true) ?_; refine xT ?_; have hbel:=M.below; clear M; go_wp2; go_ret
    exact ⟨rfl,hbel⟩
structure Opv where
 k:Int
 f:Int
 t:Int
def Opc (v:Opv):List Value:=[.int .i64 v.k,.int .i64 v.f,.int .i64 v.t]
structure OpV (w:World) (m:Nat) (v:Opv):Prop where
 k_i:i64 v.k
 f_i:i64 v.f
 t_i:i64 v.t
def OpsIn (w:World) (m:Nat) (sp:Option Addr) (l:List Opv):Prop:=∀ j v,l[j]?=some v→∃ ad,sp=some ad∧(∀ k x,(Opc v)[k]?=some x→w.cell? ((ad.add (j*3)).add k)=some x)∧OpV w m v
theorem OpsIn.cells {w w':World} {m:Nat} {ad:Addr} {l:List Opv} (h:OpsIn w m (some ad) l) (b:Below w.heap.size w w') {j:Nat} {v:Opv} (hv:l[j]?=some v):∀ k x,(Opc v)[k]?=some x→w'.cell? ((ad.add (j*3)).add k)=some x:=fun k x hx=>by
 obtain ⟨ad',e,hc,_⟩:=h j v hv
 injection e with e
 subst e
 have:=hc k x hx
 rw [b.cell (World.block_lt_of_cell? w _ this)]
 exact this
theorem OpsIn.ok {w:World} {m:Nat} {sp:Option Addr} {l:List Opv} (h:OpsIn w m sp l) {j:Nat} {v:Opv} (hv:l[j]?=some v):∃ ad,sp=some ad∧OpV w m v:=by
 obtain ⟨ad,e,_,h2⟩:=h j v hv
 exact ⟨ad,e,h2⟩
theorem idxO17 (ad:Addr) (len cap i:Nat) (hi:i<len) {o:Oper} {a:Act} (x y:Operand) (ho:o.op=.indexAddr 22 x y) (hx:a.eval x=.slice (some ad) len cap) (hy:a.eval y=.int .i64 (i:Int)) (w:World):(execOp a.eval o).run Try.prog w=.ok (.value (.pointer (some (ad.add (i*3))))) w :=
 idxSm 22 31 len cap 3 .i64 ad i x y Try.underlying22 (fun _=>by kernel_rfl) hi ho hx hy w
def inr (v:Opv) (n:Int):Prop:=rlo v.f≤n∧n<rhi v.t
theorem cellT {w w':World} (l:Below w.heap.size w w') {p:Addr} {u:Value} (h:w.cell? p=some u):w'.cell? p=some u:=by
 rw [l.cell (World.block_lt_of_cell? w _ h)]
 exact h
theorem rangeT {w:World} {B:Nat} {cs:List Value} (h:∀ j v,cs[j]?=some v→w.cell? ((⟨B,0,none⟩:Addr).add j)=some v):w.rangeAt B 0 cs:=fun j v hv=>by
 have e:=h j v hv
 rw [Addr.add_mid] at e
 exact e
theorem take_get {L:Rgs17} {i:Nat} {p:Int × Int} (h:L[i]?=some p):L.take (i+1)=L.take i++[p]:=by rw [List.take_add_one,h]; rfl
theorem Can.take {L:Rgs17} (h:Can L) (i:Nat):Can (L.take i):=⟨fun p hp=>h.row p (List.mem_of_mem_take hp),h.up.sublist (List.take_sublist i L)⟩
theorem rtot_up:∀ (L:Rgs17) (lo c:Int),Can L→(∀ p∈L,lo≤p.1∧p.2≤c)→lo≤c→rtot L≤c-lo
 | [],lo,c,_,_,h=>by show (0:Int)≤_; omega
 | p::L,lo,c,hc,h,_=>by
   have h1:=h p mS; have h2:=rtot_up L p.2 c hc.tail (fun q hq=>⟨Int.le_of_lt ((List.pairwise_cons.1 hc.up).1 q hq),(h q (mT _ hq)).2⟩) h1.2; have h3:=hc.head
   rw [rtot_cons]
   omega
theorem rtot_app (A:Rgs17) (p:Int × Int):rtot (A++[p])=rtot A+(p.2-p.1):=by
 unfold rtot
 rw [List.map_append,List.sum_append]
 simp
theorem rtot_step {L:Rgs17} (h:Can L) {i:Nat} {p:Int × Int} (hp:L[i]?=some p):rtot (L.take (i+1))=rtot (L.take i)+(p.2-p.1)∧0≤rtot (L.take i)∧rtot (L.take i)≤p.1∧0≤p.1∧p.1<p.2∧p.2≤4611686018427387904:=by
 have hr:=h.row p (List.mem_of_getElem? hp)
 have hu:∀ q∈L.take i,q.2≤p.1:=fun q hq=>by
  have h1:=(h.take (i+1)).up
  rw [take_get hp] at h1
  exact Int.le_of_lt ((List.pairwise_append.1 h1).2.2 q hq p (List.mem_singleton.2 rfl))
 refine ⟨by rw [take_get hp,rtot_app],(rtot_in (h.take i)).1,?_,hr⟩
 have:=rtot_up (L.take i) 0 p.1 (h.take i) (fun q hq=>⟨((h.take i).row q hq).1,hu q hq⟩) hr.1
 omega
theorem rhas_step {L:Rgs17} {i:Nat} {p:Int × Int} {n:Int} (hp:L[i]?=some p) (h0:rhas (L.take i) n=false):rhas (L.take (i+1)) n=decide (p.1≤n∧n<p.2):=by
 unfold rhas at h0 ⊢
 rw [take_get hp,List.any_append,h0]
 simp
theorem rhas_hit {L:Rgs17} {i:Nat} {p:Int × Int} {n:Int} (hp:L[i]?=some p) (h:p.1≤n∧n<p.2):rhas L n=true:=(rhas_iff L n).2 ⟨p,List.mem_of_getElem? hp,h⟩
theorem rnx_app:∀ (A:Rgs17) (p:Int × Int) (n:Int),(∀ q∈A,q.2<p.1)→rnx (A++[p]) n=if p.1≤rnx A n∧rnx A n<p.2 then p.2 else rnx A n
 | [],_,_,_=>rfl
 | q::A,p,n,h=>by
   have h1:=h q mS; have h2:=rnx_app A p n fun r hr=>h r (mT _ hr)
   show (if q.1≤n∧n<q.2 then q.2 else rnx (A++[p]) n)=if p.1≤(if q.1≤n∧n<q.2 then q.2 else rnx A n)∧(if q.1≤n∧n<q.2 then q.2 else rnx A n)<p.2 then p.2 else (if q.1≤n∧n<q.2 then q.2 else rnx A n)
   by_cases c:q.1≤n∧n<q.2
   · rw [if_pos c,if_pos c,if_neg (by omega)]
   · rw [if_neg c,if_neg c]
     exact h2
theorem Can.below {L:Rgs17} (h:Can L) {i:Nat} {p:Int × Int} (hp:L[i]?=some p):∀ q∈L.take i,q.2<p.1:=fun q hq=>by
 have h1:=(h.take (i+1)).up
 rw [take_get hp] at h1
 exact (List.pairwise_append.1 h1).2.2 q hq p (List.mem_singleton.2 rfl)
theorem rbg_app:∀ (A:Rgs17) (p:Int × Int) (a t:Int),rbg (A++[p]) a t=if a<p.1 then min (rbg A a t) p.1 else rbg A a t
 | [],_,_,_=>rfl
 | _::A,p,a,_=>rbg_app A p a _
theorem dtot_any (R:Nat) (sp:Option Addr) (cap:Nat) (L:Rgs17) (hc:Can L) (hln:L.length<1000000) (w:World) (hR:w.cell? ⟨R,0,none⟩=some (.slice sp L.length cap)) (N:NewW w 0 L (.slice sp L.length cap)) :
 Calls Try.prog 19 #[.pointer (some ⟨R,0,none⟩)] w fun e w'=>e=.returned (.int .i64 (rtot L))∧Below w.heap.size w w':=by
 have M:=Mm.init w
 go_enter Try.func19,Try.ntmps19
 go_upto_region 0 with fail; refine wp_region_list ?_; refine xpL (.int .i64 0) ?_; refine xT ?_; go_upto_region 1 with fail; refine wp_region_list ?_; refine xpL (.int .i64 0) ?_; refine xT ?_; go_upto_region 2 with fail; refine wp_region_list ?_; refine xpL (.int .i64 0) ?_; refine xT ?_; have HI:=show Hid _ from M.below; clear M; go_wp2
 go_loopw [3,4] (fun n i w'=>∃ i':Nat,i'≤L.length∧n=.int .i64 (rtot (L.take i'))∧i=.int .i64 (i':Int)∧Below w.heap.size w w') (fun n i _=>L.length-(intOf i).toNat)
 case atStart=>exact ⟨0,Nat.zero_le _,rfl,rfl,HI.out⟩
 case round =>
  clear HI
  obtain ⟨i,hi,rfl,rfl,hB⟩:=hrel
  by_cases hil:i<L.length
  · obtain ⟨pr,hpr⟩:∃ pr,L[i]?=some pr:=⟨_,List.getElem?_eq_getElem hil⟩
    obtain ⟨adr,rfl,_,_⟩:=NewW.at N hpr
    have M:=(Mm.init w).call hB; have hst:=rtot_step hc hpr; go_upto_region 3 with fail; refine wp_region_list ?_; refine xpL (.int .i64 (i:Int)) ?_; refine xpL (.pointer (some ⟨R,0,none⟩)) ?_; refine xpL (.pointer (some ⟨R,0,none⟩)) ?_; refine xpL (.pointer (some ⟨R,0,none⟩)) ?_
    refine xaL (.slice (some adr) L.length cap) (load1 27 _ ⟨R,0,none⟩ _ rfl rfl (fun _=>by kernel_rfl) (cellT M.below hR)) ?_; refine xaL (.int .i64 ((L.length:Nat):Int)) (lenS _ 27 34 (some adr) L.length cap rfl Try.underlying27 rfl _) ?_; refine xaL (.bool true) (lssI .i64 _ _ _ _ _ _ rfl rfl rfl true (decide_eq_true (by omega)) _) ?_; refine xT ?_; go_upto_region 5 with fail
    refine wp_region_held_drew (S:=fun w'=>Below w.heap.size w w') (by kernel_rfl) M.drew.below ?_; intro _; replace M:=M.drew; have hdr:=(Below.refl wr.heap.size wr).drew; clear hdr; generalize wr.drew=w1 at M  ⊢; refine xrH 0 14 rfl (.int .i64 (rtot (L.take i))) (fun _ hS=>(by kernel_rfl)) M.below ?_
    refine xrH 1 15 rfl (.pointer (some ⟨R,0,none⟩)) (fun _ hS=>(by kernel_rfl)) M.below ?_; refine xrH 2 16 rfl (.pointer (some ⟨R,0,none⟩)) (fun _ hS=>(by kernel_rfl)) M.below ?_; refine xrH 3 17 rfl (.pointer (some ⟨R,0,none⟩)) (fun _ hS=>(by kernel_rfl)) M.below ?_
    refine xrH 4 18 rfl (.slice (some adr) L.length cap) (fun _ hS=>load1 27 _ ⟨R,0,none⟩ _ rfl rfl (fun _=>by kernel_rfl) (cellT hS hR)) M.below ?_; refine xrH 5 19 rfl (.int .i64 (i:Int)) (fun _ hS=>(by kernel_rfl)) M.below ?_; refine xrH 6 20 rfl (.pointer (some (adr.add (i*2)))) (fun _ hS=>idxR2 adr _ _ i hil _ _ rfl rfl rfl _) M.below ?_
    refine xrH 7 21 rfl (.pointer (some ((adr.add (i*2)).add 1))) (fun _ hS=>(by kernel_rfl)) M.below ?_; refine xrH 8 22 rfl (.int .i64 pr.2) (fun _ hS=>load1 3 _ ((adr.add (i*2)).add 1) _ rfl rfl (fun _=>by kernel_rfl) (NewW.rng (NewW.below N hS) hpr 1 _ rfl)) M.below ?_
    refine xrH 9 23 rfl (.int .i64 (rtot (L.take i)+pr.2)) (fun _ hS=>addI .i64 _ _ _ _ _ _ _ rfl rfl rfl (by rw [xw6]; omega) _) M.below ?_; refine xrH 10 24 rfl (.pointer (some ⟨R,0,none⟩)) (fun _ hS=>(by kernel_rfl)) M.below ?_; refine xrH 11 25 rfl (.pointer (some ⟨R,0,none⟩)) (fun _ hS=>(by kernel_rfl)) M.below ?_
    refine xrH 12 26 rfl (.pointer (some ⟨R,0,none⟩)) (fun _ hS=>(by kernel_rfl)) M.below ?_; refine xrH 13 27 rfl (.slice (some adr) L.length cap) (fun _ hS=>load1 27 _ ⟨R,0,none⟩ _ rfl rfl (fun _=>by kernel_rfl) (cellT hS hR)) M.below ?_; refine xrH 14 28 rfl (.int .i64 (i:Int)) (fun _ hS=>(by kernel_rfl)) M.below ?_
    refine xrH 15 29 rfl (.pointer (some (adr.add (i*2)))) (fun _ hS=>idxR2 adr _ _ i hil _ _ rfl rfl rfl _) M.below ?_; refine xrH 16 30 rfl (.pointer (some ((adr.add (i*2)).add 0))) (fun _ hS=>(by kernel_rfl)) M.below ?_
    refine xrH 17 31 rfl (.int .i64 pr.1) (fun _ hS=>load1 3 _ ((adr.add (i*2)).add 0) _ rfl rfl (fun _=>by kernel_rfl) (NewW.rng (NewW.below N hS) hpr 0 _ rfl)) M.below ?_; refine xrH 18 32 rfl (.int .i64 (rtot (L.take (i+1)))) (fun _ hS=>subI .i64 _ _ _ _ _ _ _ rfl rfl rfl (by rw [xw6]; omega) _) M.below ?_
    refine xrH 19 3 rfl (.int .i64 (rtot (L.take (i+1)))) (fun _ hS=>(by kernel_rfl)) M.below ?_
    refine wpAnyH_done (by kernel_rfl) ?_ _
    first | show Exit.then _ _ _ _ _ | show Exit.inBlock _ _ _ _ _
    have HS:=show Hid _ from M.below; clear M; go_wp2
    go_roundw
    case rel=>exact ⟨i+1,by omega,rfl,by go_num,HS.out⟩
    case measure=>simp [intOf]; omega
  · have M:=(Mm.init w).call hB
    rw [List.take_of_length_le (show L.length≤i by omega)]
    go_upto_region 3 with fail; refine wp_region_list ?_; refine xpL (.int .i64 (i:Int)) ?_; refine xpL (.pointer (some ⟨R,0,none⟩)) ?_; refine xpL (.pointer (some ⟨R,0,none⟩)) ?_; refine xpL (.pointer (some ⟨R,0,none⟩)) ?_; refine xaL (.slice sp L.length cap) (load1 27 _ ⟨R,0,none⟩ _ rfl rfl (fun _=>by kernel_rfl) (cellT M.below hR)) ?_
    refine xaL (.int .i64 ((L.length:Nat):Int)) (lenS _ 27 34 sp L.length cap rfl Try.underlying27 rfl _) ?_; refine xaL (.bool false) (lssI .i64 _ _ _ _ _ _ rfl rfl rfl false (decide_eq_false (by omega)) _) ?_; refine xT ?_; go_upto_region 6 with fail; refine wp_region_list ?_; refine xpL (.int .i64 (rtot L)) ?_; refine xpL (.int .i64 (rtot L)) ?_; refine xT ?_; have hbel:=M.below; clear M
    go_wp2; go_ret
    exact ⟨rfl,hbel⟩
theorem dhas_any (R:Nat) (sp:Option Addr) (cap:Nat) (L:Rgs17) (_hc:Can L) (hln:L.length<1000000) (n:Int) (w:World) (hR:w.cell? ⟨R,0,none⟩=some (.slice sp L.length cap)) (N:NewW w 0 L (.slice sp L.length cap)) :
 Calls Try.prog 21 #[.pointer (some ⟨R,0,none⟩),.int .i64 n] w fun e w'=>e=.returned (.bool (rhas L n))∧Below w.heap.size w w':=by
 have M:=Mm.init w
 go_enter Try.func21,Try.ntmps21
 go_upto_region 0 with fail; refine wp_region_list ?_; refine xpL (.bool false) ?_; refine xT ?_; go_upto_region 1 with fail; refine wp_region_list ?_; refine xpL (.int .i64 0) ?_; refine xT ?_; have HI:=show Hid _ from M.below; clear M; go_wp2
 go_loopw [5] (fun i w'=>∃ i':Nat,i'≤L.length∧rhas (L.take i') n=false∧i=.int .i64 (i':Int)∧Below w.heap.size w w') (fun i _=>L.length-(intOf i).toNat)
 case atStart=>exact ⟨0,Nat.zero_le _,rfl,rfl,HI.out⟩
 case round =>
  clear HI
  obtain ⟨i,hi,hh,rfl,hB⟩:=hrel
  by_cases hil:i<L.length
  · obtain ⟨pr,hpr⟩:∃ pr,L[i]?=some pr:=⟨_,List.getElem?_eq_getElem hil⟩
    obtain ⟨adr,rfl,_,_⟩:=NewW.at N hpr
    have M:=(Mm.init w).call hB; go_upto_region 2 with fail; refine wp_region_list ?_; refine xpL (.int .i64 (i:Int)) ?_; refine xpL (.pointer (some ⟨R,0,none⟩)) ?_; refine xpL (.pointer (some ⟨R,0,none⟩)) ?_; refine xpL (.pointer (some ⟨R,0,none⟩)) ?_; refine xaL (.slice (some adr) L.length cap) (load1 27 _ ⟨R,0,none⟩ _ rfl rfl (fun _=>by kernel_rfl) (cellT M.below hR)) ?_
    refine xaL (.int .i64 ((L.length:Nat):Int)) (lenS _ 27 34 (some adr) L.length cap rfl Try.underlying27 rfl _) ?_; refine xaL (.bool true) (lssI .i64 _ _ _ _ _ _ rfl rfl rfl true (decide_eq_true (by omega)) _) ?_; refine xT ?_
    by_cases h1:pr.1≤n
    · by_cases h2:n<pr.2
      · go_upto_region 4 with fail
        refine wp_region_list ?_; refine xpL (.int .i64 n) ?_; refine xpL (.pointer (some ⟨R,0,none⟩)) ?_; refine xpL (.pointer (some ⟨R,0,none⟩)) ?_; refine xpL (.pointer (some ⟨R,0,none⟩)) ?_; refine xaL (.slice (some adr) L.length cap) (load1 27 _ ⟨R,0,none⟩ _ rfl rfl (fun _=>by kernel_rfl) (cellT M.below hR)) ?_; refine xpL (.int .i64 (i:Int)) ?_
        refine readL (.pointer (some (adr.add (i*2)))) rfl (idxR2 adr _ _ i hil _ _ rfl rfl rfl _) ?_; simp only [aP,lI,l0,lS]; refine xpL (.pointer (some ((adr.add (i*2)).add 0))) ?_; refine xaL (.int .i64 pr.1) (load1 3 _ ((adr.add (i*2)).add 0) _ rfl rfl (fun _=>by kernel_rfl) (NewW.rng (NewW.below N M.below) hpr 0 _ rfl)) ?_
        refine xaL (.bool true) (geqI .i64 _ _ _ _ _ _ rfl rfl rfl true (decide_eq_true (by omega)) _) ?_; refine xpL (.bool true) ?_; refine xpL (.int .i64 n) ?_; refine xpL (.pointer (some ⟨R,0,none⟩)) ?_; refine xpL (.pointer (some ⟨R,0,none⟩)) ?_; refine xpL (.pointer (some ⟨R,0,none⟩)) ?_
        refine xaL (.slice (some adr) L.length cap) (load1 27 _ ⟨R,0,none⟩ _ rfl rfl (fun _=>by kernel_rfl) (cellT M.below hR)) ?_; refine xpL (.int .i64 (i:Int)) ?_; refine readL (.pointer (some (adr.add (i*2)))) rfl (idxR2 adr _ _ i hil _ _ rfl rfl rfl _) ?_; simp only [aP,lI,l0,lS]; refine xpL (.pointer (some ((adr.add (i*2)).add 1))) ?_
        refine xaL (.int .i64 pr.2) (load1 3 _ ((adr.add (i*2)).add 1) _ rfl rfl (fun _=>by kernel_rfl) (NewW.rng (NewW.below N M.below) hpr 1 _ rfl)) ?_; refine xaL (.bool true) (lssI .i64 _ _ _ _ _ _ rfl rfl rfl true (decide_eq_true (by omega)) _) ?_; refine xpL (.bool true) ?_; refine xT ?_; go_upto_region 5 with fail; refine wp_region_list ?_; refine xpL (.bool true) ?_; refine xT ?_
        have hbel:=M.below; clear M; go_wp2; go_ret
        exact ⟨congrArg (fun b=>Ending.returned (Value.bool b)) (rhas_hit hpr ⟨h1,h2⟩).symm,hbel⟩
      · go_upto_region 4 with fail
        refine wp_region_list ?_; refine xpL (.int .i64 n) ?_; refine xpL (.pointer (some ⟨R,0,none⟩)) ?_; refine xpL (.pointer (some ⟨R,0,none⟩)) ?_; refine xpL (.pointer (some ⟨R,0,none⟩)) ?_; refine xaL (.slice (some adr) L.length cap) (load1 27 _ ⟨R,0,none⟩ _ rfl rfl (fun _=>by kernel_rfl) (cellT M.below hR)) ?_; refine xpL (.int .i64 (i:Int)) ?_
        refine readL (.pointer (some (adr.add (i*2)))) rfl (idxR2 adr _ _ i hil _ _ rfl rfl rfl _) ?_; simp only [aP,lI,l0,lS]; refine xpL (.pointer (some ((adr.add (i*2)).add 0))) ?_; refine xaL (.int .i64 pr.1) (load1 3 _ ((adr.add (i*2)).add 0) _ rfl rfl (fun _=>by kernel_rfl) (NewW.rng (NewW.below N M.below) hpr 0 _ rfl)) ?_
        refine xaL (.bool true) (geqI .i64 _ _ _ _ _ _ rfl rfl rfl true (decide_eq_true (by omega)) _) ?_; refine xpL (.bool true) ?_; refine xpL (.int .i64 n) ?_; refine xpL (.pointer (some ⟨R,0,none⟩)) ?_; refine xpL (.pointer (some ⟨R,0,none⟩)) ?_; refine xpL (.pointer (some ⟨R,0,none⟩)) ?_
        refine xaL (.slice (some adr) L.length cap) (load1 27 _ ⟨R,0,none⟩ _ rfl rfl (fun _=>by kernel_rfl) (cellT M.below hR)) ?_; refine xpL (.int .i64 (i:Int)) ?_; refine readL (.pointer (some (adr.add (i*2)))) rfl (idxR2 adr _ _ i hil _ _ rfl rfl rfl _) ?_; simp only [aP,lI,l0,lS]; refine xpL (.pointer (some ((adr.add (i*2)).add 1))) ?_
        refine xaL (.int .i64 pr.2) (load1 3 _ ((adr.add (i*2)).add 1) _ rfl rfl (fun _=>by kernel_rfl) (NewW.rng (NewW.below N M.below) hpr 1 _ rfl)) ?_; refine xaL (.bool false) (lssI .i64 _ _ _ _ _ _ rfl rfl rfl false (decide_eq_false (by omega)) _) ?_; refine xpL (.bool false) ?_; refine xT ?_; have HS:=show Hid _ from M.below; clear M; go_wp2
        go_roundw
        case rel=>exact ⟨i+1,by omega,by rw [rhas_step hpr hh]; exact decide_eq_false (by omega),by go_num,HS.out⟩
        case measure=>simp [intOf]; omega
    · go_upto_region 4 with fail
      refine wp_region_list ?_; refine xpL (.int .i64 n) ?_; refine xpL (.pointer (some ⟨R,0,none⟩)) ?_; refine xpL (.pointer (some ⟨R,0,none⟩)) ?_; refine xpL (.pointer (some ⟨R,0,none⟩)) ?_; refine xaL (.slice (some adr) L.length cap) (load1 27 _ ⟨R,0,none⟩ _ rfl rfl (fun _=>by kernel_rfl) (cellT M.below hR)) ?_; refine xpL (.int .i64 (i:Int)) ?_
      refine readL (.pointer (some (adr.add (i*2)))) rfl (idxR2 adr _ _ i hil _ _ rfl rfl rfl _) ?_; simp only [aP,lI,l0,lS]; refine xpL (.pointer (some ((adr.add (i*2)).add 0))) ?_; refine xaL (.int .i64 pr.1) (load1 3 _ ((adr.add (i*2)).add 0) _ rfl rfl (fun _=>by kernel_rfl) (NewW.rng (NewW.below N M.below) hpr 0 _ rfl)) ?_
      refine xaL (.bool false) (geqI .i64 _ _ _ _ _ _ rfl rfl rfl false (decide_eq_false (by omega)) _) ?_; refine xpL (.bool false) ?_
      with_reducible refine skipL ?_ ?_
      · rfl
      simp only [aP,lI,l0,lS]
      with_reducible refine skipL ?_ ?_
      · rfl
      simp only [aP,lI,l0,lS]
      with_reducible refine skipL ?_ ?_
      · rfl
      simp only [aP,lI,l0,lS]
      with_reducible refine skipL ?_ ?_
      · rfl
      simp only [aP,lI,l0,lS]
      with_reducible refine skipL ?_ ?_
      · rfl
      simp only [aP,lI,l0,lS]
      with_reducible refine skipL ?_ ?_
      · rfl
      simp only [aP,lI,l0,lS]
      with_reducible refine skipL ?_ ?_
      · rfl
      simp only [aP,lI,l0,lS]
      with_reducible refine skipL ?_ ?_
      · rfl
      simp only [aP,lI,l0,lS]
      with_reducible refine skipL ?_ ?_
      · rfl
      simp only [aP,lI,l0,lS]
      with_reducible refine skipL ?_ ?_
      · rfl
      simp only [aP,lI,l0,lS]; refine xpL (.bool false) ?_; refine xT ?_; have HS:=show Hid _ from M.below; clear M; go_wp2
      go_roundw
      case rel=>exact ⟨i+1,by omega,by rw [rhas_step hpr hh]; exact decide_eq_false (by omega),by go_num,HS.out⟩
      case measure=>simp [intOf]; omega
  · have M:=(Mm.init w).call hB
    rw [List.take_of_length_le (show L.length≤i by omega)] at hh
    go_upto_region 2 with fail; refine wp_region_list ?_; refine xpL (.int .i64 (i:Int)) ?_; refine xpL (.pointer (some ⟨R,0,none⟩)) ?_; refine xpL (.pointer (some ⟨R,0,none⟩)) ?_; refine xpL (.pointer (some ⟨R,0,none⟩)) ?_; refine xaL (.slice sp L.length cap) (load1 27 _ ⟨R,0,none⟩ _ rfl rfl (fun _=>by kernel_rfl) (cellT M.below hR)) ?_
    refine xaL (.int .i64 ((L.length:Nat):Int)) (lenS _ 27 34 sp L.length cap rfl Try.underlying27 rfl _) ?_; refine xaL (.bool false) (lssI .i64 _ _ _ _ _ _ rfl rfl rfl false (decide_eq_false (by omega)) _) ?_; refine xT ?_; go_upto_region 6 with fail; refine wp_region_list ?_; refine xpL (.bool false) ?_; refine xT ?_; have hbel:=M.below; clear M; go_wp2; go_ret
    exact ⟨congrArg (fun b=>Ending.returned (Value.bool b)) hh.symm,hbel⟩
theorem dnxt_any (R:Nat) (sp:Option Addr) (cap:Nat) (L:Rgs17) (hc:Can L) (hln:L.length<1000000) (n:Int) (w:World) (hR:w.cell? ⟨R,0,none⟩=some (.slice sp L.length cap)) (N:NewW w 0 L (.slice sp L.length cap)) :
 Calls Try.prog 23 #[.pointer (some ⟨R,0,none⟩),.int .i64 n] w fun e w'=>e=.returned (.int .i64 (rnxt L n))∧Below w.heap.size w w':=by
 have M:=Mm.init w
 go_enter Try.func23,Try.ntmps23
 go_upto_region 0 with fail; refine wp_region_list ?_; refine xpL (.int .i64 0) ?_; refine xT ?_; go_upto_region 1 with fail; refine wp_region_list ?_; refine xpL (.int .i64 n) ?_; refine xaL (.int .i64 (max n 0)) (maxI .i64 .i64 _ _ _ _ _ _ _ rfl rfl rfl (by split <;> omega) _) ?_; refine xpL (.int .i64 (max n 0)) ?_; refine xT ?_; go_upto_region 2 with fail; refine wp_region_list ?_
 refine xpL (.int .i64 0) ?_; refine xT ?_; have HI:=show Hid _ from M.below; clear M; go_wp2
 go_loopw [1,5] (fun m i w'=>∃ i':Nat,i'≤L.length∧m=.int .i64 (rnx (L.take i') (max n 0))∧i=.int .i64 (i':Int)∧Below w.heap.size w w') (fun m i _=>L.length-(intOf i).toNat)
 case atStart=>exact ⟨0,Nat.zero_le _,rfl,rfl,HI.out⟩
 case round =>
  clear HI
  obtain ⟨i,hi,rfl,rfl,hB⟩:=hrel
  by_cases hil:i<L.length
  · obtain ⟨pr,hpr⟩:∃ pr,L[i]?=some pr:=⟨_,List.getElem?_eq_getElem hil⟩
    obtain ⟨adr,rfl,_,_⟩:=NewW.at N hpr
    have M:=(Mm.init w).call hB; have hst:=rnx_app (L.take i) pr (max n 0) (hc.below hpr)
    rw [← take_get hpr] at hst
    go_upto_region 3 with fail; refine wp_region_list ?_; refine xpL (.int .i64 (i:Int)) ?_; refine xpL (.pointer (some ⟨R,0,none⟩)) ?_; refine xpL (.pointer (some ⟨R,0,none⟩)) ?_; refine xpL (.pointer (some ⟨R,0,none⟩)) ?_; refine xaL (.slice (some adr) L.length cap) (load1 27 _ ⟨R,0,none⟩ _ rfl rfl (fun _=>by kernel_rfl) (cellT M.below hR)) ?_
    refine xaL (.int .i64 ((L.length:Nat):Int)) (lenS _ 27 34 (some adr) L.length cap rfl Try.underlying27 rfl _) ?_; refine xaL (.bool true) (lssI .i64 _ _ _ _ _ _ rfl rfl rfl true (decide_eq_true (by omega)) _) ?_; refine xT ?_
    by_cases h1:pr.1≤rnx (L.take i) (max n 0)
    · by_cases h2:rnx (L.take i) (max n 0)<pr.2
      · go_upto_region 5 with fail
        refine wp_region_list ?_; refine xpL (.int .i64 (rnx (L.take i) (max n 0))) ?_; refine xpL (.pointer (some ⟨R,0,none⟩)) ?_; refine xpL (.pointer (some ⟨R,0,none⟩)) ?_; refine xpL (.pointer (some ⟨R,0,none⟩)) ?_; refine xaL (.slice (some adr) L.length cap) (load1 27 _ ⟨R,0,none⟩ _ rfl rfl (fun _=>by kernel_rfl) (cellT M.below hR)) ?_; refine xpL (.int .i64 (i:Int)) ?_
        refine readL (.pointer (some (adr.add (i*2)))) rfl (idxR2 adr _ _ i hil _ _ rfl rfl rfl _) ?_; simp only [aP,lI,l0,lS]; refine xpL (.pointer (some ((adr.add (i*2)).add 0))) ?_; refine xaL (.int .i64 pr.1) (load1 3 _ ((adr.add (i*2)).add 0) _ rfl rfl (fun _=>by kernel_rfl) (NewW.rng (NewW.below N M.below) hpr 0 _ rfl)) ?_
        refine xaL (.bool true) (geqI .i64 _ _ _ _ _ _ rfl rfl rfl true (decide_eq_true (by omega)) _) ?_; refine xpL (.bool true) ?_; refine xpL (.int .i64 (rnx (L.take i) (max n 0))) ?_; refine xpL (.pointer (some ⟨R,0,none⟩)) ?_; refine xpL (.pointer (some ⟨R,0,none⟩)) ?_; refine xpL (.pointer (some ⟨R,0,none⟩)) ?_
        refine xaL (.slice (some adr) L.length cap) (load1 27 _ ⟨R,0,none⟩ _ rfl rfl (fun _=>by kernel_rfl) (cellT M.below hR)) ?_; refine xpL (.int .i64 (i:Int)) ?_; refine readL (.pointer (some (adr.add (i*2)))) rfl (idxR2 adr _ _ i hil _ _ rfl rfl rfl _) ?_; simp only [aP,lI,l0,lS]; refine xpL (.pointer (some ((adr.add (i*2)).add 1))) ?_
        refine xaL (.int .i64 pr.2) (load1 3 _ ((adr.add (i*2)).add 1) _ rfl rfl (fun _=>by kernel_rfl) (NewW.rng (NewW.below N M.below) hpr 1 _ rfl)) ?_; refine xaL (.bool true) (lssI .i64 _ _ _ _ _ _ rfl rfl rfl true (decide_eq_true (by omega)) _) ?_; refine xpL (.bool true) ?_; refine xT ?_; go_upto_region 6 with fail; refine wp_region_list ?_; refine xpL (.pointer (some ⟨R,0,none⟩)) ?_
        refine xpL (.pointer (some ⟨R,0,none⟩)) ?_; refine xpL (.pointer (some ⟨R,0,none⟩)) ?_; refine xaL (.slice (some adr) L.length cap) (load1 27 _ ⟨R,0,none⟩ _ rfl rfl (fun _=>by kernel_rfl) (cellT M.below hR)) ?_; refine xpL (.int .i64 (i:Int)) ?_; refine readL (.pointer (some (adr.add (i*2)))) rfl (idxR2 adr _ _ i hil _ _ rfl rfl rfl _) ?_; simp only [aP,lI,l0,lS]
        refine xpL (.pointer (some ((adr.add (i*2)).add 1))) ?_; refine xaL (.int .i64 pr.2) (load1 3 _ ((adr.add (i*2)).add 1) _ rfl rfl (fun _=>by kernel_rfl) (NewW.rng (NewW.below N M.below) hpr 1 _ rfl)) ?_; refine xpL (.int .i64 pr.2) ?_; refine xT ?_; have HS:=show Hid _ from M.below; clear M; go_wp2
        go_roundw
        case rel=>exact ⟨i+1,by omega,by rw [hst,if_pos ⟨h1,h2⟩],by go_num,HS.out⟩
        case measure=>simp [intOf]; omega
      · go_upto_region 5 with fail
        refine wp_region_list ?_; refine xpL (.int .i64 (rnx (L.take i) (max n 0))) ?_; refine xpL (.pointer (some ⟨R,0,none⟩)) ?_; refine xpL (.pointer (some ⟨R,0,none⟩)) ?_; refine xpL (.pointer (some ⟨R,0,none⟩)) ?_; refine xaL (.slice (some adr) L.length cap) (load1 27 _ ⟨R,0,none⟩ _ rfl rfl (fun _=>by kernel_rfl) (cellT M.below hR)) ?_; refine xpL (.int .i64 (i:Int)) ?_
        refine readL (.pointer (some (adr.add (i*2)))) rfl (idxR2 adr _ _ i hil _ _ rfl rfl rfl _) ?_; simp only [aP,lI,l0,lS]; refine xpL (.pointer (some ((adr.add (i*2)).add 0))) ?_; refine xaL (.int .i64 pr.1) (load1 3 _ ((adr.add (i*2)).add 0) _ rfl rfl (fun _=>by kernel_rfl) (NewW.rng (NewW.below N M.below) hpr 0 _ rfl)) ?_
        refine xaL (.bool true) (geqI .i64 _ _ _ _ _ _ rfl rfl rfl true (decide_eq_true (by omega)) _) ?_; refine xpL (.bool true) ?_; refine xpL (.int .i64 (rnx (L.take i) (max n 0))) ?_; refine xpL (.pointer (some ⟨R,0,none⟩)) ?_; refine xpL (.pointer (some ⟨R,0,none⟩)) ?_; refine xpL (.pointer (some ⟨R,0,none⟩)) ?_
        refine xaL (.slice (some adr) L.length cap) (load1 27 _ ⟨R,0,none⟩ _ rfl rfl (fun _=>by kernel_rfl) (cellT M.below hR)) ?_; refine xpL (.int .i64 (i:Int)) ?_; refine readL (.pointer (some (adr.add (i*2)))) rfl (idxR2 adr _ _ i hil _ _ rfl rfl rfl _) ?_; simp only [aP,lI,l0,lS]; refine xpL (.pointer (some ((adr.add (i*2)).add 1))) ?_
        refine xaL (.int .i64 pr.2) (load1 3 _ ((adr.add (i*2)).add 1) _ rfl rfl (fun _=>by kernel_rfl) (NewW.rng (NewW.below N M.below) hpr 1 _ rfl)) ?_; refine xaL (.bool false) (lssI .i64 _ _ _ _ _ _ rfl rfl rfl false (decide_eq_false (by omega)) _) ?_; refine xpL (.bool false) ?_; refine xT ?_; have HS:=show Hid _ from M.below; clear M; go_wp2
        go_roundw
        case rel=>exact ⟨i+1,by omega,by rw [hst,if_neg (fun c=>h2 c.2)],by go_num,HS.out⟩
        case measure=>simp [intOf]; omega
    · go_upto_region 5 with fail
      refine wp_region_list ?_; refine xpL (.int .i64 (rnx (L.take i) (max n 0))) ?_; refine xpL (.pointer (some ⟨R,0,none⟩)) ?_; refine xpL (.pointer (some ⟨R,0,none⟩)) ?_; refine xpL (.pointer (some ⟨R,0,none⟩)) ?_; refine xaL (.slice (some adr) L.length cap) (load1 27 _ ⟨R,0,none⟩ _ rfl rfl (fun _=>by kernel_rfl) (cellT M.below hR)) ?_; refine xpL (.int .i64 (i:Int)) ?_
      refine readL (.pointer (some (adr.add (i*2)))) rfl (idxR2 adr _ _ i hil _ _ rfl rfl rfl _) ?_; simp only [aP,lI,l0,lS]; refine xpL (.pointer (some ((adr.add (i*2)).add 0))) ?_; refine xaL (.int .i64 pr.1) (load1 3 _ ((adr.add (i*2)).add 0) _ rfl rfl (fun _=>by kernel_rfl) (NewW.rng (NewW.below N M.below) hpr 0 _ rfl)) ?_
      refine xaL (.bool false) (geqI .i64 _ _ _ _ _ _ rfl rfl rfl false (decide_eq_false (by omega)) _) ?_; refine xpL (.bool false) ?_
      with_reducible refine skipL ?_ ?_
      · rfl
      simp only [aP,lI,l0,lS]
      with_reducible refine skipL ?_ ?_
      · rfl
      simp only [aP,lI,l0,lS]
      with_reducible refine skipL ?_ ?_
      · rfl
      simp only [aP,lI,l0,lS]
      with_reducible refine skipL ?_ ?_
      · rfl
      simp only [aP,lI,l0,lS]
      with_reducible refine skipL ?_ ?_
      · rfl
      simp only [aP,lI,l0,lS]
      with_reducible refine skipL ?_ ?_
      · rfl
      simp only [aP,lI,l0,lS]
      with_reducible refine skipL ?_ ?_
      · rfl
      simp only [aP,lI,l0,lS]
      with_reducible refine skipL ?_ ?_
      · rfl
      simp only [aP,lI,l0,lS]
      with_reducible refine skipL ?_ ?_
      · rfl
      simp only [aP,lI,l0,lS]
      with_reducible refine skipL ?_ ?_
      · rfl
      simp only [aP,lI,l0,lS]; refine xpL (.bool false) ?_; refine xT ?_; have HS:=show Hid _ from M.below; clear M; go_wp2
      go_roundw
      case rel=>exact ⟨i+1,by omega,by rw [hst,if_neg (fun c=>h1 c.1)],by go_num,HS.out⟩
      case measure=>simp [intOf]; omega
  · have M:=(Mm.init w).call hB
    rw [List.take_of_length_le (show L.length≤i by omega)]
    go_upto_region 3 with fail; refine wp_region_list ?_; refine xpL (.int .i64 (i:Int)) ?_; refine xpL (.pointer (some ⟨R,0,none⟩)) ?_; refine xpL (.pointer (some ⟨R,0,none⟩)) ?_; refine xpL (.pointer (some ⟨R,0,none⟩)) ?_; refine xaL (.slice sp L.length cap) (load1 27 _ ⟨R,0,none⟩ _ rfl rfl (fun _=>by kernel_rfl) (cellT M.below hR)) ?_
    refine xaL (.int .i64 ((L.length:Nat):Int)) (lenS _ 27 34 sp L.length cap rfl Try.underlying27 rfl _) ?_; refine xaL (.bool false) (lssI .i64 _ _ _ _ _ _ rfl rfl rfl false (decide_eq_false (by omega)) _) ?_; refine xT ?_; go_upto_region 7 with fail; refine wp_region_list ?_; refine xpL (.int .i64 (rnx L (max n 0))) ?_; refine xpL (.int .i64 (rnx L (max n 0))) ?_; refine xT ?_
    have hbel:=M.below; clear M; go_wp2; go_ret
    exact ⟨rfl,hbel⟩
theorem dins_any (f t:Int) (w:World) :
 Calls Try.prog 30 #[.int .i64 f,.int .i64 t] w fun e w'=>e=.returned (.tuple #[.int .i64 (rlo f),.int .i64 (rhi t)])∧Below w.heap.size w w':=by
 have M:=Mm.init w
 go_enter Try.func30,Try.ntmps30
 go_upto_region 0 with fail; refine wp_region_list ?_; refine xpL (.int .i64 0) ?_; refine xpL (.int .i64 0) ?_; refine xT ?_; go_upto_region 1 with fail; refine wp_region_list ?_; refine xpL (.int .i64 f) ?_; refine xaL (.int .i64 (rlo f)) (maxI .i64 .i64 _ _ _ _ _ _ _ rfl rfl rfl (by unfold rlo; split <;> omega) _) ?_; refine xpL (.int .i64 t) ?_
 refine xaL (.int .i64 (rhi t)) (minI .i64 .i64 _ _ _ _ _ _ _ rfl rfl rfl (by unfold rhi; split <;> omega) _) ?_; refine xpL (.int .i64 (rlo f)) ?_; refine xpL (.int .i64 (rhi t)) ?_; refine xT ?_; have hbel:=M.below; clear M; go_wp2; go_ret2
 exact ⟨rfl,hbel⟩
theorem rnxt_lo (L:Rgs17) (f:Int):rnxt L (rlo f)=rnx L (rlo f):=by
 unfold rnxt
 congr 1
 unfold rlo
 omega
theorem rg_nil {L:Rgs17} {f t:Int} (h:rhi t≤rnx L (rlo f)):rgF L f t=0∧rgT L f t=0∧rgB L f t=false:=by
 unfold rgF rgT rgB rgp
 rw [if_pos h]
 exact ⟨rfl,rfl,rfl⟩
theorem rg_is {L:Rgs17} {f t:Int} (h:¬ rhi t≤rnx L (rlo f)):rgF L f t=rnx L (rlo f)∧rgT L f t=rbg L (rnx L (rlo f)) (rhi t)∧rgB L f t=true:=by
 unfold rgF rgT rgB rgp
 rw [if_neg h]
 exact ⟨rfl,rfl,rfl⟩
theorem dgap_any (R:Nat) (sp:Option Addr) (cap:Nat) (L:Rgs17) (hc:Can L) (hln:L.length<1000000) (f t:Int) (w:World) (hR:w.cell? ⟨R,0,none⟩=some (.slice sp L.length cap)) (N:NewW w 0 L (.slice sp L.length cap)) :
 Calls Try.prog 15 #[.pointer (some ⟨R,0,none⟩),.int .i64 f,.int .i64 t] w fun e w'=>e=.returned (.tuple #[.agg #[.int .i64 (rgF L f t),.int .i64 (rgT L f t)],.bool (rgB L f t)])∧Below w.heap.size w w':=by
 have M:=Mm.init w
 go_enter Try.func15,Try.ntmps15
 go_upto_region 0 with fail; refine wp_region_list ?_; refine actL (w':=w.alloc (.cells #[.int .i64 0,.int .i64 0] 34)) (.pointer (some ⟨w.heap.size,0,none⟩)) rfl (by kernel_rfl) ?_; simp only [aP,lI,l0,lS]
 have hB_B1:w.heap.size≤w.heap.size:=M.below.size
 replace M:=M.box #[.int .i64 0,.int .i64 0] 34 w.heap.size rfl; generalize w.alloc (.cells #[.int .i64 0,.int .i64 0] 34)=w1 at M  ⊢; generalize eB:w.heap.size=B1 at M hB_B1  ⊢
 have hE_B1:w.heap.size≤B1:=Nat.le_of_eq eB
 have hF_B1:B1≤w.heap.size:=Nat.le_of_eq eB.symm
 clear eB
 replace M:Mm w ((B1,[.int .i64 0,.int .i64 0])::([]:List (Nat × List Value))) w1:=M
 refine xpL (.bool false) ?_; refine xT ?_; go_upto_region 1 with fail; refine wp_region_list ?_; refine xpL (.int .i64 f) ?_; refine xpL (.int .i64 t) ?_; refine xcL (dins_any f t _) ?_; rintro e w2 ⟨rfl,l⟩; replace M:=M.call l; clear l; refine xeL ?_; refine xpL (.tuple #[.int .i64 (rlo f),.int .i64 (rhi t)]) ?_; refine xpL (.int .i64 (rlo f)) ?_; refine xpL (.int .i64 (rhi t)) ?_
 refine xpL (.int .i64 (rlo f)) ?_; refine xpL (.int .i64 (rhi t)) ?_; refine xT ?_; go_upto_region 2 with fail; refine wp_region_list ?_; refine xpL (.pointer (some ⟨R,0,none⟩)) ?_; refine xpL (.int .i64 (rlo f)) ?_; have key:=dnxt_any R sp cap L hc hln (rlo f) _ (cellT M.below hR) (NewW.below N M.below)
 rw [rnxt_lo] at key
 refine xcL key ?_; clear key; rintro e w3 ⟨rfl,l⟩; replace M:=M.call l; clear l; refine xeL ?_; refine xpL (.int .i64 (rnx L (rlo f))) ?_; refine xT ?_
 by_cases hge:rhi t≤rnx L (rlo f)
 · go_upto_region 3 with fail
   refine wp_region_list ?_; refine xpL (.int .i64 (rnx L (rlo f))) ?_; refine xpL (.int .i64 (rhi t)) ?_; refine xaL (.bool true) (geqI .i64 _ _ _ _ _ _ rfl rfl rfl true (decide_eq_true hge) _) ?_; refine xT ?_; go_upto_region 4 with fail; refine wp_region_list ?_; refine xpL (.agg #[.int .i64 0,.int .i64 0]) ?_
   refine skipOpL rfl (storeP [.int .i64 0,.int .i64 0] B1 0 34 _ _ rfl rfl rfl (M.thereP mS 0 2 (Nat.le_of_ble_eq_true rfl)) (by kernel_rfl) (List.all_eq_true.1 (rfl:([.int .i64 0,.int .i64 0]:List Value).all (fun u=>u.oneCell')=true))) ?_; simp only [Act.put]; replace M:=M.setPart [.int .i64 0,.int .i64 0] 0 (Nat.le_of_ble_eq_true rfl)
   generalize w3.setCells B1 0 [.int .i64 0,.int .i64 0]=w4 at M  ⊢
   replace M:Mm w ((B1,[.int .i64 0,.int .i64 0])::([]:List (Nat × List Value))) w4:=M
   refine xpL (.bool false) ?_; refine xT ?_; have hbel:=M.below; have hcs:=M.rangeAt mS; clear M; go_wp2
   obtain ⟨e1,e2,e3⟩:=rg_nil hge
   exact bodyPost_ret (v:=.tuple #[.agg #[.int .i64 0,.int .i64 0],.bool false]) (results_row_tmp (cs:=[.int .i64 0,.int .i64 0]) Try.results15 rfl rfl (rangeT hcs) Try.underlying34 rfl (by kernel_rfl)) rfl ⟨by rw [e1,e2,e3],hbel⟩
 · go_upto_region 3 with fail
   refine wp_region_list ?_; refine xpL (.int .i64 (rnx L (rlo f))) ?_; refine xpL (.int .i64 (rhi t)) ?_; refine xaL (.bool false) (geqI .i64 _ _ _ _ _ _ rfl rfl rfl false (decide_eq_false hge) _) ?_; refine xT ?_; go_upto_region 5 with fail; refine wp_region_list ?_; refine xpL (.int .i64 0) ?_; refine xT ?_; have HI:=show Hid _ from M; clear M; go_wp2
   go_loopw [2,9] (fun m i w'=>∃ i':Nat,i'≤L.length∧m=.int .i64 (rbg (L.take i') (rnx L (rlo f)) (rhi t))∧i=.int .i64 (i':Int)∧Mm w [(B1,[.int .i64 0,.int .i64 0])] w') (fun _ i _=>L.length-(intOf i).toNat)
   case atStart=>exact ⟨0,Nat.zero_le _,rfl,rfl,HI.out⟩
   case round =>
    clear HI
    obtain ⟨i,hi,rfl,rfl,M⟩:=hrel
    by_cases hil:i<L.length
    · obtain ⟨pr,hpr⟩:∃ pr,L[i]?=some pr:=⟨_,List.getElem?_eq_getElem hil⟩
      obtain ⟨adr,rfl,_,_⟩:=NewW.at N hpr
      have hst:=rbg_app (L.take i) pr (rnx L (rlo f)) (rhi t)
      rw [← take_get hpr] at hst
      go_upto_region 6 with fail; refine wp_region_list ?_; refine xpL (.int .i64 (i:Int)) ?_; refine xpL (.pointer (some ⟨R,0,none⟩)) ?_; refine xpL (.pointer (some ⟨R,0,none⟩)) ?_; refine xpL (.pointer (some ⟨R,0,none⟩)) ?_; refine xaL (.slice (some adr) L.length cap) (load1 27 _ ⟨R,0,none⟩ _ rfl rfl (fun _=>by kernel_rfl) (cellT M.below hR)) ?_
      refine xaL (.int .i64 ((L.length:Nat):Int)) (lenS _ 27 34 (some adr) L.length cap rfl Try.underlying27 rfl _) ?_; refine xaL (.bool true) (lssI .i64 _ _ _ _ _ _ rfl rfl rfl true (decide_eq_true (by omega)) _) ?_; refine xT ?_
      by_cases h1:rnx L (rlo f)<pr.1
      · go_upto_region 8 with fail
        refine wp_region_list ?_; refine xpL (.pointer (some ⟨R,0,none⟩)) ?_; refine xpL (.pointer (some ⟨R,0,none⟩)) ?_; refine xpL (.pointer (some ⟨R,0,none⟩)) ?_; refine xaL (.slice (some adr) L.length cap) (load1 27 _ ⟨R,0,none⟩ _ rfl rfl (fun _=>by kernel_rfl) (cellT M.below hR)) ?_; refine xpL (.int .i64 (i:Int)) ?_
        refine readL (.pointer (some (adr.add (i*2)))) rfl (idxR2 adr _ _ i hil _ _ rfl rfl rfl _) ?_; simp only [aP,lI,l0,lS]; refine xpL (.pointer (some ((adr.add (i*2)).add 0))) ?_; refine xaL (.int .i64 pr.1) (load1 3 _ ((adr.add (i*2)).add 0) _ rfl rfl (fun _=>by kernel_rfl) (NewW.rng (NewW.below N M.below) hpr 0 _ rfl)) ?_; refine xpL (.int .i64 (rnx L (rlo f))) ?_
        refine xaL (.bool true) (gtrI .i64 _ _ _ _ _ _ rfl rfl rfl true (decide_eq_true h1) _) ?_; refine xT ?_; go_upto_region 9 with fail; refine wp_region_list ?_; refine xpL (.int .i64 (rbg (L.take i) (rnx L (rlo f)) (rhi t))) ?_; refine xpL (.pointer (some ⟨R,0,none⟩)) ?_; refine xpL (.pointer (some ⟨R,0,none⟩)) ?_; refine xpL (.pointer (some ⟨R,0,none⟩)) ?_
        refine xaL (.slice (some adr) L.length cap) (load1 27 _ ⟨R,0,none⟩ _ rfl rfl (fun _=>by kernel_rfl) (cellT M.below hR)) ?_; refine xpL (.int .i64 (i:Int)) ?_; refine readL (.pointer (some (adr.add (i*2)))) rfl (idxR2 adr _ _ i hil _ _ rfl rfl rfl _) ?_; simp only [aP,lI,l0,lS]; refine xpL (.pointer (some ((adr.add (i*2)).add 0))) ?_
        refine xaL (.int .i64 pr.1) (load1 3 _ ((adr.add (i*2)).add 0) _ rfl rfl (fun _=>by kernel_rfl) (NewW.rng (NewW.below N M.below) hpr 0 _ rfl)) ?_; refine readL (.int .i64 (rbg (L.take (i+1)) (rnx L (rlo f)) (rhi t))) rfl (minI .i64 .i64 _ _ _ _ _ _ _ rfl rfl rfl (by rw [hst,if_pos h1]; split <;> omega) _) ?_; simp only [aP,lI,l0,lS]
        refine xpL (.int .i64 (rbg (L.take (i+1)) (rnx L (rlo f)) (rhi t))) ?_; refine xT ?_; have HS:=show Hid _ from M; clear M; go_wp2
        go_roundw
        case rel=>exact ⟨i+1,by omega,rfl,by go_num,HS.out⟩
        case measure=>simp [intOf]; omega
      · go_upto_region 8 with fail
        refine wp_region_list ?_; refine xpL (.pointer (some ⟨R,0,none⟩)) ?_; refine xpL (.pointer (some ⟨R,0,none⟩)) ?_; refine xpL (.pointer (some ⟨R,0,none⟩)) ?_; refine xaL (.slice (some adr) L.length cap) (load1 27 _ ⟨R,0,none⟩ _ rfl rfl (fun _=>by kernel_rfl) (cellT M.below hR)) ?_; refine xpL (.int .i64 (i:Int)) ?_
        refine readL (.pointer (some (adr.add (i*2)))) rfl (idxR2 adr _ _ i hil _ _ rfl rfl rfl _) ?_; simp only [aP,lI,l0,lS]; refine xpL (.pointer (some ((adr.add (i*2)).add 0))) ?_; refine xaL (.int .i64 pr.1) (load1 3 _ ((adr.add (i*2)).add 0) _ rfl rfl (fun _=>by kernel_rfl) (NewW.rng (NewW.below N M.below) hpr 0 _ rfl)) ?_; refine xpL (.int .i64 (rnx L (rlo f))) ?_
        refine xaL (.bool false) (gtrI .i64 _ _ _ _ _ _ rfl rfl rfl false (decide_eq_false h1) _) ?_; refine xT ?_; have HS:=show Hid _ from M; clear M; go_wp2
        go_roundw
        case rel=>exact ⟨i+1,by omega,by rw [hst,if_neg h1],by go_num,HS.out⟩
        case measure=>simp [intOf]; omega
    · rw [List.take_of_length_le (show L.length≤i by omega)]
      go_upto_region 6 with fail; refine wp_region_list ?_; refine xpL (.int .i64 (i:Int)) ?_; refine xpL (.pointer (some ⟨R,0,none⟩)) ?_; refine xpL (.pointer (some ⟨R,0,none⟩)) ?_; refine xpL (.pointer (some ⟨R,0,none⟩)) ?_; refine xaL (.slice sp L.length cap) (load1 27 _ ⟨R,0,none⟩ _ rfl rfl (fun _=>by kernel_rfl) (cellT M.below hR)) ?_
      refine xaL (.int .i64 ((L.length:Nat):Int)) (lenS _ 27 34 sp L.length cap rfl Try.underlying27 rfl _) ?_; refine xaL (.bool false) (lssI .i64 _ _ _ _ _ _ rfl rfl rfl false (decide_eq_false (by omega)) _) ?_; refine xT ?_; go_upto_region 10 with fail; refine wp_region_list ?_; refine xpL (.int .i64 (rnx L (rlo f))) ?_; refine xpL (.int .i64 (rbg L (rnx L (rlo f)) (rhi t))) ?_
      refine xpL (.agg #[.int .i64 (rnx L (rlo f)),.int .i64 (rbg L (rnx L (rlo f)) (rhi t))]) ?_
      refine skipOpL rfl (storeP [.int .i64 (rnx L (rlo f)),.int .i64 (rbg L (rnx L (rlo f)) (rhi t))] B1 0 34 _ _ rfl rfl rfl (M.thereP mS 0 2 (Nat.le_of_ble_eq_true rfl)) (by kernel_rfl) (List.all_eq_true.1 (rfl:([.int .i64 (rnx L (rlo f)),.int .i64 (rbg L (rnx L (rlo f)) (rhi t))]:List Value).all (fun u=>u.oneCell')=true))) ?_; simp only [Act.put]
      replace M:=M.setPart [.int .i64 (rnx L (rlo f)),.int .i64 (rbg L (rnx L (rlo f)) (rhi t))] 0 (Nat.le_of_ble_eq_true rfl); generalize wr.setCells B1 0 [.int .i64 (rnx L (rlo f)),.int .i64 (rbg L (rnx L (rlo f)) (rhi t))]=w5 at M  ⊢
      replace M:Mm w ((B1,[.int .i64 (rnx L (rlo f)),.int .i64 (rbg L (rnx L (rlo f)) (rhi t))])::([]:List (Nat × List Value))) w5:=M
      refine xpL (.bool true) ?_; refine xT ?_; have hbel:=M.below; have hcs:=M.rangeAt mS; clear M; go_wp2
      obtain ⟨e1,e2,e3⟩:=rg_is (show ¬ rhi t≤rnx L (rlo f) by omega)
      exact bodyPost_ret (v:=.tuple #[.agg #[.int .i64 (rnx L (rlo f)),.int .i64 (rbg L (rnx L (rlo f)) (rhi t))],.bool true]) (results_row_tmp (cs:=[.int .i64 (rnx L (rlo f)),.int .i64 (rbg L (rnx L (rlo f)) (rhi t))]) Try.results15 rfl rfl (rangeT hcs) Try.underlying34 rfl (by kernel_rfl)) rfl ⟨by rw [e1,e2,e3],hbel⟩
theorem dcov_any (R:Nat) (sp:Option Addr) (cap:Nat) (L:Rgs17) (hc:Can L) (hln:L.length<1000000) (f t:Int) (w:World) (hR:w.cell? ⟨R,0,none⟩=some (.slice sp L.length cap)) (N:NewW w 0 L (.slice sp L.length cap)) :
 Calls Try.prog 25 #[.pointer (some ⟨R,0,none⟩),.int .i64 f,.int .i64 t] w fun e w'=>e=.returned (.bool (!rgB L f t))∧Below w.heap.size w w':=by
 have M:=Mm.init w
 go_enter Try.func25,Try.ntmps25
 go_upto_region 0 with fail; refine wp_region_list ?_; refine readL (.bool false) rfl (by kernel_rfl) ?_; simp only [aP,lI,l0,lS]; refine xT ?_; go_upto_region 1 with fail; refine wp_region_list ?_; refine readL (.pointer (some ⟨R,0,none⟩)) rfl (by kernel_rfl) ?_; simp only [aP,lI,l0,lS]; refine readL (.int .i64 f) rfl (by kernel_rfl) ?_; simp only [aP,lI,l0,lS]
 refine readL (.int .i64 t) rfl (by kernel_rfl) ?_; simp only [aP,lI,l0,lS]; refine callL rfl (fun _=>by kernel_rfl) (dgap_any R sp cap L hc hln f t _ (cellT M.below hR) (NewW.below N M.below)) ?_; rintro e w1 ⟨rfl,l⟩; replace M:=M.call l; clear l
 refine ⟨_,rfl,?_⟩
 simp only [aP,lI,l0,lS]; refine readL (.tuple #[.agg #[.int .i64 (rgF L f t),.int .i64 (rgT L f t)],.bool (rgB L f t)]) rfl (by kernel_rfl) ?_; simp only [aP,lI,l0,lS]; refine readL (.agg #[.int .i64 (rgF L f t),.int .i64 (rgT L f t)]) rfl (by kernel_rfl) ?_; simp only [aP,lI,l0,lS]; refine readL (.bool (rgB L f t)) rfl (by kernel_rfl) ?_; simp only [aP,lI,l0,lS]
 refine actL (w':=w1.alloc (.cells #[.int .i64 0,.int .i64 0] 34)) (.pointer (some ⟨w1.heap.size,0,none⟩)) rfl (by kernel_rfl) ?_; simp only [aP,lI,l0,lS]
 have hB_B2:w.heap.size≤w1.heap.size:=M.below.size
 replace M:=M.box #[.int .i64 0,.int .i64 0] 34 w1.heap.size rfl; generalize w1.alloc (.cells #[.int .i64 0,.int .i64 0] 34)=w2 at M  ⊢; generalize eB:w1.heap.size=B2 at M hB_B2  ⊢
 have hE_B2:w1.heap.size≤B2:=Nat.le_of_eq eB
 have hF_B2:B2≤w1.heap.size:=Nat.le_of_eq eB.symm
 clear eB
 replace M:Mm w ((B2,[.int .i64 0,.int .i64 0])::([]:List (Nat × List Value))) w2:=M
 refine skipOpL rfl (storeP [.int .i64 (rgF L f t),.int .i64 (rgT L f t)] B2 0 34 _ _ rfl rfl rfl (M.thereP mS 0 2 (Nat.le_of_ble_eq_true rfl)) (by kernel_rfl) (List.all_eq_true.1 (rfl:([.int .i64 (rgF L f t),.int .i64 (rgT L f t)]:List Value).all (fun u=>u.oneCell')=true))) ?_; simp only [Act.put]
 replace M:=M.setPart [.int .i64 (rgF L f t),.int .i64 (rgT L f t)] 0 (Nat.le_of_ble_eq_true rfl); generalize w2.setCells B2 0 [.int .i64 (rgF L f t),.int .i64 (rgT L f t)]=w3 at M  ⊢
 replace M:Mm w ((B2,[.int .i64 (rgF L f t),.int .i64 (rgT L f t)])::([]:List (Nat × List Value))) w3:=M
 refine readL (.bool (rgB L f t)) rfl (by kernel_rfl) ?_; simp only [aP,lI,l0,lS]; refine xT ?_; go_upto_region 2 with fail; refine wp_region_list ?_; refine readL (.bool (rgB L f t)) rfl (by kernel_rfl) ?_; simp only [aP,lI,l0,lS]
 obtain ⟨b1,hb1⟩:∃ y_,y_=(!(rgB L f t)):=⟨_,rfl⟩
 refine readL (.bool b1) rfl (by subst hb1; cases (rgB L f t) <;> rfl) ?_
 simp only [aP,lI,l0,lS]; refine readL (.bool b1) rfl (by kernel_rfl) ?_; simp only [aP,lI,l0,lS]; refine xT ?_; have hbel:=M.below; clear M; go_wp2; go_ret
 exact ⟨congrArg (fun b=>Ending.returned (Value.bool b)) hb1,hbel⟩
theorem Mm.addB {w0 w:World} {l:List (Nat × List Value)} (h:Mm w0 l w) {b:Nat} (lo:w0.heap.size≤b) (lt:b<w.heap.size) (hne:∀ p∈l,p.1≠b):Mm w0 ((b,[])::l) w :=
 ⟨fun p hp=>by
  rcases xc1 hp with rfl | hp
  · exact ⟨fun j hj=>absurd hj (xnZ j),lo,lt⟩
  · exact h.rows p hp,List.pairwise_cons.2 ⟨fun p hp=>(hne p hp).symm,h.apart⟩,h.below⟩
theorem Mm.rowApp {w0 w w2:World} {l:List (Nat × List Value)} {sp sq:Option Addr} {n cap m cap2 base size:Nat} {e:TypeId} {xs ys:List Value} (M:Mm w0 (obs sp++l) w) (V:w.ownsRow base e size (.slice sp n cap) n xs) (hg:w.grownBy w2 (Value.slice sp n cap).ownBlock) (V2:w2.ownsRow base e size (.slice sq m cap2) m ys) (h2:∀ g,(Value.slice sq m cap2).ownBlock=some g→(Value.slice sp n cap).ownBlock=some g∨g=w.heap.size) (h0:w0.heap.size≤base):Mm w0 (obs sq++l) w2:=by
 have Ml:Mm w0 l w:=M.sub l (List.sublist_append_right _ _)
 have hap:∀ b,(Value.slice sp n cap).ownBlock=some b→∀ p∈l,p.1≠b:=fun b hb p hp e=>by
  have hm:b∈ob sp:=(ob_own sp n cap b).1 hb
  have:=(List.pairwise_append.1 M.apart).2.2 (b,[]) (List.mem_map.2 ⟨b,hm,rfl⟩) p hp
  exact this e.symm
 have Ml2:=Ml.grownN hg (fun b hb=>⟨xnT h0 (World.ownsRow.lt V b hb).1,hap b hb⟩)
 cases sq with
 | none=>exact Ml2
 | some a =>
   have hl:=World.ownsRow.lt V2 a.block rfl; refine Ml2.addB (xnT h0 hl.1) hl.2 fun p hp e=>?_
   rcases h2 a.block rfl with h | h
   · exact hap _ h p hp e
   · have:=(Ml.rows p hp).2.2
     omega
theorem row_form16 {w:World} {base:Nat} {e:TypeId} {size n:Nat} {xs:List Value} {v:Value} (h:w.ownsRow base e size v n xs):∃ sp cap,v=.slice sp n cap∧n≤cap∧(sp=none→cap=0):=by
 rcases h.2 with ⟨rfl,rfl⟩ | ⟨g,cap,cur,rfl,_,_,hc,_⟩
 · exact ⟨none,0,rfl,xnR _,fun _=>rfl⟩
 · exact ⟨_,cap,rfl,hc,fun e=>by cases e⟩
theorem row_some16 {w:World} {base:Nat} {e:TypeId} {size n:Nat} {xs:List Value} {sp:Option Addr} {cap:Nat} (h:w.ownsRow base e size (.slice sp n cap) n xs) (hn:0<n):∃ g,sp=some ⟨g,0,none⟩:=by
 rcases h.2 with ⟨e1,e2⟩ | ⟨g,cap',cur,e1,_⟩
 · omega
 · injection e1 with e2 _ _
   exact ⟨g,e2⟩
theorem ownsRow_away {w w':World} {base:Nat} {e:TypeId} {size n:Nat} {xs:List Value} {sp:Option Addr} {cap:Nat} {X:List Nat} (h:w.ownsRow base e size (.slice sp n cap) n xs) (o:Off X w w') (hX:∀ b∈X,b∉ob sp):w'.ownsRow base e size (.slice sp n cap) n xs:=ownsRow_off h o fun b hb e=>hX b hb ((ob_own sp n cap b).1 e)
theorem ownsRow_bel {w w':World} {base:Nat} {e:TypeId} {size n:Nat} {xs:List Value} {v:Value} (h:w.ownsRow base e size v n xs) (l:Below w.heap.size w w'):w'.ownsRow base e size v n xs:=ownsRow_off h (X:=[]) (Off.of_below l) (fun _ hb=>by cases hb)
theorem ownsRow_put {w:World} {base:Nat} {e:TypeId} {size n g cap:Nat} {xs:List Value} (h:w.ownsRow base e size (.slice (some ⟨g,0,none⟩) n cap) n xs) (j:Nat) (u:Value):(w.setCell ⟨g,j,none⟩ u).ownsRow base e size (.slice (some ⟨g,0,none⟩) n cap) n (xs.set j u):=by
 refine ⟨by rw [List.length_set]; exact h.1,?_⟩
 rcases h.2 with ⟨e0,_⟩ | ⟨g',cap',cur,e0,hb,hg,hc,hm,hs,ht⟩
 · cases e0
 · injection e0 with e1 _ e3
   injection e1 with e1
   injection e1 with e1 _ _
   subst e1; subst e3
   have hlt:g<w.heap.size:=by
    rcases Nat.lt_or_ge g w.heap.size with h' | h'
    · exact h'
    · rw [Array.getElem?_eq_none h'] at hg; cases hg
   have h':w.heap[g]=.cells cur e (0,0):=by
    rw [Array.getElem?_eq_getElem hlt] at hg
    exact Option.some.inj hg
   refine .inr ⟨g,cap,cur.setIfInBounds j u,rfl,hb,?_,hc,hm,by rw [Array.size_setIfInBounds]; exact hs,?_⟩
   · show (w.heap.modify g _)[g]?=_
     rw [Array.getElem?_eq_getElem (by simpa using hlt),Array.getElem_modify_self,h']
     rfl
   · rw [Array.toList_setIfInBounds,List.take_set,ht]
theorem Mm.awayO {w0 w:World} {t:List (Nat × List Value)} {so sp:Option Addr} (h:Mm w0 (obs so++t) w) (hs:∀ p∈obs sp,p∈t):∀ b∈ob so,b∉ob sp:=by
 have:=h.awayS hs
 rw [obs_fst] at this
 exact this
theorem Mm.untell {w0 w:World} {l:List (Nat × List Value)} {g:Nat} {cs:List Value} (h:Mm w0 ((g,cs)::l) w):Mm w0 ((g,[])::l) w:=h.tail.addB (h.lo mS) (h.lt mS) fun p hp e=>(List.pairwise_cons.1 h.apart).1 p hp e.symm
theorem len_snoc (a:Rgs17) (p:Int × Int):a.length+1=(a++[p]).length:=by rw [List.length_append]; rfl
theorem wrc_app:∀ a b:Rgs17,wrc (a++b)=wrc a++wrc b
 | [],_=>rfl
 | p::a,b=>by show _::_::wrc (a++b)=_; rw [wrc_app a b]; rfl
theorem NewW.ofOwn {w:World} {base:Nat} {rl:Rgs17} {so:Option Addr} {co:Nat} (h:w.ownsRow base 34 2 (.slice so rl.length co) rl.length (wrc rl)):NewW w base rl (.slice so rl.length co):=by
 rcases h.2 with ⟨e,h0⟩ | ⟨g,cap,cur,e,hb,hgg,hc,_⟩
 · injection e with e1 e2 e3
   subst e1 e3
   obtain rfl:=List.eq_nil_of_length_eq_zero h0
   exact ⟨none,0,rfl,xnR _,fun _=>rfl,fun j u hu=>(by cases hu),fun a e=>(by cases e)⟩
 · injection e with e1 e2 e3
   subst e1 e3
   refine ⟨some ⟨g,0,none⟩,co,rfl,hc,fun e=>(by cases e),fun j u hu=>⟨_,rfl,World.ownsRow.cells h (g:=g) rfl j u hu⟩,fun a e=>?_⟩
   cases e
   exact World.ownsRow.lt h g rfl
theorem rcut_step {L:Rgs17} {i:Nat} {p:Int × Int} (f t:Int) (hp:L[i]?=some p):rcut (L.take (i+1)) f t=rcut (L.take i) f t++rout p f t:=by
 unfold rcut
 rw [take_get hp,List.flatMap_append]
 simp
theorem rout_len (p:Int × Int) (f t:Int):(rout p f t).length≤2:=by
 unfold rout
 split <;> split <;> simp
theorem rcut_len (f t:Int):∀ L:Rgs17,(rcut L f t).length≤2*L.length
 | []=>xnR _
 | p::L=>by
   have h1:=rcut_len f t L; have h2:=rout_len p f t
   show ((rout p f t)++rcut L f t).length≤_
   rw [List.length_append,List.length_cons]
   omega
theorem dwo_any (sp:Option Addr) (cap:Nat) (L:Rgs17) (hln:L.length<1000000) (f t:Int) (w:World) (N:NewW w 0 L (.slice sp L.length cap)) :
 Calls Try.prog 31 #[.slice sp L.length cap,.int .i64 f,.int .i64 t] w fun e w'=>∃ so co,e=.returned (.slice so (rcut L f t).length co)∧NewW w' w.heap.size (rcut L f t) (.slice so (rcut L f t).length co)∧Below w.heap.size w w':=by
 have M:Mm w (obs none++([]:List (Nat × List Value))) w:=Mm.init w
 go_enter Try.func31,Try.ntmps31
 go_upto_region 0 with fail; refine wp_region_list ?_; refine xpL (.slice none 0 0) ?_; refine xT ?_; go_upto_region 1 with fail; refine wp_region_list ?_; refine xpL (.slice none 0 0) ?_; refine xT ?_; go_upto_region 2 with fail; refine wp_region_list ?_; refine xpL (.int .i64 0) ?_; refine xT ?_
 have HI:=show Hid _ from (show w.ownsRow w.heap.size 34 2 (.slice none (rcut (L.take 0) f t).length 0) (rcut (L.take 0) f t).length (wrc (rcut (L.take 0) f t))∧Mm w (obs none++([]:List (Nat × List Value))) w from ⟨⟨rfl,.inl ⟨rfl,rfl⟩⟩,M⟩); clear M; go_wp2
 go_loopw [7,8] (fun o_ i w'=>∃ (i':Nat) (so:Option Addr) (co:Nat),i'≤L.length∧o_=.slice so (rcut (L.take i') f t).length co∧i=.int .i64 (i':Int)∧w'.ownsRow w.heap.size 34 2 (.slice so (rcut (L.take i') f t).length co) (rcut (L.take i') f t).length (wrc (rcut (L.take i') f t))∧Mm w (obs so++([]:List (Nat × List Value))) w') (fun _ i _=>L.length-(intOf i).toNat)
 case atStart=>exact ⟨0,none,0,Nat.zero_le _,rfl,rfl,HI.out⟩
 case round =>
  clear HI
  obtain ⟨i,so,co,hi,rfl,rfl,V_,M⟩:=hrel
  by_cases hil:i<L.length
  · obtain ⟨pr,hpr⟩:∃ pr,L[i]?=some pr:=⟨_,List.getElem?_eq_getElem hil⟩
    obtain ⟨adr,rfl,_,_⟩:=NewW.at N hpr
    have hst:=rcut_step f t hpr; have hle:=rcut_len f t (L.take i)
    rw [List.length_take] at hle
    go_upto_region 3 with fail; refine wp_region_list ?_; refine xpL (.int .i64 (i:Int)) ?_; refine xpL (.slice (some adr) L.length cap) ?_; refine xaL (.int .i64 ((L.length:Nat):Int)) (lenS _ 27 34 (some adr) L.length cap rfl Try.underlying27 rfl _) ?_; refine xaL (.bool true) (lssI .i64 _ _ _ _ _ _ rfl rfl rfl true (decide_eq_true (by omega)) _) ?_; refine xT ?_
    go_upto_region 5 with fail; refine wp_region_held_drew (S:=fun w'=>Below w.heap.size w w') (by kernel_rfl) M.drew.below ?_; intro _; replace M:=M.drew; have hdr:=(Below.refl wr.heap.size wr).drew; replace V_:=ownsRow_bel V_ hdr; clear hdr; generalize wr.drew=w1 at M V_ ⊢; refine xrH 0 17 rfl (.slice (some adr) L.length cap) (fun _ hS=>(by kernel_rfl)) M.below ?_
    refine xrH 1 18 rfl (.int .i64 (i:Int)) (fun _ hS=>(by kernel_rfl)) M.below ?_; refine xrH 2 19 rfl (.pointer (some (adr.add (i*2)))) (fun _ hS=>idxR2 adr _ _ i hil _ _ rfl rfl rfl _) M.below ?_; refine xrH 3 20 rfl (.pointer (some ((adr.add (i*2)).add 0))) (fun _ hS=>(by kernel_rfl)) M.below ?_
    refine xrH 4 21 rfl (.int .i64 pr.1) (fun _ hS=>load1 3 _ ((adr.add (i*2)).add 0) _ rfl rfl (fun _=>by kernel_rfl) (NewW.rng (NewW.below N hS) hpr 0 _ rfl)) M.below ?_; refine xrH 5 22 rfl (.slice (some adr) L.length cap) (fun _ hS=>(by kernel_rfl)) M.below ?_; refine xrH 6 23 rfl (.int .i64 (i:Int)) (fun _ hS=>(by kernel_rfl)) M.below ?_
    refine xrH 7 24 rfl (.pointer (some (adr.add (i*2)))) (fun _ hS=>idxR2 adr _ _ i hil _ _ rfl rfl rfl _) M.below ?_; refine xrH 8 25 rfl (.pointer (some ((adr.add (i*2)).add 1))) (fun _ hS=>(by kernel_rfl)) M.below ?_
    refine xrH 9 26 rfl (.int .i64 pr.2) (fun _ hS=>load1 3 _ ((adr.add (i*2)).add 1) _ rfl rfl (fun _=>by kernel_rfl) (NewW.rng (NewW.below N hS) hpr 1 _ rfl)) M.below ?_; refine xrH 10 27 rfl (.int .i64 f) (fun _ hS=>(by kernel_rfl)) M.below ?_; refine xrH 11 28 rfl (.int .i64 (min pr.2 f)) (fun _ hS=>minI .i64 .i64 _ _ _ _ _ _ _ rfl rfl rfl (by split <;> omega) _) M.below ?_
    refine xrH 12 29 rfl (.agg #[.int .i64 pr.1,.int .i64 (min pr.2 f)]) (fun _ hS=>(by kernel_rfl)) M.below ?_; have hlb:=(Below.refl w1.heap.size w1).alloc (xnR _) (.cells #[.int .i64 0,.int .i64 0] 34); replace V_:=ownsRow_bel V_ hlb; clear hlb; replace M:=M.box #[.int .i64 0,.int .i64 0] 34 w1.heap.size rfl
    refine onlyH (i:=13) (some 9) rfl (.pointer (some ⟨w1.heap.size,0,none⟩)) (by kernel_rfl) rfl rfl (by kernel_rfl) M.below ?_; simp only [aP,lI,l0,lS]; generalize w1.alloc (.cells #[.int .i64 0,.int .i64 0] 34)=w2 at M V_ ⊢; generalize w1.heap.size=B2 at M ⊢
    replace M:Mm w ((B2,[.int .i64 0,.int .i64 0])::((obs so)++([]:List (Nat × List Value)))) w2:=M
    refine doesH (i:=14) none rfl (by kernel_rfl) rfl rfl (storeP [.int .i64 pr.1,.int .i64 (min pr.2 f)] B2 0 34 _ _ rfl rfl rfl (M.thereP mS 0 2 (Nat.le_of_ble_eq_true rfl)) (by kernel_rfl) (List.all_eq_true.1 (rfl:([.int .i64 pr.1,.int .i64 (min pr.2 f)]:List Value).all (fun u=>u.oneCell')=true))) (M.setPart [.int .i64 pr.1,.int .i64 (min pr.2 f)] 0 (Nat.le_of_ble_eq_true rfl)).below ?_
    simp only [Act.put]; replace M:=M.setPart [.int .i64 pr.1,.int .i64 (min pr.2 f)] 0 (Nat.le_of_ble_eq_true rfl); replace V_:=ownsRow_away V_ ((Off.refl [B2] _).setAll (b:=B2) mS 0 [.int .i64 pr.1,.int .i64 (min pr.2 f)]) (fun b_ hb_=>by obtain rfl:=xm1 hb_; exact M.awayB (fun p_ hp_=>by simp [hp_]))
    generalize w2.setCells B2 0 [.int .i64 pr.1,.int .i64 (min pr.2 f)]=w3 at M V_ ⊢
    replace M:Mm w ((B2,[.int .i64 pr.1,.int .i64 (min pr.2 f)])::((obs so)++([]:List (Nat × List Value)))) w3:=M
    refine wpAnyH_done (by kernel_rfl) ?_ _
    first | show Exit.then _ _ _ _ _ | show Exit.inBlock _ _ _ _ _
    go_upto_region 6 with fail; refine wp_region_held_drew (S:=fun w'=>Below w.heap.size w w') (by kernel_rfl) M.drew.below ?_; intro _; replace M:=M.drew; have hdr:=(Below.refl w3.heap.size w3).drew; replace V_:=ownsRow_bel V_ hdr; clear hdr; generalize w3.drew=w4 at M V_ ⊢; refine xrH 0 30 rfl (.slice (some adr) L.length cap) (fun _ hS=>(by kernel_rfl)) M.below ?_
    refine xrH 1 31 rfl (.int .i64 (i:Int)) (fun _ hS=>(by kernel_rfl)) M.below ?_; refine xrH 2 32 rfl (.pointer (some (adr.add (i*2)))) (fun _ hS=>idxR2 adr _ _ i hil _ _ rfl rfl rfl _) M.below ?_; refine xrH 3 33 rfl (.pointer (some ((adr.add (i*2)).add 0))) (fun _ hS=>(by kernel_rfl)) M.below ?_
    refine xrH 4 34 rfl (.int .i64 pr.1) (fun _ hS=>load1 3 _ ((adr.add (i*2)).add 0) _ rfl rfl (fun _=>by kernel_rfl) (NewW.rng (NewW.below N hS) hpr 0 _ rfl)) M.below ?_; refine xrH 5 35 rfl (.int .i64 t) (fun _ hS=>(by kernel_rfl)) M.below ?_; refine xrH 7 37 rfl (.slice (some adr) L.length cap) (fun _ hS=>(by kernel_rfl)) M.below ?_
    refine xrH 8 38 rfl (.int .i64 (i:Int)) (fun _ hS=>(by kernel_rfl)) M.below ?_; refine xrH 9 39 rfl (.pointer (some (adr.add (i*2)))) (fun _ hS=>idxR2 adr _ _ i hil _ _ rfl rfl rfl _) M.below ?_; refine xrH 10 40 rfl (.pointer (some ((adr.add (i*2)).add 1))) (fun _ hS=>(by kernel_rfl)) M.below ?_
    refine xrH 11 41 rfl (.int .i64 pr.2) (fun _ hS=>load1 3 _ ((adr.add (i*2)).add 1) _ rfl rfl (fun _=>by kernel_rfl) (NewW.rng (NewW.below N hS) hpr 1 _ rfl)) M.below ?_; refine xrH 6 36 rfl (.int .i64 (max pr.1 t)) (fun _ hS=>maxI .i64 .i64 _ _ _ _ _ _ _ rfl rfl rfl (by split <;> omega) _) M.below ?_
    refine xrH 12 42 rfl (.agg #[.int .i64 (max pr.1 t),.int .i64 pr.2]) (fun _ hS=>(by kernel_rfl)) M.below ?_; have hlb:=(Below.refl w4.heap.size w4).alloc (xnR _) (.cells #[.int .i64 0,.int .i64 0] 34); replace V_:=ownsRow_bel V_ hlb; clear hlb; replace M:=M.box #[.int .i64 0,.int .i64 0] 34 w4.heap.size rfl
    refine onlyH (i:=13) (some 10) rfl (.pointer (some ⟨w4.heap.size,0,none⟩)) (by kernel_rfl) rfl rfl (by kernel_rfl) M.below ?_; simp only [aP,lI,l0,lS]; generalize w4.alloc (.cells #[.int .i64 0,.int .i64 0] 34)=w5 at M V_ ⊢; generalize w4.heap.size=B5 at M ⊢
    replace M:Mm w ((B5,[.int .i64 0,.int .i64 0])::(B2,[.int .i64 pr.1,.int .i64 (min pr.2 f)])::((obs so)++([]:List (Nat × List Value)))) w5:=M
    refine doesH (i:=14) none rfl (by kernel_rfl) rfl rfl (storeP [.int .i64 (max pr.1 t),.int .i64 pr.2] B5 0 34 _ _ rfl rfl rfl (M.thereP mS 0 2 (Nat.le_of_ble_eq_true rfl)) (by kernel_rfl) (List.all_eq_true.1 (rfl:([.int .i64 (max pr.1 t),.int .i64 pr.2]:List Value).all (fun u=>u.oneCell')=true))) (M.setPart [.int .i64 (max pr.1 t),.int .i64 pr.2] 0 (Nat.le_of_ble_eq_true rfl)).below ?_
    simp only [Act.put]; replace M:=M.setPart [.int .i64 (max pr.1 t),.int .i64 pr.2] 0 (Nat.le_of_ble_eq_true rfl); replace V_:=ownsRow_away V_ ((Off.refl [B5] _).setAll (b:=B5) mS 0 [.int .i64 (max pr.1 t),.int .i64 pr.2]) (fun b_ hb_=>by obtain rfl:=xm1 hb_; exact M.awayB (fun p_ hp_=>by simp [hp_]))
    generalize w5.setCells B5 0 [.int .i64 (max pr.1 t),.int .i64 pr.2]=w6 at M V_ ⊢
    replace M:Mm w ((B5,[.int .i64 (max pr.1 t),.int .i64 pr.2])::(B2,[.int .i64 pr.1,.int .i64 (min pr.2 f)])::((obs so)++([]:List (Nat × List Value)))) w6:=M
    refine wpAnyH_done (by kernel_rfl) ?_ _
    first | show Exit.then _ _ _ _ _ | show Exit.inBlock _ _ _ _ _
    by_cases h1:pr.1<min pr.2 f
    · go_upto_region 7 with fail
      refine wp_region_list ?_; refine xpL (.pointer (some ⟨B2,0,none⟩)) ?_; refine xaL (.int .i64 pr.1) (load1 3 _ ⟨B2,0,none⟩ _ rfl rfl (fun _=>by kernel_rfl) (M.get (mT _ mS) 0 _ rfl)) ?_; refine xpL (.pointer (some ⟨B2,1,none⟩)) ?_; refine xaL (.int .i64 (min pr.2 f)) (load1 3 _ ⟨B2,1,none⟩ _ rfl rfl (fun _=>by kernel_rfl) (M.get (mT _ mS) 1 _ rfl)) ?_
      refine xaL (.bool true) (lssI .i64 _ _ _ _ _ _ rfl rfl rfl true (decide_eq_true h1) _) ?_; refine xT ?_; go_upto_region 8 with fail; refine wp_region_list ?_; refine xpL (.slice so ((rcut (L.take i) f t).length) co) ?_
      refine xaL (.agg #[.int .i64 pr.1,.int .i64 (min pr.2 f)]) (loadN 34 _ ⟨B2,0,none⟩ [.int .i64 pr.1,.int .i64 (min pr.2 f)] rfl rfl (fun _=>by kernel_rfl) (fun _=>by kernel_rfl) (M.rangeAt (mT _ mS))) ?_
      have S_1:=World.ownsRow.cells (World.ownsRow_lit (base:=w6.heap.size) (e:=34) (size:=2) w6 #[.int .i64 pr.1,.int .i64 (min pr.2 f)] 1 (xnR _) (by unfold maxLen; omega) rfl) (g:=w6.heap.size) rfl; have hlb:=(Below.refl w6.heap.size w6).alloc (xnR _) (.cells #[.int .i64 pr.1,.int .i64 (min pr.2 f)] 34)
      refine actL (w':=w6.alloc (.cells #[.int .i64 pr.1,.int .i64 (min pr.2 f)] 34)) (.slice (some ⟨w6.heap.size,0,none⟩) 1 1) rfl (by kernel_rfl) ?_; simp only [aP,lI,l0,lS]; replace V_:=ownsRow_bel V_ hlb; replace M:=M.call hlb; clear hlb; generalize w6.alloc (.cells #[.int .i64 pr.1,.int .i64 (min pr.2 f)] 34)=w7 at M S_1 V_ ⊢; generalize w6.heap.size=bz at S_1 ⊢
      obtain ⟨v2,w8,hr,V2,hgr,hg2⟩:=run_append_OwnV (P:=Try.prog) (ty:=27) Try.underlying27 manyW rfl (by decide) V_ ⟨bz,0,none⟩ 1 1 [.int .i64 pr.1,.int .i64 (min pr.2 f)] rfl S_1 (wrc_one [(pr.1,min pr.2 f)]) (by unfold maxLen; (try simp only [List.length_append,List.length_cons,List.length_nil]); omega) (by (try simp only [List.length_append,List.length_cons,List.length_nil]); omega) M.below.size
      have Mp:=M.perm (pull0 ([(B5,[.int .i64 (max pr.1 t),.int .i64 pr.2]),(B2,[.int .i64 pr.1,.int .i64 (min pr.2 f)])]:List (Nat × List Value)) (obs so) ([]:List (Nat × List Value)))
      obtain ⟨sv8,cv8,rfl,_,_⟩:=row_form16 V2
      have M':=Mp.rowApp V_ hgr V2 hg2 (xnR _)
      refine xaL _ (appendOp _ _ 27 _ _ _ rfl rfl rfl hr) ?_
      rw [show (rcut (L.take i) f t).length+1=((rcut (L.take i) f t)++[(pr.1,min pr.2 f)]).length from len_snoc (rcut (L.take i) f t) (pr.1,min pr.2 f)] at V2 ⊢
      replace V2:w8.ownsRow w.heap.size 34 2 (.slice sv8 ((rcut (L.take i) f t)++[(pr.1,min pr.2 f)]).length cv8) ((rcut (L.take i) f t)++[(pr.1,min pr.2 f)]).length (wrc ((rcut (L.take i) f t)++[(pr.1,min pr.2 f)])):=by rw [wrc_app]; exact V2
      clear hr hgr hg2 V_ S_1 Mp M; have V_:=V2; clear V2
      have M:Mm w ((B5,[.int .i64 (max pr.1 t),.int .i64 pr.2])::(B2,[.int .i64 pr.1,.int .i64 (min pr.2 f)])::((obs sv8)++([]:List (Nat × List Value)))) w8:=M'.perm (pull0 ([(B5,[.int .i64 (max pr.1 t),.int .i64 pr.2]),(B2,[.int .i64 pr.1,.int .i64 (min pr.2 f)])]:List (Nat × List Value)) (obs sv8) ([]:List (Nat × List Value))).symm
      clear M'; refine xpL (.slice sv8 (((rcut (L.take i) f t)++[(pr.1,min pr.2 f)]).length) cv8) ?_; refine xT ?_
      by_cases h2:max pr.1 t<pr.2
      · go_upto_region 9 with fail
        refine wp_region_list ?_; refine xpL (.pointer (some ⟨B5,0,none⟩)) ?_; refine xaL (.int .i64 (max pr.1 t)) (load1 3 _ ⟨B5,0,none⟩ _ rfl rfl (fun _=>by kernel_rfl) (M.get mS 0 _ rfl)) ?_; refine xpL (.pointer (some ⟨B5,1,none⟩)) ?_; refine xaL (.int .i64 pr.2) (load1 3 _ ⟨B5,1,none⟩ _ rfl rfl (fun _=>by kernel_rfl) (M.get mS 1 _ rfl)) ?_
        refine xaL (.bool true) (lssI .i64 _ _ _ _ _ _ rfl rfl rfl true (decide_eq_true h2) _) ?_; refine xT ?_; go_upto_region 10 with fail; refine wp_region_list ?_; refine xpL (.slice sv8 (((rcut (L.take i) f t)++[(pr.1,min pr.2 f)]).length) cv8) ?_
        refine xaL (.agg #[.int .i64 (max pr.1 t),.int .i64 pr.2]) (loadN 34 _ ⟨B5,0,none⟩ [.int .i64 (max pr.1 t),.int .i64 pr.2] rfl rfl (fun _=>by kernel_rfl) (fun _=>by kernel_rfl) (M.rangeAt mS)) ?_
        have S_1:=World.ownsRow.cells (World.ownsRow_lit (base:=w8.heap.size) (e:=34) (size:=2) w8 #[.int .i64 (max pr.1 t),.int .i64 pr.2] 1 (xnR _) (by unfold maxLen; omega) rfl) (g:=w8.heap.size) rfl; have hlb:=(Below.refl w8.heap.size w8).alloc (xnR _) (.cells #[.int .i64 (max pr.1 t),.int .i64 pr.2] 34)
        refine actL (w':=w8.alloc (.cells #[.int .i64 (max pr.1 t),.int .i64 pr.2] 34)) (.slice (some ⟨w8.heap.size,0,none⟩) 1 1) rfl (by kernel_rfl) ?_; simp only [aP,lI,l0,lS]; replace V_:=ownsRow_bel V_ hlb; replace M:=M.call hlb; clear hlb; generalize w8.alloc (.cells #[.int .i64 (max pr.1 t),.int .i64 pr.2] 34)=w9 at M S_1 V_ ⊢; generalize w8.heap.size=bz at S_1 ⊢
        obtain ⟨v2,w10,hr,V2,hgr,hg2⟩:=run_append_OwnV (P:=Try.prog) (ty:=27) Try.underlying27 manyW rfl (by decide) V_ ⟨bz,0,none⟩ 1 1 [.int .i64 (max pr.1 t),.int .i64 pr.2] rfl S_1 (wrc_one [(max pr.1 t,pr.2)]) (by unfold maxLen; (try simp only [List.length_append,List.length_cons,List.length_nil]); omega) (by (try simp only [List.length_append,List.length_cons,List.length_nil]); omega) M.below.size
        have Mp:=M.perm (pull0 ([(B5,[.int .i64 (max pr.1 t),.int .i64 pr.2]),(B2,[.int .i64 pr.1,.int .i64 (min pr.2 f)])]:List (Nat × List Value)) (obs sv8) ([]:List (Nat × List Value)))
        obtain ⟨sv10,cv10,rfl,_,_⟩:=row_form16 V2
        have M':=Mp.rowApp V_ hgr V2 hg2 (xnR _)
        refine xaL _ (appendOp _ _ 27 _ _ _ rfl rfl rfl hr) ?_
        rw [show ((rcut (L.take i) f t)++[(pr.1,min pr.2 f)]).length+1=(((rcut (L.take i) f t)++[(pr.1,min pr.2 f)])++[(max pr.1 t,pr.2)]).length from len_snoc ((rcut (L.take i) f t)++[(pr.1,min pr.2 f)]) (max pr.1 t,pr.2)] at V2 ⊢
        replace V2:w10.ownsRow w.heap.size 34 2 (.slice sv10 (((rcut (L.take i) f t)++[(pr.1,min pr.2 f)])++[(max pr.1 t,pr.2)]).length cv10) (((rcut (L.take i) f t)++[(pr.1,min pr.2 f)])++[(max pr.1 t,pr.2)]).length (wrc (((rcut (L.take i) f t)++[(pr.1,min pr.2 f)])++[(max pr.1 t,pr.2)])):=by rw [wrc_app]; exact V2
        clear hr hgr hg2 V_ S_1 Mp M; have V_:=V2; clear V2
        have M:Mm w ((B5,[.int .i64 (max pr.1 t),.int .i64 pr.2])::(B2,[.int .i64 pr.1,.int .i64 (min pr.2 f)])::((obs sv10)++([]:List (Nat × List Value)))) w10:=M'.perm (pull0 ([(B5,[.int .i64 (max pr.1 t),.int .i64 pr.2]),(B2,[.int .i64 pr.1,.int .i64 (min pr.2 f)])]:List (Nat × List Value)) (obs sv10) ([]:List (Nat × List Value))).symm
        clear M'; refine xpL (.slice sv10 ((((rcut (L.take i) f t)++[(pr.1,min pr.2 f)])++[(max pr.1 t,pr.2)]).length) cv10) ?_; refine xT ?_
        have hrl:rcut (L.take (i+1)) f t=(((rcut (L.take i) f t)++[(pr.1,min pr.2 f)])++[(max pr.1 t,pr.2)]):=by rw [hst]; unfold rout; simp [h1,h2]
        have HS:=show Hid _ from (show w10.ownsRow w.heap.size 34 2 (.slice sv10 (rcut (L.take (i+1)) f t).length cv10) (rcut (L.take (i+1)) f t).length (wrc (rcut (L.take (i+1)) f t))∧Mm w (obs sv10++([]:List (Nat × List Value))) w10 from ⟨by rw [hrl]; exact V_,M.tail.tail⟩); clear M V_; go_wp2
        go_roundw
        case rel=>exact ⟨i+1,_,_,by omega,by rw [hrl],by go_num,HS.out⟩
        case measure=>simp [intOf]; omega
      · go_upto_region 9 with fail
        refine wp_region_list ?_; refine xpL (.pointer (some ⟨B5,0,none⟩)) ?_; refine xaL (.int .i64 (max pr.1 t)) (load1 3 _ ⟨B5,0,none⟩ _ rfl rfl (fun _=>by kernel_rfl) (M.get mS 0 _ rfl)) ?_; refine xpL (.pointer (some ⟨B5,1,none⟩)) ?_; refine xaL (.int .i64 pr.2) (load1 3 _ ⟨B5,1,none⟩ _ rfl rfl (fun _=>by kernel_rfl) (M.get mS 1 _ rfl)) ?_
        refine xaL (.bool false) (lssI .i64 _ _ _ _ _ _ rfl rfl rfl false (decide_eq_false h2) _) ?_; refine xT ?_
        have hrl:rcut (L.take (i+1)) f t=((rcut (L.take i) f t)++[(pr.1,min pr.2 f)]):=by rw [hst]; unfold rout; simp [h1,h2]
        have HS:=show Hid _ from (show w8.ownsRow w.heap.size 34 2 (.slice sv8 (rcut (L.take (i+1)) f t).length cv8) (rcut (L.take (i+1)) f t).length (wrc (rcut (L.take (i+1)) f t))∧Mm w (obs sv8++([]:List (Nat × List Value))) w8 from ⟨by rw [hrl]; exact V_,M.tail.tail⟩); clear M V_; go_wp2
        go_roundw
        case rel=>exact ⟨i+1,_,_,by omega,by rw [hrl],by go_num,HS.out⟩
        case measure=>simp [intOf]; omega
    · go_upto_region 7 with fail
      refine wp_region_list ?_; refine xpL (.pointer (some ⟨B2,0,none⟩)) ?_; refine xaL (.int .i64 pr.1) (load1 3 _ ⟨B2,0,none⟩ _ rfl rfl (fun _=>by kernel_rfl) (M.get (mT _ mS) 0 _ rfl)) ?_; refine xpL (.pointer (some ⟨B2,1,none⟩)) ?_; refine xaL (.int .i64 (min pr.2 f)) (load1 3 _ ⟨B2,1,none⟩ _ rfl rfl (fun _=>by kernel_rfl) (M.get (mT _ mS) 1 _ rfl)) ?_
      refine xaL (.bool false) (lssI .i64 _ _ _ _ _ _ rfl rfl rfl false (decide_eq_false h1) _) ?_; refine xT ?_
      by_cases h2:max pr.1 t<pr.2
      · go_upto_region 9 with fail
        refine wp_region_list ?_; refine xpL (.pointer (some ⟨B5,0,none⟩)) ?_; refine xaL (.int .i64 (max pr.1 t)) (load1 3 _ ⟨B5,0,none⟩ _ rfl rfl (fun _=>by kernel_rfl) (M.get mS 0 _ rfl)) ?_; refine xpL (.pointer (some ⟨B5,1,none⟩)) ?_; refine xaL (.int .i64 pr.2) (load1 3 _ ⟨B5,1,none⟩ _ rfl rfl (fun _=>by kernel_rfl) (M.get mS 1 _ rfl)) ?_
        refine xaL (.bool true) (lssI .i64 _ _ _ _ _ _ rfl rfl rfl true (decide_eq_true h2) _) ?_; refine xT ?_; go_upto_region 10 with fail; refine wp_region_list ?_; refine xpL (.slice so ((rcut (L.take i) f t).length) co) ?_
        refine xaL (.agg #[.int .i64 (max pr.1 t),.int .i64 pr.2]) (loadN 34 _ ⟨B5,0,none⟩ [.int .i64 (max pr.1 t),.int .i64 pr.2] rfl rfl (fun _=>by kernel_rfl) (fun _=>by kernel_rfl) (M.rangeAt mS)) ?_
        have S_1:=World.ownsRow.cells (World.ownsRow_lit (base:=w6.heap.size) (e:=34) (size:=2) w6 #[.int .i64 (max pr.1 t),.int .i64 pr.2] 1 (xnR _) (by unfold maxLen; omega) rfl) (g:=w6.heap.size) rfl; have hlb:=(Below.refl w6.heap.size w6).alloc (xnR _) (.cells #[.int .i64 (max pr.1 t),.int .i64 pr.2] 34)
        refine actL (w':=w6.alloc (.cells #[.int .i64 (max pr.1 t),.int .i64 pr.2] 34)) (.slice (some ⟨w6.heap.size,0,none⟩) 1 1) rfl (by kernel_rfl) ?_; simp only [aP,lI,l0,lS]; replace V_:=ownsRow_bel V_ hlb; replace M:=M.call hlb; clear hlb; generalize w6.alloc (.cells #[.int .i64 (max pr.1 t),.int .i64 pr.2] 34)=w11 at M S_1 V_ ⊢; generalize w6.heap.size=bz at S_1 ⊢
        obtain ⟨v2,w12,hr,V2,hgr,hg2⟩:=run_append_OwnV (P:=Try.prog) (ty:=27) Try.underlying27 manyW rfl (by decide) V_ ⟨bz,0,none⟩ 1 1 [.int .i64 (max pr.1 t),.int .i64 pr.2] rfl S_1 (wrc_one [(max pr.1 t,pr.2)]) (by unfold maxLen; (try simp only [List.length_append,List.length_cons,List.length_nil]); omega) (by (try simp only [List.length_append,List.length_cons,List.length_nil]); omega) M.below.size
        have Mp:=M.perm (pull0 ([(B5,[.int .i64 (max pr.1 t),.int .i64 pr.2]),(B2,[.int .i64 pr.1,.int .i64 (min pr.2 f)])]:List (Nat × List Value)) (obs so) ([]:List (Nat × List Value)))
        obtain ⟨sv12,cv12,rfl,_,_⟩:=row_form16 V2
        have M':=Mp.rowApp V_ hgr V2 hg2 (xnR _)
        refine xaL _ (appendOp _ _ 27 _ _ _ rfl rfl rfl hr) ?_
        rw [show (rcut (L.take i) f t).length+1=((rcut (L.take i) f t)++[(max pr.1 t,pr.2)]).length from len_snoc (rcut (L.take i) f t) (max pr.1 t,pr.2)] at V2 ⊢
        replace V2:w12.ownsRow w.heap.size 34 2 (.slice sv12 ((rcut (L.take i) f t)++[(max pr.1 t,pr.2)]).length cv12) ((rcut (L.take i) f t)++[(max pr.1 t,pr.2)]).length (wrc ((rcut (L.take i) f t)++[(max pr.1 t,pr.2)])):=by rw [wrc_app]; exact V2
        clear hr hgr hg2 V_ S_1 Mp M; have V_:=V2; clear V2
        have M:Mm w ((B5,[.int .i64 (max pr.1 t),.int .i64 pr.2])::(B2,[.int .i64 pr.1,.int .i64 (min pr.2 f)])::((obs sv12)++([]:List (Nat × List Value)))) w12:=M'.perm (pull0 ([(B5,[.int .i64 (max pr.1 t),.int .i64 pr.2]),(B2,[.int .i64 pr.1,.int .i64 (min pr.2 f)])]:List (Nat × List Value)) (obs sv12) ([]:List (Nat × List Value))).symm
        clear M'; refine xpL (.slice sv12 (((rcut (L.take i) f t)++[(max pr.1 t,pr.2)]).length) cv12) ?_; refine xT ?_
        have hrl:rcut (L.take (i+1)) f t=((rcut (L.take i) f t)++[(max pr.1 t,pr.2)]):=by rw [hst]; unfold rout; simp [h1,h2]
        have HS:=show Hid _ from (show w12.ownsRow w.heap.size 34 2 (.slice sv12 (rcut (L.take (i+1)) f t).length cv12) (rcut (L.take (i+1)) f t).length (wrc (rcut (L.take (i+1)) f t))∧Mm w (obs sv12++([]:List (Nat × List Value))) w12 from ⟨by rw [hrl]; exact V_,M.tail.tail⟩); clear M V_; go_wp2
        go_roundw
        case rel=>exact ⟨i+1,_,_,by omega,by rw [hrl],by go_num,HS.out⟩
        case measure=>simp [intOf]; omega
      · go_upto_region 9 with fail
        refine wp_region_list ?_; refine xpL (.pointer (some ⟨B5,0,none⟩)) ?_; refine xaL (.int .i64 (max pr.1 t)) (load1 3 _ ⟨B5,0,none⟩ _ rfl rfl (fun _=>by kernel_rfl) (M.get mS 0 _ rfl)) ?_; refine xpL (.pointer (some ⟨B5,1,none⟩)) ?_; refine xaL (.int .i64 pr.2) (load1 3 _ ⟨B5,1,none⟩ _ rfl rfl (fun _=>by kernel_rfl) (M.get mS 1 _ rfl)) ?_
        refine xaL (.bool false) (lssI .i64 _ _ _ _ _ _ rfl rfl rfl false (decide_eq_false h2) _) ?_; refine xT ?_
        have hrl:rcut (L.take (i+1)) f t=(rcut (L.take i) f t):=by rw [hst]; unfold rout; simp [h1,h2]
        have HS:=show Hid _ from (show w6.ownsRow w.heap.size 34 2 (.slice so (rcut (L.take (i+1)) f t).length co) (rcut (L.take (i+1)) f t).length (wrc (rcut (L.take (i+1)) f t))∧Mm w (obs so++([]:List (Nat × List Value))) w6 from ⟨by rw [hrl]; exact V_,M.tail.tail⟩); clear M V_; go_wp2
        go_roundw
        case rel=>exact ⟨i+1,_,_,by omega,by rw [hrl],by go_num,HS.out⟩
        case measure=>simp [intOf]; omega
  · rw [List.take_of_length_le (show L.length≤i by omega)] at V_ ⊢
    go_upto_region 3 with fail; refine wp_region_list ?_; refine xpL (.int .i64 (i:Int)) ?_; refine xpL (.slice sp L.length cap) ?_; refine xaL (.int .i64 ((L.length:Nat):Int)) (lenS _ 27 34 sp L.length cap rfl Try.underlying27 rfl _) ?_; refine xaL (.bool false) (lssI .i64 _ _ _ _ _ _ rfl rfl rfl false (decide_eq_false (by omega)) _) ?_; refine xT ?_; go_upto_region 11 with fail
    refine wp_region_list ?_; refine xpL (.slice so ((rcut L f t).length) co) ?_; refine xpL (.slice so ((rcut L f t).length) co) ?_; refine xT ?_; have hbel:=M.below; have hN:=NewW.ofOwn V_; clear M V_; go_wp2; go_ret
    exact ⟨so,co,rfl,hN,hbel⟩
theorem rct_no {L:Rgs17} {f t:Int} (h:rhi t≤rlo f):rct L f t=L∧rctN L f t=0:=by
 have e:rct L f t=L:=if_pos h
 refine ⟨e,?_⟩
 unfold rctN
 rw [e]
 omega
theorem rct_is {L:Rgs17} {f t:Int} (h:¬ rhi t≤rlo f):rct L f t=rcut L (rlo f) (rhi t):=if_neg h
theorem NewW.zero {w:World} {base:Nat} {l:Rgs17} {v:Value} (h:NewW w base l v):NewW w 0 l v:=by
 obtain ⟨sp,cap,hv,hc,hn,hs,ha⟩:=h
 exact ⟨sp,cap,hv,hc,hn,hs,fun a e=>⟨Nat.zero_le _,(ha a e).2⟩⟩
theorem dcut_any (w0 w:World) (R:Nat) (sp:Option Addr) (cap:Nat) (L:Rgs17) (l:List (Nat × List Value)) (hc:Can L) (hln:L.length<400000) (f t:Int) (M:Mm w0 ((R,[.slice sp L.length cap])::(obs sp++l)) w) (N:NewW w 0 L (.slice sp L.length cap)) :
 Calls Try.prog 12 #[.pointer (some ⟨R,0,none⟩),.int .i64 f,.int .i64 t] w fun e w'=>∃ sq cq,e=.returned (.int .i64 (rctN L f t))∧Mm w0 ((R,[.slice sq (rct L f t).length cq])::(obs sq++l)) w'∧NewW w' 0 (rct L f t) (.slice sq (rct L f t).length cq)∧Off [R] w w':=by
 have OF:=Off.refl [R] w
 go_enter Try.func12,Try.ntmps12
 go_upto_region 0 with fail; refine wp_region_list ?_; refine xpL (.int .i64 0) ?_; refine xT ?_; go_upto_region 1 with fail; refine wp_region_list ?_; refine xpL (.int .i64 f) ?_; refine xpL (.int .i64 t) ?_; refine xcL (dins_any f t _) ?_; rintro e w1 ⟨rfl,l⟩; replace M:=M.call l; replace N:=NewW.below N l; replace OF:=OF.below l; clear l; refine xeL ?_
 refine xpL (.tuple #[.int .i64 (rlo f),.int .i64 (rhi t)]) ?_; refine xpL (.int .i64 (rlo f)) ?_; refine xpL (.int .i64 (rhi t)) ?_; refine xpL (.int .i64 (rlo f)) ?_; refine xpL (.int .i64 (rhi t)) ?_; refine xT ?_
 by_cases hge:rhi t≤rlo f
 · go_upto_region 2 with fail
   refine wp_region_list ?_; refine xpL (.int .i64 (rlo f)) ?_; refine xpL (.int .i64 (rhi t)) ?_; refine xaL (.bool true) (geqI .i64 _ _ _ _ _ _ rfl rfl rfl true (decide_eq_true hge) _) ?_; refine xT ?_; go_upto_region 3 with fail; refine wp_region_list ?_; refine xpL (.int .i64 0) ?_; refine xT ?_; have HS:=show Hid _ from (And.intro M (And.intro N OF)); clear M N OF; go_wp2; go_ret
   obtain ⟨e1,e2⟩:=rct_no (L:=L) hge
   rw [e1,e2]
   exact ⟨sp,cap,rfl,HS.out⟩
 · go_upto_region 2 with fail
   refine wp_region_list ?_; refine xpL (.int .i64 (rlo f)) ?_; refine xpL (.int .i64 (rhi t)) ?_; refine xaL (.bool false) (geqI .i64 _ _ _ _ _ _ rfl rfl rfl false (decide_eq_false hge) _) ?_; refine xT ?_; have hb1:=rtot_in hc; have hb2:=rtot_in (rcut_can (rlo f) (rhi t) (by omega) L hc); go_upto_region 4 with fail; refine wp_region_list ?_; refine xpL (.pointer (some ⟨R,0,none⟩)) ?_
   refine xcL (dtot_any R sp cap L hc (by omega) _ (M.get mS 0 _ rfl) N) ?_; rintro e w2 ⟨rfl,l⟩; replace M:=M.call l; replace N:=NewW.below N l; replace OF:=OF.below l; clear l; refine xeL ?_; refine xpL (.int .i64 (rtot L)) ?_; refine xT ?_; go_upto_region 5 with fail; refine wp_region_list ?_; refine xpL (.pointer (some ⟨R,0,none⟩)) ?_; refine xpL (.pointer (some ⟨R,0,none⟩)) ?_
   refine xpL (.pointer (some ⟨R,0,none⟩)) ?_; refine xpL (.pointer (some ⟨R,0,none⟩)) ?_; refine xaL (.slice sp L.length cap) (load1 27 _ ⟨R,0,none⟩ _ rfl rfl (fun _=>by kernel_rfl) (M.get mS 0 _ rfl)) ?_; refine xpL (.int .i64 (rlo f)) ?_; refine xpL (.int .i64 (rhi t)) ?_; have key:=dwo_any sp cap L (by omega) (rlo f) (rhi t) _ N; refine xcL key ?_; clear key
   rintro e w3 ⟨p3,c3,rfl,N_3,lb⟩; replace M:=M.newW lb N_3; replace N_3:=NewW.zero N_3; replace N:=NewW.below N lb; replace OF:=OF.below lb; clear lb
   replace M:Mm w0 ((R,[.slice sp L.length cap])::((obs p3)++(obs sp++l))) w3:=M.perm (pull0 ([(R,[.slice sp L.length cap])]:List (Nat × List Value)) (obs p3) (obs sp++l)).symm
   refine xeL ?_; refine xpL (.pointer (some ⟨R,0,none⟩)) ?_; refine xpL (.pointer (some ⟨R,0,none⟩)) ?_; refine skipOpL rfl (storeAny (.slice p3 ((rcut L (rlo f) (rhi t)).length) c3) R 0 27 _ _ rfl rfl rfl rfl rfl (M.isSome mS 0 (by simp)) (M.free mS 0 (by simp)) (by kernel_rfl)) ?_; simp only [Act.put]; replace M:=M.set 0 (by simp) (.slice p3 ((rcut L (rlo f) (rhi t)).length) c3)
   replace N:=NewW.offB N ((Off.refl [R] _).set (b:=R) mS 0 (.slice p3 ((rcut L (rlo f) (rhi t)).length) c3)) (fun b_ hb_=>by obtain rfl:=xm1 hb_; exact M.awayB (fun p_ hp_=>by simp [hp_])); replace OF:=OF.trans ((Off.refl [R] _).set (b:=R) mS 0 (.slice p3 ((rcut L (rlo f) (rhi t)).length) c3))
   replace N_3:=NewW.offB N_3 ((Off.refl [R] _).set (b:=R) mS 0 (.slice p3 ((rcut L (rlo f) (rhi t)).length) c3)) (fun b_ hb_=>by obtain rfl:=xm1 hb_; exact M.awayB (fun p_ hp_=>by simp [hp_])); generalize w3.setCell ⟨R,0,none⟩ (.slice p3 ((rcut L (rlo f) (rhi t)).length) c3)=w4 at M N OF N_3 ⊢
   replace M:Mm w0 ((R,[.slice p3 ((rcut L (rlo f) (rhi t)).length) c3])::((obs p3)++(obs sp++l))) w4:=M
   refine xT ?_; go_upto_region 6 with fail; refine wp_region_list ?_; refine xpL (.int .i64 (rtot L)) ?_; refine xpL (.pointer (some ⟨R,0,none⟩)) ?_
   refine xcL (dtot_any R p3 c3 (rcut L (rlo f) (rhi t)) (rcut_can _ _ (by omega) L hc) (by have:=rcut_len (rlo f) (rhi t) L; omega) _ (M.get mS 0 _ rfl) N_3) ?_
   rintro e w5 ⟨rfl,l⟩; replace M:=M.call l; replace N:=NewW.below N l; replace OF:=OF.below l; replace N_3:=NewW.below N_3 l; clear l; refine xeL ?_; refine xaL (.int .i64 (rctN L f t)) (subI .i64 _ _ _ _ _ _ _ rfl rfl rfl (by rw [xw6]; unfold rctN; rw [rct_is hge]; omega) _) ?_; refine xpL (.int .i64 (rctN L f t)) ?_; refine xT ?_
   replace M:Mm w0 ((R,[.slice p3 ((rcut L (rlo f) (rhi t)).length) c3])::((obs p3)++(obs sp++l))) w5:=M
   have M2:Mm w0 ((R,[.slice p3 ((rcut L (rlo f) (rhi t)).length) c3])::(obs p3++l)) w5:=M.sub _ (List.cons_sublist_cons.2 ((List.Sublist.refl _).append (List.sublist_append_right _ _)))
   have HS:=show Hid _ from (And.intro M2 (And.intro N_3 OF)); clear M M2 N N_3 OF; go_wp2; go_ret
   rw [rct_is (show ¬ rhi t≤rlo f by omega)]
   first | exact ⟨p3,c3,rfl,HS.out⟩ | exact ⟨rfl,p3,c3,HS.out⟩
section
structure Wk (O:Rgs17):Prop where
 row:∀ p∈O,0≤p.1∧p.1<p.2∧p.2≤4611686018427387904
 up:O.Pairwise fun p q=>p.2≤q.1
theorem Wk.nil:Wk []:=⟨fun _ h=>(by cases h),List.Pairwise.nil⟩
theorem rmem_one (p:Int × Int) (n:Int):rmem [p] n↔p.1≤n∧n<p.2:=by
 rw [rmem_cons]
 exact ⟨fun h=>h.elim id fun h=>absurd h (rmem_nil n),.inl⟩
theorem Wk.snoc {O:Rgs17} (h:Wk O) {p:Int × Int} (hp:0≤p.1∧p.1<p.2∧p.2≤4611686018427387904) (hm:∀ n,rmem O n→n<p.1):Wk (O++[p]):=by
 refine ⟨fun q hq=>?_,List.pairwise_append.2 ⟨h.up,List.pairwise_singleton _ _,fun q hq r hr=>?_⟩⟩
 · rcases List.mem_append.1 hq with hq | hq
   · exact h.row q hq
   · obtain rfl:=xm1 hq
     exact hp
 · obtain rfl:=xm1 hr
   have h1:=h.row q hq
   have:=hm (q.2-1) ⟨q,hq,by omega,by omega⟩
   omega
theorem cut_side {L:Rgs17} (h:Can L) {f t:Int} (hft:f<t) {p:Int × Int} (hp:p∈rcut L f t):p.2≤f∨t≤p.1:=by
 have hr:=(rcut_can f t hft L h).row p hp
 by_cases c:p.2≤f∨t≤p.1
 · exact c
 · have:=((rcut_mem f t hft (max p.1 f) L).1 ⟨p,hp,by omega,by omega⟩).2
   omega
structure Ins (K:Rgs17) (f t:Int) (i:Nat) (O:Rgs17) (done:Bool):Prop where
 w:Wk O
 m:∀ n,rmem O n↔rmem (K.take i) n∨(done=true∧f≤n∧n<t)
 d0:done=false→∀ p∈K.take i,p.1≤f
 d1:done=true→∃ p∈K.take i,f<p.1
 len:O.length≤i+1
 len0:done=false→O.length≤i
theorem Ins.start (K:Rgs17) (f t:Int):Ins K f t 0 [] false :=
 ⟨Wk.nil,fun n=>⟨fun h=>absurd h (rmem_nil n),fun h=>h.elim (fun h=>absurd h (rmem_nil n)) fun h=>(by cases h.1)⟩,fun _ p hp=>(by cases hp),fun h=>(by cases h),Nat.zero_le _,fun _=>xnR _⟩
section
variable {L:Rgs17} {f t:Int} {i:Nat} {O:Rgs17} {p:Int × Int}
theorem Ins.low (h:Can L) (hft:f<t) (I:Ins (rcut L f t) f t i O false):∀ n,rmem O n→n<f:=fun n hn=>by
 rcases (I.m n).1 hn with ⟨q,hq,q1,q2⟩ | ⟨e,_⟩
 · have h1:=I.d0 rfl q hq
   rcases cut_side h hft (List.mem_of_mem_take hq) with c | c <;> omega
 · cases e
theorem Ins.lay (h:Can L) (h0:0≤f) (hft:f<t) (ht:t≤4611686018427387904) (I:Ins (rcut L f t) f t i O false):Wk (O++[(f,t)])∧∀ n,rmem (O++[(f,t)]) n↔rmem ((rcut L f t).take i) n∨(f≤n∧n<t):=by
 refine ⟨I.w.snoc ⟨h0,hft,ht⟩ (I.low h hft),fun n=>?_⟩
 rw [rmem_app,rmem_one,I.m n]
 constructor
 · rintro ((c | ⟨e,_⟩) | c)
   · exact .inl c
   · cases e
   · exact .inr c
 · rintro (c | c)
   · exact .inl (.inl c)
   · exact .inr c
theorem Ins.both (h:Can L) (h0:0≤f) (hft:f<t) (ht:t≤4611686018427387904) (I:Ins (rcut L f t) f t i O false) (hp:(rcut L f t)[i]?=some p) (hf:f<p.1):Ins (rcut L f t) f t (i+1) (O++[(f,t)]++[p]) true:=by
 have hc:=rcut_can f t hft L h
 obtain ⟨w1,m1⟩:=I.lay h h0 hft ht
 have hb:=hc.below hp
 have hs:t≤p.1:=by
  have:=hc.row p (List.mem_of_getElem? hp)
  rcases cut_side h hft (List.mem_of_getElem? hp) with c | c <;> omega
 refine ⟨w1.snoc (hc.row p (List.mem_of_getElem? hp)) fun n hn=>?_,fun n=>?_,fun e=>(by cases e),fun _=>⟨p,?_,hf⟩,?_,fun e=>(by cases e)⟩
 · rcases (m1 n).1 hn with ⟨q,hq,_,q2⟩ | c
   · have:=hb q hq; omega
   · omega
 · rw [rmem_app,rmem_one,m1 n,take_get hp,rmem_app,rmem_one]
   constructor
   · rintro ((c | c) | c)
     · exact .inl (.inl c)
     · exact .inr ⟨rfl,c⟩
     · exact .inl (.inr c)
   · rintro ((c | c) | ⟨_,c⟩)
     · exact .inl (.inl c)
     · exact .inr c
     · exact .inl (.inr c)
 · rw [take_get hp]; exact List.mem_append_right _ (List.mem_singleton.2 rfl)
 · have:=I.len0 rfl
   rw [List.length_append,List.length_append,List.length_singleton,List.length_singleton]
   omega
theorem Ins.next (h:Can L) (hft:f<t) {done:Bool} (I:Ins (rcut L f t) f t i O done) (hp:(rcut L f t)[i]?=some p) (hf:done=false→p.1≤f):Ins (rcut L f t) f t (i+1) (O++[p]) done:=by
 have hc:=rcut_can f t hft L h; have hb:=hc.below hp; have hr:=hc.row p (List.mem_of_getElem? hp)
 refine ⟨I.w.snoc hr fun n hn=>?_,fun n=>?_,fun e q hq=>?_,fun e=>?_,?_,fun e=>?_⟩
 · rcases (I.m n).1 hn with ⟨q,hq,_,q2⟩ | ⟨e,c⟩
   · have:=hb q hq; omega
   · obtain ⟨q,hq,h1⟩:=I.d1 e
     have h2:=hb q hq; have h3:=(hc.take i).row q hq
     rcases cut_side h hft (List.mem_of_getElem? hp) with c | c <;> omega
 · rw [rmem_app,rmem_one,I.m n,take_get hp,rmem_app,rmem_one]
   constructor
   · rintro ((c | c) | c)
     · exact .inl (.inl c)
     · exact .inr c
     · exact .inl (.inr c)
   · rintro ((c | c) | c)
     · exact .inl (.inl c)
     · exact .inr c
     · exact .inl (.inr c)
 · rw [take_get hp] at hq
   rcases List.mem_append.1 hq with hq | hq
   · exact I.d0 e q hq
   · obtain rfl:=xm1 hq
     exact hf e
 · obtain ⟨q,hq,h1⟩:=I.d1 e
   exact ⟨q,by rw [take_get hp]; exact List.mem_append_left _ hq,h1⟩
 · have:=I.len
   rw [List.length_append,List.length_singleton]
   omega
 · have:=I.len0 e
   rw [List.length_append,List.length_singleton]
   omega
end
structure Jnd (O:Rgs17) (i:Nat) (J:Rgs17):Prop where
 c:Can J
 m:∀ n,rmem J n↔rmem (O.take i) n
 len:J.length≤i
theorem Jnd.start (O:Rgs17):Jnd O 0 []:=⟨Can.nil,fun _=>Iff.rfl,xnR _⟩
section
variable {O:Rgs17} {i:Nat} {p:Int × Int}
theorem Jnd.lt (h:Wk O) (hp:O[i]?=some p) {J:Rgs17} (I:Jnd O i J):∀ q∈J,q.2≤p.1:=fun q hq=>by
 have h1:=I.c.row q hq
 obtain ⟨r,hr,_,r2⟩:=(I.m (q.2-1)).1 ⟨q,hq,by omega,by omega⟩
 have h2:=h.up.sublist (List.take_sublist (i+1) O)
 rw [take_get hp] at h2
 have:=(List.pairwise_append.1 h2).2.2 r hr p (List.mem_singleton.2 rfl)
 omega
theorem Jnd.join (h:Wk O) (hp:O[i]?=some p) {J:Rgs17} {q:Int × Int} (I:Jnd O i (J++[q])) (e:q.2=p.1):Jnd O (i+1) (J++[(q.1,p.2)]):=by
 have hr:=h.row p (List.mem_of_getElem? hp); have hq:=I.c.row q (List.mem_append_right _ (List.mem_singleton.2 rfl))
 obtain ⟨u1,_,u3⟩:=List.pairwise_append.1 I.c.up
 refine ⟨⟨fun r hr'=>?_,List.pairwise_append.2 ⟨u1,List.pairwise_singleton _ _,fun r hr' x hx=>?_⟩⟩,fun n=>?_,?_⟩
 · rcases List.mem_append.1 hr' with c | c
   · exact I.c.row r (List.mem_append_left _ c)
   · obtain rfl:=xm1 c
     simp only
     omega
 · obtain rfl:=xm1 hx
   exact u3 r hr' q (List.mem_singleton.2 rfl)
 · have hm:=I.m n
   rw [rmem_app,rmem_one] at hm
   rw [take_get hp,rmem_app,rmem_app,rmem_one,rmem_one,← hm]
   simp only
   constructor
   · rintro (c | c)
     · exact .inl (.inl c)
     · by_cases d:n<q.2
       · exact .inl (.inr ⟨c.1,d⟩)
       · exact .inr (by omega)
   · rintro ((c | c) | c)
     · exact .inl c
     · exact .inr (by omega)
     · exact .inr (by omega)
 · have:=I.len
   rw [List.length_append,List.length_singleton] at this ⊢
   omega
theorem Jnd.more (h:Wk O) (hp:O[i]?=some p) {J:Rgs17} (I:Jnd O i J) (e:∀ q,J.getLast?=some q→¬ q.2=p.1):Jnd O (i+1) (J++[p]):=by
 have hr:=h.row p (List.mem_of_getElem? hp)
 have hlt:∀ q∈J,q.2<p.1:=fun q hq=>by
  have h1:=I.lt h hp q hq
  rcases List.eq_nil_or_concat J with rfl | ⟨A,z,rfl⟩
  · cases hq
  · rw [List.concat_eq_append] at hq I e
    have hz:=e z (by simp); have hzl:=I.lt h hp z (List.mem_append_right _ (List.mem_singleton.2 rfl)); have hzr:=I.c.row z (List.mem_append_right _ (List.mem_singleton.2 rfl))
    rcases List.mem_append.1 hq with c | c
    · have:=(List.pairwise_append.1 I.c.up).2.2 q c z (List.mem_singleton.2 rfl)
      omega
    · obtain rfl:=xm1 c
      omega
 refine ⟨⟨fun r hr'=>?_,List.pairwise_append.2 ⟨I.c.up,List.pairwise_singleton _ _,fun r hr' x hx=>?_⟩⟩,fun n=>?_,?_⟩
 · rcases List.mem_append.1 hr' with c | c
   · exact I.c.row r c
   · obtain rfl:=xm1 c
     exact hr
 · obtain rfl:=xm1 hx
   exact hlt r hr'
 · rw [take_get hp,rmem_app,rmem_app,I.m n]
 · have:=I.len
   rw [List.length_append,List.length_singleton]
   omega
end
theorem joined {L O J:Rgs17} (h:Can L) {f t:Int} (hge:¬ rhi t≤rlo f) (hO:∀ n,rmem O n↔rmem (rcut L (rlo f) (rhi t)) n∨(rlo f≤n∧n<rhi t)) (I:Jnd O O.length J):J=rad L f t:=by
 refine can_ext I.c (rad_can h f t) fun n=>?_
 rw [I.m n,List.take_length,hO n,rcut_mem _ _ (by omega) n L,rad_mem h]
 constructor
 · rintro (c | c)
   · exact .inl c.1
   · exact .inr c
 · rintro (c | c)
   · by_cases d:rlo f≤n∧n<rhi t
     · exact .inr d
     · exact .inl ⟨c,d⟩
   · exact .inr c
end
section
section
variable {P:Program} {ops:Array Oper} {Q:Exit→Act→World→Prop} {md:Region.Mode} {S S2:World→Prop} {c:Nat}
theorem readC {i:Nat} {oi oc:Oper} (dst:Option Tmp) (hdst:oi.dst=dst) {n:Nat} {l:Array Bool} {a:Act} {w:World} (v:Value) (hi:ops[i]?=some oi) (hc:ops[c]?=some oc) (hwait:(oc.after.any fun e=>Region.binds md e&&e.on == i)=true)
 (hw:Region.wanted oi (yielded ops a.tmps)=true) (hv:∀ w,S w→(execOp a.eval oi).run P w=.ok (.value v) w)
 (hs:Region.noSelect ops=true) (hf:Region.free md ops l i=true) (hl:l.getD c true=false) (hr:(Region.ready md ops l).contains i=true)
 (hQ:∀ p a w,Q (.panic p) (a.put dst v) w→Q (.panic p) a w) (hS:S w)
 (h:wpAnyC P md ops Q S c n (l.setIfInBounds i true) (a.put dst v) w):wpAnyC P md ops Q S c (n+1) l a w:=by
 subst hdst
 exact wpAnyC_take hi hc hwait hs hf hl hr hQ (.inl ⟨hw,hv⟩) hS h
theorem skipC (dst:Option Tmp) {oc:Oper} (hdst:oc.dst=dst) {n:Nat} {l:Array Bool} {a:Act} {w w':World} (hr:Region.ready md ops l=[c]) (hi:ops[c]?=some oc)
 (hw:Region.wanted oc (yielded ops a.tmps)=true) (he:(execOp a.eval oc).run P w=.ok .skip w') (hl:(l.setIfInBounds c true).getD c true=true)
 (h:wpAnyH P md ops Q S2 n (l.setIfInBounds c true) (a.put dst undef) w'):wpAnyC P md ops Q S c (n+1) l a w :=
 ⟨fun h0=>(by rw [h0] at hr; cases hr),fun j hj=>by
  rw [hr] at hj
  obtain rfl:=xm1 hj
  unfold wpOp
  simp only [hi,hw,if_true]; refine .inl ?_
  unfold Oper.wp
  rw [he]
  subst hdst
  exact ⟨fun hf=>(by rw [hl] at hf; cases hf),wpAnyC_rest n _ _ _ hl (wpAny_of_held n _ _ _ h)⟩⟩
theorem onlyC {i:Nat} {oi:Oper} (dst:Option Tmp) (hdst:oi.dst=dst) {n:Nat} {l:Array Bool} {a:Act} {w w':World} (v:Value) (hr:Region.ready md ops l=[i]) (hi:ops[i]?=some oi) (hw:Region.wanted oi (yielded ops a.tmps)=true)
 (he:(execOp a.eval oi).run P w=.ok (.value v) w') (hS:S w') (h:wpAnyC P md ops Q S c n (l.setIfInBounds i true) (a.put dst v) w'):wpAnyC P md ops Q S c (n+1) l a w :=
 ⟨fun h0=>(by rw [h0] at hr; cases hr),fun j hj=>by
  rw [hr] at hj
  obtain rfl:=xm1 hj
  exact actO dst hdst v hi hw he ⟨fun _=>hS,h⟩⟩
end
end
end Go.Proofs.Ytakfcgbiodfmhaa
