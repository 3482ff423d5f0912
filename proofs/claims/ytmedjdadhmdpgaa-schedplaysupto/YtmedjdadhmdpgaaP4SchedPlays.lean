/- Texts of Av Ag Aw, joined. -/
import Derived.Test.YtmedjdadhmdpgaaP3SchedPlays
set_option maxRecDepth 20000
set_option maxHeartbeats 64000000
namespace Go.Proofs.Ytmedjdadhmdpgaa
open Go.RowKit
theorem eqlN21 {P:Program} {o:Oper} {a:Act} (t e t':TypeId) (x y:Operand) (sp:Option Addr) (n c:Nat) (b:Bool) (ho:o.op=.binOp .eql t x y t') (hx:a.eval x=.slice sp n c) (hy:a.eval y=.slice none 0 0) (hu:P.underlying t=some (.slice e)) (hb:sp.isNone=b) (w:World):(execOp a.eval o).run P w=.ok (.value (.bool b)) w:=by
 subst hb
 unfold execOp
 have e1:(eqGuard .eql t x y (.slice sp n c) (.slice none 0 0)).run P w=.ok () w:=rfl
 simp only [ho,hx,hy,Sem.run_bind,e1,Lib.run_eql_slice_nil w t e sp n c 0 0 hu,Sem.run_pure,Result.andThen_ok]
theorem Mm.rowApp21 {w0 w w2:World} {l:List (Nat × List Value)} {sp sq:Option Addr} {n cap m cap2 base size:Nat} {e:TypeId} {ys:List Value} (M:Mm w0 (obs sp++l) w) (hg:w.grownBy w2 (Value.slice sp n cap).ownBlock) (V2:w2.ownsRow base e size (.slice sq m cap2) m ys) (h2:∀ g,(Value.slice sq m cap2).ownBlock=some g→(Value.slice sp n cap).ownBlock=some g∨g=w.heap.size):Mm w0 (obs sq++l) w2:=by
 have Ml:Mm w0 l w:=M.sub l (List.sublist_append_right _ _)
 have hlo:∀ b,(Value.slice sp n cap).ownBlock=some b→w0.heap.size≤b:=fun b hb=>M.lo (List.mem_append_left _ (List.mem_map.2 ⟨b,(ob_own sp n cap b).1 hb,rfl⟩))
 have hap:∀ b,(Value.slice sp n cap).ownBlock=some b→∀ p∈l,p.1≠b:=fun b hb p hp e=>by
  have hm:b∈ob sp:=(ob_own sp n cap b).1 hb
  have:=(List.pairwise_append.1 M.apart).2.2 (b,[]) (List.mem_map.2 ⟨b,hm,rfl⟩) p hp
  exact this e.symm
 have Ml2:=Ml.grownN hg (fun b hb=>⟨hlo b hb,hap b hb⟩)
 cases sq with
 | none=>exact Ml2
 | some a =>
   have hl:=World.ownsRow.lt V2 a.block rfl; have hm:=M.below.size; refine Ml2.addB ?_ hl.2 fun p hp e=>?_
   · rcases h2 a.block rfl with h | h
     · exact hlo _ h
     · omega
   · rcases h2 a.block rfl with h | h
     · exact hap _ h p hp e
     · have:=(Ml.rows p hp).2.2
       omega
theorem perm_sent {α:Type} (S d X:List α) (B:α):(S++(B::(d++X))).Perm (d++(B::(S++X))):=by
 have h1:(S++(B::(d++X))).Perm (B::(S++(d++X))):=List.perm_middle
 have h2:=(sw21 S d X).cons B
 exact (h1.trans h2).trans List.perm_middle.symm
theorem perm_lose {α:Type} (S s2 d X:List α) (B:α):(S++(B::(s2++(d++X)))).Perm (d++(B::(s2++(S++X)))):=by
 have h1:(S++(B::(s2++(d++X)))).Perm (B::(S++(s2++(d++X)))):=List.perm_middle
 have h2:=(sw21 S s2 (d++X)).cons B; have h3:=((sw21 S d X).append_left s2).cons B; have h4:=(sw21 s2 d (S++X)).cons B
 exact (((h1.trans h2).trans h3).trans h4).trans List.perm_middle.symm
theorem Back.own {w:World} {s:Sch} {R:Nat} {p:Int} {m:Option Nat} {E:Pes} {T X:List (Nat × List Value)} {id:Int} {B:Nat} {d:Dfl} (h:Back w s R p m E T id B d X):∀ b∈B::ob d.sr,b∈(pow R s p m E).map Prod.fst∨w.heap.size≤b:=fun b hb=>by
 rcases h with ⟨A,F,rfl,hid,hA,rfl⟩ | ⟨hs,rfl,hB,rfl⟩
 · have hm:(B,d)∈A++(B,d)::F:=by simp
   rcases xc1 hb with rfl | hb
   · exact .inl (mem_bl (q:=(b,ppc d)) (mT _ (List.mem_append_right _ (gp_mem hm mS))))
   · exact .inl (mem_bl (q:=(b,[])) (mT _ (List.mem_append_right _ (gp_mem hm (mT _ (List.mem_map.2 ⟨b,hb,rfl⟩))))))
 · rcases xc1 hb with rfl | hb
   · exact .inr hB
   · cases hb
theorem vclw21_any (sp:Option Addr) (cap:Nat) (L:List (Int × Int)) (hln:L.length<2000000) (w:World) (N:RgW w L (.slice sp L.length cap)) :
 Calls Try.prog 35 #[.slice sp L.length cap] w fun e w'=>∃ sq cq,e=.returned (.slice sq L.length cq)∧w'.ownsRow w.heap.size 38 2 (.slice sq L.length cq) L.length (wrc L)∧Below w.heap.size w w':=by
 have M:=Mm.init w
 go_enter Try.func35,Try.ntmps35
 go_upto_region 0 with fail; refine wp_region_list ?_; refine xpL (.slice none 0 0) ?_; refine xT ?_
 cases hs:sp with
 | none =>
   subst hs
   obtain rfl:L=[]:=by
    cases L with
    | nil=>rfl
    | cons a b=>obtain ⟨_,h_,_⟩:=RgW.at N (i:=0) rfl; cases h_
   go_upto_region 1 with fail; refine wp_region_list ?_; refine xpL (.slice none 0 cap) ?_; refine xaL (.bool true) (eqlN21 28 38 _ _ _ none _ _ true rfl rfl rfl Try.underlying28 rfl _) ?_; refine xT ?_; go_upto_region 2 with fail; refine wp_region_list ?_; refine xpL (.slice none 0 0) ?_; refine xT ?_; have hbel:=M.below; have hO:=World.ownsRow_nil w w.heap.size 38 2; clear M; go_wp2; go_ret
   exact ⟨_,_,rfl,hO,hbel⟩
 | some ad =>
   subst hs; go_upto_region 1 with fail; refine wp_region_list ?_; refine xpL (.slice (some ad) L.length cap) ?_; refine xaL (.bool false) (eqlN21 28 38 _ _ _ (some ad) _ _ false rfl rfl rfl Try.underlying28 rfl _) ?_; refine xT ?_; go_upto_region 3 with fail; refine wp_region_list ?_
   obtain ⟨bz,hbz,VR⟩:∃ bz,bz=w.heap.size∧(w.alloc (.cells #[] 38)).ownsRow w.heap.size 38 2 (.slice (some ⟨bz,0,none⟩) 0 0) 0 []:=⟨_,rfl,World.ownsRow_lit (e:=38) (size:=2) w #[] 0 M.below.size (by unfold maxLen; omega) rfl⟩
   refine actL (w':=w.alloc (.cells #[] 38)) (.slice (some ⟨w.heap.size,0,none⟩) 0 0) rfl (by kernel_rfl) ?_; simp only [aP,lI,l0,lS]; have hlb:=(Below.refl w.heap.size w).alloc (xnR _) (.cells #[] 38)
   have hgz:w.heap.size≤bz:=by have:=M.below.size; omega
   replace M:=M.call hlb; clear hlb
   rw [← hbz]
   generalize w.alloc (.cells #[] 38)=w1 at M VR ⊢; clear hbz; refine xpL (.slice (some ad) L.length cap) ?_
   have adr:∀ j u,(wrc L)[j]?=some u→w1.cell? (ad.add j)=some u:=fun j u hu=>by obtain ⟨_,_,e_,_,_,h_⟩:=N.below M.below; injection e_ with e1_; subst e1_; obtain ⟨_,e2_,h2_⟩:=h_ j u hu; injection e2_ with e2_; subst e2_; exact h2_
   obtain ⟨v2,w9,hr,V2,hgr,hg2⟩:=run_append_OwnV (P:=Try.prog) (ty:=28) Try.underlying28 manyW rfl (by decide) VR ad L.length cap (wrc L) (wrc_len L) adr (wrc_one L) (by unfold maxLen; omega) (by omega) M.below.size
   obtain ⟨sv,cv,rfl,_,_⟩:=row_form16 V2
   have hbel:=M.below.grown hgr M.below.size (fun b_ hb_=>by injection hb_ with hb_; simp only at hb_; omega); refine xaL _ (appendOp _ _ 28 _ _ _ rfl rfl rfl hr) ?_; clear hr hgr hg2 M VR adr
   rw [Nat.zero_add] at V2 ⊢
   rw [List.nil_append] at V2
   refine xpL (.slice sv L.length cv) ?_; refine xT ?_; have HS:=show Hid _ from (And.intro V2 hbel); clear V2 hbel; go_wp2; go_ret
   exact ⟨sv,cv,rfl,HS.out⟩
theorem vclr21_any (base:Nat) (sp:Option Addr) (cap:Nat) (Z:List (Rcd × Option Addr × Nat)) (hln:Z.length<1000000000) (w:World) (V:w.ownsRow base 72 3 (.slice sp Z.length cap) Z.length (rcs Z)) :
 Calls Try.prog 48 #[.slice sp Z.length cap] w fun e w'=>∃ sq cq,e=.returned (.slice sq Z.length cq)∧w'.ownsRow w.heap.size 72 3 (.slice sq Z.length cq) Z.length (rcs Z)∧Below w.heap.size w w':=by
 have M:=Mm.init w
 go_enter Try.func48,Try.ntmps48
 go_upto_region 0 with fail; refine wp_region_list ?_; refine xpL (.slice none 0 0) ?_; refine xT ?_
 cases hs:sp with
 | none =>
   subst hs
   obtain rfl:Z=[]:=by
    cases Z with
    | nil=>rfl
    | cons a b=>obtain ⟨g,hg⟩:=row_some5 V (by simp); cases hg
   go_upto_region 1 with fail; refine wp_region_list ?_; refine xpL (.slice none 0 cap) ?_; refine xaL (.bool true) (eqlN21 61 72 _ _ _ none _ _ true rfl rfl rfl Try.underlying61 rfl _) ?_; refine xT ?_; go_upto_region 2 with fail; refine wp_region_list ?_; refine xpL (.slice none 0 0) ?_; refine xT ?_; have hbel:=M.below; have hO:=World.ownsRow_nil w w.heap.size 72 3; clear M; go_wp2; go_ret
   exact ⟨_,_,rfl,hO,hbel⟩
 | some ad =>
   subst hs; go_upto_region 1 with fail; refine wp_region_list ?_; refine xpL (.slice (some ad) Z.length cap) ?_; refine xaL (.bool false) (eqlN21 61 72 _ _ _ (some ad) _ _ false rfl rfl rfl Try.underlying61 rfl _) ?_; refine xT ?_; go_upto_region 3 with fail; refine wp_region_list ?_
   obtain ⟨bz,hbz,VR⟩:∃ bz,bz=w.heap.size∧(w.alloc (.cells #[] 72)).ownsRow w.heap.size 72 3 (.slice (some ⟨bz,0,none⟩) 0 0) 0 []:=⟨_,rfl,World.ownsRow_lit (e:=72) (size:=3) w #[] 0 M.below.size (by unfold maxLen; omega) rfl⟩
   refine actL (w':=w.alloc (.cells #[] 72)) (.slice (some ⟨w.heap.size,0,none⟩) 0 0) rfl (by kernel_rfl) ?_; simp only [aP,lI,l0,lS]; have hlb:=(Below.refl w.heap.size w).alloc (xnR _) (.cells #[] 72)
   have hgz:w.heap.size≤bz:=by have:=M.below.size; omega
   replace M:=M.call hlb; clear hlb
   rw [← hbz]
   generalize w.alloc (.cells #[] 72)=w1 at M VR ⊢; clear hbz; refine xpL (.slice (some ad) Z.length cap) ?_
   have adr:∀ j u,(rcs Z)[j]?=some u→w1.cell? (ad.add j)=some u:=fun j u hu=>by
    obtain ⟨g,hg⟩:=row_some5 V (by
     rcases Nat.eq_zero_or_pos Z.length with h | h
     · rw [List.eq_nil_of_length_eq_zero h] at hu; cases hu
     · exact h)
    have h1:=row_cell5 (ownsRow_bel V M.below) hg hu
    injection hg with hg
    subst hg
    rw [Addr.add_mid,Nat.zero_add]
    exact h1
   obtain ⟨v2,w9,hr,V2,hgr,hg2⟩:=run_append_OwnV (P:=Try.prog) (ty:=61) Try.underlying61 manyP rfl (by decide) VR ad Z.length cap (rcs Z) (rcs_len Z) adr (rcs_one Z) (by unfold maxLen; omega) (by omega) M.below.size
   obtain ⟨sv,cv,rfl,_,_⟩:=row_form16 V2
   have hbel:=M.below.grown hgr M.below.size (fun b_ hb_=>by injection hb_ with hb_; simp only at hb_; omega); refine xaL _ (appendOp _ _ 61 _ _ _ rfl rfl rfl hr) ?_; clear hr hgr hg2 M VR adr
   rw [Nat.zero_add] at V2 ⊢
   rw [List.nil_append] at V2
   refine xpL (.slice sv Z.length cv) ?_; refine xT ?_; have HS:=show Hid _ from (And.intro V2 hbel); clear V2 hbel; go_wp2; go_ret
   exact ⟨sv,cv,rfl,HS.out⟩
theorem vsnt21_any (w0 w:World) (R:Nat) (p:Int) (m:Option Nat) (E:Pes) (C l:List (Nat × List Value)) (s:Sch) (hI:PIn w s p m E C) (hw:SchW s) (hsz_:ssz s<1000000000) (M:Mm w0 (pow R s p m E++(C++l)) w) (id:Int) (hid:i64 id) (c now:Int) (k:List (Int × Int)) (sk:Option Addr) (ck:Nat) (hk:k.length<2000000) (N:RgW w k (.slice sk k.length ck)) (hks:∀ b∈(pow R s p m E).map Prod.fst,k≠[]→b∉ob sk) :
 Calls Try.prog 17 #[.pointer (some ⟨R,0,none⟩),.int .i64 id,.int .i64 c,.int .i64 now,.slice sk k.length ck] w fun e w'=>∃ D E',e=.returned (.tuple #[])∧PIn w' (ssn s id c now k) p m E' (D++C)∧Mm w0 (pow R (ssn s id c now k) p m E'++(D++(C++l))) w'∧Off ((pow R s p m E).map Prod.fst) w w':=by
 replace M:Mm w0 ((R,[.int .i64 p,.int .u64 (s.last+1),.map m])::((mbk m++gp E)++(C++l))) w:=M
 have N0:=show Hid _ from N
 go_enter Try.func17,Try.ntmps17
 go_upto_region 0 with fail; refine wp_region_list ?_; refine xpL (.pointer (some ⟨R,0,none⟩)) ?_; refine xpL (.int .i64 id) ?_; have key:=vat21_any w0 w R p m E C l s hI M id hid; refine xcL key ?_; clear key; rintro e w2 ⟨B,d,X,rfl,M',P,hdf,hck,lb,hbk⟩; clear M; replace N:=N.below lb
 have M:Mm w0 ((B,[.int .i64 ((d.win:Nat):Int),.int .i64 (pnx d.top),.slice d.sr d.Z.length d.cr])::(obs d.sr++X)) w2:=M'
 clear M'; refine xeL ?_; refine xpL (.pointer (some ⟨B,0,none⟩)) ?_; refine xT ?_; have hfw:=sgf_w hw id; have hlen:=sgf_len (s:=s) id
 rw [← hdf] at hfw hlen
 have hln1:d.Z.length≤ssz s:=by have h_:d.f.rs.length=d.Z.length:=List.length_map ..; omega
 have hln2:(sall (d.Z.map Prod.fst)).length≤ssz s:=by have h_:(sall d.f.rs).length=(sall (d.Z.map Prod.fst)).length:=rfl; omega
 have hap:=fun x (hx:x∈B::ob d.sr)=>Mm.apart2 (a:=(B,ppc d)::obs d.sr) (b:=X) M x (by rw [List.map_cons,obs_fst]; exact hx)
 have hBs:B∉ob d.sr:=fun hm=>by
  have:=(List.pairwise_cons.1 M.apart).1 (B,[]) (List.mem_append_left _ (List.mem_map.2 ⟨B,hm,rfl⟩))
  exact this rfl
 have hCX:∀ q∈C,q∈X:=fun q hq=>hbk.mem (List.mem_append_left _ hq)
 have hBc:B∉(gks d.Z).map Prod.fst:=fun hm=>by
  obtain ⟨q,hq,e⟩:=List.mem_map.1 hm
  exact hap B mS (e ▸ mem_bl (hCX q (hck q hq)))
 have hSc:∀ b∈ob d.sr,b∉(gks d.Z).map Prod.fst:=fun b hb hm=>by
  obtain ⟨q,hq,e⟩:=List.mem_map.1 hm
  exact hap b (mT _ hb) (e ▸ mem_bl (hCX q (hck q hq)))
 have M1:=show Hid _ from (show Mm w0 ((B,ppc d)::(obs d.sr++X)) w2 from M); have hown:=hbk.own
 have hBk:k≠[]→B∉ob sk:=fun hne=>by
  rcases hown B mS with h | h
  · exact hks B h hne
  · exact RgW.away N0.out h hne
 have hSk:∀ b∈ob d.sr,k≠[]→b∉ob sk:=fun b hb hne=>by
  rcases hown b (mT _ hb) with h | h
  · exact hks b h hne
  · exact RgW.away N0.out h hne
 have OF:=Off.refl (B::ob d.sr) w2
 have htp:pnx d.top≤281474976710656∧0≤pnx d.top:=by
  cases h:d.top with
  | none=>exact ⟨by decide,by decide⟩
  | some t=>have:=hfw.t1 t h; show (t:Int)+1≤_∧0≤(t:Int)+1; omega
 by_cases h1:c<pnx d.top
 · have hcc:c<pnx d.top∨c>281474976710655:=.inl h1
   go_upto_region 1 with fail; refine wp_region_list ?_; refine xpL (.int .i64 c) ?_; refine xpL (.pointer (some ⟨B,0,none⟩)) ?_; refine xpL (.pointer (some ⟨B,0,none⟩)) ?_; refine xpL (.pointer (some ⟨B,1,none⟩)) ?_; refine xaL (.int .i64 (pnx d.top)) (load1 3 _ ⟨B,1,none⟩ _ rfl rfl (fun _=>by kernel_rfl) (M.get mS 1 _ rfl)) ?_
   refine xaL (.bool true) (lssI .i64 _ _ _ _ _ _ rfl rfl rfl true (decide_eq_true (by omega)) _) ?_; refine xpL (.bool true) ?_
   with_reducible refine skipL ?_ ?_
   · rfl
   simp only [aP,lI,l0,lS]
   with_reducible refine skipL ?_ ?_
   · rfl
   simp only [aP,lI,l0,lS]; refine xpL (.bool true) ?_; refine xT ?_
   have hno:=show Hid _ from (show ssn s id c now k=spx s id d.f by
    rw [hdf,spx_self]
    unfold ssn
    split
    · next f hf =>
      have e1:f=d.f:=by rw [hdf]; unfold sgf; rw [hf]; rfl
      have e2:smay f c=false:=by
       rw [e1,Bool.eq_false_iff]
       intro hm
       unfold smay at hm
       rw [xbA,decide_eq_true_eq] at hm
       obtain ⟨g1,g2⟩:=hm
       change (match d.top with | some t=>decide ((t:Int)<c) | none=>true)=true at g2
       cases ht:d.top with
       | none=>rw [ht] at hcc; simp only [pnx] at hcc; omega
       | some t=>rw [ht] at hcc g2; simp only [pnx,decide_eq_true_eq] at hcc g2; omega
      rw [e2,if_neg (by decide)]
    · rfl)
   obtain ⟨E',hc1,hc2,hc3⟩:=Back.close hI hbk M1.out lb OF rfl P (D:=[]) M (C':=C) hck (fun _ h=>h)
   have HS:=show Hid _ from (And.intro hc1 (And.intro hc2 hc3)); clear M M1 OF P N N0 hc1 hc2 hc3 hbk hI; go_wp2
   first | exact ⟨rfl,.tuple #[],by kernel_rfl,rfl,[],E',by rw [hno.out]; exact HS.out.1,by rw [hno.out,pow_spx]; exact HS.out.2.1,HS.out.2.2⟩ | exact ⟨rfl,.tuple #[],by kernel_rfl,[],E',rfl,by rw [hno.out]; exact HS.out.1,by rw [hno.out,pow_spx]; exact HS.out.2.1,HS.out.2.2⟩
 · by_cases h2:c>281474976710655
   · have hcc:c<pnx d.top∨c>281474976710655:=.inr h2
     go_upto_region 1 with fail; refine wp_region_list ?_; refine xpL (.int .i64 c) ?_; refine xpL (.pointer (some ⟨B,0,none⟩)) ?_; refine xpL (.pointer (some ⟨B,0,none⟩)) ?_; refine xpL (.pointer (some ⟨B,1,none⟩)) ?_; refine xaL (.int .i64 (pnx d.top)) (load1 3 _ ⟨B,1,none⟩ _ rfl rfl (fun _=>by kernel_rfl) (M.get mS 1 _ rfl)) ?_
     refine xaL (.bool false) (lssI .i64 _ _ _ _ _ _ rfl rfl rfl false (decide_eq_false (by omega)) _) ?_; refine xpL (.bool false) ?_; refine xpL (.int .i64 c) ?_; refine xaL (.bool true) (gtrI .i64 _ _ _ _ _ _ rfl rfl rfl true (decide_eq_true (by omega)) _) ?_; refine xpL (.bool true) ?_; refine xT ?_
     have hno:=show Hid _ from (show ssn s id c now k=spx s id d.f by
      rw [hdf,spx_self]
      unfold ssn
      split
      · next f hf =>
        have e1:f=d.f:=by rw [hdf]; unfold sgf; rw [hf]; rfl
        have e2:smay f c=false:=by
         rw [e1,Bool.eq_false_iff]
         intro hm
         unfold smay at hm
         rw [xbA,decide_eq_true_eq] at hm
         obtain ⟨g1,g2⟩:=hm
         change (match d.top with | some t=>decide ((t:Int)<c) | none=>true)=true at g2
         cases ht:d.top with
         | none=>rw [ht] at hcc; simp only [pnx] at hcc; omega
         | some t=>rw [ht] at hcc g2; simp only [pnx,decide_eq_true_eq] at hcc g2; omega
        rw [e2,if_neg (by decide)]
      · rfl)
     obtain ⟨E',hc1,hc2,hc3⟩:=Back.close hI hbk M1.out lb OF rfl P (D:=[]) M (C':=C) hck (fun _ h=>h)
     have HS:=show Hid _ from (And.intro hc1 (And.intro hc2 hc3)); clear M M1 OF P N N0 hc1 hc2 hc3 hbk hI; go_wp2
     first | exact ⟨rfl,.tuple #[],by kernel_rfl,rfl,[],E',by rw [hno.out]; exact HS.out.1,by rw [hno.out,pow_spx]; exact HS.out.2.1,HS.out.2.2⟩ | exact ⟨rfl,.tuple #[],by kernel_rfl,[],E',rfl,by rw [hno.out]; exact HS.out.1,by rw [hno.out,pow_spx]; exact HS.out.2.1,HS.out.2.2⟩
   · go_upto_region 1 with fail
     refine wp_region_list ?_; refine xpL (.int .i64 c) ?_; refine xpL (.pointer (some ⟨B,0,none⟩)) ?_; refine xpL (.pointer (some ⟨B,0,none⟩)) ?_; refine xpL (.pointer (some ⟨B,1,none⟩)) ?_; refine xaL (.int .i64 (pnx d.top)) (load1 3 _ ⟨B,1,none⟩ _ rfl rfl (fun _=>by kernel_rfl) (M.get mS 1 _ rfl)) ?_
     refine xaL (.bool false) (lssI .i64 _ _ _ _ _ _ rfl rfl rfl false (decide_eq_false (by omega)) _) ?_; refine xpL (.bool false) ?_; refine xpL (.int .i64 c) ?_; refine xaL (.bool false) (gtrI .i64 _ _ _ _ _ _ rfl rfl rfl false (decide_eq_false (by omega)) _) ?_; refine xpL (.bool false) ?_; refine xT ?_; go_upto_region 2 with fail; refine wp_region_list ?_
     refine xpL (.pointer (some ⟨B,0,none⟩)) ?_; refine xpL (.int .i64 c) ?_; refine xaL (.int .i64 (c+1)) (addI .i64 _ _ _ _ _ _ _ rfl rfl rfl (by rw [xw6]; omega) _) ?_; refine xpL (.pointer (some ⟨B,0,none⟩)) ?_; refine xpL (.pointer (some ⟨B,1,none⟩)) ?_
     refine skipOpL rfl (storeAny (.int .i64 (c+1)) B 1 3 _ _ rfl rfl rfl rfl rfl (M.isSome mS 1 (by simp)) (M.free mS 1 (by simp)) (by kernel_rfl)) ?_; simp only [Act.put]; replace M:=M.set 1 (by simp) (.int .i64 (c+1)); replace N:=N.offB ((Off.refl [B] _).set (b:=B) mS 1 (.int .i64 (c+1))) (fun b_ hb_ hne_ hm_=>by obtain rfl:=xm1 hb_; exact hBk hne_ hm_)
     replace P:=P.off ((Off.refl [B] _).set (b:=B) mS 1 (.int .i64 (c+1))) (fun b_ hb_=>by obtain rfl:=xm1 hb_; exact hBs) (fun b_ hb_=>by obtain rfl:=xm1 hb_; exact hBc); replace OF:=OF.and1 ((Off.refl [B] _).set (b:=B) mS 1 (.int .i64 (c+1))) (.inl mS); generalize w2.setCell ⟨B,1,none⟩ (.int .i64 (c+1))=w3 at M N P OF ⊢
     replace M:Mm w0 ((B,[.int .i64 ((d.win:Nat):Int),.int .i64 (c+1),.slice d.sr d.Z.length d.cr])::(obs d.sr++X)) w3:=M
     refine xT ?_; go_upto_region 3 with fail; have hdr:=(Below.refl w3.heap.size w3).drew; replace M:=M.drew; replace N:=N.below hdr; replace P:=P.below hdr; replace OF:=OF.below hdr; clear hdr
     refine wp_region_C (S:=fun w'=>Mm w0 [(B,[.int .i64 ((d.win:Nat):Int),.int .i64 (c+1),.slice d.sr d.Z.length d.cr])] w') 15 (by kernel_rfl) (M.sub _ (List.cons_sublist_cons.2 (List.nil_sublist _))) ?_; intro _; generalize w3.drew=w4 at M N P OF ⊢
     refine readC (i:=0) (some 29) rfl (.pointer (some ⟨B,0,none⟩)) rfl rfl (by kernel_rfl) rfl (fun _ M=>(by kernel_rfl)) (by kernel_rfl) (by kernel_rfl) (by kernel_rfl) (by kernel_rfl) (fun _ _ _ h=>h) (M.sub _ (List.cons_sublist_cons.2 (List.nil_sublist _))) ?_; simp only [aP,lI,l0,lS]
     refine readC (i:=1) (some 30) rfl (.pointer (some ⟨B,0,none⟩)) rfl rfl (by kernel_rfl) rfl (fun _ M=>(by kernel_rfl)) (by kernel_rfl) (by kernel_rfl) (by kernel_rfl) (by kernel_rfl) (fun _ _ _ h=>h) (M.sub _ (List.cons_sublist_cons.2 (List.nil_sublist _))) ?_; simp only [aP,lI,l0,lS]
     refine readC (i:=2) (some 31) rfl (.pointer (some ⟨B,0,none⟩)) rfl rfl (by kernel_rfl) rfl (fun _ M=>(by kernel_rfl)) (by kernel_rfl) (by kernel_rfl) (by kernel_rfl) (by kernel_rfl) (fun _ _ _ h=>h) (M.sub _ (List.cons_sublist_cons.2 (List.nil_sublist _))) ?_; simp only [aP,lI,l0,lS]
     refine readC (i:=3) (some 32) rfl (.pointer (some ⟨B,2,none⟩)) rfl rfl (by kernel_rfl) rfl (fun _ M=>(by kernel_rfl)) (by kernel_rfl) (by kernel_rfl) (by kernel_rfl) (by kernel_rfl) (fun _ _ _ h=>h) (M.sub _ (List.cons_sublist_cons.2 (List.nil_sublist _))) ?_; simp only [aP,lI,l0,lS]
     refine readC (i:=4) (some 33) rfl (.slice d.sr d.Z.length d.cr) rfl rfl (by kernel_rfl) rfl (fun _ M=>load1 61 _ ⟨B,2,none⟩ _ rfl rfl (fun _=>by kernel_rfl) (M.get mS 2 _ rfl)) (by kernel_rfl) (by kernel_rfl) (by kernel_rfl) (by kernel_rfl) (fun _ _ _ h=>h) (M.sub _ (List.cons_sublist_cons.2 (List.nil_sublist _))) ?_; simp only [aP,lI,l0,lS]
     refine readC (i:=5) (some 34) rfl (.int .i64 c) rfl rfl (by kernel_rfl) rfl (fun _ M=>(by kernel_rfl)) (by kernel_rfl) (by kernel_rfl) (by kernel_rfl) (by kernel_rfl) (fun _ _ _ h=>h) (M.sub _ (List.cons_sublist_cons.2 (List.nil_sublist _))) ?_; simp only [aP,lI,l0,lS]
     refine readC (i:=6) (some 35) rfl (.int .i64 now) rfl rfl (by kernel_rfl) rfl (fun _ M=>(by kernel_rfl)) (by kernel_rfl) (by kernel_rfl) (by kernel_rfl) (by kernel_rfl) (fun _ _ _ h=>h) (M.sub _ (List.cons_sublist_cons.2 (List.nil_sublist _))) ?_; simp only [aP,lI,l0,lS]
     refine readC (i:=8) (some 37) rfl (.slice sk k.length ck) rfl rfl (by kernel_rfl) rfl (fun _ M=>(by kernel_rfl)) (by kernel_rfl) (by kernel_rfl) (by kernel_rfl) (by kernel_rfl) (fun _ _ _ h=>h) (M.sub _ (List.cons_sublist_cons.2 (List.nil_sublist _))) ?_; simp only [aP,lI,l0,lS]; have key:=vclk21_any now w4
     refine callMC (i:=7) (some 36) rfl (by kernel_rfl) rfl rfl (fun _=>by kernel_rfl) key ?_; clear key; rintro e w6 ⟨rfl,l_⟩; replace M:=M.call l_; replace N:=N.below l_; replace P:=P.below l_; replace OF:=OF.below l_
     clear l_
     refine ⟨_,rfl,(M.sub _ (List.cons_sublist_cons.2 (List.nil_sublist _))),?_⟩
     simp only [aP,lI,l0,lS]; have key:=vclw21_any sk ck k hk w6 N; refine callMC (i:=9) (some 38) rfl (by kernel_rfl) rfl rfl (fun _=>by kernel_rfl) key ?_; clear key; rintro e w8 ⟨sq,cq,rfl,V_q,l_⟩; have hqlo:=fun b_ hb_=>(World.ownsRow.lt V_q b_ hb_); have hq0:=OF.size; have hM0:=M.below.size
     have hlts:=fun x (hx:x∈((B,ppc d)::(obs d.sr++X)).map Prod.fst)=>M.lts21 (a:=[]) hx; have N_q:=RgW.ofW (NewW.ofOwn21 V_q); have MQ:=M.newRow21 l_ V_q; clear V_q; replace M:=M.call l_; replace N:=N.below l_; replace P:=P.below l_; replace OF:=OF.below l_; clear l_ N
     refine ⟨_,rfl,(M.sub _ (List.cons_sublist_cons.2 (List.nil_sublist _))),?_⟩
     simp only [aP,lI,l0,lS]
     have hcn:((c.toNat:Nat):Int)=c:=Int.toNat_of_nonneg (by omega)
     refine readC (i:=10) (some 39) rfl (.agg #[.int .i64 c,.int .i64 ((smom now:Nat):Int),.slice sq k.length cq]) rfl rfl (by kernel_rfl) rfl (fun _ M=>(by kernel_rfl)) (by kernel_rfl) (by kernel_rfl) (by kernel_rfl) (by kernel_rfl) (fun _ _ _ h=>h) (M.sub _ (List.cons_sublist_cons.2 (List.nil_sublist _))) ?_; simp only [aP,lI,l0,lS]
     have hlb:=(Below.refl w8.heap.size w8).alloc (xnR _) (.cells #[.int .i64 c,.int .i64 ((smom now:Nat):Int),.slice sq k.length cq] 72); have T_b:=World.ownsRow.cells (World.ownsRow_lit (base:=w8.heap.size) (e:=72) (size:=3) w8 #[.int .i64 c,.int .i64 ((smom now:Nat):Int),.slice sq k.length cq] 1 (xnR _) (by unfold maxLen; omega) rfl) (g:=w8.heap.size) rfl
     have M_:=M.call hlb; replace MQ:=MQ.call hlb; refine onlyC (i:=11) (w':=w8.alloc (.cells #[.int .i64 c,.int .i64 ((smom now:Nat):Int),.slice sq k.length cq] 72)) (some 40) rfl (.slice (some ⟨w8.heap.size,0,none⟩) 1 1) (by kernel_rfl) rfl rfl (by kernel_rfl) (M_.sub _ (List.cons_sublist_cons.2 (List.nil_sublist _))) ?_; simp only [aP,lI,l0,lS]; replace P:=P.below hlb
     replace OF:=OF.below hlb; replace N_q:=N_q.below hlb; clear M hlb; have M:=M_; clear M_; generalize w8.alloc (.cells #[.int .i64 c,.int .i64 ((smom now:Nat):Int),.slice sq k.length cq] 72)=w9 at M MQ T_b P OF N_q ⊢; generalize w8.heap.size=bz at T_b ⊢
     have T_c:∀ j u,(rc1 ((⟨c.toNat,smom now,k⟩:Rcd),sq,cq))[j]?=some u→w9.cell? ((⟨bz,0,none⟩:Addr).add j)=some u:=fun j u hu=>T_b j u (by
      have e_:rc1 ((⟨c.toNat,smom now,k⟩:Rcd),sq,cq)=[.int .i64 c,.int .i64 ((smom now:Nat):Int),.slice sq k.length cq]:=by unfold rc1; rw [show ((c.toNat:Nat):Int)=c from Int.toNat_of_nonneg (by omega)]
      rw [e_] at hu
      exact hu)
     obtain ⟨v2,wz9,hr,V2,hgr,hg2⟩:=run_append_OwnV (P:=Try.prog) (ty:=61) Try.underlying61 manyP rfl (by decide) P.V ⟨bz,0,none⟩ 1 1 (rc1 ((⟨c.toNat,smom now,k⟩:Rcd),sq,cq)) rfl T_c (fun u hu=>rcs_one [((⟨c.toNat,smom now,k⟩:Rcd),sq,cq)] u (by rw [rcs_one1]; exact hu)) (by unfold maxLen; omega) (by omega) (Nat.zero_le _)
     have o1:Off (ob d.sr) w9 wz9:=Off.grown (Off.refl (ob d.sr) _) hgr (fun b_ hb_=>.inl ((ob_own _ _ _ b_).1 hb_))
     obtain ⟨sv,cv,rfl,_,_⟩:=row_form16 V2
     rw [← rcs_one1,← rcs_app] at V2
     have hsv:∀ b∈ob sv,b∈ob d.sr∨b=w9.heap.size:=fun b hb=>by
      rcases hg2 b ((ob_own sv _ cv b).2 hb) with h | h
      · exact .inl ((ob_own _ _ _ b).1 h)
      · exact .inr h
     have hM1:=M.below.size
     have hB1:B<w9.heap.size:=M.lt mS
     have hBv:B∉ob sv:=fun h=>by
      rcases hsv B h with h | h
      · exact hBs h
      · omega
     have hBq:B∉ob sq:=fun h=>by
      have h1:=hqlo B ((ob_own sq k.length cq B).2 h); have h2:=hlts B (by simp)
      omega
     have hsq:∀ b∈ob d.sr,b∉ob sq:=fun b hb h=>by
      have h1:=hqlo b ((ob_own sq k.length cq b).2 h); have h2:=hlts b (mem_bl (q:=(b,[])) (mT _ (List.mem_append_left _ (List.mem_map.2 ⟨b,hb,rfl⟩))))
      omega
     have P2:POK wz9 { d with Z:=d.Z++[((⟨c.toNat,smom now,k⟩:Rcd),sq,cq)],sr:=sv,cr:=cv }:=⟨by
      show wz9.ownsRow 0 72 3 (.slice sv (d.Z++[((⟨c.toNat,smom now,k⟩:Rcd),sq,cq)]).length cv) (d.Z++[((⟨c.toNat,smom now,k⟩:Rcd),sq,cq)]).length (rcs (d.Z++[((⟨c.toNat,smom now,k⟩:Rcd),sq,cq)]))
      rw [List.length_append]
      exact V2,fun q hq=>by
      rcases List.mem_append.1 hq with h | h
      · exact (P.K.off o1 hSc) q h
      · obtain rfl:=xm1 h
        exact N_q.offB o1 fun b hb _ hm=>hsq b hb hm⟩
     have hBc2:B∉(gks (d.Z++[((⟨c.toNat,smom now,k⟩:Rcd),sq,cq)])).map Prod.fst:=fun hm=>by
      rw [gks_app,List.map_append] at hm
      rcases List.mem_append.1 hm with h | h
      · exact hBc h
      · rw [gks_cons,show gks ([]:List (Rcd × Option Addr × Nat))=[] from rfl,List.append_nil,obs_fst] at h
        exact hBq h
     replace OF:=OF.trans (o1.mono fun b hb=>mT _ hb); have MP:=MQ.perm (perm_sent (obs sq) (obs d.sr) X (B,[.int .i64 ((d.win:Nat):Int),.int .i64 (c+1),.slice d.sr d.Z.length d.cr]))
     have M9:Mm w0 ((obs sv)++((B,[.int .i64 ((d.win:Nat):Int),.int .i64 (c+1),.slice d.sr d.Z.length d.cr])::(obs sq++X))) wz9:=Mm.rowApp21 MP hgr V2 hg2
     have MB:Mm w0 ((B,[.int .i64 ((d.win:Nat):Int),.int .i64 (c+1),.slice d.sr d.Z.length d.cr])::(obs sv++(obs sq++X))) wz9:=M9.perm List.perm_middle
     have M_:Mm w0 [(B,[.int .i64 ((d.win:Nat):Int),.int .i64 (c+1),.slice d.sr d.Z.length d.cr])] wz9:=MB.sub _ (List.cons_sublist_cons.2 (List.nil_sublist _))
     refine onlyC (i:=12) (w':=wz9) (some 41) rfl _ (by kernel_rfl) rfl rfl (appendOp _ _ 61 _ _ _ rfl rfl rfl hr) M_ ?_; simp only [aP,lI,l0,lS]; clear hr hgr hg2 M MP M9 MQ T_b T_c P N_q o1 V2 M_; have M:=MB; clear MB; refine xqC 13 42 rfl (.pointer (some ⟨B,0,none⟩)) (fun _=>(by kernel_rfl)) (M.sub _ (List.cons_sublist_cons.2 (List.nil_sublist _))) ?_
     refine readC (i:=14) (some 43) rfl (.pointer (some ⟨B,2,none⟩)) rfl rfl (by kernel_rfl) rfl (fun _ M=>(by kernel_rfl)) (by kernel_rfl) (by kernel_rfl) (by kernel_rfl) (by kernel_rfl) (fun _ _ _ h=>h) (M.sub _ (List.cons_sublist_cons.2 (List.nil_sublist _))) ?_; simp only [aP,lI,l0,lS]
     refine skipC (S2:=fun _=>True) none rfl (by kernel_rfl) rfl rfl (storeAny (.slice sv (d.Z.length+1) cv) B 2 61 _ _ rfl rfl rfl rfl rfl (M.isSome mS 2 (by simp)) (M.free mS 2 (by simp)) (by kernel_rfl)) (by kernel_rfl) ?_; simp only [Act.put]; replace M:=M.set 2 (by simp) (.slice sv (d.Z.length+1) cv)
     replace OF:=OF.and1 ((Off.refl [B] _).set (b:=B) mS 2 (.slice sv (d.Z.length+1) cv)) (.inl mS); replace P2:=P2.off ((Off.refl [B] _).set (b:=B) mS 2 (.slice sv (d.Z.length+1) cv)) (fun b_ hb_=>by obtain rfl:=xm1 hb_; exact hBv) (fun b_ hb_=>by obtain rfl:=xm1 hb_; exact hBc2); generalize wz9.setCell ⟨B,2,none⟩ (.slice sv (d.Z.length+1) cv)=w10 at M OF P2 ⊢
     replace M:Mm w0 ((B,[.int .i64 ((d.win:Nat):Int),.int .i64 (c+1),.slice sv (d.Z.length+1) cv])::(obs sv++(obs sq++X))) w10:=M
     refine wpAnyH_done (by kernel_rfl) ?_ _
     have hno:=show Hid _ from (show ssn s id c now k=spx s id ({ d with top:=some c.toNat,Z:=d.Z++[((⟨c.toNat,smom now,k⟩:Rcd),sq,cq)],sr:=sv,cr:=cv }:Dfl).f by
      unfold ssn spx
      split
      · next f hf =>
        have e1:f=d.f:=by rw [hdf]; unfold sgf; rw [hf]; rfl
        have e2:smay f c=true:=by
         rw [e1]
         unfold smay
         rw [xbA,decide_eq_true_eq]
         refine ⟨⟨by omega,by omega⟩,?_⟩
         change (match d.top with | some t=>decide ((t:Int)<c) | none=>true)=true
         cases ht:d.top with
         | none=>rfl
         | some t=>rw [ht] at h1; simp only [pnx,decide_eq_true_eq] at h1 ⊢; omega
        rw [e2,if_pos rfl,hf,e1]
        show ({ s with L:=sput s.L id ⟨d.win,some c.toNat,d.Z.map Prod.fst++[(⟨c.toNat,smom now,k⟩:Rcd)]⟩ }:Sch)={ s with L:=sput s.L id ⟨d.win,some c.toNat,(d.Z++[((⟨c.toNat,smom now,k⟩:Rcd),sq,cq)]).map Prod.fst⟩ }
        rw [List.map_append]
        rfl
      · next hf=>rw [hf])
     have hPn:POK w10 { d with top:=some c.toNat,Z:=d.Z++[((⟨c.toNat,smom now,k⟩:Rcd),sq,cq)],sr:=sv,cr:=cv }:=⟨P2.V,P2.K⟩
     have M9:Mm w0 ((B,ppc { d with top:=some c.toNat,Z:=d.Z++[((⟨c.toNat,smom now,k⟩:Rcd),sq,cq)],sr:=sv,cr:=cv })::(obs sv++(obs sq++X))) w10:=by
      have e1:ppc { d with top:=some c.toNat,Z:=d.Z++[((⟨c.toNat,smom now,k⟩:Rcd),sq,cq)],sr:=sv,cr:=cv }=[.int .i64 ((d.win:Nat):Int),.int .i64 (c+1),.slice sv (d.Z.length+1) cv]:=by
       show [Value.int .i64 ((d.win:Nat):Int),.int .i64 (pnx (some c.toNat)),.slice sv (d.Z++[((⟨c.toNat,smom now,k⟩:Rcd),sq,cq)]).length cv]=_
       rw [show pnx (some c.toNat)=c+1 by show ((c.toNat:Nat):Int)+1=_; rw [Int.toNat_of_nonneg (by omega)],List.length_append]
       rfl
      rw [e1]
      exact M
     obtain ⟨E',hc1,hc2,hc3⟩:=Back.close hI hbk M1.out lb OF (d':={ d with top:=some c.toNat,Z:=d.Z++[((⟨c.toNat,smom now,k⟩:Rcd),sq,cq)],sr:=sv,cr:=cv }) rfl hPn (D:=obs sq) M9 (C':=obs sq++C) (fun q hq=>by
      have h1:q∈gks (d.Z++[((⟨c.toNat,smom now,k⟩:Rcd),sq,cq)]):=hq
      rw [gks_app] at h1
      rcases List.mem_append.1 h1 with h | h
      · exact List.mem_append_right _ (hck q h)
      · rw [gks_cons,show gks ([]:List (Rcd × Option Addr × Nat))=[] from rfl,List.append_nil] at h
        exact List.mem_append_left _ h) (fun q h=>List.mem_append_right _ h)
     exact ⟨rfl,.tuple #[],by kernel_rfl,obs sq,E',rfl,by rw [hno.out]; exact hc1,by rw [hno.out,pow_spx]; exact hc2,hc3⟩
theorem Mm.drop21 {w0 w:World} {a x b l:List (Nat × List Value)} (M:Mm w0 (a++(x++(b++l))) w):Mm w0 (a++(x++l)) w:=M.sub _ ((List.Sublist.refl _).append ((List.Sublist.refl _).append (List.sublist_append_right _ _)))
theorem Mm.behind21 {w0 w:World} {x T C l:List (Nat × List Value)} (M:Mm w0 (x++(T++(C++l))) w):Mm w0 (T++(C++(x++l))) w:=by
 have h1:=sw21 x (T++C) l; refine M.perm ?_
 simpa [List.append_assoc] using h1
theorem filt_fst (Z:List (Rcd × Option Addr × Nat)) (pr:Rcd→Bool):(Z.filter fun q=>pr q.1).map Prod.fst=(Z.map Prod.fst).filter pr:=by
 induction Z with
 | nil=>rfl
 | cons q Z ih =>
   rw [List.filter_cons,List.map_cons,List.filter_cons]
   cases pr q.1
   · exact ih
   · show _::_=_::_; rw [ih]
theorem flose_is (d:Dfl) (win:Nat) (pr:Rcd→Bool) (st:Option Addr) (ct:Nat) (Z:List (Rcd × Option Addr × Nat)) (n:Nat):(⟨n,lwn (Z.filter fun q=>pr q.1) win,d.top,Z.filter fun q=>!pr q.1,st,ct⟩:Dfl).f=flose d.f win ((Z.map Prod.fst).filter pr) ((Z.map Prod.fst).filter fun r=>!pr r):=by
 show Flg.mk _ _ _=Flg.mk _ _ _
 have e1:=filt_fst Z pr; have e2:=filt_fst Z (fun r=>!pr r)
 rw [e2]
 congr 1
 unfold lwn
 rw [← e1]
 by_cases h:(Z.filter fun q=>pr q.1)=[]
 · rw [if_pos h,h]; rfl
 · rw [if_neg h,if_neg (fun e=>h (List.map_eq_nil_iff.1 e))]
theorem vlat21_any (w0 w:World) (R:Nat) (p:Int) (m:Option Nat) (E:Pes) (C l:List (Nat × List Value)) (s:Sch) (hI:PIn w s p m E C) (hw:SchW s) (hsz_:ssz s<1000000000) (M:Mm w0 (pow R s p m E++(C++l)) w) (id:Int) (hid:i64 id) (now age:Int) :
 Calls Try.prog 21 #[.pointer (some ⟨R,0,none⟩),.int .i64 id,.int .i64 now,.int .i64 age] w fun e w'=>∃ sq cq E',e=.returned (.slice sq (slO s id now age).length cq)∧NewW w' w0.heap.size (slO s id now age) (.slice sq (slO s id now age).length cq)∧PIn w' (sla s id now age) p m E' C∧Mm w0 (pow R (sla s id now age) p m E'++(obs sq++(C++l))) w'∧Off ((pow R s p m E).map Prod.fst) w w':=by
 replace M:Mm w0 ((R,[.int .i64 p,.int .u64 (s.last+1),.map m])::((mbk m++gp E)++(C++l))) w:=M
 have lb_:=Below.refl w.heap.size w; have hlo1:=smom_le now; have hlo2:=smom_le age; have hRw:=M.lt mS
 go_enter Try.func21,Try.ntmps21
 go_upto_region 0 with fail; refine wp_region_list ?_; refine xpL (.slice none 0 0) ?_; refine xT ?_; go_upto_region 1 with fail; refine wp_region_list ?_; refine xpL (.int .i64 now) ?_; have key:=vclk21_any now w; refine xcL key ?_; clear key; rintro e w2 ⟨rfl,l_⟩; replace M:=M.call l_; replace lb_:=lb_.trans (l_.mono lb_.size)
 clear l_; refine xeL ?_; refine xpL (.int .i64 age) ?_; have key:=vclk21_any age w2; refine xcL key ?_; clear key; rintro e w4 ⟨rfl,l_⟩; replace M:=M.call l_; replace lb_:=lb_.trans (l_.mono lb_.size)
 clear l_; refine xeL ?_; refine readL (.int .i64 (((smom now:Nat):Int)-((smom age:Nat):Int))) rfl (subI .i64 _ _ _ _ _ _ _ rfl rfl rfl (by rw [xw6]; omega) _) ?_; simp only [aP,lI,l0,lS]; have hlz_:=lb_.size; refine actL (w':=w4.alloc (.cells #[.int .i64 0] 3)) (.pointer (some ⟨w4.heap.size,0,none⟩)) rfl (by kernel_rfl) ?_; simp only [aP,lI,l0,lS]
 have hlb:=(Below.refl w4.heap.size w4).alloc (xnR _) (.cells #[.int .i64 0] 3); replace lb_:=lb_.trans (hlb.mono lb_.size); clear hlb
 have hB_B5:w0.heap.size≤w4.heap.size:=M.below.size
 replace M:=M.box #[.int .i64 0] 3 w4.heap.size rfl; generalize w4.alloc (.cells #[.int .i64 0] 3)=w5 at M lb_ ⊢; generalize eB:w4.heap.size=B5 at M hB_B5  ⊢
 have hE_B5:w4.heap.size≤B5:=Nat.le_of_eq eB
 have hF_B5:B5≤w4.heap.size:=Nat.le_of_eq eB.symm
 clear eB
 replace M:Mm w0 ((B5,[.int .i64 0])::(R,[.int .i64 p,.int .u64 (s.last+1),.map m])::((mbk m++gp E)++(C++l))) w5:=M
 have hL_B5:w.heap.size≤B5:=by omega
 clear hlz_; refine skipOpL rfl (storeAny (.int .i64 (((smom now:Nat):Int)-((smom age:Nat):Int))) B5 0 3 _ _ rfl rfl rfl rfl rfl (M.isSome mS 0 (by simp)) (M.free mS 0 (by simp)) (by kernel_rfl)) ?_; simp only [Act.put]; replace M:=M.set 0 (by simp) (.int .i64 (((smom now:Nat):Int)-((smom age:Nat):Int)))
 replace lb_:Below w.heap.size w (w5.setCell ⟨B5,0,none⟩ (.int .i64 (((smom now:Nat):Int)-((smom age:Nat):Int)))):=below_setAll lb_ B5 (by omega) 0 [.int .i64 (((smom now:Nat):Int)-((smom age:Nat):Int))]
 generalize w5.setCell ⟨B5,0,none⟩ (.int .i64 (((smom now:Nat):Int)-((smom age:Nat):Int)))=w6 at M lb_ ⊢
 replace M:Mm w0 ((B5,[.int .i64 (((smom now:Nat):Int)-((smom age:Nat):Int))])::(R,[.int .i64 p,.int .u64 (s.last+1),.map m])::((mbk m++gp E)++(C++l))) w6:=M
 refine xT ?_; have hI2:=hI.below lb_
 have MA:Mm w0 (pow R s p m E++(C++([(B5,[.int .i64 (((smom now:Nat):Int)-((smom age:Nat):Int))])]++l))) w6:=Mm.behind21 (x:=[(B5,[.int .i64 (((smom now:Nat):Int)-((smom age:Nat):Int))])]) M
 clear M; go_upto_region 2 with fail; refine wp_region_list ?_; refine xpL (.pointer (some ⟨R,0,none⟩)) ?_; refine xpL (.int .i64 id) ?_; have key:=vat21_any w0 w6 R p m E C ([(B5,[.int .i64 (((smom now:Nat):Int)-((smom age:Nat):Int))])]++l) s hI2 MA id hid; refine xcL key ?_; clear key; rintro e w8 ⟨B,d,X,rfl,M',P,hdf,hck,lb,hbk⟩; clear MA
 have M:Mm w0 ((B,[.int .i64 ((d.win:Nat):Int),.int .i64 (pnx d.top),.slice d.sr d.Z.length d.cr])::(obs d.sr++X)) w8:=M'
 clear M'; refine xeL ?_; have hfw:=sgf_w hw id; have hlen:=sgf_len (s:=s) id
 rw [← hdf] at hfw hlen
 have hln1:d.Z.length≤ssz s:=by have h_:d.f.rs.length=d.Z.length:=List.length_map ..; omega
 have hln2:(sall (d.Z.map Prod.fst)).length≤ssz s:=by have h_:(sall d.f.rs).length=(sall (d.Z.map Prod.fst)).length:=rfl; omega
 have hap:=fun x (hx:x∈B::ob d.sr)=>Mm.apart2 (a:=(B,ppc d)::obs d.sr) (b:=X) M x (by rw [List.map_cons,obs_fst]; exact hx)
 have hBs:B∉ob d.sr:=fun hm=>by
  have:=(List.pairwise_cons.1 M.apart).1 (B,[]) (List.mem_append_left _ (List.mem_map.2 ⟨B,hm,rfl⟩))
  exact this rfl
 have hCX:∀ q∈C,q∈X:=fun q hq=>hbk.mem (List.mem_append_left _ hq)
 have hBc:B∉(gks d.Z).map Prod.fst:=fun hm=>by
  obtain ⟨q,hq,e⟩:=List.mem_map.1 hm
  exact hap B mS (e ▸ mem_bl (hCX q (hck q hq)))
 have hSc:∀ b∈ob d.sr,b∉(gks d.Z).map Prod.fst:=fun b hb hm=>by
  obtain ⟨q,hq,e⟩:=List.mem_map.1 hm
  exact hap b (mT _ hb) (e ▸ mem_bl (hCX q (hck q hq)))
 have OF:=Off.refl (B::ob d.sr) w8; have M1:=show Hid _ from (show Mm w0 ((B,ppc d)::(obs d.sr++X)) w8 from M)
 have hmX:(B5,[.int .i64 (((smom now:Nat):Int)-((smom age:Nat):Int))])∈X:=hbk.mem (List.mem_append_right _ (by simp))
 have c_l:w8.cell? ⟨B5,0,none⟩=some (.int .i64 (((smom now:Nat):Int)-((smom age:Nat):Int))):=(M.get (mT _ (List.mem_append_right _ hmX)) 0 _ rfl)
 refine xpL (.func (.func 45) #[] #[.pointer (some ⟨B5,0,none⟩)]) ?_
 have hF_:Clo21 w8 (.func (.func 45) #[] #[.pointer (some ⟨B5,0,none⟩)]) (slt now age) d.Z:=⟨_,_,rfl,.inr ⟨.inr rfl,_,rfl⟩,fun w' l_ q _=>vl1_any q B5 (((smom now:Nat):Int)-((smom age:Nat):Int)) w' (cell21 l_ c_l)⟩
 have key:=vlose21_any w0 w8 B d _ M P (by first | omega | exact hz2) (by first | omega | exact hs2) hfw.w2 hBc _ (slt now age) hF_; refine xcL key ?_; clear key; rintro e w9 ⟨sq,cq,s2,c2,rfl,V_q,V_l,M',o1⟩; have hsz1:=OF.size; replace OF:=OF.trans (o1.mono fun b hb=>by rw [xm1 hb]; exact mS)
 clear M hF_; refine xeL ?_; refine xpL (.slice sq ((sall ((d.Z.filter fun q=>(slt now age) q.1).map Prod.fst)).length) cq) ?_; refine xT ?_; have K_:=P.K.off (X:=[B]) o1 (fun b hb=>by obtain rfl:=xm1 hb; exact hBc)
 have hPn:POK w9 (⟨d.n,lwn (d.Z.filter fun q=>(slt now age) q.1) d.win,d.top,d.Z.filter fun q=>!(slt now age) q.1,s2,c2⟩:Dfl):=⟨ownsRow_mono21 V_l (Nat.zero_le _),K_.sub fun q hq=>(List.mem_filter.1 hq).1⟩
 have M9:Mm w0 ((B,ppc (⟨d.n,lwn (d.Z.filter fun q=>(slt now age) q.1) d.win,d.top,d.Z.filter fun q=>!(slt now age) q.1,s2,c2⟩:Dfl))::(obs s2++(obs sq++X))) w9:=by
  have h1:=M'.perm (perm_lose (obs sq) (obs s2) (obs d.sr) X _)
  exact h1.sub _ (List.sublist_append_right (obs d.sr) _)
 have hno:=show Hid _ from (show sla s id now age=spx s id (⟨d.n,lwn (d.Z.filter fun q=>(slt now age) q.1) d.win,d.top,d.Z.filter fun q=>!(slt now age) q.1,s2,c2⟩:Dfl).f by
  unfold sla spx
  split
  · next f hf =>
    have e1:f=d.f:=by rw [hdf]; unfold sgf; rw [hf]; rfl
    rw [flose_is,hf,e1]
    rfl
  · next hf=>rw [hf])
 have hso:=show Hid _ from (show slO s id now age=sall ((d.Z.filter fun q=>(slt now age) q.1).map Prod.fst) by
  have:slO s id now age=sall (slG (sgf s id) now age):=by unfold slO sgf; cases sfd s.L id <;> rfl
  rw [this,← hdf,filt_fst]
  rfl)
 have hN:=NewW.ofOwn21 (ownsRow_mono21 (b:=w0.heap.size) V_q (by have:=M1.out.below.size; omega))
 obtain ⟨E',hc1,hc2,hc3⟩:=Back.close hI2 hbk M1.out lb OF (d':=⟨d.n,lwn (d.Z.filter fun q=>(slt now age) q.1) d.win,d.top,d.Z.filter fun q=>!(slt now age) q.1,s2,c2⟩) rfl hPn (D:=obs sq) M9 (C':=C) (fun q hq=>hck q ((gks_sub List.filter_sublist).subset hq)) (fun _ h=>h)
 have hO3:=(Off.of_below lb_).trans hc3; have HS:=show Hid _ from (show PIn w9 (sla s id now age) p m E' C∧Mm w0 (pow R (sla s id now age) p m E'++(obs sq++(C++l))) w9 from ⟨by rw [hno.out]; exact hc1,by rw [hno.out,pow_spx]; exact hc2.sub _ ((List.Sublist.refl _).append ((List.Sublist.refl _).append ((List.Sublist.refl _).append (List.sublist_append_right _ _))))⟩)
 have HO:=show Hid _ from hO3; have HN:=show Hid _ from hN; clear M' M1 OF P V_q V_l K_ hPn M9 hc1 hc2 hc3 hO3 hbk hI hI2 hN c_l; go_wp2; go_ret
 rw [hso.out]
 exact ⟨sq,cq,E',rfl,HN.out,HS.out.1,HS.out.2,HO.out⟩
def gpr (top:Int) (k:List (Int × Int)) (r:Rcd):Bool:=stl r.c top k
theorem filt_two (Z:List (Rcd × Option Addr × Nat)) (pr:Rcd × Option Addr × Nat→Bool):(Z.filter pr).length+(Z.filter fun q=>!pr q).length=Z.length:=by
 induction Z with
 | nil=>rfl
 | cons q Z ih =>
   rw [List.filter_cons,List.filter_cons]
   cases pr q
   · simp only [Bool.false_eq_true,if_false,Bool.not_false,if_true,List.length_cons]; omega
   · simp only [if_true,Bool.not_true,Bool.false_eq_true,if_false,List.length_cons]; omega
theorem sgW_is (d:Dfl) (top:Int) (k:List (Int × Int)):((sgW d.f top k:Nat):Int)=min 32 (((d.win:Nat):Int)+(((d.Z.filter fun q=>gpr top k q.1).length:Nat):Int)):=by
 have h1:=filt_two d.Z (fun q=>gpr top k q.1)
 have h2:(sgL d.f top k).length=(d.Z.filter fun q=>!gpr top k q.1).length:=by
  unfold sgL
  show ((d.Z.map Prod.fst).filter fun r=>!gpr top k r).length=_
  rw [← filt_fst d.Z (fun r=>!gpr top k r),List.length_map]
 have h3:d.f.rs.length=d.Z.length:=List.length_map ..
 unfold sgW
 rw [h2,h3]
 show ((min 32 (d.win+(d.Z.length-_)):Nat):Int)=_
 omega
theorem vgot21_any (w0 w:World) (R:Nat) (p:Int) (m:Option Nat) (E:Pes) (C l:List (Nat × List Value)) (s:Sch) (hI:PIn w s p m E C) (hw:SchW s) (hsz_:ssz s<1000000000) (M:Mm w0 (pow R s p m E++(C++l)) w) (id:Int) (hid:i64 id) (top now:Int) (k:List (Int × Int)) (sk:Option Addr) (ck:Nat) (hk:k.length<140737488355328) (N:RgW w k (.slice sk k.length ck)) :
 Calls Try.prog 19 #[.pointer (some ⟨R,0,none⟩),.int .i64 id,.int .i64 top,.slice sk k.length ck,.int .i64 now] w fun e w'=>∃ sq cq E',e=.returned (.tuple #[.slice sq (sgO s id top k).length cq,.int .i64 (sgT s id top now)])∧NewW w' w0.heap.size (sgO s id top k) (.slice sq (sgO s id top k).length cq)∧PIn w' (sgt s id top k) p m E' C∧Mm w0 (pow R (sgt s id top k) p m E'++(obs sq++(C++l))) w'∧Off ((pow R s p m E).map Prod.fst) w w':=by
 replace M:Mm w0 ((R,[.int .i64 p,.int .u64 (s.last+1),.map m])::((mbk m++gp E)++(C++l))) w:=M
 have lb_:=Below.refl w.heap.size w; have hRw:=M.lt mS
 go_enter Try.func19,Try.ntmps19
 go_upto_region 0 with fail; refine wp_region_list ?_; have hlz_:=lb_.size; refine actL (w':=w.alloc (.cells #[.int .i64 top] 3)) (.pointer (some ⟨w.heap.size,0,none⟩)) rfl (by kernel_rfl) ?_; simp only [aP,lI,l0,lS]; have hlb:=(Below.refl w.heap.size w).alloc (xnR _) (.cells #[.int .i64 top] 3); replace lb_:=lb_.trans (hlb.mono lb_.size); replace N:=N.below hlb; clear hlb
 have hB_B1:w0.heap.size≤w.heap.size:=M.below.size
 replace M:=M.box #[.int .i64 top] 3 w.heap.size rfl; generalize w.alloc (.cells #[.int .i64 top] 3)=w1 at M lb_ N ⊢; generalize eB:w.heap.size=B1 at M hB_B1  ⊢
 have hE_B1:w.heap.size≤B1:=Nat.le_of_eq eB
 have hF_B1:B1≤w.heap.size:=Nat.le_of_eq eB.symm
 clear eB
 replace M:Mm w0 ((B1,[.int .i64 top])::(R,[.int .i64 p,.int .u64 (s.last+1),.map m])::((mbk m++gp E)++(C++l))) w1:=M
 have hL_B1:w.heap.size≤B1:=by omega
 clear hlz_; have hlz_:=lb_.size; refine actL (w':=w1.alloc (.cells #[.slice sk k.length ck] 28)) (.pointer (some ⟨w1.heap.size,0,none⟩)) rfl (by kernel_rfl) ?_; simp only [aP,lI,l0,lS]; have hlb:=(Below.refl w1.heap.size w1).alloc (xnR _) (.cells #[.slice sk k.length ck] 28); replace lb_:=lb_.trans (hlb.mono lb_.size); replace N:=N.below hlb; clear hlb
 have hB_B2:w0.heap.size≤w1.heap.size:=M.below.size
 replace M:=M.box #[.slice sk k.length ck] 28 w1.heap.size rfl; generalize w1.alloc (.cells #[.slice sk k.length ck] 28)=w2 at M lb_ N ⊢; generalize eB:w1.heap.size=B2 at M hB_B2  ⊢
 have hE_B2:w1.heap.size≤B2:=Nat.le_of_eq eB
 have hF_B2:B2≤w1.heap.size:=Nat.le_of_eq eB.symm
 clear eB
 replace M:Mm w0 ((B2,[.slice sk k.length ck])::(B1,[.int .i64 top])::(R,[.int .i64 p,.int .u64 (s.last+1),.map m])::((mbk m++gp E)++(C++l))) w2:=M
 have hL_B2:w.heap.size≤B2:=by omega
 clear hlz_; refine xpL (.slice none 0 0) ?_; refine xpL (.int .i64 0) ?_; refine xT ?_; have hI2:=hI.below lb_
 have MA:Mm w0 (pow R s p m E++(C++([(B2,[.slice sk k.length ck]),(B1,[.int .i64 top])]++l))) w2:=Mm.behind21 (x:=[(B2,[.slice sk k.length ck]),(B1,[.int .i64 top])]) M
 clear M; go_upto_region 1 with fail; refine wp_region_list ?_; refine xpL (.pointer (some ⟨R,0,none⟩)) ?_; refine xpL (.int .i64 id) ?_; have key:=vat21_any w0 w2 R p m E C ([(B2,[.slice sk k.length ck]),(B1,[.int .i64 top])]++l) s hI2 MA id hid; refine xcL key ?_; clear key; rintro e w4 ⟨B,d,X,rfl,M',P,hdf,hck,lb,hbk⟩; clear MA; replace N:=N.below lb
 have M:Mm w0 ((B,[.int .i64 ((d.win:Nat):Int),.int .i64 (pnx d.top),.slice d.sr d.Z.length d.cr])::(obs d.sr++X)) w4:=M'
 clear M'; refine xeL ?_; have hfw:=sgf_w hw id; have hlen:=sgf_len (s:=s) id
 rw [← hdf] at hfw hlen
 have hln1:d.Z.length≤ssz s:=by have h_:d.f.rs.length=d.Z.length:=List.length_map ..; omega
 have hln2:(sall (d.Z.map Prod.fst)).length≤ssz s:=by have h_:(sall d.f.rs).length=(sall (d.Z.map Prod.fst)).length:=rfl; omega
 have hap:=fun x (hx:x∈B::ob d.sr)=>Mm.apart2 (a:=(B,ppc d)::obs d.sr) (b:=X) M x (by rw [List.map_cons,obs_fst]; exact hx)
 have hBs:B∉ob d.sr:=fun hm=>by
  have:=(List.pairwise_cons.1 M.apart).1 (B,[]) (List.mem_append_left _ (List.mem_map.2 ⟨B,hm,rfl⟩))
  exact this rfl
 have hCX:∀ q∈C,q∈X:=fun q hq=>hbk.mem (List.mem_append_left _ hq)
 have hBc:B∉(gks d.Z).map Prod.fst:=fun hm=>by
  obtain ⟨q,hq,e⟩:=List.mem_map.1 hm
  exact hap B mS (e ▸ mem_bl (hCX q (hck q hq)))
 have hSc:∀ b∈ob d.sr,b∉(gks d.Z).map Prod.fst:=fun b hb hm=>by
  obtain ⟨q,hq,e⟩:=List.mem_map.1 hm
  exact hap b (mT _ hb) (e ▸ mem_bl (hCX q (hck q hq)))
 have OF:=Off.refl (B::ob d.sr) w4; have M1:=show Hid _ from (show Mm w0 ((B,ppc d)::(obs d.sr++X)) w4 from M)
 have hmT:(B1,[Value.int .i64 top])∈X:=hbk.mem (List.mem_append_right _ (by simp))
 have hmL:(B2,[Value.slice sk k.length ck])∈X:=hbk.mem (List.mem_append_right _ (by simp))
 have c_t:w4.cell? ⟨B1,0,none⟩=some (.int .i64 top):=(M.get (mT _ (List.mem_append_right _ hmT)) 0 _ rfl)
 have c_l:w4.cell? ⟨B2,0,none⟩=some (.slice sk k.length ck):=(M.get (mT _ (List.mem_append_right _ hmL)) 0 _ rfl)
 have hne_t:B1≠B:=fun e=>hap B mS (e ▸ mem_bl hmT)
 have hsw:=show Hid _ from sgW_is d top k
 have hBw:B<w4.heap.size:=M.lt mS
 refine xpL (.pointer (some ⟨B,0,none⟩)) ?_; refine xT ?_; go_upto_region 2 with fail; refine wp_region_list ?_; refine xpL (.pointer (some ⟨B,0,none⟩)) ?_; refine xpL (.func (.func 38) #[] #[.pointer (some ⟨B1,0,none⟩),.pointer (some ⟨B2,0,none⟩)]) ?_
 have hF_:Clo21 w4 (.func (.func 38) #[] #[.pointer (some ⟨B1,0,none⟩),.pointer (some ⟨B2,0,none⟩)]) (gpr top k) d.Z:=⟨_,_,rfl,.inl ⟨rfl,_,_,rfl⟩,fun w' l_ q _=>vg1_any q k sk ck hk B1 B2 top w' (cell21 l_ c_t) (cell21 l_ c_l) (N.below l_)⟩
 have hwB:=xnR w4.heap.size; have key:=vtake21_any w0 w4 B d _ M P.V (by omega) _ (gpr top k) hF_; refine xcL key ?_; clear key; rintro e w5 ⟨st,ct,sl,cl,rfl,V_t,V_l,M',o1⟩; replace OF:=OF.trans (o1.mono fun b hb=>by rw [xm1 hb]; exact mS); have K_:=P.K.off o1 (fun b hb=>by obtain rfl:=xm1 hb; exact hBc); replace c_t:=o1.cell c_t (fun hm_=>hne_t (xm1 hm_))
 clear o1 M P hF_ c_l N; refine xeL ?_
 have M:Mm w0 ((B,[.int .i64 ((d.win:Nat):Int),.int .i64 (pnx d.top),.slice sl ((d.Z.filter fun q=>!gpr top k q.1).length) cl])::(obs sl++(obs d.sr++X))) w5:=M'
 clear M'; have hTl:=List.length_filter_le (fun q:Rcd × Option Addr × Nat=>gpr top k q.1) d.Z; have hTl2:=List.length_filter_le (fun q:Rcd × Option Addr × Nat=>!gpr top k q.1) d.Z; have hTs2:=sall_sub ((List.filter_sublist (p:=fun q:Rcd × Option Addr × Nat=>!gpr top k q.1) (l:=d.Z)).map Prod.fst); refine xpL (.slice st ((d.Z.filter fun q=>gpr top k q.1).length) ct) ?_
 refine xT ?_; go_upto_region 3 with fail; refine wp_region_list ?_; refine xpL (.pointer (some ⟨B,0,none⟩)) ?_; refine xpL (.pointer (some ⟨B,0,none⟩)) ?_; refine xpL (.pointer (some ⟨B,0,none⟩)) ?_; refine xpL (.pointer (some ⟨B,0,none⟩)) ?_; refine xaL (.int .i64 ((d.win:Nat):Int)) (load1 3 _ ⟨B,0,none⟩ _ rfl rfl (fun _=>by kernel_rfl) (M.get mS 0 _ rfl)) ?_
 refine xpL (.slice st ((d.Z.filter fun q=>gpr top k q.1).length) ct) ?_; refine readL (.int .i64 (((d.Z.filter fun q=>gpr top k q.1).length:Nat):Int)) rfl (lenS _ 61 72 st ((d.Z.filter fun q=>gpr top k q.1).length) ct rfl Try.underlying61 rfl _) ?_; simp only [aP,lI,l0,lS]
 refine readL (.int .i64 (((d.win:Nat):Int)+(((d.Z.filter fun q=>gpr top k q.1).length:Nat):Int))) rfl (addI .i64 _ _ _ _ _ _ _ rfl rfl rfl (by have:=hfw.w2; rw [xw6]; simp only [Dfl.f] at this; omega) _) ?_; simp only [aP,lI,l0,lS]; refine xaL (.int .i64 ((sgW d.f top k:Nat):Int)) (minI .i64 .i64 _ _ _ _ _ _ _ rfl rfl rfl (by have h_:=hsw.out; split <;> omega) _) ?_
 refine xpL (.pointer (some ⟨B,0,none⟩)) ?_; refine xpL (.pointer (some ⟨B,0,none⟩)) ?_; refine skipOpL rfl (storeAny (.int .i64 ((sgW d.f top k:Nat):Int)) B 0 3 _ _ rfl rfl rfl rfl rfl (M.isSome mS 0 (by simp)) (M.free mS 0 (by simp)) (by kernel_rfl)) ?_; simp only [Act.put]; replace M:=M.set 0 (by simp) (.int .i64 ((sgW d.f top k:Nat):Int))
 replace OF:=OF.and1 ((Off.refl [B] _).set (b:=B) mS 0 (.int .i64 ((sgW d.f top k:Nat):Int))) (.inl mS); replace V_t:=ownsRow_away V_t ((Off.refl [B] _).set (b:=B) mS 0 (.int .i64 ((sgW d.f top k:Nat):Int))) (fun b_ hb_ hm_=>by obtain rfl:=xm1 hb_; have:=(World.ownsRow.lt V_t _ ((ob_own _ _ _ _).2 hm_)).1; omega)
 replace V_l:=ownsRow_away V_l ((Off.refl [B] _).set (b:=B) mS 0 (.int .i64 ((sgW d.f top k:Nat):Int))) (fun b_ hb_ hm_=>by obtain rfl:=xm1 hb_; have:=(World.ownsRow.lt V_l _ ((ob_own _ _ _ _).2 hm_)).1; omega); replace K_:=K_.off ((Off.refl [B] _).set (b:=B) mS 0 (.int .i64 ((sgW d.f top k:Nat):Int))) (fun b hb=>by obtain rfl:=xm1 hb; exact hBc)
 replace c_t:=((Off.refl [B] _).set (b:=B) mS 0 (.int .i64 ((sgW d.f top k:Nat):Int))).cell c_t (fun hm_=>hne_t.symm (xm1 hm_).symm); generalize w5.setCell ⟨B,0,none⟩ (.int .i64 ((sgW d.f top k:Nat):Int))=w6 at M OF V_t V_l K_ c_t ⊢
 replace M:Mm w0 ((B,[.int .i64 ((sgW d.f top k:Nat):Int),.int .i64 (pnx d.top),.slice sl ((d.Z.filter fun q=>!gpr top k q.1).length) cl])::(obs sl++(obs d.sr++X))) w6:=M
 refine xT ?_
 have hP1:POK w6 (⟨d.n,sgW d.f top k,d.top,(d.Z.filter fun q=>!gpr top k q.1),sl,cl⟩:Dfl):=⟨ownsRow_mono21 V_l (Nat.zero_le _),K_.sub fun q hq=>(List.mem_filter.1 hq).1⟩
 have hz2:(⟨d.n,sgW d.f top k,d.top,(d.Z.filter fun q=>!gpr top k q.1),sl,cl⟩:Dfl).Z.length<1000000000:=by show (d.Z.filter fun q=>!gpr top k q.1).length<_; omega
 have hs2:(sall ((⟨d.n,sgW d.f top k,d.top,(d.Z.filter fun q=>!gpr top k q.1),sl,cl⟩:Dfl).Z.map Prod.fst)).length<1000000000:=by show (sall ((d.Z.filter fun q=>!gpr top k q.1).map Prod.fst)).length<_; omega
 have hw1:(⟨d.n,sgW d.f top k,d.top,(d.Z.filter fun q=>!gpr top k q.1),sl,cl⟩:Dfl).win≤32:=by show sgW d.f top k≤32; unfold sgW; omega
 go_upto_region 4 with fail; refine wp_region_list ?_; refine xpL (.pointer (some ⟨B,0,none⟩)) ?_; refine xpL (.func (.func 41) #[] #[.pointer (some ⟨B1,0,none⟩)]) ?_
 have hso:=show Hid _ from (show sgO s id top k=sall (((d.Z.filter fun q=>!gpr top k q.1).filter fun q=>(sold top) q.1).map Prod.fst) by
  have:sgO s id top k=sall (sgG (sgf s id) top k):=by unfold sgO sgf; cases sfd s.L id <;> rfl
  rw [this,← hdf,filt_fst,filt_fst d.Z (fun r=>!gpr top k r)]
  rfl)
 have hF_:Clo21 w6 (.func (.func 41) #[] #[.pointer (some ⟨B1,0,none⟩)]) (sold top) (d.Z.filter fun q=>!gpr top k q.1):=⟨_,_,rfl,.inr ⟨.inl rfl,_,rfl⟩,fun w' l_ q hq=>vg2_any q (hfw.rc q.1 (List.mem_map.2 ⟨q,(List.mem_filter.1 hq).1,rfl⟩)).1 B1 top w' (cell21 l_ c_t)⟩
 have key:=vlose21_any w0 w6 B (⟨d.n,sgW d.f top k,d.top,(d.Z.filter fun q=>!gpr top k q.1),sl,cl⟩:Dfl) _ M hP1 (by first | omega | exact hz2) (by first | omega | exact hs2) hw1 (fun hm=>hBc (((gks_sub List.filter_sublist).map Prod.fst).subset hm)) _ (sold top) hF_; refine xcL key ?_; clear key; rintro e w7 ⟨sq,cq,s2,c2,rfl,V_q,V_l2,M',o1⟩; have hsz1:=OF.size
 replace OF:=OF.trans (o1.mono fun b hb=>by rw [xm1 hb]; exact mS); have hbq:=OF.size; replace c_t:=o1.cell c_t (fun hm_=>hne_t (xm1 hm_)); replace V_t:=ownsRow_away V_t o1 (fun b_ hb_ hm_=>by obtain rfl:=xm1 hb_; have:=(World.ownsRow.lt V_t _ ((ob_own _ _ _ _).2 hm_)).1; omega); replace K_:=K_.off o1 (fun b hb=>by obtain rfl:=xm1 hb; exact hBc); clear V_l
 rw [← hso.out]
 rw [← hso.out] at V_q
 clear M hF_; refine xeL ?_; clear hP1; refine xpL (.slice sq ((sgO s id top k).length) cq) ?_; refine xT ?_; have M:=M'; go_upto_region 5 with fail; have hdr:=(Below.refl w7.heap.size w7).drew; replace M:=M.drew; replace OF:=OF.below hdr; replace V_t:=ownsRow_bel V_t hdr; replace V_q:=ownsRow_bel V_q hdr; replace V_l2:=ownsRow_bel V_l2 hdr; replace K_:=K_.below hdr
 replace c_t:=cell21 hdr c_t; clear hdr; refine wp_region_held_drew (S:=fun w'=>w'.cell? ⟨B1,0,none⟩=some (.int .i64 top)) (by kernel_rfl) c_t ?_; intro _; generalize w7.drew=w8 at M OF V_t V_q V_l2 K_ c_t ⊢; refine xrH 0 34 rfl (.slice sq ((sgO s id top k).length) cq) (fun _ c_t=>(by kernel_rfl)) c_t ?_
 refine xrH 1 35 rfl (.slice st ((d.Z.filter fun q=>gpr top k q.1).length) ct) (fun _ c_t=>(by kernel_rfl)) c_t ?_; refine xrH 2 36 rfl (.int .i64 top) (fun _ c_t=>load1 3 _ ⟨B1,0,none⟩ _ rfl rfl (fun _=>by kernel_rfl) (c_t)) c_t ?_; refine xrH 3 37 rfl (.int .i64 now) (fun _ c_t=>(by kernel_rfl)) c_t ?_; have key:=vclk21_any now w8
 refine callH (i:=4) (some 38) rfl (by kernel_rfl) rfl rfl (fun _=>by kernel_rfl) key ?_; clear key; rintro e w10 ⟨rfl,l_⟩; replace M:=M.call l_; replace OF:=OF.below l_; replace V_t:=ownsRow_bel V_t l_; replace V_q:=ownsRow_bel V_q l_; replace V_l2:=ownsRow_bel V_l2 l_; replace K_:=K_.below l_; replace c_t:=cell21 l_ c_t
 clear l_
 refine ⟨_,rfl,c_t,?_⟩
 simp only [aP,lI,l0,lS]; have key:=vtk21_any _ (d.Z.filter fun q=>gpr top k q.1) st ct (by omega) (fun q hq=>(hfw.rc q.1 (List.mem_map.2 ⟨q,(List.mem_filter.1 hq).1,rfl⟩)).2.1) top ((smom now:Nat):Int) (by have:=smom_le now; omega) w10 V_t; refine callH (i:=5) (some 39) rfl (by kernel_rfl) rfl rfl (fun _=>by kernel_rfl) key ?_; clear key; rintro e w12 ⟨rfl,l_⟩
 replace M:=M.call l_; replace OF:=OF.below l_; replace V_t:=ownsRow_bel V_t l_; replace V_q:=ownsRow_bel V_q l_; replace V_l2:=ownsRow_bel V_l2 l_; replace K_:=K_.below l_; replace c_t:=cell21 l_ c_t
 clear l_
 refine ⟨_,rfl,c_t,?_⟩
 simp only [aP,lI,l0,lS]; refine xrH 6 10 rfl (.slice sq ((sgO s id top k).length) cq) (fun _ c_t=>(by kernel_rfl)) c_t ?_; refine xrH 7 11 rfl (.int .i64 (tkr top ((smom now:Nat):Int) ((d.Z.filter fun q=>gpr top k q.1).map Prod.fst))) (fun _ c_t=>(by kernel_rfl)) c_t ?_
 refine wpAnyH_done (by kernel_rfl) ?_ _
 first | show Exit.then _ _ _ _ _ | show Exit.inBlock _ _ _ _ _
 have hPn:POK w12 (⟨d.n,lwn ((d.Z.filter fun q=>!gpr top k q.1).filter fun q=>(sold top) q.1) (sgW d.f top k),d.top,(d.Z.filter fun q=>!gpr top k q.1).filter fun q=>!(sold top) q.1,s2,c2⟩:Dfl):=⟨ownsRow_mono21 V_l2 (Nat.zero_le _),K_.sub fun q hq=>(List.mem_filter.1 (List.mem_filter.1 hq).1).1⟩
 have M9:Mm w0 ((B,ppc (⟨d.n,lwn ((d.Z.filter fun q=>!gpr top k q.1).filter fun q=>(sold top) q.1) (sgW d.f top k),d.top,(d.Z.filter fun q=>!gpr top k q.1).filter fun q=>!(sold top) q.1,s2,c2⟩:Dfl))::(obs s2++(obs sq++X))) w12:=by
  have h1:=M.perm (perm_lose (obs sq) (obs s2) (obs sl) (obs d.sr++X) _); have h2:=h1.sub _ (List.sublist_append_right (obs sl) _)
  exact Mm.drop21 (a:=[_]) (x:=obs s2++obs sq) (b:=obs d.sr) (by simpa [List.append_assoc] using h2) |> fun h=>by simpa [List.append_assoc] using h
 have hno:=show Hid _ from (show sgt s id top k=spx s id (⟨d.n,lwn ((d.Z.filter fun q=>!gpr top k q.1).filter fun q=>(sold top) q.1) (sgW d.f top k),d.top,(d.Z.filter fun q=>!gpr top k q.1).filter fun q=>!(sold top) q.1,s2,c2⟩:Dfl).f by
  unfold sgt spx
  split
  · next f hf =>
    have e1:f=d.f:=by rw [hdf]; unfold sgf; rw [hf]; rfl
    rw [flose_is,hf,e1,filt_fst d.Z (fun r=>!gpr top k r)]
    rfl
  · next hf=>rw [hf])
 have hst:=show Hid _ from (show sgT s id top now=tkr top ((smom now:Nat):Int) ((d.Z.filter fun q=>gpr top k q.1).map Prod.fst) by
  have:sgT s id top now=stk top now (sgf s id).rs:=by unfold sgT sgf; cases sfd s.L id <;> rfl
  rw [this,← hdf,filt_fst d.Z (gpr top k)]
  exact stk_tkr top now _ (fun r hr=>by show stl r.c top k=true; unfold stl; rw [beq_iff_eq.2 hr,Bool.or_true]) _ hfw.up)
 have hN:=NewW.ofOwn21 (ownsRow_mono21 (b:=w0.heap.size) V_q (by have:=M1.out.below.size; omega))
 obtain ⟨E',hc1,hc2,hc3⟩:=Back.close hI2 hbk M1.out lb OF (d':=(⟨d.n,lwn ((d.Z.filter fun q=>!gpr top k q.1).filter fun q=>(sold top) q.1) (sgW d.f top k),d.top,(d.Z.filter fun q=>!gpr top k q.1).filter fun q=>!(sold top) q.1,s2,c2⟩:Dfl)) rfl hPn (D:=obs sq) M9 (C':=C) (fun q hq=>hck q ((gks_sub (List.filter_sublist.trans List.filter_sublist)).subset hq)) (fun _ h=>h)
 have hO3:=(Off.of_below lb_).trans hc3; have HS:=show Hid _ from (show PIn w12 (sgt s id top k) p m E' C∧Mm w0 (pow R (sgt s id top k) p m E'++(obs sq++(C++l))) w12 from ⟨by rw [hno.out]; exact hc1,by rw [hno.out,pow_spx]; exact hc2.sub _ ((List.Sublist.refl _).append ((List.Sublist.refl _).append ((List.Sublist.refl _).append (List.sublist_append_right _ _))))⟩)
 have HO:=show Hid _ from hO3; have HN:=show Hid _ from hN; clear M M' M1 OF V_q V_l2 V_t K_ hPn M9 hc1 hc2 hc3 hO3 hbk hI hI2 hN c_t; go_wp2; go_ret2
 rw [hst.out]
 first | exact ⟨sq,cq,rfl,HN.out,E',HS.out.1,HS.out.2,HO.out⟩ | exact ⟨sq,cq,E',rfl,HN.out,HS.out.1,HS.out.2,HO.out⟩
theorem SrcI.atE21 {w:World} {sp:Option Addr} {n:Nat} {f:Nat→Int} (h:SrcI w sp n f) {ad:Addr} (hsp:sp=some ad) {j:Nat} (hj:j<n):w.cell? (ad.add j)=some (.int .i64 (f j)):=by
 subst hsp
 exact h.at j hj
theorem SrcI.some21 {w:World} {sp:Option Addr} {n:Nat} {f:Nat→Int} (h:SrcI w sp n f) (hn:0<n):∃ ad,sp=some ad:=by
 obtain ⟨ad,e,_⟩:=h 0 hn
 exact ⟨ad,e⟩
theorem SrcI.old21 {w:World} {sp:Option Addr} {n:Nat} {f:Nat→Int} (h:SrcI w sp n f) (hn:0<n):∀ b∈ob sp,b<w.heap.size:=fun b hb=>by
 obtain ⟨ad,rfl,hc⟩:=h 0 hn
 have h1:=World.block_lt_of_cell? w _ hc
 rw [add_block] at h1
 obtain rfl:=xm1 hb
 exact h1
theorem bl_i64 {l:List Int} (h:∀ x∈l,i64 x) (j:Nat):i64 (bl l j):=by
 unfold bl
 rw [List.getD_eq_getElem?_getD]
 cases e:l[j]? with
 | none=>show i64 0; unfold i64; decide
 | some x=>exact h x (List.mem_of_getElem? e)
theorem sav_is (s:Sch) (id:Int):sav s id=decide ((sgf s id).rs.length<(sgf s id).win):=by
 unfold sav sgf
 cases sfd s.L id <;> rfl
theorem idxI21 (ad:Addr) (len cap i:Nat) (hi:i<len) {o:Oper} {a:Act} (x y:Operand) (ho:o.op=.indexAddr 29 x y) (hx:a.eval x=.slice (some ad) len cap) (hy:a.eval y=.int .i64 (i:Int)) (w:World):(execOp a.eval o).run Try.prog w=.ok (.value (.pointer (some (ad.add i)))) w:=by
 have h:=idxSm 29 3 len cap 1 .i64 ad i x y Try.underlying29 (fun _=>by kernel_rfl) hi ho hx hy w
 rw [Nat.mul_one] at h
 exact h
theorem bl_over {l:List Int} {i:Nat} (h:l.length≤i):bl l i=0:=by
 unfold bl
 rw [List.getD_eq_getElem?_getD,List.getElem?_eq_none h]
 rfl
def ahd (s:Sch) (x:Int):Int:=if s.last<x then x-s.last-1 else 18446744073709551616+x-s.last-1
def plt (s:Sch) (a r:List Int) (i j:Nat):Bool:=if s.tu=true then decide (ahd s (bl a i)<ahd s (bl a j)) else decide (bl r i<bl r j)
def Pst (s:Sch) (a r:List Int) (i:Nat) (best:Int):Prop :=
 (best=-1∧spk s a r i=(-1,0))∨∃ j:Nat,j<i∧best=(j:Int)∧0≤bl a j∧bl a j<9223372036854775808∧(spk s a r i).1=bl a j∧(s.tu=false→(spk s a r i).2=bl r j)
theorem Pst.skip {s:Sch} {a r:List Int} {i:Nat} {best:Int} (h:Pst s a r i best) (hs:sav s (bl a i)=false):Pst s a r (i+1) best:=by
 have e:spk s a r (i+1)=spk s a r i:=by show spb s _ _ _=_; unfold spb; rw [hs,if_neg (by decide)]
 unfold Pst
 rw [e]
 rcases h with h | ⟨j,h1,h2⟩
 · exact .inl h
 · exact .inr ⟨j,by omega,h2⟩
theorem Pst.takes {s:Sch} (hw:SchW s) {a r:List Int} {i:Nat} {best:Int} (h:Pst s a r i best) (hs:sav s (bl a i)=true) (hb:best<0∨∃ j:Nat,best=(j:Int)∧plt s a r i j=true):Pst s a r (i+1) (i:Int):=by
 have hin:=sav_in hw hs; have hl1:=hw.l1
 refine .inr ⟨i,by omega,rfl,hin.1,hin.2,?_⟩
 show (spb s (spk s a r i) (bl a i) (bl r i)).1=_∧(_→(spb s (spk s a r i) (bl a i) (bl r i)).2=_)
 unfold spb
 rw [hs,if_pos rfl]
 rcases h with ⟨h1,h2⟩ | ⟨j,h1,h2,h3,h4,h5,h6⟩
 · rw [h2]
   by_cases t:s.tu=true
   · rw [if_pos t,if_pos (.inl (by show (-1:Int)<0; decide))]
     exact ⟨rfl,fun e=>by rw [t] at e; cases e⟩
   · rw [if_neg t,if_pos (.inl (by show (-1:Int)<0; decide))]
     exact ⟨rfl,fun _=>rfl⟩
 · obtain hb | ⟨j',e,hp⟩:=hb
   · omega
   · obtain rfl:j'=j:=by omega
     unfold plt at hp
     by_cases t:s.tu=true
     · rw [if_pos t] at hp ⊢
       have hp:=of_decide_eq_true hp
       unfold ahd at hp
       rw [h5,if_pos (by split at hp <;> split at hp <;> omega)]
       exact ⟨rfl,fun e=>by rw [t] at e; cases e⟩
     · rw [if_neg t] at hp ⊢
       have hp:=of_decide_eq_true hp
       have t':s.tu=false:=by cases h:s.tu with | true=>exact absurd h t | false=>rfl
       rw [h6 t',if_pos (.inr hp)]
       exact ⟨rfl,fun _=>rfl⟩
theorem Pst.keeps {s:Sch} (hw:SchW s) {a r:List Int} {i:Nat} {j:Nat} (h:Pst s a r i (j:Int)) (hs:sav s (bl a i)=true) (hp:plt s a r i j=false):Pst s a r (i+1) (j:Int):=by
 have hin:=sav_in hw hs; have hl1:=hw.l1
 rcases h with ⟨h1,h2⟩ | ⟨j',h1,h2,h3,h4,h5,h6⟩
 · omega
 · obtain rfl:j=j':=by omega
   have e:spk s a r (i+1)=spk s a r i:=by
    show spb s (spk s a r i) (bl a i) (bl r i)=_
    unfold spb
    rw [hs,if_pos rfl]
    unfold plt at hp
    by_cases t:s.tu=true
    · rw [if_pos t] at hp ⊢
      have hp:=of_decide_eq_false hp
      unfold ahd at hp
      rw [h5,if_neg (by split at hp <;> split at hp <;> omega)]
    · rw [if_neg t] at hp ⊢
      have hp:=of_decide_eq_false hp
      have t':s.tu=false:=by cases h:s.tu with | true=>exact absurd h t | false=>rfl
      rw [h6 t',h5,if_neg (by omega)]
   refine .inr ⟨j,by omega,rfl,h3,h4,?_⟩
   rw [e]
   exact ⟨h5,h6⟩
theorem vroom21_any (w:World) (B:Nat) (n win:Nat) (sr:Option Addr) (cr:Nat) (c0:w.cell? ⟨B,0,none⟩=some (.int .i64 (win:Int))) (c2:w.cell? ⟨B,2,none⟩=some (.slice sr n cr)) :
 Calls Try.prog 47 #[.pointer (some ⟨B,0,none⟩)] w fun e w'=>e=.returned (.bool (decide (n<win)))∧Below w.heap.size w w':=by
 have M:=Mm.init w
 go_enter Try.func47,Try.ntmps47
 go_upto_region 0 with fail; refine wp_region_list ?_; refine xpL (.bool false) ?_; refine xT ?_; go_upto_region 1 with fail; have hdr:=(Below.refl w.heap.size w).drew; replace M:=M.drew; clear hdr; refine wp_region_held_drew (S:=fun w'=>Below w.heap.size w w') (by kernel_rfl) M.below ?_; intro _; generalize w.drew=w1 at M ⊢
 refine xrH 0 3 rfl (.pointer (some ⟨B,0,none⟩)) (fun _ hS=>(by kernel_rfl)) M.below ?_; refine xrH 1 4 rfl (.pointer (some ⟨B,0,none⟩)) (fun _ hS=>(by kernel_rfl)) M.below ?_; refine xrH 2 5 rfl (.pointer (some ⟨B,2,none⟩)) (fun _ hS=>(by kernel_rfl)) M.below ?_
 refine xrH 3 6 rfl (.slice sr n cr) (fun _ hS=>load1 61 _ ⟨B,2,none⟩ _ rfl rfl (fun _=>by kernel_rfl) (cell21 hS c2)) M.below ?_; refine xrH 4 7 rfl (.int .i64 ((n:Nat):Int)) (fun _ hS=>lenS _ 61 72 sr n cr rfl Try.underlying61 rfl _) M.below ?_; refine xrH 5 8 rfl (.pointer (some ⟨B,0,none⟩)) (fun _ hS=>(by kernel_rfl)) M.below ?_
 refine xrH 6 9 rfl (.pointer (some ⟨B,0,none⟩)) (fun _ hS=>(by kernel_rfl)) M.below ?_; refine xrH 7 10 rfl (.pointer (some ⟨B,0,none⟩)) (fun _ hS=>(by kernel_rfl)) M.below ?_; refine xrH 8 11 rfl (.int .i64 ((win:Nat):Int)) (fun _ hS=>load1 3 _ ⟨B,0,none⟩ _ rfl rfl (fun _=>by kernel_rfl) (cell21 hS c0)) M.below ?_
 refine xrH 9 12 rfl (.bool (decide (n<win))) (fun _ hS=>lssI .i64 _ _ _ _ _ _ rfl rfl rfl (decide (n<win)) (by rw [decide_eq_decide]; omega) _) M.below ?_; refine xrH 10 2 rfl (.bool (decide (n<win))) (fun _ hS=>(by kernel_rfl)) M.below ?_
 refine wpAnyH_done (by kernel_rfl) ?_ _
 first | show Exit.then _ _ _ _ _ | show Exit.inBlock _ _ _ _ _
 have hbel:=M.below; clear M ; go_wp2; go_ret
 exact ⟨rfl,hbel⟩
theorem vtat21_any (r:List Int) (sr:Option Addr) (cr:Nat) (hrl:r.length<140737488355328) (w:World) (Sr:SrcI w sr r.length (bl r)) (i:Nat) :
 Calls Try.prog 52 #[.slice sr r.length cr,.int .i64 (i:Int)] w fun e w'=>e=.returned (.int .i64 (bl r i))∧Below w.heap.size w w':=by
 have M:=Mm.init w
 go_enter Try.func52,Try.ntmps52
 go_upto_region 0 with fail; refine wp_region_list ?_; refine xpL (.int .i64 0) ?_; refine xT ?_
 by_cases hir:i<r.length
 · go_upto_region 1 with fail
   refine wp_region_list ?_; refine xpL (.int .i64 (i:Int)) ?_; refine xpL (.slice sr r.length cr) ?_; refine xaL (.int .i64 ((r.length:Nat):Int)) (lenS _ 29 3 sr r.length cr rfl Try.underlying29 rfl _) ?_; refine xaL (.bool true) (lssI .i64 _ _ _ _ _ _ rfl rfl rfl true (decide_eq_true (by omega)) _) ?_; refine xT ?_
   obtain ⟨adr,hadr⟩:=SrcI.some21 Sr (by omega)
   subst hadr; go_upto_region 2 with fail; refine wp_region_list ?_; refine xpL (.slice (some adr) r.length cr) ?_; refine xpL (.int .i64 (i:Int)) ?_; refine xaL (.pointer (some (adr.add i))) (idxI21 adr _ _ i hir _ _ rfl rfl rfl _) ?_; refine xaL (.int .i64 (bl r i)) (load1 3 _ (adr.add i) _ rfl rfl (fun _=>by kernel_rfl) ((Sr.below M.below (xnR _)).atE21 rfl hir)) ?_
   refine xpL (.int .i64 (bl r i)) ?_; refine xT ?_; have hbel:=M.below; clear M ; go_wp2; go_ret
   exact ⟨rfl,hbel⟩
 · go_upto_region 1 with fail
   refine wp_region_list ?_; refine xpL (.int .i64 (i:Int)) ?_; refine xpL (.slice sr r.length cr) ?_; refine xaL (.int .i64 ((r.length:Nat):Int)) (lenS _ 29 3 sr r.length cr rfl Try.underlying29 rfl _) ?_; refine xaL (.bool false) (lssI .i64 _ _ _ _ _ _ rfl rfl rfl false (decide_eq_false (by omega)) _) ?_; refine xT ?_; go_upto_region 3 with fail; refine wp_region_list ?_
   refine xpL (.int .i64 0) ?_; refine xT ?_; have hE:=show Hid _ from (show bl r i=0 from bl_over (by omega)); have hbel:=M.below; clear M ; go_wp2; go_ret
   exact ⟨by rw [hE.out]; try rfl,hbel⟩
theorem vr1_any (r:List Int) (sr:Option Addr) (cr:Nat) (hrl:r.length<140737488355328) (c:Nat) (w:World) (hc:w.cell? ⟨c,0,none⟩=some (.slice sr r.length cr)) (Sr:SrcI w sr r.length (bl r)) (i j:Nat) :
 Calls Try.prog 51 #[.int .i64 (i:Int),.int .i64 (j:Int),.pointer (some ⟨c,0,none⟩)] w fun e w'=>e=.returned (.bool (decide (bl r i<bl r j)))∧Below w.heap.size w w':=by
 have M:=Mm.init w
 go_enter Try.func51,Try.ntmps51
 go_upto_region 0 with fail; refine wp_region_list ?_; refine xpL (.bool false) ?_; refine xT ?_; go_upto_region 1 with fail; have hdr:=(Below.refl w.heap.size w).drew; replace M:=M.drew; clear hdr; refine wp_region_held_drew (S:=fun w'=>Below w.heap.size w w') (by kernel_rfl) M.below ?_; intro _; generalize w.drew=w1 at M ⊢
 refine xrH 0 6 rfl (.slice sr r.length cr) (fun _ hS=>load1 29 _ ⟨c,0,none⟩ _ rfl rfl (fun _=>by kernel_rfl) (cell21 hS hc)) M.below ?_; refine xrH 1 7 rfl (.int .i64 (i:Int)) (fun _ hS=>(by kernel_rfl)) M.below ?_; refine xrH 3 9 rfl (.slice sr r.length cr) (fun _ hS=>load1 29 _ ⟨c,0,none⟩ _ rfl rfl (fun _=>by kernel_rfl) (cell21 hS hc)) M.below ?_
 refine xrH 4 10 rfl (.int .i64 (j:Int)) (fun _ hS=>(by kernel_rfl)) M.below ?_; have key:=vtat21_any r sr cr hrl w1 (Sr.below M.below (xnR _)) i; refine callH (i:=2) (some 8) rfl (by kernel_rfl) rfl rfl (fun _=>by kernel_rfl) key ?_; clear key; rintro e w3 ⟨rfl,l_⟩; replace M:=M.call l_
 clear l_
 refine ⟨_,rfl,M.below,?_⟩
 simp only [aP,lI,l0,lS]; have key:=vtat21_any r sr cr hrl w3 (Sr.below M.below (xnR _)) j; refine callH (i:=5) (some 11) rfl (by kernel_rfl) rfl rfl (fun _=>by kernel_rfl) key ?_; clear key; rintro e w5 ⟨rfl,l_⟩; replace M:=M.call l_
 clear l_
 refine ⟨_,rfl,M.below,?_⟩
 simp only [aP,lI,l0,lS]; refine xrH 6 12 rfl (.bool (decide (bl r i<bl r j))) (fun _ hS=>lssI .i64 _ _ _ _ _ _ rfl rfl rfl (decide (bl r i<bl r j)) rfl _) M.below ?_; refine xrH 7 5 rfl (.bool (decide (bl r i<bl r j))) (fun _ hS=>(by kernel_rfl)) M.below ?_
 refine wpAnyH_done (by kernel_rfl) ?_ _
 first | show Exit.then _ _ _ _ _ | show Exit.inBlock _ _ _ _ _
 have hbel:=M.below; clear M ; go_wp2; go_ret
 exact ⟨rfl,hbel⟩
theorem vr2_any (a:List Int) (sa:Option Addr) (ca:Nat) (hal:a.length<140737488355328) (s:Sch) (hw:SchW s) (R c d:Nat) (w:World) (hc:w.cell? ⟨c,0,none⟩=some (.slice sa a.length ca)) (hd:w.cell? ⟨d,0,none⟩=some (.pointer (some ⟨R,0,none⟩))) (hR:w.cell? ⟨R,1,none⟩=some (.int .u64 (s.last+1))) (Sa:SrcI w sa a.length (bl a)) (i:Nat) (hi:i<a.length) (hx:0≤bl a i∧bl a i<9223372036854775808) :
 Calls Try.prog 53 #[.int .i64 (i:Int),.pointer (some ⟨c,0,none⟩),.pointer (some ⟨d,0,none⟩)] w fun e w'=>e=.returned (.int .u64 (ahd s (bl a i)))∧Below w.heap.size w w':=by
 obtain ⟨adr,hadr⟩:=SrcI.some21 Sa (by omega)
 subst hadr; have hl1:=hw.l1; have hl2:=hw.l2; have M:=Mm.init w
 go_enter Try.func53,Try.ntmps53
 go_upto_region 0 with fail; refine wp_region_list ?_; refine xpL (.int .u64 0) ?_; refine xT ?_; go_upto_region 1 with fail; have hdr:=(Below.refl w.heap.size w).drew; replace M:=M.drew; clear hdr; refine wp_region_held_drew (S:=fun w'=>Below w.heap.size w w') (by kernel_rfl) M.below ?_; intro _; generalize w.drew=w1 at M ⊢
 refine xrH 0 5 rfl (.slice (some adr) a.length ca) (fun _ hS=>load1 29 _ ⟨c,0,none⟩ _ rfl rfl (fun _=>by kernel_rfl) (cell21 hS hc)) M.below ?_; refine xrH 1 6 rfl (.int .i64 (i:Int)) (fun _ hS=>(by kernel_rfl)) M.below ?_; refine xrH 2 7 rfl (.pointer (some (adr.add i))) (fun _ hS=>idxI21 adr _ _ i hi _ _ rfl rfl rfl _) M.below ?_
 refine xrH 3 8 rfl (.int .i64 (bl a i)) (fun _ hS=>load1 3 _ (adr.add i) _ rfl rfl (fun _=>by kernel_rfl) ((Sa.below hS (xnR _)).atE21 rfl hi)) M.below ?_; refine xrH 4 9 rfl (.int .u64 (bl a i)) (fun _ hS=>convI .i64 .u64 _ _ _ _ _ rfl rfl Try.underlying52 (by kernel_rfl) rfl (by rw [IntKind.wrap_u64]; omega) _) M.below ?_
 refine xrH 5 10 rfl (.pointer (some ⟨R,0,none⟩)) (fun _ hS=>load1 24 _ ⟨d,0,none⟩ _ rfl rfl (fun _=>by kernel_rfl) (cell21 hS hd)) M.below ?_; refine xrH 6 11 rfl (.pointer (some ⟨R,0,none⟩)) (fun _ hS=>(by kernel_rfl)) M.below ?_; refine xrH 7 12 rfl (.pointer (some ⟨R,1,none⟩)) (fun _ hS=>(by kernel_rfl)) M.below ?_
 refine xrH 8 13 rfl (.int .u64 (s.last+1)) (fun _ hS=>load1 52 _ ⟨R,1,none⟩ _ rfl rfl (fun _=>by kernel_rfl) (cell21 hS hR)) M.below ?_; refine xrH 9 14 rfl (.int .u64 (ahd s (bl a i))) (fun _ hS=>subI .u64 _ _ _ _ _ _ _ rfl rfl rfl (by rw [IntKind.wrap_u64]; unfold ahd; split <;> omega) _) M.below ?_
 refine xrH 10 4 rfl (.int .u64 (ahd s (bl a i))) (fun _ hS=>(by kernel_rfl)) M.below ?_
 refine wpAnyH_done (by kernel_rfl) ?_ _
 first | show Exit.then _ _ _ _ _ | show Exit.inBlock _ _ _ _ _
 have hbel:=M.below; clear M ; go_wp2; go_ret
 exact ⟨rfl,hbel⟩
theorem vr3_any (a:List Int) (sa:Option Addr) (ca:Nat) (hal:a.length<140737488355328) (s:Sch) (hw:SchW s) (R c d:Nat) (w:World) (hc:w.cell? ⟨c,0,none⟩=some (.slice sa a.length ca)) (hd:w.cell? ⟨d,0,none⟩=some (.pointer (some ⟨R,0,none⟩))) (hR:w.cell? ⟨R,1,none⟩=some (.int .u64 (s.last+1))) (Sa:SrcI w sa a.length (bl a)) (g:Nat) (hg:w.cell? ⟨g,0,none⟩=some (.func (.func 53) #[] #[.pointer (some ⟨c,0,none⟩),.pointer (some ⟨d,0,none⟩)])) (i j:Nat) (hi:i<a.length) (hx:0≤bl a i∧bl a i<9223372036854775808) (hj:j<a.length) (hy:0≤bl a j∧bl a j<9223372036854775808) :
 Calls Try.prog 54 #[.int .i64 (i:Int),.int .i64 (j:Int),.pointer (some ⟨g,0,none⟩)] w fun e w'=>e=.returned (.bool (decide (ahd s (bl a i)<ahd s (bl a j))))∧Below w.heap.size w w':=by
 have M:=Mm.init w
 go_enter Try.func54,Try.ntmps54
 go_upto_region 0 with fail; refine wp_region_list ?_; refine xpL (.bool false) ?_; refine xT ?_; go_upto_region 1 with fail; have hdr:=(Below.refl w.heap.size w).drew; replace M:=M.drew; clear hdr; refine wp_region_held_drew (S:=fun w'=>Below w.heap.size w w') (by kernel_rfl) M.below ?_; intro _; generalize w.drew=w1 at M ⊢
 refine xrH 0 6 rfl (.func (.func 53) #[] #[.pointer (some ⟨c,0,none⟩),.pointer (some ⟨d,0,none⟩)]) (fun _ hS=>load1 89 _ ⟨g,0,none⟩ _ rfl rfl (fun _=>by kernel_rfl) (cell21 hS hg)) M.below ?_; refine xrH 1 7 rfl (.int .i64 (i:Int)) (fun _ hS=>(by kernel_rfl)) M.below ?_
 refine xrH 3 9 rfl (.func (.func 53) #[] #[.pointer (some ⟨c,0,none⟩),.pointer (some ⟨d,0,none⟩)]) (fun _ hS=>load1 89 _ ⟨g,0,none⟩ _ rfl rfl (fun _=>by kernel_rfl) (cell21 hS hg)) M.below ?_; refine xrH 4 10 rfl (.int .i64 (j:Int)) (fun _ hS=>(by kernel_rfl)) M.below ?_
 have key:=vr2_any a sa ca hal s hw R c d w1 (cell21 M.below hc) (cell21 M.below hd) (cell21 M.below hR) (Sa.below M.below (xnR _)) i hi hx; refine callH (i:=2) (some 8) rfl (by kernel_rfl) rfl rfl (fun _=>by kernel_rfl) key ?_; clear key; rintro e w2 ⟨rfl,l_⟩; replace M:=M.call l_
 clear l_
 refine ⟨_,rfl,M.below,?_⟩
 simp only [aP,lI,l0,lS]; have key:=vr2_any a sa ca hal s hw R c d w2 (cell21 M.below hc) (cell21 M.below hd) (cell21 M.below hR) (Sa.below M.below (xnR _)) j hj hy; refine callH (i:=5) (some 11) rfl (by kernel_rfl) rfl rfl (fun _=>by kernel_rfl) key ?_; clear key; rintro e w3 ⟨rfl,l_⟩; replace M:=M.call l_
 clear l_
 refine ⟨_,rfl,M.below,?_⟩
 simp only [aP,lI,l0,lS]; refine xrH 6 12 rfl (.bool (decide (ahd s (bl a i)<ahd s (bl a j)))) (fun _ hS=>lssI .u64 _ _ _ _ _ _ rfl rfl rfl (decide (ahd s (bl a i)<ahd s (bl a j))) rfl _) M.below ?_; refine xrH 7 5 rfl (.bool (decide (ahd s (bl a i)<ahd s (bl a j)))) (fun _ hS=>(by kernel_rfl)) M.below ?_
 refine wpAnyH_done (by kernel_rfl) ?_ _
 first | show Exit.then _ _ _ _ _ | show Exit.inBlock _ _ _ _ _
 have hbel:=M.below; clear M ; go_wp2; go_ret
 exact ⟨rfl,hbel⟩
structure Rul (w:World) (fv:Value) (lt:Nat→Nat→Bool) (a:List Int):Prop where
 is:∃ K c,fv=.func (.func K) #[] #[.pointer (some ⟨c,0,none⟩)]∧(K=51∨K=54)∧∀ w',Below w.heap.size w w'→∀ i j:Nat,i<a.length→0≤bl a i∧bl a i<9223372036854775808→j<a.length→0≤bl a j∧bl a j<9223372036854775808→Calls Try.prog K #[.int .i64 (i:Int),.int .i64 (j:Int),.pointer (some ⟨c,0,none⟩)] w' fun e w''=>e=.returned (.bool (lt i j))∧Below w'.heap.size w' w''
theorem vrul21_any (a:List Int) (sa:Option Addr) (ca:Nat) (hal:a.length<140737488355328) (r:List Int) (sr:Option Addr) (cr:Nat) (hrl:r.length<140737488355328) (s:Sch) (hw:SchW s) (p:Int) (hp:s.tu=decide (p=1)) (R:Nat) (w:World) (hR0:w.cell? ⟨R,0,none⟩=some (.int .i64 p)) (hR:w.cell? ⟨R,1,none⟩=some (.int .u64 (s.last+1))) (Sa:SrcI w sa a.length (bl a)) (Sr:SrcI w sr r.length (bl r)) :
 Calls Try.prog 46 #[.pointer (some ⟨R,0,none⟩),.slice sa a.length ca,.slice sr r.length cr] w fun e w'=>∃ fv,e=.returned fv∧Rul w' fv (plt s a r) a∧Below w.heap.size w w':=by
 have M:=Mm.init w
 go_enter Try.func46,Try.ntmps46
 go_upto_region 0 with fail; refine wp_region_list ?_; refine actL (w':=w.alloc (.cells #[.pointer (some ⟨R,0,none⟩)] 24)) (.pointer (some ⟨w.heap.size,0,none⟩)) rfl (by kernel_rfl) ?_; simp only [aP,lI,l0,lS]
 have hB_B1:w.heap.size≤w.heap.size:=M.below.size
 replace M:=M.box #[.pointer (some ⟨R,0,none⟩)] 24 w.heap.size rfl; generalize w.alloc (.cells #[.pointer (some ⟨R,0,none⟩)] 24)=w1 at M  ⊢; generalize eB:w.heap.size=B1 at M hB_B1  ⊢
 have hE_B1:w.heap.size≤B1:=Nat.le_of_eq eB
 have hF_B1:B1≤w.heap.size:=Nat.le_of_eq eB.symm
 clear eB
 replace M:Mm w ((B1,[.pointer (some ⟨R,0,none⟩)])::([]:List (Nat × List Value))) w1:=M
 refine actL (w':=w1.alloc (.cells #[.slice sa a.length ca] 29)) (.pointer (some ⟨w1.heap.size,0,none⟩)) rfl (by kernel_rfl) ?_; simp only [aP,lI,l0,lS]
 have hB_B2:w.heap.size≤w1.heap.size:=M.below.size
 replace M:=M.box #[.slice sa a.length ca] 29 w1.heap.size rfl; generalize w1.alloc (.cells #[.slice sa a.length ca] 29)=w2 at M  ⊢; generalize eB:w1.heap.size=B2 at M hB_B2  ⊢
 have hE_B2:w1.heap.size≤B2:=Nat.le_of_eq eB
 have hF_B2:B2≤w1.heap.size:=Nat.le_of_eq eB.symm
 clear eB
 replace M:Mm w ((B2,[.slice sa a.length ca])::(B1,[.pointer (some ⟨R,0,none⟩)])::([]:List (Nat × List Value))) w2:=M
 refine actL (w':=w2.alloc (.cells #[.slice sr r.length cr] 29)) (.pointer (some ⟨w2.heap.size,0,none⟩)) rfl (by kernel_rfl) ?_; simp only [aP,lI,l0,lS]
 have hB_B3:w.heap.size≤w2.heap.size:=M.below.size
 replace M:=M.box #[.slice sr r.length cr] 29 w2.heap.size rfl; generalize w2.alloc (.cells #[.slice sr r.length cr] 29)=w3 at M  ⊢; generalize eB:w2.heap.size=B3 at M hB_B3  ⊢
 have hE_B3:w2.heap.size≤B3:=Nat.le_of_eq eB
 have hF_B3:B3≤w2.heap.size:=Nat.le_of_eq eB.symm
 clear eB
 replace M:Mm w ((B3,[.slice sr r.length cr])::(B2,[.slice sa a.length ca])::(B1,[.pointer (some ⟨R,0,none⟩)])::([]:List (Nat × List Value))) w3:=M
 refine xpL (.nilFunc) ?_; refine xT ?_
 by_cases hp1:¬ p=1
 · have ht:s.tu=false:=by rw [hp]; exact decide_eq_false hp1
   go_upto_region 1 with fail; refine wp_region_list ?_; refine xaL (.pointer (some ⟨R,0,none⟩)) (load1 24 _ ⟨B1,0,none⟩ _ rfl rfl (fun _=>by kernel_rfl) (M.get (mI 2 rfl) 0 _ rfl)) ?_; refine xpL (.pointer (some ⟨R,0,none⟩)) ?_; refine xpL (.pointer (some ⟨R,0,none⟩)) ?_; refine xaL (.int .i64 p) (load1 3 _ ⟨R,0,none⟩ _ rfl rfl (fun _=>by kernel_rfl) (cell21 M.below hR0)) ?_
   refine xaL (.bool true) (neqI .i64 _ _ _ _ _ _ rfl rfl rfl true (bne_iff_ne.2 hp1) _) ?_; refine xT ?_; go_upto_region 2 with fail; refine wp_region_list ?_; refine xpL (.func (.func 51) #[] #[.pointer (some ⟨B3,0,none⟩)]) ?_; refine xpL (.func (.func 51) #[] #[.pointer (some ⟨B3,0,none⟩)]) ?_; refine xT ?_
   have hF:=show Hid _ from (show Rul w3 (.func (.func 51) #[] #[.pointer (some ⟨B3,0,none⟩)]) (plt s a r) a from ⟨_,_,rfl,.inl rfl,fun w' l_ i j hi hx hj hy=>by
    have hpl:plt s a r i j=_:=if_neg (by rw [ht]; decide)
    rw [hpl]
    exact vr1_any r sr cr hrl B3 w' (cell21 l_ (M.get mS 0 _ rfl)) (Sr.below (M.below.trans (l_.mono M.below.size)) (xnR _)) i j⟩)
   have hbel:=show Hid _ from M.below; clear M; go_wp2; go_ret
   exact ⟨_,rfl,hF.out,hbel.out⟩
 · replace hp1:=Classical.not_not.1 hp1
   have ht:s.tu=true:=by rw [hp]; exact decide_eq_true hp1
   go_upto_region 1 with fail; refine wp_region_list ?_; refine xaL (.pointer (some ⟨R,0,none⟩)) (load1 24 _ ⟨B1,0,none⟩ _ rfl rfl (fun _=>by kernel_rfl) (M.get (mI 2 rfl) 0 _ rfl)) ?_; refine xpL (.pointer (some ⟨R,0,none⟩)) ?_; refine xpL (.pointer (some ⟨R,0,none⟩)) ?_; refine xaL (.int .i64 p) (load1 3 _ ⟨R,0,none⟩ _ rfl rfl (fun _=>by kernel_rfl) (cell21 M.below hR0)) ?_
   refine xaL (.bool false) (neqI .i64 _ _ _ _ _ _ rfl rfl rfl false (by rw [bne_eq_false_iff_eq]; exact hp1) _) ?_; refine xT ?_; go_upto_region 3 with fail; refine wp_region_list ?_; refine xpL (.func (.func 53) #[] #[.pointer (some ⟨B2,0,none⟩),.pointer (some ⟨B1,0,none⟩)]) ?_
   refine actL (w':=w3.alloc (.cells #[.nilFunc] 89)) (.pointer (some ⟨w3.heap.size,0,none⟩)) rfl (by kernel_rfl) ?_; simp only [aP,lI,l0,lS]
   have hB_B4:w.heap.size≤w3.heap.size:=M.below.size
   replace M:=M.box #[.nilFunc] 89 w3.heap.size rfl; generalize w3.alloc (.cells #[.nilFunc] 89)=w4 at M  ⊢; generalize eB:w3.heap.size=B4 at M hB_B4  ⊢
   have hE_B4:w3.heap.size≤B4:=Nat.le_of_eq eB
   have hF_B4:B4≤w3.heap.size:=Nat.le_of_eq eB.symm
   clear eB
   replace M:Mm w ((B4,[.nilFunc])::(B3,[.slice sr r.length cr])::(B2,[.slice sa a.length ca])::(B1,[.pointer (some ⟨R,0,none⟩)])::([]:List (Nat × List Value))) w4:=M
   refine skipOpL rfl (storeAny (.func (.func 53) #[] #[.pointer (some ⟨B2,0,none⟩),.pointer (some ⟨B1,0,none⟩)]) B4 0 89 _ _ rfl rfl rfl rfl rfl (M.isSome mS 0 (by simp)) (M.free mS 0 (by simp)) (by kernel_rfl)) ?_; simp only [Act.put]; replace M:=M.set 0 (by simp) (.func (.func 53) #[] #[.pointer (some ⟨B2,0,none⟩),.pointer (some ⟨B1,0,none⟩)])
   generalize w4.setCell ⟨B4,0,none⟩ (.func (.func 53) #[] #[.pointer (some ⟨B2,0,none⟩),.pointer (some ⟨B1,0,none⟩)])=w5 at M  ⊢
   replace M:Mm w ((B4,[.func (.func 53) #[] #[.pointer (some ⟨B2,0,none⟩),.pointer (some ⟨B1,0,none⟩)]])::(B3,[.slice sr r.length cr])::(B2,[.slice sa a.length ca])::(B1,[.pointer (some ⟨R,0,none⟩)])::([]:List (Nat × List Value))) w5:=M
   refine xT ?_; go_upto_region 4 with fail; refine wp_region_list ?_; refine xpL (.func (.func 54) #[] #[.pointer (some ⟨B4,0,none⟩)]) ?_; refine xpL (.func (.func 54) #[] #[.pointer (some ⟨B4,0,none⟩)]) ?_; refine xT ?_
   have hF:=show Hid _ from (show Rul w5 (.func (.func 54) #[] #[.pointer (some ⟨B4,0,none⟩)]) (plt s a r) a from ⟨_,_,rfl,.inr rfl,fun w' l_ i j hi hx hj hy=>by
    have hpl:plt s a r i j=_:=if_pos ht
    rw [hpl]
    exact vr3_any a sa ca hal s hw R B2 B1 w' (cell21 l_ (M.get (mI 2 rfl) 0 _ rfl)) (cell21 l_ (M.get (mI 3 rfl) 0 _ rfl)) (cell21 (M.below.trans (l_.mono M.below.size)) hR) (Sa.below (M.below.trans (l_.mono M.below.size)) (xnR _)) B4 (cell21 l_ (M.get mS 0 _ rfl)) i j hi hx hj hy⟩)
   have hbel:=show Hid _ from M.below; clear M; go_wp2; go_ret
   exact ⟨_,rfl,hF.out,hbel.out⟩
theorem PIn.last {w:World} {s:Sch} {p:Int} {m:Option Nat} {E:Pes} {C:List (Nat × List Value)} (h:PIn w s p m E C) (x:Int):PIn w { s with last:=x } p m E C:=⟨h.pol,h.map,h.lst,h.ok,h.ck⟩
theorem Pst.noneD {s:Sch} {a r:List Int} {best:Int} (h:Pst s a r a.length best) (hb:best<0):spA s a r=0∧spB s a r=false∧spc s a r=s:=by
 rcases h with ⟨h1,h2⟩ | ⟨j,h1,h2,_⟩
 · have e:spN s a r=-1:=by unfold spN; rw [h2]
   unfold spA spB spc
   rw [e]
   exact ⟨rfl,rfl,rfl⟩
 · omega
theorem Pst.someD {s:Sch} {a r:List Int} {best:Int} (h:Pst s a r a.length best) (hb:¬ best<0):∃ j:Nat,best=(j:Int)∧j<a.length∧0≤bl a j∧bl a j<9223372036854775808∧spA s a r=bl a j∧spB s a r=true∧spc s a r={ s with last:=bl a j }:=by
 rcases h with ⟨h1,h2⟩ | ⟨j,h1,h2,h3,h4,h5,_⟩
 · omega
 · have e:spN s a r=bl a j:=by unfold spN; rw [h5]
   refine ⟨j,h2,h1,h3,h4,?_⟩
   unfold spA spB spc
   rw [e,if_neg (by omega),if_neg (by omega),decide_eq_true h3]
   exact ⟨rfl,rfl,rfl⟩
theorem vpck21_any (w0 w:World) (R:Nat) (p:Int) (m:Option Nat) (E:Pes) (C l:List (Nat × List Value)) (s:Sch) (hI:PIn w s p m E C) (hw:SchW s) (M:Mm w0 (pow R s p m E++(C++l)) w) (a:List Int) (sa:Option Addr) (ca:Nat) (hal:a.length<140737488355328) (Sa:SrcI w sa a.length (bl a)) (hai:∀ x∈a,i64 x) (hab:∀ b∈(pow R s p m E).map Prod.fst,a≠[]→b∉ob sa) (r:List Int) (sr:Option Addr) (cr:Nat) (hrl:r.length<140737488355328) (Sr:SrcI w sr r.length (bl r)) :
 Calls Try.prog 23 #[.pointer (some ⟨R,0,none⟩),.slice sa a.length ca,.slice sr r.length cr] w fun e w'=>e=.returned (.tuple #[.int .i64 (spA s a r),.bool (spB s a r)])∧PIn w' (spc s a r) p m E C∧Mm w0 (pow R (spc s a r) p m E++(C++l)) w'∧Off ((pow R s p m E).map Prod.fst) w w':=by
 have MR:Mm w0 ((R,prc s p m)::((mbk m++gp E)++(C++l))) w:=M
 have hR0:=MR.get mS 0 _ rfl; have hR1:=MR.get mS 1 _ rfl; have M0:=show Hid _ from M; clear M MR; have M:=Mm.init w
 go_enter Try.func23,Try.ntmps23
 go_upto_region 0 with fail; refine wp_region_list ?_; refine xpL (.int .i64 0) ?_; refine xpL (.bool false) ?_; refine xT ?_; go_upto_region 1 with fail; refine wp_region_list ?_; refine xpL (.pointer (some ⟨R,0,none⟩)) ?_; refine xpL (.slice sa a.length ca) ?_; refine xpL (.slice sr r.length cr) ?_; have key:=vrul21_any a sa ca hal r sr cr hrl s hw p hI.pol R _ hR0 hR1 Sa Sr
 refine xcL key ?_; clear key; rintro e w2 ⟨fv,rfl,hrul,l_⟩; replace M:=M.call l_
 obtain ⟨K,cf,rfl,hk,hs⟩:=hrul.is
 clear hrul; clear l_; refine xeL ?_; refine xpL (.func (.func K) #[] #[.pointer (some ⟨cf,0,none⟩)]) ?_; refine xT ?_; have hB0:=M.below; have hI1:=hI.below hB0; have MM:=show Hid _ from M0.out.call hB0; have Sa1:=Sa.below hB0 (xnR _); clear M M0 Sa hR0 hR1; have M:=Mm.init w2; go_upto_region 2 with fail; refine wp_region_list ?_; refine xpL (.int .i64 (-1)) ?_; refine xT ?_
 go_upto_region 3 with fail; refine wp_region_list ?_; refine xpL (.slice sa a.length ca) ?_; refine xaL (.int .i64 ((a.length:Nat):Int)) (lenS _ 29 3 sa a.length ca rfl Try.underlying29 rfl _) ?_; refine xpL (.int .i64 0) ?_; refine xT ?_; clear M; go_wp2
 go_loopw [9,18] (fun b_ v_ w'=>∃ (i:Nat) (best:Int),i≤a.length∧b_=.int .i64 best∧v_=.int .i64 (i:Int)∧Hid (Pst s a r i best)∧Below w2.heap.size w2 w') (fun b_ v_ _=>a.length-(intOf v_).toNat)
 case atStart=>exact ⟨0,-1,Nat.zero_le _,rfl,rfl,(show Hid _ from .inl ⟨rfl,rfl⟩),Below.refl _ _⟩
 case round =>
  obtain ⟨i,best,hi,rfl,rfl,hP,hB⟩:=hrel
  have M:=(Mm.init w2).call hB
  by_cases hil:i<a.length
  · go_upto_region 4 with fail
    refine wp_region_list ?_; refine xaL (.bool true) (lssI .i64 _ _ _ _ _ _ rfl rfl rfl true (decide_eq_true (by omega)) _) ?_; refine xT ?_
    obtain ⟨ada,hada⟩:=SrcI.some21 Sa1 (by omega)
    subst hada; have hii:=bl_i64 hai i; go_upto_region 5 with fail; refine wp_region_list ?_; refine xpL (.int .i64 (i:Int)) ?_; refine xaL (.pointer (some (ada.add i))) (idxI21 ada _ _ i hil _ _ rfl rfl rfl _) ?_; refine xaL (.int .i64 (bl a i)) (load1 3 _ (ada.add i) _ rfl rfl (fun _=>by kernel_rfl) ((Sa1.below M.below (xnR _)).atE21 rfl hil)) ?_; refine xpL (.int .i64 (i:Int)) ?_
    refine xpL (.int .i64 (bl a i)) ?_; refine xT ?_
    cases hsv:sav s (bl a i) with
    | false =>
      replace hsv:=show Hid _ from hsv; go_upto_region 6 with fail; refine wp_region_list ?_; refine xpL (.pointer (some ⟨R,0,none⟩)) ?_; refine xpL (.int .i64 (bl a i)) ?_; have key:=vat21_any w0 wr R p m E C l s (hI1.below M.below) (MM.out.call M.below) (bl a i) hii; refine xcL key ?_; clear key; rintro e w4 ⟨B,d,X,rfl,M',P,hdf,hck,lb,hbk⟩; have c0:=M'.get mS 0 _ rfl
      have c2:=M'.get mS 2 _ rfl; replace M:=M.call lb; clear M' P hck hbk lb
      have hsv2:decide (d.Z.length<d.win)=false:=by
       have h_:=sav_is s (bl a i)
       rw [hsv.out,← hdf] at h_
       rw [h_]
       show _=decide ((d.Z.map Prod.fst).length<d.win)
       rw [List.length_map]
      refine xeL ?_; have key_:=vroom21_any w4 B d.Z.length d.win d.sr d.cr c0 c2
      rw [hsv2] at key_
      have key:=key_; refine xcL key ?_; clear key; rintro e w6 ⟨rfl,l_⟩; replace M:=M.call l_
      clear l_; refine xeL ?_; clear key_ c0 c2 hsv2 hdf; refine xpL (.bool false) ?_
      with_reducible refine skipL ?_ ?_
      · rfl
      simp only [aP,lI,l0,lS]
      with_reducible refine skipL ?_ ?_
      · rfl
      simp only [aP,lI,l0,lS]
      with_reducible refine skipL ?_ ?_
      · rfl
      simp only [aP,lI,l0,lS]
      with_reducible refine skipL ?_ ?_
      · rfl
      simp only [aP,lI,l0,lS]
      with_reducible refine skipL ?_ ?_
      · rfl
      simp only [aP,lI,l0,lS]
      with_reducible refine skipL ?_ ?_
      · rfl
      simp only [aP,lI,l0,lS]
      with_reducible refine skipL ?_ ?_
      · rfl
      simp only [aP,lI,l0,lS]
      with_reducible refine skipL ?_ ?_
      · rfl
      simp only [aP,lI,l0,lS]; refine xpL (.bool false) ?_; refine xT ?_; have hP2:=show Hid _ from hP.out.skip hsv.out; have HS:=show Hid _ from M.below; clear M hP; go_wp2
      go_roundw
      case rel=>exact ⟨i+1,best,by omega,rfl,by go_num,hP2,HS.out⟩
      case measure=>simp [intOf]; omega
    | true =>
      replace hsv:=show Hid _ from hsv; have hxi:=sav_in hw hsv.out
      by_cases hb0:best<0
      · go_upto_region 6 with fail
        refine wp_region_list ?_; refine xpL (.pointer (some ⟨R,0,none⟩)) ?_; refine xpL (.int .i64 (bl a i)) ?_; have key:=vat21_any w0 wr R p m E C l s (hI1.below M.below) (MM.out.call M.below) (bl a i) hii; refine xcL key ?_; clear key; rintro e w8 ⟨B,d,X,rfl,M',P,hdf,hck,lb,hbk⟩; have c0:=M'.get mS 0 _ rfl; have c2:=M'.get mS 2 _ rfl; replace M:=M.call lb
        clear M' P hck hbk lb
        have hsv2:decide (d.Z.length<d.win)=true:=by
         have h_:=sav_is s (bl a i)
         rw [hsv.out,← hdf] at h_
         rw [h_]
         show _=decide ((d.Z.map Prod.fst).length<d.win)
         rw [List.length_map]
        refine xeL ?_; have key_:=vroom21_any w8 B d.Z.length d.win d.sr d.cr c0 c2
        rw [hsv2] at key_
        have key:=key_; refine xcL key ?_; clear key; rintro e w10 ⟨rfl,l_⟩; replace M:=M.call l_
        clear l_; refine xeL ?_; clear key_ c0 c2 hsv2 hdf; refine xpL (.bool true) ?_; refine xpL (.int .i64 best) ?_; refine xaL (.bool true) (lssI .i64 _ _ _ _ _ _ rfl rfl rfl true (decide_eq_true hb0) _) ?_; refine xpL (.bool true) ?_
        with_reducible refine skipL ?_ ?_
        · rfl
        simp only [aP,lI,l0,lS]
        with_reducible refine skipL ?_ ?_
        · rfl
        simp only [aP,lI,l0,lS]
        with_reducible refine skipL ?_ ?_
        · rfl
        simp only [aP,lI,l0,lS]
        with_reducible refine skipL ?_ ?_
        · rfl
        simp only [aP,lI,l0,lS]; refine xpL (.bool true) ?_; refine xpL (.bool true) ?_; refine xT ?_; go_upto_region 7 with fail; refine wp_region_list ?_; refine xpL (.int .i64 (i:Int)) ?_; refine xpL (.int .i64 (i:Int)) ?_; refine xT ?_; have hP2:=show Hid _ from hP.out.takes hw hsv.out (.inl hb0); have HS:=show Hid _ from M.below; clear M hP; go_wp2
        go_roundw
        case rel=>exact ⟨i+1,(i:Int),by omega,rfl,by go_num,hP2,HS.out⟩
        case measure=>simp [intOf]; omega
      · obtain ⟨j,rfl,hji,hxj⟩:∃ j:Nat,best=(j:Int)∧j<i∧0≤bl a j∧bl a j<9223372036854775808:=by
         rcases hP.out with ⟨h1,_⟩ | ⟨j,h1,h2,h3,h4,_⟩
         · omega
         · exact ⟨j,h2,h1,h3,h4⟩
        cases hpl:plt s a r i j with
        | true =>
          replace hpl:=show Hid _ from hpl; go_upto_region 6 with fail; refine wp_region_list ?_; refine xpL (.pointer (some ⟨R,0,none⟩)) ?_; refine xpL (.int .i64 (bl a i)) ?_; have key:=vat21_any w0 wr R p m E C l s (hI1.below M.below) (MM.out.call M.below) (bl a i) hii; refine xcL key ?_; clear key; rintro e w12 ⟨B,d,X,rfl,M',P,hdf,hck,lb,hbk⟩; have c0:=M'.get mS 0 _ rfl
          have c2:=M'.get mS 2 _ rfl; replace M:=M.call lb; clear M' P hck hbk lb
          have hsv2:decide (d.Z.length<d.win)=true:=by
           have h_:=sav_is s (bl a i)
           rw [hsv.out,← hdf] at h_
           rw [h_]
           show _=decide ((d.Z.map Prod.fst).length<d.win)
           rw [List.length_map]
          refine xeL ?_; have key_:=vroom21_any w12 B d.Z.length d.win d.sr d.cr c0 c2
          rw [hsv2] at key_
          have key:=key_; refine xcL key ?_; clear key; rintro e w14 ⟨rfl,l_⟩; replace M:=M.call l_
          clear l_; refine xeL ?_; clear key_ c0 c2 hsv2 hdf; refine xpL (.bool true) ?_; refine xpL (.int .i64 (j:Int)) ?_; refine xaL (.bool false) (lssI .i64 _ _ _ _ _ _ rfl rfl rfl false (decide_eq_false hb0) _) ?_; refine xpL (.bool false) ?_; refine xpL (.func (.func K) #[] #[.pointer (some ⟨cf,0,none⟩)]) ?_; refine xpL (.int .i64 (i:Int)) ?_; refine xpL (.int .i64 (j:Int)) ?_
          have key:=hs w14 M.below i j hil hxi (by omega) hxj
          rw [hpl.out] at key
          refine callL rfl (fun _=>by rcases hk with rfl | rfl <;> kernel_rfl) key ?_; clear key; rintro e w15 ⟨rfl,l_⟩; replace M:=M.call l_; clear l_
          refine ⟨_,rfl,?_⟩
          simp only [aP,lI,l0,lS]; refine xpL (.bool true) ?_; refine xpL (.bool true) ?_; refine xT ?_; go_upto_region 7 with fail; refine wp_region_list ?_; refine xpL (.int .i64 (i:Int)) ?_; refine xpL (.int .i64 (i:Int)) ?_; refine xT ?_; have hP2:=show Hid _ from hP.out.takes hw hsv.out (.inr ⟨j,rfl,hpl.out⟩); have HS:=show Hid _ from M.below; clear M hP; go_wp2
          go_roundw
          case rel=>exact ⟨i+1,(i:Int),by omega,rfl,by go_num,hP2,HS.out⟩
          case measure=>simp [intOf]; omega
        | false =>
          replace hpl:=show Hid _ from hpl; go_upto_region 6 with fail; refine wp_region_list ?_; refine xpL (.pointer (some ⟨R,0,none⟩)) ?_; refine xpL (.int .i64 (bl a i)) ?_; have key:=vat21_any w0 wr R p m E C l s (hI1.below M.below) (MM.out.call M.below) (bl a i) hii; refine xcL key ?_; clear key; rintro e w17 ⟨B,d,X,rfl,M',P,hdf,hck,lb,hbk⟩; have c0:=M'.get mS 0 _ rfl
          have c2:=M'.get mS 2 _ rfl; replace M:=M.call lb; clear M' P hck hbk lb
          have hsv2:decide (d.Z.length<d.win)=true:=by
           have h_:=sav_is s (bl a i)
           rw [hsv.out,← hdf] at h_
           rw [h_]
           show _=decide ((d.Z.map Prod.fst).length<d.win)
           rw [List.length_map]
          refine xeL ?_; have key_:=vroom21_any w17 B d.Z.length d.win d.sr d.cr c0 c2
          rw [hsv2] at key_
          have key:=key_; refine xcL key ?_; clear key; rintro e w19 ⟨rfl,l_⟩; replace M:=M.call l_
          clear l_; refine xeL ?_; clear key_ c0 c2 hsv2 hdf; refine xpL (.bool true) ?_; refine xpL (.int .i64 (j:Int)) ?_; refine xaL (.bool false) (lssI .i64 _ _ _ _ _ _ rfl rfl rfl false (decide_eq_false hb0) _) ?_; refine xpL (.bool false) ?_; refine xpL (.func (.func K) #[] #[.pointer (some ⟨cf,0,none⟩)]) ?_; refine xpL (.int .i64 (i:Int)) ?_; refine xpL (.int .i64 (j:Int)) ?_
          have key:=hs w19 M.below i j hil hxi (by omega) hxj
          rw [hpl.out] at key
          refine callL rfl (fun _=>by rcases hk with rfl | rfl <;> kernel_rfl) key ?_; clear key; rintro e w20 ⟨rfl,l_⟩; replace M:=M.call l_; clear l_
          refine ⟨_,rfl,?_⟩
          simp only [aP,lI,l0,lS]; refine xpL (.bool false) ?_; refine xpL (.bool false) ?_; refine xT ?_; have hP2:=show Hid _ from hP.out.keeps hw hsv.out hpl.out; have HS:=show Hid _ from M.below; clear M hP; go_wp2
          go_roundw
          case rel=>exact ⟨i+1,(j:Int),by omega,rfl,by go_num,hP2,HS.out⟩
          case measure=>simp [intOf]; omega
  · obtain rfl:i=a.length:=by omega
    go_upto_region 4 with fail; refine wp_region_list ?_; refine xaL (.bool false) (lssI .i64 _ _ _ _ _ _ rfl rfl rfl false (decide_eq_false (by omega)) _) ?_; refine xT ?_
    by_cases hb0:best<0
    · go_upto_region 9 with fail
      refine wp_region_list ?_; refine xpL (.int .i64 best) ?_; refine xaL (.bool true) (lssI .i64 _ _ _ _ _ _ rfl rfl rfl true (decide_eq_true hb0) _) ?_; refine xT ?_; go_upto_region 10 with fail; refine wp_region_list ?_; refine xpL (.int .i64 0) ?_; refine xpL (.bool false) ?_; refine xT ?_
      obtain ⟨e1,e2,e3⟩:=hP.out.noneD hb0
      have HE:=show Hid _ from (And.intro e1 (And.intro e2 e3)); have HS:=show Hid _ from (And.intro (hI1.below M.below) (And.intro (MM.out.call M.below) ((Off.of_below (X:=(pow R s p m E).map Prod.fst) hB0).below M.below))); clear M MM hI hI1 e1 e2 e3; go_wp2; go_ret2
      rw [HE.out.1,HE.out.2.1,HE.out.2.2]
      exact ⟨rfl,HS.out⟩
    · go_upto_region 9 with fail
      refine wp_region_list ?_; refine xpL (.int .i64 best) ?_; refine xaL (.bool false) (lssI .i64 _ _ _ _ _ _ rfl rfl rfl false (decide_eq_false hb0) _) ?_; refine xT ?_
      obtain ⟨j,rfl,hj,hx0,hx1,e1,e2,e3⟩:=hP.out.someD hb0
      have HE:=show Hid _ from (And.intro e1 (And.intro e2 e3)); clear e1 e2 e3 hP
      obtain ⟨ada,hada⟩:=SrcI.some21 Sa1 (by omega)
      subst hada
      have hRa:R∉ob (some ada):=hab R (mS) (fun e=>by rw [e] at hj; exact xnZ _ hj)
      have hI2:=hI1.below M.below; have Sa2:=Sa1.below M.below (xnR _); have OF:=(Off.of_below (X:=(pow R s p m E).map Prod.fst) hB0).below M.below
      have MF:Mm w0 ((R,[.int .i64 p,.int .u64 (s.last+1),.map m])::((mbk m++gp E)++(C++l))) wr:=MM.out.call M.below
      clear M MM hI hI1; have M:=MF; clear MF; go_upto_region 11 with fail; refine wp_region_list ?_; refine xpL (.pointer (some ⟨R,0,none⟩)) ?_; refine xpL (.slice (some ada) a.length ca) ?_; refine xpL (.int .i64 (j:Int)) ?_; refine xaL (.pointer (some (ada.add j))) (idxI21 ada _ _ j hj _ _ rfl rfl rfl _) ?_
      refine xaL (.int .i64 (bl a j)) (load1 3 _ (ada.add j) _ rfl rfl (fun _=>by kernel_rfl) (Sa2.atE21 rfl hj)) ?_; refine xaL (.int .u64 (bl a j)) (convI .i64 .u64 _ _ _ _ _ rfl rfl Try.underlying52 (by kernel_rfl) rfl (by rw [IntKind.wrap_u64]; omega) _) ?_; refine xaL (.int .u64 (bl a j+1)) (addI .u64 _ _ _ _ _ _ _ rfl rfl rfl (by rw [IntKind.wrap_u64]; omega) _) ?_
      refine xpL (.pointer (some ⟨R,0,none⟩)) ?_; refine xpL (.pointer (some ⟨R,1,none⟩)) ?_; refine skipOpL rfl (storeAny (.int .u64 (bl a j+1)) R 1 52 _ _ rfl rfl rfl rfl rfl (M.isSome mS 1 (by simp)) (M.free mS 1 (by simp)) (by kernel_rfl)) ?_; simp only [Act.put]; replace M:=M.set 1 (by simp) (.int .u64 (bl a j+1))
      replace OF:=OF.trans (((Off.refl [R] _).set (b:=R) mS 1 (.int .u64 (bl a j+1))).mono (fun b_ hb_=>by rw [xm1 hb_]; exact mS)); replace Sa2:=Sa2.off ((Off.refl [R] _).set (b:=R) mS 1 (.int .u64 (bl a j+1))) (fun ad_ e_ _ hm_=>hRa (by rw [← xm1 hm_,e_]; exact mS))
      replace hI2:=hI2.off ((Off.refl [R] _).set (b:=R) mS 1 (.int .u64 (bl a j+1))) (fun q_ hq_ hm_=>M.awayC (x:=mbk m) (fun p_ hp_=>by simp [hp_]) (xm1 hm_ ▸ mem_bl hq_)) (fun b_ hb_=>by obtain rfl:=xm1 hb_; exact M.awayC (fun p_ hp_=>by simp [hp_])) (fun b_ hb_=>by obtain rfl:=xm1 hb_; exact M.awayC (fun p_ hp_=>by simp [hp_]))
      generalize wr.setCell ⟨R,1,none⟩ (.int .u64 (bl a j+1))=w21 at M OF Sa2 hI2 ⊢
      replace M:Mm w0 ((R,[.int .i64 p,.int .u64 (bl a j+1),.map m])::((mbk m++gp E)++(C++l))) w21:=M
      refine xT ?_; go_upto_region 12 with fail; refine wp_region_list ?_; refine xpL (.slice (some ada) a.length ca) ?_; refine xpL (.int .i64 (j:Int)) ?_; refine xaL (.pointer (some (ada.add j))) (idxI21 ada _ _ j hj _ _ rfl rfl rfl _) ?_; refine xaL (.int .i64 (bl a j)) (load1 3 _ (ada.add j) _ rfl rfl (fun _=>by kernel_rfl) (Sa2.atE21 rfl hj)) ?_; refine xpL (.int .i64 (bl a j)) ?_
      refine xpL (.bool true) ?_; refine xT ?_; have HS:=show Hid _ from (show PIn w21 { s with last:=bl a j } p m E C∧Mm w0 (pow R { s with last:=bl a j } p m E++(C++l)) w21∧_ from ⟨hI2.last _,M,OF⟩); clear M OF hI2 Sa2 Sa1; go_wp2; go_ret2
      rw [HE.out.1,HE.out.2.1,HE.out.2.2]
      exact ⟨rfl,HS.out⟩
end Go.Proofs.Ytmedjdadhmdpgaa
