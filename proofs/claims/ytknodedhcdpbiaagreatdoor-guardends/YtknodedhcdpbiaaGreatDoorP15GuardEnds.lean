/- Texts of Sm, joined. -/
import Derived.Test.YtknodedhcdpbiaaGreatDoorP14GuardEnds
set_option maxRecDepth 20000
set_option maxHeartbeats 64000000
namespace Go.Proofs.YtknodedhcdpbiaaGreatDoor
open Go.RowKit
section
open Go.RowKit Go.MapKept Go.ChangeMaps Go.WideShapes
theorem gcf_two (r:Int) (ko ki:Kys) (mc m0 m1 a b:Option Nat):setL (gcf r ko ki mc m0 m1) 198 [.map a,.map b]=gcf r ko ki mc a b:=by
 have h5:∀ x y:Option Nat,gcf r ko ki mc x y=[[Value.int .i64 r],kck ko,kck ki,[Value.map mc],[Value.map x,Value.map y]].flatten:=fun x y=>by unfold gcf; simp
 rw [h5,h5,flat_set [[Value.int .i64 r],kck ko,kck ki,[Value.map mc],[Value.map m0,Value.map m1]] [1,98,98,1,2] (by simp [kck_len]) 4 198 [Value.map m0,Value.map m1] [.map a,.map b] rfl rfl rfl]
 rfl
theorem gcf_len (r:Int) (ko ki:Kys) (mc m0 m1:Option Nat):(gcf r ko ki mc m0 m1).length=200:=by unfold gcf; simp [kck_len]
theorem Mm.touchIn {w0 w w':World} {l:List (Nat × List Value)} {b:Nat} (M:Mm w0 l w) (h:(b,[])∈l) (g:w.grownBy w' (some b)):Mm w0 l w':=by
 obtain ⟨l',hp,M'⟩:=M.fetch h
 exact (Mm.touch M' g).perm hp.symm
theorem ggoon_any (w0 w:World) (R:Nat) (T:List (Nat × List Value)) (r:Int) (ko ki:Kys) (mc m0 m1:Option Nat) (hgb:BGlob w0) (hki:KysW ki) (f:Int→Option Value) (N:NM w m1 f) (M:Mm w0 ((R,gcf r ko ki mc m0 m1)::(mbs m1++T)) w) :
 Calls Tryz.prog 50 #[.pointer (some ⟨R,0,none⟩)] w fun e' w'=>e'=.returned (.tuple #[])∧Mm w0 ((R,gcf r ko (yad ki) mc m1 m0)::(mbs m1++T)) w'∧NM w' m1 (fun _=>none)∧Off (R::(mbs m1).map Prod.fst) w w':=by
 replace M:Mm w0 ((R,[[Value.int .i64 r],kck ko,kck ki,[Value.map mc],[Value.map m0],[Value.map m1]].flatten)::(mbs m1++T)) w:=M
 have hwz:=xnR w.heap.size; have OF:=Off.refl (R::(mbs m1).map Prod.fst) w
 go_enter Tryz.func50,Tryz.ntmps50
 have HN:=N; clear N; go_upto_region 0 with fail; refine wp_region_list ?_; refine xpL (.pointer (some ⟨R,0,none⟩)) ?_; refine xpL (.pointer (some ⟨R,0,none⟩)) ?_; refine xpL (.pointer (some ⟨R,99,none⟩)) ?_
 replace M:Mm w0 ((R,[[Value.int .i64 r],kck ko,kck ki,[Value.map mc],[Value.map m0],[Value.map m1]].flatten)::(mbs m1++T)) w:=M
 refine xcL (ginn_adv hgb hki M) ?_; rintro e w1 ⟨rfl,M',o1⟩; clear M; have M:=M'; clear M'; replace hwz:=xnT hwz (Off.size o1); replace OF:=OF.and1 o1 (.inl (by simp)); replace HN:=HN.off o1 (M.aside (g:=[_]) (fun p hp=>List.mem_append_left _ hp)); clear o1; refine xeL ?_; refine xT ?_; go_upto_region 1 with fail; refine wp_region_list ?_
 refine xpL (.pointer (some ⟨R,0,none⟩)) ?_; refine xpL (.pointer (some ⟨R,0,none⟩)) ?_; refine xpL (.pointer (some ⟨R,198,none⟩)) ?_; refine xpL (.pointer (some ⟨R,199,none⟩)) ?_; refine xaL (.map m1) (load1 61 _ ⟨R,199,none⟩ _ rfl rfl (fun _=>by kernel_rfl) (M.get mS 199 _ (flat_get _ [1,98,98,1,1,1] (by simp [kck_len]) 5 199 _ rfl rfl))) ?_; refine xpL (.map m1) ?_
 refine xT ?_; go_upto_region 2 with fail; refine wp_region_list ?_; refine xpL (.map m1) ?_
 obtain ⟨w2,hr_,hN2,hg2⟩:=NM.clr HN Tryz.underlying61 0
 replace M:=((M.perm List.perm_middle.symm).touchN hg2).perm List.perm_middle; refine actL (w':=w2) (.tuple #[]) rfl (clrOpM _ rfl rfl hr_) ?_; simp only [Act.put]; replace OF:=OF.trans ((Off.touchedN hg2).mono (fun _ hx=>mT _ hx)); clear HN; have HN:=hN2; clear hr_ hN2 hg2; refine xT ?_; go_upto_region 3 with fail; refine wp_region_list ?_; refine xpL (.pointer (some ⟨R,0,none⟩)) ?_
 refine xpL (.map m1) ?_; refine xpL (.pointer (some ⟨R,0,none⟩)) ?_; refine xpL (.pointer (some ⟨R,0,none⟩)) ?_; refine xpL (.pointer (some ⟨R,198,none⟩)) ?_; refine xpL (.pointer (some ⟨R,198,none⟩)) ?_; refine xaL (.map m0) (load1 61 _ ⟨R,198,none⟩ _ rfl rfl (fun _=>by kernel_rfl) (M.get mS 198 _ (flat_get _ [1,98,98,1,1,1] (by simp [kck_len]) 4 198 _ rfl rfl))) ?_
 refine xpL (.agg #[.map m1,.map m0]) ?_; refine xpL (.pointer (some ⟨R,0,none⟩)) ?_; refine xpL (.pointer (some ⟨R,198,none⟩)) ?_
 replace M:Mm w0 ((R,gcf r ko (yad ki) mc m0 m1)::(mbs m1++T)) w2:=M
 refine skipOpL rfl (storeP [.map m1,.map m0] R 198 62 _ _ rfl rfl rfl (M.thereP mS 198 2 (by rw [gcf_len]; decide)) (by kernel_rfl) (List.all_eq_true.1 (rfl:([.map m1,.map m0]:List Value).all (fun u=>u.oneCell')=true))) ?_; simp only [Act.put]; replace M:=M.setPart [.map m1,.map m0] 198 (by rw [gcf_len]; exact xnR _)
 rw [gcf_two] at M
 replace OF:=OF.and1 ((Off.refl [R] _).setAll (b:=R) mS 198 [.map m1,.map m0]) (.inl (by simp)); replace HN:=HN.off ((Off.refl [R] _).setAll (b:=R) mS 198 [.map m1,.map m0]) (M.aside (g:=[_]) (fun p hp=>List.mem_append_left _ hp)); generalize w2.setCells R 198 [.map m1,.map m0]=w3 at M OF HN ⊢
 replace M:Mm w0 ((R,[[Value.int .i64 r],kck ko,kck (yad ki),[Value.map mc],[Value.map m1],[Value.map m0]].flatten)::(mbs m1++T)) w3:=M
 replace M:Mm w0 ((R,gcf r ko (yad ki) mc m1 m0)::(mbs m1++T)) w3:=M
 exact ⟨rfl,.tuple #[],by kernel_rfl,rfl,M,HN,OF⟩
section
variable {α:Type} {a b c d k:α} {l m n p q A A' B B' t:List α}
theorem mk_ext0 (h:A.Perm (b::A')):(a::c::(m++(n++(p++(A++t))))).Perm (b::a::c::(m++(n++(p++(A'++t))))):=by
 have h1:((a::c::(m++(n++p)))++(A++t)).Perm (b::((a::c::(m++(n++p)))++(A'++t))):=((h.append_right t).append_left _).trans List.perm_middle
 simpa only [List.cons_append,List.append_assoc] using h1
theorem mk_ext1 (h:B.Perm (b::B')):(a::c::(m++(n++(p++(A++(B++t)))))).Perm (b::a::c::(m++(n++(p++(A++(B'++t)))))):=by
 have h1:((a::c::(m++(n++(p++A))))++(B++t)).Perm (b::((a::c::(m++(n++(p++A))))++(B'++t))):=((h.append_right t).append_left _).trans List.perm_middle
 simpa only [List.cons_append,List.append_assoc] using h1
theorem mk_fin0:(b::c::(m++(n++(p++(A++t))))).Perm (c::(m++(n++(p++((b::A)++t))))):=by
 classical
 exact List.perm_iff_count.2 fun x=>by simp only [List.count_append,List.count_cons]; ac_rfl
theorem mk_fin1:(b::c::(m++(n++(p++(A++(B++t)))))).Perm (c::(m++(n++(p++(A++((b::B)++t)))))):=by
 classical
 exact List.perm_iff_count.2 fun x=>by simp only [List.count_append,List.count_cons]; ac_rfl
theorem mk_new0:(k::b::c::(m++([]++(p++(A++t))))).Perm (c::(m++([k]++(p++((b::A)++t))))):=by
 classical
 exact List.perm_iff_count.2 fun x=>by simp only [List.count_append,List.count_cons,List.count_nil,Nat.zero_add]; ac_rfl
theorem mk_new1:(k::b::c::(m++(n++([]++(A++(B++t)))))).Perm (c::(m++(n++([k]++(A++((b::B)++t)))))):=by
 classical
 exact List.perm_iff_count.2 fun x=>by simp only [List.count_append,List.count_cons,List.count_nil,Nat.zero_add]; ac_rfl
theorem mk_go:(a::c::(m++(n++(p++(A++(B++t)))))).Perm (c::(p++(a::(m++(n++(A++(B++t))))))):=by
 classical
 exact List.perm_iff_count.2 fun x=>by simp only [List.count_append,List.count_cons]; ac_rfl
theorem mk_back:(c::(p++(a::(m++(n++(A++t)))))).Perm (a::c::(m++(p++(n++([]++(A++t)))))):=by
 classical
 exact List.perm_iff_count.2 fun x=>by simp only [List.count_append,List.count_cons,List.count_nil,Nat.zero_add]; ac_rfl
end
theorem Wns.at {w:World} {m:Option Nat} {L:Wls} {win:Int→List Int} {x:Int} {b:Nat × List Value} (W:Wns w m L win) (hl:L.lookup x=some b):∃ BW WW,b=(BW,wcv (wtop (win x)) WW)∧Wds WW (win x)∧(L.map Prod.snd).Perm ((BW,wcv (wtop (win x)) WW)::(wout L x).map Prod.snd)∧∃ bm,m=some bm:=by
 have hm:=lookup_mem hl
 obtain ⟨B,V,e1,e2,e3⟩:=W.is _ hm
 injection e3 with e3 _
 have e3':b=(B,wcv (wtop (win x)) V):=e3
 refine ⟨B,V,e3',e2,?_,?_⟩
 · rw [← e3']
   exact (wout_perm hl W.nd).map Prod.snd
 · cases m with
   | some bm=>exact ⟨bm,rfl⟩
   | none =>
     have h:=W.map x
     unfold wpt at h
     rw [hl] at h
     cases h
theorem Wns.wrote {w w':World} {m:Option Nat} {L:Wls} {win:Int→List Int} (W:Wns w m L win) {x:Int} (hx:0≤x∧x≤255) {bm BW:Nat} {V:Nat→Nat} {S:List Int} (hI:IM Tryz.prog 3 w' bm 257 (iput (wpt L) x (.pointer (some ⟨BW,0,none⟩)))) (hV:Wds V S):Wns w' (some bm) ((x,(BW,wcv (wtop S) V))::wout L x) (fun y=>if y=x then S else win y) :=
 W.put hx (m':=some bm) (b:=(BW,wcv (wtop S) V)) (IM.bound hI ukI 256 fun y hy=>by
  by_cases e:y=x
  · subst e; omega
  · rw [iput_other e] at hy
    unfold wpt at hy
    cases hl:L.lookup y with
    | none=>rw [hl] at hy; cases hy
    | some b=>have:=W.rng _ (lookup_mem hl); have h2:0≤y∧y≤255:=this; omega) ⟨BW,V,rfl,hV,rfl⟩
theorem gmk_at {g:Grd} {q:Pkt} {e:Int} (h:q.epo=e):(gmk g q).win e=fun y=>if y=q.path then wmk (g.win e q.path) q.ctr else g.win e y:=by
 funext y
 show (if e=q.epo∧y=q.path then wmk (g.win q.epo q.path) q.ctr else g.win e y)=_
 by_cases c:y=q.path
 · rw [if_pos ⟨h.symm,c⟩,if_pos c,h]
 · rw [if_neg (fun hc=>c hc.2),if_neg c]
theorem gmk_off {g:Grd} {q:Pkt} {e:Int} (h:¬ q.epo=e):(gmk g q).win e=g.win e:=by
 funext y
 show (if e=q.epo∧y=q.path then wmk (g.win q.epo q.path) q.ctr else g.win e y)=_
 rw [if_neg (fun hc=>h hc.1.symm)]
theorem mk_disj {w0 w:World} {l a b:List (Nat × List Value)} (M:Mm w0 l w) (h:(a++b).Sublist l):∀ y∈b,y.1∉a.map Prod.fst:=fun y hy hm=>by
 obtain ⟨z,hz,e⟩:=List.mem_map.1 hm
 exact (List.pairwise_append.1 (M.apart.sublist h)).2.2 z hz y hy e
theorem mk_dis0 {w0 w:World} {R:Nat} {cs:List Value} {m n p A B T:List (Nat × List Value)} (M:Mm w0 ((R,cs)::(m++(n++(p++(A++(B++T)))))) w):∀ y∈p,y.1∉R::((n++A).map Prod.fst):=by
 have h:=mk_disj (a:=(R,cs)::(n++A)) (b:=p) (M.perm (l':=((R,cs)::(n++A)++p)++(m++(B++T))) (by
  classical
  exact List.perm_iff_count.2 fun x=>by simp only [List.count_append,List.count_cons]; ac_rfl)) (List.sublist_append_left _ _)
 exact h
theorem mk_dis1 {w0 w:World} {R:Nat} {cs:List Value} {m n p A B T:List (Nat × List Value)} (M:Mm w0 ((R,cs)::(m++(n++(p++(A++(B++T)))))) w):∀ y∈n,y.1∉R::((p++B).map Prod.fst):=by
 have h:=mk_disj (a:=(R,cs)::(p++B)) (b:=n) (M.perm (l':=((R,cs)::(p++B)++n)++(m++(A++T))) (by
  classical
  exact List.perm_iff_count.2 fun x=>by simp only [List.count_append,List.count_cons]; ac_rfl)) (List.sublist_append_left _ _)
 exact h
theorem mk_dis2 {w0 w:World} {R:Nat} {cs:List Value} {m n p A B T:List (Nat × List Value)} (M:Mm w0 ((R,cs)::(m++(n++(p++(A++(B++T)))))) w):∀ y∈n,y.1∉R::((p++([]:Wls).map Prod.snd).map Prod.fst):=by
 have h:=mk_disj (a:=(R,cs)::(p++([]:Wls).map Prod.snd)) (b:=n) (M.perm (l':=((R,cs)::(p++([]:Wls).map Prod.snd)++n)++(m++(A++(B++T)))) (by
  classical
  exact List.perm_iff_count.2 fun x=>by simp only [List.count_append,List.count_cons,List.map_nil,List.count_nil]; ac_rfl)) (List.sublist_append_left _ _)
 exact h
def Marked (w0 w w':World) (R:Nat) (T:List (Nat × List Value)) (g:Grd) (mc:Option Nat) (X:List Nat):Prop:=∃ m0 m1 L0 L1,Mm w0 ((R,gcf g.role g.out g.inn mc m0 m1)::(mbs mc++(mbs m0++(mbs m1++(L0.map Prod.snd++(L1.map Prod.snd++T)))))) w'∧Wns w' m0 L0 (g.win g.inn.e)∧Wns w' m1 L1 (g.win (g.inn.e-1))∧Off X w w'
theorem gmark_any (w0 w:World) (R:Nat) (T:List (Nat × List Value)) (g:Grd) (mc m0 m1:Option Nat) (L0 L1:Wls) (hg:GGlob w0) (hw:GrdW g) (W0:Wns w m0 L0 (g.win g.inn.e)) (W1:Wns w m1 L1 (g.win (g.inn.e-1))) (q:Pkt) (bp:Option Addr) (bc:Nat) (hx:0≤q.path∧q.path≤255) (hc6:i64 q.ctr) (hnr:g.inn.e-1≤q.epo∧q.epo≤g.inn.e+1) (hnx:q.epo=g.inn.e+1→¬ 65535≤g.inn.e) (M:Mm w0 ((R,gcf g.role g.out g.inn mc m0 m1)::(mbs mc++(mbs m0++(mbs m1++(L0.map Prod.snd++(L1.map Prod.snd++T)))))) w) :
 Calls Tryz.prog 31 #[.pointer (some ⟨R,0,none⟩),.agg (pcs q bp bc).toArray] w fun e' w'=>e'=.returned (.tuple #[])∧Marked w0 w w' R T (gmk (if q.epo=g.inn.e+1 then gon g else g) q) mc (R::((mbs m0++(mbs m1++(L0.map Prod.snd++L1.map Prod.snd))).map Prod.fst)):=by
 have fold:(.agg #[.int .i64 q.kind,.int .i64 q.role,.int .i64 q.path,.int .i64 q.epo,.int .i64 q.ctr,.slice bp q.body.length bc]:Value)=.agg (pcs q bp bc).toArray:=rfl
 rw [← fold]
 clear fold
 have hx6:i64 q.path:=by unfold i64; omega
 have hlo:=hw.inn.lo; have hhi:=hw.inn.hi
 by_cases h1:q.epo=g.inn.e
 · cases hl:L0.lookup q.path with
   | some b =>
     obtain ⟨BW,WW,rfl,hWd,hpm,bm,rfl⟩:=W0.at hl
     have hds:∀ y∈mbs m1,y.1∉R::((mbs (some bm)++L0.map Prod.snd).map Prod.fst):=mk_dis0 M
     have hBX:BW∈R::((mbs (some bm)++L0.map Prod.snd).map Prod.fst):=mT _ (List.mem_map.2 ⟨_,List.mem_append_right _ (List.mem_map.2 ⟨_,lookup_mem hl,rfl⟩),rfl⟩)
     have hmX:bm∈R::((mbs (some bm)++L0.map Prod.snd).map Prod.fst):=mT _ (List.mem_map.2 ⟨(bm,[]),List.mem_append_left _ mS,rfl⟩)
     replace M:Mm w0 ((R,[[Value.int .i64 g.role],kck g.out,kck g.inn,[Value.map mc],[Value.map (some bm)],[Value.map m1]].flatten)::(mbs mc++(mbs (some bm)++(mbs m1++(L0.map Prod.snd++(L1.map Prod.snd++T)))))) w:=M
     have hwz:=xnR w.heap.size; have OF:=Off.refl (R::((mbs (some bm)++L0.map Prod.snd).map Prod.fst)) w
     go_enter Tryz.func31,Tryz.ntmps31
     have HN:=W0.map; go_upto_region 0 with fail; refine wp_region_list ?_; have hlb:=(Below.refl w.heap.size w).alloc (xnR _) (.cells #[.int .i64 q.kind,.int .i64 q.role,.int .i64 q.path,.int .i64 q.epo,.int .i64 q.ctr,.slice bp q.body.length bc] 70)
     refine actL (w':=w.alloc (.cells #[.int .i64 q.kind,.int .i64 q.role,.int .i64 q.path,.int .i64 q.epo,.int .i64 q.ctr,.slice bp q.body.length bc] 70)) (.pointer (some ⟨w.heap.size,0,none⟩)) rfl (by kernel_rfl) ?_; simp only [aP,lI,l0,lS]; have hB_:=hwz; replace hwz:=xnT hwz hlb.size; replace OF:=OF.below hlb; replace HN:=HN.below hlb
     replace M:=M.box #[.int .i64 q.kind,.int .i64 q.role,.int .i64 q.path,.int .i64 q.epo,.int .i64 q.ctr,.slice bp q.body.length bc] 70 w.heap.size rfl; clear hlb; generalize w.alloc (.cells #[.int .i64 q.kind,.int .i64 q.role,.int .i64 q.path,.int .i64 q.epo,.int .i64 q.ctr,.slice bp q.body.length bc] 70)=w1 at M hwz OF HN ⊢; generalize eB_:w.heap.size=B1 at M ⊢
     have hB_B1:w.heap.size≤B1:=by rw [← eB_]; exact hB_
     clear hB_ eB_
     replace M:Mm w0 ((B1,[.int .i64 q.kind,.int .i64 q.role,.int .i64 q.path,.int .i64 q.epo,.int .i64 q.ctr,.slice bp q.body.length bc])::(R,[[Value.int .i64 g.role],kck g.out,kck g.inn,[Value.map mc],[Value.map (some bm)],[Value.map m1]].flatten)::(mbs mc++(mbs (some bm)++(mbs m1++(L0.map Prod.snd++(L1.map Prod.snd++T)))))) w1:=M
     refine xT ?_; replace M:=M.swap; go_upto_region 1 with fail
     refine wp_region_held_drew (S:=fun w'=>Mm w0 ((R,[[Value.int .i64 g.role],kck g.out,kck g.inn,[Value.map mc],[Value.map (some bm)],[Value.map m1]].flatten)::(B1,[.int .i64 q.kind,.int .i64 q.role,.int .i64 q.path,.int .i64 q.epo,.int .i64 q.ctr,.slice bp q.body.length bc])::(mbs mc++(mbs (some bm)++(mbs m1++(L0.map Prod.snd++(L1.map Prod.snd++T)))))) w') (by kernel_rfl) M.drew ?_
     clear M; intro M; have hdr:=(Below.refl w1.heap.size w1).drew; replace hwz:=xnT hwz hdr.size; replace OF:=OF.below hdr; replace HN:=HN.below hdr; clear hdr; generalize w1.drew=w2 at M hwz OF HN ⊢; refine xrH 0 6 rfl (.pointer (some ⟨B1,3,none⟩)) (fun _ M=>(by kernel_rfl)) M ?_
     refine xrH 1 7 rfl (.int .i64 q.epo) (fun _ M=>load1 3 _ ⟨B1,3,none⟩ _ rfl rfl (fun _=>by kernel_rfl) (M.get (mT _ mS) 3 _ rfl)) M ?_; refine xrH 2 8 rfl (.pointer (some ⟨R,0,none⟩)) (fun _ M=>(by kernel_rfl)) M ?_; refine xrH 3 9 rfl (.pointer (some ⟨R,0,none⟩)) (fun _ M=>(by kernel_rfl)) M ?_
     refine xrH 4 10 rfl (.pointer (some ⟨R,99,none⟩)) (fun _ M=>(by kernel_rfl)) M ?_
     replace M:Mm w0 ((R,[[Value.int .i64 g.role],kck g.out,kck g.inn,[Value.map mc],[Value.map (some bm)],[Value.map m1]].flatten)::(B1,[.int .i64 q.kind,.int .i64 q.role,.int .i64 q.path,.int .i64 q.epo,.int .i64 q.ctr,.slice bp q.body.length bc])::(mbs mc++(mbs (some bm)++(mbs m1++(L0.map Prod.snd++(L1.map Prod.snd++T)))))) w2:=M
     refine callH (i:=5) (some 11) rfl (by kernel_rfl) rfl rfl (fun _=>by kernel_rfl) (ginn_epoch M) ?_; rintro e w3 ⟨rfl,l⟩; replace M:=M.call l; replace hwz:=xnT hwz l.size; replace OF:=OF.below l; replace HN:=HN.below l; clear l
     refine ⟨_,rfl,M,?_⟩
     simp only [aP,lI,l0,lS]; refine xrH 6 12 rfl (.bool false) (fun _ M=>gtrI .i64 _ _ _ _ _ _ rfl rfl rfl false (decide_eq_false (by omega)) _) M ?_
     refine wpAnyH_done (by kernel_rfl) ?_ _
     first | show Exit.then _ _ _ _ _ | show Exit.inBlock _ _ _ _ _
     go_upto_region 3 with fail; refine wp_region_list ?_; refine xpL (.pointer (some ⟨R,0,none⟩)) ?_; refine xpL (.pointer (some ⟨B1,3,none⟩)) ?_; refine xaL (.int .i64 q.epo) (load1 3 _ ⟨B1,3,none⟩ _ rfl rfl (fun _=>by kernel_rfl) (M.get (mT _ mS) 3 _ rfl)) ?_; refine xpL (.pointer (some ⟨B1,2,none⟩)) ?_
     refine xaL (.int .i64 q.path) (load1 3 _ ⟨B1,2,none⟩ _ rfl rfl (fun _=>by kernel_rfl) (M.get (mT _ mS) 2 _ rfl)) ?_; refine xcL (gwin_now_found w0 _ R _ g.role g.out g.inn mc (some bm) m1 hw.inn q.epo h1 L0 q.path hx6 HN _ hl M) ?_; rintro e w4 ⟨rfl,l⟩; replace M:=M.call l; replace hwz:=xnT hwz l.size; replace OF:=OF.below l; replace HN:=HN.below l; clear l; refine xeL ?_
     replace M:=M.swap
     replace M:Mm w0 ((BW,wcv (wtop (g.win g.inn.e q.path)) WW)::(B1,[.int .i64 q.kind,.int .i64 q.role,.int .i64 q.path,.int .i64 q.epo,.int .i64 q.ctr,.slice bp q.body.length bc])::(R,[[Value.int .i64 g.role],kck g.out,kck g.inn,[Value.map mc],[Value.map (some bm)],[Value.map m1]].flatten)::(mbs mc++(mbs (some bm)++(mbs m1++((wout L0 q.path).map Prod.snd++(L1.map Prod.snd++T)))))) w4:=M.perm (mk_ext0 hpm)
     replace M:=M.swap; replace M:=M.swap; refine xpL (.pointer (some ⟨BW,0,none⟩)) ?_; refine xT ?_; go_upto_region 4 with fail; refine wp_region_list ?_; refine xpL (.pointer (some ⟨BW,0,none⟩)) ?_; refine xpL (.pointer (some ⟨B1,4,none⟩)) ?_; refine xaL (.int .i64 q.ctr) (load1 3 _ ⟨B1,4,none⟩ _ rfl rfl (fun _=>by kernel_rfl) (M.get (mT _ mS) 4 _ rfl)) ?_
     refine xcL (vmark14_any w0 _ BW _ (g.win g.inn.e q.path) WW (hw.win _ _) hWd q.ctr hc6 M) ?_; rintro e w5 ⟨rfl,VV,hVd,M',o1⟩; clear M; have M:=M'; clear M'; replace hwz:=xnT hwz (Off.size o1); replace OF:=OF.and1 o1 (.inl hBX); replace HN:=HN.off o1 (M.aside (g:=[_]) (fun p hp=>mT _ (mT _ (List.mem_append_right _ (List.mem_append_left _ hp))))); clear o1; refine xeL ?_
     refine xT ?_; replace M:=M.rot3; go_upto_region 5 with fail
     refine wp_region_held_drew (S:=fun w'=>Mm w0 ((R,[[Value.int .i64 g.role],kck g.out,kck g.inn,[Value.map mc],[Value.map (some bm)],[Value.map m1]].flatten)::(BW,wcv (wtop (wmk (g.win g.inn.e q.path) q.ctr)) VV)::(B1,[.int .i64 q.kind,.int .i64 q.role,.int .i64 q.path,.int .i64 q.epo,.int .i64 q.ctr,.slice bp q.body.length bc])::(mbs mc++(mbs (some bm)++(mbs m1++((wout L0 q.path).map Prod.snd++(L1.map Prod.snd++T)))))) w') (by kernel_rfl) M.drew ?_
     clear M; intro M; have hdr:=(Below.refl w5.heap.size w5).drew; replace hwz:=xnT hwz hdr.size; replace OF:=OF.below hdr; replace HN:=HN.below hdr; clear hdr; generalize w5.drew=w6 at M hwz OF HN ⊢; refine xrH 0 25 rfl (.pointer (some ⟨R,0,none⟩)) (fun _ M=>(by kernel_rfl)) M ?_; refine xrH 1 26 rfl (.pointer (some ⟨R,0,none⟩)) (fun _ M=>(by kernel_rfl)) M ?_
     refine xrH 2 27 rfl (.pointer (some ⟨R,99,none⟩)) (fun _ M=>(by kernel_rfl)) M ?_; refine xrH 4 29 rfl (.pointer (some ⟨B1,3,none⟩)) (fun _ M=>(by kernel_rfl)) M ?_; refine xrH 5 30 rfl (.int .i64 q.epo) (fun _ M=>load1 3 _ ⟨B1,3,none⟩ _ rfl rfl (fun _=>by kernel_rfl) (M.get (mI 2 rfl) 3 _ rfl)) M ?_
     replace M:Mm w0 ((R,[[Value.int .i64 g.role],kck g.out,kck g.inn,[Value.map mc],[Value.map (some bm)],[Value.map m1]].flatten)::(BW,wcv (wtop (wmk (g.win g.inn.e q.path) q.ctr)) VV)::(B1,[.int .i64 q.kind,.int .i64 q.role,.int .i64 q.path,.int .i64 q.epo,.int .i64 q.ctr,.slice bp q.body.length bc])::(mbs mc++(mbs (some bm)++(mbs m1++((wout L0 q.path).map Prod.snd++(L1.map Prod.snd++T)))))) w6:=M
     refine callH (i:=3) (some 28) rfl (by kernel_rfl) rfl rfl (fun _=>by kernel_rfl) (ginn_epoch M) ?_; rintro e w7 ⟨rfl,l⟩; replace M:=M.call l; replace hwz:=xnT hwz l.size; replace OF:=OF.below l; replace HN:=HN.below l; clear l
     refine ⟨_,rfl,M,?_⟩
     simp only [aP,lI,l0,lS]; refine xrH 6 31 rfl (.int .i64 0) (fun _ M=>subI .i64 _ _ _ _ _ _ _ rfl rfl rfl (by rw [xw6]; omega) _) M ?_; refine xrH 7 5 rfl (.int .i64 0) (fun _ M=>(by kernel_rfl)) M ?_
     refine wpAnyH_done (by kernel_rfl) ?_ _
     first | show Exit.then _ _ _ _ _ | show Exit.inBlock _ _ _ _ _
     go_upto_region 6 with fail; refine wp_region_list ?_; refine xpL (.pointer (some ⟨R,0,none⟩)) ?_; refine xpL (.int .i64 0) ?_; refine xpL (.pointer (some ⟨R,0,none⟩)) ?_; refine xpL (.pointer (some ⟨R,198,none⟩)) ?_; refine xpL (.pointer (some ⟨R,198,none⟩)) ?_
     refine xaL (.map (some bm)) (load1 61 _ ⟨R,198,none⟩ _ rfl rfl (fun _=>by kernel_rfl) (M.get mS 198 _ (flat_get _ [1,98,98,1,1,1] (by simp [kck_len]) 4 198 _ rfl rfl))) ?_; refine xaL (.bool false) (eqlMN (some bm) _ _ _ _ _ _ false rfl rfl rfl rfl Tryz.underlying61 _) ?_; refine xT ?_; replace M:=M.swap; replace M:=M.rot3; go_upto_region 8 with fail
     refine wp_region_C (S:=fun w'=>Mm w0 ((B1,[.int .i64 q.kind,.int .i64 q.role,.int .i64 q.path,.int .i64 q.epo,.int .i64 q.ctr,.slice bp q.body.length bc])::(BW,wcv (wtop (wmk (g.win g.inn.e q.path) q.ctr)) VV)::(R,[[Value.int .i64 g.role],kck g.out,kck g.inn,[Value.map mc],[Value.map (some bm)],[Value.map m1]].flatten)::(mbs mc++(mbs (some bm)++(mbs m1++((wout L0 q.path).map Prod.snd++(L1.map Prod.snd++T)))))) w') 9 (by kernel_rfl) M.drew ?_
     clear M; intro M; have hdr:=(Below.refl w7.heap.size w7).drew; replace hwz:=xnT hwz hdr.size; replace OF:=OF.below hdr; replace HN:=HN.below hdr; clear hdr; generalize w7.drew=w8 at M hwz OF HN ⊢
     refine readC (i:=0) (some 45) rfl (.pointer (some ⟨R,0,none⟩)) rfl rfl (by kernel_rfl) rfl (fun _ M=>(by kernel_rfl)) (by kernel_rfl) (by kernel_rfl) (by kernel_rfl) (by kernel_rfl) (fun _ _ _ h=>h) M ?_; simp only [aP,lI,l0,lS]
     refine readC (i:=1) (some 46) rfl (.int .i64 0) rfl rfl (by kernel_rfl) rfl (fun _ M=>(by kernel_rfl)) (by kernel_rfl) (by kernel_rfl) (by kernel_rfl) (by kernel_rfl) (fun _ _ _ h=>h) M ?_; simp only [aP,lI,l0,lS]
     refine readC (i:=2) (some 47) rfl (.pointer (some ⟨R,0,none⟩)) rfl rfl (by kernel_rfl) rfl (fun _ M=>(by kernel_rfl)) (by kernel_rfl) (by kernel_rfl) (by kernel_rfl) (by kernel_rfl) (fun _ _ _ h=>h) M ?_; simp only [aP,lI,l0,lS]
     refine readC (i:=3) (some 48) rfl (.pointer (some ⟨R,198,none⟩)) rfl rfl (by kernel_rfl) rfl (fun _ M=>(by kernel_rfl)) (by kernel_rfl) (by kernel_rfl) (by kernel_rfl) (by kernel_rfl) (fun _ _ _ h=>h) M ?_; simp only [aP,lI,l0,lS]
     refine readC (i:=4) (some 49) rfl (.pointer (some ⟨R,198,none⟩)) rfl rfl (by kernel_rfl) rfl (fun _ M=>(by kernel_rfl)) (by kernel_rfl) (by kernel_rfl) (by kernel_rfl) (by kernel_rfl) (fun _ _ _ h=>h) M ?_; simp only [aP,lI,l0,lS]
     refine readC (i:=5) (some 50) rfl (.map (some bm)) rfl rfl (by kernel_rfl) rfl (fun _ M=>load1 61 _ ⟨R,198,none⟩ _ rfl rfl (fun _=>by kernel_rfl) (M.get (mI 2 rfl) 198 _ (flat_get _ [1,98,98,1,1,1] (by simp [kck_len]) 4 198 _ rfl rfl))) (by kernel_rfl) (by kernel_rfl) (by kernel_rfl) (by kernel_rfl) (fun _ _ _ h=>h) M ?_; simp only [aP,lI,l0,lS]
     refine readC (i:=6) (some 51) rfl (.pointer (some ⟨B1,2,none⟩)) rfl rfl (by kernel_rfl) rfl (fun _ M=>(by kernel_rfl)) (by kernel_rfl) (by kernel_rfl) (by kernel_rfl) (by kernel_rfl) (fun _ _ _ h=>h) M ?_; simp only [aP,lI,l0,lS]
     refine readC (i:=7) (some 52) rfl (.int .i64 q.path) rfl rfl (by kernel_rfl) rfl (fun _ M=>load1 3 _ ⟨B1,2,none⟩ _ rfl rfl (fun _=>by kernel_rfl) (M.get mS 2 _ rfl)) (by kernel_rfl) (by kernel_rfl) (by kernel_rfl) (by kernel_rfl) (fun _ _ _ h=>h) M ?_; simp only [aP,lI,l0,lS]
     refine readC (i:=8) (some 53) rfl (.pointer (some ⟨BW,0,none⟩)) rfl rfl (by kernel_rfl) rfl (fun _ M=>(by kernel_rfl)) (by kernel_rfl) (by kernel_rfl) (by kernel_rfl) (by kernel_rfl) (fun _ _ _ h=>h) M ?_; simp only [aP,lI,l0,lS]
     obtain ⟨w9,hr_,I2,hg2⟩:=IM.put HN ukI Tryz.underlying61 (show 256<maxLen by decide) hx6 (.pointer (some ⟨BW,0,none⟩))
     replace M:=Mm.touchIn M (mT _ (mT _ (mT _ ((List.mem_append_right _ (List.mem_append_left _ mS)))))) hg2; refine skipC (S2:=fun _=>True) none rfl (by kernel_rfl) rfl rfl (putOpM _ _ _ rfl rfl rfl rfl hr_) (by kernel_rfl) ?_; simp only [Act.put]; have o1:=Off.touched hg2; replace hwz:=xnT hwz (Off.size o1); replace OF:=OF.and1 o1 (.inl hmX); clear hr_ hg2 o1 HN
     refine wpAnyH_done (by kernel_rfl) ?_ _
     replace M:=M.tail; have WC:=Wns.wrote W0 hx I2 hVd
     have M3:Mm w0 ((R,gcf g.role g.out g.inn mc (some bm) m1)::(mbs mc++(mbs (some bm)++(mbs m1++(((q.path,(BW,wcv (wtop (wmk (g.win g.inn.e q.path) q.ctr)) VV))::wout L0 q.path).map Prod.snd++(L1.map Prod.snd++T)))))) w9:=M.perm mk_fin0
     refine ⟨rfl,.tuple #[],by kernel_rfl,rfl,?_⟩
     rw [if_neg (show ¬ q.epo=g.inn.e+1 by omega)]
     exact ⟨(some bm),m1,((q.path,(BW,wcv (wtop (wmk (g.win g.inn.e q.path) q.ctr)) VV))::wout L0 q.path),L1,M3,(by show Wns _ _ _ ((gmk g q).win g.inn.e); rw [gmk_at (g:=g) h1]; exact WC),(by show Wns _ _ _ ((gmk g q).win (g.inn.e-1)); rw [gmk_off (g:=g) (e:=g.inn.e-1) (by omega)]; exact W1.off OF hds),OF.mono (fun y hy=>by
      simp only [List.map_append,List.mem_cons,List.mem_append] at hy ⊢
      rcases hy with h | h | h; exact .inl h; exact .inr (.inl h); exact .inr (.inr (.inr (.inl h))))⟩
   | none =>
     have hgn:=W0.gone _ hl
     cases m0 with
     | none =>
       have hds:∀ y∈mbs m1,y.1∉R::((mbs none++L0.map Prod.snd).map Prod.fst):=mk_dis0 M
       replace M:Mm w0 ((R,[[Value.int .i64 g.role],kck g.out,kck g.inn,[Value.map mc],[Value.map none],[Value.map m1]].flatten)::(mbs mc++(mbs none++(mbs m1++(L0.map Prod.snd++(L1.map Prod.snd++T)))))) w:=M
       have hwz:=xnR w.heap.size; have OF:=Off.refl (R::((mbs none++L0.map Prod.snd).map Prod.fst)) w
       go_enter Tryz.func31,Tryz.ntmps31
       have HN:=W0.map; go_upto_region 0 with fail; refine wp_region_list ?_; have hlb:=(Below.refl w.heap.size w).alloc (xnR _) (.cells #[.int .i64 q.kind,.int .i64 q.role,.int .i64 q.path,.int .i64 q.epo,.int .i64 q.ctr,.slice bp q.body.length bc] 70)
       refine actL (w':=w.alloc (.cells #[.int .i64 q.kind,.int .i64 q.role,.int .i64 q.path,.int .i64 q.epo,.int .i64 q.ctr,.slice bp q.body.length bc] 70)) (.pointer (some ⟨w.heap.size,0,none⟩)) rfl (by kernel_rfl) ?_; simp only [aP,lI,l0,lS]; have hB_:=hwz; replace hwz:=xnT hwz hlb.size; replace OF:=OF.below hlb; replace HN:=HN.below hlb
       replace M:=M.box #[.int .i64 q.kind,.int .i64 q.role,.int .i64 q.path,.int .i64 q.epo,.int .i64 q.ctr,.slice bp q.body.length bc] 70 w.heap.size rfl; clear hlb; generalize w.alloc (.cells #[.int .i64 q.kind,.int .i64 q.role,.int .i64 q.path,.int .i64 q.epo,.int .i64 q.ctr,.slice bp q.body.length bc] 70)=w1 at M hwz OF HN ⊢; generalize eB_:w.heap.size=B1 at M ⊢
       have hB_B1:w.heap.size≤B1:=by rw [← eB_]; exact hB_
       clear hB_ eB_
       replace M:Mm w0 ((B1,[.int .i64 q.kind,.int .i64 q.role,.int .i64 q.path,.int .i64 q.epo,.int .i64 q.ctr,.slice bp q.body.length bc])::(R,[[Value.int .i64 g.role],kck g.out,kck g.inn,[Value.map mc],[Value.map none],[Value.map m1]].flatten)::(mbs mc++(mbs none++(mbs m1++(L0.map Prod.snd++(L1.map Prod.snd++T)))))) w1:=M
       refine xT ?_; replace M:=M.swap; go_upto_region 1 with fail
       refine wp_region_held_drew (S:=fun w'=>Mm w0 ((R,[[Value.int .i64 g.role],kck g.out,kck g.inn,[Value.map mc],[Value.map none],[Value.map m1]].flatten)::(B1,[.int .i64 q.kind,.int .i64 q.role,.int .i64 q.path,.int .i64 q.epo,.int .i64 q.ctr,.slice bp q.body.length bc])::(mbs mc++(mbs none++(mbs m1++(L0.map Prod.snd++(L1.map Prod.snd++T)))))) w') (by kernel_rfl) M.drew ?_
       clear M; intro M; have hdr:=(Below.refl w1.heap.size w1).drew; replace hwz:=xnT hwz hdr.size; replace OF:=OF.below hdr; replace HN:=HN.below hdr; clear hdr; generalize w1.drew=w2 at M hwz OF HN ⊢; refine xrH 0 6 rfl (.pointer (some ⟨B1,3,none⟩)) (fun _ M=>(by kernel_rfl)) M ?_
       refine xrH 1 7 rfl (.int .i64 q.epo) (fun _ M=>load1 3 _ ⟨B1,3,none⟩ _ rfl rfl (fun _=>by kernel_rfl) (M.get (mT _ mS) 3 _ rfl)) M ?_; refine xrH 2 8 rfl (.pointer (some ⟨R,0,none⟩)) (fun _ M=>(by kernel_rfl)) M ?_; refine xrH 3 9 rfl (.pointer (some ⟨R,0,none⟩)) (fun _ M=>(by kernel_rfl)) M ?_
       refine xrH 4 10 rfl (.pointer (some ⟨R,99,none⟩)) (fun _ M=>(by kernel_rfl)) M ?_
       replace M:Mm w0 ((R,[[Value.int .i64 g.role],kck g.out,kck g.inn,[Value.map mc],[Value.map none],[Value.map m1]].flatten)::(B1,[.int .i64 q.kind,.int .i64 q.role,.int .i64 q.path,.int .i64 q.epo,.int .i64 q.ctr,.slice bp q.body.length bc])::(mbs mc++(mbs none++(mbs m1++(L0.map Prod.snd++(L1.map Prod.snd++T)))))) w2:=M
       refine callH (i:=5) (some 11) rfl (by kernel_rfl) rfl rfl (fun _=>by kernel_rfl) (ginn_epoch M) ?_; rintro e w3 ⟨rfl,l⟩; replace M:=M.call l; replace hwz:=xnT hwz l.size; replace OF:=OF.below l; replace HN:=HN.below l; clear l
       refine ⟨_,rfl,M,?_⟩
       simp only [aP,lI,l0,lS]; refine xrH 6 12 rfl (.bool false) (fun _ M=>gtrI .i64 _ _ _ _ _ _ rfl rfl rfl false (decide_eq_false (by omega)) _) M ?_
       refine wpAnyH_done (by kernel_rfl) ?_ _
       first | show Exit.then _ _ _ _ _ | show Exit.inBlock _ _ _ _ _
       go_upto_region 3 with fail; refine wp_region_list ?_; refine xpL (.pointer (some ⟨R,0,none⟩)) ?_; refine xpL (.pointer (some ⟨B1,3,none⟩)) ?_; refine xaL (.int .i64 q.epo) (load1 3 _ ⟨B1,3,none⟩ _ rfl rfl (fun _=>by kernel_rfl) (M.get (mT _ mS) 3 _ rfl)) ?_; refine xpL (.pointer (some ⟨B1,2,none⟩)) ?_
       refine xaL (.int .i64 q.path) (load1 3 _ ⟨B1,2,none⟩ _ rfl rfl (fun _=>by kernel_rfl) (M.get (mT _ mS) 2 _ rfl)) ?_
       replace M:Mm w0 ((R,[[Value.int .i64 g.role],kck g.out,kck g.inn,[Value.map mc],[Value.map none],[Value.map m1]].flatten)::(B1,[.int .i64 q.kind,.int .i64 q.role,.int .i64 q.path,.int .i64 q.epo,.int .i64 q.ctr,.slice bp q.body.length bc])::(mbs mc++(mbs none++(mbs m1++(L0.map Prod.snd++(L1.map Prod.snd++T)))))) w3:=M
       refine xcL (gwin_now_new w0 _ R _ g.role g.out g.inn mc none m1 hw.inn q.epo h1 L0 q.path hx6 HN hl M) ?_; rintro e w4 ⟨BW,WW,rfl,hB_BW,hWd,M',l1⟩; clear M; have M:=M'; clear M'; replace hB_BW:=xnT hwz hB_BW; replace hwz:=xnT hwz l1.size; replace OF:=OF.below l1; replace HN:=HN.below l1; clear l1; refine xeL ?_
       rw [← hgn] at hWd M
       replace M:Mm w0 ((BW,wcv (wtop (g.win g.inn.e q.path)) WW)::(R,[[Value.int .i64 g.role],kck g.out,kck g.inn,[Value.map mc],[Value.map none],[Value.map m1]].flatten)::(B1,[.int .i64 q.kind,.int .i64 q.role,.int .i64 q.path,.int .i64 q.epo,.int .i64 q.ctr,.slice bp q.body.length bc])::(mbs mc++(mbs none++(mbs m1++((wout L0 q.path).map Prod.snd++(L1.map Prod.snd++T)))))) w4:=by
        rw [wout_none hl]
        exact M
       replace M:=M.rot3; replace M:=M.swap; refine xpL (.pointer (some ⟨BW,0,none⟩)) ?_; refine xT ?_; clear HN; go_upto_region 4 with fail; refine wp_region_list ?_; refine xpL (.pointer (some ⟨BW,0,none⟩)) ?_; refine xpL (.pointer (some ⟨B1,4,none⟩)) ?_; refine xaL (.int .i64 q.ctr) (load1 3 _ ⟨B1,4,none⟩ _ rfl rfl (fun _=>by kernel_rfl) (M.get (mT _ mS) 4 _ rfl)) ?_
       refine xcL (vmark14_any w0 _ BW _ (g.win g.inn.e q.path) WW (hw.win _ _) hWd q.ctr hc6 M) ?_; rintro e w5 ⟨rfl,VV,hVd,M',o1⟩; clear M; have M:=M'; clear M'; replace hwz:=xnT hwz (Off.size o1); replace OF:=OF.and1 o1 (.inr (by omega)); clear o1; refine xeL ?_; refine xT ?_; replace M:=M.rot3; go_upto_region 5 with fail
       refine wp_region_held_drew (S:=fun w'=>Mm w0 ((R,[[Value.int .i64 g.role],kck g.out,kck g.inn,[Value.map mc],[Value.map none],[Value.map m1]].flatten)::(BW,wcv (wtop (wmk (g.win g.inn.e q.path) q.ctr)) VV)::(B1,[.int .i64 q.kind,.int .i64 q.role,.int .i64 q.path,.int .i64 q.epo,.int .i64 q.ctr,.slice bp q.body.length bc])::(mbs mc++(mbs none++(mbs m1++((wout L0 q.path).map Prod.snd++(L1.map Prod.snd++T)))))) w') (by kernel_rfl) M.drew ?_
       clear M; intro M; have hdr:=(Below.refl w5.heap.size w5).drew; replace hwz:=xnT hwz hdr.size; replace OF:=OF.below hdr; clear hdr; generalize w5.drew=w6 at M hwz OF ⊢; refine xrH 0 25 rfl (.pointer (some ⟨R,0,none⟩)) (fun _ M=>(by kernel_rfl)) M ?_; refine xrH 1 26 rfl (.pointer (some ⟨R,0,none⟩)) (fun _ M=>(by kernel_rfl)) M ?_
       refine xrH 2 27 rfl (.pointer (some ⟨R,99,none⟩)) (fun _ M=>(by kernel_rfl)) M ?_; refine xrH 4 29 rfl (.pointer (some ⟨B1,3,none⟩)) (fun _ M=>(by kernel_rfl)) M ?_; refine xrH 5 30 rfl (.int .i64 q.epo) (fun _ M=>load1 3 _ ⟨B1,3,none⟩ _ rfl rfl (fun _=>by kernel_rfl) (M.get (mI 2 rfl) 3 _ rfl)) M ?_
       replace M:Mm w0 ((R,[[Value.int .i64 g.role],kck g.out,kck g.inn,[Value.map mc],[Value.map none],[Value.map m1]].flatten)::(BW,wcv (wtop (wmk (g.win g.inn.e q.path) q.ctr)) VV)::(B1,[.int .i64 q.kind,.int .i64 q.role,.int .i64 q.path,.int .i64 q.epo,.int .i64 q.ctr,.slice bp q.body.length bc])::(mbs mc++(mbs none++(mbs m1++((wout L0 q.path).map Prod.snd++(L1.map Prod.snd++T)))))) w6:=M
       refine callH (i:=3) (some 28) rfl (by kernel_rfl) rfl rfl (fun _=>by kernel_rfl) (ginn_epoch M) ?_; rintro e w7 ⟨rfl,l⟩; replace M:=M.call l; replace hwz:=xnT hwz l.size; replace OF:=OF.below l; clear l
       refine ⟨_,rfl,M,?_⟩
       simp only [aP,lI,l0,lS]; refine xrH 6 31 rfl (.int .i64 0) (fun _ M=>subI .i64 _ _ _ _ _ _ _ rfl rfl rfl (by rw [xw6]; omega) _) M ?_; refine xrH 7 5 rfl (.int .i64 0) (fun _ M=>(by kernel_rfl)) M ?_
       refine wpAnyH_done (by kernel_rfl) ?_ _
       first | show Exit.then _ _ _ _ _ | show Exit.inBlock _ _ _ _ _
       go_upto_region 6 with fail; refine wp_region_list ?_; refine xpL (.pointer (some ⟨R,0,none⟩)) ?_; refine xpL (.int .i64 0) ?_; refine xpL (.pointer (some ⟨R,0,none⟩)) ?_; refine xpL (.pointer (some ⟨R,198,none⟩)) ?_; refine xpL (.pointer (some ⟨R,198,none⟩)) ?_
       refine xaL (.map none) (load1 61 _ ⟨R,198,none⟩ _ rfl rfl (fun _=>by kernel_rfl) (M.get mS 198 _ (flat_get _ [1,98,98,1,1,1] (by simp [kck_len]) 4 198 _ rfl rfl))) ?_; refine xaL (.bool true) (eqlMN none _ _ _ _ _ _ true rfl rfl rfl rfl Tryz.underlying61 _) ?_; refine xT ?_; go_upto_region 7 with fail; refine wp_region_list ?_; refine xpL (.pointer (some ⟨R,0,none⟩)) ?_
       refine xpL (.int .i64 0) ?_; have hlb:=(Below.refl w7.heap.size w7).alloc (xnR _) (.map #[] 0); refine actL (w':=w7.alloc (.map #[] 0)) (.map (some w7.heap.size)) rfl (by kernel_rfl) ?_; simp only [aP,lI,l0,lS]; have hB_:=hwz; replace hwz:=xnT hwz hlb.size; replace OF:=OF.below hlb; have I_B8:=IM.made Tryz.prog 3 w7; replace M:=M.boxM; clear hlb
       generalize w7.alloc (.map #[] 0)=w8 at M I_B8 hwz OF ⊢; generalize eB_:w7.heap.size=B8 at M I_B8 ⊢
       have hB_B8:w.heap.size≤B8:=by rw [← eB_]; exact hB_
       clear hB_ eB_
       replace M:Mm w0 ((B8,[])::(R,[[Value.int .i64 g.role],kck g.out,kck g.inn,[Value.map mc],[Value.map none],[Value.map m1]].flatten)::(BW,wcv (wtop (wmk (g.win g.inn.e q.path) q.ctr)) VV)::(B1,[.int .i64 q.kind,.int .i64 q.role,.int .i64 q.path,.int .i64 q.epo,.int .i64 q.ctr,.slice bp q.body.length bc])::(mbs mc++(mbs none++(mbs m1++((wout L0 q.path).map Prod.snd++(L1.map Prod.snd++T)))))) w8:=M
       refine xpL (.pointer (some ⟨R,0,none⟩)) ?_; refine xpL (.pointer (some ⟨R,198,none⟩)) ?_; refine xpL (.pointer (some ⟨R,198,none⟩)) ?_; replace M:=M.swap
       refine skipOpL rfl (storeAny (.map (some B8)) R 198 61 _ _ rfl rfl rfl rfl rfl (M.isSome mS 198 (by rw [flat_len _ [1,98,98,1,1,1] (by simp [kck_len])]; decide)) (M.free mS 198 (by rw [flat_len _ [1,98,98,1,1,1] (by simp [kck_len])]; decide)) (by kernel_rfl)) ?_
       simp only [Act.put]; replace M:=M.set 198 (by rw [flat_len _ [1,98,98,1,1,1] (by simp [kck_len])]; decide) (.map (some B8))
       rw [flat_set1 _ [1,98,98,1,1,1] (by simp [kck_len]) 4 198 _ (.map (some B8)) rfl rfl] at M
       replace hwz:=xnT hwz (Off.size ((Off.refl [R] _).set (b:=R) mS 198 (.map (some B8)))); replace OF:=OF.and1 ((Off.refl [R] _).set (b:=R) mS 198 (.map (some B8))) (.inl mS); replace I_B8:=I_B8.off ((Off.refl [R] _).set (b:=R) mS 198 (.map (some B8))) (by rw [List.mem_singleton]; exact (M.neq (i:=0) (j:=1) rfl rfl (by decide)).symm)
       generalize w8.setCell ⟨R,198,none⟩ (.map (some B8))=w9 at M hwz OF I_B8 ⊢
       replace M:Mm w0 ((R,[[Value.int .i64 g.role],kck g.out,kck g.inn,[Value.map mc],[Value.map (some B8)],[Value.map m1]].flatten)::(B8,[])::(BW,wcv (wtop (wmk (g.win g.inn.e q.path) q.ctr)) VV)::(B1,[.int .i64 q.kind,.int .i64 q.role,.int .i64 q.path,.int .i64 q.epo,.int .i64 q.ctr,.slice bp q.body.length bc])::(mbs mc++(mbs none++(mbs m1++((wout L0 q.path).map Prod.snd++(L1.map Prod.snd++T)))))) w9:=M
       refine xT ?_; replace M:=M.rot3; replace M:=M.rot3; replace M:=M.rot4; go_upto_region 8 with fail
       refine wp_region_C (S:=fun w'=>Mm w0 ((B1,[.int .i64 q.kind,.int .i64 q.role,.int .i64 q.path,.int .i64 q.epo,.int .i64 q.ctr,.slice bp q.body.length bc])::(B8,[])::(BW,wcv (wtop (wmk (g.win g.inn.e q.path) q.ctr)) VV)::(R,[[Value.int .i64 g.role],kck g.out,kck g.inn,[Value.map mc],[Value.map (some B8)],[Value.map m1]].flatten)::(mbs mc++(mbs none++(mbs m1++((wout L0 q.path).map Prod.snd++(L1.map Prod.snd++T)))))) w') 9 (by kernel_rfl) M.drew ?_
       clear M; intro M; have hdr:=(Below.refl w9.heap.size w9).drew; replace hwz:=xnT hwz hdr.size; replace OF:=OF.below hdr; replace I_B8:=I_B8.below hdr; clear hdr; generalize w9.drew=w10 at M hwz OF I_B8 ⊢
       refine readC (i:=0) (some 45) rfl (.pointer (some ⟨R,0,none⟩)) rfl rfl (by kernel_rfl) rfl (fun _ M=>(by kernel_rfl)) (by kernel_rfl) (by kernel_rfl) (by kernel_rfl) (by kernel_rfl) (fun _ _ _ h=>h) M ?_; simp only [aP,lI,l0,lS]
       refine readC (i:=1) (some 46) rfl (.int .i64 0) rfl rfl (by kernel_rfl) rfl (fun _ M=>(by kernel_rfl)) (by kernel_rfl) (by kernel_rfl) (by kernel_rfl) (by kernel_rfl) (fun _ _ _ h=>h) M ?_; simp only [aP,lI,l0,lS]
       refine readC (i:=2) (some 47) rfl (.pointer (some ⟨R,0,none⟩)) rfl rfl (by kernel_rfl) rfl (fun _ M=>(by kernel_rfl)) (by kernel_rfl) (by kernel_rfl) (by kernel_rfl) (by kernel_rfl) (fun _ _ _ h=>h) M ?_; simp only [aP,lI,l0,lS]
       refine readC (i:=3) (some 48) rfl (.pointer (some ⟨R,198,none⟩)) rfl rfl (by kernel_rfl) rfl (fun _ M=>(by kernel_rfl)) (by kernel_rfl) (by kernel_rfl) (by kernel_rfl) (by kernel_rfl) (fun _ _ _ h=>h) M ?_; simp only [aP,lI,l0,lS]
       refine readC (i:=4) (some 49) rfl (.pointer (some ⟨R,198,none⟩)) rfl rfl (by kernel_rfl) rfl (fun _ M=>(by kernel_rfl)) (by kernel_rfl) (by kernel_rfl) (by kernel_rfl) (by kernel_rfl) (fun _ _ _ h=>h) M ?_; simp only [aP,lI,l0,lS]
       refine readC (i:=5) (some 50) rfl (.map (some B8)) rfl rfl (by kernel_rfl) rfl (fun _ M=>load1 61 _ ⟨R,198,none⟩ _ rfl rfl (fun _=>by kernel_rfl) (M.get (mI 3 rfl) 198 _ (flat_get _ [1,98,98,1,1,1] (by simp [kck_len]) 4 198 _ rfl rfl))) (by kernel_rfl) (by kernel_rfl) (by kernel_rfl) (by kernel_rfl) (fun _ _ _ h=>h) M ?_; simp only [aP,lI,l0,lS]
       refine readC (i:=6) (some 51) rfl (.pointer (some ⟨B1,2,none⟩)) rfl rfl (by kernel_rfl) rfl (fun _ M=>(by kernel_rfl)) (by kernel_rfl) (by kernel_rfl) (by kernel_rfl) (by kernel_rfl) (fun _ _ _ h=>h) M ?_; simp only [aP,lI,l0,lS]
       refine readC (i:=7) (some 52) rfl (.int .i64 q.path) rfl rfl (by kernel_rfl) rfl (fun _ M=>load1 3 _ ⟨B1,2,none⟩ _ rfl rfl (fun _=>by kernel_rfl) (M.get mS 2 _ rfl)) (by kernel_rfl) (by kernel_rfl) (by kernel_rfl) (by kernel_rfl) (fun _ _ _ h=>h) M ?_; simp only [aP,lI,l0,lS]
       refine readC (i:=8) (some 53) rfl (.pointer (some ⟨BW,0,none⟩)) rfl rfl (by kernel_rfl) rfl (fun _ M=>(by kernel_rfl)) (by kernel_rfl) (by kernel_rfl) (by kernel_rfl) (by kernel_rfl) (fun _ _ _ h=>h) M ?_; simp only [aP,lI,l0,lS]
       obtain ⟨w11,hr_,I2,hg2⟩:=IM.put (I_B8.mono (show 0≤256 by decide)) ukI Tryz.underlying61 (show 256<maxLen by decide) hx6 (.pointer (some ⟨BW,0,none⟩))
       replace M:=Mm.touchIn M (mT _ mS) hg2; refine skipC (S2:=fun _=>True) none rfl (by kernel_rfl) rfl rfl (putOpM _ _ _ rfl rfl rfl rfl hr_) (by kernel_rfl) ?_; simp only [Act.put]; have o1:=Off.touched hg2; replace hwz:=xnT hwz (Off.size o1); replace OF:=OF.and1 o1 (.inr (by omega)); clear hr_ hg2 o1 I_B8
       refine wpAnyH_done (by kernel_rfl) ?_ _
       replace M:=M.tail
       have hnf:wpt L0=fun _=>none:=funext W0.map
       rw [← hnf] at I2
       have WC:=Wns.wrote W0 hx I2 hVd
       have M3:Mm w0 ((R,gcf g.role g.out g.inn mc (some B8) m1)::(mbs mc++(mbs (some B8)++(mbs m1++(((q.path,(BW,wcv (wtop (wmk (g.win g.inn.e q.path) q.ctr)) VV))::wout L0 q.path).map Prod.snd++(L1.map Prod.snd++T)))))) w11:=M.perm mk_new0
       refine ⟨rfl,.tuple #[],by kernel_rfl,rfl,?_⟩
       rw [if_neg (show ¬ q.epo=g.inn.e+1 by omega)]
       exact ⟨(some B8),m1,((q.path,(BW,wcv (wtop (wmk (g.win g.inn.e q.path) q.ctr)) VV))::wout L0 q.path),L1,M3,(by show Wns _ _ _ ((gmk g q).win g.inn.e); rw [gmk_at (g:=g) h1]; exact WC),(by show Wns _ _ _ ((gmk g q).win (g.inn.e-1)); rw [gmk_off (g:=g) (e:=g.inn.e-1) (by omega)]; exact W1.off OF hds),OF.mono (fun y hy=>by
        simp only [List.map_append,List.mem_cons,List.mem_append] at hy ⊢
        rcases hy with h | h | h; exact .inl h; exact .inr (.inl h); exact .inr (.inr (.inr (.inl h))))⟩
     | some bm =>
       have hds:∀ y∈mbs m1,y.1∉R::((mbs (some bm)++L0.map Prod.snd).map Prod.fst):=mk_dis0 M
       have hmX:bm∈R::((mbs (some bm)++L0.map Prod.snd).map Prod.fst):=mT _ (List.mem_map.2 ⟨(bm,[]),List.mem_append_left _ mS,rfl⟩)
       replace M:Mm w0 ((R,[[Value.int .i64 g.role],kck g.out,kck g.inn,[Value.map mc],[Value.map (some bm)],[Value.map m1]].flatten)::(mbs mc++(mbs (some bm)++(mbs m1++(L0.map Prod.snd++(L1.map Prod.snd++T)))))) w:=M
       have hwz:=xnR w.heap.size; have OF:=Off.refl (R::((mbs (some bm)++L0.map Prod.snd).map Prod.fst)) w
       go_enter Tryz.func31,Tryz.ntmps31
       have HN:=W0.map; go_upto_region 0 with fail; refine wp_region_list ?_; have hlb:=(Below.refl w.heap.size w).alloc (xnR _) (.cells #[.int .i64 q.kind,.int .i64 q.role,.int .i64 q.path,.int .i64 q.epo,.int .i64 q.ctr,.slice bp q.body.length bc] 70)
       refine actL (w':=w.alloc (.cells #[.int .i64 q.kind,.int .i64 q.role,.int .i64 q.path,.int .i64 q.epo,.int .i64 q.ctr,.slice bp q.body.length bc] 70)) (.pointer (some ⟨w.heap.size,0,none⟩)) rfl (by kernel_rfl) ?_; simp only [aP,lI,l0,lS]; have hB_:=hwz; replace hwz:=xnT hwz hlb.size; replace OF:=OF.below hlb; replace HN:=HN.below hlb
       replace M:=M.box #[.int .i64 q.kind,.int .i64 q.role,.int .i64 q.path,.int .i64 q.epo,.int .i64 q.ctr,.slice bp q.body.length bc] 70 w.heap.size rfl; clear hlb; generalize w.alloc (.cells #[.int .i64 q.kind,.int .i64 q.role,.int .i64 q.path,.int .i64 q.epo,.int .i64 q.ctr,.slice bp q.body.length bc] 70)=w1 at M hwz OF HN ⊢; generalize eB_:w.heap.size=B1 at M ⊢
       have hB_B1:w.heap.size≤B1:=by rw [← eB_]; exact hB_
       clear hB_ eB_
       replace M:Mm w0 ((B1,[.int .i64 q.kind,.int .i64 q.role,.int .i64 q.path,.int .i64 q.epo,.int .i64 q.ctr,.slice bp q.body.length bc])::(R,[[Value.int .i64 g.role],kck g.out,kck g.inn,[Value.map mc],[Value.map (some bm)],[Value.map m1]].flatten)::(mbs mc++(mbs (some bm)++(mbs m1++(L0.map Prod.snd++(L1.map Prod.snd++T)))))) w1:=M
       refine xT ?_; replace M:=M.swap; go_upto_region 1 with fail
       refine wp_region_held_drew (S:=fun w'=>Mm w0 ((R,[[Value.int .i64 g.role],kck g.out,kck g.inn,[Value.map mc],[Value.map (some bm)],[Value.map m1]].flatten)::(B1,[.int .i64 q.kind,.int .i64 q.role,.int .i64 q.path,.int .i64 q.epo,.int .i64 q.ctr,.slice bp q.body.length bc])::(mbs mc++(mbs (some bm)++(mbs m1++(L0.map Prod.snd++(L1.map Prod.snd++T)))))) w') (by kernel_rfl) M.drew ?_
       clear M; intro M; have hdr:=(Below.refl w1.heap.size w1).drew; replace hwz:=xnT hwz hdr.size; replace OF:=OF.below hdr; replace HN:=HN.below hdr; clear hdr; generalize w1.drew=w2 at M hwz OF HN ⊢; refine xrH 0 6 rfl (.pointer (some ⟨B1,3,none⟩)) (fun _ M=>(by kernel_rfl)) M ?_
       refine xrH 1 7 rfl (.int .i64 q.epo) (fun _ M=>load1 3 _ ⟨B1,3,none⟩ _ rfl rfl (fun _=>by kernel_rfl) (M.get (mT _ mS) 3 _ rfl)) M ?_; refine xrH 2 8 rfl (.pointer (some ⟨R,0,none⟩)) (fun _ M=>(by kernel_rfl)) M ?_; refine xrH 3 9 rfl (.pointer (some ⟨R,0,none⟩)) (fun _ M=>(by kernel_rfl)) M ?_
       refine xrH 4 10 rfl (.pointer (some ⟨R,99,none⟩)) (fun _ M=>(by kernel_rfl)) M ?_
       replace M:Mm w0 ((R,[[Value.int .i64 g.role],kck g.out,kck g.inn,[Value.map mc],[Value.map (some bm)],[Value.map m1]].flatten)::(B1,[.int .i64 q.kind,.int .i64 q.role,.int .i64 q.path,.int .i64 q.epo,.int .i64 q.ctr,.slice bp q.body.length bc])::(mbs mc++(mbs (some bm)++(mbs m1++(L0.map Prod.snd++(L1.map Prod.snd++T)))))) w2:=M
       refine callH (i:=5) (some 11) rfl (by kernel_rfl) rfl rfl (fun _=>by kernel_rfl) (ginn_epoch M) ?_; rintro e w3 ⟨rfl,l⟩; replace M:=M.call l; replace hwz:=xnT hwz l.size; replace OF:=OF.below l; replace HN:=HN.below l; clear l
       refine ⟨_,rfl,M,?_⟩
       simp only [aP,lI,l0,lS]; refine xrH 6 12 rfl (.bool false) (fun _ M=>gtrI .i64 _ _ _ _ _ _ rfl rfl rfl false (decide_eq_false (by omega)) _) M ?_
       refine wpAnyH_done (by kernel_rfl) ?_ _
       first | show Exit.then _ _ _ _ _ | show Exit.inBlock _ _ _ _ _
       go_upto_region 3 with fail; refine wp_region_list ?_; refine xpL (.pointer (some ⟨R,0,none⟩)) ?_; refine xpL (.pointer (some ⟨B1,3,none⟩)) ?_; refine xaL (.int .i64 q.epo) (load1 3 _ ⟨B1,3,none⟩ _ rfl rfl (fun _=>by kernel_rfl) (M.get (mT _ mS) 3 _ rfl)) ?_; refine xpL (.pointer (some ⟨B1,2,none⟩)) ?_
       refine xaL (.int .i64 q.path) (load1 3 _ ⟨B1,2,none⟩ _ rfl rfl (fun _=>by kernel_rfl) (M.get (mT _ mS) 2 _ rfl)) ?_
       replace M:Mm w0 ((R,[[Value.int .i64 g.role],kck g.out,kck g.inn,[Value.map mc],[Value.map (some bm)],[Value.map m1]].flatten)::(B1,[.int .i64 q.kind,.int .i64 q.role,.int .i64 q.path,.int .i64 q.epo,.int .i64 q.ctr,.slice bp q.body.length bc])::(mbs mc++(mbs (some bm)++(mbs m1++(L0.map Prod.snd++(L1.map Prod.snd++T)))))) w3:=M
       refine xcL (gwin_now_new w0 _ R _ g.role g.out g.inn mc (some bm) m1 hw.inn q.epo h1 L0 q.path hx6 HN hl M) ?_; rintro e w4 ⟨BW,WW,rfl,hB_BW,hWd,M',l1⟩; clear M; have M:=M'; clear M'; replace hB_BW:=xnT hwz hB_BW; replace hwz:=xnT hwz l1.size; replace OF:=OF.below l1; replace HN:=HN.below l1; clear l1; refine xeL ?_
       rw [← hgn] at hWd M
       replace M:Mm w0 ((BW,wcv (wtop (g.win g.inn.e q.path)) WW)::(R,[[Value.int .i64 g.role],kck g.out,kck g.inn,[Value.map mc],[Value.map (some bm)],[Value.map m1]].flatten)::(B1,[.int .i64 q.kind,.int .i64 q.role,.int .i64 q.path,.int .i64 q.epo,.int .i64 q.ctr,.slice bp q.body.length bc])::(mbs mc++(mbs (some bm)++(mbs m1++((wout L0 q.path).map Prod.snd++(L1.map Prod.snd++T)))))) w4:=by
        rw [wout_none hl]
        exact M
       replace M:=M.rot3; replace M:=M.swap; refine xpL (.pointer (some ⟨BW,0,none⟩)) ?_; refine xT ?_; go_upto_region 4 with fail; refine wp_region_list ?_; refine xpL (.pointer (some ⟨BW,0,none⟩)) ?_; refine xpL (.pointer (some ⟨B1,4,none⟩)) ?_; refine xaL (.int .i64 q.ctr) (load1 3 _ ⟨B1,4,none⟩ _ rfl rfl (fun _=>by kernel_rfl) (M.get (mT _ mS) 4 _ rfl)) ?_
       refine xcL (vmark14_any w0 _ BW _ (g.win g.inn.e q.path) WW (hw.win _ _) hWd q.ctr hc6 M) ?_; rintro e w5 ⟨rfl,VV,hVd,M',o1⟩; clear M; have M:=M'; clear M'; replace hwz:=xnT hwz (Off.size o1); replace OF:=OF.and1 o1 (.inr (by omega)); replace HN:=HN.off o1 (M.aside (g:=[_]) (fun p hp=>mT _ (mT _ (List.mem_append_right _ (List.mem_append_left _ hp))))); clear o1
       refine xeL ?_; refine xT ?_; replace M:=M.rot3; go_upto_region 5 with fail
       refine wp_region_held_drew (S:=fun w'=>Mm w0 ((R,[[Value.int .i64 g.role],kck g.out,kck g.inn,[Value.map mc],[Value.map (some bm)],[Value.map m1]].flatten)::(BW,wcv (wtop (wmk (g.win g.inn.e q.path) q.ctr)) VV)::(B1,[.int .i64 q.kind,.int .i64 q.role,.int .i64 q.path,.int .i64 q.epo,.int .i64 q.ctr,.slice bp q.body.length bc])::(mbs mc++(mbs (some bm)++(mbs m1++((wout L0 q.path).map Prod.snd++(L1.map Prod.snd++T)))))) w') (by kernel_rfl) M.drew ?_
       clear M; intro M; have hdr:=(Below.refl w5.heap.size w5).drew; replace hwz:=xnT hwz hdr.size; replace OF:=OF.below hdr; replace HN:=HN.below hdr; clear hdr; generalize w5.drew=w6 at M hwz OF HN ⊢; refine xrH 0 25 rfl (.pointer (some ⟨R,0,none⟩)) (fun _ M=>(by kernel_rfl)) M ?_; refine xrH 1 26 rfl (.pointer (some ⟨R,0,none⟩)) (fun _ M=>(by kernel_rfl)) M ?_
       refine xrH 2 27 rfl (.pointer (some ⟨R,99,none⟩)) (fun _ M=>(by kernel_rfl)) M ?_; refine xrH 4 29 rfl (.pointer (some ⟨B1,3,none⟩)) (fun _ M=>(by kernel_rfl)) M ?_; refine xrH 5 30 rfl (.int .i64 q.epo) (fun _ M=>load1 3 _ ⟨B1,3,none⟩ _ rfl rfl (fun _=>by kernel_rfl) (M.get (mI 2 rfl) 3 _ rfl)) M ?_
       replace M:Mm w0 ((R,[[Value.int .i64 g.role],kck g.out,kck g.inn,[Value.map mc],[Value.map (some bm)],[Value.map m1]].flatten)::(BW,wcv (wtop (wmk (g.win g.inn.e q.path) q.ctr)) VV)::(B1,[.int .i64 q.kind,.int .i64 q.role,.int .i64 q.path,.int .i64 q.epo,.int .i64 q.ctr,.slice bp q.body.length bc])::(mbs mc++(mbs (some bm)++(mbs m1++((wout L0 q.path).map Prod.snd++(L1.map Prod.snd++T)))))) w6:=M
       refine callH (i:=3) (some 28) rfl (by kernel_rfl) rfl rfl (fun _=>by kernel_rfl) (ginn_epoch M) ?_; rintro e w7 ⟨rfl,l⟩; replace M:=M.call l; replace hwz:=xnT hwz l.size; replace OF:=OF.below l; replace HN:=HN.below l; clear l
       refine ⟨_,rfl,M,?_⟩
       simp only [aP,lI,l0,lS]; refine xrH 6 31 rfl (.int .i64 0) (fun _ M=>subI .i64 _ _ _ _ _ _ _ rfl rfl rfl (by rw [xw6]; omega) _) M ?_; refine xrH 7 5 rfl (.int .i64 0) (fun _ M=>(by kernel_rfl)) M ?_
       refine wpAnyH_done (by kernel_rfl) ?_ _
       first | show Exit.then _ _ _ _ _ | show Exit.inBlock _ _ _ _ _
       go_upto_region 6 with fail; refine wp_region_list ?_; refine xpL (.pointer (some ⟨R,0,none⟩)) ?_; refine xpL (.int .i64 0) ?_; refine xpL (.pointer (some ⟨R,0,none⟩)) ?_; refine xpL (.pointer (some ⟨R,198,none⟩)) ?_; refine xpL (.pointer (some ⟨R,198,none⟩)) ?_
       refine xaL (.map (some bm)) (load1 61 _ ⟨R,198,none⟩ _ rfl rfl (fun _=>by kernel_rfl) (M.get mS 198 _ (flat_get _ [1,98,98,1,1,1] (by simp [kck_len]) 4 198 _ rfl rfl))) ?_; refine xaL (.bool false) (eqlMN (some bm) _ _ _ _ _ _ false rfl rfl rfl rfl Tryz.underlying61 _) ?_; refine xT ?_; replace M:=M.swap; replace M:=M.rot3; go_upto_region 8 with fail
       refine wp_region_C (S:=fun w'=>Mm w0 ((B1,[.int .i64 q.kind,.int .i64 q.role,.int .i64 q.path,.int .i64 q.epo,.int .i64 q.ctr,.slice bp q.body.length bc])::(BW,wcv (wtop (wmk (g.win g.inn.e q.path) q.ctr)) VV)::(R,[[Value.int .i64 g.role],kck g.out,kck g.inn,[Value.map mc],[Value.map (some bm)],[Value.map m1]].flatten)::(mbs mc++(mbs (some bm)++(mbs m1++((wout L0 q.path).map Prod.snd++(L1.map Prod.snd++T)))))) w') 9 (by kernel_rfl) M.drew ?_
       clear M; intro M; have hdr:=(Below.refl w7.heap.size w7).drew; replace hwz:=xnT hwz hdr.size; replace OF:=OF.below hdr; replace HN:=HN.below hdr; clear hdr; generalize w7.drew=w8 at M hwz OF HN ⊢
       refine readC (i:=0) (some 45) rfl (.pointer (some ⟨R,0,none⟩)) rfl rfl (by kernel_rfl) rfl (fun _ M=>(by kernel_rfl)) (by kernel_rfl) (by kernel_rfl) (by kernel_rfl) (by kernel_rfl) (fun _ _ _ h=>h) M ?_; simp only [aP,lI,l0,lS]
       refine readC (i:=1) (some 46) rfl (.int .i64 0) rfl rfl (by kernel_rfl) rfl (fun _ M=>(by kernel_rfl)) (by kernel_rfl) (by kernel_rfl) (by kernel_rfl) (by kernel_rfl) (fun _ _ _ h=>h) M ?_; simp only [aP,lI,l0,lS]
       refine readC (i:=2) (some 47) rfl (.pointer (some ⟨R,0,none⟩)) rfl rfl (by kernel_rfl) rfl (fun _ M=>(by kernel_rfl)) (by kernel_rfl) (by kernel_rfl) (by kernel_rfl) (by kernel_rfl) (fun _ _ _ h=>h) M ?_; simp only [aP,lI,l0,lS]
       refine readC (i:=3) (some 48) rfl (.pointer (some ⟨R,198,none⟩)) rfl rfl (by kernel_rfl) rfl (fun _ M=>(by kernel_rfl)) (by kernel_rfl) (by kernel_rfl) (by kernel_rfl) (by kernel_rfl) (fun _ _ _ h=>h) M ?_; simp only [aP,lI,l0,lS]
       refine readC (i:=4) (some 49) rfl (.pointer (some ⟨R,198,none⟩)) rfl rfl (by kernel_rfl) rfl (fun _ M=>(by kernel_rfl)) (by kernel_rfl) (by kernel_rfl) (by kernel_rfl) (by kernel_rfl) (fun _ _ _ h=>h) M ?_; simp only [aP,lI,l0,lS]
       refine readC (i:=5) (some 50) rfl (.map (some bm)) rfl rfl (by kernel_rfl) rfl (fun _ M=>load1 61 _ ⟨R,198,none⟩ _ rfl rfl (fun _=>by kernel_rfl) (M.get (mI 2 rfl) 198 _ (flat_get _ [1,98,98,1,1,1] (by simp [kck_len]) 4 198 _ rfl rfl))) (by kernel_rfl) (by kernel_rfl) (by kernel_rfl) (by kernel_rfl) (fun _ _ _ h=>h) M ?_; simp only [aP,lI,l0,lS]
       refine readC (i:=6) (some 51) rfl (.pointer (some ⟨B1,2,none⟩)) rfl rfl (by kernel_rfl) rfl (fun _ M=>(by kernel_rfl)) (by kernel_rfl) (by kernel_rfl) (by kernel_rfl) (by kernel_rfl) (fun _ _ _ h=>h) M ?_; simp only [aP,lI,l0,lS]
       refine readC (i:=7) (some 52) rfl (.int .i64 q.path) rfl rfl (by kernel_rfl) rfl (fun _ M=>load1 3 _ ⟨B1,2,none⟩ _ rfl rfl (fun _=>by kernel_rfl) (M.get mS 2 _ rfl)) (by kernel_rfl) (by kernel_rfl) (by kernel_rfl) (by kernel_rfl) (fun _ _ _ h=>h) M ?_; simp only [aP,lI,l0,lS]
       refine readC (i:=8) (some 53) rfl (.pointer (some ⟨BW,0,none⟩)) rfl rfl (by kernel_rfl) rfl (fun _ M=>(by kernel_rfl)) (by kernel_rfl) (by kernel_rfl) (by kernel_rfl) (by kernel_rfl) (fun _ _ _ h=>h) M ?_; simp only [aP,lI,l0,lS]
       obtain ⟨w9,hr_,I2,hg2⟩:=IM.put HN ukI Tryz.underlying61 (show 256<maxLen by decide) hx6 (.pointer (some ⟨BW,0,none⟩))
       replace M:=Mm.touchIn M (mT _ (mT _ (mT _ ((List.mem_append_right _ (List.mem_append_left _ mS)))))) hg2; refine skipC (S2:=fun _=>True) none rfl (by kernel_rfl) rfl rfl (putOpM _ _ _ rfl rfl rfl rfl hr_) (by kernel_rfl) ?_; simp only [Act.put]; have o1:=Off.touched hg2; replace hwz:=xnT hwz (Off.size o1); replace OF:=OF.and1 o1 (.inl hmX); clear hr_ hg2 o1 HN
       refine wpAnyH_done (by kernel_rfl) ?_ _
       replace M:=M.tail; have WC:=Wns.wrote W0 hx I2 hVd
       have M3:Mm w0 ((R,gcf g.role g.out g.inn mc (some bm) m1)::(mbs mc++(mbs (some bm)++(mbs m1++(((q.path,(BW,wcv (wtop (wmk (g.win g.inn.e q.path) q.ctr)) VV))::wout L0 q.path).map Prod.snd++(L1.map Prod.snd++T)))))) w9:=M.perm mk_fin0
       refine ⟨rfl,.tuple #[],by kernel_rfl,rfl,?_⟩
       rw [if_neg (show ¬ q.epo=g.inn.e+1 by omega)]
       exact ⟨(some bm),m1,((q.path,(BW,wcv (wtop (wmk (g.win g.inn.e q.path) q.ctr)) VV))::wout L0 q.path),L1,M3,(by show Wns _ _ _ ((gmk g q).win g.inn.e); rw [gmk_at (g:=g) h1]; exact WC),(by show Wns _ _ _ ((gmk g q).win (g.inn.e-1)); rw [gmk_off (g:=g) (e:=g.inn.e-1) (by omega)]; exact W1.off OF hds),OF.mono (fun y hy=>by
        simp only [List.map_append,List.mem_cons,List.mem_append] at hy ⊢
        rcases hy with h | h | h; exact .inl h; exact .inr (.inl h); exact .inr (.inr (.inr (.inl h))))⟩
 by_cases h2:q.epo=g.inn.e-1
 · replace h1:=h2
   cases hl:L1.lookup q.path with
   | some b =>
     obtain ⟨BW,WW,rfl,hWd,hpm,bm,rfl⟩:=W1.at hl
     have hds:∀ y∈mbs m0,y.1∉R::((mbs (some bm)++L1.map Prod.snd).map Prod.fst):=mk_dis1 M
     have hBX:BW∈R::((mbs (some bm)++L1.map Prod.snd).map Prod.fst):=mT _ (List.mem_map.2 ⟨_,List.mem_append_right _ (List.mem_map.2 ⟨_,lookup_mem hl,rfl⟩),rfl⟩)
     have hmX:bm∈R::((mbs (some bm)++L1.map Prod.snd).map Prod.fst):=mT _ (List.mem_map.2 ⟨(bm,[]),List.mem_append_left _ mS,rfl⟩)
     replace M:Mm w0 ((R,[[Value.int .i64 g.role],kck g.out,kck g.inn,[Value.map mc],[Value.map m0],[Value.map (some bm)]].flatten)::(mbs mc++(mbs m0++(mbs (some bm)++(L0.map Prod.snd++(L1.map Prod.snd++T)))))) w:=M
     have hwz:=xnR w.heap.size; have OF:=Off.refl (R::((mbs (some bm)++L1.map Prod.snd).map Prod.fst)) w
     go_enter Tryz.func31,Tryz.ntmps31
     have HN:=W1.map; go_upto_region 0 with fail; refine wp_region_list ?_; have hlb:=(Below.refl w.heap.size w).alloc (xnR _) (.cells #[.int .i64 q.kind,.int .i64 q.role,.int .i64 q.path,.int .i64 q.epo,.int .i64 q.ctr,.slice bp q.body.length bc] 70)
     refine actL (w':=w.alloc (.cells #[.int .i64 q.kind,.int .i64 q.role,.int .i64 q.path,.int .i64 q.epo,.int .i64 q.ctr,.slice bp q.body.length bc] 70)) (.pointer (some ⟨w.heap.size,0,none⟩)) rfl (by kernel_rfl) ?_; simp only [aP,lI,l0,lS]; have hB_:=hwz; replace hwz:=xnT hwz hlb.size; replace OF:=OF.below hlb; replace HN:=HN.below hlb
     replace M:=M.box #[.int .i64 q.kind,.int .i64 q.role,.int .i64 q.path,.int .i64 q.epo,.int .i64 q.ctr,.slice bp q.body.length bc] 70 w.heap.size rfl; clear hlb; generalize w.alloc (.cells #[.int .i64 q.kind,.int .i64 q.role,.int .i64 q.path,.int .i64 q.epo,.int .i64 q.ctr,.slice bp q.body.length bc] 70)=w1 at M hwz OF HN ⊢; generalize eB_:w.heap.size=B1 at M ⊢
     have hB_B1:w.heap.size≤B1:=by rw [← eB_]; exact hB_
     clear hB_ eB_
     replace M:Mm w0 ((B1,[.int .i64 q.kind,.int .i64 q.role,.int .i64 q.path,.int .i64 q.epo,.int .i64 q.ctr,.slice bp q.body.length bc])::(R,[[Value.int .i64 g.role],kck g.out,kck g.inn,[Value.map mc],[Value.map m0],[Value.map (some bm)]].flatten)::(mbs mc++(mbs m0++(mbs (some bm)++(L0.map Prod.snd++(L1.map Prod.snd++T)))))) w1:=M
     refine xT ?_; replace M:=M.swap; go_upto_region 1 with fail
     refine wp_region_held_drew (S:=fun w'=>Mm w0 ((R,[[Value.int .i64 g.role],kck g.out,kck g.inn,[Value.map mc],[Value.map m0],[Value.map (some bm)]].flatten)::(B1,[.int .i64 q.kind,.int .i64 q.role,.int .i64 q.path,.int .i64 q.epo,.int .i64 q.ctr,.slice bp q.body.length bc])::(mbs mc++(mbs m0++(mbs (some bm)++(L0.map Prod.snd++(L1.map Prod.snd++T)))))) w') (by kernel_rfl) M.drew ?_
     clear M; intro M; have hdr:=(Below.refl w1.heap.size w1).drew; replace hwz:=xnT hwz hdr.size; replace OF:=OF.below hdr; replace HN:=HN.below hdr; clear hdr; generalize w1.drew=w2 at M hwz OF HN ⊢; refine xrH 0 6 rfl (.pointer (some ⟨B1,3,none⟩)) (fun _ M=>(by kernel_rfl)) M ?_
     refine xrH 1 7 rfl (.int .i64 q.epo) (fun _ M=>load1 3 _ ⟨B1,3,none⟩ _ rfl rfl (fun _=>by kernel_rfl) (M.get (mT _ mS) 3 _ rfl)) M ?_; refine xrH 2 8 rfl (.pointer (some ⟨R,0,none⟩)) (fun _ M=>(by kernel_rfl)) M ?_; refine xrH 3 9 rfl (.pointer (some ⟨R,0,none⟩)) (fun _ M=>(by kernel_rfl)) M ?_
     refine xrH 4 10 rfl (.pointer (some ⟨R,99,none⟩)) (fun _ M=>(by kernel_rfl)) M ?_
     replace M:Mm w0 ((R,[[Value.int .i64 g.role],kck g.out,kck g.inn,[Value.map mc],[Value.map m0],[Value.map (some bm)]].flatten)::(B1,[.int .i64 q.kind,.int .i64 q.role,.int .i64 q.path,.int .i64 q.epo,.int .i64 q.ctr,.slice bp q.body.length bc])::(mbs mc++(mbs m0++(mbs (some bm)++(L0.map Prod.snd++(L1.map Prod.snd++T)))))) w2:=M
     refine callH (i:=5) (some 11) rfl (by kernel_rfl) rfl rfl (fun _=>by kernel_rfl) (ginn_epoch M) ?_; rintro e w3 ⟨rfl,l⟩; replace M:=M.call l; replace hwz:=xnT hwz l.size; replace OF:=OF.below l; replace HN:=HN.below l; clear l
     refine ⟨_,rfl,M,?_⟩
     simp only [aP,lI,l0,lS]; refine xrH 6 12 rfl (.bool false) (fun _ M=>gtrI .i64 _ _ _ _ _ _ rfl rfl rfl false (decide_eq_false (by omega)) _) M ?_
     refine wpAnyH_done (by kernel_rfl) ?_ _
     first | show Exit.then _ _ _ _ _ | show Exit.inBlock _ _ _ _ _
     go_upto_region 3 with fail; refine wp_region_list ?_; refine xpL (.pointer (some ⟨R,0,none⟩)) ?_; refine xpL (.pointer (some ⟨B1,3,none⟩)) ?_; refine xaL (.int .i64 q.epo) (load1 3 _ ⟨B1,3,none⟩ _ rfl rfl (fun _=>by kernel_rfl) (M.get (mT _ mS) 3 _ rfl)) ?_; refine xpL (.pointer (some ⟨B1,2,none⟩)) ?_
     refine xaL (.int .i64 q.path) (load1 3 _ ⟨B1,2,none⟩ _ rfl rfl (fun _=>by kernel_rfl) (M.get (mT _ mS) 2 _ rfl)) ?_; refine xcL (gwin_last_found w0 _ R _ g.role g.out g.inn mc m0 (some bm) hw.inn q.epo h1 L1 q.path hx6 HN _ hl M) ?_; rintro e w4 ⟨rfl,l⟩; replace M:=M.call l; replace hwz:=xnT hwz l.size; replace OF:=OF.below l; replace HN:=HN.below l; clear l; refine xeL ?_
     replace M:=M.swap
     replace M:Mm w0 ((BW,wcv (wtop (g.win (g.inn.e-1) q.path)) WW)::(B1,[.int .i64 q.kind,.int .i64 q.role,.int .i64 q.path,.int .i64 q.epo,.int .i64 q.ctr,.slice bp q.body.length bc])::(R,[[Value.int .i64 g.role],kck g.out,kck g.inn,[Value.map mc],[Value.map m0],[Value.map (some bm)]].flatten)::(mbs mc++(mbs m0++(mbs (some bm)++(L0.map Prod.snd++((wout L1 q.path).map Prod.snd++T)))))) w4:=M.perm (mk_ext1 hpm)
     replace M:=M.swap; replace M:=M.swap; refine xpL (.pointer (some ⟨BW,0,none⟩)) ?_; refine xT ?_; go_upto_region 4 with fail; refine wp_region_list ?_; refine xpL (.pointer (some ⟨BW,0,none⟩)) ?_; refine xpL (.pointer (some ⟨B1,4,none⟩)) ?_; refine xaL (.int .i64 q.ctr) (load1 3 _ ⟨B1,4,none⟩ _ rfl rfl (fun _=>by kernel_rfl) (M.get (mT _ mS) 4 _ rfl)) ?_
     refine xcL (vmark14_any w0 _ BW _ (g.win (g.inn.e-1) q.path) WW (hw.win _ _) hWd q.ctr hc6 M) ?_; rintro e w5 ⟨rfl,VV,hVd,M',o1⟩; clear M; have M:=M'; clear M'; replace hwz:=xnT hwz (Off.size o1); replace OF:=OF.and1 o1 (.inl hBX); replace HN:=HN.off o1 (M.aside (g:=[_]) (fun p hp=>mT _ (mT _ (List.mem_append_right _ (List.mem_append_right _ (List.mem_append_left _ hp))))))
     clear o1; refine xeL ?_; refine xT ?_; replace M:=M.rot3; go_upto_region 5 with fail
     refine wp_region_held_drew (S:=fun w'=>Mm w0 ((R,[[Value.int .i64 g.role],kck g.out,kck g.inn,[Value.map mc],[Value.map m0],[Value.map (some bm)]].flatten)::(BW,wcv (wtop (wmk (g.win (g.inn.e-1) q.path) q.ctr)) VV)::(B1,[.int .i64 q.kind,.int .i64 q.role,.int .i64 q.path,.int .i64 q.epo,.int .i64 q.ctr,.slice bp q.body.length bc])::(mbs mc++(mbs m0++(mbs (some bm)++(L0.map Prod.snd++((wout L1 q.path).map Prod.snd++T)))))) w') (by kernel_rfl) M.drew ?_
     clear M; intro M; have hdr:=(Below.refl w5.heap.size w5).drew; replace hwz:=xnT hwz hdr.size; replace OF:=OF.below hdr; replace HN:=HN.below hdr; clear hdr; generalize w5.drew=w6 at M hwz OF HN ⊢; refine xrH 0 25 rfl (.pointer (some ⟨R,0,none⟩)) (fun _ M=>(by kernel_rfl)) M ?_; refine xrH 1 26 rfl (.pointer (some ⟨R,0,none⟩)) (fun _ M=>(by kernel_rfl)) M ?_
     refine xrH 2 27 rfl (.pointer (some ⟨R,99,none⟩)) (fun _ M=>(by kernel_rfl)) M ?_; refine xrH 4 29 rfl (.pointer (some ⟨B1,3,none⟩)) (fun _ M=>(by kernel_rfl)) M ?_; refine xrH 5 30 rfl (.int .i64 q.epo) (fun _ M=>load1 3 _ ⟨B1,3,none⟩ _ rfl rfl (fun _=>by kernel_rfl) (M.get (mI 2 rfl) 3 _ rfl)) M ?_
     replace M:Mm w0 ((R,[[Value.int .i64 g.role],kck g.out,kck g.inn,[Value.map mc],[Value.map m0],[Value.map (some bm)]].flatten)::(BW,wcv (wtop (wmk (g.win (g.inn.e-1) q.path) q.ctr)) VV)::(B1,[.int .i64 q.kind,.int .i64 q.role,.int .i64 q.path,.int .i64 q.epo,.int .i64 q.ctr,.slice bp q.body.length bc])::(mbs mc++(mbs m0++(mbs (some bm)++(L0.map Prod.snd++((wout L1 q.path).map Prod.snd++T)))))) w6:=M
     refine callH (i:=3) (some 28) rfl (by kernel_rfl) rfl rfl (fun _=>by kernel_rfl) (ginn_epoch M) ?_; rintro e w7 ⟨rfl,l⟩; replace M:=M.call l; replace hwz:=xnT hwz l.size; replace OF:=OF.below l; replace HN:=HN.below l; clear l
     refine ⟨_,rfl,M,?_⟩
     simp only [aP,lI,l0,lS]; refine xrH 6 31 rfl (.int .i64 1) (fun _ M=>subI .i64 _ _ _ _ _ _ _ rfl rfl rfl (by rw [xw6]; omega) _) M ?_; refine xrH 7 5 rfl (.int .i64 1) (fun _ M=>(by kernel_rfl)) M ?_
     refine wpAnyH_done (by kernel_rfl) ?_ _
     first | show Exit.then _ _ _ _ _ | show Exit.inBlock _ _ _ _ _
     go_upto_region 6 with fail; refine wp_region_list ?_; refine xpL (.pointer (some ⟨R,0,none⟩)) ?_; refine xpL (.int .i64 1) ?_; refine xpL (.pointer (some ⟨R,0,none⟩)) ?_; refine xpL (.pointer (some ⟨R,198,none⟩)) ?_; refine xpL (.pointer (some ⟨R,199,none⟩)) ?_
     refine xaL (.map (some bm)) (load1 61 _ ⟨R,199,none⟩ _ rfl rfl (fun _=>by kernel_rfl) (M.get mS 199 _ (flat_get _ [1,98,98,1,1,1] (by simp [kck_len]) 5 199 _ rfl rfl))) ?_; refine xaL (.bool false) (eqlMN (some bm) _ _ _ _ _ _ false rfl rfl rfl rfl Tryz.underlying61 _) ?_; refine xT ?_; replace M:=M.swap; replace M:=M.rot3; go_upto_region 8 with fail
     refine wp_region_C (S:=fun w'=>Mm w0 ((B1,[.int .i64 q.kind,.int .i64 q.role,.int .i64 q.path,.int .i64 q.epo,.int .i64 q.ctr,.slice bp q.body.length bc])::(BW,wcv (wtop (wmk (g.win (g.inn.e-1) q.path) q.ctr)) VV)::(R,[[Value.int .i64 g.role],kck g.out,kck g.inn,[Value.map mc],[Value.map m0],[Value.map (some bm)]].flatten)::(mbs mc++(mbs m0++(mbs (some bm)++(L0.map Prod.snd++((wout L1 q.path).map Prod.snd++T)))))) w') 9 (by kernel_rfl) M.drew ?_
     clear M; intro M; have hdr:=(Below.refl w7.heap.size w7).drew; replace hwz:=xnT hwz hdr.size; replace OF:=OF.below hdr; replace HN:=HN.below hdr; clear hdr; generalize w7.drew=w8 at M hwz OF HN ⊢
     refine readC (i:=0) (some 45) rfl (.pointer (some ⟨R,0,none⟩)) rfl rfl (by kernel_rfl) rfl (fun _ M=>(by kernel_rfl)) (by kernel_rfl) (by kernel_rfl) (by kernel_rfl) (by kernel_rfl) (fun _ _ _ h=>h) M ?_; simp only [aP,lI,l0,lS]
     refine readC (i:=1) (some 46) rfl (.int .i64 1) rfl rfl (by kernel_rfl) rfl (fun _ M=>(by kernel_rfl)) (by kernel_rfl) (by kernel_rfl) (by kernel_rfl) (by kernel_rfl) (fun _ _ _ h=>h) M ?_; simp only [aP,lI,l0,lS]
     refine readC (i:=2) (some 47) rfl (.pointer (some ⟨R,0,none⟩)) rfl rfl (by kernel_rfl) rfl (fun _ M=>(by kernel_rfl)) (by kernel_rfl) (by kernel_rfl) (by kernel_rfl) (by kernel_rfl) (fun _ _ _ h=>h) M ?_; simp only [aP,lI,l0,lS]
     refine readC (i:=3) (some 48) rfl (.pointer (some ⟨R,198,none⟩)) rfl rfl (by kernel_rfl) rfl (fun _ M=>(by kernel_rfl)) (by kernel_rfl) (by kernel_rfl) (by kernel_rfl) (by kernel_rfl) (fun _ _ _ h=>h) M ?_; simp only [aP,lI,l0,lS]
     refine readC (i:=4) (some 49) rfl (.pointer (some ⟨R,199,none⟩)) rfl rfl (by kernel_rfl) rfl (fun _ M=>(by kernel_rfl)) (by kernel_rfl) (by kernel_rfl) (by kernel_rfl) (by kernel_rfl) (fun _ _ _ h=>h) M ?_; simp only [aP,lI,l0,lS]
     refine readC (i:=5) (some 50) rfl (.map (some bm)) rfl rfl (by kernel_rfl) rfl (fun _ M=>load1 61 _ ⟨R,199,none⟩ _ rfl rfl (fun _=>by kernel_rfl) (M.get (mI 2 rfl) 199 _ (flat_get _ [1,98,98,1,1,1] (by simp [kck_len]) 5 199 _ rfl rfl))) (by kernel_rfl) (by kernel_rfl) (by kernel_rfl) (by kernel_rfl) (fun _ _ _ h=>h) M ?_; simp only [aP,lI,l0,lS]
     refine readC (i:=6) (some 51) rfl (.pointer (some ⟨B1,2,none⟩)) rfl rfl (by kernel_rfl) rfl (fun _ M=>(by kernel_rfl)) (by kernel_rfl) (by kernel_rfl) (by kernel_rfl) (by kernel_rfl) (fun _ _ _ h=>h) M ?_; simp only [aP,lI,l0,lS]
     refine readC (i:=7) (some 52) rfl (.int .i64 q.path) rfl rfl (by kernel_rfl) rfl (fun _ M=>load1 3 _ ⟨B1,2,none⟩ _ rfl rfl (fun _=>by kernel_rfl) (M.get mS 2 _ rfl)) (by kernel_rfl) (by kernel_rfl) (by kernel_rfl) (by kernel_rfl) (fun _ _ _ h=>h) M ?_; simp only [aP,lI,l0,lS]
     refine readC (i:=8) (some 53) rfl (.pointer (some ⟨BW,0,none⟩)) rfl rfl (by kernel_rfl) rfl (fun _ M=>(by kernel_rfl)) (by kernel_rfl) (by kernel_rfl) (by kernel_rfl) (by kernel_rfl) (fun _ _ _ h=>h) M ?_; simp only [aP,lI,l0,lS]
     obtain ⟨w9,hr_,I2,hg2⟩:=IM.put HN ukI Tryz.underlying61 (show 256<maxLen by decide) hx6 (.pointer (some ⟨BW,0,none⟩))
     replace M:=Mm.touchIn M (mT _ (mT _ (mT _ ((List.mem_append_right _ (List.mem_append_right _ (List.mem_append_left _ mS))))))) hg2; refine skipC (S2:=fun _=>True) none rfl (by kernel_rfl) rfl rfl (putOpM _ _ _ rfl rfl rfl rfl hr_) (by kernel_rfl) ?_; simp only [Act.put]; have o1:=Off.touched hg2; replace hwz:=xnT hwz (Off.size o1); replace OF:=OF.and1 o1 (.inl hmX)
     clear hr_ hg2 o1 HN
     refine wpAnyH_done (by kernel_rfl) ?_ _
     replace M:=M.tail; have WC:=Wns.wrote W1 hx I2 hVd
     have M3:Mm w0 ((R,gcf g.role g.out g.inn mc m0 (some bm))::(mbs mc++(mbs m0++(mbs (some bm)++(L0.map Prod.snd++(((q.path,(BW,wcv (wtop (wmk (g.win (g.inn.e-1) q.path) q.ctr)) VV))::wout L1 q.path).map Prod.snd++T)))))) w9:=M.perm mk_fin1
     refine ⟨rfl,.tuple #[],by kernel_rfl,rfl,?_⟩
     rw [if_neg (show ¬ q.epo=g.inn.e+1 by omega)]
     exact ⟨m0,(some bm),L0,((q.path,(BW,wcv (wtop (wmk (g.win (g.inn.e-1) q.path) q.ctr)) VV))::wout L1 q.path),M3,(by show Wns _ _ _ ((gmk g q).win g.inn.e); rw [gmk_off (g:=g) (e:=g.inn.e) (by omega)]; exact W0.off OF hds),(by show Wns _ _ _ ((gmk g q).win (g.inn.e-1)); rw [gmk_at (g:=g) h1]; exact WC),OF.mono (fun y hy=>by
      simp only [List.map_append,List.mem_cons,List.mem_append] at hy ⊢
      rcases hy with h | h | h; exact .inl h; exact .inr (.inr (.inl h)); exact .inr (.inr (.inr (.inr h))))⟩
   | none =>
     have hgn:=W1.gone _ hl
     cases m1 with
     | none =>
       have hds:∀ y∈mbs m0,y.1∉R::((mbs none++L1.map Prod.snd).map Prod.fst):=mk_dis1 M
       replace M:Mm w0 ((R,[[Value.int .i64 g.role],kck g.out,kck g.inn,[Value.map mc],[Value.map m0],[Value.map none]].flatten)::(mbs mc++(mbs m0++(mbs none++(L0.map Prod.snd++(L1.map Prod.snd++T)))))) w:=M
       have hwz:=xnR w.heap.size; have OF:=Off.refl (R::((mbs none++L1.map Prod.snd).map Prod.fst)) w
       go_enter Tryz.func31,Tryz.ntmps31
       have HN:=W1.map; go_upto_region 0 with fail; refine wp_region_list ?_; have hlb:=(Below.refl w.heap.size w).alloc (xnR _) (.cells #[.int .i64 q.kind,.int .i64 q.role,.int .i64 q.path,.int .i64 q.epo,.int .i64 q.ctr,.slice bp q.body.length bc] 70)
       refine actL (w':=w.alloc (.cells #[.int .i64 q.kind,.int .i64 q.role,.int .i64 q.path,.int .i64 q.epo,.int .i64 q.ctr,.slice bp q.body.length bc] 70)) (.pointer (some ⟨w.heap.size,0,none⟩)) rfl (by kernel_rfl) ?_; simp only [aP,lI,l0,lS]; have hB_:=hwz; replace hwz:=xnT hwz hlb.size; replace OF:=OF.below hlb; replace HN:=HN.below hlb
       replace M:=M.box #[.int .i64 q.kind,.int .i64 q.role,.int .i64 q.path,.int .i64 q.epo,.int .i64 q.ctr,.slice bp q.body.length bc] 70 w.heap.size rfl; clear hlb; generalize w.alloc (.cells #[.int .i64 q.kind,.int .i64 q.role,.int .i64 q.path,.int .i64 q.epo,.int .i64 q.ctr,.slice bp q.body.length bc] 70)=w1 at M hwz OF HN ⊢; generalize eB_:w.heap.size=B1 at M ⊢
       have hB_B1:w.heap.size≤B1:=by rw [← eB_]; exact hB_
       clear hB_ eB_
       replace M:Mm w0 ((B1,[.int .i64 q.kind,.int .i64 q.role,.int .i64 q.path,.int .i64 q.epo,.int .i64 q.ctr,.slice bp q.body.length bc])::(R,[[Value.int .i64 g.role],kck g.out,kck g.inn,[Value.map mc],[Value.map m0],[Value.map none]].flatten)::(mbs mc++(mbs m0++(mbs none++(L0.map Prod.snd++(L1.map Prod.snd++T)))))) w1:=M
       refine xT ?_; replace M:=M.swap; go_upto_region 1 with fail
       refine wp_region_held_drew (S:=fun w'=>Mm w0 ((R,[[Value.int .i64 g.role],kck g.out,kck g.inn,[Value.map mc],[Value.map m0],[Value.map none]].flatten)::(B1,[.int .i64 q.kind,.int .i64 q.role,.int .i64 q.path,.int .i64 q.epo,.int .i64 q.ctr,.slice bp q.body.length bc])::(mbs mc++(mbs m0++(mbs none++(L0.map Prod.snd++(L1.map Prod.snd++T)))))) w') (by kernel_rfl) M.drew ?_
       clear M; intro M; have hdr:=(Below.refl w1.heap.size w1).drew; replace hwz:=xnT hwz hdr.size; replace OF:=OF.below hdr; replace HN:=HN.below hdr; clear hdr; generalize w1.drew=w2 at M hwz OF HN ⊢; refine xrH 0 6 rfl (.pointer (some ⟨B1,3,none⟩)) (fun _ M=>(by kernel_rfl)) M ?_
       refine xrH 1 7 rfl (.int .i64 q.epo) (fun _ M=>load1 3 _ ⟨B1,3,none⟩ _ rfl rfl (fun _=>by kernel_rfl) (M.get (mT _ mS) 3 _ rfl)) M ?_; refine xrH 2 8 rfl (.pointer (some ⟨R,0,none⟩)) (fun _ M=>(by kernel_rfl)) M ?_; refine xrH 3 9 rfl (.pointer (some ⟨R,0,none⟩)) (fun _ M=>(by kernel_rfl)) M ?_
       refine xrH 4 10 rfl (.pointer (some ⟨R,99,none⟩)) (fun _ M=>(by kernel_rfl)) M ?_
       replace M:Mm w0 ((R,[[Value.int .i64 g.role],kck g.out,kck g.inn,[Value.map mc],[Value.map m0],[Value.map none]].flatten)::(B1,[.int .i64 q.kind,.int .i64 q.role,.int .i64 q.path,.int .i64 q.epo,.int .i64 q.ctr,.slice bp q.body.length bc])::(mbs mc++(mbs m0++(mbs none++(L0.map Prod.snd++(L1.map Prod.snd++T)))))) w2:=M
       refine callH (i:=5) (some 11) rfl (by kernel_rfl) rfl rfl (fun _=>by kernel_rfl) (ginn_epoch M) ?_; rintro e w3 ⟨rfl,l⟩; replace M:=M.call l; replace hwz:=xnT hwz l.size; replace OF:=OF.below l; replace HN:=HN.below l; clear l
       refine ⟨_,rfl,M,?_⟩
       simp only [aP,lI,l0,lS]; refine xrH 6 12 rfl (.bool false) (fun _ M=>gtrI .i64 _ _ _ _ _ _ rfl rfl rfl false (decide_eq_false (by omega)) _) M ?_
       refine wpAnyH_done (by kernel_rfl) ?_ _
       first | show Exit.then _ _ _ _ _ | show Exit.inBlock _ _ _ _ _
       go_upto_region 3 with fail; refine wp_region_list ?_; refine xpL (.pointer (some ⟨R,0,none⟩)) ?_; refine xpL (.pointer (some ⟨B1,3,none⟩)) ?_; refine xaL (.int .i64 q.epo) (load1 3 _ ⟨B1,3,none⟩ _ rfl rfl (fun _=>by kernel_rfl) (M.get (mT _ mS) 3 _ rfl)) ?_; refine xpL (.pointer (some ⟨B1,2,none⟩)) ?_
       refine xaL (.int .i64 q.path) (load1 3 _ ⟨B1,2,none⟩ _ rfl rfl (fun _=>by kernel_rfl) (M.get (mT _ mS) 2 _ rfl)) ?_
       replace M:Mm w0 ((R,[[Value.int .i64 g.role],kck g.out,kck g.inn,[Value.map mc],[Value.map m0],[Value.map none]].flatten)::(B1,[.int .i64 q.kind,.int .i64 q.role,.int .i64 q.path,.int .i64 q.epo,.int .i64 q.ctr,.slice bp q.body.length bc])::(mbs mc++(mbs m0++(mbs none++(L0.map Prod.snd++(L1.map Prod.snd++T)))))) w3:=M
       refine xcL (gwin_last_new w0 _ R _ g.role g.out g.inn mc m0 none hw.inn q.epo h1 L1 q.path hx6 HN hl M) ?_; rintro e w4 ⟨BW,WW,rfl,hB_BW,hWd,M',l1⟩; clear M; have M:=M'; clear M'; replace hB_BW:=xnT hwz hB_BW; replace hwz:=xnT hwz l1.size; replace OF:=OF.below l1; replace HN:=HN.below l1; clear l1; refine xeL ?_
       rw [← hgn] at hWd M
       replace M:Mm w0 ((BW,wcv (wtop (g.win (g.inn.e-1) q.path)) WW)::(R,[[Value.int .i64 g.role],kck g.out,kck g.inn,[Value.map mc],[Value.map m0],[Value.map none]].flatten)::(B1,[.int .i64 q.kind,.int .i64 q.role,.int .i64 q.path,.int .i64 q.epo,.int .i64 q.ctr,.slice bp q.body.length bc])::(mbs mc++(mbs m0++(mbs none++(L0.map Prod.snd++((wout L1 q.path).map Prod.snd++T)))))) w4:=by
        rw [wout_none hl]
        exact M
       replace M:=M.rot3; replace M:=M.swap; refine xpL (.pointer (some ⟨BW,0,none⟩)) ?_; refine xT ?_; clear HN; go_upto_region 4 with fail; refine wp_region_list ?_; refine xpL (.pointer (some ⟨BW,0,none⟩)) ?_; refine xpL (.pointer (some ⟨B1,4,none⟩)) ?_; refine xaL (.int .i64 q.ctr) (load1 3 _ ⟨B1,4,none⟩ _ rfl rfl (fun _=>by kernel_rfl) (M.get (mT _ mS) 4 _ rfl)) ?_
       refine xcL (vmark14_any w0 _ BW _ (g.win (g.inn.e-1) q.path) WW (hw.win _ _) hWd q.ctr hc6 M) ?_; rintro e w5 ⟨rfl,VV,hVd,M',o1⟩; clear M; have M:=M'; clear M'; replace hwz:=xnT hwz (Off.size o1); replace OF:=OF.and1 o1 (.inr (by omega)); clear o1; refine xeL ?_; refine xT ?_; replace M:=M.rot3; go_upto_region 5 with fail
       refine wp_region_held_drew (S:=fun w'=>Mm w0 ((R,[[Value.int .i64 g.role],kck g.out,kck g.inn,[Value.map mc],[Value.map m0],[Value.map none]].flatten)::(BW,wcv (wtop (wmk (g.win (g.inn.e-1) q.path) q.ctr)) VV)::(B1,[.int .i64 q.kind,.int .i64 q.role,.int .i64 q.path,.int .i64 q.epo,.int .i64 q.ctr,.slice bp q.body.length bc])::(mbs mc++(mbs m0++(mbs none++(L0.map Prod.snd++((wout L1 q.path).map Prod.snd++T)))))) w') (by kernel_rfl) M.drew ?_
       clear M; intro M; have hdr:=(Below.refl w5.heap.size w5).drew; replace hwz:=xnT hwz hdr.size; replace OF:=OF.below hdr; clear hdr; generalize w5.drew=w6 at M hwz OF ⊢; refine xrH 0 25 rfl (.pointer (some ⟨R,0,none⟩)) (fun _ M=>(by kernel_rfl)) M ?_; refine xrH 1 26 rfl (.pointer (some ⟨R,0,none⟩)) (fun _ M=>(by kernel_rfl)) M ?_
       refine xrH 2 27 rfl (.pointer (some ⟨R,99,none⟩)) (fun _ M=>(by kernel_rfl)) M ?_; refine xrH 4 29 rfl (.pointer (some ⟨B1,3,none⟩)) (fun _ M=>(by kernel_rfl)) M ?_; refine xrH 5 30 rfl (.int .i64 q.epo) (fun _ M=>load1 3 _ ⟨B1,3,none⟩ _ rfl rfl (fun _=>by kernel_rfl) (M.get (mI 2 rfl) 3 _ rfl)) M ?_
       replace M:Mm w0 ((R,[[Value.int .i64 g.role],kck g.out,kck g.inn,[Value.map mc],[Value.map m0],[Value.map none]].flatten)::(BW,wcv (wtop (wmk (g.win (g.inn.e-1) q.path) q.ctr)) VV)::(B1,[.int .i64 q.kind,.int .i64 q.role,.int .i64 q.path,.int .i64 q.epo,.int .i64 q.ctr,.slice bp q.body.length bc])::(mbs mc++(mbs m0++(mbs none++(L0.map Prod.snd++((wout L1 q.path).map Prod.snd++T)))))) w6:=M
       refine callH (i:=3) (some 28) rfl (by kernel_rfl) rfl rfl (fun _=>by kernel_rfl) (ginn_epoch M) ?_; rintro e w7 ⟨rfl,l⟩; replace M:=M.call l; replace hwz:=xnT hwz l.size; replace OF:=OF.below l; clear l
       refine ⟨_,rfl,M,?_⟩
       simp only [aP,lI,l0,lS]; refine xrH 6 31 rfl (.int .i64 1) (fun _ M=>subI .i64 _ _ _ _ _ _ _ rfl rfl rfl (by rw [xw6]; omega) _) M ?_; refine xrH 7 5 rfl (.int .i64 1) (fun _ M=>(by kernel_rfl)) M ?_
       refine wpAnyH_done (by kernel_rfl) ?_ _
       first | show Exit.then _ _ _ _ _ | show Exit.inBlock _ _ _ _ _
       go_upto_region 6 with fail; refine wp_region_list ?_; refine xpL (.pointer (some ⟨R,0,none⟩)) ?_; refine xpL (.int .i64 1) ?_; refine xpL (.pointer (some ⟨R,0,none⟩)) ?_; refine xpL (.pointer (some ⟨R,198,none⟩)) ?_; refine xpL (.pointer (some ⟨R,199,none⟩)) ?_
       refine xaL (.map none) (load1 61 _ ⟨R,199,none⟩ _ rfl rfl (fun _=>by kernel_rfl) (M.get mS 199 _ (flat_get _ [1,98,98,1,1,1] (by simp [kck_len]) 5 199 _ rfl rfl))) ?_; refine xaL (.bool true) (eqlMN none _ _ _ _ _ _ true rfl rfl rfl rfl Tryz.underlying61 _) ?_; refine xT ?_; go_upto_region 7 with fail; refine wp_region_list ?_; refine xpL (.pointer (some ⟨R,0,none⟩)) ?_
       refine xpL (.int .i64 1) ?_; have hlb:=(Below.refl w7.heap.size w7).alloc (xnR _) (.map #[] 0); refine actL (w':=w7.alloc (.map #[] 0)) (.map (some w7.heap.size)) rfl (by kernel_rfl) ?_; simp only [aP,lI,l0,lS]; have hB_:=hwz; replace hwz:=xnT hwz hlb.size; replace OF:=OF.below hlb; have I_B8:=IM.made Tryz.prog 3 w7; replace M:=M.boxM; clear hlb
       generalize w7.alloc (.map #[] 0)=w8 at M I_B8 hwz OF ⊢; generalize eB_:w7.heap.size=B8 at M I_B8 ⊢
       have hB_B8:w.heap.size≤B8:=by rw [← eB_]; exact hB_
       clear hB_ eB_
       replace M:Mm w0 ((B8,[])::(R,[[Value.int .i64 g.role],kck g.out,kck g.inn,[Value.map mc],[Value.map m0],[Value.map none]].flatten)::(BW,wcv (wtop (wmk (g.win (g.inn.e-1) q.path) q.ctr)) VV)::(B1,[.int .i64 q.kind,.int .i64 q.role,.int .i64 q.path,.int .i64 q.epo,.int .i64 q.ctr,.slice bp q.body.length bc])::(mbs mc++(mbs m0++(mbs none++(L0.map Prod.snd++((wout L1 q.path).map Prod.snd++T)))))) w8:=M
       refine xpL (.pointer (some ⟨R,0,none⟩)) ?_; refine xpL (.pointer (some ⟨R,198,none⟩)) ?_; refine xpL (.pointer (some ⟨R,199,none⟩)) ?_; replace M:=M.swap
       refine skipOpL rfl (storeAny (.map (some B8)) R 199 61 _ _ rfl rfl rfl rfl rfl (M.isSome mS 199 (by rw [flat_len _ [1,98,98,1,1,1] (by simp [kck_len])]; decide)) (M.free mS 199 (by rw [flat_len _ [1,98,98,1,1,1] (by simp [kck_len])]; decide)) (by kernel_rfl)) ?_
       simp only [Act.put]; replace M:=M.set 199 (by rw [flat_len _ [1,98,98,1,1,1] (by simp [kck_len])]; decide) (.map (some B8))
       rw [flat_set1 _ [1,98,98,1,1,1] (by simp [kck_len]) 5 199 _ (.map (some B8)) rfl rfl] at M
       replace hwz:=xnT hwz (Off.size ((Off.refl [R] _).set (b:=R) mS 199 (.map (some B8)))); replace OF:=OF.and1 ((Off.refl [R] _).set (b:=R) mS 199 (.map (some B8))) (.inl mS); replace I_B8:=I_B8.off ((Off.refl [R] _).set (b:=R) mS 199 (.map (some B8))) (by rw [List.mem_singleton]; exact (M.neq (i:=0) (j:=1) rfl rfl (by decide)).symm)
       generalize w8.setCell ⟨R,199,none⟩ (.map (some B8))=w9 at M hwz OF I_B8 ⊢
       replace M:Mm w0 ((R,[[Value.int .i64 g.role],kck g.out,kck g.inn,[Value.map mc],[Value.map m0],[Value.map (some B8)]].flatten)::(B8,[])::(BW,wcv (wtop (wmk (g.win (g.inn.e-1) q.path) q.ctr)) VV)::(B1,[.int .i64 q.kind,.int .i64 q.role,.int .i64 q.path,.int .i64 q.epo,.int .i64 q.ctr,.slice bp q.body.length bc])::(mbs mc++(mbs m0++(mbs none++(L0.map Prod.snd++((wout L1 q.path).map Prod.snd++T)))))) w9:=M
       refine xT ?_; replace M:=M.rot3; replace M:=M.rot3; replace M:=M.rot4; go_upto_region 8 with fail
       refine wp_region_C (S:=fun w'=>Mm w0 ((B1,[.int .i64 q.kind,.int .i64 q.role,.int .i64 q.path,.int .i64 q.epo,.int .i64 q.ctr,.slice bp q.body.length bc])::(B8,[])::(BW,wcv (wtop (wmk (g.win (g.inn.e-1) q.path) q.ctr)) VV)::(R,[[Value.int .i64 g.role],kck g.out,kck g.inn,[Value.map mc],[Value.map m0],[Value.map (some B8)]].flatten)::(mbs mc++(mbs m0++(mbs none++(L0.map Prod.snd++((wout L1 q.path).map Prod.snd++T)))))) w') 9 (by kernel_rfl) M.drew ?_
       clear M; intro M; have hdr:=(Below.refl w9.heap.size w9).drew; replace hwz:=xnT hwz hdr.size; replace OF:=OF.below hdr; replace I_B8:=I_B8.below hdr; clear hdr; generalize w9.drew=w10 at M hwz OF I_B8 ⊢
       refine readC (i:=0) (some 45) rfl (.pointer (some ⟨R,0,none⟩)) rfl rfl (by kernel_rfl) rfl (fun _ M=>(by kernel_rfl)) (by kernel_rfl) (by kernel_rfl) (by kernel_rfl) (by kernel_rfl) (fun _ _ _ h=>h) M ?_; simp only [aP,lI,l0,lS]
       refine readC (i:=1) (some 46) rfl (.int .i64 1) rfl rfl (by kernel_rfl) rfl (fun _ M=>(by kernel_rfl)) (by kernel_rfl) (by kernel_rfl) (by kernel_rfl) (by kernel_rfl) (fun _ _ _ h=>h) M ?_; simp only [aP,lI,l0,lS]
       refine readC (i:=2) (some 47) rfl (.pointer (some ⟨R,0,none⟩)) rfl rfl (by kernel_rfl) rfl (fun _ M=>(by kernel_rfl)) (by kernel_rfl) (by kernel_rfl) (by kernel_rfl) (by kernel_rfl) (fun _ _ _ h=>h) M ?_; simp only [aP,lI,l0,lS]
       refine readC (i:=3) (some 48) rfl (.pointer (some ⟨R,198,none⟩)) rfl rfl (by kernel_rfl) rfl (fun _ M=>(by kernel_rfl)) (by kernel_rfl) (by kernel_rfl) (by kernel_rfl) (by kernel_rfl) (fun _ _ _ h=>h) M ?_; simp only [aP,lI,l0,lS]
       refine readC (i:=4) (some 49) rfl (.pointer (some ⟨R,199,none⟩)) rfl rfl (by kernel_rfl) rfl (fun _ M=>(by kernel_rfl)) (by kernel_rfl) (by kernel_rfl) (by kernel_rfl) (by kernel_rfl) (fun _ _ _ h=>h) M ?_; simp only [aP,lI,l0,lS]
       refine readC (i:=5) (some 50) rfl (.map (some B8)) rfl rfl (by kernel_rfl) rfl (fun _ M=>load1 61 _ ⟨R,199,none⟩ _ rfl rfl (fun _=>by kernel_rfl) (M.get (mI 3 rfl) 199 _ (flat_get _ [1,98,98,1,1,1] (by simp [kck_len]) 5 199 _ rfl rfl))) (by kernel_rfl) (by kernel_rfl) (by kernel_rfl) (by kernel_rfl) (fun _ _ _ h=>h) M ?_; simp only [aP,lI,l0,lS]
       refine readC (i:=6) (some 51) rfl (.pointer (some ⟨B1,2,none⟩)) rfl rfl (by kernel_rfl) rfl (fun _ M=>(by kernel_rfl)) (by kernel_rfl) (by kernel_rfl) (by kernel_rfl) (by kernel_rfl) (fun _ _ _ h=>h) M ?_; simp only [aP,lI,l0,lS]
       refine readC (i:=7) (some 52) rfl (.int .i64 q.path) rfl rfl (by kernel_rfl) rfl (fun _ M=>load1 3 _ ⟨B1,2,none⟩ _ rfl rfl (fun _=>by kernel_rfl) (M.get mS 2 _ rfl)) (by kernel_rfl) (by kernel_rfl) (by kernel_rfl) (by kernel_rfl) (fun _ _ _ h=>h) M ?_; simp only [aP,lI,l0,lS]
       refine readC (i:=8) (some 53) rfl (.pointer (some ⟨BW,0,none⟩)) rfl rfl (by kernel_rfl) rfl (fun _ M=>(by kernel_rfl)) (by kernel_rfl) (by kernel_rfl) (by kernel_rfl) (by kernel_rfl) (fun _ _ _ h=>h) M ?_; simp only [aP,lI,l0,lS]
       obtain ⟨w11,hr_,I2,hg2⟩:=IM.put (I_B8.mono (show 0≤256 by decide)) ukI Tryz.underlying61 (show 256<maxLen by decide) hx6 (.pointer (some ⟨BW,0,none⟩))
       replace M:=Mm.touchIn M (mT _ mS) hg2; refine skipC (S2:=fun _=>True) none rfl (by kernel_rfl) rfl rfl (putOpM _ _ _ rfl rfl rfl rfl hr_) (by kernel_rfl) ?_; simp only [Act.put]; have o1:=Off.touched hg2; replace hwz:=xnT hwz (Off.size o1); replace OF:=OF.and1 o1 (.inr (by omega)); clear hr_ hg2 o1 I_B8
       refine wpAnyH_done (by kernel_rfl) ?_ _
       replace M:=M.tail
       have hnf:wpt L1=fun _=>none:=funext W1.map
       rw [← hnf] at I2
       have WC:=Wns.wrote W1 hx I2 hVd
       have M3:Mm w0 ((R,gcf g.role g.out g.inn mc m0 (some B8))::(mbs mc++(mbs m0++(mbs (some B8)++(L0.map Prod.snd++(((q.path,(BW,wcv (wtop (wmk (g.win (g.inn.e-1) q.path) q.ctr)) VV))::wout L1 q.path).map Prod.snd++T)))))) w11:=M.perm mk_new1
       refine ⟨rfl,.tuple #[],by kernel_rfl,rfl,?_⟩
       rw [if_neg (show ¬ q.epo=g.inn.e+1 by omega)]
       exact ⟨m0,(some B8),L0,((q.path,(BW,wcv (wtop (wmk (g.win (g.inn.e-1) q.path) q.ctr)) VV))::wout L1 q.path),M3,(by show Wns _ _ _ ((gmk g q).win g.inn.e); rw [gmk_off (g:=g) (e:=g.inn.e) (by omega)]; exact W0.off OF hds),(by show Wns _ _ _ ((gmk g q).win (g.inn.e-1)); rw [gmk_at (g:=g) h1]; exact WC),OF.mono (fun y hy=>by
        simp only [List.map_append,List.mem_cons,List.mem_append] at hy ⊢
        rcases hy with h | h | h; exact .inl h; exact .inr (.inr (.inl h)); exact .inr (.inr (.inr (.inr h))))⟩
     | some bm =>
       have hds:∀ y∈mbs m0,y.1∉R::((mbs (some bm)++L1.map Prod.snd).map Prod.fst):=mk_dis1 M
       have hmX:bm∈R::((mbs (some bm)++L1.map Prod.snd).map Prod.fst):=mT _ (List.mem_map.2 ⟨(bm,[]),List.mem_append_left _ mS,rfl⟩)
       replace M:Mm w0 ((R,[[Value.int .i64 g.role],kck g.out,kck g.inn,[Value.map mc],[Value.map m0],[Value.map (some bm)]].flatten)::(mbs mc++(mbs m0++(mbs (some bm)++(L0.map Prod.snd++(L1.map Prod.snd++T)))))) w:=M
       have hwz:=xnR w.heap.size; have OF:=Off.refl (R::((mbs (some bm)++L1.map Prod.snd).map Prod.fst)) w
       go_enter Tryz.func31,Tryz.ntmps31
       have HN:=W1.map; go_upto_region 0 with fail; refine wp_region_list ?_; have hlb:=(Below.refl w.heap.size w).alloc (xnR _) (.cells #[.int .i64 q.kind,.int .i64 q.role,.int .i64 q.path,.int .i64 q.epo,.int .i64 q.ctr,.slice bp q.body.length bc] 70)
       refine actL (w':=w.alloc (.cells #[.int .i64 q.kind,.int .i64 q.role,.int .i64 q.path,.int .i64 q.epo,.int .i64 q.ctr,.slice bp q.body.length bc] 70)) (.pointer (some ⟨w.heap.size,0,none⟩)) rfl (by kernel_rfl) ?_; simp only [aP,lI,l0,lS]; have hB_:=hwz; replace hwz:=xnT hwz hlb.size; replace OF:=OF.below hlb; replace HN:=HN.below hlb
       replace M:=M.box #[.int .i64 q.kind,.int .i64 q.role,.int .i64 q.path,.int .i64 q.epo,.int .i64 q.ctr,.slice bp q.body.length bc] 70 w.heap.size rfl; clear hlb; generalize w.alloc (.cells #[.int .i64 q.kind,.int .i64 q.role,.int .i64 q.path,.int .i64 q.epo,.int .i64 q.ctr,.slice bp q.body.length bc] 70)=w1 at M hwz OF HN ⊢; generalize eB_:w.heap.size=B1 at M ⊢
       have hB_B1:w.heap.size≤B1:=by rw [← eB_]; exact hB_
       clear hB_ eB_
       replace M:Mm w0 ((B1,[.int .i64 q.kind,.int .i64 q.role,.int .i64 q.path,.int .i64 q.epo,.int .i64 q.ctr,.slice bp q.body.length bc])::(R,[[Value.int .i64 g.role],kck g.out,kck g.inn,[Value.map mc],[Value.map m0],[Value.map (some bm)]].flatten)::(mbs mc++(mbs m0++(mbs (some bm)++(L0.map Prod.snd++(L1.map Prod.snd++T)))))) w1:=M
       refine xT ?_; replace M:=M.swap; go_upto_region 1 with fail
       refine wp_region_held_drew (S:=fun w'=>Mm w0 ((R,[[Value.int .i64 g.role],kck g.out,kck g.inn,[Value.map mc],[Value.map m0],[Value.map (some bm)]].flatten)::(B1,[.int .i64 q.kind,.int .i64 q.role,.int .i64 q.path,.int .i64 q.epo,.int .i64 q.ctr,.slice bp q.body.length bc])::(mbs mc++(mbs m0++(mbs (some bm)++(L0.map Prod.snd++(L1.map Prod.snd++T)))))) w') (by kernel_rfl) M.drew ?_
       clear M; intro M; have hdr:=(Below.refl w1.heap.size w1).drew; replace hwz:=xnT hwz hdr.size; replace OF:=OF.below hdr; replace HN:=HN.below hdr; clear hdr; generalize w1.drew=w2 at M hwz OF HN ⊢; refine xrH 0 6 rfl (.pointer (some ⟨B1,3,none⟩)) (fun _ M=>(by kernel_rfl)) M ?_
       refine xrH 1 7 rfl (.int .i64 q.epo) (fun _ M=>load1 3 _ ⟨B1,3,none⟩ _ rfl rfl (fun _=>by kernel_rfl) (M.get (mT _ mS) 3 _ rfl)) M ?_; refine xrH 2 8 rfl (.pointer (some ⟨R,0,none⟩)) (fun _ M=>(by kernel_rfl)) M ?_; refine xrH 3 9 rfl (.pointer (some ⟨R,0,none⟩)) (fun _ M=>(by kernel_rfl)) M ?_
       refine xrH 4 10 rfl (.pointer (some ⟨R,99,none⟩)) (fun _ M=>(by kernel_rfl)) M ?_
       replace M:Mm w0 ((R,[[Value.int .i64 g.role],kck g.out,kck g.inn,[Value.map mc],[Value.map m0],[Value.map (some bm)]].flatten)::(B1,[.int .i64 q.kind,.int .i64 q.role,.int .i64 q.path,.int .i64 q.epo,.int .i64 q.ctr,.slice bp q.body.length bc])::(mbs mc++(mbs m0++(mbs (some bm)++(L0.map Prod.snd++(L1.map Prod.snd++T)))))) w2:=M
       refine callH (i:=5) (some 11) rfl (by kernel_rfl) rfl rfl (fun _=>by kernel_rfl) (ginn_epoch M) ?_; rintro e w3 ⟨rfl,l⟩; replace M:=M.call l; replace hwz:=xnT hwz l.size; replace OF:=OF.below l; replace HN:=HN.below l; clear l
       refine ⟨_,rfl,M,?_⟩
       simp only [aP,lI,l0,lS]; refine xrH 6 12 rfl (.bool false) (fun _ M=>gtrI .i64 _ _ _ _ _ _ rfl rfl rfl false (decide_eq_false (by omega)) _) M ?_
       refine wpAnyH_done (by kernel_rfl) ?_ _
       first | show Exit.then _ _ _ _ _ | show Exit.inBlock _ _ _ _ _
       go_upto_region 3 with fail; refine wp_region_list ?_; refine xpL (.pointer (some ⟨R,0,none⟩)) ?_; refine xpL (.pointer (some ⟨B1,3,none⟩)) ?_; refine xaL (.int .i64 q.epo) (load1 3 _ ⟨B1,3,none⟩ _ rfl rfl (fun _=>by kernel_rfl) (M.get (mT _ mS) 3 _ rfl)) ?_; refine xpL (.pointer (some ⟨B1,2,none⟩)) ?_
       refine xaL (.int .i64 q.path) (load1 3 _ ⟨B1,2,none⟩ _ rfl rfl (fun _=>by kernel_rfl) (M.get (mT _ mS) 2 _ rfl)) ?_
       replace M:Mm w0 ((R,[[Value.int .i64 g.role],kck g.out,kck g.inn,[Value.map mc],[Value.map m0],[Value.map (some bm)]].flatten)::(B1,[.int .i64 q.kind,.int .i64 q.role,.int .i64 q.path,.int .i64 q.epo,.int .i64 q.ctr,.slice bp q.body.length bc])::(mbs mc++(mbs m0++(mbs (some bm)++(L0.map Prod.snd++(L1.map Prod.snd++T)))))) w3:=M
       refine xcL (gwin_last_new w0 _ R _ g.role g.out g.inn mc m0 (some bm) hw.inn q.epo h1 L1 q.path hx6 HN hl M) ?_; rintro e w4 ⟨BW,WW,rfl,hB_BW,hWd,M',l1⟩; clear M; have M:=M'; clear M'; replace hB_BW:=xnT hwz hB_BW; replace hwz:=xnT hwz l1.size; replace OF:=OF.below l1; replace HN:=HN.below l1; clear l1; refine xeL ?_
       rw [← hgn] at hWd M
       replace M:Mm w0 ((BW,wcv (wtop (g.win (g.inn.e-1) q.path)) WW)::(R,[[Value.int .i64 g.role],kck g.out,kck g.inn,[Value.map mc],[Value.map m0],[Value.map (some bm)]].flatten)::(B1,[.int .i64 q.kind,.int .i64 q.role,.int .i64 q.path,.int .i64 q.epo,.int .i64 q.ctr,.slice bp q.body.length bc])::(mbs mc++(mbs m0++(mbs (some bm)++(L0.map Prod.snd++((wout L1 q.path).map Prod.snd++T)))))) w4:=by
        rw [wout_none hl]
        exact M
       replace M:=M.rot3; replace M:=M.swap; refine xpL (.pointer (some ⟨BW,0,none⟩)) ?_; refine xT ?_; go_upto_region 4 with fail; refine wp_region_list ?_; refine xpL (.pointer (some ⟨BW,0,none⟩)) ?_; refine xpL (.pointer (some ⟨B1,4,none⟩)) ?_; refine xaL (.int .i64 q.ctr) (load1 3 _ ⟨B1,4,none⟩ _ rfl rfl (fun _=>by kernel_rfl) (M.get (mT _ mS) 4 _ rfl)) ?_
       refine xcL (vmark14_any w0 _ BW _ (g.win (g.inn.e-1) q.path) WW (hw.win _ _) hWd q.ctr hc6 M) ?_; rintro e w5 ⟨rfl,VV,hVd,M',o1⟩; clear M; have M:=M'; clear M'; replace hwz:=xnT hwz (Off.size o1); replace OF:=OF.and1 o1 (.inr (by omega))
       replace HN:=HN.off o1 (M.aside (g:=[_]) (fun p hp=>mT _ (mT _ (List.mem_append_right _ (List.mem_append_right _ (List.mem_append_left _ hp)))))); clear o1; refine xeL ?_; refine xT ?_; replace M:=M.rot3; go_upto_region 5 with fail
       refine wp_region_held_drew (S:=fun w'=>Mm w0 ((R,[[Value.int .i64 g.role],kck g.out,kck g.inn,[Value.map mc],[Value.map m0],[Value.map (some bm)]].flatten)::(BW,wcv (wtop (wmk (g.win (g.inn.e-1) q.path) q.ctr)) VV)::(B1,[.int .i64 q.kind,.int .i64 q.role,.int .i64 q.path,.int .i64 q.epo,.int .i64 q.ctr,.slice bp q.body.length bc])::(mbs mc++(mbs m0++(mbs (some bm)++(L0.map Prod.snd++((wout L1 q.path).map Prod.snd++T)))))) w') (by kernel_rfl) M.drew ?_
       clear M; intro M; have hdr:=(Below.refl w5.heap.size w5).drew; replace hwz:=xnT hwz hdr.size; replace OF:=OF.below hdr; replace HN:=HN.below hdr; clear hdr; generalize w5.drew=w6 at M hwz OF HN ⊢; refine xrH 0 25 rfl (.pointer (some ⟨R,0,none⟩)) (fun _ M=>(by kernel_rfl)) M ?_; refine xrH 1 26 rfl (.pointer (some ⟨R,0,none⟩)) (fun _ M=>(by kernel_rfl)) M ?_
       refine xrH 2 27 rfl (.pointer (some ⟨R,99,none⟩)) (fun _ M=>(by kernel_rfl)) M ?_; refine xrH 4 29 rfl (.pointer (some ⟨B1,3,none⟩)) (fun _ M=>(by kernel_rfl)) M ?_; refine xrH 5 30 rfl (.int .i64 q.epo) (fun _ M=>load1 3 _ ⟨B1,3,none⟩ _ rfl rfl (fun _=>by kernel_rfl) (M.get (mI 2 rfl) 3 _ rfl)) M ?_
       replace M:Mm w0 ((R,[[Value.int .i64 g.role],kck g.out,kck g.inn,[Value.map mc],[Value.map m0],[Value.map (some bm)]].flatten)::(BW,wcv (wtop (wmk (g.win (g.inn.e-1) q.path) q.ctr)) VV)::(B1,[.int .i64 q.kind,.int .i64 q.role,.int .i64 q.path,.int .i64 q.epo,.int .i64 q.ctr,.slice bp q.body.length bc])::(mbs mc++(mbs m0++(mbs (some bm)++(L0.map Prod.snd++((wout L1 q.path).map Prod.snd++T)))))) w6:=M
       refine callH (i:=3) (some 28) rfl (by kernel_rfl) rfl rfl (fun _=>by kernel_rfl) (ginn_epoch M) ?_; rintro e w7 ⟨rfl,l⟩; replace M:=M.call l; replace hwz:=xnT hwz l.size; replace OF:=OF.below l; replace HN:=HN.below l; clear l
       refine ⟨_,rfl,M,?_⟩
       simp only [aP,lI,l0,lS]; refine xrH 6 31 rfl (.int .i64 1) (fun _ M=>subI .i64 _ _ _ _ _ _ _ rfl rfl rfl (by rw [xw6]; omega) _) M ?_; refine xrH 7 5 rfl (.int .i64 1) (fun _ M=>(by kernel_rfl)) M ?_
       refine wpAnyH_done (by kernel_rfl) ?_ _
       first | show Exit.then _ _ _ _ _ | show Exit.inBlock _ _ _ _ _
       go_upto_region 6 with fail; refine wp_region_list ?_; refine xpL (.pointer (some ⟨R,0,none⟩)) ?_; refine xpL (.int .i64 1) ?_; refine xpL (.pointer (some ⟨R,0,none⟩)) ?_; refine xpL (.pointer (some ⟨R,198,none⟩)) ?_; refine xpL (.pointer (some ⟨R,199,none⟩)) ?_
       refine xaL (.map (some bm)) (load1 61 _ ⟨R,199,none⟩ _ rfl rfl (fun _=>by kernel_rfl) (M.get mS 199 _ (flat_get _ [1,98,98,1,1,1] (by simp [kck_len]) 5 199 _ rfl rfl))) ?_; refine xaL (.bool false) (eqlMN (some bm) _ _ _ _ _ _ false rfl rfl rfl rfl Tryz.underlying61 _) ?_; refine xT ?_; replace M:=M.swap; replace M:=M.rot3; go_upto_region 8 with fail
       refine wp_region_C (S:=fun w'=>Mm w0 ((B1,[.int .i64 q.kind,.int .i64 q.role,.int .i64 q.path,.int .i64 q.epo,.int .i64 q.ctr,.slice bp q.body.length bc])::(BW,wcv (wtop (wmk (g.win (g.inn.e-1) q.path) q.ctr)) VV)::(R,[[Value.int .i64 g.role],kck g.out,kck g.inn,[Value.map mc],[Value.map m0],[Value.map (some bm)]].flatten)::(mbs mc++(mbs m0++(mbs (some bm)++(L0.map Prod.snd++((wout L1 q.path).map Prod.snd++T)))))) w') 9 (by kernel_rfl) M.drew ?_
       clear M; intro M; have hdr:=(Below.refl w7.heap.size w7).drew; replace hwz:=xnT hwz hdr.size; replace OF:=OF.below hdr; replace HN:=HN.below hdr; clear hdr; generalize w7.drew=w8 at M hwz OF HN ⊢
       refine readC (i:=0) (some 45) rfl (.pointer (some ⟨R,0,none⟩)) rfl rfl (by kernel_rfl) rfl (fun _ M=>(by kernel_rfl)) (by kernel_rfl) (by kernel_rfl) (by kernel_rfl) (by kernel_rfl) (fun _ _ _ h=>h) M ?_; simp only [aP,lI,l0,lS]
       refine readC (i:=1) (some 46) rfl (.int .i64 1) rfl rfl (by kernel_rfl) rfl (fun _ M=>(by kernel_rfl)) (by kernel_rfl) (by kernel_rfl) (by kernel_rfl) (by kernel_rfl) (fun _ _ _ h=>h) M ?_; simp only [aP,lI,l0,lS]
       refine readC (i:=2) (some 47) rfl (.pointer (some ⟨R,0,none⟩)) rfl rfl (by kernel_rfl) rfl (fun _ M=>(by kernel_rfl)) (by kernel_rfl) (by kernel_rfl) (by kernel_rfl) (by kernel_rfl) (fun _ _ _ h=>h) M ?_; simp only [aP,lI,l0,lS]
       refine readC (i:=3) (some 48) rfl (.pointer (some ⟨R,198,none⟩)) rfl rfl (by kernel_rfl) rfl (fun _ M=>(by kernel_rfl)) (by kernel_rfl) (by kernel_rfl) (by kernel_rfl) (by kernel_rfl) (fun _ _ _ h=>h) M ?_; simp only [aP,lI,l0,lS]
       refine readC (i:=4) (some 49) rfl (.pointer (some ⟨R,199,none⟩)) rfl rfl (by kernel_rfl) rfl (fun _ M=>(by kernel_rfl)) (by kernel_rfl) (by kernel_rfl) (by kernel_rfl) (by kernel_rfl) (fun _ _ _ h=>h) M ?_; simp only [aP,lI,l0,lS]
       refine readC (i:=5) (some 50) rfl (.map (some bm)) rfl rfl (by kernel_rfl) rfl (fun _ M=>load1 61 _ ⟨R,199,none⟩ _ rfl rfl (fun _=>by kernel_rfl) (M.get (mI 2 rfl) 199 _ (flat_get _ [1,98,98,1,1,1] (by simp [kck_len]) 5 199 _ rfl rfl))) (by kernel_rfl) (by kernel_rfl) (by kernel_rfl) (by kernel_rfl) (fun _ _ _ h=>h) M ?_; simp only [aP,lI,l0,lS]
       refine readC (i:=6) (some 51) rfl (.pointer (some ⟨B1,2,none⟩)) rfl rfl (by kernel_rfl) rfl (fun _ M=>(by kernel_rfl)) (by kernel_rfl) (by kernel_rfl) (by kernel_rfl) (by kernel_rfl) (fun _ _ _ h=>h) M ?_; simp only [aP,lI,l0,lS]
       refine readC (i:=7) (some 52) rfl (.int .i64 q.path) rfl rfl (by kernel_rfl) rfl (fun _ M=>load1 3 _ ⟨B1,2,none⟩ _ rfl rfl (fun _=>by kernel_rfl) (M.get mS 2 _ rfl)) (by kernel_rfl) (by kernel_rfl) (by kernel_rfl) (by kernel_rfl) (fun _ _ _ h=>h) M ?_; simp only [aP,lI,l0,lS]
       refine readC (i:=8) (some 53) rfl (.pointer (some ⟨BW,0,none⟩)) rfl rfl (by kernel_rfl) rfl (fun _ M=>(by kernel_rfl)) (by kernel_rfl) (by kernel_rfl) (by kernel_rfl) (by kernel_rfl) (fun _ _ _ h=>h) M ?_; simp only [aP,lI,l0,lS]
       obtain ⟨w9,hr_,I2,hg2⟩:=IM.put HN ukI Tryz.underlying61 (show 256<maxLen by decide) hx6 (.pointer (some ⟨BW,0,none⟩))
       replace M:=Mm.touchIn M (mT _ (mT _ (mT _ ((List.mem_append_right _ (List.mem_append_right _ (List.mem_append_left _ mS))))))) hg2; refine skipC (S2:=fun _=>True) none rfl (by kernel_rfl) rfl rfl (putOpM _ _ _ rfl rfl rfl rfl hr_) (by kernel_rfl) ?_; simp only [Act.put]; have o1:=Off.touched hg2; replace hwz:=xnT hwz (Off.size o1); replace OF:=OF.and1 o1 (.inl hmX)
       clear hr_ hg2 o1 HN
       refine wpAnyH_done (by kernel_rfl) ?_ _
       replace M:=M.tail; have WC:=Wns.wrote W1 hx I2 hVd
       have M3:Mm w0 ((R,gcf g.role g.out g.inn mc m0 (some bm))::(mbs mc++(mbs m0++(mbs (some bm)++(L0.map Prod.snd++(((q.path,(BW,wcv (wtop (wmk (g.win (g.inn.e-1) q.path) q.ctr)) VV))::wout L1 q.path).map Prod.snd++T)))))) w9:=M.perm mk_fin1
       refine ⟨rfl,.tuple #[],by kernel_rfl,rfl,?_⟩
       rw [if_neg (show ¬ q.epo=g.inn.e+1 by omega)]
       exact ⟨m0,(some bm),L0,((q.path,(BW,wcv (wtop (wmk (g.win (g.inn.e-1) q.path) q.ctr)) VV))::wout L1 q.path),M3,(by show Wns _ _ _ ((gmk g q).win g.inn.e); rw [gmk_off (g:=g) (e:=g.inn.e) (by omega)]; exact W0.off OF hds),(by show Wns _ _ _ ((gmk g q).win (g.inn.e-1)); rw [gmk_at (g:=g) h1]; exact WC),OF.mono (fun y hy=>by
        simp only [List.map_append,List.mem_cons,List.mem_append] at hy ⊢
        rcases hy with h | h | h; exact .inl h; exact .inr (.inr (.inl h)); exact .inr (.inr (.inr (.inr h))))⟩
 replace h1:q.epo=g.inn.e+1:=by omega
 have he1:(yad g.inn).e=g.inn.e+1:=by rw [yad_on (hnx h1)]
 have hw1:(gon g).win g.inn.e=g.win g.inn.e:=by
  funext y
  show (if g.inn.e<g.inn.e then [] else g.win g.inn.e y)=_
  rw [if_neg (by omega)]
 have hgw:∀ y,(gon g).win (g.inn.e+1) y=[]:=fun y=>by
  show (if g.inn.e+1<g.inn.e then [] else g.win (g.inn.e+1) y)=[]
  rw [if_neg (by omega)]
  exact hw.off _ _ (.inr (by omega))
 have hgn:=hgw q.path
 have hl:([]:Wls).lookup q.path=none:=rfl
 cases m1 with
 | none =>
   have hds:∀ y∈mbs m0,y.1∉R::((mbs none++([]:Wls).map Prod.snd).map Prod.fst):=mk_dis2 M
   replace M:Mm w0 ((R,[[Value.int .i64 g.role],kck g.out,kck g.inn,[Value.map mc],[Value.map m0],[Value.map none]].flatten)::(mbs mc++(mbs m0++(mbs none++(L0.map Prod.snd++(L1.map Prod.snd++T)))))) w:=M
   have hwz:=xnR w.heap.size; have OF:=Off.refl [] w
   go_enter Tryz.func31,Tryz.ntmps31
   go_upto_region 0 with fail; refine wp_region_list ?_; have hlb:=(Below.refl w.heap.size w).alloc (xnR _) (.cells #[.int .i64 q.kind,.int .i64 q.role,.int .i64 q.path,.int .i64 q.epo,.int .i64 q.ctr,.slice bp q.body.length bc] 70)
   refine actL (w':=w.alloc (.cells #[.int .i64 q.kind,.int .i64 q.role,.int .i64 q.path,.int .i64 q.epo,.int .i64 q.ctr,.slice bp q.body.length bc] 70)) (.pointer (some ⟨w.heap.size,0,none⟩)) rfl (by kernel_rfl) ?_; simp only [aP,lI,l0,lS]; have hB_:=hwz; replace hwz:=xnT hwz hlb.size; replace OF:=OF.below hlb
   replace M:=M.box #[.int .i64 q.kind,.int .i64 q.role,.int .i64 q.path,.int .i64 q.epo,.int .i64 q.ctr,.slice bp q.body.length bc] 70 w.heap.size rfl; clear hlb; generalize w.alloc (.cells #[.int .i64 q.kind,.int .i64 q.role,.int .i64 q.path,.int .i64 q.epo,.int .i64 q.ctr,.slice bp q.body.length bc] 70)=w1 at M hwz OF ⊢; generalize eB_:w.heap.size=B1 at M ⊢
   have hB_B1:w.heap.size≤B1:=by rw [← eB_]; exact hB_
   clear hB_ eB_
   replace M:Mm w0 ((B1,[.int .i64 q.kind,.int .i64 q.role,.int .i64 q.path,.int .i64 q.epo,.int .i64 q.ctr,.slice bp q.body.length bc])::(R,[[Value.int .i64 g.role],kck g.out,kck g.inn,[Value.map mc],[Value.map m0],[Value.map none]].flatten)::(mbs mc++(mbs m0++(mbs none++(L0.map Prod.snd++(L1.map Prod.snd++T)))))) w1:=M
   refine xT ?_; replace M:=M.swap; go_upto_region 1 with fail
   refine wp_region_held_drew (S:=fun w'=>Mm w0 ((R,[[Value.int .i64 g.role],kck g.out,kck g.inn,[Value.map mc],[Value.map m0],[Value.map none]].flatten)::(B1,[.int .i64 q.kind,.int .i64 q.role,.int .i64 q.path,.int .i64 q.epo,.int .i64 q.ctr,.slice bp q.body.length bc])::(mbs mc++(mbs m0++(mbs none++(L0.map Prod.snd++(L1.map Prod.snd++T)))))) w') (by kernel_rfl) M.drew ?_
   clear M; intro M; have hdr:=(Below.refl w1.heap.size w1).drew; replace hwz:=xnT hwz hdr.size; replace OF:=OF.below hdr; clear hdr; generalize w1.drew=w2 at M hwz OF ⊢; refine xrH 0 6 rfl (.pointer (some ⟨B1,3,none⟩)) (fun _ M=>(by kernel_rfl)) M ?_
   refine xrH 1 7 rfl (.int .i64 q.epo) (fun _ M=>load1 3 _ ⟨B1,3,none⟩ _ rfl rfl (fun _=>by kernel_rfl) (M.get (mT _ mS) 3 _ rfl)) M ?_; refine xrH 2 8 rfl (.pointer (some ⟨R,0,none⟩)) (fun _ M=>(by kernel_rfl)) M ?_; refine xrH 3 9 rfl (.pointer (some ⟨R,0,none⟩)) (fun _ M=>(by kernel_rfl)) M ?_; refine xrH 4 10 rfl (.pointer (some ⟨R,99,none⟩)) (fun _ M=>(by kernel_rfl)) M ?_
   replace M:Mm w0 ((R,[[Value.int .i64 g.role],kck g.out,kck g.inn,[Value.map mc],[Value.map m0],[Value.map none]].flatten)::(B1,[.int .i64 q.kind,.int .i64 q.role,.int .i64 q.path,.int .i64 q.epo,.int .i64 q.ctr,.slice bp q.body.length bc])::(mbs mc++(mbs m0++(mbs none++(L0.map Prod.snd++(L1.map Prod.snd++T)))))) w2:=M
   refine callH (i:=5) (some 11) rfl (by kernel_rfl) rfl rfl (fun _=>by kernel_rfl) (ginn_epoch M) ?_; rintro e w3 ⟨rfl,l⟩; replace M:=M.call l; replace hwz:=xnT hwz l.size; replace OF:=OF.below l; clear l
   refine ⟨_,rfl,M,?_⟩
   simp only [aP,lI,l0,lS]; refine xrH 6 12 rfl (.bool true) (fun _ M=>gtrI .i64 _ _ _ _ _ _ rfl rfl rfl true (decide_eq_true (by omega)) _) M ?_
   refine wpAnyH_done (by kernel_rfl) ?_ _
   first | show Exit.then _ _ _ _ _ | show Exit.inBlock _ _ _ _ _
   go_upto_region 2 with fail; refine wp_region_list ?_; refine xpL (.pointer (some ⟨R,0,none⟩)) ?_; replace M:=M.swap; replace M:=M.perm mk_go; refine xcL (ggoon_any w0 _ R _ g.role g.out g.inn mc m0 none hg.b hw.inn (wpt L1) (W1.map.off OF (fun _ _ h=>by cases h)) M) ?_; rintro e w4 ⟨rfl,M',HN,o1⟩; clear M
   replace M':=M'.sub _ (List.Sublist.cons_cons _ ((List.Sublist.refl _).append (List.Sublist.cons_cons _ ((List.Sublist.refl _).append ((List.Sublist.refl _).append ((List.Sublist.refl _).append (List.sublist_append_right (L1.map Prod.snd) T)))))))
   have M:=M'.perm mk_back; clear M'
   have OX:Off (R::((mbs none++([]:Wls).map Prod.snd).map Prod.fst)) w w4:=(OF.mono (fun _ h=>by cases h)).trans (o1.mono (fun y hy=>by simpa using hy))
   clear OF; have OF:=OX; replace hwz:=xnT hwz o1.size; clear o1 OX
   replace HN:NM w4 none (wpt []):=HN.congr (fun _=>rfl)
   refine xeL ?_
   replace M:Mm w0 ((B1,[.int .i64 q.kind,.int .i64 q.role,.int .i64 q.path,.int .i64 q.epo,.int .i64 q.ctr,.slice bp q.body.length bc])::(R,[[Value.int .i64 g.role],kck g.out,kck (yad g.inn),[Value.map mc],[Value.map none],[Value.map m0]].flatten)::(mbs mc++(mbs none++(mbs m0++(([]:Wls).map Prod.snd++(L0.map Prod.snd++T)))))) w4:=M
   refine xT ?_; have WG:=Wns.empty _ none (HN.congr (fun _=>rfl)) (win:=(gon g).win (g.inn.e+1)) hgw; go_upto_region 3 with fail; refine wp_region_list ?_; refine xpL (.pointer (some ⟨R,0,none⟩)) ?_; refine xpL (.pointer (some ⟨B1,3,none⟩)) ?_; refine xaL (.int .i64 q.epo) (load1 3 _ ⟨B1,3,none⟩ _ rfl rfl (fun _=>by kernel_rfl) (M.get mS 3 _ rfl)) ?_
   refine xpL (.pointer (some ⟨B1,2,none⟩)) ?_; refine xaL (.int .i64 q.path) (load1 3 _ ⟨B1,2,none⟩ _ rfl rfl (fun _=>by kernel_rfl) (M.get mS 2 _ rfl)) ?_; replace M:=M.swap
   replace M:Mm w0 ((R,[[Value.int .i64 g.role],kck g.out,kck (yad g.inn),[Value.map mc],[Value.map none],[Value.map m0]].flatten)::(B1,[.int .i64 q.kind,.int .i64 q.role,.int .i64 q.path,.int .i64 q.epo,.int .i64 q.ctr,.slice bp q.body.length bc])::(mbs mc++(mbs none++(mbs m0++(([]:Wls).map Prod.snd++(L0.map Prod.snd++T)))))) w4:=M
   refine xcL (gwin_now_new w0 _ R _ g.role g.out (yad g.inn) mc none m0 (yad_w' hw.inn) q.epo (by rw [he1]; exact h1) ([]:Wls) q.path hx6 HN hl M) ?_; rintro e w5 ⟨BW,WW,rfl,hB_BW,hWd,M',l1⟩; clear M; have M:=M'; clear M'; replace hB_BW:=xnT hwz hB_BW; replace hwz:=xnT hwz l1.size; replace OF:=OF.below l1; replace HN:=HN.below l1; clear l1; refine xeL ?_
   rw [← hgn] at hWd M
   replace M:Mm w0 ((BW,wcv (wtop ((gon g).win (g.inn.e+1) q.path)) WW)::(R,[[Value.int .i64 g.role],kck g.out,kck (yad g.inn),[Value.map mc],[Value.map none],[Value.map m0]].flatten)::(B1,[.int .i64 q.kind,.int .i64 q.role,.int .i64 q.path,.int .i64 q.epo,.int .i64 q.ctr,.slice bp q.body.length bc])::(mbs mc++(mbs none++(mbs m0++((wout [] q.path).map Prod.snd++(L0.map Prod.snd++T)))))) w5:=by
    rw [wout_none hl]
    exact M
   replace M:=M.rot3; replace M:=M.swap; refine xpL (.pointer (some ⟨BW,0,none⟩)) ?_; refine xT ?_; clear HN; go_upto_region 4 with fail; refine wp_region_list ?_; refine xpL (.pointer (some ⟨BW,0,none⟩)) ?_; refine xpL (.pointer (some ⟨B1,4,none⟩)) ?_; refine xaL (.int .i64 q.ctr) (load1 3 _ ⟨B1,4,none⟩ _ rfl rfl (fun _=>by kernel_rfl) (M.get (mT _ mS) 4 _ rfl)) ?_
   refine xcL (vmark14_any w0 _ BW _ ((gon g).win (g.inn.e+1) q.path) WW (by rw [hgn]; exact winL_nil) hWd q.ctr hc6 M) ?_; rintro e w6 ⟨rfl,VV,hVd,M',o1⟩; clear M; have M:=M'; clear M'; replace hwz:=xnT hwz (Off.size o1); replace OF:=OF.and1 o1 (.inr (by omega)); clear o1; refine xeL ?_; refine xT ?_; replace M:=M.rot3; go_upto_region 5 with fail
   refine wp_region_held_drew (S:=fun w'=>Mm w0 ((R,[[Value.int .i64 g.role],kck g.out,kck (yad g.inn),[Value.map mc],[Value.map none],[Value.map m0]].flatten)::(BW,wcv (wtop (wmk ((gon g).win (g.inn.e+1) q.path) q.ctr)) VV)::(B1,[.int .i64 q.kind,.int .i64 q.role,.int .i64 q.path,.int .i64 q.epo,.int .i64 q.ctr,.slice bp q.body.length bc])::(mbs mc++(mbs none++(mbs m0++((wout [] q.path).map Prod.snd++(L0.map Prod.snd++T)))))) w') (by kernel_rfl) M.drew ?_
   clear M; intro M; have hdr:=(Below.refl w6.heap.size w6).drew; replace hwz:=xnT hwz hdr.size; replace OF:=OF.below hdr; clear hdr; generalize w6.drew=w7 at M hwz OF ⊢; refine xrH 0 25 rfl (.pointer (some ⟨R,0,none⟩)) (fun _ M=>(by kernel_rfl)) M ?_; refine xrH 1 26 rfl (.pointer (some ⟨R,0,none⟩)) (fun _ M=>(by kernel_rfl)) M ?_
   refine xrH 2 27 rfl (.pointer (some ⟨R,99,none⟩)) (fun _ M=>(by kernel_rfl)) M ?_; refine xrH 4 29 rfl (.pointer (some ⟨B1,3,none⟩)) (fun _ M=>(by kernel_rfl)) M ?_; refine xrH 5 30 rfl (.int .i64 q.epo) (fun _ M=>load1 3 _ ⟨B1,3,none⟩ _ rfl rfl (fun _=>by kernel_rfl) (M.get (mI 2 rfl) 3 _ rfl)) M ?_
   replace M:Mm w0 ((R,[[Value.int .i64 g.role],kck g.out,kck (yad g.inn),[Value.map mc],[Value.map none],[Value.map m0]].flatten)::(BW,wcv (wtop (wmk ((gon g).win (g.inn.e+1) q.path) q.ctr)) VV)::(B1,[.int .i64 q.kind,.int .i64 q.role,.int .i64 q.path,.int .i64 q.epo,.int .i64 q.ctr,.slice bp q.body.length bc])::(mbs mc++(mbs none++(mbs m0++((wout [] q.path).map Prod.snd++(L0.map Prod.snd++T)))))) w7:=M
   refine callH (i:=3) (some 28) rfl (by kernel_rfl) rfl rfl (fun _=>by kernel_rfl) (ginn_epoch M) ?_; rintro e w8 ⟨rfl,l⟩; replace M:=M.call l; replace hwz:=xnT hwz l.size; replace OF:=OF.below l; clear l
   refine ⟨_,rfl,M,?_⟩
   simp only [aP,lI,l0,lS]; refine xrH 6 31 rfl (.int .i64 0) (fun _ M=>subI .i64 _ _ _ _ _ _ _ rfl rfl rfl (by rw [he1,xw6]; omega) _) M ?_; refine xrH 7 5 rfl (.int .i64 0) (fun _ M=>(by kernel_rfl)) M ?_
   refine wpAnyH_done (by kernel_rfl) ?_ _
   first | show Exit.then _ _ _ _ _ | show Exit.inBlock _ _ _ _ _
   go_upto_region 6 with fail; refine wp_region_list ?_; refine xpL (.pointer (some ⟨R,0,none⟩)) ?_; refine xpL (.int .i64 0) ?_; refine xpL (.pointer (some ⟨R,0,none⟩)) ?_; refine xpL (.pointer (some ⟨R,198,none⟩)) ?_; refine xpL (.pointer (some ⟨R,198,none⟩)) ?_
   refine xaL (.map none) (load1 61 _ ⟨R,198,none⟩ _ rfl rfl (fun _=>by kernel_rfl) (M.get mS 198 _ (flat_get _ [1,98,98,1,1,1] (by simp [kck_len]) 4 198 _ rfl rfl))) ?_; refine xaL (.bool true) (eqlMN none _ _ _ _ _ _ true rfl rfl rfl rfl Tryz.underlying61 _) ?_; refine xT ?_; go_upto_region 7 with fail; refine wp_region_list ?_; refine xpL (.pointer (some ⟨R,0,none⟩)) ?_
   refine xpL (.int .i64 0) ?_; have hlb:=(Below.refl w8.heap.size w8).alloc (xnR _) (.map #[] 0); refine actL (w':=w8.alloc (.map #[] 0)) (.map (some w8.heap.size)) rfl (by kernel_rfl) ?_; simp only [aP,lI,l0,lS]; have hB_:=hwz; replace hwz:=xnT hwz hlb.size; replace OF:=OF.below hlb; have I_B9:=IM.made Tryz.prog 3 w8; replace M:=M.boxM; clear hlb
   generalize w8.alloc (.map #[] 0)=w9 at M I_B9 hwz OF ⊢; generalize eB_:w8.heap.size=B9 at M I_B9 ⊢
   have hB_B9:w.heap.size≤B9:=by rw [← eB_]; exact hB_
   clear hB_ eB_
   replace M:Mm w0 ((B9,[])::(R,[[Value.int .i64 g.role],kck g.out,kck (yad g.inn),[Value.map mc],[Value.map none],[Value.map m0]].flatten)::(BW,wcv (wtop (wmk ((gon g).win (g.inn.e+1) q.path) q.ctr)) VV)::(B1,[.int .i64 q.kind,.int .i64 q.role,.int .i64 q.path,.int .i64 q.epo,.int .i64 q.ctr,.slice bp q.body.length bc])::(mbs mc++(mbs none++(mbs m0++((wout [] q.path).map Prod.snd++(L0.map Prod.snd++T)))))) w9:=M
   refine xpL (.pointer (some ⟨R,0,none⟩)) ?_; refine xpL (.pointer (some ⟨R,198,none⟩)) ?_; refine xpL (.pointer (some ⟨R,198,none⟩)) ?_; replace M:=M.swap
   refine skipOpL rfl (storeAny (.map (some B9)) R 198 61 _ _ rfl rfl rfl rfl rfl (M.isSome mS 198 (by rw [flat_len _ [1,98,98,1,1,1] (by simp [kck_len])]; decide)) (M.free mS 198 (by rw [flat_len _ [1,98,98,1,1,1] (by simp [kck_len])]; decide)) (by kernel_rfl)) ?_
   simp only [Act.put]; replace M:=M.set 198 (by rw [flat_len _ [1,98,98,1,1,1] (by simp [kck_len])]; decide) (.map (some B9))
   rw [flat_set1 _ [1,98,98,1,1,1] (by simp [kck_len]) 4 198 _ (.map (some B9)) rfl rfl] at M
   replace hwz:=xnT hwz (Off.size ((Off.refl [R] _).set (b:=R) mS 198 (.map (some B9)))); replace OF:=OF.and1 ((Off.refl [R] _).set (b:=R) mS 198 (.map (some B9))) (.inl mS); replace I_B9:=I_B9.off ((Off.refl [R] _).set (b:=R) mS 198 (.map (some B9))) (by rw [List.mem_singleton]; exact (M.neq (i:=0) (j:=1) rfl rfl (by decide)).symm)
   generalize w9.setCell ⟨R,198,none⟩ (.map (some B9))=w10 at M hwz OF I_B9 ⊢
   replace M:Mm w0 ((R,[[Value.int .i64 g.role],kck g.out,kck (yad g.inn),[Value.map mc],[Value.map (some B9)],[Value.map m0]].flatten)::(B9,[])::(BW,wcv (wtop (wmk ((gon g).win (g.inn.e+1) q.path) q.ctr)) VV)::(B1,[.int .i64 q.kind,.int .i64 q.role,.int .i64 q.path,.int .i64 q.epo,.int .i64 q.ctr,.slice bp q.body.length bc])::(mbs mc++(mbs none++(mbs m0++((wout [] q.path).map Prod.snd++(L0.map Prod.snd++T)))))) w10:=M
   refine xT ?_; replace M:=M.rot3; replace M:=M.rot3; replace M:=M.rot4; go_upto_region 8 with fail
   refine wp_region_C (S:=fun w'=>Mm w0 ((B1,[.int .i64 q.kind,.int .i64 q.role,.int .i64 q.path,.int .i64 q.epo,.int .i64 q.ctr,.slice bp q.body.length bc])::(B9,[])::(BW,wcv (wtop (wmk ((gon g).win (g.inn.e+1) q.path) q.ctr)) VV)::(R,[[Value.int .i64 g.role],kck g.out,kck (yad g.inn),[Value.map mc],[Value.map (some B9)],[Value.map m0]].flatten)::(mbs mc++(mbs none++(mbs m0++((wout [] q.path).map Prod.snd++(L0.map Prod.snd++T)))))) w') 9 (by kernel_rfl) M.drew ?_
   clear M; intro M; have hdr:=(Below.refl w10.heap.size w10).drew; replace hwz:=xnT hwz hdr.size; replace OF:=OF.below hdr; replace I_B9:=I_B9.below hdr; clear hdr; generalize w10.drew=w11 at M hwz OF I_B9 ⊢
   refine readC (i:=0) (some 45) rfl (.pointer (some ⟨R,0,none⟩)) rfl rfl (by kernel_rfl) rfl (fun _ M=>(by kernel_rfl)) (by kernel_rfl) (by kernel_rfl) (by kernel_rfl) (by kernel_rfl) (fun _ _ _ h=>h) M ?_; simp only [aP,lI,l0,lS]
   refine readC (i:=1) (some 46) rfl (.int .i64 0) rfl rfl (by kernel_rfl) rfl (fun _ M=>(by kernel_rfl)) (by kernel_rfl) (by kernel_rfl) (by kernel_rfl) (by kernel_rfl) (fun _ _ _ h=>h) M ?_; simp only [aP,lI,l0,lS]
   refine readC (i:=2) (some 47) rfl (.pointer (some ⟨R,0,none⟩)) rfl rfl (by kernel_rfl) rfl (fun _ M=>(by kernel_rfl)) (by kernel_rfl) (by kernel_rfl) (by kernel_rfl) (by kernel_rfl) (fun _ _ _ h=>h) M ?_; simp only [aP,lI,l0,lS]
   refine readC (i:=3) (some 48) rfl (.pointer (some ⟨R,198,none⟩)) rfl rfl (by kernel_rfl) rfl (fun _ M=>(by kernel_rfl)) (by kernel_rfl) (by kernel_rfl) (by kernel_rfl) (by kernel_rfl) (fun _ _ _ h=>h) M ?_; simp only [aP,lI,l0,lS]
   refine readC (i:=4) (some 49) rfl (.pointer (some ⟨R,198,none⟩)) rfl rfl (by kernel_rfl) rfl (fun _ M=>(by kernel_rfl)) (by kernel_rfl) (by kernel_rfl) (by kernel_rfl) (by kernel_rfl) (fun _ _ _ h=>h) M ?_; simp only [aP,lI,l0,lS]
   refine readC (i:=5) (some 50) rfl (.map (some B9)) rfl rfl (by kernel_rfl) rfl (fun _ M=>load1 61 _ ⟨R,198,none⟩ _ rfl rfl (fun _=>by kernel_rfl) (M.get (mI 3 rfl) 198 _ (flat_get _ [1,98,98,1,1,1] (by simp [kck_len]) 4 198 _ rfl rfl))) (by kernel_rfl) (by kernel_rfl) (by kernel_rfl) (by kernel_rfl) (fun _ _ _ h=>h) M ?_; simp only [aP,lI,l0,lS]
   refine readC (i:=6) (some 51) rfl (.pointer (some ⟨B1,2,none⟩)) rfl rfl (by kernel_rfl) rfl (fun _ M=>(by kernel_rfl)) (by kernel_rfl) (by kernel_rfl) (by kernel_rfl) (by kernel_rfl) (fun _ _ _ h=>h) M ?_; simp only [aP,lI,l0,lS]
   refine readC (i:=7) (some 52) rfl (.int .i64 q.path) rfl rfl (by kernel_rfl) rfl (fun _ M=>load1 3 _ ⟨B1,2,none⟩ _ rfl rfl (fun _=>by kernel_rfl) (M.get mS 2 _ rfl)) (by kernel_rfl) (by kernel_rfl) (by kernel_rfl) (by kernel_rfl) (fun _ _ _ h=>h) M ?_; simp only [aP,lI,l0,lS]
   refine readC (i:=8) (some 53) rfl (.pointer (some ⟨BW,0,none⟩)) rfl rfl (by kernel_rfl) rfl (fun _ M=>(by kernel_rfl)) (by kernel_rfl) (by kernel_rfl) (by kernel_rfl) (by kernel_rfl) (fun _ _ _ h=>h) M ?_; simp only [aP,lI,l0,lS]
   obtain ⟨w12,hr_,I2,hg2⟩:=IM.put (I_B9.mono (show 0≤256 by decide)) ukI Tryz.underlying61 (show 256<maxLen by decide) hx6 (.pointer (some ⟨BW,0,none⟩))
   replace M:=Mm.touchIn M (mT _ mS) hg2; refine skipC (S2:=fun _=>True) none rfl (by kernel_rfl) rfl rfl (putOpM _ _ _ rfl rfl rfl rfl hr_) (by kernel_rfl) ?_; simp only [Act.put]; have o1:=Off.touched hg2; replace hwz:=xnT hwz (Off.size o1); replace OF:=OF.and1 o1 (.inr (by omega)); clear hr_ hg2 o1 I_B9
   refine wpAnyH_done (by kernel_rfl) ?_ _
   replace M:=M.tail; have WC:=Wns.wrote WG hx I2 hVd
   have M3:Mm w0 ((R,gcf (gon g).role (gon g).out (gon g).inn mc (some B9) m0)::(mbs mc++(mbs (some B9)++(mbs m0++(((q.path,(BW,wcv (wtop (wmk ((gon g).win (g.inn.e+1) q.path) q.ctr)) VV))::wout [] q.path).map Prod.snd++(L0.map Prod.snd++T)))))) w12:=M.perm mk_new0
   refine ⟨rfl,.tuple #[],by kernel_rfl,rfl,?_⟩
   rw [if_pos h1]
   exact ⟨(some B9),m0,((q.path,(BW,wcv (wtop (wmk ((gon g).win (g.inn.e+1) q.path) q.ctr)) VV))::wout [] q.path),L0,M3,(by show Wns _ _ _ ((gmk (gon g) q).win (yad g.inn).e); rw [he1,gmk_at (g:=gon g) h1]; exact WC),(by show Wns _ _ _ ((gmk (gon g) q).win ((yad g.inn).e-1)); rw [he1,gmk_off (g:=gon g) (e:=g.inn.e+1-1) (by omega),show g.inn.e+1-1=g.inn.e by omega,hw1]; exact W0.off OF hds),OF.mono (fun y hy=>by
    simp only [List.map_append,List.mem_cons,List.mem_append,List.map_nil,List.not_mem_nil,or_false] at hy ⊢
    rcases hy with h | h; exact .inl h; exact .inr (.inr (.inl h)))⟩
 | some bm =>
   have hds:∀ y∈mbs m0,y.1∉R::((mbs (some bm)++([]:Wls).map Prod.snd).map Prod.fst):=mk_dis2 M
   have hmX:bm∈R::((mbs (some bm)++([]:Wls).map Prod.snd).map Prod.fst):=mT _ (List.mem_map.2 ⟨(bm,[]),List.mem_append_left _ mS,rfl⟩)
   replace M:Mm w0 ((R,[[Value.int .i64 g.role],kck g.out,kck g.inn,[Value.map mc],[Value.map m0],[Value.map (some bm)]].flatten)::(mbs mc++(mbs m0++(mbs (some bm)++(L0.map Prod.snd++(L1.map Prod.snd++T)))))) w:=M
   have hwz:=xnR w.heap.size; have OF:=Off.refl [] w
   go_enter Tryz.func31,Tryz.ntmps31
   go_upto_region 0 with fail; refine wp_region_list ?_; have hlb:=(Below.refl w.heap.size w).alloc (xnR _) (.cells #[.int .i64 q.kind,.int .i64 q.role,.int .i64 q.path,.int .i64 q.epo,.int .i64 q.ctr,.slice bp q.body.length bc] 70)
   refine actL (w':=w.alloc (.cells #[.int .i64 q.kind,.int .i64 q.role,.int .i64 q.path,.int .i64 q.epo,.int .i64 q.ctr,.slice bp q.body.length bc] 70)) (.pointer (some ⟨w.heap.size,0,none⟩)) rfl (by kernel_rfl) ?_; simp only [aP,lI,l0,lS]; have hB_:=hwz; replace hwz:=xnT hwz hlb.size; replace OF:=OF.below hlb
   replace M:=M.box #[.int .i64 q.kind,.int .i64 q.role,.int .i64 q.path,.int .i64 q.epo,.int .i64 q.ctr,.slice bp q.body.length bc] 70 w.heap.size rfl; clear hlb; generalize w.alloc (.cells #[.int .i64 q.kind,.int .i64 q.role,.int .i64 q.path,.int .i64 q.epo,.int .i64 q.ctr,.slice bp q.body.length bc] 70)=w1 at M hwz OF ⊢; generalize eB_:w.heap.size=B1 at M ⊢
   have hB_B1:w.heap.size≤B1:=by rw [← eB_]; exact hB_
   clear hB_ eB_
   replace M:Mm w0 ((B1,[.int .i64 q.kind,.int .i64 q.role,.int .i64 q.path,.int .i64 q.epo,.int .i64 q.ctr,.slice bp q.body.length bc])::(R,[[Value.int .i64 g.role],kck g.out,kck g.inn,[Value.map mc],[Value.map m0],[Value.map (some bm)]].flatten)::(mbs mc++(mbs m0++(mbs (some bm)++(L0.map Prod.snd++(L1.map Prod.snd++T)))))) w1:=M
   refine xT ?_; replace M:=M.swap; go_upto_region 1 with fail
   refine wp_region_held_drew (S:=fun w'=>Mm w0 ((R,[[Value.int .i64 g.role],kck g.out,kck g.inn,[Value.map mc],[Value.map m0],[Value.map (some bm)]].flatten)::(B1,[.int .i64 q.kind,.int .i64 q.role,.int .i64 q.path,.int .i64 q.epo,.int .i64 q.ctr,.slice bp q.body.length bc])::(mbs mc++(mbs m0++(mbs (some bm)++(L0.map Prod.snd++(L1.map Prod.snd++T)))))) w') (by kernel_rfl) M.drew ?_
   clear M; intro M; have hdr:=(Below.refl w1.heap.size w1).drew; replace hwz:=xnT hwz hdr.size; replace OF:=OF.below hdr; clear hdr; generalize w1.drew=w2 at M hwz OF ⊢; refine xrH 0 6 rfl (.pointer (some ⟨B1,3,none⟩)) (fun _ M=>(by kernel_rfl)) M ?_
   refine xrH 1 7 rfl (.int .i64 q.epo) (fun _ M=>load1 3 _ ⟨B1,3,none⟩ _ rfl rfl (fun _=>by kernel_rfl) (M.get (mT _ mS) 3 _ rfl)) M ?_; refine xrH 2 8 rfl (.pointer (some ⟨R,0,none⟩)) (fun _ M=>(by kernel_rfl)) M ?_; refine xrH 3 9 rfl (.pointer (some ⟨R,0,none⟩)) (fun _ M=>(by kernel_rfl)) M ?_; refine xrH 4 10 rfl (.pointer (some ⟨R,99,none⟩)) (fun _ M=>(by kernel_rfl)) M ?_
   replace M:Mm w0 ((R,[[Value.int .i64 g.role],kck g.out,kck g.inn,[Value.map mc],[Value.map m0],[Value.map (some bm)]].flatten)::(B1,[.int .i64 q.kind,.int .i64 q.role,.int .i64 q.path,.int .i64 q.epo,.int .i64 q.ctr,.slice bp q.body.length bc])::(mbs mc++(mbs m0++(mbs (some bm)++(L0.map Prod.snd++(L1.map Prod.snd++T)))))) w2:=M
   refine callH (i:=5) (some 11) rfl (by kernel_rfl) rfl rfl (fun _=>by kernel_rfl) (ginn_epoch M) ?_; rintro e w3 ⟨rfl,l⟩; replace M:=M.call l; replace hwz:=xnT hwz l.size; replace OF:=OF.below l; clear l
   refine ⟨_,rfl,M,?_⟩
   simp only [aP,lI,l0,lS]; refine xrH 6 12 rfl (.bool true) (fun _ M=>gtrI .i64 _ _ _ _ _ _ rfl rfl rfl true (decide_eq_true (by omega)) _) M ?_
   refine wpAnyH_done (by kernel_rfl) ?_ _
   first | show Exit.then _ _ _ _ _ | show Exit.inBlock _ _ _ _ _
   go_upto_region 2 with fail; refine wp_region_list ?_; refine xpL (.pointer (some ⟨R,0,none⟩)) ?_; replace M:=M.swap; replace M:=M.perm mk_go; refine xcL (ggoon_any w0 _ R _ g.role g.out g.inn mc m0 (some bm) hg.b hw.inn (wpt L1) (W1.map.off OF (fun _ _ h=>by cases h)) M) ?_; rintro e w4 ⟨rfl,M',HN,o1⟩; clear M
   replace M':=M'.sub _ (List.Sublist.cons_cons _ ((List.Sublist.refl _).append (List.Sublist.cons_cons _ ((List.Sublist.refl _).append ((List.Sublist.refl _).append ((List.Sublist.refl _).append (List.sublist_append_right (L1.map Prod.snd) T)))))))
   have M:=M'.perm mk_back; clear M'
   have OX:Off (R::((mbs (some bm)++([]:Wls).map Prod.snd).map Prod.fst)) w w4:=(OF.mono (fun _ h=>by cases h)).trans (o1.mono (fun y hy=>by simpa using hy))
   clear OF; have OF:=OX; replace hwz:=xnT hwz o1.size; clear o1 OX
   replace HN:NM w4 (some bm) (wpt []):=HN.congr (fun _=>rfl)
   refine xeL ?_
   replace M:Mm w0 ((B1,[.int .i64 q.kind,.int .i64 q.role,.int .i64 q.path,.int .i64 q.epo,.int .i64 q.ctr,.slice bp q.body.length bc])::(R,[[Value.int .i64 g.role],kck g.out,kck (yad g.inn),[Value.map mc],[Value.map (some bm)],[Value.map m0]].flatten)::(mbs mc++(mbs (some bm)++(mbs m0++(([]:Wls).map Prod.snd++(L0.map Prod.snd++T)))))) w4:=M
   refine xT ?_; have WG:=Wns.empty _ (some bm) (HN.congr (fun _=>rfl)) (win:=(gon g).win (g.inn.e+1)) hgw; go_upto_region 3 with fail; refine wp_region_list ?_; refine xpL (.pointer (some ⟨R,0,none⟩)) ?_; refine xpL (.pointer (some ⟨B1,3,none⟩)) ?_; refine xaL (.int .i64 q.epo) (load1 3 _ ⟨B1,3,none⟩ _ rfl rfl (fun _=>by kernel_rfl) (M.get mS 3 _ rfl)) ?_
   refine xpL (.pointer (some ⟨B1,2,none⟩)) ?_; refine xaL (.int .i64 q.path) (load1 3 _ ⟨B1,2,none⟩ _ rfl rfl (fun _=>by kernel_rfl) (M.get mS 2 _ rfl)) ?_; replace M:=M.swap
   replace M:Mm w0 ((R,[[Value.int .i64 g.role],kck g.out,kck (yad g.inn),[Value.map mc],[Value.map (some bm)],[Value.map m0]].flatten)::(B1,[.int .i64 q.kind,.int .i64 q.role,.int .i64 q.path,.int .i64 q.epo,.int .i64 q.ctr,.slice bp q.body.length bc])::(mbs mc++(mbs (some bm)++(mbs m0++(([]:Wls).map Prod.snd++(L0.map Prod.snd++T)))))) w4:=M
   refine xcL (gwin_now_new w0 _ R _ g.role g.out (yad g.inn) mc (some bm) m0 (yad_w' hw.inn) q.epo (by rw [he1]; exact h1) ([]:Wls) q.path hx6 HN hl M) ?_; rintro e w5 ⟨BW,WW,rfl,hB_BW,hWd,M',l1⟩; clear M; have M:=M'; clear M'; replace hB_BW:=xnT hwz hB_BW; replace hwz:=xnT hwz l1.size; replace OF:=OF.below l1; replace HN:=HN.below l1; clear l1; refine xeL ?_
   rw [← hgn] at hWd M
   replace M:Mm w0 ((BW,wcv (wtop ((gon g).win (g.inn.e+1) q.path)) WW)::(R,[[Value.int .i64 g.role],kck g.out,kck (yad g.inn),[Value.map mc],[Value.map (some bm)],[Value.map m0]].flatten)::(B1,[.int .i64 q.kind,.int .i64 q.role,.int .i64 q.path,.int .i64 q.epo,.int .i64 q.ctr,.slice bp q.body.length bc])::(mbs mc++(mbs (some bm)++(mbs m0++((wout [] q.path).map Prod.snd++(L0.map Prod.snd++T)))))) w5:=by
    rw [wout_none hl]
    exact M
   replace M:=M.rot3; replace M:=M.swap; refine xpL (.pointer (some ⟨BW,0,none⟩)) ?_; refine xT ?_; go_upto_region 4 with fail; refine wp_region_list ?_; refine xpL (.pointer (some ⟨BW,0,none⟩)) ?_; refine xpL (.pointer (some ⟨B1,4,none⟩)) ?_; refine xaL (.int .i64 q.ctr) (load1 3 _ ⟨B1,4,none⟩ _ rfl rfl (fun _=>by kernel_rfl) (M.get (mT _ mS) 4 _ rfl)) ?_
   refine xcL (vmark14_any w0 _ BW _ ((gon g).win (g.inn.e+1) q.path) WW (by rw [hgn]; exact winL_nil) hWd q.ctr hc6 M) ?_; rintro e w6 ⟨rfl,VV,hVd,M',o1⟩; clear M; have M:=M'; clear M'; replace hwz:=xnT hwz (Off.size o1); replace OF:=OF.and1 o1 (.inr (by omega))
   replace HN:=HN.off o1 (M.aside (g:=[_]) (fun p hp=>mT _ (mT _ (List.mem_append_right _ (List.mem_append_left _ hp))))); clear o1; refine xeL ?_; refine xT ?_; replace M:=M.rot3; go_upto_region 5 with fail
   refine wp_region_held_drew (S:=fun w'=>Mm w0 ((R,[[Value.int .i64 g.role],kck g.out,kck (yad g.inn),[Value.map mc],[Value.map (some bm)],[Value.map m0]].flatten)::(BW,wcv (wtop (wmk ((gon g).win (g.inn.e+1) q.path) q.ctr)) VV)::(B1,[.int .i64 q.kind,.int .i64 q.role,.int .i64 q.path,.int .i64 q.epo,.int .i64 q.ctr,.slice bp q.body.length bc])::(mbs mc++(mbs (some bm)++(mbs m0++((wout [] q.path).map Prod.snd++(L0.map Prod.snd++T)))))) w') (by kernel_rfl) M.drew ?_
   clear M; intro M; have hdr:=(Below.refl w6.heap.size w6).drew; replace hwz:=xnT hwz hdr.size; replace OF:=OF.below hdr; replace HN:=HN.below hdr; clear hdr; generalize w6.drew=w7 at M hwz OF HN ⊢; refine xrH 0 25 rfl (.pointer (some ⟨R,0,none⟩)) (fun _ M=>(by kernel_rfl)) M ?_; refine xrH 1 26 rfl (.pointer (some ⟨R,0,none⟩)) (fun _ M=>(by kernel_rfl)) M ?_
   refine xrH 2 27 rfl (.pointer (some ⟨R,99,none⟩)) (fun _ M=>(by kernel_rfl)) M ?_; refine xrH 4 29 rfl (.pointer (some ⟨B1,3,none⟩)) (fun _ M=>(by kernel_rfl)) M ?_; refine xrH 5 30 rfl (.int .i64 q.epo) (fun _ M=>load1 3 _ ⟨B1,3,none⟩ _ rfl rfl (fun _=>by kernel_rfl) (M.get (mI 2 rfl) 3 _ rfl)) M ?_
   replace M:Mm w0 ((R,[[Value.int .i64 g.role],kck g.out,kck (yad g.inn),[Value.map mc],[Value.map (some bm)],[Value.map m0]].flatten)::(BW,wcv (wtop (wmk ((gon g).win (g.inn.e+1) q.path) q.ctr)) VV)::(B1,[.int .i64 q.kind,.int .i64 q.role,.int .i64 q.path,.int .i64 q.epo,.int .i64 q.ctr,.slice bp q.body.length bc])::(mbs mc++(mbs (some bm)++(mbs m0++((wout [] q.path).map Prod.snd++(L0.map Prod.snd++T)))))) w7:=M
   refine callH (i:=3) (some 28) rfl (by kernel_rfl) rfl rfl (fun _=>by kernel_rfl) (ginn_epoch M) ?_; rintro e w8 ⟨rfl,l⟩; replace M:=M.call l; replace hwz:=xnT hwz l.size; replace OF:=OF.below l; replace HN:=HN.below l; clear l
   refine ⟨_,rfl,M,?_⟩
   simp only [aP,lI,l0,lS]; refine xrH 6 31 rfl (.int .i64 0) (fun _ M=>subI .i64 _ _ _ _ _ _ _ rfl rfl rfl (by rw [he1,xw6]; omega) _) M ?_; refine xrH 7 5 rfl (.int .i64 0) (fun _ M=>(by kernel_rfl)) M ?_
   refine wpAnyH_done (by kernel_rfl) ?_ _
   first | show Exit.then _ _ _ _ _ | show Exit.inBlock _ _ _ _ _
   go_upto_region 6 with fail; refine wp_region_list ?_; refine xpL (.pointer (some ⟨R,0,none⟩)) ?_; refine xpL (.int .i64 0) ?_; refine xpL (.pointer (some ⟨R,0,none⟩)) ?_; refine xpL (.pointer (some ⟨R,198,none⟩)) ?_; refine xpL (.pointer (some ⟨R,198,none⟩)) ?_
   refine xaL (.map (some bm)) (load1 61 _ ⟨R,198,none⟩ _ rfl rfl (fun _=>by kernel_rfl) (M.get mS 198 _ (flat_get _ [1,98,98,1,1,1] (by simp [kck_len]) 4 198 _ rfl rfl))) ?_; refine xaL (.bool false) (eqlMN (some bm) _ _ _ _ _ _ false rfl rfl rfl rfl Tryz.underlying61 _) ?_; refine xT ?_; replace M:=M.swap; replace M:=M.rot3; go_upto_region 8 with fail
   refine wp_region_C (S:=fun w'=>Mm w0 ((B1,[.int .i64 q.kind,.int .i64 q.role,.int .i64 q.path,.int .i64 q.epo,.int .i64 q.ctr,.slice bp q.body.length bc])::(BW,wcv (wtop (wmk ((gon g).win (g.inn.e+1) q.path) q.ctr)) VV)::(R,[[Value.int .i64 g.role],kck g.out,kck (yad g.inn),[Value.map mc],[Value.map (some bm)],[Value.map m0]].flatten)::(mbs mc++(mbs (some bm)++(mbs m0++((wout [] q.path).map Prod.snd++(L0.map Prod.snd++T)))))) w') 9 (by kernel_rfl) M.drew ?_
   clear M; intro M; have hdr:=(Below.refl w8.heap.size w8).drew; replace hwz:=xnT hwz hdr.size; replace OF:=OF.below hdr; replace HN:=HN.below hdr; clear hdr; generalize w8.drew=w9 at M hwz OF HN ⊢
   refine readC (i:=0) (some 45) rfl (.pointer (some ⟨R,0,none⟩)) rfl rfl (by kernel_rfl) rfl (fun _ M=>(by kernel_rfl)) (by kernel_rfl) (by kernel_rfl) (by kernel_rfl) (by kernel_rfl) (fun _ _ _ h=>h) M ?_; simp only [aP,lI,l0,lS]
   refine readC (i:=1) (some 46) rfl (.int .i64 0) rfl rfl (by kernel_rfl) rfl (fun _ M=>(by kernel_rfl)) (by kernel_rfl) (by kernel_rfl) (by kernel_rfl) (by kernel_rfl) (fun _ _ _ h=>h) M ?_; simp only [aP,lI,l0,lS]
   refine readC (i:=2) (some 47) rfl (.pointer (some ⟨R,0,none⟩)) rfl rfl (by kernel_rfl) rfl (fun _ M=>(by kernel_rfl)) (by kernel_rfl) (by kernel_rfl) (by kernel_rfl) (by kernel_rfl) (fun _ _ _ h=>h) M ?_; simp only [aP,lI,l0,lS]
   refine readC (i:=3) (some 48) rfl (.pointer (some ⟨R,198,none⟩)) rfl rfl (by kernel_rfl) rfl (fun _ M=>(by kernel_rfl)) (by kernel_rfl) (by kernel_rfl) (by kernel_rfl) (by kernel_rfl) (fun _ _ _ h=>h) M ?_; simp only [aP,lI,l0,lS]
   refine readC (i:=4) (some 49) rfl (.pointer (some ⟨R,198,none⟩)) rfl rfl (by kernel_rfl) rfl (fun _ M=>(by kernel_rfl)) (by kernel_rfl) (by kernel_rfl) (by kernel_rfl) (by kernel_rfl) (fun _ _ _ h=>h) M ?_; simp only [aP,lI,l0,lS]
   refine readC (i:=5) (some 50) rfl (.map (some bm)) rfl rfl (by kernel_rfl) rfl (fun _ M=>load1 61 _ ⟨R,198,none⟩ _ rfl rfl (fun _=>by kernel_rfl) (M.get (mI 2 rfl) 198 _ (flat_get _ [1,98,98,1,1,1] (by simp [kck_len]) 4 198 _ rfl rfl))) (by kernel_rfl) (by kernel_rfl) (by kernel_rfl) (by kernel_rfl) (fun _ _ _ h=>h) M ?_; simp only [aP,lI,l0,lS]
   refine readC (i:=6) (some 51) rfl (.pointer (some ⟨B1,2,none⟩)) rfl rfl (by kernel_rfl) rfl (fun _ M=>(by kernel_rfl)) (by kernel_rfl) (by kernel_rfl) (by kernel_rfl) (by kernel_rfl) (fun _ _ _ h=>h) M ?_; simp only [aP,lI,l0,lS]
   refine readC (i:=7) (some 52) rfl (.int .i64 q.path) rfl rfl (by kernel_rfl) rfl (fun _ M=>load1 3 _ ⟨B1,2,none⟩ _ rfl rfl (fun _=>by kernel_rfl) (M.get mS 2 _ rfl)) (by kernel_rfl) (by kernel_rfl) (by kernel_rfl) (by kernel_rfl) (fun _ _ _ h=>h) M ?_; simp only [aP,lI,l0,lS]
   refine readC (i:=8) (some 53) rfl (.pointer (some ⟨BW,0,none⟩)) rfl rfl (by kernel_rfl) rfl (fun _ M=>(by kernel_rfl)) (by kernel_rfl) (by kernel_rfl) (by kernel_rfl) (by kernel_rfl) (fun _ _ _ h=>h) M ?_; simp only [aP,lI,l0,lS]
   obtain ⟨w10,hr_,I2,hg2⟩:=IM.put HN ukI Tryz.underlying61 (show 256<maxLen by decide) hx6 (.pointer (some ⟨BW,0,none⟩))
   replace M:=Mm.touchIn M (mT _ (mT _ (mT _ ((List.mem_append_right _ (List.mem_append_left _ mS)))))) hg2; refine skipC (S2:=fun _=>True) none rfl (by kernel_rfl) rfl rfl (putOpM _ _ _ rfl rfl rfl rfl hr_) (by kernel_rfl) ?_; simp only [Act.put]; have o1:=Off.touched hg2; replace hwz:=xnT hwz (Off.size o1); replace OF:=OF.and1 o1 (.inl hmX); clear hr_ hg2 o1 HN
   refine wpAnyH_done (by kernel_rfl) ?_ _
   replace M:=M.tail; have WC:=Wns.wrote WG hx I2 hVd
   have M3:Mm w0 ((R,gcf (gon g).role (gon g).out (gon g).inn mc (some bm) m0)::(mbs mc++(mbs (some bm)++(mbs m0++(((q.path,(BW,wcv (wtop (wmk ((gon g).win (g.inn.e+1) q.path) q.ctr)) VV))::wout [] q.path).map Prod.snd++(L0.map Prod.snd++T)))))) w10:=M.perm mk_fin0
   refine ⟨rfl,.tuple #[],by kernel_rfl,rfl,?_⟩
   rw [if_pos h1]
   exact ⟨(some bm),m0,((q.path,(BW,wcv (wtop (wmk ((gon g).win (g.inn.e+1) q.path) q.ctr)) VV))::wout [] q.path),L0,M3,(by show Wns _ _ _ ((gmk (gon g) q).win (yad g.inn).e); rw [he1,gmk_at (g:=gon g) h1]; exact WC),(by show Wns _ _ _ ((gmk (gon g) q).win ((yad g.inn).e-1)); rw [he1,gmk_off (g:=gon g) (e:=g.inn.e+1-1) (by omega),show g.inn.e+1-1=g.inn.e by omega,hw1]; exact W0.off OF hds),OF.mono (fun y hy=>by
    simp only [List.map_append,List.mem_cons,List.mem_append,List.map_nil,List.not_mem_nil,or_false] at hy ⊢
    rcases hy with h | h; exact .inl h; exact .inr (.inr (.inl h)))⟩
end
end Go.Proofs.YtknodedhcdpbiaaGreatDoor
