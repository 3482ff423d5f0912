/- Texts of Base Pz Adds Wd Cm Cn Cl Cf Step Kr Pt Wo Wp Wq Cs Co Cp, joined. -/
import Derived.WalkSpells
import Derived.Deep.RegionHeld3
import Derived.Test.YtknodlefhclijaaGreatDoorProg
import Derived.Lib.Mul64
import Derived.Deep.Cut
import Derived.Stop.BytesEq
import Derived.BigQuiet
set_option maxRecDepth 20000
set_option maxHeartbeats 64000000
namespace Go.Proofs.YtknodlefhclijaaGreatDoor
open Go.RowKit
theorem QQ {p:Prop}(h:p:=by (have ho:=hI.ho.congr (g:=dg 8 V) (fun j _=>by rw [Nat.mod_eq_of_lt hV.1]); have hz:=hI.hr); (have hE:In 256 17 (dg 8 V)∧val 256 (dg 8 V) 17=val D f n%Q:=⟨x0u 8 V 17 256 (by decide),by rw [lG 8 V 256 (by decide) 17,Nat.mod_eq_of_lt (xnL hV.1 (Nat.pow_le_pow_right (by decide) (by decide)))]; exact hV.2⟩); (have HE:=show Hid _ from hE; have hW:=jS hI.fr.below w.heap.size (xnR _) 0 (row .u8 17 (dg 8 V)); clear hE hlt hk hI; generalize dg 8 V=g at *); (go_wp2_with (first | (refine yl (ho) Tryz.underlying158 (jL _) ?_) | (refine ys .u8 17 (g) (yX (hz)) (qX _) ?_))); (exact bRq (v:=(.agg (row .u8 17 (g)).toArray)) (jQ Tryz.results158 rfl (Has.all hz.there .u8 g).range Tryz.underlying158 rfl (jL g)) rfl ⟨g,rfl,HE.out,hW⟩)):p:=h
theorem QZ {p:Prop}(h:p:=by (have g2:(k:Int)<130:=by omega); (have g3:((k:Int)/8).toNat=k/8:=by omega); (have g4:((k:Int)/26).toNat=k/26:=by omega); (have g5:((k:Int)%8).toNat=k%8:=by omega); (have g6:((k:Int)%26).toNat=k%26:=by omega); (clear hI); (generalize dg 8 (V%2^k) (k/8)=x at *); (generalize dg 26 V (k/26)=y at *); (go_wp2); (go_region); (go_wp2); (go_roundw); (case rel=>exact ⟨k+1,by omega,by go_num,HS.out _ HE.out⟩); (case measure=>simp [intOf]; omega)):p:=h
theorem QX {p:Prop}(h:p:=by (refine ycL (.int .u32 (qD (f A) (f B) (f C) (f D))) G 3 Tryz.underlying118 ((K.get _ _ _ _ (mT _ mS)).cell 3 (by omega)) ?_); (refine xqL _ (fun w'=>fZ _ _ _ _ a4 w' _ _ rfl rfl rfl) ?_); (refine ywL .u32 (qD (f A) (f B) (f C) (f D)) gx D (by rw [(K.get _ _ _ _ mS).cell D a4]; rfl) ((K.get _ _ _ _ mS).free D a4) (by kernel_rfl) ?_); (replace K:=K.setCell [(G,.u32,4,hqt (mV (f A) (f B) (f C) (f D))),(gs,.u32,16,hst k c n)] gx .u32 16 (upd (upd (upd (f) A (qA (f A) (f B) (f C) (f D))) B (qB (f A) (f B) (f C) (f D))) C (qC (f A) (f B) (f C) (f D))) D a4 (qD (f A) (f B) (f C) (f D)) mS (fun p hp=>mT _ hp) (fun p hp=>by rcases xc1 hp with rfl | hp; simp only; omega; obtain rfl:=xm1 hp; simp only; omega) (by omega)); (generalize w8.setCell ⟨gx,D,none⟩ (.int .u32 (qD (f A) (f B) (f C) (f D)))=w9 at K ⊢); (show Exit.inBlock _ _ _ _ _); (rw [← HT.out] at K); (replace K:=K.back [(gx,.u32,16,htN F (j+1)),(gs,.u32,16,hst k c n)] M (fun p hp=>by rcases xc1 hp with rfl | hp; exact mS; exact mT _ (mT _ hp)) (fun p hp=>by rcases xc1 hp with rfl | hp; simp only; omega; obtain rfl:=xm1 hp; simp only; omega) (fun q hq=>by obtain rfl:=xm1 hq; simp only; omega) (by omega) hM5); (have HS:=show Hid _ from K); (clear K HT a1 a2 a3 a4); (go_wp2); (go_roundw); (case rel=>first | exact ⟨j+1,by omega,by go_num,HS.out⟩ | ((repeat apply Exists.intro); refine ⟨⟨j+1,by omega,?_,HS.out⟩,rfl⟩ <;> first | rfl | go_num)); (case measure=>simp [intOf]; omega)):p:=h
theorem QJ {p:Prop}(h:p:=by (have HS:=show Hid _ from fun x hx=>hI.step hlt hO hne2 x hx); (have d1:=hI.ho.cell (k/8) (by omega); have e1:=hI.ho.free (k/8) (by omega); have d2:=hI.hg.cell (k/26) (by omega); have HE:=show Hid _ from x3x V k); (have g1:(0:Int)≤(k:Int):=by omega); (exact QZ)):p:=h
theorem QY {p:Prop}(h:p:=by (replace M:=M.swap); (refine jG rfl (jC (row .u8 32 (kB s.c 0 (bl []))) B2 0 23 _ _ rfl rfl rfl (M.thereP mS 0 32 (nB rfl)) (by kernel_rfl) (jT .u8 32 (kB s.c 0 (bl [])))) ?_); (simp only [Act.put]); (replace M:=M.setAll (row .u8 32 (kB s.c 0 (bl []))) (by rw [xY]; rfl)); (replace OF:=OF.and1 ((Off.refl [B2] _).setAll (b:=B2) mS 0 (row .u8 32 (kB s.c 0 (bl [])))) (.inr (by omega))); (generalize w4.setCells B2 0 (row .u8 32 (kB s.c 0 (bl [])))=w5 at M OF ⊢); (refine xT ?_); (have c1:w5.rangeAt B1 0 (row .u8 32 (kA s.c 0 (bl []))):=fun j v hv=>by rw [nZ]; exact M.get (mT _ mS) j v hv); (have c2:w5.rangeAt B2 0 (row .u8 32 (kB s.c 0 (bl []))):=fun j v hv=>by rw [nZ]; exact M.get mS j v hv); (have hbel:Below w.heap.size w w5:=⟨M.below.os.trans hb0.os.symm,M.below.tape.trans hb0.tape.symm,M.below.output.trans hb0.output.symm,OF.size,fun b hb=>OF.blk b hb (fun h=>by cases h)⟩); (clear M OF); (go_wp2); (refine bRq (mC (a:=2) (b:=3) (ty:=23) (ty':=23) rfl rfl rfl c1 c2 Tryz.underlying23 Tryz.underlying23 rfl rfl (by kernel_rfl) (by kernel_rfl)) rfl ?_); (exact ⟨rfl,hbel⟩)):p:=h
theorem QV {p:Prop}(h:p:=by (show Exit.then _ _ _ _ _); (go_upto_region 28 with fail); (refine wR (xm2 ?_)); (refine xpL (.pointer (some ⟨G,2,none⟩)) ?_); (refine ycL (.int .u32 (qC (f A) (f B) (f C) (f D))) G 2 Tryz.underlying118 ((K.get _ _ _ _ (mT _ mS)).cell 2 (by omega)) ?_); (refine xqL _ (fun w'=>fZ _ _ _ _ a3 w' _ _ rfl rfl rfl) ?_); (refine ywL .u32 (qC (f A) (f B) (f C) (f D)) gx C (by rw [(K.get _ _ _ _ mS).cell C a3]; rfl) ((K.get _ _ _ _ mS).free C a3) (by kernel_rfl) ?_); (replace K:=K.setCell [(G,.u32,4,hqt (mV (f A) (f B) (f C) (f D))),(gs,.u32,16,hst k c n)] gx .u32 16 (upd (upd (f) A (qA (f A) (f B) (f C) (f D))) B (qB (f A) (f B) (f C) (f D))) C a3 (qC (f A) (f B) (f C) (f D)) mS (fun p hp=>mT _ hp) (fun p hp=>by rcases xc1 hp with rfl | hp; simp only; omega; obtain rfl:=xm1 hp; simp only; omega) (by omega)); (generalize w7.setCell ⟨gx,C,none⟩ (.int .u32 (qC (f A) (f B) (f C) (f D)))=w8 at K ⊢); (show Exit.then _ _ _ _ _); (go_upto_region 29 with fail); (refine wR (xm2 ?_)); (refine xpL (.pointer (some ⟨G,3,none⟩)) ?_); (exact QX)):p:=h
theorem QU {p:Prop}(h:p:=by (refine xqL _ (fun w'=>fZ _ _ _ _ a1 w' _ _ rfl rfl rfl) ?_); (refine ywL .u32 (qA (f A) (f B) (f C) (f D)) gx A (by rw [(K.get _ _ _ _ (mT _ mS)).cell A a1]; rfl) ((K.get _ _ _ _ (mT _ mS)).free A a1) (by kernel_rfl) ?_); (replace K:=K.setCell [(G,.u32,4,hqt (mV (f A) (f B) (f C) (f D))),(gs,.u32,16,hst k c n)] gx .u32 16 (f) A a1 (qA (f A) (f B) (f C) (f D)) (mT _ mS) (fun p hp=>by rcases xc1 hp with rfl | hp; exact mS; exact mT _ (mT _ hp)) (fun p hp=>by rcases xc1 hp with rfl | hp; simp only; omega; obtain rfl:=xm1 hp; simp only; omega) (by omega)); (generalize w5.setCell ⟨gx,A,none⟩ (.int .u32 (qA (f A) (f B) (f C) (f D)))=w6 at K ⊢); (show Exit.then _ _ _ _ _); (go_upto_region 27 with fail); (refine wR (xm2 ?_)); (refine xpL (.pointer (some ⟨G,1,none⟩)) ?_); (refine ycL (.int .u32 (qB (f A) (f B) (f C) (f D))) G 1 Tryz.underlying118 ((K.get _ _ _ _ (mT _ mS)).cell 1 (by omega)) ?_); (refine xqL _ (fun w'=>fZ _ _ _ _ a2 w' _ _ rfl rfl rfl) ?_); (refine ywL .u32 (qB (f A) (f B) (f C) (f D)) gx B (by rw [(K.get _ _ _ _ mS).cell B a2]; rfl) ((K.get _ _ _ _ mS).free B a2) (by kernel_rfl) ?_); (replace K:=K.setCell [(G,.u32,4,hqt (mV (f A) (f B) (f C) (f D))),(gs,.u32,16,hst k c n)] gx .u32 16 (upd (f) A (qA (f A) (f B) (f C) (f D))) B a2 (qB (f A) (f B) (f C) (f D)) mS (fun p hp=>mT _ hp) (fun p hp=>by rcases xc1 hp with rfl | hp; simp only; omega; obtain rfl:=xm1 hp; simp only; omega) (by omega)); (generalize w6.setCell ⟨gx,B,none⟩ (.int .u32 (qB (f A) (f B) (f C) (f D)))=w7 at K ⊢); (exact QV)):p:=h
theorem QK {p:Prop}(h:p:=by (have HS:=show Hid _ from (And.intro M OF)); (clear M OF); (go_wp2); (go_ret2); (exact ⟨_,_,by rw [hE.out,h20.out]; rfl,fun h=>absurd h (by rw [hE.out]; decide),HS.out⟩)):p:=h
theorem QW {p:Prop}(h:p:=by (go_roundw); (case rel=>exact ⟨k+1,_,by omega,by go_num,HS.out⟩); (case measure=>simp [intOf]; omega)):p:=h
theorem QG {p:Prop}(h:p:=by (go_wp2); (go_roundw); (case rel=>first | exact ⟨n+1,f',by omega,by go_num,HS.out⟩ | ((repeat apply Exists.intro); refine ⟨⟨n+1,f',by omega,by go_num,HS.out⟩,rfl⟩)); (case measure=>simp [intOf]; omega)):p:=h
theorem QH {p:Prop}(h:p:=by (have HS:=show Hid _ from P.mix G hX0 hXM hXO hXb; clear P K G hin2; go_wp2); (go_roundw); (case rel=>first | exact ⟨q+1,by omega,by go_num,HS.out⟩ | ((repeat apply Exists.intro); refine ⟨⟨q+1,by omega,by go_num,HS.out⟩,rfl⟩)); (case measure=>simp [intOf]; omega)):p:=h
theorem Qb {p:Prop}(h:p:=by (simp only [Act.put,lI,l0,lS]); (refine xX (i:=19) none rfl .u32 4 (hqt (mV (f A) (f B) (f C) (f D))) G 154 _ _ (by kernel_rfl) rfl rfl rfl rfl rfl (jM hFb.th) (j4k _) (K.past G hFb.lo _) ?_); (refine wE (by kernel_rfl) ?_ _); (have hGM:=hFb.lo; replace K:=K.land hFb .u32 (hqt (mV (f A) (f B) (f C) (f D))); clear hFb; generalize w4.setCells G 0 (row .u32 4 (hqt (mV (f A) (f B) (f C) (f D))))=w5 at K ⊢); (have hM5:M≤w4.heap.size:=by have:=(K.rows (G,.u32,4,hqt (mV (f A) (f B) (f C) (f D))) mS).2; omega); (generalize w4.heap.size=M5 at K hM5); (go_upto_region 26 with fail); (refine wR (xm2 ?_)); (refine xpL (.pointer (some ⟨G,0,none⟩)) ?_); (refine ycL (.int .u32 (qA (f A) (f B) (f C) (f D))) G 0 Tryz.underlying118 ((K.get _ _ _ _ mS).cell 0 (by omega)) ?_); (exact QU)):p:=h
theorem Qe {p:Prop}(h:p:=by (replace K:=K.call l); (clear l); (refine ⟨_,rfl,K,nC ?_⟩); (rw [HE.out]); (have hz':=(K.room _ mS).1); (refine tM (S2:=fun _=>True) none rfl .u8 32 (yD kl key len z) (w.heap.size) 23 _ _ (by kernel_rfl) rfl rfl rfl rfl rfl (jM hz') (jV _) (by kernel_rfl) ?_); (simp only [Act.put]); (refine wE (by kernel_rfl) ?_ _); (have hB:=(K.fill _ _ mS (row .u8 32 (yD kl key len z))).below; clear K HE hG hgl; generalize hGe:yD kl key len z=G at *; go_wp2); (exact bRq (v:=(.agg (row .u8 32 (G)).toArray)) (jQ Tryz.results147 rfl (Has.all hz' .u8 G).range Tryz.underlying23 rfl (jJ G)) rfl ⟨by first | rfl | rw [hGe] | (rw [← hGe]; done),hB⟩)):p:=h
theorem Qf {p:Prop}(h:p:=by (go_roundw); (case rel=>exact ⟨k+1,by omega,by go_num,HS.out⟩); (case measure=>simp [intOf]; omega)):p:=h
theorem Qg {p:Prop}(h:p:=by (refine wE (by kernel_rfl) ?_ _); (have HS:=show Hid _ from (And.intro ho hb2); clear K HO hr ho hg hb1 hb2; go_wp2); (go_roundw); (case rel=>first | exact ⟨n+1,v,by omega,by go_num,rfl,HS.out⟩ | ((repeat apply Exists.intro); refine ⟨⟨n+1,v,by omega,by go_num,rfl,HS.out⟩,rfl⟩)); (case measure=>simp [intOf]; omega)):p:=h
theorem Qh {p:Prop}(h:p:=by (unfold execOp); (simp only [ho,hx,Instr.loadAt,Instr.sureAddr,Sem.run_bind,Sem.run_pure,xO,e])):p:=h
theorem Qi {p:Prop}(h:p:=by (rw [jR _ _ _ _ (by omega)]); (exact h.rest j (by omega))):p:=h
theorem Qj {p:Prop}(h:p:=by (replace M:=M.call l1); (replace OF:=OF.below l1); (clear l1); (refine xeL ?_); (refine xm2 ?_); (replace M:=M.swap); (refine jG rfl (jC (row .u8 32 (kA s.c 0 (bl []))) B1 0 23 _ _ rfl rfl rfl (M.thereP mS 0 32 (nB rfl)) (by kernel_rfl) (jT .u8 32 (kA s.c 0 (bl [])))) ?_); (simp only [Act.put]); (replace M:=M.setAll (row .u8 32 (kA s.c 0 (bl []))) (by rw [xY]; rfl)); (replace OF:=OF.and1 ((Off.refl [B1] _).setAll (b:=B1) mS 0 (row .u8 32 (kA s.c 0 (bl [])))) (.inr (by omega))); (generalize w3.setCells B1 0 (row .u8 32 (kA s.c 0 (bl [])))=w4 at M OF ⊢); (exact QY)):p:=h
theorem Qk {p:Prop}(h:p:=by (rw [List.set_append_right _ _ (by rw [xY]; omega),xY,List.set_append_right _ _ (by rw [xY]; omega),xY,List.set_append_right _ _ (by rw [xY]; omega),xY]); (rfl)):p:=h
theorem Ql {p:Prop}(h:p:=by (simp only [Result.andThen,slicedAt]); (have e1:(4*(k:Int)).toNat=4*k:=by omega); (rw [e1,if_neg (by omega),Addr.add_mid,nZ,Nat.mul_one])):p:=h
theorem Qm {p:Prop}(h:p:=by (rw [jR _ _ _ _ e]); (exact h.done j (by omega))):p:=h
theorem Qn {p:Prop}(h:p:=by (go_wp2); (go_region); (go_wp2); (go_roundw); (case rel=>exact ⟨k+1,_,_,by omega,by go_num,rfl,hS⟩); (case measure=>simp [intOf]; omega)):p:=h
theorem Qo {p:Prop}(h:p:=by (show ((w'.setCell _ _).cell? _).isSome=true∧(w'.setCell _ _).frozen? _=false); (rw [World.cell?_setCell_other _ _ _ _ hne,World.frozen?_setCell]); (exact h.hr j hj)):p:=h
theorem Qp {p:Prop}(h:p:=by (go_wp2); (go_roundw); (case rel=>first | exact ⟨j+1,by omega,by go_num,HS.out⟩ | ((repeat apply Exists.intro); refine ⟨⟨j+1,by omega,?_,HS.out⟩,rfl⟩ <;> first | rfl | go_num)); (case measure=>simp [intOf]; omega)):p:=h
theorem Qq {p:Prop}(h:p:=by (go_roundw); (case rel=>first | exact ⟨t+1,by omega,by go_num,HS.out⟩ | ((repeat apply Exists.intro); refine ⟨⟨t+1,by omega,?_,HS.out⟩,rfl⟩ <;> first | rfl | go_num)); (case measure=>simp [intOf]; omega)):p:=h
theorem Qr {p:Prop}(h:p:=by (go_wp2); (go_quiet (fail)); (go_wp2); (go_ret); (exact ⟨nq,rfl,rfl⟩)):p:=h
theorem Qs {p:Prop}(h:p:=by (refine xT ?_); (go_upto_region 2 with fail); (refine wR (xmL ?_)); (refine xT ?_); (have hbel:Below w.heap.size w w2:=⟨M.below.os.trans hb0.os.symm,M.below.tape.trans hb0.tape.symm,M.below.output.trans hb0.output.symm,OF.size,fun b hb=>OF.blk b hb (fun h=>by cases h)⟩); (have HS:=show Hid _ from (And.intro hW_B1 (And.intro M hbel)); clear M OF hbel hW_B1; go_wp2; go_ret); (exact ⟨_,rfl,HS.out⟩)):p:=h
theorem Qt {p:Prop}(h:p:=by (have hn2:=hm2.below l2 (by rw [jN]; have:=(HI.out.fr.call l1).size; omega)); (have H2:=show Hid _ from s2); (clear s2 hm2 ha2 hn1); (have tok2:True:=trivial); (go_wp2_with (have _t:=tok2; refine ys .u8 32 (m2) (yQ (hn2)) (jV _) ?_; clear tok2)); (go_roundw); (case rel=>exact ⟨q,(q:Int)-1,m2,by omega,rfl,rfl,HI.out.odd l1 H1.out l2 H2.out HO.out⟩); (case measure=>simp [intOf])):p:=h
theorem Qu {p:Prop}(h:p:=by (go_roundw); (case rel=>first | exact ⟨r+1,by omega,by go_num,HS.out⟩ | ((repeat apply Exists.intro); refine ⟨⟨r+1,by omega,by go_num,HS.out⟩,rfl⟩)); (case measure=>simp [intOf]; omega)):p:=h
theorem Qv {p:Prop}(h:p:=by (refine xaL v (jW _ _ 131 _ _ _ rfl rfl rfl hr) ?_); (refine xmL ?_); (have HS:=show Hid _ from HI); (clear HI hr); (show Exit.inBlock _ _ _ _ _); (go_wp2); (go_roundw); (case rel=>first | exact ⟨m+1,by omega,by go_num,HS.out⟩ | ((repeat apply Exists.intro); refine ⟨⟨m+1,by omega,?_,HS.out⟩,rfl⟩ <;> first | rfl | go_num)); (case measure=>simp [intOf]; omega)):p:=h
theorem Qw {p:Prop}(h:p:=by (have cn':=cn q); (have fn':=fn q); (have HT:=show Hid _ from HS.out q; clear HC HS cn fn hcut; generalize wr.drewN q=w2 at *; go_wp2); (go_roundw); (case rel=>first | exact ⟨m+1,_,by omega,by go_num,HT.out⟩ | ((repeat apply Exists.intro); refine ⟨⟨m+1,_,by omega,?_,HT.out⟩,rfl⟩ <;> first | rfl | go_num)); (case measure=>simp [intOf]; omega)):p:=h
theorem Qx {p:Prop}(h:p:=by (show Exit.then _ _ _ _ _); (go_wp2); (exact bRq (v:=(.agg (row .u32 8 (G)).toArray)) (jQ Tryz.results117 rfl (Has.all hz' .u32 G).range Tryz.underlying139 rfl (zQ G)) rfl ⟨by first | rfl | rw [hGe] | (rw [← hGe]; done) | (rw [← hGe,nZ]; done) | (rw [← hGe,Nat.add_zero]; done),hB⟩)):p:=h
theorem Qy {p:Prop}(h:p:=by (go_wp2_with (first | (refine yl (HR) Tryz.underlying165 (sU _) ?_) | (refine ys .u32 16 g (jM hz') (nJ _) ?_))); (exact bRq (v:=(.agg (row .u32 16 (g)).toArray)) (jQ Tryz.results160 rfl (Has.all hz' .u32 g).range Tryz.underlying165 rfl (sU g)) rfl ⟨rfl,hB⟩)):p:=h
theorem Qz {p:Prop}(h:p:=by (replace hQ:=show Hid _ from hQ); (refine xeL ?_); (refine xm2 ?_); (refine xm2 (xT ?_)); (go_wp2); (go_ret2); (exact hQ)):p:=h
theorem ZQ {p:Prop}(h:p:=by (go_wp2); (go_ret); (exact ⟨rfl,rfl⟩)):p:=h
theorem ZZ {p:Prop}(h:p:=by (have HO:=show Hid _ from hodd; clear hT hodd hm2 ha2 hB); (go_wp2_with (have _t:=tok; refine ys .u8 32 (m1) (yQ (hn1)) (jV _) ?_; clear tok)); (go_roundw); (case rel=>exact ⟨q,(q:Int)-1,m1,by omega,rfl,rfl,HI.out.even l1 H1.out HO.out⟩); (case measure=>simp [intOf])):p:=h
theorem ZX {p:Prop}(h:p:=by (go_roundw); (case rel=>first | exact ⟨q+1,ll,sl,cl,_,u',by omega,by go_num,rfl,hbl,hll,HS.out.1,HS.out.2⟩ | ((repeat apply Exists.intro); exact ⟨⟨q+1,ll,sl,cl,_,u',by omega,by go_num,rfl,hbl,hll,HS.out.1,HS.out.2⟩,rfl⟩)); (case measure=>simp [intOf]; omega)):p:=h
theorem ZJ {p:Prop}(h:p:=by (have hs:∀ w,(sizeOf 5).run Tryz.prog w=.ok 1 w:=fun w=>by kernel_rfl); (have ha:∀ w,(isAgg 5).run Tryz.prog w=.ok false w:=fun w=>by kernel_rfl); (have hg:=xG .u8 32 f t h); (simp [Instr.index,run_underlying Tryz.underlying23,asIntOf,hs,ha,part,hg,h,go_sem])):p:=h
theorem ZY {p:Prop}(h:p:=by (have hl:Tryz.prog.arrayLen 134=64:=by kernel_rfl); (have hs:∀ w,(sizeOf (Tryz.prog.elem 134)).run Tryz.prog w=.ok 1 w:=fun w=>by kernel_rfl); (rw [run_sliceAt_array_l w 134 ⟨b,0,none⟩ (by kernel_rfl) .i64 _ (by omega) (by rw [hl]; omega),hs,hl]); (exact Ql)):p:=h
theorem ZV {p:Prop}(h:p:=by (have hl:Tryz.prog.arrayLen 23=32:=by kernel_rfl); (have hs:∀ w,(sizeOf (Tryz.prog.elem 23)).run Tryz.prog w=.ok 1 w:=fun w=>by kernel_rfl); (rw [run_sliceAt_array_l w 23 ⟨b,0,none⟩ (by kernel_rfl) .i64 _ (by omega) (by rw [hl]; omega),hs,hl]); (exact Ql)):p:=h
theorem ZU {p:Prop}(h:p:=by (have e:(loadVar ty p).run P w=.ok v w:=by simp [loadVar,Sem.run_bind,hagg,hc]); (exact Qh)):p:=h
theorem ZK {p:Prop}(h:p:=by (go_wp2); (go_roundw); (case rel=>first | exact ⟨j+1,_,_,by omega,by go_num,rfl,HS.out h l hs⟩ | ((repeat apply Exists.intro); refine ⟨⟨j+1,_,_,by omega,?_,?_,HS.out h l hs⟩,rfl⟩ <;> first | rfl | go_num)); (case measure=>simp [intOf]; omega)):p:=h
theorem ZW {p:Prop}(h:p:=by (have hb2:=hb1.grown hg (fun b hb=>(World.ownsRow.lt HO b hb).1); refine rY (i:=17) (some 184) rfl v (by kernel_rfl) rfl rfl (jW _ _ 131 _ _ _ rfl rfl rfl hr) hb2 ?_; simp only [aP,lI,l0,lS]; refine xmH 18 17 hb2 ?_); (exact Qg)):p:=h
theorem ZG {p:Prop}(h:p:=by (show Exit.inBlock _ _ _ _ _); (go_wp2); (go_roundw); (case rel=>first | exact ⟨m+1,_,by omega,by go_num,HS.out⟩ | ((repeat apply Exists.intro); refine ⟨⟨m+1,_,by omega,by go_num,HS.out⟩,rfl⟩)); (case measure=>simp [intOf]; omega)):p:=h
theorem ZH {p:Prop}(h:p:=by (clear HS); (go_upto_region 20 with fail); (go_quiet ((go_at_call 94; exact Calls.quiet_of_same (zN k hlt _)))); (go_wp2); (go_roundw); (case rel=>exact ⟨k+1,_,_,by omega,by go_num,rfl,HT.out nq⟩); (case measure=>simp [intOf]; omega)):p:=h
theorem Zp {p:Prop}(h:p:=by (go_wp2); (go_roundw); (case rel=>first | exact ⟨k+1,_,by omega,by go_num,HR.out⟩ | ((repeat apply Exists.intro); refine ⟨⟨k+1,_,by omega,?_,HR.out⟩,rfl⟩ <;> first | rfl | go_num)); (case measure=>simp [intOf]; omega)):p:=h
theorem Zq {p:Prop}(h:p:=by (go_upto_region 3 with fail); (refine wR (xm2 ?_)); (refine xaL (.int .i64 ((kdn c n:Nat):Int)) (mU .i64 _ _ _ _ _ _ _ rfl rfl rfl (by omega) hrem _) ?_); (refine xmL (xT ?_)); (have hB:=M.below); (clear M); (go_wp2); (go_ret); (exact ⟨rfl,hB⟩)):p:=h
theorem Zs {p:Prop}(h:p:=by (go_roundw); (case rel=>first | exact ⟨i+1,_,by omega,by go_num,HS.out⟩ | ((repeat apply Exists.intro); refine ⟨⟨i+1,_,by omega,?_,HS.out⟩,rfl⟩ <;> first | rfl | go_num)); (case measure=>simp [intOf]; omega)):p:=h
theorem Zt {p:Prop}(h:p:=by (simp only [Result.andThen,slicedAt]); (have e1:(4*(k:Int)).toNat=4*k:=by omega); (have e2:(4*(k:Int)+4).toNat=4*k+4:=by omega); (rw [e1,e2,if_neg (by omega),Addr.add_mid,nZ,Nat.mul_one,show 4*k+4-4*k=4 by omega])):p:=h
theorem Zu {p:Prop}(h:p:=by (unfold isAgg); (rw [Sem.run_bind,run_underlying hu w]); (rfl)):p:=h
theorem Zv {p:Prop}(h:p:=by (go_roundw); (case rel=>first | exact ⟨n+1,_,rfl,by omega,by omega,HS.out⟩ | ((repeat apply Exists.intro); refine ⟨⟨n+1,_,rfl,by omega,by omega,HS.out⟩,rfl⟩)); (case measure=>simp [j5n]; omega)):p:=h
theorem Zw {p:Prop}(h:p:=by (go_roundw); (case rel=>first | exact ⟨t+1,f2,by omega,by go_num,HS.out⟩ | ((repeat apply Exists.intro); refine ⟨⟨t+1,f2,by omega,by go_num,HS.out⟩,rfl⟩)); (case measure=>simp [intOf]; omega)):p:=h
theorem Zx {p:Prop}(h:p:=by (rw [if_neg (by omega)]); (exact ⟨ad.add (0*1),rfl,by rw [Nat.zero_mul,Addr.add_add,nZ]; exact hc'⟩)):p:=h
theorem Zy {p:Prop}(h:p:=by (have:=(h.room q hq).2.1); (have:=h.size); (simp only); (omega)):p:=h
theorem Zz {p:Prop}(h:p:=by (subst e); (rw [jP])):p:=h
theorem XQ {p:Prop}(h:p:=by (unfold execOp); (simp only [ho,hx,hy,Sem.run_bind,e1,xO,Sem.run_pure])):p:=h
theorem XZ {p:Prop}(h:p:=by (rw [jX] at hrun); (simp [execOp,ho,resolve,invoke,builtin,hd,hs,hrun,Result.andThen,goInt])):p:=h
theorem XX {p:Prop}(h:p:=by (rw [run_sliceAt_slice w t _ _ _ _ ht,run_slice_lh w t sp len cap ht .i64 .i64 (l:Int) (h:Int) (by omega) (by omega) (by omega),hsz]); (simp only [Result.andThen,sliced,Int.toNat_natCast])):p:=h
theorem XJ {p:Prop}(h:p:=by (go_roundw); (case rel=>exact ⟨k+1,_,by omega,by go_num,hS⟩); (case measure=>simp [intOf]; omega)):p:=h
theorem XY {p:Prop}(h:p:=by (rw [run_sliceAt_slice w t _ _ _ _ ht,run_slice_h w t sp len cap ht .i64 (m:Int) (by omega) (by omega),hsz]); (simp only [Result.andThen,sliced,Int.toNat_natCast,Nat.sub_zero])):p:=h
theorem XV {p:Prop}(h:p:=by (have e2:=hI.eq); (have e3:W^k*a k*(W^j*b j)=W^(k+j)*(a k*b j):=by rw [Int.pow_add,Int.mul_assoc,Int.mul_left_comm (a k),← Int.mul_assoc]); (rw [Int.mul_add (W^k*a k),e3,e0]); (omega)):p:=h
theorem XU {p:Prop}(h:p:=by (rw [run_sliceAt_slice w t _ _ _ _ ht,run_slice_l w t sp len cap ht .i64 (m:Int) (by omega) (by omega),hsz]); (simp only [Result.andThen,sliced,Int.toNat_natCast])):p:=h
theorem XK {p:Prop}(h:p:=by (rw [List.length_append,xY,xY,List.append_assoc] at this); (rw [show (64:Nat)=32+32+0 from rfl,this,gU _ _ _ (by rw [xY,xY]),List.append_assoc])):p:=h
theorem XW {p:Prop}(h:p:=by (refine ⟨_,rfl,(P.mix G hX0 hXM hXO hXb).pm,?_⟩); (simp only [aP,lI,l0,lS]); (refine wE (by kernel_rfl) ?_ _); (rw [← x6c (bpw z) (sg r) _ q hlt2] at G); (exact QH)):p:=h
theorem XG {p:Prop}(h:p:=by (refine ⟨_,rfl,(P.mix G hX0 hXM hXO hXb).pm,?_⟩); (simp only [aP,lI,l0,lS]); (refine wE (by kernel_rfl) ?_ _); (rw [← x6d (bpw z) (sg r) _ q hlt2] at G); (exact QH)):p:=h
theorem XH {p:Prop}(h:p:=by (rw [nZ] at h); (exact h)):p:=h
theorem Xa {p:Prop}(h:p:=by (have HS:=show Hid _ from (And.intro hP2 hT2); clear hP hT hP2 hT2 hO hl hbw; go_wp2); (go_meet); (exact ⟨_,ll,_,Y,rfl,hbl,by omega,HS.out.1,HS.out.2⟩)):p:=h
theorem Xb {p:Prop}(h:p:=by (refine xpL (.bool false) (xT ?_)); (go_upto_region 30 with fail); (refine wR (xmL ?_)); (refine xT ?_); (have hbel:=hP.below); (clear hP hT); (go_wp2); (go_ret); (exact ⟨rfl,hbel⟩)):p:=h
theorem Xc {p:Prop}(h:p:=by (go_roundw); (case rel=>exact ⟨t+1,(s:Int)-1,_,_,_,_,by have:=HH.out; omega,by have:=HH.out; omega,rfl,HI.out,HN.out,M⟩); (case measure=>simp [intOf])):p:=h
theorem Xd {p:Prop}(h:p:=by (have hB:=K.below; have hBB:=K.base; clear K HO hlt hn g1; go_wp2; go_ret); (exact ⟨O2,capO,rfl,⟨by omega,hO2,by rw [hG.out]; exact HH⟩,hB⟩)):p:=h
theorem Xe {p:Prop}(h:p:=by (go_wp2); ((try simp only [Exit.inBlock,Exit.then])); (refine bRq (j1i rfl _ _ _) rfl ?_); (exact ⟨_,_,_,_,_,_,_,_,rfl,hIa_.out,hIb_.out,HS.out⟩)):p:=h
theorem Xf {p:Prop}(h:p:=by (have h20:=show Hid _ from (xW h1.out)); (exact QK)):p:=h
theorem Xg {p:Prop}(h:p:=by (go_wp2); (go_quiet (fail)); (go_wp2); (go_ret); (exact ⟨nq,by rw [HG.out]; rfl,rfl⟩)):p:=h
theorem Xh {p:Prop}(h:p:=by (rw [Addr.add_mid,nZ] at h); (exact h)):p:=h
theorem Xi {p:Prop}(h:p:=by (go_wp2); (go_region); (go_wp2); (exact Qf)):p:=h
theorem Xj {p:Prop}(h:p:=by (unfold execOp); (simp only [ho,resolve,invoke,builtin,Sem.run_bind,Sem.run_pure,xO,List.map_toArray,List.map_cons,List.map_nil,hs,hx,hr])):p:=h
theorem Xk {p:Prop}(h:p:=by (unfold execOp); (simp only [ho,hx,Instr.loadAt,Instr.sureAddr,Sem.run_bind,Sem.run_pure,xO,vZ w b o ty k v (hh w hw') hu])):p:=h
theorem Xl {p:Prop}(h:p:=by (have hN:=hI.next; clear hI hlt2 hk; go_wp2); (go_roundw); (case rel=>exact ⟨m+1,_,by omega,by go_num,hN⟩); (case measure=>simp [intOf]; omega)):p:=h
theorem Xm {p:Prop}(h:p:=by (clear hI); (generalize aLo (n k) (b k) cv=lo at *); (generalize aHi (n k) (b k) cv=hi at *); (generalize n k=x at *); (generalize b k=y at *); (exact Qn)):p:=h
theorem Xn {p:Prop}(h:p:=by (go_wp2); (go_ret2); (exact ⟨_,_,by rw [hE.out,h0_.out]; rfl,fun _=>⟨by rw [hE.out]; exact HS.out.1,by rw [hE.out]; rfl⟩,HS.out.2⟩)):p:=h
theorem Xo {p:Prop}(h:p:=by (rw [← e1,← e2,← e3,← e4]); (exact ⟨h.place _ (by omega),h.place _ (by omega),h.place _ (by omega),h.place _ (by omega)⟩)):p:=h
theorem Xp {p:Prop}(h:p:=by (subst hji); (exact hy.wpOp hi hS ⟨fun _=>hS,H⟩)):p:=h
theorem Xq {p:Prop}(h:p:=by (unfold execOp); (simp only [ho,hx,hy]); (have e:=kW (P:=P) w b o ty k v hc hf hz); (simp only [Sem.run_bind,e,xO,Sem.run_pure])):p:=h
theorem Xr {p:Prop}(h:p:=by (injection e with e); (subst e); (rw [tT]); (exact h.2 a rfl (by omega))):p:=h
theorem Xs {p:Prop}(h:p:=by (have h:=Nat.two_pow_add_eq_or_of_lt (i:=s) (b:=a) (by omega) x); (rw [← hM,Nat.mul_comm M x] at h); (rw [Nat.or_comm,← h]); (omega)):p:=h
theorem Xt {p:Prop}(h:p:=by (refine .inl ?_); (unfold Oper.wp); (rw [he]); (exact h)):p:=h
theorem Xu {p:Prop}(h:p:=by (go_wp2); (go_ret2); (exact ⟨_,_,by rw [hE.out]; rfl,fun _=>⟨by rw [hE.out]; exact HS.out.1,by rw [hE.out]; rfl⟩,HS.out.2⟩)):p:=h
theorem Xv {p:Prop}(h:p:=by (have h:=uD (P:=Tryz.prog) 134 5 64 .i64 b 0 i x y Tryz.underlying134 (fun _=>by kernel_rfl) hi ho hx hy w); (exact XH)):p:=h
theorem Xw {p:Prop}(h:p:=by (unfold execOp); (simp only [ho,hx,hy,Sem.run_bind,eqGuard_at_int,binOp_shl,shift_shl_any k yk n y h0,Sem.run_pure,xO,hr])):p:=h
theorem Xx {p:Prop}(h:p:=by (have h:=uD (P:=Tryz.prog) 23 5 32 .i64 b 0 i x y Tryz.underlying23 (fun _=>by kernel_rfl) hi ho hx hy w); (exact XH)):p:=h
theorem Xy {p:Prop}(h:p:=by (rw [← List.append_assoc,← List.append_assoc,List.getElem?_append_right (by simp [jX])]); (simp [jX])):p:=h
theorem Xz {p:Prop}(h:p:=by (have hne:(⟨B3,i+k,none⟩:Addr)≠⟨w.heap.size+1+1,0+j,none⟩:=by intro h'; injection h'; omega); (exact Qo)):p:=h
theorem JQ {p:Prop}(h:p:=by (clear hz hlt hu); (go_wp2); (go_roundw); (case rel=>exact ⟨s,(s:Int)-1,m,by omega,rfl,rfl,hI⟩); (case measure=>simp [intOf])):p:=h
theorem JZ {p:Prop}(h:p:=by (have e2:=h.eq; have e3:=h.rest k (xnR k)); (rw [← e3]); (omega)):p:=h
theorem JX {p:Prop}(h:p:=by (have e:=hO.eq); (rw [Int.mul_zero,show val W b 0=0 from rfl,Int.mul_zero,Int.add_zero,Int.add_zero] at e); (exact e)):p:=h
theorem JJ {p:Prop}(h:p:=by (go_wp2); (go_roundw); (case rel=>exact ⟨k+1,_,_,by omega,by go_num,rfl,HS.out⟩); (case measure=>simp [intOf]; omega)):p:=h
theorem JY {p:Prop}(h:p:=by (go_wp2); (go_ret2); (exact ⟨_,_,by rw [hE.out]; rfl,fun h=>absurd h (by rw [hE.out]; exact hx_.out),HS.out⟩)):p:=h
theorem JV {p:Prop}(h:p:=by (rw [e]); (exact ⟨hw.sec,hw.drw,hw.its,hw.drn,hx hw.st⟩)):p:=h
theorem JU {p:Prop}(h:p:=by kernel_rfl):p:=h
theorem JK {p:Prop}(h:p:=by omega):p:=h
theorem JW {p:Prop}(h:p:=by rintro _; kernel_rfl):p:=h
theorem JG {p:Prop}(h:p:=by decide):p:=h
theorem JH {p:Prop}(h:p:=by rintro _; rw [xY]; kernel_rfl):p:=h
theorem Jd {p:Prop}(h:p:=by rw [List.drop_zero,List.take_length]):p:=h
theorem Je {p:Prop}(h:p:=by exact fun w=>vM .i64 _ _ _ _ _ _ _ rfl rfl rfl (by rw [xw6]; omega) w):p:=h
theorem Jf {p:Prop}(h:p:=by simp):p:=h
theorem Jg {p:Prop}(h:p:=by first | (rw [xY,xY]; done) | (rw [xY]; rfl) | (rw [xY]; done)):p:=h
theorem Jh {p:Prop}(h:p:=by rw [qY _ [1,1,32,32,32,32,1] (by simp [jX])]; decide):p:=h
theorem Ji {p:Prop}(h:p:=by simp; omega):p:=h
theorem Jj {p:Prop}(h:p:=by unfold maxLen; omega):p:=h
theorem Jk {p:Prop}(h:p:=by exact fun w=>gQ _ 32 5 _ _ _ rfl Tryz.underlying32 rfl w):p:=h
theorem Jm {p:Prop}(h:p:=by rintro p hp; rcases xc1 hp with rfl | hp; simp only; omega; obtain rfl:=xm1 hp; simp only; omega):p:=h
theorem Jn {p:Prop}(h:p:=by cases b1 <;> rfl):p:=h
theorem Jq {p:Prop}(h:p:=by rintro e; cases e):p:=h
theorem Jr {p:Prop}(h:p:=by exact fun w=>aM .i64 _ _ _ _ _ _ _ rfl rfl rfl (by rw [xw6]; omega) w):p:=h
theorem Js {p:Prop}(h:p:=by exact fun w=>j2i .u32 _ _ _ _ _ _ _ rfl rfl rfl rfl w):p:=h
theorem Jt {p:Prop}(h:p:=by rintro x hx; simp only [List.mem_singleton] at hx; subst hx; simp):p:=h
theorem Ju {p:Prop}(h:p:=by rintro hc; cases b1 <;> first | (cases hc; done) | kernel_rfl):p:=h
theorem Jv {p:Prop}(h:p:=by rintro p hp; obtain rfl:=xm1 hp; simp only; omega):p:=h
theorem Jw {p:Prop}(h:p:=by decide +kernel):p:=h
theorem Jx {p:Prop}(h:p:=by rintro p hp; obtain rfl:=xm1 hp; exact (mT _ mS)):p:=h
theorem Jy {p:Prop}(h:p:=by rintro b hb; obtain rfl:=xm1 hb; omega):p:=h
theorem YQ {p:Prop}(h:p:=by rintro _ hp; cases hp):p:=h
theorem YZ {p:Prop}(h:p:=by rintro p hp; rcases xc1 hp with rfl | hp; exact (mT _ mS); obtain rfl:=xm1 hp; exact (mI 2 rfl)):p:=h
theorem YX {p:Prop}(h:p:=by exact fun w'=>fZ _ _ _ _ (kC _ _) w' _ _ rfl rfl rfl):p:=h
theorem YJ {p:Prop}(h:p:=by exact fun w=>vM .u32 _ _ _ _ _ _ _ rfl rfl rfl (IntKind.wrap_u32' _) w):p:=h
theorem YY {p:Prop}(h:p:=by exact fun w=>x4l .i64 _ _ _ _ _ _ _ rfl rfl rfl (by rw [xw6]; omega) w):p:=h
theorem YV {p:Prop}(h:p:=by rw [rH]; decide):p:=h
theorem YU {p:Prop}(h:p:=by rintro hc; cases b1 <;> first | (cases hc; done) | exact (xE .i64 _ _ _ _ _ _ rfl rfl rfl b2 hb2.symm _)):p:=h
theorem YK {p:Prop}(h:p:=by rw [j8g]; omega):p:=h
theorem YW {p:Prop}(h:p:=by rintro q hq; obtain rfl:=xm1 hq; simp only; omega):p:=h
theorem YG {p:Prop}(h:p:=by rintro _ _; kernel_rfl):p:=h
theorem YH {p:Prop}(h:p:=by simp [jX]):p:=h
theorem Yf {p:Prop}(h:p:=by exact fun _ ⟨_,M⟩=>jD 59 _ ⟨N,132,none⟩ ([row .u8 32 (bl (LD.pub s.drw)),[kfv D]].flatten) rfl rfl JW (fun _=>by rw [qY _ [32,1] JU]; kernel_rfl) (M.part mS 132 _ (yW [[Value.int .i64 av],_,row .u8 32 (bl (LD.pub s.sec)),[kfv A]] [row .u8 32 (bl (LD.pub s.drw)),[kfv D]] [row .u8 32 (bl s.its),row .u8 32 (bl s.drn),row .u8 32 (fun _=>0),row .u8 32 (fun _=>0)] 132 JU))):p:=h
theorem Yg {p:Prop}(h:p:=by exact fun w=>mU .i64 _ _ _ _ _ _ _ rfl rfl rfl JG (by rw [Int.tmod_eq_emod_of_nonneg JK]; omega) w):p:=h
theorem Yh {p:Prop}(h:p:=by rw [qY _ [1,98,32,1,32,1,32,32,32,32] JU]; decide):p:=h
theorem Yi {p:Prop}(h:p:=by exact fun _ ⟨_,M⟩=>yR 23 _ _ _ rfl rfl JU):p:=h
theorem Yj {p:Prop}(h:p:=by rw [xw6]; omega):p:=h
theorem Yk {p:Prop}(h:p:=by rw [qY _ [1,98,32,1,32,1,32,32,32,32] JU,qY _ [1,98,32,1,32,1,32,32,32,32] JU]):p:=h
theorem Yl {p:Prop}(h:p:=by rw [List.mem_singleton]; exact (M.neq (i:=0) (j:=1) rfl rfl JG).symm):p:=h
theorem Ym {p:Prop}(h:p:=by exact fun _ M=>jD 23 _ _ _ rfl rfl JW JH (M.part (mT _ mS) 96 _ (qU _ [32,32,32,32,1,32] JU 3 96 _ rfl rfl))):p:=h
theorem Yn {p:Prop}(h:p:=by exact fun _ M=>jD 23 _ _ _ rfl rfl JW JH (M.part (mT _ mS) 64 _ (qU _ [32,32,32,32,1,32] JU 2 64 _ rfl rfl))):p:=h
theorem Yr {p:Prop}(h:p:=by exact fun _ M=>jD 23 _ _ _ rfl rfl JW JH (M.part (mT _ mS) 32 _ (qU _ [32,32,32,32,1,32] JU 1 32 _ rfl rfl))):p:=h
theorem Ys {p:Prop}(h:p:=by exact fun _ M=>jD 23 _ _ _ rfl rfl JW JH (M.part (mT _ mS) 0 _ (qU _ [32,32,32,32,1,32] JU 0 0 _ rfl rfl))):p:=h
theorem Yt {p:Prop}(h:p:=by exact fun w=>mZ .i64 .u32 _ _ _ _ _ rfl JU Tryz.underlying118 JU rfl (by rw [IntKind.wrap_u32']; omega) w):p:=h
theorem Yv {p:Prop}(h:p:=by exact fun w'=>fZ _ _ _ _ JG w' _ _ rfl rfl rfl):p:=h
theorem Yw {p:Prop}(h:p:=by exact fun w=>mU .i64 _ _ _ _ _ _ _ rfl rfl rfl JG (m4 _) w):p:=h
theorem Yx {p:Prop}(h:p:=by exact fun w=>mZ .u8 .u32 _ _ _ _ _ rfl JU Tryz.underlying118 JU rfl (IntKind.wrap_u32' _) w):p:=h
theorem Yy {p:Prop}(h:p:=by rw [xW h1.out]; rfl):p:=h
theorem Yz {p:Prop}(h:p:=by exact fun _ ⟨_,M⟩=>jD 23 _ _ _ rfl rfl JW JH (M.part mS 165 _ (qU _ [1,98,32,1,32,1,32,32,32,32] JU 6 165 _ rfl rfl))):p:=h
theorem VQ {p:Prop}(h:p:=by rintro _; rw [qY _ [32,32] JU]; kernel_rfl):p:=h
theorem VZ {p:Prop}(h:p:=by rintro h; cases h):p:=h
theorem VX {p:Prop}(h:p:=by exact fun _ ⟨_,M⟩=>jD 23 _ ⟨B3,0,none⟩ (row .u8 32 (bl (b.take 32))) rfl rfl JW JH (M.part (mT _ mS) 0 _ Jd)):p:=h
theorem VJ {p:Prop}(h:p:=by exact fun j hj=>absurd hj (xnZ j)):p:=h
theorem VY {p:Prop}(h:p:=by exact fun w'=>q8w B cap d hd w' _ _ rfl rfl rfl):p:=h
theorem VV {p:Prop}(h:p:=by exact fun w'=>q8w B cap c hc w' _ _ rfl rfl rfl):p:=h
theorem VU {p:Prop}(h:p:=by exact fun w'=>q8w B cap b hb w' _ _ rfl rfl rfl):p:=h
theorem VK {p:Prop}(h:p:=by exact fun w'=>q8w B cap a ha w' _ _ rfl rfl rfl):p:=h
theorem VW {p:Prop}(h:p:=by cases od <;> rfl):p:=h
theorem VG {p:Prop}(h:p:=by exact fun w' h=>(cJ k n hk hn bp bl bc hbl hbn b hb sh m cap hlen hshn z (fun j hj=>hz j JK) w' (hsb.below h.below (xnR _)) ((hh2 _ _ hs).below h.below (xnR _))).mono fun e w'' ⟨he,l⟩=>⟨_,he,rfl,l⟩):p:=h
theorem VH {p:Prop}(h:p:=by exact fun w=>mZ .i64 .u64 _ _ _ _ _ rfl JU Tryz.underlying54 JU rfl (by rw [IntKind.wrap_u64]; omega) w):p:=h
theorem Vb {p:Prop}(h:p:=by rw [xA,qY _ [1,98,32,1,32,1,32,32,32,32] JU]; kernel_rfl):p:=h
theorem Vc {p:Prop}(h:p:=by cases h):p:=h
theorem Vd {p:Prop}(h:p:=by rw [fQ h1.out]; rfl):p:=h
theorem Ve {p:Prop}(h:p:=by exact (by decide:(0:Int)<256)):p:=h
theorem Vf {p:Prop}(h:p:=by simp only [W]; omega):p:=h
theorem Vg {p:Prop}(h:p:=by exact fun w h=>vB 32 5 9 _ rfl Tryz.underlying32 Tryz.underlying5 Tryz.underlying9 sl 16 (cap-m) (fun j=>z (m+j)) rfl w ((hl2 _ _ hs).below h.below (xnR _)) (Src.none ((hl2 _ _ hs)))):p:=h
theorem Vh {p:Prop}(h:p:=by rw [h0] at hr; cases hr):p:=h
theorem Vi {p:Prop}(h:p:=by exact fun w=>mZ .u64 .u32 _ _ _ _ _ rfl JU Tryz.underlying118 JU rfl (IntKind.wrap_u32' _) w):p:=h
theorem Vj {p:Prop}(h:p:=by rintro p hp; rcases xc1 hp with rfl | hp; exact mS; obtain rfl:=xm1 hp; exact (mI 2 rfl)):p:=h
theorem Vm {p:Prop}(h:p:=by exact fun _ M=>jD 23 _ ⟨B3,0,none⟩ (row .u8 32 (bl B)) rfl rfl JW JH (M.part mS 0 _ Jd)):p:=h
theorem Vn {p:Prop}(h:p:=by rw [xA,qY _ [32,32] JU]; kernel_rfl):p:=h
theorem Vo {p:Prop}(h:p:=by exact fun w'=>fZ _ _ _ _ JK w' _ _ rfl rfl rfl):p:=h
theorem Vp {p:Prop}(h:p:=by exact fun w h=>vB 32 5 9 _ rfl Tryz.underlying32 Tryz.underlying5 Tryz.underlying9 (some ⟨G,0,none⟩) 16 16 (zU k n bl b m z) rfl w (h.get _ _ _ _ mS).src0 Jq):p:=h
theorem Vq {p:Prop}(h:p:=by exact fun _ ⟨_,M,OF⟩=>jD 23 _ a1 (row .u8 32 (bl (b.take 32))) rfl rfl JW JH (j0r (((hs_1 _ _ _ (hs.off OF)).1.congr (fun j hj=>sG _ _ _ hj))) JG)):p:=h
theorem Vr {p:Prop}(h:p:=by exact fun w=>x6n .i64 .i64 _ _ _ _ _ _ _ rfl rfl rfl hm w):p:=h
theorem Vs {p:Prop}(h:p:=by rw [← hhas]; exact M.get mS 96 _ (rG s 0)):p:=h
theorem Vt {p:Prop}(h:p:=by exact fun j _=>(wW 8 V j).symm):p:=h
theorem Vu {p:Prop}(h:p:=by unfold Byts; decide):p:=h
theorem Vv {p:Prop}(h:p:=by rw [qY _ [32,32] JU,qY _ [32,32] JU]):p:=h
theorem Vw {p:Prop}(h:p:=by exact fun w'=>ixS (w.heap.size) n hlt w' _ _ rfl rfl rfl):p:=h
theorem Vx {p:Prop}(h:p:=by rw [qY _ [32,32] JU]; decide):p:=h
theorem Vy {p:Prop}(h:p:=by rintro _ _ h; cases h):p:=h
theorem Vz {p:Prop}(h:p:=by rintro hc _ ⟨_,M⟩; cases b1 <;> first | (cases hc; done) | kernel_rfl):p:=h
theorem UQ {p:Prop}(h:p:=by rintro p hp; rcases xc1 hp with rfl | hp; simp only; omega; rcases xc1 hp with rfl | hp; simp only; omega; obtain rfl:=xm1 hp; simp only; omega):p:=h
theorem UZ {p:Prop}(h:p:=by rintro hc; cases b1 <;> first | (cases hc; done) | exact (qL 3 _ ⟨R,1,none⟩ _ rfl rfl JW (M.get mS 1 _ (xV _ [1,1,32,32,32,32,1] YH 1 1 _ rfl rfl)))):p:=h
theorem UX {p:Prop}(h:p:=by rw [Int.tmod_eq_emod_of_nonneg JK]; omega):p:=h
theorem UJ {p:Prop}(h:p:=by rintro _; rw [qY _ [32,1] JU]; kernel_rfl):p:=h
theorem UY {p:Prop}(h:p:=by exact fun _ ⟨_,M⟩=>jD 23 _ _ _ rfl rfl JW JH (M.part (mI 3 rfl) 34 _ (qU _ [1,1,32,32,32,32,1] YH 3 34 _ rfl rfl))):p:=h
theorem UV {p:Prop}(h:p:=by exact fun w=>aM .i64 4 (m:Int) _ _ _ _ _ rfl rfl rfl Yj w):p:=h
theorem UU {p:Prop}(h:p:=by rw [List.mem_singleton]; exact (M.neq (i:=0) (j:=2) rfl rfl JG).symm):p:=h
theorem UK {p:Prop}(h:p:=by exact fun w=>j2i .u8 _ _ _ _ _ _ _ rfl rfl rfl rfl w):p:=h
theorem UW {p:Prop}(h:p:=by rw [xW h2.out]; rfl):p:=h
theorem UG {p:Prop}(h:p:=by rintro _; rw [qY _ [1,98,32,1,32,1,32,32,32,32] JU]; kernel_rfl):p:=h
theorem UH {p:Prop}(h:p:=by rintro p hp; rcases xc1 hp with rfl | hp; exact mS; rcases xc1 hp with rfl | hp; exact (mI 2 rfl); obtain rfl:=xm1 hp; exact (mI 3 rfl)):p:=h
theorem Ua {p:Prop}(h:p:=by rw [fQ h2.out]; rfl):p:=h
theorem Ub {p:Prop}(h:p:=by rw [xY,xY]):p:=h
theorem Uc {p:Prop}(h:p:=by exact fun w'=>fZ _ _ _ _ hlt w' _ _ rfl rfl rfl):p:=h
theorem Ud {p:Prop}(h:p:=by exact fun _ M=>qL _ _ ⟨R,0,none⟩ _ rfl rfl JW (M.get (mT _ mS) 0 _ (xV _ [1,98,32,1,32,1,32,32,32,32] JU 0 0 _ rfl rfl))):p:=h
theorem Ue {p:Prop}(h:p:=by rw [(K.get _ _ _ _ mS).cell n hlt]; rfl):p:=h
theorem Uf {p:Prop}(h:p:=by exact fun _ ⟨_,M⟩=>jD 23 _ _ _ rfl rfl JW JH (M.part mS 197 _ (qU _ [1,98,32,1,32,1,32,32,32,32] JU 7 197 _ rfl rfl))):p:=h
theorem Ug {p:Prop}(h:p:=by rw [h] at hr; cases hr):p:=h
theorem Uh {p:Prop}(h:p:=by rintro hc; cases od <;> first | (cases hc; done) | kernel_rfl):p:=h
theorem Ui {p:Prop}(h:p:=by exact fun _ ⟨_,M⟩=>jD 23 _ _ _ rfl rfl JW JH (M.part (mI 4 rfl) 66 _ (qU _ [1,1,32,32,32,32,1] YH 4 66 _ rfl rfl))):p:=h
theorem Uj {p:Prop}(h:p:=by exact fun _ ⟨_,M⟩=>jD 23 _ _ _ rfl rfl JW JH (M.part (mI 4 rfl) 2 _ (qU _ [1,1,32,32,32,32,1] YH 2 2 _ rfl rfl))):p:=h
theorem Uk {p:Prop}(h:p:=by exact fun _ ⟨_,M⟩=>jD 23 _ _ _ rfl rfl JW JH (M.part (mI 3 rfl) 2 _ (qU _ [1,1,32,32,32,32,1] YH 2 2 _ rfl rfl))):p:=h
theorem Ul {p:Prop}(h:p:=by simp only [List.length_append]; omega):p:=h
theorem Um {p:Prop}(h:p:=by exact (by have:=hI.rs.fr.size; omega)):p:=h
theorem Un {p:Prop}(h:p:=by simp only [V]; omega):p:=h
theorem Uo {p:Prop}(h:p:=by rintro b hb; injection hb with hb; simp only at hb; omega):p:=h
theorem Up {p:Prop}(h:p:=by exact fun w=>vM .u32 (drN (hst k c n) 10 i) (hst k c n i) _ _ _ _ _ rfl rfl rfl (by rw [IntKind.wrap_u32']; rfl) w):p:=h
theorem Uq {p:Prop}(h:p:=by exact fun w'=>yR _ _ _ _ rfl rfl (pU w.heap.size w')):p:=h
theorem Ur {p:Prop}(h:p:=by exact fun w=>pN _ _ _ _ _ _ _ _ rfl rfl rfl rfl (hq1 w)):p:=h
theorem Us {p:Prop}(h:p:=by rintro _; rw [yJ]; kernel_rfl):p:=h
theorem Ut {p:Prop}(h:p:=by exact fun _ hj=>absurd hj (xnZ _)):p:=h
theorem Uu {p:Prop}(h:p:=by exact fun _ M=>yR 23 _ _ _ rfl rfl JU):p:=h
theorem Uv {p:Prop}(h:p:=by rw [xY]; decide):p:=h
theorem Uw {p:Prop}(h:p:=by intros; simp):p:=h
theorem Ux {p:Prop}(h:p:=by exact (by have:=hb.hi; omega)):p:=h
theorem Uy {p:Prop}(h:p:=by exact fun w' _=>(cQ (mV (f A) (f B) (f C) (f D)) w').mono fun e w'' ⟨he,l⟩=>⟨_,he,rfl,l⟩):p:=h
theorem Uz {p:Prop}(h:p:=by first | (rw [qY _ [32,32] YH,qY _ [32,32] YH]; done) | (rw [qY _ [32,32] YH]; done)):p:=h
theorem KQ {p:Prop}(h:p:=by assumption):p:=h
theorem KZ {p:Prop}(h:p:=by exact fun q hq=>mT _ hq):p:=h
theorem KX {p:Prop}(h:p:=by exact fun p hp=>mT _ hp):p:=h
theorem KJ {p:Prop}(h:p:=by rintro e; have:=hr j e.symm; omega):p:=h
theorem KY {p:Prop}(h:p:=by exact fun w'=>q8x (P:=Tryz.prog) 179 119 10 16 .i64 5 0 r _ _ Tryz.underlying179 JW hlt rfl rfl rfl w'):p:=h
theorem KV {p:Prop}(h:p:=by rw [jX]; omega):p:=h
theorem KU {p:Prop}(h:p:=by exact fun _=>(jK _ _ _ rfl).there):p:=h
theorem KK {p:Prop}(h:p:=by exact fun _ M=>jD 23 _ ⟨R,65,none⟩ (row .u8 32 s.k) rfl rfl JW JH (M.part mS 65 _ (x4p v0 ps s))):p:=h
theorem KW {p:Prop}(h:p:=by simp only [V] at hx ⊢; omega):p:=h
theorem KG {p:Prop}(h:p:=by exact fun w=>x2d .i64 _ _ _ _ _ _ _ rfl rfl rfl JG (by rw [Int.tdiv_eq_ediv_of_nonneg JK,xw6]; omega) w):p:=h
theorem KH {p:Prop}(h:p:=by exact fun _ M=>jD 23 _ ⟨B3,0,none⟩ (row .u8 32 (bl (LD.pub b))) rfl rfl JW JH (M.part mS 0 _ Jd)):p:=h
theorem Ki {p:Prop}(h:p:=by exact fun w'=>q8z w.heap.size A a1 w' _ _ rfl rfl rfl):p:=h
theorem Kj {p:Prop}(h:p:=by cases f1 <;> rfl):p:=h
theorem Kk {p:Prop}(h:p:=by exact fun w=>vM .i64 _ _ _ _ _ _ _ rfl rfl rfl e5 w):p:=h
theorem Kl {p:Prop}(h:p:=by exact fun w=>vM .i64 _ _ _ _ _ _ _ rfl rfl rfl e3 w):p:=h
theorem Km {p:Prop}(h:p:=by exact fun w=>vM .i64 _ _ _ _ _ _ _ rfl rfl rfl e2 w):p:=h
theorem Ko {p:Prop}(h:p:=by exact fun _ M=>jD 23 _ ⟨R,64,none⟩ (row .u8 32 s.k) rfl rfl JW JH (M.part mS 64 _ (x4m s))):p:=h
theorem Kp {p:Prop}(h:p:=by rw [IntKind.wrap_u64]; omega):p:=h
theorem Ks {p:Prop}(h:p:=by obtain ⟨p,h1,h2,h3,h4⟩:=f4 h g; exact ⟨p,h1,h2.below lb (xnR _),xnL h3 lb.size,h4⟩):p:=h
theorem Ku {p:Prop}(h:p:=by exact fun w'=>j0a _ _ _ _ _ _ rfl rfl rfl (hh1 w')):p:=h
theorem Kv {p:Prop}(h:p:=by exact fun _ M=>jD 23 _ ⟨B1,0,none⟩ (row .u8 32 a) rfl rfl JW JH (M.part (mI 2 rfl) 0 _ Jd)):p:=h
theorem Kw {p:Prop}(h:p:=by exact fun _ M=>jD 23 _ ⟨B2,0,none⟩ (row .u8 32 d) rfl rfl JW JH (M.part (mT _ mS) 0 _ Jd)):p:=h
theorem Kx {p:Prop}(h:p:=by subst hb3; cases b1 <;> rfl):p:=h
theorem WQ {p:Prop}(h:p:=by exact fun _ M=>jD 23 _ ⟨B3,0,none⟩ (row .u8 32 (bl O)) rfl rfl JW JH (M.part mS 0 _ Jd)):p:=h
theorem WZ {p:Prop}(h:p:=by exact (by have:=hl.out; omega)):p:=h
theorem WX {p:Prop}(h:p:=by exact (by have:=h.size; omega)):p:=h
theorem WJ {p:Prop}(h:p:=by rintro p hp; rcases xc1 hp with rfl | hp; exact mS; obtain rfl:=xm1 hp; exact (mT _ mS)):p:=h
theorem WY {p:Prop}(h:p:=by rw [hl]; exact hs):p:=h
theorem WV {p:Prop}(h:p:=by exact fun w=>mX 32 5 len cap .i64 ad i _ _ Tryz.underlying32 JW hil rfl rfl rfl w):p:=h
theorem WU {p:Prop}(h:p:=by exact (by have:=M.lo mS; have:=hl_12_B1; omega)):p:=h
theorem WK {p:Prop}(h:p:=by rintro w' h; rw [h.below.cell (World.block_lt_of_cell? w _ ca)]; exact ca):p:=h
theorem WW {p:Prop}(h:p:=by rw [hl]; decide):p:=h
theorem WG {p:Prop}(h:p:=by rw [List.length_drop]):p:=h
theorem WH {p:Prop}(h:p:=by obtain ⟨B,h1,h2,h3,h4⟩:=f7 h g; exact ⟨B,h1,h2.call lb,h3,h4⟩):p:=h
theorem Wa {p:Prop}(h:p:=by exact fun _ M=>qL 54 _ _ _ rfl rfl JW (M.get mS 98 _ (mW v0 ps s 1))):p:=h
theorem Wb {p:Prop}(h:p:=by exact fun b_ hb_=>xnL (hqb b_ hb_) hs_8_b):p:=h
theorem Wc {p:Prop}(h:p:=by exact fun b_ hb_=>xnL (hqa b_ hb_) hs_6_a):p:=h
theorem We {p:Prop}(h:p:=by rw [← heq]; exact hall e he hb):p:=h
theorem Wf {p:Prop}(h:p:=by exact fun w=>gP .i64 _ _ _ _ _ _ rfl rfl rfl false (decide_eq_false JK) w):p:=h
theorem Wg {p:Prop}(h:p:=by exact fun j _=>eA _ _ _):p:=h
theorem Wh {p:Prop}(h:p:=by exact (by have:=g1.size; omega)):p:=h
theorem Wi {p:Prop}(h:p:=by exact fun _ M=>qL _ _ ⟨B1,0,none⟩ _ rfl rfl JW (M.get mS 0 _ rfl)):p:=h
theorem Wj {p:Prop}(h:p:=by rw [qY _ [32,32] JU]; exact (qY _ [32,32] JU).symm):p:=h
theorem Wk {p:Prop}(h:p:=by exact fun w=>x4l .i64 (i:Int) (64*(t:Int)) _ _ _ _ _ rfl rfl rfl Yj w):p:=h
theorem Wl {p:Prop}(h:p:=by rw [xA,yJ]; kernel_rfl):p:=h
theorem Wm {p:Prop}(h:p:=by rw [xY,qY _ [1,98,32,1,32,1,32,32,32,32] JU]; decide):p:=h
theorem Wn {p:Prop}(h:p:=by intro h'; injection h'; omega):p:=h
theorem Ws {p:Prop}(h:p:=by rintro j hj; have:=hO.big j hj; rw [if_neg JK] at this; omega):p:=h
theorem Wt {p:Prop}(h:p:=by rw [getD_set_ne true hjc,getD_set_ne true hic]; exact hlc):p:=h
theorem Wu {p:Prop}(h:p:=by rw [List.length_map]; omega):p:=h
theorem Wv {p:Prop}(h:p:=by rw [xY,rH]; decide):p:=h
theorem Ww {p:Prop}(h:p:=by exact fun w=>q0f .u64 .u64 _ 32 _ _ _ _ _ rfl rfl rfl JG rfl w):p:=h
theorem Wx {p:Prop}(h:p:=by exact fun w=>vM .i64 (4*(m:Int)) 4 _ _ _ _ _ rfl rfl rfl Yj w):p:=h
theorem Wy {p:Prop}(h:p:=by exact fun w'=>q4x g ll.length cq12 (n/8) hj w' _ _ rfl rfl rfl):p:=h
theorem Wz {p:Prop}(h:p:=by exact fun w'=>q4x (w.heap.size) 64 64 n hlt w' _ _ rfl rfl rfl):p:=h
theorem GQ {p:Prop}(h:p:=by simp only [W] at *; omega):p:=h
theorem GZ {p:Prop}(h:p:=by rw [xY,j8g]; omega):p:=h
theorem GX {p:Prop}(h:p:=by exact (by have:=K.size; simp; omega)):p:=h
theorem GJ {p:Prop}(h:p:=by rw [xY,qY _ [1,1,32,32,32,32,1] YH]; decide):p:=h
theorem GY {p:Prop}(h:p:=by exact fun w'=>ixW (w.heap.size+1+1) 14 JG w' _ _ rfl rfl rfl):p:=h
theorem GV {p:Prop}(h:p:=by exact fun w'=>ixW (w.heap.size+1+1) 13 JG w' _ _ rfl rfl rfl):p:=h
theorem GU {p:Prop}(h:p:=by exact fun w'=>ixW (w.heap.size+1+1) 12 JG w' _ _ rfl rfl rfl):p:=h
theorem GK {p:Prop}(h:p:=by exact fun j hj=>sG _ _ _ hj):p:=h
theorem GW {p:Prop}(h:p:=by exact fun w=>aM .i64 4 (n:Int) _ _ _ _ _ rfl rfl rfl Yj w):p:=h
theorem GG {p:Prop}(h:p:=by rintro j hj; rw [jX] at hj; exact (hb j JK).2):p:=h
theorem GH {p:Prop}(h:p:=by rintro j hj; rw [jX] at hj; exact (hb j JK).1):p:=h
theorem Ga {p:Prop}(h:p:=by rintro d hd; injection hd with hd; subst hd; exact h1):p:=h
theorem Gb {p:Prop}(h:p:=by exact fun w=>j2i .u32 _ _ _ _ _ _ _ rfl rfl rfl (hbp n) w):p:=h
theorem Gc {p:Prop}(h:p:=by rw [hl] at hf; cases hf):p:=h
abbrev wR:=@wp_region_list
abbrev aO:=@all_oneCell_toArray
abbrev wD:=@wp_region_held_drew
abbrev bRq:=@bodyPost_ret
abbrev wE:=@wpAnyH_done
abbrev nB:=@Nat.le_of_ble_eq_true
abbrev xO:=@Result.andThen_ok
abbrev xA:=@List.size_toArray
abbrev nZ:=@Nat.zero_add
abbrev gE:=@List.getElem?_eq_getElem
theorem aP (a : Act) (d : Tmp) (v : Value) : a.put (some d) v = { a with tmps := a.tmps.setIfInBounds d v } := rfl
theorem lI (l : List Value) (i : Nat) (v : Value) : l.toArray.setIfInBounds i v = (l.set i v).toArray := List.setIfInBounds_toArray l i v
theorem l0 (x v : Value) (l : List Value) : (x :: l).set 0 v = v :: l := rfl
theorem lS (x v : Value) (l : List Value) (n : Nat) : (x :: l).set (n + 1) v = x :: l.set n v := rfl
theorem xT {P : Program} {ops : Array Oper} {Q : Exit → Act → World → Prop} {a : Act} {w : World} (h : Q .normal a w) : wpList P ops Q [] a w := h
theorem fN {α : Type} {p : α → Prop} : ∀ x ∈ ([] : List α), p x := fun _ h => absurd h List.not_mem_nil
theorem mI {α : Type} {l : List α} (i : Nat) {x : α} (h : l[i]? = some x) : x ∈ l := List.mem_of_getElem? h
theorem mS {α : Type} {a : α} {l : List α} : a ∈ a :: l := List.mem_cons_self
theorem mT {α : Type} (y : α) {a : α} {l : List α} (h : a ∈ l) : a ∈ y :: l := List.mem_cons_of_mem y h
def opv (a:Act) : Operand→Option Value
 | .tmp t=>a.tmps.toList[t]?
 | .const v=>some v
 | _=>none
def mvv (a:Act) : Op→Option Value
 | .move x=>opv a x
 | .assign x=>opv a x
 | .nilCheck x=>match opv a x with
  | some (.pointer (some p))=>some (.pointer (some p))
  | _=>none
 | .extract t i=>match opv a t with
  | some (.tuple vs)=>vs.toList[i]?
  | _=>none
 | _=>none
theorem j1n {a:Act} {x:Operand} {v:Value} (h:opv a x=some v) : a.eval x=v:=by
 cases x with
 | tmp t=>
  show a.tmps.getD t undef=v
  have h':a.tmps.toList[t]?=some v:=h; rw [Array.getElem?_toList] at h'; rw [Array.getD_eq_getD_getElem?,h']; rfl
 | const u=>injection h
 | _=>cases h
theorem j6h {a:Act} {o:Oper} {v:Value} {P:Program} (h:mvv a o.op=some v) (w:World) : (execOp a.eval o).run P w=.ok (.value v) w:=by
 obtain ⟨dst,op,ty,ps,af,gd⟩:=o
 cases op <;> try (cases h; done)
 case move x=>show (pure (Next.value (a.eval x)):Sem Next).run P w=_; rw [j1n h]; rfl
 case assign x=>show (pure (Next.value (a.eval x)):Sem Next).run P w=_; rw [j1n h]; rfl
 case nilCheck x=>
  have h':(match opv a x with | some (.pointer (some p))=>some (Value.pointer (some p)) | _=>none)=some v:=h
  cases e2:opv a x with
  | none=>rw [e2] at h'; cases h'
  | some u=>
   rw [e2] at h'
   cases u <;> try (cases h'; done)
   case pointer p=>
    cases p with
    | none=>cases h'
    | some p=>
     injection h' with h'
     have e3:=j1n e2; simp only [execOp,e3,← h']; rfl
 case extract t i=>
  have h':(match opv a t with | some (.tuple vs)=>vs.toList[i]? | _=>none)=some v:=h
  cases e2:opv a t with
  | none=>rw [e2] at h'; cases h'
  | some u=>
   rw [e2] at h'
   cases u <;> try (cases h'; done)
   case tuple vs=>
    simp only [Array.getElem?_toList] at h'; show (do pure (Next.value (← Instr.extract (a.eval t) i)):Sem Next).run P w=_
    rw [j1n e2]; simp only [Instr.extract,h']; rfl
section
variable {P:Program} {ops:Array Oper} {Q:Exit→Act→World→Prop} {rest:List Oper} {a a':Act} {w:World} {d:Option Tmp} {v:Value} {md:Region.Mode} {S:World→Prop} {n c:Nat} {l:Array Bool}
theorem nL (h:wpList P ops Q rest a' w) (he:a.put d v=a':=by simp only [aP,lI,l0,lS] <;> rfl) : wpList P ops Q rest (a.put d v) w:=he ▸ h
theorem nH (h:wpAnyH P md ops Q S n l a' w) (he:a.put d v=a':=by simp only [aP,lI,l0,lS] <;> rfl) : wpAnyH P md ops Q S n l (a.put d v) w:=he ▸ h
end
theorem fC {α : Type} {p : α → Prop} {a : α} {l : List α} (h : p a ∧ ∀ x ∈ l, p x) : ∀ x ∈ a :: l, p x := List.forall_mem_cons.2 h
theorem xm1 {α : Type} {a b : α} (h : a ∈ [b]) : a = b := List.mem_singleton.1 h
theorem xc1 {α : Type} {a b : α} {l : List α} (h : a ∈ b :: l) : a = b ∨ a ∈ l := List.mem_cons.1 h
theorem xnR (n : Nat) : n ≤ n := Nat.le_refl n
theorem xnT {a b c : Nat} (h : a ≤ b) (g : b ≤ c) : a ≤ c := Nat.le_trans h g
theorem xnL {a b c : Nat} (h : a < b) (g : b ≤ c) : a < c := Nat.lt_of_lt_of_le h g
theorem xnZ (n : Nat) : ¬ n < 0 := Nat.not_lt_zero n
theorem xw6 (n : Int) : IntKind.i64.wrap n = (n + 9223372036854775808) % 18446744073709551616 - 9223372036854775808 := IntKind.wrap_i64 n
theorem xiN {a : Int} (h : 0 ≤ a) : ∃ n : Nat, a = n := Int.eq_ofNat_of_zero_le h
theorem xbA (a b : Bool) : ((a && b) = true) = (a = true ∧ b = true) := Bool.and_eq_true a b
abbrev bJ : Array Value := #[.int .i64 0, .int .i64 0, .int .i64 0, .int .i64 0, .int .i64 0]
abbrev j0h : Array Value := #[.int .i64 0, .int .i64 0, .int .i64 0, .int .i64 0, .int .i64 0, .int .i64 0]
abbrev rU : Array Value := #[.int .i64 0, .int .i64 0, .int .i64 0, .int .i64 0, .int .i64 0, .int .i64 0, .int .i64 0, .int .i64 0, .int .i64 0, .int .i64 0, .int .i64 0]
abbrev rZ : Array Value := #[.int .i64 0, .int .i64 0, .int .i64 0, .int .i64 0, .int .i64 0, .int .i64 0, .int .i64 0, .int .i64 0, .int .i64 0, .int .i64 0, .int .i64 0, .int .i64 0, .int .i64 0, .int .i64 0, .int .i64 0, .int .i64 0, .int .i64 0, .int .i64 0, .int .i64 0, .int .i64 0, .int .i64 0, .int .i64 0, .int .i64 0, .int .i64 0, .int .i64 0, .int .i64 0, .int .i64 0, .int .i64 0, .int .i64 0, .int .i64 0, .int .i64 0, .int .i64 0]
abbrev j5c : Array Value := #[.int .u32 0, .int .u32 0, .int .u32 0, .int .u32 0]
abbrev gV : Array Value := #[.int .u32 0, .int .u32 0, .int .u32 0, .int .u32 0, .int .u32 0, .int .u32 0, .int .u32 0, .int .u32 0]
abbrev yT : Array Value := #[.int .u32 0, .int .u32 0, .int .u32 0, .int .u32 0, .int .u32 0, .int .u32 0, .int .u32 0, .int .u32 0, .int .u32 0, .int .u32 0, .int .u32 0, .int .u32 0, .int .u32 0, .int .u32 0, .int .u32 0, .int .u32 0]
abbrev vW : Array Value := #[.int .u64 0, .int .u64 0, .int .u64 0, .int .u64 0]
abbrev x1i : Array Value := #[.int .u64 0, .int .u64 0, .int .u64 0, .int .u64 0, .int .u64 0, .int .u64 0]
abbrev x1h : Array Value := #[.int .u64 0, .int .u64 0, .int .u64 0, .int .u64 0, .int .u64 0, .int .u64 0, .int .u64 0, .int .u64 0]
abbrev uP : Array Value := #[.int .u8 0, .int .u8 0, .int .u8 0, .int .u8 0, .int .u8 0, .int .u8 0, .int .u8 0, .int .u8 0, .int .u8 0, .int .u8 0, .int .u8 0, .int .u8 0]
abbrev qR : Array Value := #[.int .u8 0, .int .u8 0, .int .u8 0, .int .u8 0, .int .u8 0, .int .u8 0, .int .u8 0, .int .u8 0, .int .u8 0, .int .u8 0, .int .u8 0, .int .u8 0, .int .u8 0, .int .u8 0, .int .u8 0, .int .u8 0]
abbrev jF : Array Value := #[.int .u8 0, .int .u8 0, .int .u8 0, .int .u8 0, .int .u8 0, .int .u8 0, .int .u8 0, .int .u8 0, .int .u8 0, .int .u8 0, .int .u8 0, .int .u8 0, .int .u8 0, .int .u8 0, .int .u8 0, .int .u8 0, .int .u8 0]
abbrev jY : Array Value := #[.int .u8 0, .int .u8 0, .int .u8 0, .int .u8 0, .int .u8 0, .int .u8 0, .int .u8 0, .int .u8 0, .int .u8 0, .int .u8 0, .int .u8 0, .int .u8 0, .int .u8 0, .int .u8 0, .int .u8 0, .int .u8 0, .int .u8 0, .int .u8 0, .int .u8 0, .int .u8 0, .int .u8 0, .int .u8 0, .int .u8 0, .int .u8 0, .int .u8 0, .int .u8 0, .int .u8 0, .int .u8 0, .int .u8 0, .int .u8 0, .int .u8 0, .int .u8 0]
abbrev xL : Array Value := #[.int .u8 0, .int .u8 0, .int .u8 0, .int .u8 0, .int .u8 0, .int .u8 0, .int .u8 0, .int .u8 0, .int .u8 0, .int .u8 0, .int .u8 0, .int .u8 0, .int .u8 0, .int .u8 0, .int .u8 0, .int .u8 0, .int .u8 0, .int .u8 0, .int .u8 0, .int .u8 0, .int .u8 0, .int .u8 0, .int .u8 0, .int .u8 0, .int .u8 0, .int .u8 0, .int .u8 0, .int .u8 0, .int .u8 0, .int .u8 0, .int .u8 0, .int .u8 0, .int .u8 0, .int .u8 0, .int .u8 0, .int .u8 0, .int .u8 0, .int .u8 0, .int .u8 0, .int .u8 0, .int .u8 0, .int .u8 0, .int .u8 0, .int .u8 0, .int .u8 0, .int .u8 0, .int .u8 0, .int .u8 0, .int .u8 0, .int .u8 0, .int .u8 0, .int .u8 0, .int .u8 0, .int .u8 0, .int .u8 0, .int .u8 0, .int .u8 0, .int .u8 0, .int .u8 0, .int .u8 0, .int .u8 0, .int .u8 0, .int .u8 0, .int .u8 0]
abbrev vS : Array Value := #[.int .u8 0, .int .u8 0, .int .u8 0, .int .u8 0, .int .u8 0, .int .u8 0, .int .u8 0, .int .u8 0, .int .u8 0, .int .u8 0, .int .u8 0, .int .u8 0, .int .u8 0, .int .u8 0, .int .u8 0, .int .u8 0, .int .u8 0, .int .u8 0, .int .u8 0, .int .u8 0, .int .u8 0, .int .u8 0, .int .u8 0, .int .u8 0, .int .u8 0, .int .u8 0, .int .u8 0, .int .u8 0, .int .u8 0, .int .u8 0, .int .u8 0, .int .u8 0, .int .u8 0, .int .u8 0, .int .u8 0, .int .u8 0, .int .u8 0, .int .u8 0, .int .u8 0, .int .u8 0, .int .u8 0, .int .u8 0, .int .u8 0, .int .u8 0, .int .u8 0, .int .u8 0, .int .u8 0, .int .u8 0, .int .u8 0, .int .u8 0, .int .u8 0, .int .u8 0, .int .u8 0, .int .u8 0, .int .u8 0, .int .u8 0, .int .u8 0, .int .u8 0, .int .u8 0, .int .u8 0, .int .u8 0, .int .u8 0, .int .u8 0, .int .u8 0, .int .u8 0, .int .u8 0, .int .u8 0, .int .u8 0, .int .u8 0, .int .u8 0, .int .u8 0, .int .u8 0, .int .u8 0, .int .u8 0, .int .u8 0, .int .u8 0, .int .u8 0, .int .u8 0, .int .u8 0, .int .u8 0, .int .u8 0, .int .u8 0, .int .u8 0, .int .u8 0, .int .u8 0, .int .u8 0, .int .u8 0, .int .u8 0, .int .u8 0, .int .u8 0, .int .u8 0, .int .u8 0, .int .u8 0, .int .u8 0, .int .u8 0, .int .u8 0, .int .u8 0, .int .u8 0, .int .u8 0, .int .u8 0, .int .u8 0, .int .u8 0, .int .u8 0, .int .u8 0, .int .u8 0, .int .u8 0, .int .u8 0, .int .u8 0, .int .u8 0, .int .u8 0, .int .u8 0, .int .u8 0, .int .u8 0, .int .u8 0, .int .u8 0, .int .u8 0, .int .u8 0, .int .u8 0, .int .u8 0, .int .u8 0, .int .u8 0, .int .u8 0, .int .u8 0, .int .u8 0, .int .u8 0, .int .u8 0, .int .u8 0, .int .u8 0]
def row (k:IntKind) (n:Nat) (f:Nat→Int):List Value:=(List.range n).map fun j=>.int k (f j)
abbrev kf2 (a b:Nat→Int) : List Value:=[row .u8 32 a,row .u8 32 b].flatten
abbrev kf6 (a b c d:Nat→Int) (e:Bool) (f:Nat→Int) : List Value:=[row .u8 32 a,row .u8 32 b,row .u8 32 c,row .u8 32 d,[Value.bool e],row .u8 32 f].flatten
abbrev kf7 (r p:Int) (a b c d:Nat→Int) (q:Nat) : List Value:=[[Value.int .i64 r],[Value.int .i64 p],row .u8 32 a,row .u8 32 b,row .u8 32 c,row .u8 32 d,[Value.pointer (some ⟨q,0,none⟩)]].flatten
theorem jX (k:IntKind) (n:Nat) (f:Nat→Int):(row k n f).length=n:=by simp [row]
theorem xG (k:IntKind) (n:Nat) (f:Nat→Int) (j:Nat) (h:j<n):(row k n f)[j]?=some (.int k (f j)):=by simp [row,h]
theorem xS {k:IntKind} {n:Nat} {f:Nat→Int} {j:Nat} {v:Value} (h:(row k n f)[j]?=some v):j<n∧v=.int k (f j):=by
 have hj:j<n:=by
  have:=(List.getElem?_eq_some_iff.1 h).1; rw [jX] at this; exact this
 rw [xG k n f j hj] at h
 exact ⟨hj,(Option.some.inj h).symm⟩
theorem yV (k:IntKind) (n:Nat) {f g:Nat→Int} (h:∀ j,j<n→f j=g j):row k n f=row k n g:=by
 unfold row
 refine List.map_congr_left fun j hj=>?_
 rw [h j (List.mem_range.1 hj)]
theorem jT (k:IntKind) (n:Nat) (f:Nat→Int):∀ v∈row k n f,v.oneCell'=true:=by
 intro v hv
 obtain ⟨j,_,rfl⟩:=List.mem_map.1 hv
 rfl
structure Has (w:World) (b:Nat) (k:IntKind) (n:Nat) (f:Nat→Int):Prop where
 cell:∀ j,j<n→w.cell? ⟨b,j,none⟩=some (.int k (f j))
 free:∀ j,j<n→w.frozen? ⟨b,j,none⟩=false
def upd (f:Nat→Int) (i:Nat) (x:Int):Nat→Int:=fun j=>if j=i then x else f j
theorem jP (f:Nat→Int) (i:Nat) (x:Int):upd f i x i=x:=by simp [upd]
theorem jR (f:Nat→Int) (i:Nat) (x:Int) (j:Nat) (h:j≠i):upd f i x j=f j:=by simp [upd,h]
theorem Has.drew {w:World} {b:Nat} {k:IntKind} {n:Nat} {f:Nat→Int} (h:Has w b k n f):Has w.drew b k n f:=⟨h.cell,h.free⟩
theorem Has.congr {w:World} {b:Nat} {k:IntKind} {n:Nat} {f g:Nat→Int} (h:Has w b k n f) (e:∀ j,j<n→f j=g j):Has w b k n g :=
 ⟨fun j hj=>by rw [← e j hj]; exact h.cell j hj,h.free⟩
theorem Has.new (w:World) (k:IntKind) (n:Nat) (f:Nat→Int) (t:TypeId) (b:Nat) (hb:b=w.heap.size):Has (w.alloc (.cells (row k n f).toArray t)) b k n f :=
 ⟨fun j hj=>by rw [World.cell?_alloc_at _ _ _ _ hb]; simpa using xG k n f j hj,fun j _=>by rw [World.frozen?_alloc_at _ _ _ _ hb]⟩
theorem Has.alloc {w:World} {b:Nat} {k:IntKind} {n:Nat} {f:Nat→Int} (h:Has w b k n f) (o:Obj) (hb:b<w.heap.size):Has (w.alloc o) b k n f :=
 ⟨fun j hj=>by rw [World.cell?_alloc_past _ _ _ hb]; exact h.cell j hj,fun j hj=>by rw [World.frozen?_alloc_past _ _ _ hb]; exact h.free j hj⟩
theorem Has.below {w w':World} {b:Nat} {k:IntKind} {n:Nat} {f:Nat→Int} (h:Has w b k n f) {B:Nat} (hl:Below B w w') (hb:b<B):Has w' b k n f :=
 ⟨fun j hj=>by rw [hl.cell (p:=⟨b,j,none⟩) hb]; exact h.cell j hj,fun j hj=>by rw [hl.frozen (p:=⟨b,j,none⟩) hb]; exact h.free j hj⟩
theorem Has.set {w:World} {b:Nat} {k:IntKind} {n:Nat} {f:Nat→Int} (h:Has w b k n f) (i:Nat) (hi:i<n) (x:Int):Has (w.setCell ⟨b,i,none⟩ (.int k x)) b k n (upd f i x) :=
 ⟨fun j hj=>by
  by_cases e:j=i
  · subst e; rw [jP,World.cell?_setCell_same _ _ _ (h.cell j hj)]
  · rw [jR _ _ _ _ e,World.cell?_setCell_other _ _ _ _ (by intro h'; exact e (by injection h' with _ h2; exact h2.symm))]; exact h.cell j hj,
  fun j hj=>by rw [World.frozen?_setCell]; exact h.free j hj⟩
theorem Has.set_other {w:World} {b:Nat} {k:IntKind} {n:Nat} {f:Nat→Int} (h:Has w b k n f) (p:Addr) (v:Value) (hp:p.block≠b):Has (w.setCell p v) b k n f :=
 ⟨fun j hj=>by rw [World.cell?_setCell_other _ _ _ _ (by intro h'; exact hp (by rw [h']))]; exact h.cell j hj,fun j hj=>by rw [World.frozen?_setCell]; exact h.free j hj⟩
theorem Has.range {w:World} {b:Nat} {k:IntKind} {n:Nat} {f:Nat→Int} (h:Has w b k n f):w.rangeAt b 0 (row k n f):=fun j v hv=>by
 obtain ⟨hj,rfl⟩:=xS hv
 rw [Nat.zero_add]; exact h.cell j hj
section
variable {ops:Array Oper} {Q:Exit→Act→World→Prop} {rest:List Oper} {a:Act} {w:World} {o:Oper} {ty:TypeId} {x y:Operand} {b:Nat} {D:TypeDesc}
theorem yl {k:IntKind} {n:Nat} {f:Nat→Int} (hc:Has w b k n f) (hu:Tryz.prog.underlying ty=some D) (hi:(Tryz.prog.info? ty).map (·.size)=some (row k n f).length) (h:wpList Tryz.prog ops Q rest (a.put o.dst (.agg (row k n f).toArray)) w) (hg:o.guard=none:=by rfl) (ho:o.op=.load ty x:=by rfl) (hx:a.eval x=.pointer (some ⟨b,0,none⟩):=by rfl) (hd:D.isRow=true:=by rfl) : wpList Tryz.prog ops Q (o::rest) a w:=wpList_load_mid hg ty x ho b 0 hx (row k n f) D hc.range hu hd hi h
theorem ys (k:IntKind) (n:Nat) (f:Nat→Int) (ht:w.there b 0 (row k n f).toArray.size) (hi:(Tryz.prog.info? ty).map (·.size)=some (row k n f).toArray.size) (h:wpList Tryz.prog ops Q rest (a.put o.dst undef) (w.setCells b 0 (row k n f).toArray.toList)) (hg:o.guard=none:=by rfl) (ho:o.op=.store ty x y:=by rfl) (hx:a.eval x=.pointer (some ⟨b,0,none⟩):=by rfl) (hy:a.eval y=.agg (row k n f).toArray:=by rfl) : wpList Tryz.prog ops Q (o::rest) a w:=wpList_store_mid hg ty x y ho b 0 (row k n f).toArray hx hy ht hi (all_oneCell_toArray (jT k n f)) h
end
theorem Has.there {w:World} {b:Nat} {k:IntKind} {n:Nat} {f:Nat→Int} (h:Has w b k n f):w.there b 0 n:=fun j hj=>by
 rw [Nat.zero_add,h.cell j hj]; exact ⟨rfl,h.free j hj⟩
theorem Has.all {w:World} {b:Nat} {n:Nat} (ht:w.there b 0 n) (k:IntKind) (g:Nat→Int):Has (w.setCells b 0 (row k n g)) b k n g :=
 ⟨fun j hj=>by
  have:=World.rangeAt_setCells_same w b 0 (row k n g) (by rw [jX]; exact ht) j _ (xG k n g j hj)
  rw [Nat.zero_add] at this; exact this,
  fun j hj=>by rw [World.frozen?_setCells]; have:=(ht j hj).2; rw [Nat.zero_add] at this; exact this⟩
theorem jQ {P:Program} {fn:Func} {tmps:Array Value} {w:World} {a:Tmp} {ty:TypeId} {b:Nat} {cs:List Value} {d:TypeDesc} (hr:fn.results=#[.cell a ty])
 (ht:tmps.getD a undef=.pointer (some ⟨b,0,none⟩)) (hc:w.rangeAt b 0 cs) (hu:P.underlying ty=some d) (hd:d.isRow=true) (hi:(P.info? ty).map (·.size)=some cs.length) :
 (results fn tmps).run P w=.ok (.agg cs.toArray) w:=by
 have hl:=run_loadVar_mid (P:=P) w b 0 ty cs d hc hu hd hi
 rw [Array.getD_eq_getD_getElem?] at ht
 simp [results,hr,ht,asAddr,hl]
theorem xN {P:Program} {fn:Func} {tmps:Array Value} {w:World} {a t:Tmp} {ty:TypeId} {b:Nat} {cs:List Value} {d:TypeDesc} {v:Value} (hr:fn.results=#[.cell a ty,.tmp t])
 (ht:tmps.getD a undef=.pointer (some ⟨b,0,none⟩)) (hv:tmps.getD t undef=v) (hc:w.rangeAt b 0 cs) (hu:P.underlying ty=some d) (hd:d.isRow=true) (hi:(P.info? ty).map (·.size)=some cs.length) :
 (results fn tmps).run P w=.ok (.tuple #[.agg cs.toArray,v]) w:=by
 have hl:=run_loadVar_mid (P:=P) w b 0 ty cs d hc hu hd hi
 rw [Array.getD_eq_getD_getElem?] at ht hv
 simp [results,hr,ht,hv,asAddr,hl]
theorem jS {B:Nat} {w w':World} (h:Below B w w') (b:Nat) (hb:B≤b):∀ (o:Nat) (vs:List Value),Below B w (w'.setCells b o vs)
 | _,[]=>h
 | o,v::vs=>by
   rw [World.setCells]
   exact jS (h.setCell (by simpa using hb) v) b hb (o+1) vs
theorem jN (b:Nat):∀ (o:Nat) (vs:List Value) (w:World),(w.setCells b o vs).heap.size=w.heap.size
 | _,[],_=>rfl
 | o,v::vs,w=>by rw [World.setCells,jN b (o+1) vs]; simp
theorem Has.setAll_other {w:World} {b:Nat} {k:IntKind} {n:Nat} {f:Nat→Int} (h:Has w b k n f) (b':Nat) (hb:b'≠b):∀ (o:Nat) (vs:List Value),Has (w.setCells b' o vs) b k n f
 | _,[]=>h
 | o,v::vs=>by
   rw [World.setCells]
   exact Has.setAll_other (h.set_other _ v hb) b' hb (o+1) vs
structure Fr (w:World) (k:Nat) (w':World):Prop where
 below:Below w.heap.size w w'
 size:w.heap.size+k≤w'.heap.size
theorem Fr.refl (w:World):Fr w 0 w:=⟨Below.refl _ _,by omega⟩
theorem Fr.alloc {w w':World} {k:Nat} (h:Fr w k w') (o:Obj):Fr w (k+1) (w'.alloc o):=⟨h.below.alloc WX _,by have:=h.size; simp; omega⟩
theorem Fr.drew {w w':World} {k:Nat} (h:Fr w k w'):Fr w k w'.drew:=⟨h.below.drew,h.size⟩
theorem Fr.set {w w':World} {k:Nat} (h:Fr w k w') (p:Addr) (v:Value) (hp:w.heap.size≤p.block):Fr w k (w'.setCell p v):=⟨h.below.setCell hp v,by have:=h.size; simp; omega⟩
theorem Fr.setAll {w w':World} {k:Nat} (h:Fr w k w') (b:Nat) (hb:w.heap.size≤b) (vs:List Value):Fr w k (w'.setCells b 0 vs):=⟨jS h.below b hb 0 vs,by rw [jN]; exact h.size⟩
theorem Fr.call {w w' w'':World} {k:Nat} (h:Fr w k w') (l:Below w'.heap.size w' w''):Fr w k w'' :=
 ⟨h.below.trans (l.mono WX),by have:=h.size; have:=l.size; omega⟩
theorem Has.call {w w' w'':World} {k':Nat} {b:Nat} {k:IntKind} {n:Nat} {f:Nat→Int} (h:Has w' b k n f) (g:Fr w k' w') (l:Below w'.heap.size w' w'') (hb:b<w.heap.size+k'):Has w'' b k n f :=
 h.below l (by have:=g.size; omega)
def In (M:Int) (n:Nat) (f:Nat→Int):Prop:=∀ j,j<n→0≤f j∧f j<M
theorem In.upd {M:Int} {n:Nat} {f:Nat→Int} (h:In M n f) (i:Nat) (x:Int) (h0:0≤x) (h1:x<M):In M n (upd f i x):=fun j hj=>by
 by_cases e:j=i
 · subst e; rw [jP]; exact ⟨h0,h1⟩
 · rw [jR _ _ _ _ e]; exact h j hj
def val (M:Int) (f:Nat→Int):Nat→Int
 | 0=>0
 | n+1=>val M f n+M^n*f n
theorem qZ (M:Int) {f g:Nat→Int}:∀ n,(∀ j,j<n→f j=g j)→val M f n=val M g n
 | 0,_=>rfl
 | n+1,h=>by
   simp only [val]
   rw [qZ M n (fun j hj=>h j JK),h n JK]
theorem zK (M:Int) (f:Nat→Int) (i:Nat) (x:Int) (n:Nat) (h:n≤i):val M (upd f i x) n=val M f n :=
 qZ M n fun j hj=>jR _ _ _ _ JK
theorem vU (M:Int) (h:0<M):∀ n:Nat,0<M^n
 | 0=>by simp
 | n+1=>by rw [Int.pow_succ]; exact Int.mul_pos (vU M h n) h
theorem qE (M:Int) (hM:0<M) (f:Nat→Int):∀ n,In M n f→0≤val M f n∧val M f n<M^n
 | 0,_=>by simp [val]
 | n+1,h=>by
   have ih:=qE M hM f n (fun j hj=>h j JK); have hn:=h n JK; have hp:=vU M hM n; simp only [val]
   rw [Int.pow_succ]
   have h1:0≤M^n*f n:=Int.mul_nonneg JK hn.1
   have h2:M^n*(f n+1)≤M^n*M:=Int.mul_le_mul_of_nonneg_left JK JK
   rw [Int.mul_add,Int.mul_one] at h2
   omega
theorem hH (M:Int) (hM:0<M) (f g:Nat→Int):∀ n,In M n f→In M n g→val M f n=val M g n→∀ j,j<n→f j=g j
 | 0,_,_,_=>fun j hj=>by omega
 | n+1,hf,hg,h=>by
   have bf:=qE M hM f n (fun j hj=>hf j JK); have bg:=qE M hM g n (fun j hj=>hg j JK); have hp:=vU M hM n
   simp only [val] at h
   have e:f n=g n:=by
    by_cases hlt:f n<g n
    · have:M^n*(f n+1)≤M^n*g n:=Int.mul_le_mul_of_nonneg_left JK JK; rw [Int.mul_add,Int.mul_one] at this; omega
    by_cases hgt:g n<f n
    · have:M^n*(g n+1)≤M^n*f n:=Int.mul_le_mul_of_nonneg_left JK JK; rw [Int.mul_add,Int.mul_one] at this; omega
    omega
   have e2:val M f n=val M g n:=by rw [e] at h; omega
   intro j hj; by_cases hjn:j=n
   · subst hjn; exact e
   exact hH M hM f g n (fun j hj=>hf j JK) (fun j hj=>hg j JK) e2 j JK
def xJ (len:Nat) (z:Nat→Int):Nat→Int:=fun j=>if j<len then z j else 0
theorem tP (len:Nat) (z:Nat→Int) (hz:In 256 len z) (n:Nat):In 256 n (xJ len z):=fun j _=>by
 unfold xJ
 split
 · exact hz j KQ
 · omega
abbrev W:Int:=18446744073709551616
def aLo (x y c:Int):Int:=(x+y+c)%18446744073709551616
def aHi (x y c:Int):Int:=(x+y+c)/18446744073709551616
theorem j0g (x y c:Int) (hx:0≤x) (hy:0≤y) (hc0:0≤c) (hc:c≤1) (w:World):(callFunc 125 #[.int .u64 x,.int .u64 y,.int .u64 c]).run Tryz.prog w =
 .ok (.value (.tuple #[.int .u64 (aLo x y c),.int .u64 (aHi x y c)])) w:=by
 rw [run_callFunc_extern Tryz.func125 JU JU JU (e:=add64Entry) JU,run_add64 x y c hx hy hc0 hc]
 rfl
def sLo (x y c:Int):Int:=(x-y-c)%18446744073709551616
def sHi (x y c:Int):Int:=if x<y+c then 1 else 0
def j2v:Array Value→Sem Value:=(Extern.MathBitsCarry.rows.getLast (by simp [Extern.MathBitsCarry.rows])).2
theorem j1g (x y b:Nat) (hb:b≤1) (w:World) :
 (j2v #[.int .u64 x,.int .u64 y,.int .u64 b]).run Tryz.prog w =
  .ok (.tuple #[.int .u64 (((x+18446744073709551616-y-b)%18446744073709551616:Nat):Int),.int .u64 ((if x<y+b then 1 else 0:Nat):Int)]) w:=by
 have:b=0∨b=1:=by omega
 rcases this with rfl | rfl <;> rfl
theorem q2n (x y c:Int) (hx:0≤x) (hy:0≤y) (hy':y<18446744073709551616) (hc0:0≤c) (hc:c≤1) (w:World):(callFunc 145 #[.int .u64 x,.int .u64 y,.int .u64 c]).run Tryz.prog w =
 .ok (.value (.tuple #[.int .u64 (sLo x y c),.int .u64 (sHi x y c)])) w:=by
 obtain ⟨x,rfl⟩:=xiN hx
 obtain ⟨y,rfl⟩:=xiN hy
 obtain ⟨c,rfl⟩:=xiN hc0
 have e1:(((x+18446744073709551616-y-c)%18446744073709551616:Nat):Int)=sLo x y c:=by unfold sLo; omega
 have e2:((if x<y+c then 1 else 0:Nat):Int)=sHi x y c:=by unfold sHi; split <;> split <;> omega
 rw [run_callFunc_extern Tryz.func145 JU JU JU (e:=j2v) JU,j1g x y c JK,e1,e2]
 rfl
theorem q4i (a:Nat) (ha:a<18446744073709551616):bits .and .u64 (a:Int) 4294967295=((a%4294967296:Nat):Int):=by
 have e:a &&& 4294967295=a%4294967296:=Nat.and_two_pow_sub_one_eq_mod a 32
 rw [← e]; exact u64_and_nat a 4294967295 ha JK
theorem x3e (a:Nat):(a:Int)/4294967296=((a/4294967296:Nat):Int):=by omega
theorem q9e (a b:Nat):(a:Int)*(b:Int)=((a*b:Nat):Int):=by omega
theorem q9f (a b:Nat):(a:Int)+(b:Int)=((a+b:Nat):Int):=by omega
theorem j4n (a:Nat) (ha:a<18446744073709551616):IntKind.u64.wrap (a:Int)=(a:Int):=by rw [IntKind.wrap_u64]; omega
theorem x5l (a:Nat):IntKind.u64.wrap (a:Int)=((a%18446744073709551616:Nat):Int):=by rw [IntKind.wrap_u64]; omega
theorem q0w (x y:Nat) (hx:x<18446744073709551616) (hy:y<18446744073709551616) (w:World) :
 Calls Tryz.prog 124 #[.int .u64 x,.int .u64 y] w fun e w'=>e=.returned (.tuple #[.int .u64 ((x*y/18446744073709551616:Nat):Int),.int .u64 ((x*y%18446744073709551616:Nat):Int)])∧w'=w:=by
 have hall:=Lib.mul64_hi x y hx hy; have p11:=Lib.half_mul_le (a:=x/4294967296) (b:=y/4294967296) JK JK; have p10:=Lib.half_mul_le (a:=x/4294967296) (b:=y%4294967296) JK JK; have p01:=Lib.half_mul_le (a:=x%4294967296) (b:=y/4294967296) JK JK; have q11:=j4n (x/4294967296*(y/4294967296)) JK
 have q10:=j4n (x/4294967296*(y%4294967296)) JK; have q01:=j4n (x%4294967296*(y/4294967296)) JK; have qa:=j4n _ hall.1; have qb:=j4n _ hall.2.1; have qc:=j4n _ hall.2.2.1; have qd:=q4i _ hall.2.1
 have qe:=j4n (x/4294967296*(y/4294967296)+(x/4294967296*(y%4294967296)+x%4294967296*(y%4294967296)/4294967296)/4294967296) JK
 have qf:=j4n (x/4294967296*(y/4294967296)+(x/4294967296*(y%4294967296)+x%4294967296*(y%4294967296)/4294967296)/4294967296+((x/4294967296*(y%4294967296)+x%4294967296*(y%4294967296)/4294967296)%4294967296+x%4294967296*(y/4294967296))/4294967296) JK; have qx:=q4i x hx; have qy:=q4i y hy
 have H:=show Hid _ from (And.intro q11 (And.intro q10 (And.intro q01 (And.intro qa (And.intro qb (And.intro qc (And.intro qd (And.intro qe (And.intro qf (And.intro qx (And.intro qy hall.2.2.2))))))))))); clear q11 q10 q01 qa qb qc qd qe qf qx qy hall p11 p10 p01
 go_enter Tryz.func124,Tryz.ntmps124
 go_wp2
 obtain ⟨q11,q10,q01,qa,qb,qc,qd,qe,qf,qx,qy,hh⟩:=H.out
 simp only [qx,qy,x3e,q9e,q9f,qa,q10,qb,qd,q01,qc,q11,qe,qf,x5l (x*y)]
 rw [hh]
 go_ret2
 exact ⟨rfl,rfl⟩
def q7c (x y h l:Int):Prop:=0≤h∧h≤W-2∧0≤l∧l<W∧h*W+l=x*y
theorem q0x (x y:Int) (hx:0≤x) (hx':x<W) (hy:0≤y) (hy':y<W) (w:World) :
 Calls Tryz.prog 124 #[.int .u64 x,.int .u64 y] w fun e w'=>∃ h l:Int,e=.returned (.tuple #[.int .u64 h,.int .u64 l])∧q7c x y h l∧w'=w:=by
 simp only [W] at hx' hy'
 obtain ⟨x,rfl⟩:=xiN hx
 obtain ⟨y,rfl⟩:=xiN hy
 refine (q0w x y JK JK w).mono ?_; rintro e w' ⟨rfl,rfl⟩
 have hle:x*y≤18446744073709551615*18446744073709551615:=Nat.mul_le_mul JK JK
 have hc:(x:Int)*(y:Int)=((x*y:Nat):Int):=(Int.natCast_mul x y).symm
 refine ⟨_,_,rfl,?_,rfl⟩
 unfold q7c
 rw [hc]
 simp only [W]; generalize x*y=z at *
 omega
def dY (a b c d h l:Int):Prop:=0≤h∧h<W∧0≤l∧l<W∧h*W+l=a*b+c+d
theorem q0c {a b c d h l:Int} (hp:q7c a b h l) (hc:0≤c) (hc':c<W) (hd:0≤d) (hd':d<W) (ha:0≤a) (ha':a<W) (hb:0≤b) (hb':b<W) :
 IntKind.u64.wrap (h+aHi l c 0)=h+aHi l c 0∧IntKind.u64.wrap (h+aHi l c 0+aHi (aLo l c 0) d 0)=h+aHi l c 0+aHi (aLo l c 0) d 0∧dY a b c d (h+aHi l c 0+aHi (aLo l c 0) d 0) (aLo (aLo l c 0) d 0):=by
 obtain ⟨h0,h1,l0,l1,e⟩:=hp
 have hab:a*b≤18446744073709551615*18446744073709551615:=Int.mul_le_mul (by simp only [W] at ha'; omega) (by simp only [W] at hb'; omega) hb JK
 unfold dY
 rw [IntKind.wrap_u64,IntKind.wrap_u64]
 unfold aHi aLo
 simp only [W] at *
 generalize a*b=p at *
 refine ⟨by omega,by omega,by omega⟩
theorem bG (a b c d:Int) (ha:0≤a) (ha':a<W) (hb:0≤b) (hb':b<W) (hc:0≤c) (hc':c<W) (hd:0≤d) (hd':d<W) (w:World) :
 Calls Tryz.prog 103 #[.int .u64 a,.int .u64 b,.int .u64 c,.int .u64 d] w fun e w'=>∃ h l:Int,e=.returned (.tuple #[.int .u64 h,.int .u64 l])∧dY a b c d h l∧w'=w:=by
 go_enter Tryz.func103,Tryz.ntmps103
 go_wp2_with fail
 refine (q0x a b ha ha' hb hb' _).mono ?_; rintro e w' ⟨h,l,rfl,hp,rfl⟩
 obtain ⟨k1,k2,hs⟩:=q0c hp hc hc' hd hd' ha ha' hb hb'
 have hadd1:=j0g l c 0 hp.2.2.1 hc (Int.le_refl 0) JG; have hadd2:=j0g (aLo l c 0) d 0 (by unfold aLo; omega) hd (Int.le_refl 0) JG; clear ha ha' hb hb' hc hc' hd hd'; generalize aLo (aLo l c 0) d 0=lo at *; generalize aHi (aLo l c 0) d 0=c2 at *; generalize aLo l c 0=lo1 at *; generalize aHi l c 0=c1 at *; go_wp2; go_ret2
 exact ⟨_,_,rfl,hs,rfl⟩
theorem x2f (z x cv:Int) (hz:0≤z) (hz':z<W) (hx:0≤x) (hx':x<W) (hc:cv=0∨cv=1) :
 bits BinOp.xor IntKind.u64 z (bits BinOp.and IntKind.u64 (IntKind.u64.wrap (-cv)) (bits BinOp.xor IntKind.u64 z x))=if cv=1 then x else z:=by
 simp only [W] at hz' hx'
 obtain ⟨z,rfl⟩:=xiN hz
 obtain ⟨x,rfl⟩:=xiN hx
 have hzn:z<2^64:=by omega
 have hxn:x<2^64:=by omega
 have hy:z ^^^ x<18446744073709551616:=Nat.xor_lt_two_pow hzn hxn
 rw [u64_xor_nat z x JK JK]
 rcases hc with rfl | rfl
 · have e:IntKind.u64.wrap (-0)=((0:Nat):Int):=by rw [IntKind.wrap_u64]; rfl
   rw [e,u64_and_nat 0 _ JK hy,Nat.zero_and,u64_xor_nat z 0 JK JK,Nat.xor_zero]; simp
 have e:IntKind.u64.wrap (-1)=((18446744073709551615:Nat):Int):=by rw [IntKind.wrap_u64]; rfl
 have e2:18446744073709551615 &&& (z ^^^ x)=z ^^^ x:=by
  have h:=Nat.and_two_pow_sub_one_eq_mod (z ^^^ x) 64; rw [Nat.and_comm,show (18446744073709551615:Nat)=2^64-1 from rfl,h]; exact Nat.mod_eq_of_lt hy
 rw [e,u64_and_nat _ _ JK hy,e2,u64_xor_nat z _ JK hy,← Nat.xor_assoc,Nat.xor_self,Nat.zero_xor]
 simp
theorem tD (M s:Nat) (hM:M=2^s) (hb:M*256≤18446744073709551616) (a x:Int) (h0:0≤a) (h1:a<M) (x0:0≤x) (x1:x<256) :
 bits BinOp.or IntKind.u64 a (IntKind.u64.wrap (IntKind.u64.wrap x*(M:Int)))=a+x*(M:Int):=by
 obtain ⟨a,rfl⟩:=xiN h0
 obtain ⟨x,rfl⟩:=xiN x0
 have hx:x*M+M≤256*M:=by rw [← Nat.succ_mul]; exact Nat.mul_le_mul_right M JK
 have e1:IntKind.u64.wrap (x:Int)=(x:Int):=by rw [IntKind.wrap_u64]; omega
 have e2:(x:Int)*(M:Int)=((x*M:Nat):Int):=(Int.natCast_mul x M).symm
 have e3:IntKind.u64.wrap ((x*M:Nat):Int)=((x*M:Nat):Int):=by rw [IntKind.wrap_u64]; omega
 rw [e1,e2,e3,u64_or_nat a (x*M) JK JK]
 exact Xs
theorem x5g (x0 x1 x2 x3 x4 x5 x6 x7:Int) (h0:0≤x0∧x0<256) (h1:0≤x1∧x1<256) (h2:0≤x2∧x2<256) (h3:0≤x3∧x3<256) (h4:0≤x4∧x4<256) (h5:0≤x5∧x5<256) (h6:0≤x6∧x6<256) (h7:0≤x7∧x7<256) :
 bits BinOp.or IntKind.u64 (bits BinOp.or IntKind.u64 (bits BinOp.or IntKind.u64 (bits BinOp.or IntKind.u64 (bits BinOp.or IntKind.u64 (bits BinOp.or IntKind.u64 (bits BinOp.or IntKind.u64 (IntKind.u64.wrap (x0)) (IntKind.u64.wrap (IntKind.u64.wrap (x1)*256))) (IntKind.u64.wrap (IntKind.u64.wrap (x2)*65536))) (IntKind.u64.wrap (IntKind.u64.wrap (x3)*16777216))) (IntKind.u64.wrap (IntKind.u64.wrap (x4)*4294967296))) (IntKind.u64.wrap (IntKind.u64.wrap (x5)*1099511627776))) (IntKind.u64.wrap (IntKind.u64.wrap (x6)*281474976710656))) (IntKind.u64.wrap (IntKind.u64.wrap (x7)*72057594037927936))=x0+x1*256+x2*65536+x3*16777216+x4*4294967296+x5*1099511627776+x6*281474976710656+x7*72057594037927936:=by
 have e0:IntKind.u64.wrap x0=x0:=by rw [IntKind.wrap_u64]; omega
 have e1:=tD 256 8 JG JG (x0) x1 JK JK h1.1 h1.2; have e2:=tD 65536 16 JG JG (x0+x1*((256:Nat):Int)) x2 JK JK h2.1 h2.2; have e3:=tD 16777216 24 JG JG (x0+x1*((256:Nat):Int)+x2*((65536:Nat):Int)) x3 JK JK h3.1 h3.2
 have e4:=tD 4294967296 32 JG JG (x0+x1*((256:Nat):Int)+x2*((65536:Nat):Int)+x3*((16777216:Nat):Int)) x4 JK JK h4.1 h4.2
 have e5:=tD 1099511627776 40 JG JG (x0+x1*((256:Nat):Int)+x2*((65536:Nat):Int)+x3*((16777216:Nat):Int)+x4*((4294967296:Nat):Int)) x5 JK JK h5.1 h5.2
 have e6:=tD 281474976710656 48 JG JG (x0+x1*((256:Nat):Int)+x2*((65536:Nat):Int)+x3*((16777216:Nat):Int)+x4*((4294967296:Nat):Int)+x5*((1099511627776:Nat):Int)) x6 JK JK h6.1 h6.2
 have e7:=tD 72057594037927936 56 JG JG (x0+x1*((256:Nat):Int)+x2*((65536:Nat):Int)+x3*((16777216:Nat):Int)+x4*((4294967296:Nat):Int)+x5*((1099511627776:Nat):Int)+x6*((281474976710656:Nat):Int)) x7 JK JK h7.1 h7.2
 simp only [Int.cast_ofNat_Int] at e1 e2 e3 e4 e5 e6 e7
 rw [e0,e1,e2,e3,e4,e5,e6,e7]
theorem q6d (x:Int) (h0:0≤x) (h1:x<18446744073709551616):x%256+256*(x/256%256)+65536*(x/65536%256)+16777216*(x/16777216%256)+4294967296*(x/4294967296%256)+1099511627776*(x/1099511627776%256)+281474976710656*(x/281474976710656%256)+72057594037927936*(x/72057594037927936%256)=x:=by omega
theorem wU (bit a b:Int) (ha:0≤a) (ha':a<W) (hb:0≤b) (hb':b<W) (hc:bit=0∨bit=1) (r:Int) (hr:(if bit=1 then b else a)=r) (w:World) :
 Calls Tryz.prog 146 #[.int .u64 bit,.int .u64 a,.int .u64 b] w fun e w'=>e=.returned (.int .u64 r)∧w'=w:=by
 have HP:=show Hid _ from (x2f a b bit ha ha' hb hb' hc).trans hr; clear ha ha' hb hb' hc hr
 go_enter Tryz.func146,Tryz.ntmps146
 go_wp2; go_ret
 exact ⟨by rw [← HP.out]; rfl,rfl⟩
abbrev Q:Int:=1361129467683753853853498429727072845819
abbrev FB:Int:=1361129467683753853853498429727072846824
theorem W3:W^3=6277101735386680763835789423207666416102355444464034512896:=by decide
theorem v3 (f:Nat→Int):val W f 3=f 0+18446744073709551616*f 1+340282366920938463463374607431768211456*f 2:=by
 simp only [val,W]; omega
theorem v6 (f:Nat→Int):val W f 6=f 0+18446744073709551616*f 1+340282366920938463463374607431768211456*f 2+6277101735386680763835789423207666416102355444464034512896*f 3+115792089237316195423570985008687907853269984665640564039457584007913129639936*f 4+2135987035920910082395021706169552114602704522356652769947041607822219725780640550022962086936576*f 5:=by
 simp only [val,W]; omega
def tri (x y z:Int):Nat→Int
 | 0=>x
 | 1=>y
 | 2=>z
 | _+3=>0
theorem dG {x y z:Int} (hx:0≤x∧x<W) (hy:0≤y∧y<W) (hz:0≤z∧z<W):In W 3 (tri x y z)
 | 0,_=>hx
 | 1,_=>hy
 | 2,_=>hz
 | _+3,h=>by omega
theorem lH (x y z:Int):val W (tri x y z) 3=x+18446744073709551616*y+340282366920938463463374607431768211456*z:=v3 _
def sF (n:Nat→Int):Prop:=In W 3 n∧val W n 3≤FB
theorem q0p {a b n:Nat→Int} {cv:Int} (hn:In W 3 n) (c0:0≤cv) (he:val W n 3+W^3*cv=val W a 3+val W b 3) (h:val W a 3+val W b 3<W^3):val W n 3=val W a 3+val W b 3:=by
 have i:=qE W JG n 3 hn
 rw [W3] at *
 omega
theorem q1d {x y z p c q d:Int} (hx:0≤x∧x<W) (hy:0≤y∧y<W) (hz:0≤z∧z<512) (e0:p+W*c=x+z/4*5) (l0:0≤p∧p<W) (e1:q+W*d=y+c) (l1:0≤q∧q<W) (d0:0≤d∧d≤1) :
 sF (tri p q (z%4+d))∧val W (tri p q (z%4+d)) 3%Q=(x+18446744073709551616*y+340282366920938463463374607431768211456*z)%Q:=by
 simp only [W] at e0 e1
 refine ⟨⟨dG l0 l1 Vf,?_⟩,?_⟩
 · rw [lH]; simp only [W,FB] at *; omega
 rw [lH]; simp only [W,Q] at *; omega
def qW:Nat→Int:=tri 18446744073709551611 18446744073709551615 3
theorem x0j:In W 3 qW:=dG JG JG JG
theorem x1j:val W qW 3=Q:=by decide
theorem j6l {n l m:Nat→Int} {cv:Int} (hn:In W 3 n) (hl:In W 3 l) (hc:cv=0∨cv=1) (he:val W l 3+val W qW 3=val W n 3+W^3*cv) (hm:∀ j,j<3→m j=if cv=1 then n j else l j) (hf:val W n 3≤FB) :
 In W 3 m∧val W m 3=val W n 3%Q:=by
 have i1:=qE W JG n 3 hn; have i2:=qE W JG l 3 hl
 rw [x1j,W3] at he
 rw [W3] at i1 i2
 rcases hc with rfl | rfl
 · have e:=qZ W (f:=m) (g:=l) 3 fun j hj=>by rw [hm j hj]; rfl
   refine ⟨fun j hj=>by rw [hm j hj]; exact hl j hj,?_⟩; rw [e]; clear hm e; simp only [Q,FB] at *; omega
 have e:=qZ W (f:=m) (g:=n) 3 fun j hj=>by rw [hm j hj]; rfl
 refine ⟨fun j hj=>by rw [hm j hj]; exact hn j hj,?_⟩
 rw [e]; clear hm e; simp only [Q,FB] at *; omega
theorem j6j {d:Nat→Int} (hd:In W 6 d) (hv:val W d 6≤FB*FB) :
 (d 5=0∧0≤d 4∧d 4<64) ∧
 val W (tri (d 0) (d 1) (d 2%4)) 3<1361129467683753853853498429727072845824∧val W (tri (d 2-d 2%4) (d 3) (d 4)) 3<43556142965880123323311949751266331066368 ∧
 val W (tri (d 2/4+d 3%4*4611686018427387904) (d 3/4+d 4%4*4611686018427387904) (d 4/4)) 3<10889035741470030830827987437816582766592 ∧
 (val W (tri (d 0) (d 1) (d 2%4)) 3+val W (tri (d 2-d 2%4) (d 3) (d 4)) 3+val W (tri (d 2/4+d 3%4*4611686018427387904) (d 3/4+d 4%4*4611686018427387904) (d 4/4)) 3)%Q=val W d 6%Q:=by
 have h0:=hd 0 JK; have h1:=hd 1 JK; have h2:=hd 2 JK; have h3:=hd 3 JK; have h4:=hd 4 JK; have h5:=hd 5 JK
 rw [v6] at hv
 simp only [lH]
 rw [v6]
 generalize d 0=x0 at *; generalize d 1=x1 at *; generalize d 2=x2 at *; generalize d 3=x3 at *; generalize d 4=x4 at *; generalize d 5=x5 at *
 simp only [W,FB,Int.reduceMul] at *
 have a5:x5=0:=by omega
 subst a5
 have a4:x4<64:=by omega
 refine ⟨⟨rfl,by omega,a4⟩,by omega,by omega,by omega,?_⟩
 clear hv; simp only [Q]
 omega
theorem x2r {x y:Int} (x1:x≤FB) (y0:0≤y) (y1:y≤FB):x*y≤FB*FB:=Int.mul_le_mul x1 y1 y0 JG
theorem x6e (x:Int) (h0:0≤x) (h1:x<W):bits BinOp.and IntKind.u64 x 3=x%4:=by
 simp only [W] at h1
 obtain ⟨x,rfl⟩:=xiN h0
 have e:x &&& 3=x%4:=Nat.and_two_pow_sub_one_eq_mod x 2
 rw [show (3:Int)=((3:Nat):Int) from rfl,u64_and_nat x 3 JK JK,e]
 omega
theorem xD (f:Nat→Int):(Tryz.prog.info? 187).map (·.size)=some (row .u64 3 f).length:=by rw [jX]; kernel_rfl
theorem yP (f:Nat→Int):(Tryz.prog.info? 187).map (·.size)=some (row .u64 3 f).toArray.size:=by rw [xA]; exact xD f
theorem uN {w:World} {b:Nat} {f g:Nat→Int} (h:Has w b .u64 3 f):w.there b 0 (row .u64 3 g).toArray.size:=by rw [xA,jX]; exact h.there
theorem zP (w:World) (t:TypeId) (b:Nat) (hb:b=w.heap.size):Has (w.alloc (.cells #[.int .u64 0,.int .u64 0,.int .u64 0] t)) b .u64 3 (fun _=>0):=Has.new w .u64 3 (fun _=>0) t b hb
structure PInv (a b:Nat→Int) (w:World) (k:Nat) (n:Nat→Int) (cv:Int) (w':World):Prop where
 c0:0≤cv
 c1:cv≤1
 inn:In W 3 n
 rest:∀ j,k≤j→n j=a j
 eq:val W n k+W^k*cv=val W a k+val W b k
 hn:Has w' w.heap.size .u64 3 n
 hb:Has w' (w.heap.size+1) .u64 3 b
 hr:Has w' (w.heap.size+1+1) .u64 3 (fun _=>0)
 below:Below w.heap.size w w'
theorem PInv.step {a b:Nat→Int} {w:World} {k:Nat} {n:Nat→Int} {cv:Int} {w':World} (h:PInv a b w k n cv w') (hbi:In W 3 b) (hk:k<3) :
 PInv a b w (k+1) (upd n k (aLo (n k) (b k) cv)) (aHi (n k) (b k) cv) ((w'.setCell ⟨w.heap.size,k,none⟩ (.int .u64 (aLo (n k) (b k) cv))).drew):=by
 have i1:=h.inn k hk; have i2:=hbi k hk; have q0:=h.c0; have q1:=h.c1
 simp only [W] at i1 i2
 have l0:0≤aLo (n k) (b k) cv:=by unfold aLo; omega
 have l1:aLo (n k) (b k) cv<W:=by simp only [W]; unfold aLo; omega
 have es:aLo (n k) (b k) cv+W*aHi (n k) (b k) cv=n k+b k+cv:=by simp only [W]; unfold aLo aHi; omega
 refine ⟨by unfold aHi; omega,by unfold aHi; omega,h.inn.upd k _ l0 l1,fun j hj=>?_,?_,(h.hn.set k hk _).drew,(h.hb.set_other _ _ Jf).drew,(h.hr.set_other _ _ Ji).drew,(h.below.setCell Jf _).drew⟩
 · exact Qi
 simp only [val]
 rw [zK _ _ _ _ _ (xnR k),jP,Int.pow_succ,Int.mul_assoc]
 have e1:W^k*aLo (n k) (b k) cv+W^k*(W*aHi (n k) (b k) cv)=W^k*n k+W^k*b k+W^k*cv:=by
  rw [← Int.mul_add,es,Int.mul_add,Int.mul_add]
 exact JZ
theorem pJ (a b:Nat→Int) (ha:In W 3 a) (hb:In W 3 b) (hs:val W a 3+val W b 3<W^3) (w:World) :
 Calls Tryz.prog 169 #[(.agg (row .u64 3 (a)).toArray),(.agg (row .u64 3 (b)).toArray)] w fun e w'=>∃ n:Nat→Int,e=.returned (.agg (row .u64 3 (n)).toArray)∧(In W 3 n∧val W n 3=val W a 3+val W b 3)∧Below w.heap.size w w':=by
 go_enter Tryz.func169,Tryz.ntmps169
 go_wp2
 go_loopw [5,7] (fun c i w'=>∃ (k:Nat) (n:Nat→Int) (cv:Int),k≤3∧i=.int .i64 k∧c=.int .u64 cv∧PInv a b w k n cv w') (fun _ i _=>3-(intOf i).toNat)
 case atStart =>
  exact ⟨0,a,0,by omega,rfl,rfl,⟨by omega,by omega,ha,fun _ _=>rfl,by simp [val],((Has.new w _ _ _ _ _ rfl).alloc _ Jf).alloc _ Ji,(Has.new _ _ _ _ _ _ Jf).alloc _ Jf,Has.new _ .u64 3 (fun _=>0) _ _ Jf,(((Below.refl _ _).alloc (xnR _) _).alloc Jf _).alloc Ji _⟩⟩
 case round =>
  obtain ⟨k,n,cv,hk,rfl,rfl,hI⟩:=hrel; by_cases hlt:k<3
  · have hS:=hI.step hb hlt; have c1:=hI.hn.cell k hlt; have c2:=hI.hb.cell k hlt; have f1:=hI.hn.free k hlt; have b1:=(hI.inn k hlt).1; have b2:=(hb k hlt).1; have hadd:=j0g (n k) (b k) cv b1 b2 hI.c0 hI.c1; have g1:(0:Int)≤(k:Int):=by omega
    have g2:(k:Int)<3:=by omega
    exact Xm
  obtain rfl:k=3:=by omega
  have hM:=q0p hI.inn hI.c0 hI.eq hs; have hn:=hI.hn; have hr:=hI.hr; have HM:=show Hid _ from And.intro hI.inn hM; have hB:=jS hI.below (w.heap.size+1+1) JK 0 (row .u64 3 n); clear hM hI hs hlt hk
  go_wp2_with (first | (refine yl (hn) Tryz.underlying187 (xD _) ?_) | (refine ys .u64 3 (n) (uN (hr)) (yP _) ?_)); exact bRq (v:=(.agg (row .u64 3 (n)).toArray)) (jQ Tryz.results169 rfl (Has.all hr.there .u64 n).range Tryz.underlying187 rfl (xD n)) rfl ⟨n,rfl,HM.out,hB⟩
def sQ:Nat→Int:=fun j=>if j=3∨j=7∨j=11∨j=15 then 15 else if j=4∨j=8∨j=12 then 252 else 255
structure Glob (w:World):Prop where
 modulus:∀ j,j<3→w.cell? ⟨9,j,none⟩=some (.int .u64 (qW j))
 kept:∀ j,j<16→w.cell? ⟨8,j,none⟩=some (.int .u8 (sQ j))
 size:10≤w.heap.size
theorem Glob.below {w w':World} (h:Glob w) {B:Nat} (l:Below B w w') (hB:10≤B):Glob w' :=
 ⟨fun j hj=>by rw [l.cell (p:=⟨9,j,none⟩) (xnL (show 9<10 by decide) hB)]; exact h.modulus j hj,fun j hj=>by rw [l.cell (p:=⟨8,j,none⟩) (xnL (show 8<10 by decide) hB)]; exact h.kept j hj,by have:=h.size; have:=l.size; omega⟩
theorem Glob.fr {w w':World} {k:Nat} (h:Glob w) (g:Fr w k w'):Glob w':=h.below g.below h.size
structure LInv (n:Nat→Int) (w:World) (k:Nat) (l:Nat→Int) (cv:Int) (w':World):Prop where
 c0:0≤cv
 c1:cv≤1
 inn:In W 3 l
 eq:val W l k+val W qW k=val W n k+W^k*cv
 hn:Has w' w.heap.size .u64 3 n
 hr:Has w' (w.heap.size+1) .u64 3 (fun _=>0)
 hl:Has w' (w.heap.size+1+1) .u64 3 l
 fr:Fr w 3 w'
theorem LInv.step {n:Nat→Int} {w:World} {k:Nat} {l:Nat→Int} {cv:Int} {w':World} (h:LInv n w k l cv w') (hn:In W 3 n) (hk:k<3) :
 LInv n w (k+1) (upd l k (sLo (n k) (qW k) cv)) (sHi (n k) (qW k) cv) ((w'.setCell ⟨w.heap.size+1+1,k,none⟩ (.int .u64 (sLo (n k) (qW k) cv))).drew):=by
 have i1:=hn k hk; have i2:=x0j k hk; have q0:=h.c0; have q1:=h.c1
 simp only [W] at i1 i2
 have l0:0≤sLo (n k) (qW k) cv:=by unfold sLo; omega
 have l1:sLo (n k) (qW k) cv<W:=by simp only [W]; unfold sLo; omega
 have es:sLo (n k) (qW k) cv+(qW k+cv)=n k+W*sHi (n k) (qW k) cv:=by simp only [W]; unfold sLo sHi; split <;> omega
 refine ⟨by unfold sHi; split <;> omega,by unfold sHi; split <;> omega,h.inn.upd k _ l0 l1,?_,(h.hn.set_other _ _ Ji).drew,(h.hr.set_other _ _ Jf).drew,(h.hl.set k hk _).drew,(h.fr.set _ _ Ji).drew⟩
 simp only [val]
 rw [zK _ _ _ _ _ (xnR k),jP,Int.pow_succ,Int.mul_assoc]
 have e1:W^k*sLo (n k) (qW k) cv+(W^k*qW k+W^k*cv)=W^k*n k+W^k*(W*sHi (n k) (qW k) cv):=by
  rw [← Int.mul_add,← Int.mul_add,es,Int.mul_add]
 have e2:=h.eq
 omega
structure KInv (n l:Nat→Int) (cv:Int) (w:World) (k:Nat) (m:Nat→Int) (w':World):Prop where
 done:∀ j,j<k→m j=if cv=1 then n j else l j
 rest:∀ j,k≤j→m j=n j
 hn:Has w' w.heap.size .u64 3 m
 hr:Has w' (w.heap.size+1) .u64 3 (fun _=>0)
 hl:Has w' (w.heap.size+1+1) .u64 3 l
 fr:Fr w 3 w'
theorem KInv.step {n l:Nat→Int} {cv:Int} {w:World} {k:Nat} {m:Nat→Int} {w':World} (h:KInv n l cv w k m w') (hk:k<3) (r:Int) (hr:(if cv=1 then m k else l k)=r) :
 KInv n l cv w (k+1) (upd m k r) ((w'.setCell ⟨w.heap.size,k,none⟩ (.int .u64 r)).drew):=by
 rw [h.rest k (xnR k)] at hr
 refine ⟨fun j hj=>?_,fun j hj=>?_,(h.hn.set k hk _).drew,(h.hr.set_other _ _ Jf).drew,(h.hl.set_other _ _ Ji).drew,(h.fr.set _ _ Jf).drew⟩
 · by_cases e:j=k
   · subst e; rw [jP]; exact hr.symm
   exact Qm
 exact Qi
theorem KInv.inn {n l:Nat→Int} {cv:Int} {w:World} {k:Nat} {m:Nat→Int} {w':World} (h:KInv n l cv w k m w') (hn:In W 3 n) (hl:In W 3 l):In W 3 m:=fun j hj=>by
 by_cases e:j<k
 · rw [h.done j e]; split
   · exact hn j hj
   · exact hl j hj
 · rw [h.rest j JK]; exact hn j hj
theorem eF (n:Nat→Int) (hn:In W 3 n) (hf:val W n 3≤FB) (w:World) (hg:Glob w) :
 Calls Tryz.prog 171 #[(.agg (row .u64 3 (n)).toArray)] w fun e w'=>∃ m:Nat→Int,e=.returned (.agg (row .u64 3 (m)).toArray)∧(In W 3 m∧val W m 3=val W n 3%Q)∧Below w.heap.size w w':=by
 go_enter Tryz.func171,Tryz.ntmps171
 go_wp2
 go_loopw [4,7] (fun c i w'=>∃ (k:Nat) (l:Nat→Int) (cv:Int),k≤3∧i=.int .i64 k∧c=.int .u64 cv∧LInv n w k l cv w') (fun _ i _=>3-(intOf i).toNat)
 case atStart =>
  exact ⟨0,fun _=>0,0,by omega,rfl,rfl,⟨by omega,by omega,fun _ _=>⟨Int.le_refl 0,by decide⟩,by simp [val],((Has.new w _ _ _ _ _ rfl).alloc _ Jf).alloc _ Ji,(zP _ _ _ Jf).alloc _ Jf,zP _ _ _ Jf,(((Fr.refl w).alloc _).alloc _).alloc _⟩⟩
 case round =>
  obtain ⟨k,l,cv,hk,rfl,rfl,hI⟩:=hrel; by_cases hlt:k<3
  · have hS:=hI.step hn hlt; have c1:=hI.hn.cell k hlt; have c2:=(hg.fr hI.fr).modulus k hlt; have c3:=hI.hl.cell k hlt; have f1:=hI.hl.free k hlt; have b1:=(hn k hlt).1; have b2:=x0j k hlt; have hadd:=q2n (n k) (qW k) cv b1 b2.1 b2.2 hI.c0 hI.c1; have g1:(0:Int)≤(k:Int):=by omega
    have g2:(k:Int)<3:=by omega
    clear hI b2; generalize sLo (n k) (qW k) cv=lo at *; generalize sHi (n k) (qW k) cv=hi at *; generalize n k=x at *; generalize qW k=y at *; generalize l k=z at *; exact Qn
  obtain rfl:k=3:=by omega
  have cc:cv=0∨cv=1:=by have:=hI.c0; have:=hI.c1; omega
  go_wp2; go_loopw [24] (fun i w'=>∃ (k:Nat) (m:Nat→Int),k≤3∧i=.int .i64 k∧KInv n l cv w k m w') (fun i _=>3-(intOf i).toNat)
  case atStart=>exact ⟨0,n,by omega,rfl,⟨fun j hj=>by omega,fun _ _=>rfl,hI.hn,hI.hr,hI.hl,hI.fr⟩⟩
  case round =>
   obtain ⟨k,m,hk2,rfl,hK⟩:=hrel; by_cases hlt2:k<3
   · have hm:=hK.inn hn hI.inn k hlt2; have hl:=hI.inn k hlt2; obtain ⟨r,hr⟩:∃ r,(if cv=1 then m k else l k)=r:=⟨_,rfl⟩
     have HR:=show Hid _ from hK.step hlt2 r hr; have HP:=show Hid _ from fun W'=>wU cv (l k) (m k) hl.1 hl.2 hm.1 hm.2 cc r hr W'; have c1:=hK.hn.cell k hlt2; have c3:=hK.hl.cell k hlt2; have f1:=hK.hn.free k hlt2
     have g1:(0:Int)≤(k:Int):=by omega
     have g2:(k:Int)<3:=by omega
     clear hI hlt hk cc hm hl hK hr; generalize m k=x at *; generalize l k=z at *; go_wp2; go_region_with (go_at_call 146; refine (HP.out _).mono ?_; rintro e w' ⟨rfl,rfl⟩)
     all_goals
      exact Zp
   obtain rfl:k=3:=by omega
   have HM:=show Hid _ from j6l hn hI.inn cc hI.eq hK.done hf
   have hn':=hK.hn; have hr':=hK.hr; have hB:=(hK.fr.setAll (w.heap.size+1) JK (row .u64 3 m)).below; clear hK hI hf hn hlt2 hlt hk2 hk cc; go_wp2_with (first | (refine yl (hn') Tryz.underlying187 (xD _) ?_) | (refine ys .u64 3 (m) (uN (hr')) (yP _) ?_)); exact bRq (v:=(.agg (row .u64 3 (m)).toArray)) (jQ Tryz.results171 rfl (Has.all hr'.there .u64 m).range Tryz.underlying187 rfl (xD m)) rfl ⟨m,rfl,HM.out,hB⟩
theorem x6k (z:Int) (h:0≤z∧z<512):IntKind.u64.wrap (z/4*5)=z/4*5:=by rw [IntKind.wrap_u64]; omega
theorem x6j (z d:Int) (h0:0≤d∧d≤1):IntKind.u64.wrap (z%4+d)=z%4+d:=by rw [IntKind.wrap_u64]; omega
theorem dC (n:Nat→Int) (hn:In W 3 n) (hs:n 2<512) (w:World) :
 Calls Tryz.prog 168 #[(.agg (row .u64 3 (n)).toArray)] w fun e w'=>∃ m:Nat→Int,e=.returned (.agg (row .u64 3 (m)).toArray)∧(sF m∧val W m 3%Q=val W n 3%Q)∧Below w.heap.size w w':=by
 have h0:=hn 0 JK; have h1:=hn 1 JK
 have h2:0≤n 2∧n 2<512:=⟨(hn 2 JK).1,hs⟩
 have e0:aLo (n 0) (n 2/4*5) 0+W*aHi (n 0) (n 2/4*5) 0=n 0+n 2/4*5:=by simp only [W]; unfold aLo aHi; omega
 have l0:0≤aLo (n 0) (n 2/4*5) 0∧aLo (n 0) (n 2/4*5) 0<W:=by simp only [W]; unfold aLo; omega
 have k0:0≤aHi (n 0) (n 2/4*5) 0∧aHi (n 0) (n 2/4*5) 0≤1:=by simp only [W] at h0; unfold aHi; omega
 have hadd1:=j0g (n 0) (n 2/4*5) 0 h0.1 JK (Int.le_refl 0) JG; generalize aHi (n 0) (n 2/4*5) 0=c at *; generalize aLo (n 0) (n 2/4*5) 0=p at *
 have e1:aLo (n 1) 0 c+W*aHi (n 1) 0 c=n 1+c:=by simp only [W]; unfold aLo aHi; omega
 have l1:0≤aLo (n 1) 0 c∧aLo (n 1) 0 c<W:=by simp only [W]; unfold aLo; omega
 have k1:0≤aHi (n 1) 0 c∧aHi (n 1) 0 c≤1:=by simp only [W] at h1; unfold aHi; omega
 have hadd2:=j0g (n 1) 0 c h1.1 (Int.le_refl 0) k0.1 k0.2; generalize aHi (n 1) 0 c=d at *; generalize aLo (n 1) 0 c=q at *; have hM:=q1d h0 h1 h2 e0 l0 e1 l1 k1
 rw [← v3] at hM
 have s2:=x6k (n 2) h2; have s3:=x6e (n 2) h2.1 (by have:=h2.2; simp only [W]; omega); have s4:=x6j (n 2) d k1; have HM:=show Hid _ from hM
 have a0:Has ((w.alloc (.cells (row .u64 3 n).toArray 187)).alloc (.cells #[.int .u64 0,.int .u64 0,.int .u64 0] 187)) w.heap.size .u64 3 n:=(Has.new w _ _ _ _ _ rfl).alloc _ Jf
 have z0:Has ((w.alloc (.cells (row .u64 3 n).toArray 187)).alloc (.cells #[.int .u64 0,.int .u64 0,.int .u64 0] 187)) (w.heap.size+1) .u64 3 (fun _=>0):=zP _ _ _ Jf
 have g0:Fr w 2 ((w.alloc (.cells (row .u64 3 n).toArray 187)).alloc (.cells #[.int .u64 0,.int .u64 0,.int .u64 0] 187)):=((Fr.refl w).alloc _).alloc _
 have a1:=((a0.set 0 JK p).set 1 JK q).set 2 JK (n 2%4+d)
 have a2:=a1.congr (g:=tri p q (n 2%4+d)) (fun j hj=>by
  have:j=0∨j=1∨j=2:=by omega
  rcases this with rfl | rfl | rfl <;> rfl)
 have z1:=((z0.set_other ⟨w.heap.size,0,none⟩ (.int .u64 p) Jf).set_other ⟨w.heap.size,1,none⟩ (.int .u64 q) Jf).set_other ⟨w.heap.size,2,none⟩ (.int .u64 (n 2%4+d)) Jf; have g1:=((g0.set ⟨w.heap.size,0,none⟩ (.int .u64 p) Jf).set ⟨w.heap.size,1,none⟩ (.int .u64 q) Jf).set ⟨w.heap.size,2,none⟩ (.int .u64 (n 2%4+d)) Jf
 have hB:=(g1.setAll (w.heap.size+1) JK (row .u64 3 (tri p q (n 2%4+d)))).below; have c0:=a0.cell 0 JK; have c1:=a0.cell 1 JK; have c2:=a0.cell 2 JK; have f0:=a0.free 0 JK; have f1:=a0.free 1 JK; have f2:=a0.free 2 JK; clear hM a0 z0 g0 g1 a1 e0 l0 k0 e1 l1 k1 h0 h1 h2 hs hn; generalize n 0=x at *
 generalize n 1=y at *; generalize n 2=z at *
 go_enter Tryz.func168,Tryz.ntmps168
 go_upto_region 1 with fail; generalize ((w.alloc (.cells (row .u64 3 n).toArray 187)).alloc (.cells #[.int .u64 0,.int .u64 0,.int .u64 0] 187))=w1 at *
 go_wp2_with (first | (refine yl (a2) Tryz.underlying187 (xD _) ?_) | (refine ys .u64 3 (tri p q (z%4+d)) (uN (z1)) (yP _) ?_))
 exact bRq (v:=(.agg (row .u64 3 (tri p q (z%4+d))).toArray)) (jQ Tryz.results168 rfl (Has.all z1.there .u64 _).range Tryz.underlying187 rfl (xD _)) rfl ⟨_,rfl,HM.out,hB⟩
section
section
variable {P:Program} {ops:Array Oper} {Q:Exit→Act→World→Prop} {md:Region.Mode} {S:World→Prop}
theorem q0h {i:Nat} {oi:Oper} (dst:Option Tmp) (hdst:oi.dst=dst) {fuel:Nat} {listed:Array Bool} {a:Act} {w:World} (k:IntKind) (n:Nat) (f:Nat→Int) (b:Nat) (ty:TypeId) (x:Operand) (d:TypeDesc) (hi:ops[i]?=some oi)
 (ho:oi.op=.load ty x) (hx:a.eval x=.pointer (some ⟨b,0,none⟩)) (hw:Region.wanted oi (yielded ops a.tmps)=true)
 (hs:Region.noSelect ops=true) (hf:Region.free md ops listed i=true) (hr:(Region.ready md ops listed).contains i=true)
 (hQ:∀ c a w,Q (.panic c) (a.put dst (.agg (row k n f).toArray)) w→Q (.panic c) a w)
 (hu:P.underlying ty=some d) (hd:d.isRow=true) (hz:(P.info? ty).map (·.size)=some (row k n f).length)
 (hS:S w) (hh:∀ w,S w→Has w b k n f)
 (h:wpAnyH P md ops Q S fuel (listed.setIfInBounds i true) (a.put dst (.agg (row k n f).toArray)) w):wpAnyH P md ops Q S (fuel+1) listed a w :=
 by
 subst hdst
 exact wpAnyH_take hi hs hf hr hQ (yieldsIf_load_mid hw ty x ho b 0 hx (row k n f) d (fun w' hw'=>(hh w' hw').range) hu hd hz) hS h
theorem q3l {i:Nat} {oi:Oper} (dst:Option Tmp) (hdst:oi.dst=dst) {fuel:Nat} {listed:Array Bool} {a:Act} {w:World} (v:Value) (hi:ops[i]?=some oi) (hw:Region.wanted oi (yielded ops a.tmps)=true)
 (hv:∀ w,(execOp a.eval oi).run P w=.ok (.value v) w)
 (hs:Region.noSelect ops=true) (hf:Region.free md ops listed i=true) (hr:(Region.ready md ops listed).contains i=true)
 (hQ:∀ c a w,Q (.panic c) (a.put dst v) w→Q (.panic c) a w)
 (hS:S w)
 (h:wpAnyH P md ops Q S fuel (listed.setIfInBounds i true) (a.put dst v) w):wpAnyH P md ops Q S (fuel+1) listed a w :=
 by
 subst hdst
 exact wpAnyH_take hi hs hf hr hQ (Or.inl ⟨hw,fun w _=>hv w⟩) hS h
section
variable {P:Program} {ops:Array Oper} {Q:Exit→Act→World→Prop} {md:Region.Mode} {S:World→Prop}
theorem xpH {oi:Oper} {n:Nat} {l:Array Bool} {a a':Act} {w:World} (i:Nat) (d:Tmp) (v:Value) (hS:S w) (h:wpAnyH P md ops Q S n (l.setIfInBounds i true) a' w)
 (hi:ops[i]?=some oi:=by rfl) (hdst:oi.dst=some d:=by rfl) (hw:Region.wanted oi (yielded ops a.tmps)=true:=by rfl) (hv:∀ w,(execOp a.eval oi).run P w=.ok (.value v) w:=by intro _; kernel_rfl) (hg:(Region.noSelect ops&&(Region.free md ops l i&&(Region.ready md ops l).contains i))=true:=by kernel_rfl) (hQ:∀ c a w,Q (.panic c) (a.put (some d) v) w→Q (.panic c) a w:=by exact fun _ _ _ h=>h) (he:a.put (some d) v=a':=by simp only [aP,lI,l0,lS] <;> rfl):wpAnyH P md ops Q S (n+1) l a w:=by
 subst he
 rw [xbA,xbA] at hg
 exact q3l (some d) hdst v hi hw hv hg.1 hg.2.1 hg.2.2 hQ hS h
theorem xqH {oi:Oper} {n:Nat} {l:Array Bool} {a a':Act} {w:World} (i:Nat) (d:Tmp) (hi:ops[i]?=some oi) (v:Value) (hv:∀ w,(execOp a.eval oi).run P w=.ok (.value v) w) (hS:S w) (h:wpAnyH P md ops Q S n (l.setIfInBounds i true) a' w)
 (hdst:oi.dst=some d:=by rfl) (hw:Region.wanted oi (yielded ops a.tmps)=true:=by rfl) (hg:(Region.noSelect ops&&(Region.free md ops l i&&(Region.ready md ops l).contains i))=true:=by kernel_rfl) (hQ:∀ c a w,Q (.panic c) (a.put (some d) v) w→Q (.panic c) a w:=by exact fun _ _ _ h=>h) (he:a.put (some d) v=a':=by simp only [aP,lI,l0,lS] <;> rfl):wpAnyH P md ops Q S (n+1) l a w:=by
 subst he
 rw [xbA,xbA] at hg
 exact q3l (some d) hdst v hi hw hv hg.1 hg.2.1 hg.2.2 hQ hS h
end
section
variable {P:Program} {ops:Array Oper} {Q:Exit→Act→World→Prop} {md:Region.Mode} {S:World→Prop}
theorem xmH {oi:Oper} {n:Nat} {l:Array Bool} {a a':Act} {w:World} {v:Value} (i:Nat) (d:Tmp) (hS:S w) (h:wpAnyH P md ops Q S n (l.setIfInBounds i true) a' w) (hi:ops[i]?=some oi:=by rfl) (hdst:oi.dst=some d:=by rfl) (hw:Region.wanted oi (yielded ops a.tmps)=true:=by rfl) (hv:mvv a oi.op=some v:=by rfl) (hg:(Region.noSelect ops && (Region.free md ops l i && (Region.ready md ops l).contains i))=true:=by kernel_rfl) (hQ:∀ c a w,Q (.panic c) (a.put (some d) v) w→Q (.panic c) a w:=by exact fun _ _ _ h=>h) (he:a.put (some d) v=a':=by simp only [aP,lI,l0,lS] <;> rfl) : wpAnyH P md ops Q S (n+1) l a w:=by
 subst he
 rw [Bool.and_eq_true,Bool.and_eq_true] at hg
 exact q3l (some d) hdst v hi hw (fun w=>j6h hv w) hg.1 hg.2.1 hg.2.2 hQ hS h
end
theorem j9g {i:Nat} {oi:Oper} (dst:Option Tmp) (hdst:oi.dst=dst) {f:FuncId} {args:Array Value} {R:Ending→World→Prop} {fuel:Nat} {listed:Array Bool} {a:Act} {w:World} (hr:Region.ready md ops listed=[i]) (hi:ops[i]?=some oi)
 (hw:Region.wanted oi (yielded ops a.tmps)=true) (he:∀ w,(execOp a.eval oi).run P w=.ok (.enter f args) w) (hc:Calls P f args w R)
 (hK:∀ e w',R e w'→∃ v,e=.returned v∧S w'∧wpAnyH P md ops Q S fuel (listed.setIfInBounds i true) (a.put dst v) w'):wpAnyH P md ops Q S (fuel+1) listed a w :=
 ⟨fun h0=>Vh,fun j hj=>by
  rw [hr] at hj
  obtain rfl:=xm1 hj
  unfold wpOp
  simp only [hi,hw,if_true]; refine .inl ?_
  unfold Oper.wp
  rw [he w]
  exact hc.mono fun e w' hR=>by
   obtain ⟨v,rfl,h⟩:=hK e w' hR
   subst hdst
   exact h⟩
theorem wC {i:Nat} {oi:Oper} (dst:Option Tmp) (hdst:oi.dst=dst) {fuel:Nat} {listed:Array Bool} {a:Act} {w w':World} (hr:Region.ready md ops listed=[i]) (hi:ops[i]?=some oi)
 (hw:Region.wanted oi (yielded ops a.tmps)=true) (he:(execOp a.eval oi).run P w=.ok .skip w') (hS:S w')
 (h:wpAnyH P md ops Q S fuel (listed.setIfInBounds i true) (a.put dst undef) w'):wpAnyH P md ops Q S (fuel+1) listed a w :=
 ⟨fun h0=>Vh,fun j hj=>by
  rw [hr] at hj
  obtain rfl:=xm1 hj
  unfold wpOp
  simp only [hi,hw,if_true]; refine .inl ?_
  unfold Oper.wp
  rw [he]
  subst hdst
  exact ⟨hS,h⟩⟩
theorem xX {i:Nat} {oi:Oper} (dst:Option Tmp) (hdst:oi.dst=dst) {fuel:Nat} {listed:Array Bool} {a:Act} {w:World} (k:IntKind) (n:Nat) (f:Nat→Int) (b:Nat) (ty:TypeId) (x y:Operand) (hr:Region.ready md ops listed=[i]) (hi:ops[i]?=some oi)
 (hw:Region.wanted oi (yielded ops a.tmps)=true) (ho:oi.op=.store ty x y) (hx:a.eval x=.pointer (some ⟨b,0,none⟩)) (hy:a.eval y=.agg (row k n f).toArray)
 (ht:w.there b 0 (row k n f).toArray.size) (hz:(P.info? ty).map (·.size)=some (row k n f).toArray.size) (hS:S (w.setCells b 0 (row k n f)))
 (h:wpAnyH P md ops Q S fuel (listed.setIfInBounds i true) (a.put dst undef) (w.setCells b 0 (row k n f))):wpAnyH P md ops Q S (fuel+1) listed a w :=
 wC dst hdst hr hi hw (by
  unfold execOp
  simp only [ho,hx,hy]; have e:=run_storeAt_mid (P:=P) w b 0 ty (row k n f).toArray ht hz (all_oneCell_toArray (jT k n f))
  simp only [Sem.run_bind,e,Result.andThen_ok,Sem.run_pure]) hS h
/-! The same at a list of operations,whose order is the text's. -/
theorem j8f {o:Oper} {rest:List Oper} {a:Act} {w:World} (v:Value) (hw:Region.wanted o (yielded ops a.tmps)=true) (hv:∀ w,(execOp a.eval o).run P w=.ok (.value v) w)
 (h:wpList P ops Q rest (a.put o.dst v) w):wpList P ops Q (o::rest) a w:=by
 unfold wpList
 rw [if_pos hw]
 refine .inl ?_
 unfold Oper.wp
 rw [hv w]
 exact h
theorem nD {o:Oper} {f:FuncId} {args:Array Value} {R:Ending→World→Prop} {rest:List Oper} {a:Act} {w:World} (hw:Region.wanted o (yielded ops a.tmps)=true)
 (he:∀ w,(execOp a.eval o).run P w=.ok (.enter f args) w) (hc:Calls P f args w R) (hK:∀ e w',R e w'→∃ v,e=.returned v∧wpList P ops Q rest (a.put o.dst v) w'):wpList P ops Q (o::rest) a w:=by
 unfold wpList
 rw [if_pos hw]
 refine .inl ?_
 unfold Oper.wp
 rw [he w]
 exact hc.mono fun e w' hR=>by
  obtain ⟨v,rfl,h⟩:=hK e w' hR; exact h
section
variable {P:Program} {ops:Array Oper} {Q:Exit→Act→World→Prop}
theorem xpL {o:Oper} {rest:List Oper} {a a':Act} {w:World} (v:Value) (h:wpList P ops Q rest a' w) (hw:Region.wanted o (yielded ops a.tmps)=true:=by rfl) (hv:∀ w,(execOp a.eval o).run P w=.ok (.value v) w:=by intro _; kernel_rfl) (he:a.put o.dst v=a':=by simp only [aP,lI,l0,lS] <;> rfl):wpList P ops Q (o::rest) a w:=by
 subst he
 exact j8f v hw hv h
theorem xqL {o:Oper} {rest:List Oper} {a a':Act} {w:World} (v:Value) (hv:∀ w,(execOp a.eval o).run P w=.ok (.value v) w) (h:wpList P ops Q rest a' w) (hw:Region.wanted o (yielded ops a.tmps)=true:=by rfl) (he:a.put o.dst v=a':=by simp only [aP,lI,l0,lS] <;> rfl):wpList P ops Q (o::rest) a w:=by
 subst he
 exact j8f v hw hv h
theorem xaL {o:Oper} {rest:List Oper} {a a':Act} {w w':World} (v:Value) (hv:(execOp a.eval o).run P w=.ok (.value v) w') (h:wpList P ops Q rest a' w') (hw:Region.wanted o (yielded ops a.tmps)=true:=by rfl) (he:a.put o.dst v=a':=by simp only [aP,lI,l0,lS] <;> rfl):wpList P ops Q (o::rest) a w:=by
 subst he
 unfold wpList
 rw [if_pos hw]
 refine .inl ?_
 unfold Oper.wp
 rw [hv]
 exact h
theorem xcL {o:Oper} {f:FuncId} {args:Array Value} {R:Ending→World→Prop} {rest:List Oper} {a:Act} {w:World} (hc:Calls P f args w R) (hK:∀ e w',R e w'→∃ v,e=.returned v∧wpList P ops Q rest (a.put o.dst v) w') (hw:Region.wanted o (yielded ops a.tmps)=true:=by rfl) (he:∀ w,(execOp a.eval o).run P w=.ok (.enter f args) w:=by intro _; kernel_rfl):wpList P ops Q (o::rest) a w:=nD hw he hc hK
theorem xeL {o:Oper} {rest:List Oper} {a a':Act} {w:World} {v:Value} (h:wpList P ops Q rest a' w) (he:a.put o.dst v=a':=by simp only [aP,lI,l0,lS] <;> rfl):∃ v',Ending.returned v=.returned v'∧wpList P ops Q rest (a.put o.dst v') w:=by
 subst he
 exact ⟨v,rfl,h⟩
end
section
variable {P:Program} {ops:Array Oper} {Q:Exit→Act→World→Prop} {md:Region.Mode} {S:World→Prop} {n:Nat} {l:Array Bool} {a a':Act} {w:World} {oi:Oper} {ty:TypeId} {x y:Operand} {k:IntKind} {D:TypeDesc} {rest:List Oper}
theorem hdG {id:Nat} (K:S w) (h:S w.drew→wpAnyH P .any ops Q S ops.size (Array.replicate ops.size false) a w.drew) (hd:S w→S w.drew:=by exact fun h=>h.drew) (hm:P.follows Departure.mixedOrders=true:=by kernel_rfl) : Code.wp P (Code.region id ops true) Q a w:=wD hm (hd K) h
end
section
variable {P:Program} {ops:Array Oper} {Q:Exit→Act→World→Prop} {md:Region.Mode} {S:World→Prop} {n:Nat} {l:Array Bool} {a a':Act} {w:World} {oi:Oper} {ty:TypeId} {x y:Operand} {k:IntKind} {D:TypeDesc} {rest:List Oper}
theorem yaH {f:FuncId} {args:Array Value} {R:Ending→World→Prop} (i:Nat) (d:Tmp) (hc:Calls P f args w R) (hK:∀ e w',R e w'→∃ v,e=.returned v∧S w'∧wpAnyH P md ops Q S n (l.setIfInBounds i true) (a.put (some d) v) w') (hr:Region.ready md ops l=[i]:=by kernel_rfl) (hi:ops[i]?=some oi:=by rfl) (hdst:oi.dst=some d:=by rfl) (hw:Region.wanted oi (yielded ops a.tmps)=true:=by rfl) (he:∀ w,(execOp a.eval oi).run P w=.ok (.enter f args) w:=by intro _; kernel_rfl) : wpAnyH P md ops Q S (n+1) l a w:=j9g (some d) hdst hr hi hw he hc hK
end
section
variable {P:Program} {ops:Array Oper} {Q:Exit→Act→World→Prop} {rest:List Oper} {a a':Act} {w:World} {v:Value} {o:Oper}
theorem xmL (h:wpList P ops Q rest a' w) (hw:Region.wanted o (yielded ops a.tmps)=true:=by rfl) (hv:mvv a o.op=some v:=by rfl) (he:a.put o.dst v=a':=by simp only [aP,lI,l0,lS] <;> rfl) : wpList P ops Q (o::rest) a w:=by
 subst he
 exact j8f v hw (j6h hv) h
end
section
variable {P:Program} {ops:Array Oper} {Q:Exit→Act→World→Prop} {rest:List Oper} {a a1 a2 a3:Act} {w:World} {v1 v2 v3:Value} {o1 o2 o3:Oper} {S:World→Prop}
theorem xm2 (h:wpList P ops Q rest a2 w) (hw1:Region.wanted o1 (yielded ops a.tmps)=true:=by rfl) (hv1:mvv a o1.op=some v1:=by rfl) (he1:a.put o1.dst v1=a1:=by simp only [aP,lI,l0,lS] <;> rfl) (hw2:Region.wanted o2 (yielded ops a1.tmps)=true:=by rfl) (hv2:mvv a1 o2.op=some v2:=by rfl) (he2:a1.put o2.dst v2=a2:=by simp only [aP,lI,l0,lS] <;> rfl) : wpList P ops Q (o1::o2::rest) a w:=xmL (xmL h hw2 hv2 he2) hw1 hv1 he1
theorem xm3 (h:wpList P ops Q rest a3 w) (hw1:Region.wanted o1 (yielded ops a.tmps)=true:=by rfl) (hv1:mvv a o1.op=some v1:=by rfl) (he1:a.put o1.dst v1=a1:=by simp only [aP,lI,l0,lS] <;> rfl) (hw2:Region.wanted o2 (yielded ops a1.tmps)=true:=by rfl) (hv2:mvv a1 o2.op=some v2:=by rfl) (he2:a1.put o2.dst v2=a2:=by simp only [aP,lI,l0,lS] <;> rfl) (hw3:Region.wanted o3 (yielded ops a2.tmps)=true:=by rfl) (hv3:mvv a2 o3.op=some v3:=by rfl) (he3:a2.put o3.dst v3=a3:=by simp only [aP,lI,l0,lS] <;> rfl) : wpList P ops Q (o1::o2::o3::rest) a w:=xmL (xmL (xmL h hw3 hv3 he3) hw2 hv2 he2) hw1 hv1 he1
theorem clT {f:FuncId} {args:Array Value} (hc:Calls P f args w fun e w'=>e=.returned v1∧Below w.heap.size w w') (K:S w) (h:∀ w',S w'→wpList P ops Q rest a1 w') (hk:∀ w',Below w.heap.size w w'→S w→S w':=by exact fun _ b h=>h.call b) (hw:Region.wanted o1 (yielded ops a.tmps)=true:=by rfl) (he:∀ w,(execOp a.eval o1).run P w=.ok (.enter f args) w:=by intro _; kernel_rfl) (hp:a.put o1.dst v1=a1:=by simp only [aP,lI,l0,lS] <;> rfl) : wpList P ops Q (o1::rest) a w:=
 nD hw he hc fun _ w' ⟨e,k⟩=>⟨v1,e,hp ▸ h w' (hk w' k K)⟩
end
theorem qH {o:Oper} {rest:List Oper} {a:Act} {w:World} (c:Array Value) (t:TypeId) (hw:Region.wanted o (yielded ops a.tmps)=true)
 (hv:∀ w,(execOp a.eval o).run P w=.ok (.value (.pointer (some ⟨w.heap.size,0,none⟩))) (w.alloc (.cells c t)))
 (h:wpList P ops Q rest (a.put o.dst (.pointer (some ⟨w.heap.size,0,none⟩))) (w.alloc (.cells c t))):wpList P ops Q (o::rest) a w:=by
 unfold wpList
 rw [if_pos hw]
 refine .inl ?_
 unfold Oper.wp
 rw [hv w]
 exact h
theorem lK {o:Oper} {rest:List Oper} {a:Act} {w:World} (k:IntKind) (n:Nat) (f:Nat→Int) (b:Nat) (ty:TypeId) (x y:Operand) (hw:Region.wanted o (yielded ops a.tmps)=true)
 (ho:o.op=.store ty x y) (hx:a.eval x=.pointer (some ⟨b,0,none⟩)) (hy:a.eval y=.agg (row k n f).toArray)
 (ht:w.there b 0 (row k n f).toArray.size) (hz:(P.info? ty).map (·.size)=some (row k n f).toArray.size)
 (h:wpList P ops Q rest (a.put o.dst undef) (w.setCells b 0 (row k n f))):wpList P ops Q (o::rest) a w:=by
 unfold wpList
 rw [if_pos hw]
 exact .inl (wp_store_mid ty x y ho b 0 (row k n f).toArray hx hy ht hz (aO (jT k n f)) h)
end
section
variable {P:Program} {ops:Array Oper} {Q:Exit→Act→World→Prop} {md:Region.Mode} {S:World→Prop} {n:Nat} {l:Array Bool} {a a':Act} {w:World} {oi:Oper} {ty:TypeId} {x y:Operand} {k:IntKind} {D:TypeDesc} {rest:List Oper}
theorem ysL (k:IntKind) (m:Nat) (f:Nat→Int) (b:Nat) (ht:w.there b 0 (row k m f).toArray.size) (hz:(P.info? ty).map (·.size)=some (row k m f).toArray.size) (h:wpList P ops Q rest a' (w.setCells b 0 (row k m f))) (hw:Region.wanted oi (yielded ops a.tmps)=true:=by rfl) (ho:oi.op=.store ty x y:=by rfl) (hx:a.eval x=.pointer (some ⟨b,0,none⟩):=by rfl) (hy:a.eval y=.agg (row k m f).toArray:=by rfl) (he:a.put oi.dst undef=a':=by simp only [Act.put] <;> rfl) : wpList P ops Q (oi::rest) a w:=lK k m f b ty x y hw ho hx hy ht hz (he ▸ h)
end
/-! What stands through calls: blocks with rows of 32 bytes in them. -/
/-! Two rows of bytes,held against each other. -/
open Extern.Stop (cell)
def bytesOf (n:Nat) (f:Nat→Int):List UInt8:=(List.range n).map fun j=>UInt8.ofNat (f j).toNat
theorem wQ (n:Nat) (f:Nat→Int) (h:In 256 n f):row .u8 n f=(bytesOf n f).map cell:=by
 unfold row bytesOf
 rw [List.map_map]
 refine List.map_congr_left fun j hj=>?_
 have hj':=h j (List.mem_range.1 hj)
 simp only [Function.comp,cell]
 congr 1
 have:(f j).toNat<256:=by omega
 simp [UInt8.toNat_ofNat',Nat.mod_eq_of_lt this]
 omega
theorem nN (n:Nat) (f g:Nat→Int) (hf:In 256 n f) (hg:In 256 n g):(bytesOf n f == bytesOf n g)=decide (val 256 f n=val 256 g n):=by
 rw [Bool.eq_iff_iff]
 simp only [beq_iff_eq,decide_eq_true_eq]
 constructor
 · intro h; refine qZ 256 n fun j hj=>?_
   have e:(bytesOf n f)[j]?=(bytesOf n g)[j]?:=by rw [h]
   simp only [bytesOf,List.getElem?_map,List.getElem?_range hj,Option.map_some,Option.some.injEq] at e; have:=congrArg UInt8.toNat e; have h1:=hf j hj; have h2:=hg j hj; have e1:(f j).toNat<256:=by omega
   have e2:(g j).toNat<256:=by omega
   simp [UInt8.toNat_ofNat',Nat.mod_eq_of_lt e1,Nat.mod_eq_of_lt e2] at this; omega
 intro h
 have:=hH 256 JG f g n hf hg h
 unfold bytesOf
 refine List.map_congr_left fun j hj=>?_
 rw [this j (List.mem_range.1 hj)]
theorem q5l {P:Program} (w:World) (t e:TypeId) (n:Nat) (ht:P.underlying t=some (.array n e)) (he:P.underlying e=some (.int .u8)) (hsz:∀ w,(sizeOf e).run P w=.ok 1 w) (f g:Nat→Int) (hf:In 256 n f) (hg:In 256 n g) :
 (binOp .eql t (.agg (row .u8 n f).toArray) (.agg (row .u8 n g).toArray)).run P w=.ok (.bool (decide (val 256 f n=val 256 g n))) w:=by
 rw [wQ n f hf,wQ n g hg,run_eql_bytes w t e n ht he hsz _ _ (by simp [bytesOf]) (by simp [bytesOf]),nN n f g hf hg]
theorem x5m {P:Program} {o:Oper} {a:Act} (n:Nat) (f g:Nat→Int) (t e t':TypeId) (x y:Operand) (ho:o.op=.binOp .eql t x y t') (hx:a.eval x=.agg (row .u8 n f).toArray) (hy:a.eval y=.agg (row .u8 n g).toArray)
 (ht:P.underlying t=some (.array n e)) (he:P.underlying e=some (.int .u8)) (hsz:∀ w,(sizeOf e).run P w=.ok 1 w) (hm:P.eqGuardType P.depth t=false) (hf:In 256 n f) (hg:In 256 n g) (r:Bool) (hr:decide (val 256 f n=val 256 g n)=r) (w:World) :
 (execOp a.eval o).run P w=.ok (.value (.bool r)) w:=by
 unfold execOp
 simp only [ho,hx,hy,Sem.run_bind,run_eqGuard_agg w .eql t x y _ _ hm,xO,q5l w t e n ht he hsz f g hf hg,Sem.run_pure,hr]
end
section
theorem xF {w w':World} {b n:Nat} (h:w.there b 0 n) {B:Nat} (l:Below B w w') (hb:b<B):w'.there b 0 n:=fun j hj=>by
 rw [l.cell (p:=⟨b,0+j,none⟩) hb,l.frozen (p:=⟨b,0+j,none⟩) hb]; exact h j hj
theorem jM {w:World} {b n:Nat} {k:IntKind} {f:Nat→Int} (h:w.there b 0 n):w.there b 0 (row k n f).toArray.size:=by rw [xA,jX]; exact h
theorem mM (w:World) (o:Obj):(w.alloc o).heap.size=w.heap.size+1:=by simp
structure Kr (w:World) (m:Nat) (l:List (Nat × IntKind × Nat × (Nat→Int))) (R:List (Nat × Nat)) (w':World):Prop where
 rows:∀ p∈l,Has w' p.1 p.2.1 p.2.2.1 p.2.2.2∧p.1<m
 room:∀ q∈R,w'.there q.1 0 q.2∧q.1<m∧w.heap.size≤q.1
 apart:∀ p∈l,∀ q∈R,p.1≠q.1
 size:m≤w'.heap.size
 base:w.heap.size≤m
 below:Below w.heap.size w w'
section
variable {w w' w'':World} {m:Nat} {l:List (Nat × IntKind × Nat × (Nat→Int))} {R:List (Nat × Nat)}
theorem Kr.init (w:World):Kr w w.heap.size [] [] w:=⟨fun _ h=>Vc,fun _ h=>Vc,fun _ h=>Vc,xnR _,xnR _,Below.refl _ _⟩
theorem Kr.drew (h:Kr w m l R w'):Kr w m l R w'.drew:=⟨fun p hp=>⟨(h.rows p hp).1.drew,(h.rows p hp).2⟩,h.room,h.apart,h.size,h.base,h.below.drew⟩
theorem Kr.call (h:Kr w m l R w') (b:Below w'.heap.size w' w''):Kr w m l R w'' :=
 ⟨fun p hp=>⟨(h.rows p hp).1.below b (xnL (h.rows p hp).2 h.size),(h.rows p hp).2⟩,
  fun q hq=>⟨xF (h.room q hq).1 b (xnL (h.room q hq).2.1 h.size),(h.room q hq).2⟩,h.apart,xnT h.size b.size,h.base,h.below.trans (b.mono (xnT h.base h.size))⟩
theorem Kr.box (h:Kr w m l R w') (k:IntKind) (n:Nat) (f:Nat→Int) (t:TypeId) (b:Nat) (hb:b=w'.heap.size):Kr w (b+1) ((b,k,n,f)::l) R (w'.alloc (.cells (row k n f).toArray t)):=by
 have hc:=h.call ((Below.refl w'.heap.size w').alloc (xnR _) (.cells (row k n f).toArray t))
 refine ⟨fun p hp=>?_,fun q hq=>⟨(hc.room q hq).1,by have:=(hc.room q hq).2.1; have:=h.size; omega,(hc.room q hq).2.2⟩,fun p hp q hq=>?_,by simp; omega,by have:=h.base; have:=h.size; omega,hc.below⟩
 · rcases xc1 hp with rfl | hp
   · exact ⟨Has.new w' k n f t b hb,by simp⟩
   exact ⟨(hc.rows p hp).1,by have:=(hc.rows p hp).2; have:=h.size; omega⟩
 rcases xc1 hp with rfl | hp
 · exact Zy
 exact h.apart p hp q hq
theorem Kr.make (h:Kr w m l R w') (n:Nat) (c:Array Value) (t:TypeId) (b:Nat) (hb:b=w'.heap.size) (hn:(w'.alloc (.cells c t)).there b 0 n):Kr w (b+1) l ((b,n)::R) (w'.alloc (.cells c t)):=by
 have hc:=h.call ((Below.refl w'.heap.size w').alloc (xnR _) (.cells c t))
 refine ⟨fun p hp=>⟨(hc.rows p hp).1,by have:=(hc.rows p hp).2; have:=h.size; omega⟩,fun q hq=>?_,fun p hp q hq=>?_,by simp; omega,by have:=h.base; have:=h.size; omega,hc.below⟩
 · rcases xc1 hq with rfl | hq
   · exact ⟨hn,by simp,by have:=h.base; have:=h.size; simp only; omega⟩
   exact ⟨(hc.room q hq).1,by have:=(hc.room q hq).2.1; have:=h.size; omega,(hc.room q hq).2.2⟩
 rcases xc1 hq with rfl | hq
 · have:=(h.rows p hp).2; have:=h.size; simp only; omega
 exact h.apart p hp q hq
theorem Kr.past (h:Kr w m l R w') (b:Nat) (hb:m≤b) (vs:List Value):Kr w m l R (w'.setCells b 0 vs) :=
 ⟨fun p hp=>⟨(h.rows p hp).1.setAll_other _ (by have:=(h.rows p hp).2; omega) 0 _,(h.rows p hp).2⟩,fun q hq=>⟨World.there_setCells (h.room q hq).1 _ _ _,(h.room q hq).2⟩,h.apart,by rw [jN]; exact h.size,h.base,
  jS h.below _ (xnT h.base hb) 0 _⟩
theorem Kr.fill (h:Kr w m l R w') (b n:Nat) (hb:(b,n)∈R) (vs:List Value):Kr w m l R (w'.setCells b 0 vs) :=
 ⟨fun p hp=>⟨(h.rows p hp).1.setAll_other _ (fun e=>h.apart p hp _ hb e.symm) 0 _,(h.rows p hp).2⟩,fun q hq=>⟨World.there_setCells (h.room q hq).1 _ _ _,(h.room q hq).2⟩,h.apart,by rw [jN]; exact h.size,h.base,
  jS h.below _ (h.room _ hb).2.2 0 _⟩
theorem Kr.get (h:Kr w m l R w') (b:Nat) (k:IntKind) (n:Nat) (f:Nat→Int) (hp:(b,k,n,f)∈l):Has w' b k n f:=(h.rows _ hp).1
theorem Kr.roomy (h:Kr w m l R w') (b:Nat) (k:IntKind) (n:Nat) (f:Nat→Int) (hb:(b,n)∈R):w'.there b 0 (row k n f).toArray.size:=by rw [xA,jX]; exact (h.room _ hb).1
theorem Kr.fresh (h:Kr w m l R w') (k:IntKind) (n:Nat) (f:Nat→Int) (c:Array Value) (t:TypeId) (hn:(w'.alloc (.cells c t)).there w'.heap.size 0 n) :
 Kr w (w'.heap.size+1) ((w'.heap.size,k,n,f)::l) R ((w'.alloc (.cells c t)).setCells w'.heap.size 0 (row k n f)):=by
 have hk:=h.make n c t w'.heap.size rfl hn; have hc:=hk.fill w'.heap.size n mS (row k n f)
 refine ⟨fun p hp=>?_,fun q hq=>hc.room q (mT _ hq),fun p hp q hq=>?_,hc.size,hc.base,hc.below⟩
 · rcases xc1 hp with rfl | hp
   · exact ⟨Has.all hn k f,by simp⟩
   exact hc.rows p hp
 rcases xc1 hp with rfl | hp
 · exact Zy
 exact h.apart p hp q hq
theorem Kr.poke (h:Kr w m l R w') (b n:Nat) (hb:(b,n)∈R) (o:Nat) (vs:List Value):Kr w m l R (w'.setCells b o vs) :=
 ⟨fun p hp=>⟨(h.rows p hp).1.setAll_other _ (fun e=>h.apart p hp _ hb e.symm) o _,(h.rows p hp).2⟩,fun q hq=>⟨World.there_setCells (h.room q hq).1 _ _ _,(h.room q hq).2⟩,h.apart,by rw [jN]; exact h.size,h.base,
  jS h.below _ (h.room _ hb).2.2 o _⟩
theorem Kr.loose (h:Kr w m l R w') (l':List (Nat × IntKind × Nat × (Nat→Int))) (b:Nat) (k:IntKind) (n:Nat) (f:Nat→Int) (hp:(b,k,n,f)∈l) (hl:∀ p∈l',p∈l) (hne:∀ p∈l',p.1≠b) (hlo:w.heap.size≤b):Kr w m l' ((b,n)::R) w' :=
 ⟨fun p hp=>h.rows p (hl p hp),fun q hq=>by
  rcases xc1 hq with rfl | hq
  · exact ⟨(h.get _ _ _ _ hp).there,(h.rows _ hp).2,hlo⟩
  · exact h.room q hq,fun p hp' q hq=>by
  rcases xc1 hq with rfl | hq
  · exact hne p hp'
  · exact h.apart p (hl p hp') q hq,h.size,h.base,h.below⟩
theorem Kr.settle (h:Kr w m l R w') (R':List (Nat × Nat)) (b:Nat) (k:IntKind) (n:Nat) (f:Nat→Int) (hb:(b,n)∈R) (hR:∀ q∈R',q∈R) (hne:∀ q∈R',q.1≠b) (hf:Has w' b k n f):Kr w m ((b,k,n,f)::l) R' w' :=
 ⟨fun p hp=>by
  rcases xc1 hp with rfl | hp
  · exact ⟨hf,(h.room _ hb).2.1⟩
  · exact h.rows p hp,fun q hq=>h.room q (hR q hq),fun p hp q hq=>by
  rcases xc1 hp with rfl | hp
  · exact (hne q hq).symm
  · exact h.apart p hp q (hR q hq),h.size,h.base,h.below⟩
theorem Kr.sub (h:Kr w m l R w') (l':List (Nat × IntKind × Nat × (Nat→Int))) (hl:∀ p∈l',p∈l):Kr w m l' R w' :=
 ⟨fun p hp=>h.rows p (hl p hp),h.room,fun p hp q hq=>h.apart p (hl p hp) q hq,h.size,h.base,h.below⟩
theorem Kr.set (h:Kr w m l R w') (l':List (Nat × IntKind × Nat × (Nat→Int))) (b:Nat) (k:IntKind) (n:Nat) (f g:Nat→Int) (hp:(b,k,n,f)∈l) (hl:∀ p∈l',p∈l) (hne:∀ p∈l',p.1≠b) (hlo:w.heap.size≤b):Kr w m ((b,k,n,g)::l') R (w'.setCells b 0 (row k n g)) :=
 ((h.loose l' b k n f hp hl hne hlo).fill b n mS _).settle R b k n g mS (fun _ hq=>mT _ hq) (fun q hq=>(h.apart _ hp q hq).symm) (Has.all (h.get _ _ _ _ hp).there k g)
theorem Kr.back (h:Kr w m l R w') (l':List (Nat × IntKind × Nat × (Nat→Int))) (m0:Nat) (hl:∀ p∈l',p∈l) (hm:∀ p∈l',p.1<m0) (hr:∀ q∈R,q.1<m0) (h0:w.heap.size≤m0) (h1:m0≤m):Kr w m0 l' R w' :=
 ⟨fun p hp=>⟨(h.rows p (hl p hp)).1,hm p hp⟩,fun q hq=>⟨(h.room q hq).1,hr q hq,(h.room q hq).2.2⟩,fun p hp q hq=>h.apart p (hl p hp) q hq,xnT h1 h.size,h0,h.below⟩
end
section
variable {P:Program} {ops:Array Oper} {Q:Exit→Act→World→Prop} {md:Region.Mode} {S:World→Prop}
theorem j8c {i:Nat} {oi:Oper} (dst:Option Tmp) (hdst:oi.dst=dst) {fuel:Nat} {listed:Array Bool} {a:Act} {w:World} (k:IntKind) (n:Nat) (f:Nat→Int) (b o:Nat) (ty:TypeId) (x:Operand) (d:TypeDesc) (hi:ops[i]?=some oi)
 (ho:oi.op=.load ty x) (hx:a.eval x=.pointer (some ⟨b,o,none⟩)) (hw:Region.wanted oi (yielded ops a.tmps)=true)
 (hs:Region.noSelect ops=true) (hf:Region.free md ops listed i=true) (hr:(Region.ready md ops listed).contains i=true)
 (hQ:∀ c a w,Q (.panic c) (a.put dst (.agg (row k n f).toArray)) w→Q (.panic c) a w)
 (hu:P.underlying ty=some d) (hd:d.isRow=true) (hz:(P.info? ty).map (·.size)=some (row k n f).length)
 (hS:S w) (hh:∀ w,S w→w.rangeAt b o (row k n f))
 (h:wpAnyH P md ops Q S fuel (listed.setIfInBounds i true) (a.put dst (.agg (row k n f).toArray)) w):wpAnyH P md ops Q S (fuel+1) listed a w:=by
 subst hdst
 exact wpAnyH_take hi hs hf hr hQ (yieldsIf_load_mid hw ty x ho b o hx (row k n f) d hh hu hd hz) hS h
theorem tJ {o':Oper} {rest:List Oper} {a:Act} {w:World} (k:IntKind) (n:Nat) (f:Nat→Int) (b o:Nat) (ty:TypeId) (x:Operand) (d:TypeDesc) (hw:Region.wanted o' (yielded ops a.tmps)=true)
 (ho:o'.op=.load ty x) (hx:a.eval x=.pointer (some ⟨b,o,none⟩)) (hu:P.underlying ty=some d) (hd:d.isRow=true) (hz:(P.info? ty).map (·.size)=some (row k n f).length) (hh:w.rangeAt b o (row k n f))
 (h:wpList P ops Q rest (a.put o'.dst (.agg (row k n f).toArray)) w):wpList P ops Q (o'::rest) a w:=by
 unfold wpList
 rw [if_pos hw]
 exact .inl (wp_load_mid ty x ho b o hx (row k n f) d hh hu hd hz h)
end
section
variable {P:Program} {ops:Array Oper} {Q:Exit→Act→World→Prop} {md:Region.Mode} {S:World→Prop} {n:Nat} {l:Array Bool} {a a':Act} {w:World} {oi:Oper} {ty:TypeId} {x y:Operand} {k:IntKind} {D:TypeDesc} {rest:List Oper}
theorem ykL (k:IntKind) (m:Nat) (f:Nat→Int) (b q:Nat) (hu:P.underlying ty=some D) (hz:(P.info? ty).map (·.size)=some (row k m f).length) (hh:w.rangeAt b q (row k m f)) (h:wpList P ops Q rest a' w) (hw:Region.wanted oi (yielded ops a.tmps)=true:=by rfl) (ho:oi.op=.load ty x:=by rfl) (hx:a.eval x=.pointer (some ⟨b,q,none⟩):=by rfl) (hd:D.isRow=true:=by rfl) (he:a.put oi.dst (.agg (row k m f).toArray)=a':=by simp only [aP,lI,l0,lS] <;> rfl) : wpList P ops Q (oi::rest) a w:=tJ k m f b q ty x D hw ho hx hu hd hz hh (he ▸ h)
end
section
variable {P:Program} {ops:Array Oper} {Q:Exit→Act→World→Prop} {md:Region.Mode} {S:World→Prop} {n:Nat} {l:Array Bool} {a a':Act} {w:World} {oi:Oper} {ty:TypeId} {x y:Operand} {k:IntKind} {D:TypeDesc} {rest:List Oper}
theorem ykH (i:Nat) (d:Tmp) (k:IntKind) (m:Nat) (f:Nat→Int) (b q:Nat) (hu:P.underlying ty=some D) (hz:(P.info? ty).map (·.size)=some (row k m f).length) (hS:S w) (hh:∀ w,S w→w.rangeAt b q (row k m f)) (h:wpAnyH P md ops Q S n (l.setIfInBounds i true) a' w) (hi:ops[i]?=some oi:=by rfl) (hdst:oi.dst=some d:=by rfl) (ho:oi.op=.load ty x:=by rfl) (hx:a.eval x=.pointer (some ⟨b,q,none⟩):=by rfl) (hw:Region.wanted oi (yielded ops a.tmps)=true:=by rfl) (hd:D.isRow=true:=by rfl) (hg:(Region.noSelect ops && (Region.free md ops l i && (Region.ready md ops l).contains i))=true:=by kernel_rfl) (hQ:∀ c a w,Q (.panic c) (a.put (some d) (.agg (row k m f).toArray)) w→Q (.panic c) a w:=by exact fun _ _ _ h=>h) (he:a.put (some d) (.agg (row k m f).toArray)=a':=by simp only [aP,lI,l0,lS] <;> rfl) : wpAnyH P md ops Q S (n+1) l a w:=by
 subst he
 rw [Bool.and_eq_true,Bool.and_eq_true] at hg
 exact j8c (some d) hdst k m f b q ty x D hi ho hx hw hg.1 hg.2.1 hg.2.2 hQ hu hd hz hS hh h
end
section
variable {P:Program} {ops:Array Oper} {Q:Exit→Act→World→Prop} {md:Region.Mode} {S:World→Prop}
theorem vZ (w:World) (b o:Nat) (ty:TypeId) (k:IntKind) (v:Value) (hc:w.cell? ⟨b,o,none⟩=some v) (hu:P.underlying ty=some (.int k)):(loadVar ty ⟨b,o,none⟩).run P w=.ok v w:=by
 have hagg:(isAgg ty).run P w=.ok false w:=by
  exact Zu
 simp [loadVar,Sem.run_bind,hagg,hc]
theorem x5r {i:Nat} {oi:Oper} (dst:Option Tmp) (hdst:oi.dst=dst) {fuel:Nat} {listed:Array Bool} {a:Act} {w:World} (k:IntKind) (v:Value) (b o:Nat) (ty:TypeId) (x:Operand) (hi:ops[i]?=some oi)
 (ho:oi.op=.load ty x) (hx:a.eval x=.pointer (some ⟨b,o,none⟩)) (hw:Region.wanted oi (yielded ops a.tmps)=true)
 (hs:Region.noSelect ops=true) (hf:Region.free md ops listed i=true) (hr:(Region.ready md ops listed).contains i=true)
 (hQ:∀ c a w,Q (.panic c) (a.put dst v) w→Q (.panic c) a w)
 (hu:P.underlying ty=some (.int k))
 (hS:S w) (hh:∀ w,S w→w.cell? ⟨b,o,none⟩=some v)
 (h:wpAnyH P md ops Q S fuel (listed.setIfInBounds i true) (a.put dst v) w):wpAnyH P md ops Q S (fuel+1) listed a w:=by
 subst hdst
 refine wpAnyH_take hi hs hf hr hQ (.inl ⟨hw,fun w hw'=>?_⟩) hS h
 exact Xk
theorem x5q {o':Oper} {rest:List Oper} {a:Act} {w:World} (k:IntKind) (v:Value) (b o:Nat) (ty:TypeId) (x:Operand) (hw:Region.wanted o' (yielded ops a.tmps)=true)
 (ho:o'.op=.load ty x) (hx:a.eval x=.pointer (some ⟨b,o,none⟩)) (hu:P.underlying ty=some (.int k)) (hh:w.cell? ⟨b,o,none⟩=some v)
 (h:wpList P ops Q rest (a.put o'.dst v) w):wpList P ops Q (o'::rest) a w:=by
 unfold wpList
 rw [if_pos hw]
 refine .inl ?_
 unfold Oper.wp execOp
 simp only [ho,hx,Instr.loadAt,Instr.sureAddr,Sem.run_bind,Sem.run_pure,xO,vZ w b o ty k v hh hu]
 exact h
end
section
variable {P:Program} {ops:Array Oper} {Q:Exit→Act→World→Prop} {md:Region.Mode} {S:World→Prop} {n:Nat} {l:Array Bool} {a a':Act} {w:World} {oi:Oper} {ty:TypeId} {x y:Operand} {k:IntKind} {D:TypeDesc} {rest:List Oper}
theorem ycL (v:Value) (b q:Nat) (hu:P.underlying ty=some (.int k)) (hh:w.cell? ⟨b,q,none⟩=some v) (h:wpList P ops Q rest a' w) (hw:Region.wanted oi (yielded ops a.tmps)=true:=by rfl) (ho:oi.op=.load ty x:=by rfl) (hx:a.eval x=.pointer (some ⟨b,q,none⟩):=by rfl) (he:a.put oi.dst v=a':=by simp only [aP,lI,l0,lS] <;> rfl) : wpList P ops Q (oi::rest) a w:=x5q k v b q ty x hw ho hx hu hh (he ▸ h)
end
section
variable {P:Program} {ops:Array Oper} {Q:Exit→Act→World→Prop} {md:Region.Mode} {S:World→Prop} {n:Nat} {l:Array Bool} {a a':Act} {w:World} {oi:Oper} {ty:TypeId} {x y:Operand} {k:IntKind} {D:TypeDesc} {rest:List Oper}
theorem ycH (i:Nat) (d:Tmp) (v:Value) (b q:Nat) (hu:P.underlying ty=some (.int k)) (hS:S w) (hh:∀ w,S w→w.cell? ⟨b,q,none⟩=some v) (h:wpAnyH P md ops Q S n (l.setIfInBounds i true) a' w) (hi:ops[i]?=some oi:=by rfl) (hdst:oi.dst=some d:=by rfl) (ho:oi.op=.load ty x:=by rfl) (hx:a.eval x=.pointer (some ⟨b,q,none⟩):=by rfl) (hw:Region.wanted oi (yielded ops a.tmps)=true:=by rfl) (hg:(Region.noSelect ops && (Region.free md ops l i && (Region.ready md ops l).contains i))=true:=by kernel_rfl) (hQ:∀ c a w,Q (.panic c) (a.put (some d) v) w→Q (.panic c) a w:=by exact fun _ _ _ h=>h) (he:a.put (some d) v=a':=by simp only [aP,lI,l0,lS] <;> rfl) : wpAnyH P md ops Q S (n+1) l a w:=by
 subst he
 rw [Bool.and_eq_true,Bool.and_eq_true] at hg
 exact x5r (some d) hdst k v b q ty x hi ho hx hw hg.1 hg.2.1 hg.2.2 hQ hu hS hh h
end
end
theorem zZ {B:Nat} {w w':World} (h:Below B w w') {n:Nat}:Below B w (w'.drewN n):=⟨h.os,h.tape,h.output,h.size,h.block⟩
def uA (f:Nat→Int) (o m:Nat) (g:Nat→Int):Nat→Int:=fun j=>if o≤j∧j<o+m then g (j-o) else f j
theorem Has.part {w:World} {b:Nat} {k:IntKind} {n:Nat} {f:Nat→Int} (h:Has w b k n f) (o m:Nat) (ho:o+m≤n) (g:Nat→Int):Has (w.setCells b o (row k m g)) b k n (uA f o m g):=by
 have ht:w.there b o m:=fun j hj=>by rw [h.cell (o+j) JK]; exact ⟨rfl,h.free (o+j) JK⟩
 refine ⟨fun j hj=>?_,fun j hj=>by rw [World.frozen?_setCells]; exact h.free j hj⟩
 unfold uA
 by_cases e:o≤j∧j<o+m
 · rw [if_pos e]; have:=World.rangeAt_setCells_same w b o (row k m g) (by rw [jX]; exact ht) (j-o) _ (xG k m g (j-o) JK); rw [show o+(j-o)=j by omega] at this; exact this
 rw [if_neg e]
 have hr:w.rangeAt b j [.int k (f j)]:=fun i v hv=>by
  rcases i with _ | i
  · obtain rfl:Value.int k (f j)=v:=by simpa using hv
    exact h.cell j hj
  simp at hv
 exact World.rangeAt_setCells_apart hr b o (row k m g) (Or.inr (by rw [jX]; simp only [List.length_cons,List.length_nil]; omega)) 0 _ rfl
theorem lD {M:Int} {n o m:Nat} {f g:Nat→Int} (hf:In M n f) (hg:In M m g):In M n (uA f o m g):=fun j hj=>by
 unfold uA
 split
 · exact hg _ JK
 · exact hf j hj
theorem dV (M:Int) (f:Nat→Int) (n:Nat):∀ k,val M f (n+k)=val M f n+M^n*val M (fun j=>f (n+j)) k
 | 0=>by simp [val]
 | k+1=>by
   rw [← Nat.add_assoc]
   simp only [val]
   rw [dV M f n k,Int.mul_add,← Int.mul_assoc,Int.pow_add]
   omega
theorem j8m (B o c:Nat) (x0 x1 x2 x3 x4 x5 x6 x7:Int) (h0:0≤x0∧x0<256) (h1:0≤x1∧x1<256) (h2:0≤x2∧x2<256) (h3:0≤x3∧x3<256) (h4:0≤x4∧x4<256) (h5:0≤x5∧x5<256) (h6:0≤x6∧x6<256) (h7:0≤x7∧x7<256) (w:World) (c0:w.cell? ⟨B,o,none⟩=some (.int .u8 x0)) (c1:w.cell? ⟨B,o+1,none⟩=some (.int .u8 x1)) (c2:w.cell? ⟨B,o+2,none⟩=some (.int .u8 x2)) (c3:w.cell? ⟨B,o+3,none⟩=some (.int .u8 x3)) (c4:w.cell? ⟨B,o+4,none⟩=some (.int .u8 x4)) (c5:w.cell? ⟨B,o+5,none⟩=some (.int .u8 x5)) (c6:w.cell? ⟨B,o+6,none⟩=some (.int .u8 x6)) (c7:w.cell? ⟨B,o+7,none⟩=some (.int .u8 x7)) :
 Calls Tryz.prog 105 #[.slice (some ⟨B,o,none⟩) 8 c] w fun e w'=>∃ q,e=.returned (.int .u64 (x0+x1*256+x2*65536+x3*16777216+x4*4294967296+x5*1099511627776+x6*281474976710656+x7*72057594037927936))∧w'=w.drewN q:=by
 have hg:=x5g x0 x1 x2 x3 x4 x5 x6 x7 h0 h1 h2 h3 h4 h5 h6 h7; have HG:=show Hid _ from hg; clear hg h0 h1 h2 h3 h4 h5 h6 h7
 go_enter Tryz.func105,Tryz.ntmps105
 exact Xg
theorem x2m (B o c:Nat) (x0 x1 x2 x3 x4 x5 x6 x7:Int) (h0:0≤x0∧x0<256) (h1:0≤x1∧x1<256) (h2:0≤x2∧x2<256) (h3:0≤x3∧x3<256) (h4:0≤x4∧x4<256) (h5:0≤x5∧x5<256) (h6:0≤x6∧x6<256) (h7:0≤x7∧x7<256) (w:World) (c0:w.cell? ⟨B,o,none⟩=some (.int .u8 x0)) (c1:w.cell? ⟨B,o+1,none⟩=some (.int .u8 x1)) (c2:w.cell? ⟨B,o+2,none⟩=some (.int .u8 x2)) (c3:w.cell? ⟨B,o+3,none⟩=some (.int .u8 x3)) (c4:w.cell? ⟨B,o+4,none⟩=some (.int .u8 x4)) (c5:w.cell? ⟨B,o+5,none⟩=some (.int .u8 x5)) (c6:w.cell? ⟨B,o+6,none⟩=some (.int .u8 x6)) (c7:w.cell? ⟨B,o+7,none⟩=some (.int .u8 x7)) :
 Calls Tryz.prog 105 #[.slice (some ⟨B,o,none⟩) 8 c] w fun e w'=>e=.returned (.int .u64 (x0+x1*256+x2*65536+x3*16777216+x4*4294967296+x5*1099511627776+x6*281474976710656+x7*72057594037927936))∧Below w.heap.size w w' :=
 (j8m B o c x0 x1 x2 x3 x4 x5 x6 x7 h0 h1 h2 h3 h4 h5 h6 h7 w c0 c1 c2 c3 c4 c5 c6 c7).mono fun _ _ ⟨_,he,hw⟩=>⟨he,by rw [hw]; exact (zZ (Below.refl _ _))⟩
theorem q8d (B o c:Nat) (x:Int) (y0 y1 y2 y3 y4 y5 y6 y7:Int) (w:World) (c0:w.cell? ⟨B,o,none⟩=some (.int .u8 y0)) (f0:w.frozen? ⟨B,o,none⟩=false) (c1:w.cell? ⟨B,o+1,none⟩=some (.int .u8 y1)) (f1:w.frozen? ⟨B,o+1,none⟩=false) (c2:w.cell? ⟨B,o+2,none⟩=some (.int .u8 y2)) (f2:w.frozen? ⟨B,o+2,none⟩=false) (c3:w.cell? ⟨B,o+3,none⟩=some (.int .u8 y3)) (f3:w.frozen? ⟨B,o+3,none⟩=false) (c4:w.cell? ⟨B,o+4,none⟩=some (.int .u8 y4)) (f4:w.frozen? ⟨B,o+4,none⟩=false) (c5:w.cell? ⟨B,o+5,none⟩=some (.int .u8 y5)) (f5:w.frozen? ⟨B,o+5,none⟩=false) (c6:w.cell? ⟨B,o+6,none⟩=some (.int .u8 y6)) (f6:w.frozen? ⟨B,o+6,none⟩=false) (c7:w.cell? ⟨B,o+7,none⟩=some (.int .u8 y7)) (f7:w.frozen? ⟨B,o+7,none⟩=false) :
 Calls Tryz.prog 102 #[.slice (some ⟨B,o,none⟩) 8 c,.int .u64 x] w fun e w'=>e=.returned (.tuple #[])∧w'=((((((((w.setCell ⟨B,o,none⟩ (.int .u8 (x%256))).setCell ⟨B,o+1,none⟩ (.int .u8 (x/256%256))).setCell ⟨B,o+2,none⟩ (.int .u8 (x/65536%256))).setCell ⟨B,o+3,none⟩ (.int .u8 (x/16777216%256))).setCell ⟨B,o+4,none⟩ (.int .u8 (x/4294967296%256))).setCell ⟨B,o+5,none⟩ (.int .u8 (x/1099511627776%256))).setCell ⟨B,o+6,none⟩ (.int .u8 (x/281474976710656%256))).setCell ⟨B,o+7,none⟩ (.int .u8 (x/72057594037927936%256))):=by
 go_enter Tryz.func102,Tryz.ntmps102
 go_wp2
 go_end0
 exact ⟨rfl,rfl⟩
def byt (x:Int):Nat→Int
 | 0=>x%256
 | 1=>x/256%256
 | 2=>x/65536%256
 | 3=>x/16777216%256
 | 4=>x/4294967296%256
 | 5=>x/1099511627776%256
 | 6=>x/281474976710656%256
 | 7=>x/72057594037927936%256
 | _+8=>0
theorem j7k (x:Int):In 256 8 (byt x)
 | 0,_=>by show 0≤x%256∧x%256<256; omega
 | 1,_=>by show 0≤x/256%256∧x/256%256<256; omega
 | 2,_=>by show 0≤x/65536%256∧x/65536%256<256; omega
 | 3,_=>by show 0≤x/16777216%256∧x/16777216%256<256; omega
 | 4,_=>by show 0≤x/4294967296%256∧x/4294967296%256<256; omega
 | 5,_=>by show 0≤x/1099511627776%256∧x/1099511627776%256<256; omega
 | 6,_=>by show 0≤x/281474976710656%256∧x/281474976710656%256<256; omega
 | 7,_=>by show 0≤x/72057594037927936%256∧x/72057594037927936%256<256; omega
 | _+8,h=>by omega
theorem j0n (x:Int) (h0:0≤x) (h1:x<W):val 256 (byt x) 8=x:=by
 simp only [W] at h1
 have h:=q6d x h0 h1; simp only [val,byt]
 omega
theorem x0c (a:Nat→Int) (o:Nat):val 256 (fun j=>a (o+j)) 8=a o+a (o+1)*256+a (o+2)*65536+a (o+3)*16777216+a (o+4)*4294967296+a (o+5)*1099511627776+a (o+6)*281474976710656+a (o+7)*72057594037927936:=by
 simp only [val,Nat.add_zero]
 omega
theorem q3y (B o n c:Nat) (a:Nat→Int) (ho:o+8≤n) (ha:In 256 n a) (w:World) (h:Has w B .u8 n a) :
 Calls Tryz.prog 105 #[.slice (some ⟨B,o,none⟩) 8 c] w fun e w'=>e=.returned (.int .u64 (val 256 (fun j=>a (o+j)) 8))∧Below w.heap.size w w':=by
 rw [x0c]
 exact x2m B o c _ _ _ _ _ _ _ _ (ha o JK) (ha (o+1) JK) (ha (o+2) JK) (ha (o+3) JK) (ha (o+4) JK) (ha (o+5) JK) (ha (o+6) JK) (ha (o+7) JK) w
  (h.cell o JK) (h.cell (o+1) JK) (h.cell (o+2) JK) (h.cell (o+3) JK) (h.cell (o+4) JK) (h.cell (o+5) JK) (h.cell (o+6) JK) (h.cell (o+7) JK)
theorem q3x (B o n c:Nat) (a:Nat→Int) (ho:o+8≤n) (ha:In 256 n a) (w:World) (h:Has w B .u8 n a) :
 Calls Tryz.prog 105 #[.slice (some ⟨B,o,none⟩) 8 c] w fun e w'=>∃ q,e=.returned (.int .u64 (val 256 (fun j=>a (o+j)) 8))∧w'=w.drewN q:=by
 rw [x0c]
 exact j8m B o c _ _ _ _ _ _ _ _ (ha o JK) (ha (o+1) JK) (ha (o+2) JK) (ha (o+3) JK) (ha (o+4) JK) (ha (o+5) JK) (ha (o+6) JK) (ha (o+7) JK) w
  (h.cell o JK) (h.cell (o+1) JK) (h.cell (o+2) JK) (h.cell (o+3) JK) (h.cell (o+4) JK) (h.cell (o+5) JK) (h.cell (o+6) JK) (h.cell (o+7) JK)
theorem lP (B o n c:Nat) (g:Nat→Int) (x:Int) (ho:o+8≤n) (w:World) (h:Has w B .u8 n g) :
 Calls Tryz.prog 102 #[.slice (some ⟨B,o,none⟩) 8 c,.int .u64 x] w fun e w'=>e=.returned (.tuple #[])∧w'=w.setCells B o (row .u8 8 (byt x)) :=
 q8d B o c x _ _ _ _ _ _ _ _ w (h.cell o JK) (h.free o JK) (h.cell (o+1) JK) (h.free (o+1) JK) (h.cell (o+2) JK) (h.free (o+2) JK) (h.cell (o+3) JK) (h.free (o+3) JK) (h.cell (o+4) JK) (h.free (o+4) JK) (h.cell (o+5) JK) (h.free (o+5) JK) (h.cell (o+6) JK) (h.free (o+6) JK) (h.cell (o+7) JK) (h.free (o+7) JK)
theorem jL (f:Nat→Int):(Tryz.prog.info? 158).map (·.size)=some (row .u8 17 f).length:=by rw [jX]; kernel_rfl
theorem qX (f:Nat→Int):(Tryz.prog.info? 158).map (·.size)=some (row .u8 17 f).toArray.size:=by rw [xA]; exact jL f
theorem yX {w:World} {b:Nat} {f g:Nat→Int} (h:Has w b .u8 17 f):w.there b 0 (row .u8 17 g).toArray.size:=by rw [xA,jX]; exact h.there
theorem jE (w:World) (t:TypeId) (b:Nat) (hb:b=w.heap.size):Has (w.alloc (.cells jF t)) b .u8 17 (fun _=>0):=Has.new w .u8 17 (fun _=>0) t b hb
theorem j9m (f:Nat→Int):val 256 f 17=val 256 f 8+18446744073709551616*val 256 (fun j=>f (8+j)) 8+340282366920938463463374607431768211456*f 16:=by
 have e1:val 256 f 17=val 256 f 16+256^16*f 16:=rfl
 have e2:=dV 256 f 8 8
 rw [show (8+8:Nat)=16 from rfl] at e2
 rw [e1,e2,show (256:Int)^8=18446744073709551616 from by decide,show (256:Int)^16=340282366920938463463374607431768211456 from by decide]
theorem j2l (a:Nat→Int) (ha:In 256 17 a) (o:Nat) (ho:o+8≤17):0≤val 256 (fun j=>a (o+j)) 8∧val 256 (fun j=>a (o+j)) 8<W :=
 qE 256 JG (fun j=>a (o+j)) 8 (fun j hj=>ha (o+j) JK)
theorem j9t (x:Int) (h:0≤x∧x<256):IntKind.u64.wrap x=x:=by rw [IntKind.wrap_u64]; omega
theorem wJ (a:Nat→Int) (ha:In 256 17 a) (w:World) :
 Calls Tryz.prog 172 #[(.agg (row .u8 17 (a)).toArray)] w fun e w'=>∃ n:Nat→Int,e=.returned (.agg (row .u64 3 (n)).toArray)∧(In W 3 n∧n 2<256∧val W n 3=val 256 a 17)∧Below w.heap.size w w':=by
 have K:=Kr.init w; replace K:=K.box .u8 17 a 158 w.heap.size rfl; replace K:=K.make 3 #[.int .u64 0,.int .u64 0,.int .u64 0] 187 (w.heap.size+1) Jf (zP _ _ _ Jf).there
 go_enter Tryz.func172,Tryz.ntmps172
 go_upto_region 1 with fail; refine wD (S:=fun w'=>Kr w _ [(w.heap.size,.u8,17,a)] [(w.heap.size+1,3)] w') JU K.drew ?_; clear K; intro K; refine xpH 0 3 (.slice (some ⟨w.heap.size,0,none⟩) 8 17) K ?_; refine xpH 2 5 (.slice (some ⟨w.heap.size,8,none⟩) 8 9) K ?_; refine xpH 4 7 (.pointer (some ⟨w.heap.size,16,none⟩)) K ?_
 refine ycH 5 8 (.int .u8 (a 16)) w.heap.size 16 Tryz.underlying5 K (fun _ h=>(h.get _ _ _ _ mS).cell 16 JK) ?_; refine xpH 6 9 (.int .u64 (IntKind.u64.wrap (a 16))) K ?_
 rw [j9t (a 16) (ha 16 JK)]
 refine yaH 1 4 (q3y w.heap.size 0 17 17 a JK ha _ (K.get _ _ _ _ mS)) ?_; rintro e w1 ⟨rfl,l⟩; replace K:=K.call l; clear l
 refine ⟨_,rfl,K,nH ?_⟩
 refine yaH 3 6 (q3y w.heap.size 8 17 9 a JK ha _ (K.get _ _ _ _ mS)) ?_; rintro e w2 ⟨rfl,l⟩; replace K:=K.call l; clear l
 refine ⟨_,rfl,K,nH ?_⟩
 have i0:=j2l a ha 0 JK; have i1:=j2l a ha 8 JK; have i2:=ha 16 JK; have hv:=j9m a
 have e0:val 256 (fun j=>a (0+j)) 8=val 256 a 8:=qZ 256 8 fun j _=>by rw [nZ]
 rw [e0] at i0 ⊢
 generalize val 256 a 8=x at *; generalize val 256 (fun j=>a (8+j)) 8=y at *; generalize a 16=z at *; have HE:=show Hid (In W 3 (tri x y z)∧tri x y z 2<256∧val W (tri x y z) 3=val 256 a 17) from ⟨dG i0 i1 Vf,i2.2,by rw [lH,hv]⟩; clear i0 i1 i2 hv e0; refine xpH 7 10 (.agg (row .u64 3 (tri x y z)).toArray) K ?_
 refine xX (i:=8) none rfl .u64 3 (tri x y z) (w.heap.size+1) 187 _ _ JU rfl rfl rfl rfl rfl (K.roomy _ _ _ _ mS) (yP _) (K.fill _ _ mS _) ?_
 refine wE JU ?_ _
 have hz:=(K.room _ mS).1; have hB:=(K.fill _ _ mS (row .u64 3 (tri x y z))).below; clear K; go_wp2
 exact bRq (v:=(.agg (row .u64 3 (tri x y z)).toArray)) (jQ Tryz.results172 rfl (Has.all hz .u64 _).range Tryz.underlying187 rfl (xD _)) rfl ⟨_,rfl,HE.out,hB⟩
def zH (n:Nat→Int):Nat→Int:=upd (uA (uA (fun _=>0) 0 8 (byt (n 0))) 8 8 (byt (n 1))) 16 (n 2%256)
theorem eQ (n:Nat→Int):In 256 17 (zH n):=(lD (lD (fun _ _=>⟨Int.le_refl 0,Ve⟩) (j7k _)) (j7k _)).upd 16 _ JK JK
theorem wL (n:Nat→Int) (hn:In W 3 n):val 256 (zH n) 17=val W n 3%87112285931760246646623899502532662132736:=by
 have h0:=hn 0 JK; have h1:=hn 1 JK; have h2:=hn 2 JK; have b0:=j0n (n 0) h0.1 h0.2; have b1:=j0n (n 1) h1.1 h1.2
 have e0:val 256 (zH n) 8=n 0:=by
  rw [← b0]; refine qZ 256 8 fun j hj=>?_
  unfold zH; rw [jR _ _ _ _ JK]; unfold uA; rw [if_neg JK,if_pos JK,Nat.sub_zero]
 have e1:val 256 (fun j=>zH n (8+j)) 8=n 1:=by
  rw [← b1]; refine qZ 256 8 fun j hj=>?_
  unfold zH; rw [jR _ _ _ _ JK]; unfold uA; rw [if_pos JK,Nat.add_sub_cancel_left]
 have e2:zH n 16=n 2%256:=by unfold zH; rw [jP]
 rw [j9m,e0,e1,e2,v3]
 simp only [W] at *
 omega
theorem j4g (n:Nat→Int) (w:World) :
 Calls Tryz.prog 173 #[(.agg (row .u64 3 (n)).toArray)] w fun e w'=>e=.returned (.agg (row .u8 17 (zH n)).toArray)∧Below w.heap.size w w':=by
 have K:=Kr.init w; replace K:=K.box .u64 3 n 187 w.heap.size rfl; replace K:=K.make 17 jF 158 (w.heap.size+1) Jf (jE _ _ _ Jf).there
 go_enter Tryz.func173,Tryz.ntmps173
 go_upto_region 1 with fail; generalize ((w.alloc (.cells (row .u64 3 n).toArray 187)).alloc (.cells jF 158))=w1 at K ⊢; have s1:=K.size; have H:=jE w1 158 w1.heap.size rfl; replace K:=K.make 17 jF 158 w1.heap.size rfl H.there; go_upto_region 2 with fail; generalize w1.alloc (.cells jF 158)=w2 at K H ⊢; generalize w1.heap.size=O at *; clear w1
 refine wD (S:=fun w'=>Kr w _ [(w.heap.size,.u64,3,n)] [(O,17),(w.heap.size+1,17)] w') JU K.drew ?_; clear K; intro K; replace H:=H.drew; refine xpH 0 4 (.slice (some ⟨O,0,none⟩) 8 17) K ?_; refine xpH 1 5 (.pointer (some ⟨w.heap.size,0,none⟩)) K ?_
 refine ycH 2 6 (.int .u64 (n 0)) w.heap.size 0 Tryz.underlying54 K (fun _ h=>(h.get _ _ _ _ mS).cell 0 JK) ?_; refine yaH 3 7 (lP O 0 17 17 _ (n 0) JK _ H) ?_
 rintro e w' ⟨rfl,rfl⟩; replace K:=K.poke O 17 mS 0 (row .u8 8 (byt (n 0))); replace H:=H.part 0 8 JK (byt (n 0))
 refine ⟨_,rfl,K,nH ?_⟩
 refine wE JU ?_ _
 generalize (w2.drew.setCells O 0 (row .u8 8 (byt (n 0))))=w3 at K H ⊢; go_upto_region 3 with fail; refine wD (S:=fun w'=>Kr w _ [(w.heap.size,.u64,3,n)] [(O,17),(w.heap.size+1,17)] w') JU K.drew ?_; clear K; intro K; replace H:=H.drew; refine xpH 0 8 (.slice (some ⟨O,8,none⟩) 8 9) K ?_; refine xpH 1 9 (.pointer (some ⟨w.heap.size,1,none⟩)) K ?_
 refine ycH 2 10 (.int .u64 (n 1)) w.heap.size 1 Tryz.underlying54 K (fun _ h=>(h.get _ _ _ _ mS).cell 1 JK) ?_; refine yaH 3 11 (lP O 8 17 9 _ (n 1) JK _ H) ?_
 rintro e w' ⟨rfl,rfl⟩; replace K:=K.poke O 17 mS 8 (row .u8 8 (byt (n 1))); replace H:=H.part 8 8 JK (byt (n 1))
 refine ⟨_,rfl,K,nH ?_⟩
 refine wE JU ?_ _
 generalize (w3.drew.setCells O 8 (row .u8 8 (byt (n 1))))=w4 at K H ⊢; go_upto_region 4 with fail; have c2:=(K.get _ _ _ _ mS).cell 2 JK; have d2:=H.cell 16 JK; have f2:=H.free 16 JK; have H2:=H.set 16 JK (n 2%256); replace K:=K.poke O 17 mS 16 [.int .u8 (n 2%256)]
 have K2:Kr w _ [(w.heap.size,.u64,3,n)] [(O,17),(w.heap.size+1,17)] (w4.setCell ⟨O,16,none⟩ (.int .u8 (n 2%256))):=K
 clear K H; go_upto_region 5 with fail
 have H:Has (w4.setCell ⟨O,16,none⟩ (.int .u8 (n 2%256))) O .u8 17 (zH n):=H2
 clear H2; generalize w4.setCell ⟨O,16,none⟩ (.int .u8 (n 2%256))=w5 at K2 H ⊢; clear c2 d2 f2; have hz:=(K2.room _ (mT _ mS)).1; have hB:=(K2.fill _ _ (mT _ mS) (row .u8 17 (zH n))).below; clear K2; generalize hf:zH n=f at *
 go_wp2_with (first | (refine yl (H) Tryz.underlying158 (jL _) ?_) | (refine ys .u8 17 f (jM hz) (qX _) ?_))
 exact bRq (v:=(.agg (row .u8 17 (f)).toArray)) (jQ Tryz.results173 rfl (Has.all hz .u8 f).range Tryz.underlying158 rfl (jL f)) rfl ⟨rfl,hB⟩
theorem q1k (f:Nat→Int):(Tryz.prog.info? 194).map (·.size)=some (row .u64 6 f).length:=by rw [jX]; kernel_rfl
theorem x4x (a:Nat) (ha:a<2^64):a &&& 18446744073709551612=a-a%4:=by
 have e1:(18446744073709551612:Nat)=(2^62-1) <<< 2:=by decide
 have e2:a-a%4=(a >>> 2) <<< 2:=by rw [Nat.shiftLeft_eq,Nat.shiftRight_eq_div_pow]; omega
 rw [e1,e2]
 refine Nat.eq_of_testBit_eq fun i=>?_
 rw [Nat.testBit_and,Nat.testBit_shiftLeft,Nat.testBit_shiftLeft,Nat.testBit_shiftRight,Nat.testBit_two_pow_sub_one]
 by_cases h:2≤i
 · rw [show 2+(i-2)=i by omega]; by_cases h2:i<64
   · rw [decide_eq_true (show i-2<62 by omega)]; simp [h]
   rw [Nat.testBit_lt_two_pow (xnL ha (Nat.pow_le_pow_right JG JK))]; simp
 simp [h]
theorem q9q (x:Int) (h0:0≤x) (h1:x<W):bits BinOp.andNot IntKind.u64 x 3=x-x%4:=by
 simp only [W] at h1
 obtain ⟨x,rfl⟩:=xiN h0
 have h:=x4x x JK
 rw [show (3:Int)=((3:Nat):Int) from rfl,u64_andNot_nat x 3 JK JK,show (18446744073709551615-3:Nat)=18446744073709551612 from rfl,h]
 omega
theorem x4q (x y:Int) (hx:0≤x) (hx':x<W) (hy:0≤y):bits BinOp.or IntKind.u64 (x/4) (IntKind.u64.wrap (y*4611686018427387904))=x/4+y%4*4611686018427387904:=by
 have hx2:=hx'
 simp only [W] at hx2
 obtain ⟨x,rfl⟩:=xiN hx
 obtain ⟨y,rfl⟩:=xiN hy
 have e1:IntKind.u64.wrap ((y:Int)*4611686018427387904)=((2^62*(y%4):Nat):Int):=by rw [IntKind.wrap_u64]; omega
 have e2:(x:Int)/4=((x/4:Nat):Int):=by omega
 have h:=Nat.two_pow_add_eq_or_of_lt (i:=62) (b:=x/4) JK (y%4)
 rw [e1,e2,u64_or_nat (x/4) (2^62*(y%4)) JK JK,Nat.or_comm,← h]
 omega
theorem q0y (d:Nat→Int) (hd:In W 6 d) (hv:val W d 6≤FB*FB) (w:World) :
 Calls Tryz.prog 176 #[(.agg (row .u64 6 (d)).toArray)] w fun e w'=>∃ m:Nat→Int,e=.returned (.agg (row .u64 3 (m)).toArray)∧(sF m∧val W m 3%Q=val W d 6%Q)∧Below w.heap.size w w':=by
 have hL:=j6j hd hv; have i0:=hd 0 JK; have i1:=hd 1 JK; have i2:=hd 2 JK; have i3:=hd 3 JK; have i4:=hd 4 JK; have a2:=x6e (d 2) i2.1 i2.2; have n2:=q9q (d 2) i2.1 i2.2; have o2:=x4q (d 2) (d 3) i2.1 i2.2 i3.1; have o3:=x4q (d 3) (d 4) i3.1 i3.2 i4.1
 have HI:=show Hid _ from And.intro i0 (And.intro i1 (And.intro i2 (And.intro i3 i4))); have HL:=show Hid _ from hL; have K:=Kr.init w; replace K:=K.box .u64 6 d 194 w.heap.size rfl; replace K:=K.make 3 #[.int .u64 0,.int .u64 0,.int .u64 0] 187 (w.heap.size+1) Jf (zP _ _ _ Jf).there; clear hL i0 i1 i2 i3 i4 hd hv
 go_enter Tryz.func176,Tryz.ntmps176
 go_upto_region 1 with fail; generalize ((w.alloc (.cells (row .u64 6 d).toArray 194)).alloc (.cells #[.int .u64 0,.int .u64 0,.int .u64 0] 187))=w1 at K ⊢; have c0:=(K.get _ _ _ _ mS).cell 0 JK; have c1:=(K.get _ _ _ _ mS).cell 1 JK; have c2:=(K.get _ _ _ _ mS).cell 2 JK; have c3:=(K.get _ _ _ _ mS).cell 3 JK
 have c4:=(K.get _ _ _ _ mS).cell 4 JK; have z:=zP w1 187 w1.heap.size rfl; have s1:=K.size
 go_upto_region 2 with (refine ys .u64 3 (tri (d 0) (d 1) (d 2%4)) (uN (z)) (yP _) ?_)
 replace K:=K.fresh .u64 3 (tri (d 0) (d 1) (d 2%4)) #[.int .u64 0,.int .u64 0,.int .u64 0] 187 z.there; clear c0 c1 c2 c3 c4 z; generalize ((w1.alloc (.cells #[.int .u64 0,.int .u64 0,.int .u64 0] 187)).setCells w1.heap.size 0 (row .u64 3 (tri (d 0) (d 1) (d 2%4))))=w2 at K ⊢; generalize w1.heap.size=B1 at *; clear w1; have c0:=(K.get _ _ _ _ (mT _ mS)).cell 0 JK
 have c1:=(K.get _ _ _ _ (mT _ mS)).cell 1 JK; have c2:=(K.get _ _ _ _ (mT _ mS)).cell 2 JK; have c3:=(K.get _ _ _ _ (mT _ mS)).cell 3 JK; have c4:=(K.get _ _ _ _ (mT _ mS)).cell 4 JK; have z:=zP w2 187 w2.heap.size rfl; have s2:=K.size
 go_upto_region 3 with (refine ys .u64 3 (tri (d 2-d 2%4) (d 3) (d 4)) (uN (z)) (yP _) ?_)
 replace K:=K.fresh .u64 3 (tri (d 2-d 2%4) (d 3) (d 4)) #[.int .u64 0,.int .u64 0,.int .u64 0] 187 z.there; clear c0 c1 c2 c3 c4 z; generalize ((w2.alloc (.cells #[.int .u64 0,.int .u64 0,.int .u64 0] 187)).setCells w2.heap.size 0 (row .u64 3 (tri (d 2-d 2%4) (d 3) (d 4))))=w3 at K ⊢; generalize w2.heap.size=B2 at *; clear w2
 have c0:=(K.get _ _ _ _ (mI 2 rfl)).cell 0 JK; have c1:=(K.get _ _ _ _ (mI 2 rfl)).cell 1 JK; have c2:=(K.get _ _ _ _ (mI 2 rfl)).cell 2 JK; have c3:=(K.get _ _ _ _ (mI 2 rfl)).cell 3 JK; have c4:=(K.get _ _ _ _ (mI 2 rfl)).cell 4 JK; have z:=zP w3 187 w3.heap.size rfl; have s3:=K.size
 go_upto_region 4 with (refine ys .u64 3 (tri (d 2/4+d 3%4*4611686018427387904) (d 3/4+d 4%4*4611686018427387904) (d 4/4)) (uN (z)) (yP _) ?_)
 replace K:=K.fresh .u64 3 (tri (d 2/4+d 3%4*4611686018427387904) (d 3/4+d 4%4*4611686018427387904) (d 4/4)) #[.int .u64 0,.int .u64 0,.int .u64 0] 187 z.there; clear c0 c1 c2 c3 c4 z
 generalize ((w3.alloc (.cells #[.int .u64 0,.int .u64 0,.int .u64 0] 187)).setCells w3.heap.size 0 (row .u64 3 (tri (d 2/4+d 3%4*4611686018427387904) (d 3/4+d 4%4*4611686018427387904) (d 4/4))))=w4 at K ⊢; generalize w3.heap.size=B3 at *; clear w3; clear a2 n2 o2 o3
 obtain ⟨⟨_,k4,k5⟩,l1,l2,l3,hE⟩:=HL.out
 obtain ⟨i0,i1,i2,i3,i4⟩:=HI.out
 have iA:In W 3 (tri (d 0) (d 1) (d 2%4)):=dG i0 i1 Vf
 have iB:In W 3 (tri (d 2-d 2%4) (d 3) (d 4)):=dG GQ i3 Vf
 have iC:In W 3 (tri (d 2/4+d 3%4*4611686018427387904) (d 3/4+d 4%4*4611686018427387904) (d 4/4)):=dG GQ GQ Vf
 clear HL HI k4 k5 i0 i1 i2 i3 i4; generalize tri (d 2/4+d 3%4*4611686018427387904) (d 3/4+d 4%4*4611686018427387904) (d 4/4)=c at *; generalize tri (d 2-d 2%4) (d 3) (d 4)=b at *; generalize tri (d 0) (d 1) (d 2%4)=a at *
 refine wD (S:=fun w'=>Kr w _ [(B3,.u64,3,c),(B2,.u64,3,b),(B1,.u64,3,a),(w.heap.size,.u64,6,d)] [(w.heap.size+1,3)] w') JU K.drew ?_; clear K; intro K
 refine j8c (i:=0) (some 40) rfl .u64 3 a B1 0 187 _ _ rfl rfl rfl rfl JU JU JU (fun _ _ _ h=>h) Tryz.underlying187 rfl (xD _) K (fun _ h=>(h.get _ _ _ _ (mI 2 rfl)).range) ?_; simp only [Act.put,List.setIfInBounds_toArray,List.set_cons_zero,List.set_cons_succ]
 refine j8c (i:=1) (some 41) rfl .u64 3 b B2 0 187 _ _ rfl rfl rfl rfl JU JU JU (fun _ _ _ h=>h) Tryz.underlying187 rfl (xD _) K (fun _ h=>(h.get _ _ _ _ (mT _ mS)).range) ?_; simp only [Act.put,List.setIfInBounds_toArray,List.set_cons_zero,List.set_cons_succ]
 refine j8c (i:=3) (some 43) rfl .u64 3 c B3 0 187 _ _ rfl rfl rfl rfl JU JU JU (fun _ _ _ h=>h) Tryz.underlying187 rfl (xD _) K (fun _ h=>(h.get _ _ _ _ mS).range) ?_; simp only [Act.put,List.setIfInBounds_toArray,List.set_cons_zero,List.set_cons_succ]
 refine yaH 2 42 (pJ a b iA iB (by rw [W3]; omega) _) ?_; rintro e w5 ⟨m1,rfl,t1,l⟩; replace K:=K.call l; clear l
 refine ⟨_,rfl,K,?_⟩
 simp only [Act.put,List.setIfInBounds_toArray,List.set_cons_zero,List.set_cons_succ]; refine yaH 4 44 (pJ m1 c t1.1 iC (by rw [W3]; omega) _) ?_; rintro e w6 ⟨m2,rfl,t2,l⟩; replace K:=K.call l; clear l
 refine ⟨_,rfl,K,?_⟩
 simp only [Act.put,List.setIfInBounds_toArray,List.set_cons_zero,List.set_cons_succ]
 refine yaH 5 45 (dC m2 t2.1 (by
  have v:=v3 m2; have p0:=t2.1 0 JK; have p1:=t2.1 1 JK; have e1:=t1.2; have e2:=t2.2; generalize m2 0=x0 at *; generalize m2 1=x1 at *; generalize m2 2=x2 at *; omega) _) ?_
 rintro e w7 ⟨m,rfl,t3,l⟩; replace K:=K.call l; clear l
 refine ⟨_,rfl,K,?_⟩
 simp only [Act.put,List.setIfInBounds_toArray,List.set_cons_zero,List.set_cons_succ]; refine xX (i:=6) none rfl .u64 3 m (w.heap.size+1) 187 _ _ JU rfl rfl rfl rfl rfl (K.roomy _ _ _ _ mS) (yP _) (K.fill _ _ mS _) ?_
 refine wE JU ?_ _
 have HE:=show Hid _ from (And.intro t3.1 (show val W m 3%Q=val W d 6%Q by rw [t3.2,t2.2,t1.2,hE])); have hz:=(K.room _ mS).1; have hB:=(K.fill _ _ mS (row .u64 3 m)).below; clear t1 t2 t3 hE K; go_wp2
 exact bRq (v:=(.agg (row .u64 3 (m)).toArray)) (jQ Tryz.results176 rfl (Has.all hz .u64 m).range Tryz.underlying187 rfl (xD m)) rfl ⟨m,rfl,HE.out,hB⟩
theorem gK (M:Int) (f:Nat→Int) (n:Nat):val M f (n+1)=val M f n+M^n*f n:=rfl
theorem gH (M:Int) (f:Nat→Int) (i:Nat) (x:Int):∀ n,i<n→val M (upd f i x) n=val M f n+(M^i*x-M^i*f i)
 | 0,h=>by omega
 | n+1,h=>by
   simp only [val]
   by_cases e:i=n
   · subst e; rw [zK _ _ _ _ _ (xnR i),jP]; omega
   · rw [gH M f i x n JK,jR _ _ _ _ JK]; omega
structure RInv (a b:Nat→Int) (w:World) (k j:Nat) (d:Nat→Int) (cv:Int) (w':World):Prop where
 c0:0≤cv
 c1:cv<W
 inn:In W 6 d
 zero:∀ t,3+k≤t→d t=0
 eq:val W d (3+k)+W^(k+j)*cv=val W a k*val W b 3+W^k*a k*val W b j
 ha:Has w' w.heap.size .u64 3 a
 hb:Has w' (w.heap.size+1) .u64 3 b
 hr:Has w' (w.heap.size+1+1) .u64 3 (fun _=>0)
 hd:Has w' (w.heap.size+1+1+1) .u64 6 d
 fr:Fr w 4 w'
theorem RInv.step {a b:Nat→Int} {w:World} {k j:Nat} {d:Nat→Int} {cv h l:Int} {w':World} (hI:RInv a b w k j d cv w') (hk:k<3) (hj:j<3) (hs:dY (a k) (b j) (d (k+j)) cv h l) :
 RInv a b w k (j+1) (upd d (k+j) l) h ((w'.setCell ⟨w.heap.size+1+1+1,k+j,none⟩ (.int .u64 l)).drew):=by
 obtain ⟨s0,s1,s2,s3,s4⟩:=hs
 refine ⟨s0,s1,hI.inn.upd _ l s2 s3,fun t ht=>?_,?_,(hI.ha.set_other _ _ Ji).drew,(hI.hb.set_other _ _ Ji).drew,(hI.hr.set_other _ _ Jf).drew,(hI.hd.set _ JK _).drew,(hI.fr.set _ _ Ji).drew⟩
 · rw [jR _ _ _ _ JK]; exact hI.zero t ht
 rw [gH _ _ _ _ _ JK,gK W b j]
 have e0:W^(k+(j+1))*h=W^(k+j)*(h*W):=by rw [← Nat.add_assoc,Int.pow_succ,Int.mul_assoc,Int.mul_comm W h]
 have e1:W^(k+j)*(h*W)+W^(k+j)*l=W^(k+j)*(a k*b j)+W^(k+j)*d (k+j)+W^(k+j)*cv:=by
  rw [← Int.mul_add,← Int.mul_add,← Int.mul_add,s4]
 exact XV
theorem RInv.next {a b:Nat→Int} {w:World} {k:Nat} {d:Nat→Int} {cv:Int} {w':World} (hI:RInv a b w k 3 d cv w') (hk:k<3) :
 RInv a b w (k+1) 0 (upd d (k+3) cv) 0 (w'.setCell ⟨w.heap.size+1+1+1,k+3,none⟩ (.int .u64 cv)):=by
 refine ⟨Int.le_refl 0,by decide,hI.inn.upd _ cv hI.c0 hI.c1,fun t ht=>?_,?_,hI.ha.set_other _ _ Ji,hI.hb.set_other _ _ Ji,hI.hr.set_other _ _ Jf,hI.hd.set _ JK _,hI.fr.set _ _ Ji⟩
 · rw [jR _ _ _ _ JK]; exact hI.zero t JK
 have e:3+(k+1)=(k+3)+1:=by omega
 have e2:=hI.eq
 rw [Nat.add_comm 3 k] at e2
 rw [e,gK W _ (k+3),zK _ _ _ _ _ (xnR _),jP,gK W a k,Int.add_mul,e2,Int.mul_zero,show val W b 0=0 from rfl,Int.mul_zero]
theorem q1j (w:World) (t:TypeId) (b:Nat) (hb:b=w.heap.size):Has (w.alloc (.cells x1i t)) b .u64 6 (fun _=>0):=Has.new w .u64 6 (fun _=>0) t b hb
theorem j2o (M:Int):∀ n,val M (fun _=>0) n=0
 | 0=>rfl
 | n+1=>by simp [val,j2o M n]
theorem j2f (a b:Nat→Int) (ha:In W 3 a) (hb:In W 3 b) (fa:val W a 3≤FB) (fb:val W b 3≤FB) (w:World) :
 Calls Tryz.prog 166 #[(.agg (row .u64 3 (a)).toArray),(.agg (row .u64 3 (b)).toArray)] w fun e w'=>∃ m:Nat→Int,e=.returned (.agg (row .u64 3 (m)).toArray)∧(sF m∧val W m 3%Q=(val W a 3*val W b 3)%Q)∧Below w.heap.size w w':=by
 go_enter Tryz.func166,Tryz.ntmps166
 go_wp2
 go_loopw [9] (fun i w'=>∃ (k:Nat) (d:Nat→Int),k≤3∧i=.int .i64 k∧RInv a b w k 0 d 0 w') (fun i _=>3-(intOf i).toNat)
 case atStart =>
  exact ⟨0,fun _=>0,by omega,rfl,⟨by omega,by decide,fun _ _=>⟨Int.le_refl 0,by decide⟩,fun _ _=>rfl,by simp [val],(((Has.new w _ _ _ _ _ rfl).alloc _ Jf).alloc _ Ji).alloc _ Ji,((Has.new _ _ _ _ _ _ Jf).alloc _ Jf).alloc _ Jf,(zP _ _ _ Jf).alloc _ Jf,q1j _ _ _ Jf,((((Fr.refl w).alloc _).alloc _).alloc _).alloc _⟩⟩
 case round =>
  obtain ⟨k,d0,hk,rfl,hO⟩:=hrel; by_cases hlt:k<3
  · obtain ⟨wo,rfl⟩:∃ wo:World,wo=wr:=⟨_,rfl⟩
    have g1:(0:Int)≤(k:Int):=by omega
    have g2:(k:Int)<3:=by omega
    go_wp2; go_loopw [7,12] (fun c i w'=>∃ (j:Nat) (d:Nat→Int) (cv:Int),j≤3∧i=.int .i64 j∧c=.int .u64 cv∧RInv a b w k j d cv w') (fun _ i _=>3-(intOf i).toNat)
    case atStart=>exact ⟨0,d0,0,by omega,rfl,rfl,hO⟩
    case round =>
     obtain ⟨j,d,cv,hj,rfl,rfl,hI⟩:=hrel; clear hO; by_cases hlt2:j<3
     · have c1:=hI.ha.cell k hlt; have c2:=hI.hb.cell j hlt2; have c3:=hI.hd.cell (k+j) JK; have f1:=hI.hd.free (k+j) JK; have g3:(0:Int)≤(j:Int):=by omega
       have g4:(j:Int)<3:=by omega
       have g5:(0:Int)≤(k:Int)+(j:Int):=by omega
       have g6:(k:Int)+(j:Int)<6:=by omega
       have g7:((k:Int)+(j:Int)).toNat=k+j:=by omega
       have g8:IntKind.i64.wrap ((k:Int)+(j:Int))=(k:Int)+(j:Int):=by rw [xw6]; omega
       have HS:=show Hid _ from fun (h l:Int) (hs:dY (a k) (b j) (d (k+j)) cv h l)=>hI.step hlt hlt2 hs; have HC:=show Hid _ from fun W'=>bG (a k) (b j) (d (k+j)) cv (ha k hlt).1 (ha k hlt).2 (hb j hlt2).1 (hb j hlt2).2 (hI.inn (k+j) JK).1 (hI.inn (k+j) JK).2 hI.c0 hI.c1 W'; clear hI; generalize a k=x at *; generalize b j=y at *
       generalize d (k+j)=z at *; go_wp2; go_region_with (go_at_call 103; refine (HC.out _).mono ?_; rintro e w' ⟨h,l,rfl,hs,rfl⟩)
       all_goals
        exact ZK
     obtain rfl:j=3:=by omega
     have hS:=hI.next hlt; have c3:=hI.hd.cell (k+3) JK; have f1:=hI.hd.free (k+3) JK; have g6:((k:Int)+3).toNat=k+3:=by omega
     clear hI; generalize d (k+3)=z at *; go_wp2; exact XJ
  obtain rfl:k=3:=by omega
  have hd:=hO.hd; have hz:=hO.hr; have he:val W d0 6=val W a 3*val W b 3:=by
   exact JX
  go_wp2_with (refine yl (hd) Tryz.underlying194 (q1k _) ?_); refine (q0y d0 hO.inn (by rw [he]; exact x2r fa (qE W JG b 3 hb).1 fb) _).mono ?_; rintro e w1 ⟨m,rfl,s1,l1⟩; have hz1:=hz.call hO.fr l1 JK; have hm:val W m 3%Q=(val W a 3*val W b 3)%Q:=by rw [s1.2,he]
  have HM:=show Hid _ from hm; clear he hm
  go_wp2_with (refine ys .u64 3 (m) (uN (hz1)) (yP _) ?_); exact bRq (v:=(.agg (row .u64 3 (m)).toArray)) (jQ Tryz.results166 rfl (Has.all hz1.there .u64 m).range Tryz.underlying187 rfl (xD m)) rfl ⟨m,rfl,⟨s1.1,HM.out⟩,((hO.fr.call l1).setAll _ JK _).below⟩
end Go.Proofs.YtknodlefhclijaaGreatDoor
