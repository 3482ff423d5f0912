/- Texts of Ze Zk Pd Id Zr Gw Gx Wr Ps Iy Nw Iz, joined. -/
import Derived.Test.YtknodlefhclijaaGreatDoorP12ShakePlays
import Derived.Lib.AppendZerosOnto
import Derived.Deep.DeepAppendWide
set_option maxRecDepth 20000
set_option maxHeartbeats 64000000
namespace Go.Proofs.YtknodlefhclijaaGreatDoor
open Go.RowKit
def shE:Except Int (List Int × Shk)→Int
 | .error e=>e
 | .ok _=>0
def shB:Except Int (List Int × Shk)→List Int
 | .error _=>[]
 | .ok p=>p.1
def shN (s:Shk):Except Int (List Int × Shk)→Shk
 | .error _=>s
 | .ok p=>p.2
structure yY (s:Shk):Prop where
 sec:In 256 32 s.sec
 drw:In 256 32 s.drw
 its:s.its.length=32∧Byts s.its
 drn:s.drn.length=32∧Byts s.drn
 st:SymW s.st
theorem zM {a b:Nat→Int} (h:¬ tm a b=0) (s:Sym):skd s a b=jZ s (lby (tm a b)):=if_neg h
theorem fQ {a b:Nat→Int} (h:¬ tm a b=0):ekd a b=0:=if_neg h
theorem xW {a b:Nat→Int} (h:tm a b=0):ekd a b=20:=if_pos h
theorem kM {a:Nat→Int} {B:List Int} (h:tm a (bl B)=0):LD.dh a B=none:=if_pos h
theorem xZ {a:Nat→Int} {B:List Int} (h:¬ tm a (bl B)=0):LD.dh a B=some (lby (tm a (bl B))):=if_neg h
theorem gZ {s:Shk} {t:List Int} (h:s.role≠0∨s.step≠0):shF LD s t=.error 4:=by unfold shF; rw [if_pos h]
theorem mR {s:Shk} {t:List Int} (h:¬ (s.role≠0∨s.step≠0)) (hl:128<t.length):shF LD s t=.error 2:=by unfold shF; rw [if_neg h,if_pos hl]
theorem bP {s:Shk} {t:List Int} (h:¬ (s.role≠0∨s.step≠0)) (hl:¬ 128<t.length) (h1:tm s.drw (bl s.its)=0):shF LD s t=.error 20:=by unfold shF; rw [if_neg h,if_neg hl,kM h1]
theorem j1e {s:Shk} {t:List Int} (h:¬ (s.role≠0∨s.step≠0)) (hl:¬ 128<t.length) (h1:¬ tm s.drw (bl s.its)=0) (h2:tm s.sec (bl s.its)=0):shF LD s t=.error 20:=by unfold shF; rw [if_neg h,if_neg hl,xZ h1,kM h2]
theorem kN {s:Shk} {t:List Int} (h:s.role≠1∨s.step≠1):shS LD s t=.error 4:=by unfold shS; rw [if_pos h]
theorem mF {s:Shk} {t:List Int} (h:¬ (s.role≠1∨s.step≠1)) (hl:128<t.length):shS LD s t=.error 2:=by unfold shS; rw [if_neg h,if_pos hl]
theorem j1d {s:Shk} {t:List Int} (h:¬ (s.role≠1∨s.step≠1)) (hl:¬ 128<t.length) (h1:tm s.drw (bl s.drn)=0):shS LD s t=.error 20:=by unfold shS; rw [if_neg h,if_neg hl,kM h1]
theorem j1c {s:Shk} {t:List Int} (h:¬ (s.role≠1∨s.step≠1)) (hl:¬ 128<t.length) (h1:¬ tm s.drw (bl s.drn)=0) (h2:tm s.drw (bl s.its)=0):shS LD s t=.error 20:=by unfold shS; rw [if_neg h,if_neg hl,xZ h1,kM h2]
theorem q7x (w0 w:World) (R:Nat) (l:List (Nat × List Value)) (s:Sym) (hsw:SymW s) (hn:s.n<4611686018427387904) (sp:Option Addr) (cap:Nat) (b:List Int) (hl:b.length=32) (hb:Byts b) (hnil:sp=none→cap=0) (M:Mm w0 ((R,stc s)::l) w) (hs:SrcA [R] w sp 32 (bl b)) :
 Calls Tryz.prog 41 #[.pointer (some ⟨R,0,none⟩),.slice sp 32 cap] w fun e w'=>(∃ v,e=.returned v∧OwnL w' w.heap.size (qG s b) v)∧Mm w0 ((R,stc (qN s b))::l) w'∧Off [R] w w':=by
 have:=mL w0 w R l s hsw hn sp cap b WW hnil hb M WY
 rw [hl] at this
 exact this
theorem j3t {w:World} {base:Nat} {b:List Int} {v:Value} (h:Own w base 5 .u8 (0+b.length) (app (fun _=>0) 0 (bl b)) v):OwnL w base b v:=by
 unfold OwnL
 rw [nZ] at h
 exact h.congr fun j _=>by unfold app; rw [if_neg (xnZ j),Nat.sub_zero]
theorem Byts.bl32 {b:List Int} (h:Byts b) (hl:b.length=32):In 256 32 (Go.Proofs.YtknodlefhclijaaGreatDoor.bl b):=fun j hj=>h.bl j JK
def shO (s:Shk):Bool:=decide (s.role=0∨0<s.step)
def shK (s:Shk):List Value:=if s.step=2 then [row .u8 32 (kA s.st.c 0 (bl [])),row .u8 32 (kB s.st.c 0 (bl []))].flatten else [row .u8 32 (fun _=>0),row .u8 32 (fun _=>0)].flatten
def shD (s:Shk):Bool:=decide (s.step=2)
theorem j5t (w0 w:World) (R Q:Nat) (l:List (Nat × List Value)) (s:Shk) (M:Mm w0 ((R,shc s Q)::(Q,stc s.st)::l) w) :
 Calls Tryz.prog 12 #[.pointer (some ⟨R,0,none⟩)] w fun e w'=>e=.returned (.tuple #[(.agg (row .u8 32 (bl s.its)).toArray),.bool (shO s)])∧Below w.heap.size w w':=by
 replace M:Mm w0 ((R,kf7 (s.role:Int) (s.step:Int) s.sec s.drw (bl s.its) (bl s.drn) Q)::(Q,stc s.st)::l) w:=M
 have hb0:=M.below; have hwz:=xnR w.heap.size; have OF:=Off.refl [] w
 go_enter Tryz.func12,Tryz.ntmps12
 go_upto_region 0 with fail; refine wR ?_; refine nbO (row .u8 32 (fun _=>0)) 23 M hwz OF ?_; clear M hwz OF; intro w1 B1 hB_B1 M hwz OF
 refine xmL (xT ?_); go_upto_region 1 with fail; refine hdE M hwz OF ?_; clear M hwz OF; intro w2 M hwz OF; refine xmH 0 4 ⟨_,M⟩ ?_; refine xrH 1 5 rfl (.pointer (some ⟨R,0,none⟩)) (fun _ ⟨_,M⟩=>JU) ⟨_,M⟩ ?_
 refine xrH 2 6 rfl (.pointer (some ⟨R,66,none⟩)) (fun _ ⟨_,M⟩=>JU) ⟨_,M⟩ ?_
 refine xrH 3 7 rfl _ (fun _ ⟨_,M⟩=>jD 23 _ _ _ rfl rfl JW JH (M.part (mT _ mS) 66 _ (qU _ [1,1,32,32,32,32,1] YH 4 66 _ rfl rfl))) ⟨_,M⟩ ?_
 refine xmH 4 8 ⟨_,M⟩ ?_; refine xrH 5 9 rfl (.pointer (some ⟨R,0,none⟩)) (fun _ ⟨_,M⟩=>JU) ⟨_,M⟩ ?_; refine xrH 6 10 rfl (.pointer (some ⟨R,0,none⟩)) (fun _ ⟨_,M⟩=>JU) ⟨_,M⟩ ?_
 refine xrH 7 11 rfl _ (fun _ ⟨_,M⟩=>qL 3 _ _ _ rfl rfl JW (M.get (mT _ mS) 0 _ (xV _ [1,1,32,32,32,32,1] YH 0 0 _ rfl rfl))) ⟨_,M⟩ ?_
 obtain ⟨b1,hb1⟩:∃ y_,y_=(((s.role:Int):Int) == (0:Int)):=⟨_,rfl⟩
 refine xrH 8 12 rfl (.bool b1) (fun _ ⟨_,M⟩=>kS .i64 _ _ _ _ _ _ rfl rfl rfl b1 hb1.symm _) ⟨_,M⟩ ?_; refine xmH 9 13 ⟨_,M⟩ ?_
 refine q4f (i:=10) (some 14) rfl (!b1) (.pointer (some ⟨R,0,none⟩)) ((bif b1 then undef else (.pointer (some ⟨R,0,none⟩)))) rfl Jn Jn Vz JU JU JU (fun _ _ _ h=>h) ⟨_,M⟩ ?_
 simp only [aP,lI,l0,lS]
 refine q4f (i:=11) (some 15) rfl (!b1) (.pointer (some ⟨R,0,none⟩)) ((bif b1 then undef else (.pointer (some ⟨R,0,none⟩)))) rfl Jn Jn Vz JU JU JU (fun _ _ _ h=>h) ⟨_,M⟩ ?_
 simp only [aP,lI,l0,lS]
 refine q4f (i:=12) (some 16) rfl (!b1) (.pointer (some ⟨R,1,none⟩)) ((bif b1 then undef else (.pointer (some ⟨R,1,none⟩)))) rfl Jn Jn Vz JU JU JU (fun _ _ _ h=>h) ⟨_,M⟩ ?_
 simp only [aP,lI,l0,lS]
 refine q4f (i:=13) (some 17) rfl (!b1) (.int .i64 (s.step:Int)) ((bif b1 then undef else (.int .i64 (s.step:Int)))) rfl Jn Jn (fun hc _ ⟨_,M⟩=>by cases b1 <;> first | (cases hc; done) | exact (qL 3 _ ⟨R,1,none⟩ _ rfl rfl JW (M.get (mT _ mS) 1 _ (xV _ [1,1,32,32,32,32,1] YH 1 1 _ rfl rfl)))) JU JU JU (fun _ _ _ h=>h) ⟨_,M⟩ ?_
 simp only [aP,lI,l0,lS]
 obtain ⟨b2,hb2⟩:∃ y_,y_=(decide ((s.step:Int)>0)):=⟨_,rfl⟩
 refine q4f (i:=14) (some 18) rfl (!b1) (.bool b2) ((bif b1 then undef else (.bool b2))) rfl Jn Jn (fun hc _ ⟨_,M⟩=>by cases b1 <;> first | (cases hc; done) | exact (lZ .i64 _ _ _ _ _ _ rfl rfl rfl b2 hb2.symm _)) JU JU JU (fun _ _ _ h=>h) ⟨_,M⟩ ?_
 simp only [aP,lI,l0,lS]
 obtain ⟨b3,hb3⟩:∃ y_,y_=(b1 || b2):=⟨_,rfl⟩
 refine xrH 15 19 rfl (.bool b3) (fun _ ⟨_,M⟩=>by subst hb3; cases b1 <;> rfl) ⟨_,M⟩ ?_
 refine wC (i:=16) none rfl JU rfl rfl (jC (row .u8 32 (bl s.its)) B1 0 23 _ _ rfl rfl rfl (M.thereP mS 0 32 (nB rfl)) JU (jT .u8 32 (bl s.its))) ⟨_,M.setAll (row .u8 32 (bl s.its)) Jg⟩ ?_
 simp only [Act.put]; replace M:=M.setAll (row .u8 32 (bl s.its)) Jg; replace hwz:=xnT hwz (Off.size ((Off.refl [B1] _).setAll (b:=B1) mS 0 (row .u8 32 (bl s.its)))); replace OF:=OF.and1 ((Off.refl [B1] _).setAll (b:=B1) mS 0 (row .u8 32 (bl s.its))) (.inr JK)
 generalize w2.setCells B1 0 (row .u8 32 (bl s.its))=w3 at M hwz OF ⊢; refine xmH 17 3 ⟨_,M⟩ ?_
 refine wE JU ?_ _
 first | show Exit.then _ _ _ _ _ | show Exit.inBlock _ _ _ _ _
 have hst0:shO s=b3:=by
  rw [hb3,hb2,hb1]; unfold shO; by_cases r0:s.role=0 <;> by_cases s0:s.step=0 <;> simp [r0,s0] <;> omega
 have hst:=show Hid _ from hst0; clear hst0
 try clear hb1
 try clear hb2
 try clear hb3
 have c1_:=M.part mS 0 (row .u8 32 (bl s.its)) Jd
 have hbel:Below w.heap.size w w3:=⟨M.below.os.trans hb0.os.symm,M.below.tape.trans hb0.tape.symm,M.below.output.trans hb0.output.symm,OF.size,fun b hb=>OF.blk b hb VZ⟩
 clear M OF; go_wp2; refine bRq (v:=.tuple #[(.agg (row .u8 32 (bl s.its)).toArray),.bool b3]) (uU 2 3 23 ⟨B1,0,none⟩ (row .u8 32 (bl s.its)) _ rfl rfl rfl JW JH c1_) rfl ?_
 exact ⟨by rw [hst.out],hbel⟩
theorem q0i (w0 w:World) (R Q:Nat) (l:List (Nat × List Value)) (s:Shk) (hw:yY s) (M:Mm w0 ((R,shc s Q)::(Q,stc s.st)::l) w) :
 Calls Tryz.prog 10 #[.pointer (some ⟨R,0,none⟩)] w fun e w'=>e=.returned (.tuple #[.agg (shK s).toArray,.bool (shD s)])∧Below w.heap.size w w':=by
 replace M:Mm w0 ((R,kf7 (s.role:Int) (s.step:Int) s.sec s.drw (bl s.its) (bl s.drn) Q)::(Q,stc s.st)::l) w:=M
 have hb0:=M.below; have hwz:=xnR w.heap.size; have OF:=Off.refl [] w
 go_enter Tryz.func10,Tryz.ntmps10
 go_upto_region 0 with fail; refine wR ?_; refine nbO (kf2 (fun _=>0) (fun _=>0)) 41 M hwz OF ?_; clear M hwz OF; intro w1 B1 hB_B1 M hwz OF
 refine xmL (xT ?_)
 by_cases h2:s.step=2
 · replace h2:=show Hid _ from h2
   go_upto_region 1 with fail; refine wR (xmL ?_); refine xpL (.pointer (some ⟨R,0,none⟩)) ?_; refine xpL (.pointer (some ⟨R,1,none⟩)) ?_; refine xaL _ (qL 3 _ _ _ rfl rfl JW (M.get (mT _ mS) 1 _ (xV _ [1,1,32,32,32,32,1] YH 1 1 _ rfl rfl))) ?_; refine xaL (.bool false) (xE .i64 _ _ _ _ _ _ rfl rfl rfl false (by rw [h2.out]; rfl) _) (xT ?_); go_upto_region 3 with fail; refine wR (xmL ?_); refine xpL (.pointer (some ⟨R,0,none⟩)) ?_; refine xpL (.pointer (some ⟨R,130,none⟩)) ?_; refine xaL _ (qL 62 _ _ _ rfl rfl JW (M.get (mT _ mS) 130 _ (xV _ [1,1,32,32,32,32,1] YH 6 130 _ rfl rfl))) ?_; replace M:=M.rot3; refine clO (j5s w0 _ Q _ s.st hw.st.c M) M hwz OF ?_; clear M hwz OF; intro w2 M hwz OF; refine xm3 ?_; refine nbO (row .u8 32 (fun _=>0)) 23 M hwz OF ?_; clear M hwz OF; intro w3 B3 hB_B3 M hwz OF; refine nbO (row .u8 32 (fun _=>0)) 23 M hwz OF ?_; clear M hwz OF; intro w4 B4 hB_B4 M hwz OF; replace M:=M.swap; refine jG rfl (jC (row .u8 32 (kA s.st.c 0 (bl []))) B3 0 23 _ _ rfl rfl rfl (M.thereP mS 0 32 (nB rfl)) JU (jT .u8 32 (kA s.st.c 0 (bl [])))) ?_; simp only [Act.put]; replace M:=M.setAll (row .u8 32 (kA s.st.c 0 (bl []))) Jg; replace hwz:=xnT hwz (Off.size ((Off.refl [B3] _).setAll (b:=B3) mS 0 (row .u8 32 (kA s.st.c 0 (bl []))))); replace OF:=OF.and1 ((Off.refl [B3] _).setAll (b:=B3) mS 0 (row .u8 32 (kA s.st.c 0 (bl [])))) (.inr JK); generalize w4.setCells B3 0 (row .u8 32 (kA s.st.c 0 (bl [])))=w5 at M hwz OF ⊢; replace M:=M.swap; refine jG rfl (jC (row .u8 32 (kB s.st.c 0 (bl []))) B4 0 23 _ _ rfl rfl rfl (M.thereP mS 0 32 (nB rfl)) JU (jT .u8 32 (kB s.st.c 0 (bl [])))) ?_; simp only [Act.put]; replace M:=M.setAll (row .u8 32 (kB s.st.c 0 (bl []))) Jg; replace hwz:=xnT hwz (Off.size ((Off.refl [B4] _).setAll (b:=B4) mS 0 (row .u8 32 (kB s.st.c 0 (bl []))))); replace OF:=OF.and1 ((Off.refl [B4] _).setAll (b:=B4) mS 0 (row .u8 32 (kB s.st.c 0 (bl [])))) (.inr JK); generalize w5.setCells B4 0 (row .u8 32 (kB s.st.c 0 (bl [])))=w6 at M hwz OF ⊢; refine xT ?_; go_upto_region 4 with fail; refine wR ?_; refine zV (.agg (row .u8 32 (kA s.st.c 0 (bl []))).toArray) rfl (jD 23 _ ⟨B3,0,none⟩ (row .u8 32 (kA s.st.c 0 (bl []))) rfl rfl JW JH (M.part (mT _ mS) 0 _ Jd)) (nL ?_); refine zV (.agg (row .u8 32 (kB s.st.c 0 (bl []))).toArray) rfl (jD 23 _ ⟨B4,0,none⟩ (row .u8 32 (kB s.st.c 0 (bl []))) rfl rfl JW JH (M.part mS 0 _ Jd)) (nL ?_); refine xpL (.agg (kf2 (kA s.st.c 0 (bl [])) (kB s.st.c 0 (bl []))).toArray) ?_; replace M:=M.rot4; refine jG rfl (jC (kf2 (kA s.st.c 0 (bl [])) (kB s.st.c 0 (bl []))) B1 0 41 _ _ rfl rfl rfl (M.thereP mS 0 64 (by rw [qY _ [32,32] YH]; decide)) (by rw [xA,qY _ [32,32] YH]; kernel_rfl) (zF _ (fun p_ hp_=>by
    simp only [List.mem_cons,List.not_mem_nil,or_false] at hp_; rcases hp_ with rfl | rfl <;> exact jT .u8 32 _))) ?_
   simp only [Act.put]; replace M:=M.setAll (kf2 (kA s.st.c 0 (bl [])) (kB s.st.c 0 (bl []))) Uz; replace hwz:=xnT hwz (Off.size ((Off.refl [B1] _).setAll (b:=B1) mS 0 (kf2 (kA s.st.c 0 (bl [])) (kB s.st.c 0 (bl []))))); replace OF:=OF.and1 ((Off.refl [B1] _).setAll (b:=B1) mS 0 (kf2 (kA s.st.c 0 (bl [])) (kB s.st.c 0 (bl [])))) (.inr JK); generalize w6.setCells B1 0 (kf2 (kA s.st.c 0 (bl [])) (kB s.st.c 0 (bl [])))=w7 at M hwz OF ⊢; refine xpL (.bool true) (xT ?_); have hK:=show Hid (shK s=(kf2 (kA s.st.c 0 (bl [])) (kB s.st.c 0 (bl [])))) from if_pos h2.out; have hD:=show Hid (shD s=true) from decide_eq_true h2.out
   have c1_:=M.part mS 0 (kf2 (kA s.st.c 0 (bl [])) (kB s.st.c 0 (bl []))) Jd; have hbel:Below w.heap.size w w7:=⟨M.below.os.trans hb0.os.symm,M.below.tape.trans hb0.tape.symm,M.below.output.trans hb0.output.symm,OF.size,fun b hb=>OF.blk b hb VZ⟩
   clear M OF h2; go_wp2; refine bRq (v:=.tuple #[.agg (kf2 (kA s.st.c 0 (bl [])) (kB s.st.c 0 (bl []))).toArray,.bool true]) (uU 2 3 41 ⟨B1,0,none⟩ (kf2 (kA s.st.c 0 (bl [])) (kB s.st.c 0 (bl []))) _ rfl rfl rfl JW (fun _=>by rw [qY _ [32,32] YH]; kernel_rfl) c1_) rfl ?_; exact ⟨by rw [hK.out,hD.out],hbel⟩
 replace h2:=show Hid _ from h2
 go_upto_region 1 with fail; refine wR (xmL ?_); refine xpL (.pointer (some ⟨R,0,none⟩)) ?_; refine xpL (.pointer (some ⟨R,1,none⟩)) ?_; refine xaL _ (qL 3 _ _ _ rfl rfl JW (M.get (mT _ mS) 1 _ (xV _ [1,1,32,32,32,32,1] YH 1 1 _ rfl rfl))) ?_
 refine xaL (.bool true) (xE .i64 _ _ _ _ _ _ rfl rfl rfl true (by rw [bne_iff_ne]; exact fun h_=>h2.out (Int.ofNat_inj.1 h_)) _) ?_
 refine xT ?_; go_upto_region 2 with fail; refine wR (xpL (.agg (kf2 (fun _=>0) (fun _=>0)).toArray) ?_)
 refine jG rfl (jC (kf2 (fun _=>0) (fun _=>0)) B1 0 41 _ _ rfl rfl rfl (M.thereP mS 0 64 (by rw [qY _ [32,32] YH]; decide)) (by rw [xA,qY _ [32,32] YH]; kernel_rfl) (zF _ (fun p_ hp_=>by
  simp only [List.mem_cons,List.not_mem_nil,or_false] at hp_; rcases hp_ with rfl | rfl <;> exact jT .u8 32 _))) ?_
 simp only [Act.put]; replace M:=M.setAll (kf2 (fun _=>0) (fun _=>0)) Uz
 replace hwz:=xnT hwz (Off.size ((Off.refl [B1] _).setAll (b:=B1) mS 0 (kf2 (fun _=>0) (fun _=>0)))); replace OF:=OF.and1 ((Off.refl [B1] _).setAll (b:=B1) mS 0 (kf2 (fun _=>0) (fun _=>0))) (.inr JK); generalize w1.setCells B1 0 (kf2 (fun _=>0) (fun _=>0))=w8 at M hwz OF ⊢
 refine xpL (.bool false) (xT ?_); have hK:=show Hid (shK s=(kf2 (fun _=>0) (fun _=>0))) from if_neg h2.out; have hD:=show Hid (shD s=false) from decide_eq_false h2.out; have c1_:=M.part mS 0 (kf2 (fun _=>0) (fun _=>0)) Jd
 have hbel:Below w.heap.size w w8:=⟨M.below.os.trans hb0.os.symm,M.below.tape.trans hb0.tape.symm,M.below.output.trans hb0.output.symm,OF.size,fun b hb=>OF.blk b hb VZ⟩
 clear M OF h2; go_wp2
 refine bRq (v:=.tuple #[.agg (kf2 (fun _=>0) (fun _=>0)).toArray,.bool false]) (uU 2 3 41 ⟨B1,0,none⟩ (kf2 (fun _=>0) (fun _=>0)) _ rfl rfl rfl JW (fun _=>by rw [qY _ [32,32] YH]; kernel_rfl) c1_) rfl ?_
 exact ⟨by rw [hK.out,hD.out],hbel⟩
section
def x6f:Prop:=∀ (k:Nat→Int),In 256 32 k→∀ (sp:Option Addr) (len cap:Nat),len≤281474976710656→len≤cap→∀ z:Nat→Int,In 256 len z→∀ w:World,Glob w→Src w sp len z →
 Calls Tryz.prog 128 #[(.agg (row .u8 32 (k)).toArray),.slice sp len cap] w fun e w'=>∃ f:Nat→Int,e=.returned (.agg (row .u8 16 (f)).toArray)∧(In 256 16 f∧val 256 f 16=cH k len z)∧Below w.heap.size w w'
def x4g:Prop:=∀ a b:Nat→Int,In 256 16 a→In 256 16 b→∀ w:World,Glob w →
 Calls Tryz.prog 107 #[(.agg (row .u8 16 (a)).toArray),(.agg (row .u8 16 (b)).toArray)] w fun e w'=>e=.returned (.bool (decide (val 256 a 16=val 256 b 16)))∧Below w.heap.size w w'
section
variable {w w' w'':World} {m:Nat} {l:List (Nat × IntKind × Nat × (Nat→Int))} {R:List (Nat × Nat)} {sp:Option Addr} {len:Nat} {z:Nat→Int}
end
end
structure AGlob (w:World):Prop where
 h:HGlob w
 c:Glob w
theorem AGlob.size {w:World} (g:AGlob w):10≤w.heap.size:=g.h.size
theorem AGlob.below {w w':World} (g:AGlob w) {B:Nat} (l:Below B w w') (hB:10≤B):AGlob w':=⟨g.h.below l hB,g.c.below l hB⟩
def x0a:Prop:=∀ (k n:Nat→Int),In 256 32 k→In 256 12 n→∀ (bp:Option Addr) (bl bc:Nat),bl≤140737488351232→bl≤bc→(bp=none→bc=0)→∀ b:Nat→Int,In 256 bl b→∀ (sp:Option Addr) (len cap:Nat),len≤140737488351232→len≤cap→(sp=none→cap=0)→∀ z:Nat→Int,In 256 len z→∀ w:World,AGlob w→Src w bp bl b→Src w sp len z →
 Calls Tryz.prog 90 #[(.agg (row .u8 32 (k)).toArray),(.agg (row .u8 12 (n)).toArray),.slice bp bl bc,.slice sp len cap] w fun e w'=>∃ B cap',e=.returned (.slice (some ⟨B,0,none⟩) (len+16) cap')∧(len+16≤cap'∧w.heap.size≤B∧B<w'.heap.size∧Has w' B .u8 (len+16) (fV k n bl b len z))∧Below w.heap.size w w'
section
def j9v:Value→Nat
 | .slice _ _ c=>c
 | _=>0
section
variable {P:Program}
theorem lQ {w:World} {base:Nat} {t ty e:TypeId} {k:IntKind} {bytes n:Nat} {f:Nat→Int} {v:Value} (ht:P.underlying t=some (.slice e)) (he:One P e k bytes) (h:Own w base e k n f v)
 (sp:Option Addr) (m c:Nat) (hv:Nat→Int) (hs:∀ j,j<m→∃ ad,sp=some ad∧w.cell? (ad.add j)=some (.int k (hv j))) (hz:sp=none→c=0) (hroom:n+m≤j9v v) :
 ∃ v' w',(Builtin.append_ #[t,t] ty #[v,.slice sp m c]).run P w=.ok v' w'∧Own w' base e k (n+m) (app f n hv) v'∧w.grownBy w' v.ownBlock∧j9v v'=j9v v∧v'.ownBlock=v.ownBlock:=by
 obtain ⟨i,hi,hq⟩:=Option.map_eq_some_iff.1 he.info
 simp only [Prod.mk.injEq] at hq
 obtain ⟨_,_,h3⟩:=hq
 cases sp with
 | none =>
   have hm:m=0:=by
    rcases Nat.eq_zero_or_pos m with h0 | h0
    · exact h0
    obtain ⟨ad,e,_⟩:=hs 0 h0; cases e
   subst hm; obtain rfl:=hz rfl; exact ⟨v,w,run_append_owned_none (P:=P) (w:=w) base t ty e i 1 ht hi v n _ h,h.congr fun j hj=>by unfold app; rw [if_pos hj],⟨rfl,rfl,rfl,xnR _,fun _ _ _=>rfl⟩,rfl,rfl⟩
 | some ad =>
   have hnews:∀ j u,(row k m hv)[j]?=some u→w.cell? (ad.add j)=some u:=fun j u hu=>by
    obtain ⟨hj,rfl⟩:=xS hu; obtain ⟨ad',e',hc⟩:=hs j hj; injection e' with e'
    subst e'; exact hc
   have hml:(row k m hv).length=m*i.size:=by rw [jX,h3,Nat.mul_one]
   have hlen:(row k n f++row k m hv).length=(n+m)*1:=by rw [List.length_append,jX,jX,Nat.mul_one]
   rcases h.2 with ⟨rfl,rfl⟩ | ⟨g,cap,cur,rfl,hbg,hgg,hnc,hcm,hcs,htake⟩
   · have hm:m=0:=by simp only [j9v] at hroom; omega
     subst hm; refine ⟨.slice none 0 0,w,?_,h.congr fun j hj=>absurd hj (xnZ j),⟨rfl,rfl,rfl,xnR _,fun _ _ _=>rfl⟩,rfl,rfl⟩; simp [Builtin.append_,run_underlying ht,sizeOf,typeInfo,hi,Builtin.lenOf,Builtin.firstCells,loadCells,loadCellsFrom]
   have hroom':n+m≤cap:=hroom; have hr2:=run_append_room (P:=P) w t ty e i ht hi g n cap cur hgg ad m c (row k m hv) hml hnews (jT k m hv) hroom' (by rw [hml,hcs,h3]; omega); refine ⟨_,_,hr2,?_,⟨rfl,rfl,rfl,by simp,fun q _ hq=>setRow_other w g q _ (fun e=>hq (by simp [Value.ownBlock,e]))⟩,rfl,rfl⟩; unfold Own; rw [← j8b]; rw [Nat.mul_one] at htake hcs; refine ⟨hlen,.inr ⟨g,cap,_,rfl,hbg,setRow_heap w g cur _ e _ hgg,hroom',hcm,?_,?_⟩⟩
   · simp only [xA,List.length_append,List.length_take,List.length_drop,Array.length_toList,jX,h3,Nat.mul_one]; omega
   simp only [h3,Nat.mul_one,htake]; have e2:n+m=(row k n f++row k m hv).length:=by rw [hlen,Nat.mul_one]
   rw [e2]; exact List.take_left
theorem lJ {w:World} {t u ty e:TypeId} (ht:P.underlying t=some (.slice e)) (hu:P.underlying u=some (.int .i64)) (he:One P e .u8 1) (sp:Option Addr) (len:Nat) (z:Nat→Int) (hs:Src w sp len z) (m:Nat) (hm:m≤281474976710656) (hl:len+m+(len+m)/4+192≤281474976710656) :
 ∃ sp' cap' w',(Builtin.append_ #[t,u] ty #[.slice sp len len,.int .i64 (m:Int)]).run P w=.ok (.slice sp' (len+m) cap') w'∧len+m≤cap'∧Src w' sp' (len+m) (xJ len z)∧Below w.heap.size w w'∧(sp'=none→cap'=0):=by
 obtain ⟨i,hi,hq⟩:=Option.map_eq_some_iff.1 he.info
 simp only [Prod.mk.injEq] at hq
 obtain ⟨h1,h2,h3⟩:=hq
 rcases Nat.eq_zero_or_pos m with h0 | h0
 · subst h0; refine ⟨sp,len,w,?_,xnR _,hs.congr (fun j hj=>by unfold xJ; rw [if_pos hj]),Below.refl _ _,fun e=>hs.none e⟩; have hasI':∀ w,(asInt (.int .i64 0)).run P w=.ok 0 w:=fun w=>by simp [asInt,asIntOf]
   cases sp with
   | none=>simp [Builtin.append_,run_underlying ht,run_underlying hu,sizeOf,typeInfo,hi,h2,hasI',xw6]
   | some ad=>simp [Builtin.append_,run_underlying ht,run_underlying hu,sizeOf,typeInfo,hi,h2,hasI',xw6,storeCells]
 have hold:(Builtin.firstCells i.size len (.slice sp len len)).run P w.drew=.ok (row .u8 len z).toArray w.drew:=by
  cases sp with
  | none =>
    obtain rfl:=hs.none rfl; rfl
  | some ad =>
    rw [h3]; exact run_firstCells_some (P:=P) w.drew 1 len ad len len (row .u8 len z) (by rw [jX,Nat.mul_one]) (fun j u hj=>by
     obtain ⟨hjl,rfl⟩:=xS hj; obtain ⟨ad',he',hc⟩:=hs j hjl; injection he' with he'
     subst he'; exact hc)
 have hr:=Lib.run_append_grow_zeros (P:=P) w t u ty e i (.int .u8 0) .i64 .i64 ht hu hi h1 sp len len (row .u8 len z) hold m h0 (by rw [h3]; decide) JK JK (by rw [h2]; omega) (by rw [h2]; exact growslice_fits_wide JK JK); have hge:=grownCap_ge w (len+m) len e
 refine ⟨_,_,_,hr,hge,fun j hj=>⟨_,rfl,?_⟩,(Below.refl _ _).drew.alloc (xnR _) _,fun e=>by cases e⟩
 rw [Addr.add_mid,nZ]
 show (w.drew.alloc _).cell? ⟨w.drew.heap.size,j,none⟩=_
 rw [World.cell?_alloc_at _ _ _ _ rfl,j9q]
 unfold xJ
 by_cases ej:j<len
 · rw [if_pos ej]; rw [Array.append_assoc,Array.getElem?_append_left (by rw [xA,jX]; exact ej)]; simpa using xG .u8 len z j ej
 rw [if_neg ej]
 rw [Array.getElem?_append_left (by rw [Array.size_append,xA,xA,jX,jX]; exact hj),Array.getElem?_append_right (by rw [xA,jX]; omega),xA,jX]
 simpa using xG .u8 m (fun _=>0) (j-len) JK
end
section
variable {P:Program} {o:Oper} {a:Act}
theorem q5v {t:TypeId} (ht:P.underlying t=some (.slice (P.elem t))) (hsz:∀ w,(sizeOf (P.elem t)).run P w=.ok 1 w) (sp:Option Addr) (len cap:Nat) (hc:len≤cap) :
 ∃ sp',(∀ w,(Instr.sliceAt t (.slice sp len cap) none (some (.int .i64 (len:Int))) (some (.int .i64 (len:Int)))).run P w=.ok (.slice sp' len len) w)∧∀ w z,Src w sp len z→Src w sp' len z:=by
 refine ⟨if len=0 then sp else sp.map (·.add (0*1)),fun w=>?_,fun w z h j hj=>?_⟩
 · rw [run_sliceAt_slice w t _ _ _ _ ht,run_slice_hm w t sp len cap ht .i64 .i64 (len:Int) (len:Int) JK JK JK,hsz]; simp only [Result.andThen,sliced,Int.toNat_natCast,Nat.sub_zero]
 obtain ⟨ad,rfl,hc'⟩:=h j JK
 exact Zx
theorem q9d {w:World} (t:TypeId) (x y z:Operand) (p q r v:Value) (ho:o.op=.slice t x none (some y) (some z)) (hx:a.eval x=p) (hy:a.eval y=q) (hz:a.eval z=r) (hr:(Instr.sliceAt t p none (some q) (some r)).run P w=.ok v w) :
 (execOp a.eval o).run P w=.ok (.value v) w:=by
 unfold execOp
 simp only [ho,hx,hy,hz,Option.map_some,Option.map_none,Sem.run_bind,hr,xO,Sem.run_pure]
theorem j0e {w w':World} (s x:Operand) (t u:TypeId) (v n r:Value) (ho:o.op=.call { callee:=.builtin .append,args:=#[s,x],argTypes:=#[t,u] }) (hs:a.eval s=v) (hx:a.eval x=n) (hr:(Builtin.append_ #[t,u] o.type #[v,n]).run P w=.ok r w') :
 (execOp a.eval o).run P w=.ok (.value r) w':=by
 exact Xj
end
end
def tot (ln:Nat→Nat):Nat→Nat
 | 0=>0
 | j+1=>tot ln j+ln j
def j2h (ln:Nat→Nat) (zz:Nat→Nat→Int):Nat→Nat→Int
 | 0=>fun _=>0
 | j+1=>app (j2h ln zz j) (tot ln j) (zz j)
theorem bU (ln : Nat → Nat) {i : Nat} : ∀ {j : Nat}, i ≤ j → tot ln i ≤ tot ln j
  | 0, h => by obtain rfl : i = 0 := by omega
               exact xnR _
  | j + 1, h => by
    rcases Nat.lt_or_ge j i with h' | h'
    · obtain rfl : i = j + 1 := by omega
      exact xnR _
    · have := bU ln h'
      show _ ≤ tot ln j + ln j
      omega
theorem q4j {P:Program} {o:Oper} {a:Act} {w:World} (ty e:TypeId) (x:Operand) (p:Addr) (v:Value) (ho:o.op=.load ty x) (hx:a.eval x=.pointer (some p)) (hu:P.underlying ty=some (.slice e)) (hc:w.cell? p=some v):(execOp a.eval o).run P w=.ok (.value v) w:=by
 have hagg:(isAgg ty).run P w=.ok false w:=by
  exact Zu
 exact ZU
theorem q5t (g n cap:Nat) (w:World):(Instr.sliceAt 32 (.slice (some ⟨g,0,none⟩) n cap) none (some (.int .i64 0)) none).run Tryz.prog w=.ok (.slice (some ⟨g,0,none⟩) 0 cap) w:=by
 rw [run_sliceAt_slice w 32 _ _ _ _ JU,run_slice_h w 32 _ n cap JU .i64 0 JK JK,show (sizeOf (Tryz.prog.elem 32)).run Tryz.prog w=.ok 1 w by kernel_rfl]
 simp [Result.andThen,sliced,Addr.add_mid]
theorem q5f (n:Nat) (hn:n≤281474976710656) (w:World) :
 Calls Tryz.prog 91 #[.slice none 0 0,.int .i64 (n:Int)] w fun e w'=>∃ v,e=.returned v∧Own w' w.heap.size 5 .u8 0 (fun _=>0) v∧n≤j9v v∧Below w.heap.size w w':=by
 have h0:¬ (n:Int)<0:=by omega
 go_enter Tryz.func91,Tryz.ntmps91
 go_upto_region 3 with fail; clear h0; refine wR (xm2 ?_); refine xpL (.int .i64 0) ?_; refine xpL (.slice none 0 0) ?_; refine xpL (.int .i64 0) ?_; refine xpL (.int .i64 0) ?_; refine xqL (.int .i64 (n:Int)) YY ?_; refine xpL (.int .i64 (n:Int)) ?_
 show Exit.then _ _ _ _ _
 rcases Nat.eq_zero_or_pos n with hz | hz
 · subst hz; go_wp2; go_ret; exact ⟨.slice none 0 0,rfl,World.ownsRow_nil w _ _ 1,xnR _,Below.refl _ _⟩
 have g1:(0:Int)<(n:Int):=by omega
 go_upto_region 5 with fail; refine wR (xm2 ?_); refine xpL (.int .i64 0) ?_; refine xpL (.slice none 0 0) ?_; refine xpL (.int .i64 (n:Int)) ?_
 have h1:(Tryz.prog.info? 5).map (fun i=>(i.zero,i.bytes,i.size))=some (some (.int .u8 0),1,1):=by kernel_rfl
 obtain ⟨i,hi,he⟩:=Option.map_eq_some_iff.1 h1
 simp only [Prod.mk.injEq] at he
 obtain ⟨e1,e2,e3⟩:=he
 have hr:∀ ty,_:=fun ty=>Lib.run_append_nil_zeros (P:=Tryz.prog) w 32 3 ty 5 i (.int .u8 0) .i64 .i64 Tryz.underlying32 Tryz.underlying3 hi e1 n JK (by rw [e3]; decide) JK (by rw [e2]; omega)
 refine sS _ rfl (j0e _ _ 32 3 _ _ _ rfl rfl rfl (hr _)) ?_; clear hr; have hge:=grownCap_ge w n 0 5; have hle:=grownCap_le_maxLen w n 0 5 Jj
 have hz1:(Value.int .u8 0).cells.size=1:=rfl
 have hsz:(Builtin.zeroCells (Value.int .u8 0).cells n++Builtin.zeroCells (Value.int .u8 0).cells (grownCap w n 0 5-n)).size=grownCap w n 0 5*1:=by
  rw [Array.size_append,size_zeroCells,size_zeroCells,hz1]; omega
 have O:Own (w.drew.alloc (.cells (Builtin.zeroCells (Value.int .u8 0).cells n++Builtin.zeroCells (Value.int .u8 0).cells (grownCap w n 0 5-n)) 5)) w.heap.size 5 .u8 0 (fun _=>0) (.slice (some ⟨w.heap.size,0,none⟩) 0 (grownCap w n 0 5)) :=
  ⟨rfl,.inr ⟨w.heap.size,_,_,rfl,xnR _,heap_alloc_new w.drew _,Nat.zero_le _,hle,hsz,by rw [Nat.zero_mul,List.take_zero]; rfl⟩⟩
 have hB:Below w.heap.size w (w.drew.alloc (.cells (Builtin.zeroCells (Value.int .u8 0).cells n++Builtin.zeroCells (Value.int .u8 0).cells (grownCap w n 0 5-n)) 5)):=(Below.refl _ _).drew.alloc (xnR _) _
 generalize (w.drew.alloc (.cells (Builtin.zeroCells (Value.int .u8 0).cells n++Builtin.zeroCells (Value.int .u8 0).cells (grownCap w n 0 5-n)) 5))=w1 at O hB ⊢; clear hle hsz hz1 h1 hi e1 e2 e3; generalize grownCap w n 0 5=cp at O hge ⊢; generalize hg:w.heap.size=g at O hB ⊢; simp only [aP,lI,l0,lS]; refine xpL (.slice none 0 0) ?_; refine xpL (.int .i64 0) ?_
 refine xqL (.slice (some ⟨g,0,none⟩) 0 cp) (fun w'=>j0a _ _ _ _ _ _ rfl rfl rfl (q5t g n cp w')) ?_; refine xpL (.slice (some ⟨g,0,none⟩) 0 cp) ?_; subst hg; show Exit.then _ _ _ _ _; go_wp2; go_ret
 exact ⟨_,rfl,O,hge,hB⟩
structure CatIn (w:World) (p:Addr) (c:Nat) (sp:Nat→Option Addr) (ln cp:Nat→Nat) (zz:Nat→Nat→Int):Prop where
 cell:∀ j,j<c→w.cell? (p.add j)=some (.slice (sp j) (ln j) (cp j))
 src:∀ j,j<c→Src w (sp j) (ln j) (zz j)
 nil:∀ j,j<c→sp j=none→cp j=0
theorem CatIn.below {w w':World} {p:Addr} {c:Nat} {sp:Nat→Option Addr} {ln cp:Nat→Nat} {zz:Nat→Nat→Int} (h:CatIn w p c sp ln cp zz) (l:Below w.heap.size w w'):CatIn w' p c sp ln cp zz :=
 ⟨fun j hj=>by rw [l.cell (World.block_lt_of_cell? w _ (h.cell j hj))]; exact h.cell j hj,fun j hj=>(h.src j hj).below l (xnR _),h.nil⟩
structure x4i (w:World) (ln:Nat→Nat) (zz:Nat→Nat→Int) (c j:Nat) (s:Value) (w':World):Prop where
 own:Own w' w.heap.size 5 .u8 (tot ln j) (j2h ln zz j) s
 room:tot ln c≤j9v s
 below:Below w.heap.size w w'
theorem vK (p:Addr) (c c':Nat) (sp:Nat→Option Addr) (ln cp:Nat→Nat) (zz:Nat→Nat→Int) (hc:c<1000000) (ht:tot ln c≤281474976710656) (w:World) (hin:CatIn w p c sp ln cp zz) :
 Calls Tryz.prog 60 #[.slice (some p) c c'] w fun e w'=>∃ v,e=.returned v∧Own w' w.heap.size 5 .u8 (tot ln c) (j2h ln zz c) v∧Below w.heap.size w w':=by
 go_enter Tryz.func60,Tryz.ntmps60
 go_wp2
 go_loopw [3,11] (fun s i w'=>∃ j:Nat,j≤c∧s=.int .i64 ((tot ln j:Nat):Int)∧i=.int .i64 (j:Int)∧w=w') (fun _ i _=>c-(intOf i).toNat)
 case atStart=>exact ⟨0,Nat.zero_le _,rfl,rfl,rfl⟩
 case round =>
  obtain ⟨j,hj,rfl,rfl,rfl⟩:=hrel; by_cases hlt:j<c
  · have g1:(j:Int)<(c:Int):=by omega
    have hm:tot ln j+ln j≤tot ln c:=bU ln (show j+1≤c by omega); go_upto_region 4 with fail; refine wR (xqL (.pointer (some (p.add j))) (fun w=>mX 110 32 c c' .i64 p j _ _ Tryz.underlying110 JW hlt rfl rfl rfl w) ?_); refine xaL (.slice (sp j) (ln j) (cp j)) (q4j 32 5 _ (p.add j) _ rfl rfl Tryz.underlying32 (hin.cell j hlt)) ?_; refine xmL ?_; show Exit.then _ _ _ _ _
    go_upto_region 5 with fail; refine wR (xm2 ?_); refine xqL _ Jk ?_; refine xqL (.int .i64 ((tot ln (j+1):Nat):Int)) (fun w=>vM .i64 _ _ _ _ _ _ _ rfl rfl rfl (by rw [xw6]; show _=((tot ln j+ln j:Nat):Int); omega) w) ?_; refine xmL ?_; show Exit.then _ _ _ _ _
    have g2:¬ ((tot ln (j+1):Nat):Int)<0:=by omega
    clear hm; go_wp2; go_roundw
    case rel=>exact ⟨j+1,by omega,rfl,by go_num,trivial⟩
    case measure=>simp [intOf]; omega
  obtain rfl:j=c:=by omega
  have g1:¬ (j:Int)<(j:Int):=by omega
  clear hlt hj; go_upto_region 9 with fail; refine wR (xmL ?_); refine xcL (q5f (tot ln j) ht _) ?_; rintro e w1 ⟨v,rfl,O,hro,hB⟩; refine xeL ?_; refine xmL ?_; have HI:x4i w ln zz j 0 v w1:=⟨O,hro,hB⟩
  clear O hro hB; show Exit.then _ _ _ _ _; go_wp2
  go_loopw [6,27] (fun s i w'=>∃ q:Nat,q≤j∧i=.int .i64 (q:Int)∧x4i w ln zz j q s w') (fun _ i _=>j-(intOf i).toNat)
  case atStart=>exact ⟨0,Nat.zero_le _,rfl,HI⟩
  case round =>
   clear HI; obtain ⟨q,hq,rfl,HI⟩:=hrel; by_cases hlt:q<j
   · have g2:(q:Int)<(j:Int):=by omega
     have hm:tot ln q+ln q≤tot ln j:=bU ln (show q+1≤j by omega); go_upto_region 12 with fail; refine wR (xqL (.pointer (some (p.add q))) (fun w=>mX 110 32 j c' .i64 p q _ _ Tryz.underlying110 JW hlt rfl rfl rfl w) ?_); refine xaL (.slice (sp q) (ln q) (cp q)) (q4j 32 5 _ (p.add q) _ rfl rfl Tryz.underlying32 ((hin.below HI.below).cell q hlt)) ?_; refine xmL ?_; show Exit.then _ _ _ _ _; go_upto_region 13 with fail; refine wR (xm2 ?_)
     obtain ⟨v',w2,hr,O,hg,hv,_⟩:=lQ (P:=Tryz.prog) (ty:=32) Tryz.underlying32 vG HI.own (sp q) (ln q) (cp q) (zz q) ((hin.below HI.below).src q hlt) (hin.nil q hlt) (xnT hm HI.room); refine xaL _ (jW _ _ 32 _ _ _ rfl rfl rfl hr) ?_; refine xmL ?_; have HS:=show Hid _ from (show x4i w ln zz j (q+1) v' w2 from ⟨O,by rw [hv]; exact HI.room,Below.grown HI.below hg HI.below.size (fun b hb=>(World.ownsRow.lt HI.own b hb).1)⟩); clear O hg hv hr HI hm
     show Exit.inBlock _ _ _ _ _
     go_wp2; go_roundw
     case rel=>first | exact ⟨q+1,by omega,by go_num,HS.out⟩ | ((repeat apply Exists.intro); refine ⟨⟨q+1,by omega,?_,HS.out⟩,rfl⟩ <;> first | rfl | go_num)
     case measure=>simp [intOf]; omega
   obtain rfl:q=j:=by omega
   have g2:¬ (q:Int)<(q:Int):=by omega
   have HS:=show Hid _ from HI; clear HI hlt hq; go_wp2; go_ret
   exact ⟨_,rfl,HS.out.own,HS.out.below⟩
theorem Has.head {w:World} {b:Nat} {k:IntKind} {n:Nat} {f:Nat→Int} (h:Has w b k n f) (m:Nat) (hm:m≤n):w.rangeAt b 0 (row k m f):=fun j v hv=>by
 obtain ⟨hj,rfl⟩:=xS hv
 rw [Nat.zero_add]
 exact h.cell j JK
theorem Kr.part {w w':World} {m:Nat} {l:List (Nat × IntKind × Nat × (Nat→Int))} {R:List (Nat × Nat)} (h:Kr w m l R w') (l':List (Nat × IntKind × Nat × (Nat→Int))) (b:Nat) (k:IntKind) (n:Nat) (f:Nat→Int) (o q:Nat) (ho:o+q≤n) (g:Nat→Int) (hp:(b,k,n,f)∈l) (hl:∀ p∈l',p∈l) (hne:∀ p∈l',p.1≠b) (hlo:w.heap.size≤b) :
 Kr w m ((b,k,n,uA f o q g)::l') R (w'.setCells b o (row k q g)) :=
 ((h.loose l' b k n f hp hl hne hlo).poke b n mS o _).settle R b k n _ mS (fun _ hq=>mT _ hq) (fun q hq=>(h.apart _ hp q hq).symm) ((h.get _ _ _ _ hp).part o q ho g)
theorem Kr.headC {w w':World} {m:Nat} {l:List (Nat × IntKind × Nat × (Nat→Int))} {R:List (Nat × Nat)} {b:Nat} {k:IntKind} {n:Nat} {f:Nat→Int} (h:Kr w m ((b,k,n,f)::l) R w') (g:Nat→Int) (e:∀ j,j<n→f j=g j):Kr w m ((b,k,n,g)::l) R w' :=
 ⟨fun p hp=>by
  rcases xc1 hp with rfl | hp
  · exact ⟨(h.rows _ mS).1.congr e,(h.rows _ mS).2⟩
  · exact h.rows p (mT _ hp),h.room,fun p hp q hq=>by
  rcases xc1 hp with rfl | hp
  · exact h.apart _ mS q hq
  · exact h.apart p (mT _ hp) q hq,h.size,h.base,h.below⟩
def pk3 {α:Type} (a b c:α):Nat→α
 | 0=>a
 | 1=>b
 | _=>c
theorem j9y (a b c:Nat):tot (pk3 a b c) 3=a+b+c:=by show 0+a+b+c=_; omega
theorem j7i {w:World} (C:Nat) (p1 p2 p3:Option Addr) (l1 l2 l3 c1 c2 c3:Nat) (z1 z2 z3:Nat→Int) (t:TypeId) (hC:C=w.heap.size) (h1:Src w p1 l1 z1) (h2:Src w p2 l2 z2) (h3:Src w p3 l3 z3) (n1:p1=none→c1=0) (n2:p2=none→c2=0) (n3:p3=none→c3=0) :
 CatIn (w.alloc (.cells #[.slice p1 l1 c1,.slice p2 l2 c2,.slice p3 l3 c3] t)) ⟨C,0,none⟩ 3 (pk3 p1 p2 p3) (pk3 l1 l2 l3) (pk3 c1 c2 c3) (pk3 z1 z2 z3):=by
 have hb:=(Below.refl w.heap.size w).alloc (xnR _) (.cells #[.slice p1 l1 c1,.slice p2 l2 c2,.slice p3 l3 c3] t)
 refine ⟨fun j hj=>?_,fun j hj=>?_,fun j hj=>?_⟩
 · rw [Addr.add_mid,World.cell?_alloc_at _ _ _ _ hC]
   match j,hj with
   | 0,_ | 1,_ | 2,_=>rfl
   | _+3,h=>omega
 · match j,hj with
   | 0,_=>exact h1.below hb (xnR _)
   | 1,_=>exact h2.below hb (xnR _)
   | 2,_=>exact h3.below hb (xnR _)
   | _+3,h=>omega
 match j,hj with
 | 0,_=>exact n1
 | 1,_=>exact n2
 | 2,_=>exact n3
 | _+3,h=>omega
theorem q0l (B o c:Nat) (x:Int) (y0 y1 y2 y3 y4 y5 y6 y7:Int) (w:World) (c0:w.cell? ⟨B,o,none⟩=some (.int .u8 y0)) (f0:w.frozen? ⟨B,o,none⟩=false) (c1:w.cell? ⟨B,o+1,none⟩=some (.int .u8 y1)) (f1:w.frozen? ⟨B,o+1,none⟩=false) (c2:w.cell? ⟨B,o+2,none⟩=some (.int .u8 y2)) (f2:w.frozen? ⟨B,o+2,none⟩=false) (c3:w.cell? ⟨B,o+3,none⟩=some (.int .u8 y3)) (f3:w.frozen? ⟨B,o+3,none⟩=false) (c4:w.cell? ⟨B,o+4,none⟩=some (.int .u8 y4)) (f4:w.frozen? ⟨B,o+4,none⟩=false) (c5:w.cell? ⟨B,o+5,none⟩=some (.int .u8 y5)) (f5:w.frozen? ⟨B,o+5,none⟩=false) (c6:w.cell? ⟨B,o+6,none⟩=some (.int .u8 y6)) (f6:w.frozen? ⟨B,o+6,none⟩=false) (c7:w.cell? ⟨B,o+7,none⟩=some (.int .u8 y7)) (f7:w.frozen? ⟨B,o+7,none⟩=false) :
 Calls Tryz.prog 102 #[.slice (some ⟨B,o,none⟩) 16 c,.int .u64 x] w fun e w'=>e=.returned (.tuple #[])∧w'=((((((((w.setCell ⟨B,o,none⟩ (.int .u8 (x%256))).setCell ⟨B,o+1,none⟩ (.int .u8 (x/256%256))).setCell ⟨B,o+2,none⟩ (.int .u8 (x/65536%256))).setCell ⟨B,o+3,none⟩ (.int .u8 (x/16777216%256))).setCell ⟨B,o+4,none⟩ (.int .u8 (x/4294967296%256))).setCell ⟨B,o+5,none⟩ (.int .u8 (x/1099511627776%256))).setCell ⟨B,o+6,none⟩ (.int .u8 (x/281474976710656%256))).setCell ⟨B,o+7,none⟩ (.int .u8 (x/72057594037927936%256))):=by
 go_enter Tryz.func102,Tryz.ntmps102
 go_wp2
 go_end0
 exact ⟨rfl,rfl⟩
theorem q0n (B o n c:Nat) (g:Nat→Int) (x:Int) (ho:o+8≤n) (w:World) (h:Has w B .u8 n g) :
 Calls Tryz.prog 102 #[.slice (some ⟨B,o,none⟩) 16 c,.int .u64 x] w fun e w'=>e=.returned (.tuple #[])∧w'=w.setCells B o (row .u8 8 (byt x)) :=
 q0l B o c x _ _ _ _ _ _ _ _ w (h.cell o JK) (h.free o JK) (h.cell (o+1) JK) (h.free (o+1) JK) (h.cell (o+2) JK) (h.free (o+2) JK) (h.cell (o+3) JK) (h.free (o+3) JK) (h.cell (o+4) JK) (h.free (o+4) JK) (h.cell (o+5) JK) (h.free (o+5) JK) (h.cell (o+6) JK) (h.free (o+6) JK) (h.cell (o+7) JK) (h.free (o+7) JK)
theorem Has.mid {w:World} {b:Nat} {k:IntKind} {n:Nat} {f:Nat→Int} (h:Has w b k n f) (o m:Nat) (ho:o+m≤n):w.rangeAt b o (row k m (fun j=>f (o+j))):=fun j v hv=>by
 obtain ⟨hj,rfl⟩:=xS hv
 exact h.cell (o+j) JK
theorem j3o (r:Nat→Int) (hr:In 256 16 r) (w:World) (hg:Glob w) :
 Calls Tryz.prog 148 #[(.agg (row .u8 16 (r)).toArray)] w fun e w'=>e=.returned (.agg (row .u8 17 (byB (qJ r))).toArray)∧Below w.heap.size w w':=by
 have K:=Kr.init w; replace K:=K.box .u8 16 r 120 (w.heap.size) rfl; replace K:=K.make 17 jF 158 (w.heap.size+1) Jf (jE _ _ _ Jf).there
 go_enter Tryz.func148,Tryz.ntmps148
 go_upto_region 1 with fail; generalize ((w.alloc (.cells (row .u8 16 r).toArray 120)).alloc (.cells jF 158))=w0 at K ⊢; refine wR (ykL .u8 16 (r) (w.heap.size) 0 Tryz.underlying120 (xP _) ((K.get _ _ _ _ mS).range) ?_); refine clT (q1l r hr _ (hg.below K.below hg.size)) K ?_; clear K; intro w1 K; refine ysL .u8 16 (qJ r) (w.heap.size) (sP (K.get _ _ _ _ mS)) (xM _) ?_; replace K:=K.set [] (w.heap.size) .u8 16 r (qJ r) mS YQ YQ (xnR _); generalize w1.setCells (w.heap.size) 0 (row .u8 16 (qJ r))=w2 at K ⊢
 show Exit.then _ _ _ _ _; go_upto_region 2 with fail; have zX:=K.size; replace K:=K.boxO .u8 17 (fun _=>0) (.cells jF 158) w2.heap.size rfl (jE _ _ _ rfl); go_upto_region 3 with fail; generalize hw:w2.alloc (.cells jF 158)=w3 at K ⊢; clear hw; generalize w2.heap.size=X at *; have HR:=K.get _ _ _ _ mS
 replace K:=K.loose [(w.heap.size,.u8,16,qJ r)] X .u8 17 (fun _=>0) mS Jx Jv JK; refine hdG K ?_; clear K; intro K; replace HR:=HR.drew
 generalize w3.drew=w4 at K HR ⊢; refine xpH 0 6 (.slice (some ⟨X,0,none⟩) 17 17) K ?_; refine xpH 1 7 (.slice (some ⟨w.heap.size,0,none⟩) 16 16) K ?_
 refine rY (i:=2) (some 8) rfl (.int .i64 ((16:Nat):Int)) JU rfl rfl (uE _ _ 32 32 5 rfl Tryz.underlying32 JU X 17 17 16 16 17 (some ⟨w.heap.size,0,none⟩) (qJ r) rfl rfl JG JG HR.there (K.get _ _ _ _ mS).src0) (K.fill X 17 mS (row .u8 16 (qJ r))) ?_; simp only [aP,lI,l0,lS]
 refine wE JU ?_ _
 replace K:=K.fill X 17 mS (row .u8 16 (qJ r))
 replace HR:=(HR.part 0 16 JG (qJ r)).congr (g:=byB (qJ r)) (fun j hj=>by
  unfold uA byB; by_cases e:j<16
  · rw [if_pos JK,if_pos e,Nat.sub_zero]
  rw [if_neg JK,if_neg e])
 generalize w4.setCells X 0 (row .u8 16 (qJ r))=w5 at K HR ⊢; go_upto_region 4 with fail; have hz:=(K.room _ (mT _ mS)).1; have hB:=(K.fill _ _ (mT _ mS) (row .u8 17 (byB (qJ r)))).below; clear K; generalize hj:byB (qJ r)=f at *
 go_wp2_with (first | (refine yl (HR) Tryz.underlying158 (jL _) ?_) | (refine ys .u8 17 f (jM hz) (qX _) ?_))
 exact bRq (v:=(.agg (row .u8 17 (f)).toArray)) (jQ Tryz.results148 rfl (Has.all hz .u8 f).range Tryz.underlying158 rfl (jL f)) rfl ⟨rfl,hB⟩
theorem j3l (sp:Option Addr) (len cap:Nat) (z:Nat→Int) (w:World) (hs:Src w sp len z) :
 Calls Tryz.prog 151 #[.slice sp len cap] w fun e w'=>e=.returned (.agg (row .u8 17 (blk len z)).toArray)∧Below w.heap.size w w':=by
 have K:=Kr.init w; replace K:=K.make 17 jF 158 (w.heap.size) rfl (jE _ _ _ rfl).there
 go_enter Tryz.func151,Tryz.ntmps151
 go_upto_region 1 with fail; generalize (w.alloc (.cells jF 158))=w0 at K ⊢; refine wR (xmL ?_); refine clT (j7h sp len cap z _ (hs.below K.below (xnR _))) K ?_; clear K; intro w1 K; refine xmL ?_
 refine xm2 ?_; refine qH jF 158 rfl JW (nL ?_); refine ysL .u8 17 (blk len z) w1.heap.size (jM (jE _ _ _ rfl).there) (qX _) ?_; have zG:=K.size
 replace K:=K.fresh .u8 17 (blk len z) jF 158 (jE _ _ _ rfl).there; generalize ((w1.alloc (.cells jF 158)).setCells w1.heap.size 0 (row .u8 17 (blk len z)))=w2 at K ⊢; generalize w1.heap.size=G at *; refine xmL ?_; show Exit.then _ _ _ _ _; go_upto_region 2 with fail; have HR:=K.get _ _ _ _ mS; have hz:=(K.room _ mS).1
 have hB:=(K.fill _ _ mS (row .u8 17 (blk len z))).below; clear K hs; generalize hj:blk len z=f at *
 go_wp2_with (first | (refine yl (HR) Tryz.underlying158 (jL _) ?_) | (refine ys .u8 17 f (jM hz) (qX _) ?_))
 exact bRq (v:=(.agg (row .u8 17 (f)).toArray)) (jQ Tryz.results151 rfl (Has.all hz .u8 f).range Tryz.underlying158 rfl (jL f)) rfl ⟨rfl,hB⟩
theorem q3n:x6f:=by
 intro k hk sp len cap hlen hcap z hz w hg hs
 have hk1:In 256 16 k:=fun j hj=>hk j JK
 have hk2:In 256 16 (fun j=>k (16+j)):=fun j hj=>hk (16+j) JK
 have K:=Kr.init w; replace K:=K.box .u8 32 k 23 (w.heap.size) rfl; replace K:=K.make 16 qR 120 (w.heap.size+1) Jf (xQ _ _ _ Jf).there
 go_enter Tryz.func128,Tryz.ntmps128
 go_upto_region 1 with fail; generalize ((w.alloc (.cells (row .u8 32 k).toArray 23)).alloc (.cells qR 120))=w0 at K ⊢; refine wR (xpL (.slice (some ⟨w.heap.size,0,none⟩) 16 32) ?_); refine xpL (.pointer (some ⟨w.heap.size,0,none⟩)) ?_
 refine ykL .u8 16 k (w.heap.size) 0 Tryz.underlying120 (xP _) (by have h:=(K.get _ _ _ _ mS).mid 0 16 JG; simpa using h) ?_
 refine clT (j3o k hk1 _ (hg.below K.below hg.size)) K ?_; clear K; intro w1 K; refine qH jF 158 rfl JW (nL ?_); refine ysL .u8 17 (byB (qJ k)) w1.heap.size (jM (jE _ _ _ rfl).there) (qX _) ?_
 have zT:=K.size; replace K:=K.fresh .u8 17 (byB (qJ k)) jF 158 (jE _ _ _ rfl).there; generalize ((w1.alloc (.cells jF 158)).setCells w1.heap.size 0 (row .u8 17 (byB (qJ k))))=w2 at K ⊢; generalize w1.heap.size=T at *; show Exit.then _ _ _ _ _; go_upto_region 2 with fail; have zX:=K.size
 replace K:=K.boxO .u8 17 (fun _=>0) (.cells jF 158) w2.heap.size rfl (jE _ _ _ rfl); go_upto_region 3 with fail; generalize hw:w2.alloc (.cells jF 158)=w5 at K ⊢; clear hw; generalize w2.heap.size=X at *; go_wp2
 go_loopw [7] (fun i w'=>∃ (t:Nat) (a:Nat→Int),16*t<len+16∧i=.int .i64 (16*(t:Int))∧Kr w (X+1) [(X,.u8,17,a),(T,.u8,17,byB (qJ k)),(w.heap.size,.u8,32,k)] [(w.heap.size+1,16)] w'∧In 256 17 a∧val 256 a 17=acc (pR k) len z t) (fun i _=>len+16-(intOf i).toNat)
 case atStart=>exact ⟨0,_,by omega,rfl,K,fun _ _=>⟨Int.le_refl 0,Ve⟩,by show val 256 (fun _=>0) 17=0; decide⟩
 case round =>
  clear K; obtain ⟨t,a,ht,rfl,K,ha,hv⟩:=hrel; have g1:(0:Int)≤16*(t:Int):=by omega
  by_cases hlt:16*t<len
  · have g2:16*(t:Int)<(len:Int):=by omega
    obtain ⟨M,hM⟩:∃ M:Nat,M=min (16*t+16) len:=⟨_,rfl⟩
    have hm:(if (len:Int)<16*(t:Int)+16 then (len:Int) else 16*(t:Int)+16)=(M:Int):=by rw [hM]; split <;> omega
    obtain ⟨sq,hq1,hq2⟩:=j7g (P:=Tryz.prog) (t:=32) JU JW sp len cap (16*t) M JK JK hcap; have hpc:M-16*t=pcN len t:=by unfold pcN; omega
    rw [hpc] at hq1 hq2; have ec:((16*t:Nat):Int)=16*(t:Int):=by omega
    rw [ec] at hq1; go_upto_region 6 with fail; refine qK (S:=fun w'=>Kr w (X+1) [(X,.u8,17,a),(T,.u8,17,byB (qJ k)),(w.heap.size,.u8,32,k)] [(w.heap.size+1,16)] w') 13 JU K.drew ?_; clear K; intro K; refine aU (i:=0) (some 18) rfl .u8 17 (a) (X) 0 158 _ _ rfl rfl JU rfl rfl rfl JU JU JU JU (fun _ _ _ h=>h) Tryz.underlying158 rfl (jL _) K (fun _ h=>(h.get _ _ _ _ mS).range) (nC ?_); refine xmC 1 19 K ?_; refine xmC 2 20 K ?_; refine xmC 3 21 K ?_; refine xqC 4 22 rfl (.int .i64 (16*(t:Int)+16)) Je K ?_; refine xmC 5 23 K ?_; refine aU (i:=11) (some 29) rfl .u8 17 (byB (qJ k)) (T) 0 158 _ _ rfl rfl JU rfl rfl rfl JU JU JU JU (fun _ _ _ h=>h) Tryz.underlying158 rfl (jL _) K (fun _ h=>(h.get _ _ _ _ (mT _ mS)).range) (nC ?_); refine xqC 6 24 rfl _ Jk K ?_; refine xqC 7 25 rfl (.int .i64 (M:Int)) Vr K ?_; refine xqC 8 26 rfl (.slice sq (pcN len t) (cap-16*t)) Ur K ?_; refine yaC 9 27 (j3l sq (pcN len t) (cap-16*t) (fun j=>z (16*t+j)) _ ((hq2 _ _ hs).below K.below (xnR _))) ?_; rintro e w9 ⟨rfl,l⟩; replace K:=K.call l; clear l; refine ⟨_,rfl,K,nC ?_⟩; refine yaC 10 28 (q6b a (mQ len z t) ha (j3n len z t hz) _ (hg.below K.below hg.size)) ?_; rintro e w11 ⟨f1,rfl,s1,l⟩; replace K:=K.call l; clear l; refine ⟨_,rfl,K,nC ?_⟩; refine yaC 12 30 (q5x f1 (byB (qJ k)) s1.1 (q6e _ (j2r k hk1)) _ (hg.below K.below hg.size)) ?_; rintro e w12 ⟨f2,rfl,s2,l⟩; replace K:=K.call l; clear l; refine ⟨_,rfl,K,nC ?_⟩; refine tM (S2:=fun _=>True) none rfl .u8 17 f2 X 158 _ _ JU rfl rfl rfl rfl rfl (yX (K.get _ _ _ _ mS)) (qX _) JU ?_; simp only [Act.put]; refine wE JU ?_ _; have hv2:val 256 f2 17=acc (pR k) len z (t+1):=j5a (by rw [s1.2,hv]) (j9i (qJ k)) s2.2; replace K:=K.set [(T,.u8,17,byB (qJ k)),(w.heap.size,.u8,32,k)] X .u8 17 a f2 mS YZ Jm JK; have HS:=show Hid _ from (And.intro K (And.intro s2.1 hv2))
    clear K s1 s2 hv hv2 ha hm hM hq1 hq2 hpc ec; generalize w12.setCells X 0 (row .u8 17 f2)=w13 at HS ⊢; go_wp2; exact Zw
  obtain rfl:t=npc len:=by unfold npc; omega
  go_upto_region 7 with fail; refine qK (S:=fun w'=>Kr w (X+1) [(X,.u8,17,a),(T,.u8,17,byB (qJ k)),(w.heap.size,.u8,32,k)] [(w.heap.size+1,16)] w') 5 JU K.drew ?_; clear K; intro K; refine aU (i:=0) (some 31) rfl .u8 17 (a) (X) 0 158 _ _ rfl rfl JU rfl rfl rfl JU JU JU JU (fun _ _ _ h=>h) Tryz.underlying158 rfl (jL _) K (fun _ h=>(h.get _ _ _ _ mS).range) (nC ?_); refine xpC 1 32 (.slice (some ⟨w.heap.size,16,none⟩) 16 16) K ?_; refine xpC 2 33 (.pointer (some ⟨w.heap.size,16,none⟩)) K ?_; refine aU (i:=3) (some 34) rfl .u8 16 (fun j=>k (16+j)) (w.heap.size) 16 120 _ _ rfl rfl JU rfl rfl rfl JU JU JU JU (fun _ _ _ h=>h) Tryz.underlying120 rfl (xP _) K (fun _ h=>(h.get _ _ _ _ (mI 2 rfl)).mid 16 16 JG) (nC ?_); refine yaC 4 35 (q5y a (fun j=>k (16+j)) ha hk2 _ (hg.below K.below hg.size)) ?_; rintro e w9 ⟨f,rfl,s1,l⟩; replace K:=K.call l; clear l; refine ⟨_,rfl,K,nC ?_⟩; have hz':=(K.room _ mS).1; refine tM (S2:=fun _=>True) none rfl .u8 16 f (w.heap.size+1) 120 _ _ JU rfl rfl rfl rfl rfl (jM hz') (xM _) JU ?_; simp only [Act.put]; refine wE JU ?_ _; have hB:=(K.fill _ _ mS (row .u8 16 f)).below; have HE:=show Hid _ from (And.intro s1.1 (show val 256 f 16=cH k len z by rw [s1.2,hv]; rfl)); clear K s1 hv ha hlt ht g1; go_wp2
  exact bRq (v:=(.agg (row .u8 16 (f)).toArray)) (jQ Tryz.results128 rfl (Has.all hz' .u8 f).range Tryz.underlying120 rfl (xP f)) rfl ⟨f,rfl,HE.out,hB⟩
theorem q8l (d x y:Int) (hd:0≤d∧d<256) (hx:0≤x∧x<256) (hy:0≤y∧y<256) :
 (0≤bits .or .u8 d (bits .xor .u8 x y)∧bits .or .u8 d (bits .xor .u8 x y)<256)∧(bits .or .u8 d (bits .xor .u8 x y)=0↔d=0∧x=y):=by
 obtain ⟨d,rfl⟩:=xiN hd.1
 obtain ⟨x,rfl⟩:=xiN hx.1
 obtain ⟨y,rfl⟩:=xiN hy.1
 have h1:x ^^^ y<2^8:=Nat.xor_lt_two_pow JK JK
 have h2:d ||| (x ^^^ y)<2^8:=Nat.or_lt_two_pow JK h1
 rw [u8_xor_nat x y JK JK,u8_or_nat d _ JK JK]
 refine ⟨by omega,?_⟩
 have e:((d ||| (x ^^^ y):Nat):Int)=0↔d ||| (x ^^^ y)=0:=by omega
 have e2:x ^^^ y=0↔x=y:=by
  constructor
  · intro h; have h':x ^^^ (x ^^^ y)=x:=by rw [h,Nat.xor_zero]
    rw [← Nat.xor_assoc,Nat.xor_self,Nat.zero_xor] at h'; exact h'.symm
  intro h; rw [h,Nat.xor_self]
 rw [e,Nat.or_eq_zero_iff,e2]
 omega
theorem orI {P:Program} {o:Oper} {a:Act} (k:IntKind) (n n' r:Int) (t t':TypeId) (x y:Operand) (ho:o.op=.binOp .or t x y t') (hx:a.eval x=.int k n) (hy:a.eval y=.int k n') (hr:bits .or k n n'=r) (w:World):(execOp a.eval o).run P w=.ok (.value (.int k r)) w:=by
 unfold execOp
 simp only [ho,hx,hy,Sem.run_bind,eqGuard_at_int,binOp_or,intBits_or,Sem.run_pure,xO,hr]
theorem q3d (a b:Nat→Int) (ha:In 256 16 a) (hb:In 256 16 b) (d:Int) (h:d=0↔∀ j,j<16→a j=b j):(d == 0)=decide (val 256 a 16=val 256 b 16):=by
 have e:d=0↔val 256 a 16=val 256 b 16:=h.trans ⟨fun h=>qZ 256 16 h,fun h=>hH 256 JG a b 16 ha hb h⟩
 by_cases hd:d=0
 · rw [decide_eq_true (e.1 hd),hd]; rfl
 rw [decide_eq_false (fun h=>hd (e.2 h))]; simpa using hd
theorem q0o:x4g:=by
 intro a b ha hb w _; have K:=((Kr.init w).box .u8 16 a 120 (w.heap.size) rfl).box .u8 16 b 120 (w.heap.size+1) Jf
 go_enter Tryz.func107,Tryz.ntmps107
 go_upto_region 1 with fail; generalize ((w.alloc (.cells (row .u8 16 a).toArray 120)).alloc (.cells (row .u8 16 b).toArray 120))=w0 at K ⊢; go_wp2
 go_loopw [5,7] (fun so i w'=>∃ (m:Nat) (d:Int),m≤16∧i=.int .i64 m∧so=.int .u8 d∧Kr w (w.heap.size+1+1) [(w.heap.size+1,.u8,16,b),(w.heap.size,.u8,16,a)] [] w'∧(0≤d∧d<256)∧(d=0↔∀ j,j<m→a j=b j)) (fun _ i _=>16-(intOf i).toNat)
 case atStart=>exact ⟨0,0,by omega,rfl,rfl,K,by omega,by simp⟩
 case round =>
  clear K; obtain ⟨m,d,hm,rfl,rfl,K,hd,hz⟩:=hrel; have g1:(0:Int)≤(m:Int):=by omega
  by_cases hlt:m<16
  · have g2:(m:Int)<16:=by omega
    go_upto_region 5 with fail; refine hdG K ?_; clear K; intro K; generalize wr.drew=w1 at K ⊢; refine xmH 0 10 K ?_; refine xmH 1 11 K ?_; refine xqH 2 12 rfl (.pointer (some ⟨w.heap.size,m,none⟩)) (fun w'=>eX (w.heap.size) m hlt w' _ _ rfl rfl rfl) K ?_; refine ycH 3 13 (.int .u8 (a m)) (w.heap.size) m Tryz.underlying5 K (fun _ h=>(h.get _ _ _ _ (mT _ mS)).cell m hlt) ?_; refine xmH 4 14 K ?_; refine xqH 5 15 rfl (.pointer (some ⟨w.heap.size+1,m,none⟩)) (fun w'=>eX (w.heap.size+1) m hlt w' _ _ rfl rfl rfl) K ?_; refine ycH 6 16 (.int .u8 (b m)) (w.heap.size+1) m Tryz.underlying5 K (fun _ h=>(h.get _ _ _ _ mS).cell m hlt) ?_; refine xqH 7 17 rfl _ UK K ?_; refine xqH 8 18 rfl (.int .u8 (bits .or .u8 d (bits .xor .u8 (a m) (b m)))) (fun w=>orI .u8 _ _ _ _ _ _ _ rfl rfl rfl rfl w) K ?_; refine xmH 9 5 K ?_; refine wE JU ?_ _; have ho:=q8l d (a m) (b m) hd (ha m hlt) (hb m hlt); have HS:=show Hid _ from (And.intro K (And.intro ho.1 (show bits .or .u8 d (bits .xor .u8 (a m) (b m))=0↔∀ j,j<m+1→a j=b j from by
     rw [ho.2,hz]; constructor
     · intro h j hj; by_cases e:j=m
       · subst e; exact h.2
       exact h.1 j JK
     intro h; exact ⟨fun j hj=>h j JK,h m JK⟩)))
    clear K hz ho; generalize bits .or .u8 d (bits .xor .u8 (a m) (b m))=d2 at HS ⊢; go_wp2; go_roundw
    case rel=>first | exact ⟨m+1,d2,by omega,by go_num,rfl,HS.out⟩ | ((repeat apply Exists.intro); refine ⟨⟨m+1,d2,by omega,by go_num,rfl,HS.out⟩,rfl⟩)
    case measure=>simp [intOf]; omega
  obtain rfl:m=16:=by omega
  clear hlt hm g1; have hr:=q3d a b ha hb d hz; have hB:=K.below; clear K hz; go_upto_region 7 with fail; refine wR (xmL ?_); refine xqL (.bool (decide (val 256 a 16=val 256 b 16))) (fun w=>kS .u8 _ _ _ _ _ _ rfl rfl rfl _ hr w) ?_; refine xmL ?_; show Exit.then _ _ _ _ _; go_wp2; go_ret
  exact ⟨rfl,hB⟩
theorem j9h (x:Nat):∀ j,j<8→byt (x:Int) j=dig x j
 | 0,_=>by show (x:Int)%256=((x/1%256:Nat):Int); omega
 | 1,_=>by show (x:Int)/256%256=((x/256%256:Nat):Int); omega
 | 2,_=>by show (x:Int)/65536%256=((x/65536%256:Nat):Int); omega
 | 3,_=>by show (x:Int)/16777216%256=((x/16777216%256:Nat):Int); omega
 | 4,_=>by show (x:Int)/4294967296%256=((x/4294967296%256:Nat):Int); omega
 | 5,_=>by show (x:Int)/1099511627776%256=((x/1099511627776%256:Nat):Int); omega
 | 6,_=>by show (x:Int)/281474976710656%256=((x/281474976710656%256:Nat):Int); omega
 | 7,_=>by show (x:Int)/72057594037927936%256=((x/72057594037927936%256:Nat):Int); omega
 | _+8,h=>by omega
theorem x6t (bl:Nat) (b:Nat→Int) (sl:Nat) (s:Nat→Int) (j:Nat):j2h (pk3 (yC bl) (yC sl) 16) (pk3 (xJ bl b) (xJ sl s) (app (dig bl) 8 (dig sl))) 3 j=amx bl b sl s j:=by
 show app (app (app (fun _=>0) 0 (xJ bl b)) (0+yC bl) (xJ sl s)) (0+yC bl+yC sl) (app (dig bl) 8 (dig sl)) j=_
 unfold amx
 generalize yC bl=x; generalize yC sl=y; simp only [app,nZ,xnZ,if_false,Nat.sub_zero]
 by_cases h1:j<x+y
 · rw [if_pos h1,if_pos (show j<x+y+8 by omega),if_pos h1]
 rw [if_neg h1]
 by_cases h2:j<x+y+8
 · rw [if_pos JK,if_pos h2,if_neg h1]
 rw [if_neg JK,if_neg h2,show j-(x+y)-8=j-(x+y+8) by omega]
theorem q3w (k n:Nat→Int) (hk:In 256 32 k) (hn:In 256 12 n) (w:World) (hg:HGlob w) :
 Calls Tryz.prog 129 #[(.agg (row .u8 32 (k)).toArray),(.agg (row .u8 12 (n)).toArray)] w fun e w'=>e=.returned (.agg (row .u8 32 (yK k 0 n)).toArray)∧Below w.heap.size w w':=by
 have K:=Kr.init w; replace K:=K.box .u8 32 k 23 (w.heap.size) rfl; replace K:=K.box .u8 12 n 96 (w.heap.size+1) Jf; replace K:=K.make 32 jY 23 (w.heap.size+1+1) Jf (jK _ _ _ Jf).there
 go_enter Tryz.func129,Tryz.ntmps129
 go_upto_region 1 with fail; generalize (((w.alloc (.cells (row .u8 32 k).toArray 23)).alloc (.cells (row .u8 12 n).toArray 96)).alloc (.cells jY 23))=w0 at K ⊢; refine wR (ykL .u8 32 (k) (w.heap.size) 0 Tryz.underlying23 (jJ _) ((K.get _ _ _ _ (mT _ mS)).range) ?_)
 refine ykL .u8 12 (n) (w.heap.size+1) 0 Tryz.underlying96 (zL _) ((K.get _ _ _ _ mS).range) ?_; refine clT (eU k 0 n hk hn _ (hg.below K.below hg.size)) K ?_; clear K; intro w1 K; refine qH xL 134 rfl JW (nL ?_)
 refine ysL .u8 64 (yK k 0 n) w1.heap.size (jM (uT _ _ _ rfl).there) (gN _) ?_; have zX:=K.size; replace K:=K.fresh .u8 64 (yK k 0 n) xL 134 (uT _ _ _ rfl).there; generalize ((w1.alloc (.cells xL 134)).setCells w1.heap.size 0 (row .u8 64 (yK k 0 n)))=w2 at K ⊢; generalize w1.heap.size=X at *
 show Exit.then _ _ _ _ _; go_upto_region 2 with fail; refine wR (xpL (.slice (some ⟨X,0,none⟩) 32 64) ?_); refine xpL (.pointer (some ⟨X,0,none⟩)) ?_; refine ykL .u8 32 (yK k 0 n) X 0 Tryz.underlying23 (jJ _) ((K.get _ _ _ _ mS).head 32 JG) ?_
 have hz':=(K.room _ mS).1
 refine ysL .u8 32 (yK k 0 n) (w.heap.size+1+1) (jM hz') (jV _) ?_; have hB:=(K.fill _ _ mS (row .u8 32 (yK k 0 n))).below; clear K; generalize hGe:yK k 0 n=G at *; show Exit.then _ _ _ _ _; go_wp2
 exact bRq (v:=(.agg (row .u8 32 (G)).toArray)) (jQ Tryz.results129 rfl (Has.all hz' .u8 G).range Tryz.underlying23 rfl (jJ G)) rfl ⟨by first | rfl | rw [hGe] | (rw [← hGe]; done),hB⟩
theorem eK (sp:Option Addr) (len cap:Nat) (hlen:len≤140737488351232) (hcap:len≤cap) (z:Nat→Int) (w:World) (hs:Src w sp len z) :
 Calls Tryz.prog 130 #[.slice sp len cap] w fun e w'=>∃ sp' cap',e=.returned (.slice sp' (yC len) cap')∧(yC len≤cap'∧(sp'=none→cap'=0)∧Src w' sp' (yC len) (xJ len z))∧Below w.heap.size w w':=by
 have hu:yC len=len+(16-len%16)%16:=by unfold yC; omega
 obtain ⟨q,hq1,hq2⟩:=q5v (P:=Tryz.prog) (t:=32) JU JW sp len cap hcap
 obtain ⟨p,c,w1,hr,hc,hp,hB,hn⟩:=lJ (P:=Tryz.prog) (w:=w) (ty:=32) Tryz.underlying32 Tryz.underlying3 vG q len z (hq2 w z hs) ((16-len%16)%16) JK JK
 rw [hu]
 go_enter Tryz.func130,Tryz.ntmps130
 go_upto_region 1 with fail; refine wR (xm2 ?_); refine xqL _ Jk ?_; refine xmL ?_; refine xqL _ Jk ?_
 refine xqL (.slice q len len) (fun w=>q9d _ _ _ _ _ _ _ _ rfl rfl rfl rfl (hq1 w)) ?_; refine xmL ?_; refine xqL _ Jk ?_
 refine xqL (.int .i64 ((len%16:Nat):Int)) Yg ?_
 refine xqL (.int .i64 ((16-len%16:Nat):Int)) YY ?_
 refine xqL (.int .i64 (((16-len%16)%16:Nat):Int)) Yg ?_
 refine xaL (.slice p (len+(16-len%16)%16) c) (j0e _ _ 32 3 _ _ _ rfl rfl rfl hr) ?_; refine xmL ?_; show Exit.then _ _ _ _ _; clear hr hq1 hq2 hu; go_wp2; go_ret
 exact ⟨p,c,rfl,⟨hc,hn,hp⟩,hB⟩
theorem aA (k n:Nat→Int) (hk:In 256 32 k) (hn:In 256 12 n) (bp:Option Addr) (bl bc:Nat) (hbl:bl≤140737488351232) (hbc:bl≤bc) (b:Nat→Int) (hb:In 256 bl b) (sp:Option Addr) (len cap:Nat) (hlen:len≤140737488351232) (hcap:len≤cap) (z:Nat→Int) (hz:In 256 len z) (w:World) (hg:AGlob w) (hsb:Src w bp bl b) (hs:Src w sp len z) :
 Calls Tryz.prog 108 #[(.agg (row .u8 32 (k)).toArray),(.agg (row .u8 12 (n)).toArray),.slice bp bl bc,.slice sp len cap] w fun e w'=>e=.returned (.agg (row .u8 16 (zU k n bl b len z)).toArray)∧Below w.heap.size w w':=by
 have K:=Kr.init w; replace K:=K.box .u8 32 k 23 (w.heap.size) rfl; replace K:=K.box .u8 12 n 96 (w.heap.size+1) Jf; replace K:=K.make 16 qR 120 (w.heap.size+1+1) Jf (xQ _ _ _ Jf).there; replace K:=K.boxO .u8 16 (fun _=>0) (.cells qR 119) (w.heap.size+1+1+1) Jf (xQ _ _ _ Jf)
 go_enter Tryz.func108,Tryz.ntmps108
 go_upto_region 2 with fail; generalize ((((w.alloc (.cells (row .u8 32 k).toArray 23)).alloc (.cells (row .u8 12 n).toArray 96)).alloc (.cells qR 120)).alloc (.cells qR 119))=w0 at K ⊢; refine wR (xpL (.slice (some ⟨w.heap.size+1+1+1,0,none⟩) 16 16) ?_); refine xmL ?_
 refine xqL _ Jk ?_; refine xqL (.int .u64 (bl:Int)) VH ?_; refine xcL (q0n (w.heap.size+1+1+1) 0 16 16 _ (bl:Int) JG _ (K.get _ _ _ _ mS)) ?_
 rintro e w1 ⟨rfl,rfl⟩; replace K:=K.part [(w.heap.size+1,.u8,12,n),(w.heap.size,.u8,32,k)] (w.heap.size+1+1+1) .u8 16 _ 0 8 JG (byt (bl:Int)) mS YZ Jm JK
 generalize w0.setCells (w.heap.size+1+1+1) 0 (row .u8 8 (byt (bl:Int)))=w1 at K ⊢; refine xeL ?_; show Exit.then _ _ _ _ _; go_upto_region 3 with fail; refine wR (xpL (.slice (some ⟨w.heap.size+1+1+1,8,none⟩) 8 8) ?_); refine xmL ?_; refine xqL _ Jk ?_
 refine xqL (.int .u64 (len:Int)) VH ?_; refine xcL (lP (w.heap.size+1+1+1) 8 16 8 _ (len:Int) JG _ (K.get _ _ _ _ mS)) ?_; rintro e w2 ⟨rfl,rfl⟩
 replace K:=K.part [(w.heap.size+1,.u8,12,n),(w.heap.size,.u8,32,k)] (w.heap.size+1+1+1) .u8 16 _ 8 8 JG (byt (len:Int)) mS YZ Jm JK
 generalize w1.setCells (w.heap.size+1+1+1) 8 (row .u8 8 (byt (len:Int)))=w2 at K ⊢
 replace K:=K.headC (app (dig bl) 8 (dig len)) (fun j hj=>by
  unfold uA app; by_cases e:j<8
  · rw [if_neg JK,if_pos JK,if_pos e,Nat.sub_zero]; exact j9h bl j e
  rw [if_pos JK,if_neg e]; exact j9h len (j-8) JK)
 refine xeL ?_; show Exit.then _ _ _ _ _; go_upto_region 4 with fail; refine wD (S:=fun w'=>Kr w (w.heap.size+1+1+1+1) [(w.heap.size+1+1+1,.u8,16,(app (dig bl) 8 (dig len))),(w.heap.size+1,.u8,12,n),(w.heap.size,.u8,32,k)] [(w.heap.size+1+1,16)] w') JU K.drew ?_; clear K; intro K
 refine ykH 0 20 .u8 32 (k) (w.heap.size) 0 Tryz.underlying23 (jJ _) K (fun _ h=>(h.get _ _ _ _ (mI 2 rfl)).range) ?_
 refine ykH 1 21 .u8 12 (n) (w.heap.size+1) 0 Tryz.underlying96 (zL _) K (fun _ h=>(h.get _ _ _ _ (mT _ mS)).range) ?_; refine xmH 3 23 K ?_; refine xmH 5 25 K ?_
 refine xpH 7 27 (.slice (some ⟨w.heap.size+1+1+1,0,none⟩) 16 16) K ?_; refine yaH 2 22 (q3w k n hk hn _ (hg.h.below K.below hg.size)) ?_; rintro e w3 ⟨rfl,l⟩; replace K:=K.call l; clear l
 refine ⟨_,rfl,K,nH ?_⟩
 refine yaH 4 24 (eK bp bl bc hbl hbc b _ (hsb.below K.below (xnR _))) ?_; rintro e w4 ⟨p1,c1,rfl,⟨_,n1,S1⟩,l⟩; replace K:=K.call l; clear l
 refine ⟨_,rfl,K,nH ?_⟩
 refine yaH 6 26 (eK sp len cap hlen hcap z _ (hs.below K.below (xnR _))) ?_; rintro e w5 ⟨p2,c2,rfl,⟨_,n2,S2⟩,l⟩; replace K:=K.call l; replace S1:=S1.below l (xnR _); clear l
 refine ⟨_,rfl,K,nH ?_⟩
 have HC:=j7i w5.heap.size p1 p2 (some ⟨w.heap.size+1+1+1,0,none⟩) (yC bl) (yC len) 16 c1 c2 16 (xJ bl b) (xJ len z) (app (dig bl) 8 (dig len)) 32 rfl S1 S2 (K.get _ _ _ _ mS).src0 n1 n2 Jq
 replace K:=K.call ((Below.refl w5.heap.size w5).alloc (xnR _) (.cells #[.slice p1 (yC bl) c1,.slice p2 (yC len) c2,.slice (some ⟨w.heap.size+1+1+1,0,none⟩) 16 16] 32))
 refine rY (i:=8) (w':=w5.alloc (.cells #[.slice p1 (yC bl) c1,.slice p2 (yC len) c2,.slice (some ⟨w.heap.size+1+1+1,0,none⟩) 16 16] 32)) (some 28) rfl (.slice (some ⟨w5.heap.size,0,none⟩) 3 3) JU rfl rfl JU K ?_; simp only [aP,lI,l0,lS]
 generalize (w5.alloc (.cells #[.slice p1 (yC bl) c1,.slice p2 (yC len) c2,.slice (some ⟨w.heap.size+1+1+1,0,none⟩) 16 16] 32))=w6 at K HC ⊢; generalize w5.heap.size=C at HC ⊢; clear S1 S2
 have u1:yC bl≤140737488351232:=by unfold yC; omega
 have u2:yC len≤140737488351232:=by unfold yC; omega
 refine yaH 9 29 (vK ⟨C,0,none⟩ 3 3 _ _ _ _ JG (by rw [j9y]; omega) _ HC) ?_; rintro e w7 ⟨v,rfl,O,l⟩; replace K:=K.call l; clear l HC
 rw [j9y] at O
 replace O:=O.congr (fun j _=>x6t bl b len z j)
 obtain ⟨p3,c3,rfl,hc3,S3⟩:=O.bytes
 refine ⟨_,rfl,K,nH ?_⟩
 have hA:yC bl+yC len+16=amt bl len:=by unfold amt; omega
 rw [hA] at hc3 S3 ⊢
 have hA2:amt bl len≤281474976710656:=by omega
 clear O hA u1 u2; refine yaH 10 30 (q3n (yK k 0 n) (lB k 0 n 32) p3 (amt bl len) c3 hA2 hc3 _ (q6z bl b len z hb hz) _ (hg.c.below K.below hg.size) S3) ?_; rintro e w8 ⟨f,rfl,⟨hf1,hf2⟩,l⟩; replace K:=K.call l; clear l S3
 rw [yV .u8 16 (x1q hf1 hf2)]
 clear hf1 hf2
 refine ⟨_,rfl,K,nH ?_⟩
 have hz':=(K.room _ mS).1
 refine xX (i:=11) none rfl .u8 16 (zU k n bl b len z) (w.heap.size+1+1) 120 _ _ JU rfl rfl rfl rfl rfl (jM hz') (xM _) (K.fill _ _ mS _) ?_; simp only [Act.put]
 refine wE JU ?_ _
 have hB:=(K.fill _ _ mS (row .u8 16 (zU k n bl b len z))).below; clear K; generalize hGe:zU k n bl b len z=G at *; go_wp2
 exact bRq (v:=(.agg (row .u8 16 (G)).toArray)) (jQ Tryz.results108 rfl (Has.all hz' .u8 G).range Tryz.underlying120 rfl (xP G)) rfl ⟨by first | rfl | rw [hGe] | (rw [← hGe]; done),hB⟩
def NewF (w:World) (base n:Nat) (f:Nat→Int) (v:Value):Prop:=∃ sp cap,v=.slice sp n cap∧n≤cap∧(sp=none→cap=0)∧Src w sp n f∧∀ a,sp=some a→base≤a.block∧a.block<w.heap.size
theorem NewF.nil (w:World) (base:Nat) (f:Nat→Int):NewF w base 0 f (.slice none 0 0):=⟨none,0,rfl,xnR _,fun _=>rfl,fun j hj=>absurd hj (xnZ j),fun _ h=>by cases h⟩
theorem NewF.src {w:World} {base n:Nat} {f:Nat→Int} {sp:Option Addr} {cap:Nat} (h:NewF w base n f (.slice sp n cap)):Src w sp n f:=by
 obtain ⟨sp',cap',hv,_,_,hs,_⟩:=h
 injection hv with h1 _ _
 subst h1
 exact hs
theorem NewF.of_own {w:World} {base n:Nat} {f:Nat→Int} {v:Value} (h:Own w base 5 .u8 n f v):NewF w base n f v:=by
 obtain ⟨sp,cap,rfl,hc,hs⟩:=h.bytes
 exact ⟨sp,cap,rfl,hc,h.nilCap,hs,fun a e=>by subst e; exact World.ownsRow.lt h a.block rfl⟩
theorem NewF.congr {w:World} {base n:Nat} {f g:Nat→Int} {v:Value} (h:NewF w base n f v) (he:∀ j,j<n→f j=g j):NewF w base n g v:=by
 obtain ⟨sp,cap,hv,hc,hn,hs,ha⟩:=h
 exact ⟨sp,cap,hv,hc,hn,fun j hj=>by rw [← he j hj]; exact hs j hj,ha⟩
def vA (w:World) (base:Nat) (l:List Int) (v:Value):Prop:=NewF w base l.length (bl l) v
theorem NewF.off {w w':World} {base n:Nat} {f:Nat→Int} {v:Value} {X:List Nat} (h:NewF w base n f v) (o:Off X w w') (hX:∀ b∈X,b<base):NewF w' base n f v:=by
 obtain ⟨sp,cap,hv,hc,hn,hs,ha⟩:=h
 have hsz:=o.size
 refine ⟨sp,cap,hv,hc,hn,fun j hj=>?_,fun a e=>⟨(ha a e).1,by have:=(ha a e).2; omega⟩⟩
 obtain ⟨p,hp,hcell⟩:=hs j hj
 exact ⟨p,hp,o.cell hcell (by rw [tT]; exact fun hm=>by have:=hX _ hm; have:=(ha p hp).1; omega)⟩
theorem NewF.below {w w':World} {base n:Nat} {f:Nat→Int} {v:Value} (h:NewF w base n f v) (l:Below w.heap.size w w'):NewF w' base n f v:=h.off (X:=[]) (Off.of_below l) (fun _ hb=>by cases hb)
theorem NewF.lower {w:World} {base base' n:Nat} {f:Nat→Int} {v:Value} (h:NewF w base n f v) (hb:base'≤base):NewF w base' n f v:=by
 obtain ⟨sp,cap,hv,hc,hn,hs,ha⟩:=h
 exact ⟨sp,cap,hv,hc,hn,hs,fun a e=>⟨xnT hb (ha a e).1,(ha a e).2⟩⟩
theorem NewF.srcA {w:World} {base n:Nat} {f:Nat→Int} {sp:Option Addr} {cap:Nat} {X:List Nat} (h:NewF w base n f (.slice sp n cap)) (hX:∀ b∈X,b<base):SrcA X w sp n f:=by
 obtain ⟨sp',cap',hv,_,_,hs,ha⟩:=h
 injection hv with h1 _ _
 subst h1
 exact ⟨hs,fun a e _ hm=>by have:=hX _ hm; have:=(ha a e).1; omega⟩
theorem q8s {P:Program} {o:Oper} {a:Act} {w:World} (ty:TypeId) (x:Operand) (ad:Addr) (n:Nat) (f:Nat→Int) (d:TypeDesc) (ho:o.op=.load ty x) (hx:a.eval x=.pointer (some ad)) (hu:P.underlying ty=some d) (hd:d.isRow=true) (hz:(P.info? ty).map (·.size)=some n) (hs:Src w (some ad) n f) :
 (execOp a.eval o).run P w=.ok (.value (.agg (row .u8 n f).toArray)) w:=by
 have hl:(loadCells ad n).run P w=.ok (row .u8 n f).toArray w:=by
  have:=run_loadCells_list (P:=P) w ad (row .u8 n f) (fun j v hv=>by
   obtain ⟨hj,rfl⟩:=xS hv; obtain ⟨ad',he,hc⟩:=hs j hj; injection he with he
   subst he; exact hc)
  rw [jX] at this; exact this
 have e:(loadVar ty ad).run P w=.ok (.agg (row .u8 n f).toArray) w:=by
  cases hq:P.info? ty with
  | none=>simp [hq] at hz
  | some i =>
    have hs':i.size=n:=by simpa [hq] using hz
    have hagg:(isAgg ty).run P w=.ok true w:=by
     unfold isAgg; rw [Sem.run_bind,run_underlying hu w]
     cases d <;> simp_all
    simp [loadVar,Sem.run_bind,hagg,sizeOf,typeInfo,hq,hs',hl]
 exact Qh
theorem j1h {P:Program} {o:Oper} {a:Act} {w:World} (d s:Operand) (dT sT elem:TypeId) (ho:o.op=.call { callee:=.builtin .copy,args:=#[d,s],argTypes:=#[dT,sT] }) (hu:P.underlying dT=some (.slice elem)) (hsz:(P.info? elem).map (·.size)=some 1)
 (b o' dCap m n sCap:Nat) (f z:Nat→Int) (ad:Addr) (hd:a.eval d=.slice (some ⟨b,o',none⟩) m dCap) (hs:a.eval s=.slice (some ad) m sCap) (hb:Has w b .u8 n f) (hm:o'+m≤n) (hc:Src w (some ad) m z) :
 (execOp a.eval o).run P w=.ok (.value (.int .i64 (m:Int))) (w.setCells b o' (row .u8 m z)):=by
 have hrun:=run_copy_cells (P:=P) w dT sT o.type elem b o' m dCap ad m sCap (row .u8 m z) hu hsz (by rw [jX]; exact (Nat.min_self m).symm) (fun j v hv=>by
  obtain ⟨hj,rfl⟩:=xS hv; obtain ⟨ad',he,hc'⟩:=hc j hj; injection he with he
  subst he; exact hc') (fun j hj=>by rw [jX] at hj; rw [hb.cell (o'+j) JK]; rfl) (fun j hj=>by rw [jX] at hj; exact hb.free (o'+j) JK) (jT .u8 m z)
 exact XZ
theorem x6p (g n c:Nat) (hn:n+16≤c) (w:World):(Instr.sliceAt 32 (.slice (some ⟨g,0,none⟩) (n+16) c) (some (.int .i64 (n:Int))) none none).run Tryz.prog w=.ok (.slice (some ⟨g,n,none⟩) 16 (c-n)) w:=by
 rw [run_sliceAt_slice w 32 _ _ _ _ JU,run_slice_l w 32 _ (n+16) c JU .i64 (n:Int) JK JK,show (sizeOf (Tryz.prog.elem 32)).run Tryz.prog w=.ok 1 w by kernel_rfl]
 have h1:¬ c=n:=by omega
 simp [Result.andThen,sliced,Addr.add_mid,h1]
theorem q1v:x0a:=by
 intro k n hk hn bp bl bc hbl hbc hbn b hb sp len cap hlen hcap hsn z hz w hg hsb hs; have K:=Kr.init w; replace K:=K.box .u8 32 k 23 (w.heap.size) rfl; replace K:=K.box .u8 12 n 96 (w.heap.size+1) Jf
 go_enter Tryz.func90,Tryz.ntmps90
 go_upto_region 1 with fail; generalize ((w.alloc (.cells (row .u8 32 k).toArray 23)).alloc (.cells (row .u8 12 n).toArray 96))=w0 at K ⊢; refine wR (ykL .u8 32 (k) (w.heap.size) 0 Tryz.underlying23 (jJ _) ((K.get _ _ _ _ (mT _ mS)).range) ?_)
 refine ykL .u8 12 (n) (w.heap.size+1) 0 Tryz.underlying96 (zL _) ((K.get _ _ _ _ mS).range) ?_; refine xmL ?_; refine xcL (j4j k 1 n hk hn JG sp len cap JK z _ (hg.h.below K.below hg.size) (hs.below K.below (xnR _))) ?_; rintro e w1 ⟨X,rfl,⟨hX1,hX2,HX⟩,l⟩; have zX:=K.size
 replace K:=(K.call l).own JK hX2 HX; clear l HX; refine xeL ?_; refine xmL ?_; generalize w1.heap.size=m1 at K hX2; show Exit.then _ _ _ _ _; go_upto_region 2 with fail; refine wR (ykL .u8 32 (k) (w.heap.size) 0 Tryz.underlying23 (jJ _) ((K.get _ _ _ _ (mI 2 rfl)).range) ?_)
 refine ykL .u8 12 (n) (w.heap.size+1) 0 Tryz.underlying96 (zL _) ((K.get _ _ _ _ (mT _ mS)).range) ?_; refine xm2 ?_
 refine clT (aA k n hk hn bp bl bc hbl hbc b hb (some ⟨X,0,none⟩) len len hlen (xnR _) (xB k 1 n z) (lL k 1 n z len hz) _ (hg.below K.below hg.size) (hsb.below K.below (xnR _)) (K.get _ _ _ _ mS).src0) K ?_; clear K; intro w2 K; refine qH qR 120 rfl JW (nL ?_)
 refine ysL .u8 16 (zU k n bl b len (xB k 1 n z)) w2.heap.size (jM (xQ _ _ _ rfl).there) (xM _) ?_; have zT:=K.size; replace K:=K.fresh .u8 16 (zU k n bl b len (xB k 1 n z)) qR 120 (xQ _ _ _ rfl).there
 generalize ((w2.alloc (.cells qR 120)).setCells w2.heap.size 0 (row .u8 16 (zU k n bl b len (xB k 1 n z))))=w3 at K ⊢; generalize w2.heap.size=T at *; show Exit.then _ _ _ _ _; go_upto_region 3 with fail; refine wR (xmL ?_)
 refine xqL _ Jk ?_; refine xqL (.int .i64 ((len+16:Nat):Int)) Je ?_
 refine xaL (w':=w3.alloc (.cells (row .u8 (len+16) (fun _=>0)).toArray 5)) (.slice (some ⟨w3.heap.size,0,none⟩) (len+16) (len+16)) (j6i 32 _ _ _ _ _ rfl rfl rfl (q4h (len+16) JK w3)) ?_; have zY:=K.size; replace K:=K.box .u8 (len+16) (fun _=>0) 5 w3.heap.size rfl
 generalize w3.alloc (.cells (row .u8 (len+16) (fun _=>0)).toArray 5)=w4 at K ⊢; generalize w3.heap.size=Y at *; refine xmL ?_; show Exit.then _ _ _ _ _; go_upto_region 4 with fail; refine wR (xm2 ?_)
 refine xaL (.int .i64 (len:Int)) (uE _ _ 32 32 5 rfl Tryz.underlying32 JU Y (len+16) (len+16) len len (len+16) (some ⟨X,0,none⟩) (xB k 1 n z) rfl rfl JK JK (K.get _ _ _ _ mS).there (K.get _ _ _ _ (mI 2 rfl)).src0) ?_
 replace K:=K.part [(T,.u8,16,zU k n bl b len (xB k 1 n z)),(X,.u8,len,xB k 1 n z)] Y .u8 (len+16) _ 0 len JK (xB k 1 n z) mS YZ Jm JK
 generalize w4.setCells Y 0 (row .u8 len (xB k 1 n z))=w5 at K ⊢; show Exit.then _ _ _ _ _; go_upto_region 5 with fail; have HY:=K.get _ _ _ _ mS
 replace K:=K.loose [(T,.u8,16,zU k n bl b len (xB k 1 n z)),(X,.u8,len,xB k 1 n z)] Y .u8 (len+16) _ mS KX Jm JK
 refine hdG K ?_; clear K; intro K; replace HY:=HY.drew; generalize w5.drew=w6 at K HY ⊢; refine xmH 0 28 K ?_; refine xmH 1 29 K ?_
 refine xqH 2 30 rfl _ Jk K ?_; refine xqH 3 31 rfl (.slice (some ⟨Y,len,none⟩) 16 (len+16-len)) (fun w=>mY _ _ _ _ _ _ rfl rfl rfl (x6p Y len (len+16) (xnR _) w)) K ?_; refine xpH 4 32 (.slice (some ⟨T,0,none⟩) 16 16) K ?_
 refine rY (i:=5) (some 33) rfl (.int .i64 ((16:Nat):Int)) JU rfl rfl (j1h _ _ 32 32 5 rfl Tryz.underlying32 JU Y len (len+16-len) 16 (len+16) 16 _ (zU k n bl b len (xB k 1 n z)) ⟨T,0,none⟩ rfl rfl HY JK (K.get _ _ _ _ mS).src0) (K.poke Y (len+16) mS len _) ?_; simp only [aP,lI,l0,lS]
 refine wE JU ?_ _
 have hY:=(HY.part len 16 JK (zU k n bl b len (xB k 1 n z))).congr (g:=fV k n bl b len z) (fun j hj=>by
  unfold fV app uA; by_cases e:j<len
  · rw [if_neg JK,if_pos JK,if_pos e,Nat.sub_zero]
  rw [if_pos JK,if_neg e])
 have hB:=(K.poke Y (len+16) mS len (row .u8 16 (zU k n bl b len (xB k 1 n z)))).below; have hs6:=K.size; clear K HY; generalize hw7:w6.setCells Y len (row .u8 16 (zU k n bl b len (xB k 1 n z)))=w7 at hY hB ⊢
 have hs7:Y<w7.heap.size:=by rw [← hw7,jN]; omega
 clear hw7 hs6
 have hYl:w.heap.size≤Y:=by omega
 go_wp2; go_ret
 exact ⟨Y,len+16,rfl,⟨xnR _,hYl,hs7,hY⟩,hB⟩
theorem j4y (k n:Nat→Int) (bp:Option Addr) (bl bc:Nat) (sp:Option Addr) (len cap:Nat) (hl:len<16) (w:World) :
 Calls Tryz.prog 88 #[(.agg (row .u8 32 (k)).toArray),(.agg (row .u8 12 (n)).toArray),.slice bp bl bc,.slice sp len cap] w fun e w'=>e=.returned (.tuple #[.slice none 0 0,.int .i64 3])∧Below w.heap.size w w':=by
 have g1:(len:Int)<16:=by omega
 have K:=Kr.init w; replace K:=K.box .u8 32 k 23 (w.heap.size) rfl; replace K:=K.box .u8 12 n 96 (w.heap.size+1) Jf
 go_enter Tryz.func88,Tryz.ntmps88
 go_upto_region 1 with fail; generalize ((w.alloc (.cells (row .u8 32 k).toArray 23)).alloc (.cells (row .u8 12 n).toArray 96))=w0 at K ⊢; have hB:=K.below; clear K; go_wp2; go_ret2
 exact ⟨rfl,hB⟩
theorem NewF.of_has {w:World} {base n c B:Nat} {f:Nat→Int} (h:Has w B .u8 n f) (hc:n≤c) (h1:base≤B) (h2:B<w.heap.size):NewF w base n f (.slice (some ⟨B,0,none⟩) n c):=⟨_,c,rfl,hc,fun e=>(by cases e),h.src0,fun a e=>by cases e; exact ⟨h1,h2⟩⟩
theorem j7o (k n:Nat→Int) (hk:In 256 32 k) (hn:In 256 12 n) (bp:Option Addr) (bl bc:Nat) (hbl:bl≤140737488351232) (hbc:bl≤bc) (b:Nat→Int) (hb:In 256 bl b) (sp:Option Addr) (len cap:Nat) (hlen:len≤140737488351248) (hcap:len≤cap) (hl:16≤len) (z:Nat→Int) (hz:In 256 len z) (w:World) (hg:AGlob w) (hsb:Src w bp bl b) (hs:Src w sp len z) :
 Calls Tryz.prog 88 #[(.agg (row .u8 32 (k)).toArray),(.agg (row .u8 12 (n)).toArray),.slice bp bl bc,.slice sp len cap] w fun e w'=>(∃ v,e=.returned (.tuple #[v,.int .i64 (aoE k n bl b len z)])∧NewF w' w.heap.size (aoL k n bl b len z) (xB k 1 n z) v)∧Below w.heap.size w w':=by
 have g1:¬ (len:Int)<16:=by omega
 have hz1:In 256 (len-16) z:=fun j hj=>hz j JK
 have hz2:In 256 16 (fun j=>z (len-16+j)):=fun j hj=>hz _ JK
 obtain ⟨q,hq1,hq2⟩:=q5u (P:=Tryz.prog) (t:=32) JU JW sp len cap (len-16) JK hcap
 obtain ⟨q',hr1,hr2⟩:=j2e (P:=Tryz.prog) (t:=32) JU JW sp len cap (len-16) JK hcap
 rw [show len-(len-16)=16 by omega] at hr1 hr2
 obtain ⟨ad,rfl,_⟩:=hr2 w z hs 0 JG
 have hcq:len-16≤cap:=by omega
 have K:=Kr.init w; replace K:=K.box .u8 32 k 23 (w.heap.size) rfl; replace K:=K.box .u8 12 n 96 (w.heap.size+1) Jf
 go_enter Tryz.func88,Tryz.ntmps88
 go_upto_region 1 with fail; generalize ((w.alloc (.cells (row .u8 32 k).toArray 23)).alloc (.cells (row .u8 12 n).toArray 96))=w0 at K ⊢; go_upto_region 3 with fail; clear g1; refine wR (xmL ?_); refine xqL _ Jk ?_
 refine xqL (.int .i64 ((len-16:Nat):Int)) YY ?_; refine xmL ?_; show Exit.then _ _ _ _ _; go_upto_region 4 with fail; have zX:=K.size
 refine wD (S:=fun w'=>Kr w (w.heap.size+1+1) [(w.heap.size+1,.u8,12,n),(w.heap.size,.u8,32,k)] [] w') JU K.drew ?_; clear K; intro K; refine xmH 0 19 K ?_; refine xmH 1 20 K ?_; refine xqH 2 21 rfl (.slice q (len-16) cap) (fun w=>j0a _ _ _ _ _ _ rfl rfl rfl (hq1 w)) K ?_
 refine xmH 3 22 K ?_; refine xmH 4 23 K ?_; refine xqH 5 24 rfl (.slice (some ad) 16 (cap-(len-16))) (fun w=>mY _ _ _ _ _ _ rfl rfl rfl (hr1 w)) K ?_; refine xpH 6 25 (.pointer (some ad)) K ?_
 refine xrH 7 26 rfl (.agg (row .u8 16 ((fun j=>z (len-16+j)))).toArray) (fun w' h=>q8s 120 _ ad 16 (fun j=>z (len-16+j)) _ rfl rfl Tryz.underlying120 rfl JU (hr2 w' z (hs.below h.below (xnR _)))) K ?_; generalize w0.drew=w1 at K ⊢
 refine rY (i:=8) (w':=w1.alloc (.cells qR 120)) (some 12) rfl (.pointer (some ⟨w1.heap.size,0,none⟩)) JU rfl rfl JU (K.call ((Below.refl w1.heap.size w1).alloc (xnR _) _)) ?_; simp only [aP,lI,l0,lS]; refine xmH 9 11 (K.call ((Below.refl w1.heap.size w1).alloc (xnR _) _)) ?_
 have KF:=K.fresh .u8 16 (fun j=>z (len-16+j)) qR 120 (xQ _ _ _ rfl).there; have zT:=K.size
 refine xX (i:=10) none rfl .u8 16 (fun j=>z (len-16+j)) w1.heap.size 120 _ _ JU rfl rfl rfl rfl rfl (jM (xQ _ _ _ rfl).there) (xM _) (KF.sub _ KX |>.back _ _ (fun _ hp=>hp) Jm (fun _ hq=>by cases hq) JK JK) ?_
 simp only [Act.put]
 refine wE JU ?_ _
 clear K; generalize ((w1.alloc (.cells qR 120)).setCells w1.heap.size 0 (row .u8 16 (fun j=>z (len-16+j))))=w2 at KF ⊢; generalize w1.heap.size=T at *; go_upto_region 5 with fail; refine wD (S:=fun w'=>Kr w (T+1) [(T,.u8,16,(fun j=>z (len-16+j))),(w.heap.size+1,.u8,12,n),(w.heap.size,.u8,32,k)] [] w') JU KF.drew ?_; clear KF
 intro K; refine ykH 0 27 .u8 16 ((fun j=>z (len-16+j))) (T) 0 Tryz.underlying120 (xP _) K (fun _ h=>(h.get _ _ _ _ mS).range) ?_
 refine ykH 1 28 .u8 32 (k) (w.heap.size) 0 Tryz.underlying23 (jJ _) K (fun _ h=>(h.get _ _ _ _ (mI 2 rfl)).range) ?_
 refine ykH 2 29 .u8 12 (n) (w.heap.size+1) 0 Tryz.underlying96 (zL _) K (fun _ h=>(h.get _ _ _ _ (mT _ mS)).range) ?_; refine xmH 3 30 K ?_; refine xmH 4 31 K ?_
 refine yaH 5 32 (aA k n hk hn bp bl bc hbl hbc b hb q (len-16) cap JK hcq z hz1 _ (hg.below K.below hg.size) (hsb.below K.below (xnR _)) (hq2 _ z (hs.below K.below (xnR _)))) ?_; rintro e w4 ⟨rfl,l⟩; replace K:=K.call l; clear l
 refine ⟨_,rfl,K,nH ?_⟩
 refine yaH 6 33 (q0o (fun j=>z (len-16+j)) (zU k n bl b (len-16) z) hz2 (lA _ _ _ _ _ _ _) _ (hg.c.below K.below hg.size)) ?_; rintro e w5 ⟨rfl,l⟩; replace K:=K.call l; clear l
 refine ⟨_,rfl,K,nH ?_⟩
 by_cases hok:aok k n bl b len z
 · have hd:decide (val 256 (fun j=>z (len-16+j)) 16=val 256 (zU k n bl b (len-16) z) 16)=true:=decide_eq_true (by rw [sM]; exact hok.2.symm); rw [hd]; have e1:aoL k n bl b len z=len-16:=by unfold aoL; rw [if_pos hok]
   have e2:aoE k n bl b len z=0:=by unfold aoE; rw [if_neg JK,if_pos hok]
   have HE:=show Hid _ from And.intro e1 e2; clear e1 e2; refine xpH 7 34 (.bool false) K ?_
   refine wE JU ?_ _; clear hd hok; go_upto_region 7 with fail; refine wR (ykL .u8 32 (k) (w.heap.size) 0 Tryz.underlying23 (jJ _) ((K.get _ _ _ _ (mI 2 rfl)).range) ?_); refine ykL .u8 12 (n) (w.heap.size+1) 0 Tryz.underlying96 (zL _) ((K.get _ _ _ _ (mT _ mS)).range) ?_; refine xmL ?_; refine xcL (j4j k 1 n hk hn JG q (len-16) cap JK z _ (hg.h.below K.below hg.size) (hq2 _ z (hs.below K.below (xnR _)))) ?_; rintro e w6 ⟨X,rfl,⟨hX1,hX2,HX⟩,l⟩; replace hX1:=xnT K.below.size hX1; replace K:=K.call l; clear l; refine xeL ?_; refine xmL ?_; refine xmL ?_; have hB:=K.below; clear K; show Exit.then _ _ _ _ _; go_wp2; go_ret2
   exact ⟨⟨.slice (some ⟨X,0,none⟩) (len-16) (len-16),by rw [HE.out.2]; rfl,by rw [HE.out.1]; exact NewF.of_has HX (xnR _) hX1 hX2⟩,hB⟩
 have hd:decide (val 256 (fun j=>z (len-16+j)) 16=val 256 (zU k n bl b (len-16) z) 16)=false:=decide_eq_false (by rw [sM]; exact fun h=>hok ⟨hl,h.symm⟩)
 rw [hd]
 have e1:aoL k n bl b len z=0:=by unfold aoL; rw [if_neg hok]
 have e2:aoE k n bl b len z=70:=by unfold aoE; rw [if_neg JK,if_neg hok]
 have HE:=show Hid _ from And.intro e1 e2; clear e1 e2; refine xpH 7 34 (.bool true) K ?_
 refine wE JU ?_ _
 have hB:=K.below; clear hd hok K; go_wp2; go_ret2
 exact ⟨⟨.slice none 0 0,by rw [HE.out.2]; rfl,by rw [HE.out.1]; exact NewF.nil _ _ _⟩,hB⟩
theorem q1w (k n:Nat→Int) (hk:In 256 32 k) (hn:In 256 12 n) (bp:Option Addr) (bl bc:Nat) (hbl:bl≤140737488351232) (hbc:bl≤bc) (b:Nat→Int) (hb:In 256 bl b) (sp:Option Addr) (len cap:Nat) (hlen:len≤140737488351248) (hcap:len≤cap) (z:Nat→Int) (hz:In 256 len z) (w:World) (hg:AGlob w) (hsb:Src w bp bl b) (hs:Src w sp len z) :
 Calls Tryz.prog 88 #[(.agg (row .u8 32 (k)).toArray),(.agg (row .u8 12 (n)).toArray),.slice bp bl bc,.slice sp len cap] w fun e w'=>(∃ v,e=.returned (.tuple #[v,.int .i64 (aoE k n bl b len z)])∧NewF w' w.heap.size (aoL k n bl b len z) (xB k 1 n z) v)∧Below w.heap.size w w':=by
 by_cases hl:len<16
 · have e1:aoL k n bl b len z=0:=by unfold aoL; rw [if_neg (fun h=>by have:=h.1; omega)]
   have e2:aoE k n bl b len z=3:=by unfold aoE; rw [if_pos hl]
   rw [e1,e2]; exact (j4y k n bp bl bc sp len cap hl w).mono fun e w' h=>⟨⟨_,h.1,NewF.nil _ _ _⟩,h.2⟩
 exact j7o k n hk hn bp bl bc hbl hbc b hb sp len cap hlen hcap JK z hz w hg hsb hs
end Go.Proofs.YtknodlefhclijaaGreatDoor
