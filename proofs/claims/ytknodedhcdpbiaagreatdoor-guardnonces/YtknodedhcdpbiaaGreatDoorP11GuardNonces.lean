/- Texts of Xp Ve Vk Vx Vy Vz Xq Xe, joined. -/
import Derived.Test.YtknodedhcdpbiaaGreatDoorP9GuardNonces
set_option maxRecDepth 20000
set_option maxHeartbeats 64000000
namespace Go.Proofs.YtknodedhcdpbiaaGreatDoor
open Go.RowKit
def pinb (n a b:Int):Bool:=decide (n≥a)&&decide (n≤b)
theorem pinb_iff {n a b:Int}:pinb n a b=true↔a≤n∧n≤b:=by unfold pinb; simp
theorem pwithin_any (n least most:Int) (w:World) :
 Calls Tryz.prog 60 #[.int .i64 n,.int .i64 least,.int .i64 most] w fun e w'=>e=.returned (.bool (pinb n least most))∧Below w.heap.size w w':=by
 have M:=Mm.init w
 go_enter Tryz.func60,Tryz.ntmps60
 go_upto_region 0 with fail; refine wp_region_list ?_; refine xpL (.bool false) ?_; refine xT ?_; go_upto_region 1 with fail; refine wp_region_list ?_; refine xpL (.int .i64 n) ?_; refine xpL (.int .i64 least) ?_
 obtain ⟨b1,hb1⟩:∃ y_,y_=(decide (n≥least)):=⟨_,rfl⟩
 refine xaL (.bool b1) (geqI .i64 _ _ _ _ _ _ rfl rfl rfl b1 hb1.symm _) ?_; refine xpL (.bool b1) ?_
 refine mayL (b1) (.int .i64 n) ((bif b1 then (.int .i64 n) else undef)) (by cases b1 <;> rfl) (by cases b1 <;> rfl) (fun hc=>by cases b1 <;> first | (cases hc; done) | kernel_rfl) ?_
 simp only [aP,lI,l0,lS]
 refine mayL (b1) (.int .i64 most) ((bif b1 then (.int .i64 most) else undef)) (by cases b1 <;> rfl) (by cases b1 <;> rfl) (fun hc=>by cases b1 <;> first | (cases hc; done) | kernel_rfl) ?_
 simp only [aP,lI,l0,lS]
 obtain ⟨b2,hb2⟩:∃ y_,y_=(decide (n≤most)):=⟨_,rfl⟩
 refine mayL (b1) (.bool b2) ((bif b1 then (.bool b2) else undef)) (by cases b1 <;> rfl) (by cases b1 <;> rfl) (fun hc=>by cases b1 <;> first | (cases hc; done) | exact (leqI .i64 _ _ _ _ _ _ rfl rfl rfl b2 hb2.symm _)) ?_
 simp only [aP,lI,l0,lS]
 obtain ⟨b3,hb3⟩:∃ y_,y_=(b1&&b2):=⟨_,rfl⟩
 refine xaL (.bool b3) (by subst hb3; cases b1 <;> rfl) ?_; refine xpL (.bool b3) ?_; refine xT ?_; have hK:=show Hid _ from (show b3=pinb n least most by simp only [hb1,hb2,hb3]; rfl)
 try clear hb1
 try clear hb2
 try clear hb3
 go_wp2; go_ret
 exact ⟨by rw [← hK.out] <;> rfl,M.below⟩
theorem pmay_any (p:Pkt) (bp:Option Addr) (bc:Nat) (w:World):Calls Tryz.prog 40 #[.agg (pcs p bp bc).toArray] w fun e w'=>e=.returned (.bool (pok p))∧Below w.heap.size w w':=by
 have M:=Mm.init w
 unfold pcs
 go_enter Tryz.func40,Tryz.ntmps40
 go_upto_region 0 with fail; refine wp_region_list ?_; refine actL (w':=w.alloc (.cells #[.int .i64 p.kind,.int .i64 p.role,.int .i64 p.path,.int .i64 p.epo,.int .i64 p.ctr,.slice bp p.body.length bc] 70)) (.pointer (some ⟨w.heap.size,0,none⟩)) rfl (by kernel_rfl) ?_; simp only [aP,lI,l0,lS]
 have hB_B1:w.heap.size≤w.heap.size:=M.below.size
 replace M:=M.box #[.int .i64 p.kind,.int .i64 p.role,.int .i64 p.path,.int .i64 p.epo,.int .i64 p.ctr,.slice bp p.body.length bc] 70 w.heap.size rfl; generalize w.alloc (.cells #[.int .i64 p.kind,.int .i64 p.role,.int .i64 p.path,.int .i64 p.epo,.int .i64 p.ctr,.slice bp p.body.length bc] 70)=w1 at M  ⊢; generalize eB:w.heap.size=B1 at M hB_B1  ⊢
 have hE_B1:w.heap.size≤B1:=Nat.le_of_eq eB
 have hF_B1:B1≤w.heap.size:=Nat.le_of_eq eB.symm
 clear eB
 replace M:Mm w ([(B1,[.int .i64 p.kind,.int .i64 p.role,.int .i64 p.path,.int .i64 p.epo,.int .i64 p.ctr,.slice bp p.body.length bc])]) w1:=M
 refine xpL (.bool false) ?_; refine xT ?_; go_upto_region 1 with fail; refine wp_region_list ?_; refine xpL (.pointer (some ⟨B1,0,none⟩)) ?_; refine xaL (.int .i64 p.kind) (load1 3 _ ⟨B1,0,none⟩ _ rfl rfl (fun _=>by kernel_rfl) (M.get mS 0 _ rfl)) ?_; refine xT ?_; go_upto_region 2 with fail; refine wp_region_list ?_
 obtain ⟨b1,hb1⟩:∃ y_,y_=((p.kind:Int) == (1:Int)):=⟨_,rfl⟩
 refine xaL (.bool b1) (eqlI .i64 _ _ _ _ _ _ rfl rfl rfl b1 hb1.symm _) ?_; refine xpL (.bool b1) ?_; refine xT ?_
 cases b1 with
 | true =>
   have k1:p.kind=1:=by simpa using hb1.symm
   go_upto_region 4 with fail; refine wp_region_list ?_; refine xpL (.pointer (some ⟨B1,1,none⟩)) ?_; refine xaL (.int .i64 p.role) (load1 3 _ ⟨B1,1,none⟩ _ rfl rfl (fun _=>by kernel_rfl) (M.get mS 1 _ rfl)) ?_
   obtain ⟨b2,hb2⟩:∃ y_,y_=((p.role:Int) == (0:Int)):=⟨_,rfl⟩
   refine xaL (.bool b2) (eqlI .i64 _ _ _ _ _ _ rfl rfl rfl b2 hb2.symm _) ?_; refine xpL (.bool b2) ?_
   refine mayL (b2) (.pointer (some ⟨B1,2,none⟩)) ((bif b2 then (.pointer (some ⟨B1,2,none⟩)) else undef)) (by cases b2 <;> rfl) (by cases b2 <;> rfl) (fun hc=>by cases b2 <;> first | (cases hc; done) | kernel_rfl) ?_
   simp only [aP,lI,l0,lS]
   refine mayL (b2) (.int .i64 p.path) ((bif b2 then (.int .i64 p.path) else undef)) (by cases b2 <;> rfl) (by cases b2 <;> rfl) (fun hc=>by cases b2 <;> first | (cases hc; done) | exact (load1 3 _ ⟨B1,2,none⟩ _ rfl rfl (fun _=>by kernel_rfl) (M.get mS 2 _ rfl))) ?_
   simp only [aP,lI,l0,lS]
   obtain ⟨b3,hb3⟩:∃ y_,y_=((p.path:Int) == (0:Int)):=⟨_,rfl⟩
   refine mayL (b2) (.bool b3) ((bif b2 then (.bool b3) else undef)) (by cases b2 <;> rfl) (by cases b2 <;> rfl) (fun hc=>by cases b2 <;> first | (cases hc; done) | exact (eqlI .i64 _ _ _ _ _ _ rfl rfl rfl b3 hb3.symm _)) ?_
   simp only [aP,lI,l0,lS]
   obtain ⟨b4,hb4⟩:∃ y_,y_=(b2&&b3):=⟨_,rfl⟩
   refine xaL (.bool b4) (by subst hb4; cases b2 <;> rfl) ?_; refine xpL (.bool b4) ?_
   refine mayL (b4) (.pointer (some ⟨B1,3,none⟩)) ((bif b4 then (.pointer (some ⟨B1,3,none⟩)) else undef)) (by cases b4 <;> rfl) (by cases b4 <;> rfl) (fun hc=>by cases b4 <;> first | (cases hc; done) | kernel_rfl) ?_
   simp only [aP,lI,l0,lS]
   refine mayL (b4) (.int .i64 p.epo) ((bif b4 then (.int .i64 p.epo) else undef)) (by cases b4 <;> rfl) (by cases b4 <;> rfl) (fun hc=>by cases b4 <;> first | (cases hc; done) | exact (load1 3 _ ⟨B1,3,none⟩ _ rfl rfl (fun _=>by kernel_rfl) (M.get mS 3 _ rfl))) ?_
   simp only [aP,lI,l0,lS]
   obtain ⟨b5,hb5⟩:∃ y_,y_=((p.epo:Int) == (0:Int)):=⟨_,rfl⟩
   refine mayL (b4) (.bool b5) ((bif b4 then (.bool b5) else undef)) (by cases b4 <;> rfl) (by cases b4 <;> rfl) (fun hc=>by cases b4 <;> first | (cases hc; done) | exact (eqlI .i64 _ _ _ _ _ _ rfl rfl rfl b5 hb5.symm _)) ?_
   simp only [aP,lI,l0,lS]
   obtain ⟨b6,hb6⟩:∃ y_,y_=(b4&&b5):=⟨_,rfl⟩
   refine xaL (.bool b6) (by subst hb6; cases b4 <;> rfl) ?_; refine xpL (.bool b6) ?_
   refine mayL (b6) (.pointer (some ⟨B1,4,none⟩)) ((bif b6 then (.pointer (some ⟨B1,4,none⟩)) else undef)) (by cases b6 <;> rfl) (by cases b6 <;> rfl) (fun hc=>by cases b6 <;> first | (cases hc; done) | kernel_rfl) ?_
   simp only [aP,lI,l0,lS]
   refine mayL (b6) (.int .i64 p.ctr) ((bif b6 then (.int .i64 p.ctr) else undef)) (by cases b6 <;> rfl) (by cases b6 <;> rfl) (fun hc=>by cases b6 <;> first | (cases hc; done) | exact (load1 3 _ ⟨B1,4,none⟩ _ rfl rfl (fun _=>by kernel_rfl) (M.get mS 4 _ rfl))) ?_
   simp only [aP,lI,l0,lS]
   obtain ⟨b7,hb7⟩:∃ y_,y_=((p.ctr:Int) == (0:Int)):=⟨_,rfl⟩
   refine mayL (b6) (.bool b7) ((bif b6 then (.bool b7) else undef)) (by cases b6 <;> rfl) (by cases b6 <;> rfl) (fun hc=>by cases b6 <;> first | (cases hc; done) | exact (eqlI .i64 _ _ _ _ _ _ rfl rfl rfl b7 hb7.symm _)) ?_
   simp only [aP,lI,l0,lS]
   obtain ⟨b8,hb8⟩:∃ y_,y_=(b6&&b7):=⟨_,rfl⟩
   refine xaL (.bool b8) (by subst hb8; cases b6 <;> rfl) ?_; refine xpL (.bool b8) ?_
   refine mayL (b8) (.pointer (some ⟨B1,5,none⟩)) ((bif b8 then (.pointer (some ⟨B1,5,none⟩)) else undef)) (by cases b8 <;> rfl) (by cases b8 <;> rfl) (fun hc=>by cases b8 <;> first | (cases hc; done) | kernel_rfl) ?_
   simp only [aP,lI,l0,lS]
   refine mayL (b8) (.slice bp p.body.length bc) ((bif b8 then (.slice bp p.body.length bc) else undef)) (by cases b8 <;> rfl) (by cases b8 <;> rfl) (fun hc=>by cases b8 <;> first | (cases hc; done) | exact (load1 29 _ ⟨B1,5,none⟩ _ rfl rfl (fun _=>by kernel_rfl) (M.get mS 5 _ rfl))) ?_
   simp only [aP,lI,l0,lS]
   refine mayL (b8) (.int .i64 ((p.body.length:Nat):Int)) ((bif b8 then (.int .i64 ((p.body.length:Nat):Int)) else undef)) (by cases b8 <;> rfl) (by cases b8 <;> rfl) (fun hc=>by cases b8 <;> first | (cases hc; done) | exact (lenS _ 29 5 bp p.body.length bc rfl Tryz.underlying29 rfl _)) ?_
   simp only [aP,lI,l0,lS]
   obtain ⟨b9,hb9⟩:∃ y_,y_=(pinb ((p.body.length:Nat):Int) 1 300):=⟨_,rfl⟩
   have hC:Calls Tryz.prog 60 #[.int .i64 ((p.body.length:Nat):Int),.int .i64 1,.int .i64 300] w1 (fun e w'=>e=.returned (.bool b9)∧Below w1.heap.size w1 w'):=(by rw [hb9]; exact pwithin_any _ _ _ _)
   refine mayCallL (b8) (.bool b9) ((bif b8 then (.bool b9) else undef)) 60 #[.int .i64 ((p.body.length:Nat):Int),.int .i64 1,.int .i64 300] (by cases b8 <;> rfl) (by cases b8 <;> rfl) (fun hc=>by cases b8 <;> first | (cases hc; done) | (intro _; kernel_rfl)) (fun _=>hC) ?_
   intro w2 l; replace M:=M.call l; clear l hC; simp only [aP,lI,l0,lS]
   obtain ⟨b10,hb10⟩:∃ y_,y_=(b8&&b9):=⟨_,rfl⟩
   refine xaL (.bool b10) (by subst hb10; cases b8 <;> rfl) ?_; refine xpL (.bool b10) ?_; refine xT ?_
   have hA:b10=pok p:=by
    rw [pok_hlo (by omega)]
    apply Bool.eq_iff_iff.2
    simp only [hb2,hb3,hb4,hb5,hb6,hb7,hb8,hb9,hb10,xbA,decide_eq_true_eq,beq_iff_eq,pinb_iff]
    unfold Hlo
    omega
   replace hA:=show Hid _ from hA
   try clear hb1
   try clear hb2
   try clear hb3
   try clear hb4
   try clear hb5
   try clear hb6
   try clear hb7
   try clear hb8
   try clear hb9
   try clear hb10
   try clear k1
   try clear k2
   try clear k3
   go_wp2; go_ret
   exact ⟨by rw [← hA.out] <;> rfl,M.below⟩
 | false =>
   have k1:¬ p.kind=1:=by simpa using hb1.symm
   go_upto_region 3 with fail; refine wp_region_list ?_
   obtain ⟨b11,hb11⟩:∃ y_,y_=((p.kind:Int) == (2:Int)):=⟨_,rfl⟩
   refine xaL (.bool b11) (eqlI .i64 _ _ _ _ _ _ rfl rfl rfl b11 hb11.symm _) ?_; refine xpL (.bool b11) ?_; refine xT ?_
   cases b11 with
   | true =>
     have k2:p.kind=2:=by simpa using hb11.symm
     go_upto_region 4 with fail; refine wp_region_list ?_; refine xpL (.pointer (some ⟨B1,1,none⟩)) ?_; refine xaL (.int .i64 p.role) (load1 3 _ ⟨B1,1,none⟩ _ rfl rfl (fun _=>by kernel_rfl) (M.get mS 1 _ rfl)) ?_
     obtain ⟨b12,hb12⟩:∃ y_,y_=((p.role:Int) == (0:Int)):=⟨_,rfl⟩
     refine xaL (.bool b12) (eqlI .i64 _ _ _ _ _ _ rfl rfl rfl b12 hb12.symm _) ?_; refine xpL (.bool b12) ?_
     refine mayL (b12) (.pointer (some ⟨B1,2,none⟩)) ((bif b12 then (.pointer (some ⟨B1,2,none⟩)) else undef)) (by cases b12 <;> rfl) (by cases b12 <;> rfl) (fun hc=>by cases b12 <;> first | (cases hc; done) | kernel_rfl) ?_
     simp only [aP,lI,l0,lS]
     refine mayL (b12) (.int .i64 p.path) ((bif b12 then (.int .i64 p.path) else undef)) (by cases b12 <;> rfl) (by cases b12 <;> rfl) (fun hc=>by cases b12 <;> first | (cases hc; done) | exact (load1 3 _ ⟨B1,2,none⟩ _ rfl rfl (fun _=>by kernel_rfl) (M.get mS 2 _ rfl))) ?_
     simp only [aP,lI,l0,lS]
     obtain ⟨b13,hb13⟩:∃ y_,y_=((p.path:Int) == (0:Int)):=⟨_,rfl⟩
     refine mayL (b12) (.bool b13) ((bif b12 then (.bool b13) else undef)) (by cases b12 <;> rfl) (by cases b12 <;> rfl) (fun hc=>by cases b12 <;> first | (cases hc; done) | exact (eqlI .i64 _ _ _ _ _ _ rfl rfl rfl b13 hb13.symm _)) ?_
     simp only [aP,lI,l0,lS]
     obtain ⟨b14,hb14⟩:∃ y_,y_=(b12&&b13):=⟨_,rfl⟩
     refine xaL (.bool b14) (by subst hb14; cases b12 <;> rfl) ?_; refine xpL (.bool b14) ?_
     refine mayL (b14) (.pointer (some ⟨B1,3,none⟩)) ((bif b14 then (.pointer (some ⟨B1,3,none⟩)) else undef)) (by cases b14 <;> rfl) (by cases b14 <;> rfl) (fun hc=>by cases b14 <;> first | (cases hc; done) | kernel_rfl) ?_
     simp only [aP,lI,l0,lS]
     refine mayL (b14) (.int .i64 p.epo) ((bif b14 then (.int .i64 p.epo) else undef)) (by cases b14 <;> rfl) (by cases b14 <;> rfl) (fun hc=>by cases b14 <;> first | (cases hc; done) | exact (load1 3 _ ⟨B1,3,none⟩ _ rfl rfl (fun _=>by kernel_rfl) (M.get mS 3 _ rfl))) ?_
     simp only [aP,lI,l0,lS]
     obtain ⟨b15,hb15⟩:∃ y_,y_=((p.epo:Int) == (0:Int)):=⟨_,rfl⟩
     refine mayL (b14) (.bool b15) ((bif b14 then (.bool b15) else undef)) (by cases b14 <;> rfl) (by cases b14 <;> rfl) (fun hc=>by cases b14 <;> first | (cases hc; done) | exact (eqlI .i64 _ _ _ _ _ _ rfl rfl rfl b15 hb15.symm _)) ?_
     simp only [aP,lI,l0,lS]
     obtain ⟨b16,hb16⟩:∃ y_,y_=(b14&&b15):=⟨_,rfl⟩
     refine xaL (.bool b16) (by subst hb16; cases b14 <;> rfl) ?_; refine xpL (.bool b16) ?_
     refine mayL (b16) (.pointer (some ⟨B1,4,none⟩)) ((bif b16 then (.pointer (some ⟨B1,4,none⟩)) else undef)) (by cases b16 <;> rfl) (by cases b16 <;> rfl) (fun hc=>by cases b16 <;> first | (cases hc; done) | kernel_rfl) ?_
     simp only [aP,lI,l0,lS]
     refine mayL (b16) (.int .i64 p.ctr) ((bif b16 then (.int .i64 p.ctr) else undef)) (by cases b16 <;> rfl) (by cases b16 <;> rfl) (fun hc=>by cases b16 <;> first | (cases hc; done) | exact (load1 3 _ ⟨B1,4,none⟩ _ rfl rfl (fun _=>by kernel_rfl) (M.get mS 4 _ rfl))) ?_
     simp only [aP,lI,l0,lS]
     obtain ⟨b17,hb17⟩:∃ y_,y_=((p.ctr:Int) == (0:Int)):=⟨_,rfl⟩
     refine mayL (b16) (.bool b17) ((bif b16 then (.bool b17) else undef)) (by cases b16 <;> rfl) (by cases b16 <;> rfl) (fun hc=>by cases b16 <;> first | (cases hc; done) | exact (eqlI .i64 _ _ _ _ _ _ rfl rfl rfl b17 hb17.symm _)) ?_
     simp only [aP,lI,l0,lS]
     obtain ⟨b18,hb18⟩:∃ y_,y_=(b16&&b17):=⟨_,rfl⟩
     refine xaL (.bool b18) (by subst hb18; cases b16 <;> rfl) ?_; refine xpL (.bool b18) ?_
     refine mayL (b18) (.pointer (some ⟨B1,5,none⟩)) ((bif b18 then (.pointer (some ⟨B1,5,none⟩)) else undef)) (by cases b18 <;> rfl) (by cases b18 <;> rfl) (fun hc=>by cases b18 <;> first | (cases hc; done) | kernel_rfl) ?_
     simp only [aP,lI,l0,lS]
     refine mayL (b18) (.slice bp p.body.length bc) ((bif b18 then (.slice bp p.body.length bc) else undef)) (by cases b18 <;> rfl) (by cases b18 <;> rfl) (fun hc=>by cases b18 <;> first | (cases hc; done) | exact (load1 29 _ ⟨B1,5,none⟩ _ rfl rfl (fun _=>by kernel_rfl) (M.get mS 5 _ rfl))) ?_
     simp only [aP,lI,l0,lS]
     refine mayL (b18) (.int .i64 ((p.body.length:Nat):Int)) ((bif b18 then (.int .i64 ((p.body.length:Nat):Int)) else undef)) (by cases b18 <;> rfl) (by cases b18 <;> rfl) (fun hc=>by cases b18 <;> first | (cases hc; done) | exact (lenS _ 29 5 bp p.body.length bc rfl Tryz.underlying29 rfl _)) ?_
     simp only [aP,lI,l0,lS]
     obtain ⟨b19,hb19⟩:∃ y_,y_=(pinb ((p.body.length:Nat):Int) 1 300):=⟨_,rfl⟩
     have hC:Calls Tryz.prog 60 #[.int .i64 ((p.body.length:Nat):Int),.int .i64 1,.int .i64 300] w1 (fun e w'=>e=.returned (.bool b19)∧Below w1.heap.size w1 w'):=(by rw [hb19]; exact pwithin_any _ _ _ _)
     refine mayCallL (b18) (.bool b19) ((bif b18 then (.bool b19) else undef)) 60 #[.int .i64 ((p.body.length:Nat):Int),.int .i64 1,.int .i64 300] (by cases b18 <;> rfl) (by cases b18 <;> rfl) (fun hc=>by cases b18 <;> first | (cases hc; done) | (intro _; kernel_rfl)) (fun _=>hC) ?_
     intro w3 l; replace M:=M.call l; clear l hC; simp only [aP,lI,l0,lS]
     obtain ⟨b20,hb20⟩:∃ y_,y_=(b18&&b19):=⟨_,rfl⟩
     refine xaL (.bool b20) (by subst hb20; cases b18 <;> rfl) ?_; refine xpL (.bool b20) ?_; refine xT ?_
     have hA:b20=pok p:=by
      rw [pok_hlo (by omega)]
      apply Bool.eq_iff_iff.2
      simp only [hb12,hb13,hb14,hb15,hb16,hb17,hb18,hb19,hb20,xbA,decide_eq_true_eq,beq_iff_eq,pinb_iff]
      unfold Hlo
      omega
     replace hA:=show Hid _ from hA
     try clear hb1
     try clear hb11
     try clear hb12
     try clear hb13
     try clear hb14
     try clear hb15
     try clear hb16
     try clear hb17
     try clear hb18
     try clear hb19
     try clear hb20
     try clear k1
     try clear k2
     try clear k3
     go_wp2; go_ret
     exact ⟨by rw [← hA.out] <;> rfl,M.below⟩
   | false =>
     have k2:¬ p.kind=2:=by simpa using hb11.symm
     go_upto_region 5 with fail; refine wp_region_list ?_
     obtain ⟨b21,hb21⟩:∃ y_,y_=((p.kind:Int) == (3:Int)):=⟨_,rfl⟩
     refine xaL (.bool b21) (eqlI .i64 _ _ _ _ _ _ rfl rfl rfl b21 hb21.symm _) ?_; refine xpL (.bool b21) ?_; refine xT ?_
     cases b21 with
     | true =>
       have k3:p.kind=3:=by simpa using hb21.symm
       go_upto_region 6 with fail; refine wp_region_list ?_; refine xpL (.pointer (some ⟨B1,1,none⟩)) ?_; refine xaL (.int .i64 p.role) (load1 3 _ ⟨B1,1,none⟩ _ rfl rfl (fun _=>by kernel_rfl) (M.get mS 1 _ rfl)) ?_
       obtain ⟨b22,hb22⟩:∃ y_,y_=(pinb p.role 0 1):=⟨_,rfl⟩
       have hC:Calls Tryz.prog 60 #[.int .i64 p.role,.int .i64 0,.int .i64 1] w1 (fun e w'=>e=.returned (.bool b22)∧Below w1.heap.size w1 w'):=(by rw [hb22]; exact pwithin_any _ _ _ _)
       refine xcL (hC) ?_; rintro e w4 ⟨rfl,l⟩; replace M:=M.call l
       refine ⟨_,rfl,?_⟩
       clear l hC; simp only [aP,lI,l0,lS]; refine xpL (.bool b22) ?_
       refine mayL (b22) (.pointer (some ⟨B1,2,none⟩)) ((bif b22 then (.pointer (some ⟨B1,2,none⟩)) else undef)) (by cases b22 <;> rfl) (by cases b22 <;> rfl) (fun hc=>by cases b22 <;> first | (cases hc; done) | kernel_rfl) ?_
       simp only [aP,lI,l0,lS]
       refine mayL (b22) (.int .i64 p.path) ((bif b22 then (.int .i64 p.path) else undef)) (by cases b22 <;> rfl) (by cases b22 <;> rfl) (fun hc=>by cases b22 <;> first | (cases hc; done) | exact (load1 3 _ ⟨B1,2,none⟩ _ rfl rfl (fun _=>by kernel_rfl) (M.get mS 2 _ rfl))) ?_
       simp only [aP,lI,l0,lS]
       obtain ⟨b23,hb23⟩:∃ y_,y_=(pinb p.path 0 255):=⟨_,rfl⟩
       have hC:Calls Tryz.prog 60 #[.int .i64 p.path,.int .i64 0,.int .i64 255] w4 (fun e w'=>e=.returned (.bool b23)∧Below w4.heap.size w4 w'):=(by rw [hb23]; exact pwithin_any _ _ _ _)
       refine mayCallL (b22) (.bool b23) ((bif b22 then (.bool b23) else undef)) 60 #[.int .i64 p.path,.int .i64 0,.int .i64 255] (by cases b22 <;> rfl) (by cases b22 <;> rfl) (fun hc=>by cases b22 <;> first | (cases hc; done) | (intro _; kernel_rfl)) (fun _=>hC) ?_
       intro w5 l; replace M:=M.call l; clear l hC; simp only [aP,lI,l0,lS]
       obtain ⟨b24,hb24⟩:∃ y_,y_=(b22&&b23):=⟨_,rfl⟩
       refine xaL (.bool b24) (by subst hb24; cases b22 <;> rfl) ?_; refine xpL (.bool b24) ?_
       refine mayL (b24) (.pointer (some ⟨B1,3,none⟩)) ((bif b24 then (.pointer (some ⟨B1,3,none⟩)) else undef)) (by cases b24 <;> rfl) (by cases b24 <;> rfl) (fun hc=>by cases b24 <;> first | (cases hc; done) | kernel_rfl) ?_
       simp only [aP,lI,l0,lS]
       refine mayL (b24) (.int .i64 p.epo) ((bif b24 then (.int .i64 p.epo) else undef)) (by cases b24 <;> rfl) (by cases b24 <;> rfl) (fun hc=>by cases b24 <;> first | (cases hc; done) | exact (load1 3 _ ⟨B1,3,none⟩ _ rfl rfl (fun _=>by kernel_rfl) (M.get mS 3 _ rfl))) ?_
       simp only [aP,lI,l0,lS]
       obtain ⟨b25,hb25⟩:∃ y_,y_=(pinb p.epo 0 65535):=⟨_,rfl⟩
       have hC:Calls Tryz.prog 60 #[.int .i64 p.epo,.int .i64 0,.int .i64 65535] w5 (fun e w'=>e=.returned (.bool b25)∧Below w5.heap.size w5 w'):=(by rw [hb25]; exact pwithin_any _ _ _ _)
       refine mayCallL (b24) (.bool b25) ((bif b24 then (.bool b25) else undef)) 60 #[.int .i64 p.epo,.int .i64 0,.int .i64 65535] (by cases b24 <;> rfl) (by cases b24 <;> rfl) (fun hc=>by cases b24 <;> first | (cases hc; done) | (intro _; kernel_rfl)) (fun _=>hC) ?_
       intro w6 l; replace M:=M.call l; clear l hC; simp only [aP,lI,l0,lS]
       obtain ⟨b26,hb26⟩:∃ y_,y_=(b24&&b25):=⟨_,rfl⟩
       refine xaL (.bool b26) (by subst hb26; cases b24 <;> rfl) ?_; refine xpL (.bool b26) ?_
       refine mayL (b26) (.pointer (some ⟨B1,4,none⟩)) ((bif b26 then (.pointer (some ⟨B1,4,none⟩)) else undef)) (by cases b26 <;> rfl) (by cases b26 <;> rfl) (fun hc=>by cases b26 <;> first | (cases hc; done) | kernel_rfl) ?_
       simp only [aP,lI,l0,lS]
       refine mayL (b26) (.int .i64 p.ctr) ((bif b26 then (.int .i64 p.ctr) else undef)) (by cases b26 <;> rfl) (by cases b26 <;> rfl) (fun hc=>by cases b26 <;> first | (cases hc; done) | exact (load1 3 _ ⟨B1,4,none⟩ _ rfl rfl (fun _=>by kernel_rfl) (M.get mS 4 _ rfl))) ?_
       simp only [aP,lI,l0,lS]
       obtain ⟨b27,hb27⟩:∃ y_,y_=(pinb p.ctr 0 281474976710655):=⟨_,rfl⟩
       have hC:Calls Tryz.prog 60 #[.int .i64 p.ctr,.int .i64 0,.int .i64 281474976710655] w6 (fun e w'=>e=.returned (.bool b27)∧Below w6.heap.size w6 w'):=(by rw [hb27]; exact pwithin_any _ _ _ _)
       refine mayCallL (b26) (.bool b27) ((bif b26 then (.bool b27) else undef)) 60 #[.int .i64 p.ctr,.int .i64 0,.int .i64 281474976710655] (by cases b26 <;> rfl) (by cases b26 <;> rfl) (fun hc=>by cases b26 <;> first | (cases hc; done) | (intro _; kernel_rfl)) (fun _=>hC) ?_
       intro w7 l; replace M:=M.call l; clear l hC; simp only [aP,lI,l0,lS]
       obtain ⟨b28,hb28⟩:∃ y_,y_=(b26&&b27):=⟨_,rfl⟩
       refine xaL (.bool b28) (by subst hb28; cases b26 <;> rfl) ?_; refine xpL (.bool b28) ?_
       refine mayL (b28) (.pointer (some ⟨B1,5,none⟩)) ((bif b28 then (.pointer (some ⟨B1,5,none⟩)) else undef)) (by cases b28 <;> rfl) (by cases b28 <;> rfl) (fun hc=>by cases b28 <;> first | (cases hc; done) | kernel_rfl) ?_
       simp only [aP,lI,l0,lS]
       refine mayL (b28) (.slice bp p.body.length bc) ((bif b28 then (.slice bp p.body.length bc) else undef)) (by cases b28 <;> rfl) (by cases b28 <;> rfl) (fun hc=>by cases b28 <;> first | (cases hc; done) | exact (load1 29 _ ⟨B1,5,none⟩ _ rfl rfl (fun _=>by kernel_rfl) (M.get mS 5 _ rfl))) ?_
       simp only [aP,lI,l0,lS]
       refine mayL (b28) (.int .i64 ((p.body.length:Nat):Int)) ((bif b28 then (.int .i64 ((p.body.length:Nat):Int)) else undef)) (by cases b28 <;> rfl) (by cases b28 <;> rfl) (fun hc=>by cases b28 <;> first | (cases hc; done) | exact (lenS _ 29 5 bp p.body.length bc rfl Tryz.underlying29 rfl _)) ?_
       simp only [aP,lI,l0,lS]
       obtain ⟨b29,hb29⟩:∃ y_,y_=(pinb ((p.body.length:Nat):Int) 16 272):=⟨_,rfl⟩
       have hC:Calls Tryz.prog 60 #[.int .i64 ((p.body.length:Nat):Int),.int .i64 16,.int .i64 272] w7 (fun e w'=>e=.returned (.bool b29)∧Below w7.heap.size w7 w'):=(by rw [hb29]; exact pwithin_any _ _ _ _)
       refine mayCallL (b28) (.bool b29) ((bif b28 then (.bool b29) else undef)) 60 #[.int .i64 ((p.body.length:Nat):Int),.int .i64 16,.int .i64 272] (by cases b28 <;> rfl) (by cases b28 <;> rfl) (fun hc=>by cases b28 <;> first | (cases hc; done) | (intro _; kernel_rfl)) (fun _=>hC) ?_
       intro w8 l; replace M:=M.call l; clear l hC; simp only [aP,lI,l0,lS]
       obtain ⟨b30,hb30⟩:∃ y_,y_=(b28&&b29):=⟨_,rfl⟩
       refine xaL (.bool b30) (by subst hb30; cases b28 <;> rfl) ?_; refine xpL (.bool b30) ?_; refine xT ?_
       have hA:b30=pok p:=by
        rw [pok_rec k3]
        apply Bool.eq_iff_iff.2
        simp only [hb22,hb23,hb24,hb25,hb26,hb27,hb28,hb29,hb30,xbA,decide_eq_true_eq,pinb_iff]
        unfold Rec
        omega
       replace hA:=show Hid _ from hA
       try clear hb1
       try clear hb11
       try clear hb21
       try clear hb22
       try clear hb23
       try clear hb24
       try clear hb25
       try clear hb26
       try clear hb27
       try clear hb28
       try clear hb29
       try clear hb30
       try clear k1
       try clear k2
       try clear k3
       go_wp2; go_ret
       exact ⟨by rw [← hA.out] <;> rfl,M.below⟩
     | false =>
       have k3:¬ p.kind=3:=by simpa using hb21.symm
       go_upto_region 7 with fail; refine wp_region_list ?_; refine xpL (.bool false) ?_; refine xT ?_
       have hA:false=pok p:=by
        rw [pok_none (by omega) k3]
       replace hA:=show Hid _ from hA
       try clear hb1
       try clear hb11
       try clear hb21
       try clear k1
       try clear k2
       try clear k3
       go_wp2; go_ret
       exact ⟨by rw [← hA.out] <;> rfl,M.below⟩
def prc (p:Pkt):Bool:=decide (p.kind=3∧pok p=true)
theorem prec_any (p:Pkt) (bp:Option Addr) (bc:Nat) (w:World):Calls Tryz.prog 38 #[.agg (pcs p bp bc).toArray] w fun e w'=>e=.returned (.bool (prc p))∧Below w.heap.size w w':=by
 have M:=Mm.init w
 unfold pcs
 go_enter Tryz.func38,Tryz.ntmps38
 go_upto_region 0 with fail; refine wp_region_list ?_; refine actL (w':=w.alloc (.cells #[.int .i64 p.kind,.int .i64 p.role,.int .i64 p.path,.int .i64 p.epo,.int .i64 p.ctr,.slice bp p.body.length bc] 70)) (.pointer (some ⟨w.heap.size,0,none⟩)) rfl (by kernel_rfl) ?_; simp only [aP,lI,l0,lS]
 have hB_B1:w.heap.size≤w.heap.size:=M.below.size
 replace M:=M.box #[.int .i64 p.kind,.int .i64 p.role,.int .i64 p.path,.int .i64 p.epo,.int .i64 p.ctr,.slice bp p.body.length bc] 70 w.heap.size rfl; generalize w.alloc (.cells #[.int .i64 p.kind,.int .i64 p.role,.int .i64 p.path,.int .i64 p.epo,.int .i64 p.ctr,.slice bp p.body.length bc] 70)=w1 at M  ⊢; generalize eB:w.heap.size=B1 at M hB_B1  ⊢
 have hE_B1:w.heap.size≤B1:=Nat.le_of_eq eB
 have hF_B1:B1≤w.heap.size:=Nat.le_of_eq eB.symm
 clear eB
 replace M:Mm w ([(B1,[.int .i64 p.kind,.int .i64 p.role,.int .i64 p.path,.int .i64 p.epo,.int .i64 p.ctr,.slice bp p.body.length bc])]) w1:=M
 refine xpL (.bool false) ?_; refine xT ?_; go_upto_region 1 with fail; refine wp_region_list ?_; refine xpL (.pointer (some ⟨B1,0,none⟩)) ?_; refine xaL (.int .i64 p.kind) (load1 3 _ ⟨B1,0,none⟩ _ rfl rfl (fun _=>by kernel_rfl) (M.get mS 0 _ rfl)) ?_
 obtain ⟨b1,hb1⟩:∃ y_,y_=((p.kind:Int) == (3:Int)):=⟨_,rfl⟩
 refine xaL (.bool b1) (eqlI .i64 _ _ _ _ _ _ rfl rfl rfl b1 hb1.symm _) ?_; refine xpL (.bool b1) ?_
 refine mayL (b1) (.agg #[.int .i64 p.kind,.int .i64 p.role,.int .i64 p.path,.int .i64 p.epo,.int .i64 p.ctr,.slice bp p.body.length bc]) ((bif b1 then (.agg #[.int .i64 p.kind,.int .i64 p.role,.int .i64 p.path,.int .i64 p.epo,.int .i64 p.ctr,.slice bp p.body.length bc]) else undef)) (by cases b1 <;> rfl) (by cases b1 <;> rfl) (fun hc=>by cases b1 <;> first | (cases hc; done) | exact (loadN 70 _ ⟨B1,0,none⟩ [.int .i64 p.kind,.int .i64 p.role,.int .i64 p.path,.int .i64 p.epo,.int .i64 p.ctr,.slice bp p.body.length bc] rfl rfl (fun _=>by kernel_rfl) (fun _=>by kernel_rfl) (M.rangeAt mS))) ?_
 simp only [aP,lI,l0,lS]
 obtain ⟨b2,hb2⟩:∃ y_,y_=(pok p):=⟨_,rfl⟩
 have hC:Calls Tryz.prog 40 #[.agg #[.int .i64 p.kind,.int .i64 p.role,.int .i64 p.path,.int .i64 p.epo,.int .i64 p.ctr,.slice bp p.body.length bc]] w1 (fun e w'=>e=.returned (.bool b2)∧Below w1.heap.size w1 w'):=(by rw [hb2]; exact pmay_any p bp bc _)
 refine mayCallL (b1) (.bool b2) ((bif b1 then (.bool b2) else undef)) 40 #[.agg #[.int .i64 p.kind,.int .i64 p.role,.int .i64 p.path,.int .i64 p.epo,.int .i64 p.ctr,.slice bp p.body.length bc]] (by cases b1 <;> rfl) (by cases b1 <;> rfl) (fun hc=>by cases b1 <;> first | (cases hc; done) | (intro _; kernel_rfl)) (fun _=>hC) ?_
 intro w2 l; replace M:=M.call l; clear l hC; simp only [aP,lI,l0,lS]
 obtain ⟨b3,hb3⟩:∃ y_,y_=(b1&&b2):=⟨_,rfl⟩
 refine xaL (.bool b3) (by subst hb3; cases b1 <;> rfl) ?_; refine xpL (.bool b3) ?_; refine xT ?_
 have hA:b3=prc p:=by
  unfold prc
  rw [hb3,hb2,hb1]
  by_cases h3:p.kind=3
  · cases pok p <;> simp [h3]
  · simp [h3]
 replace hA:=show Hid _ from hA
 try clear hb1
 try clear hb2
 try clear hb3
 go_wp2; go_ret
 exact ⟨by rw [← hA.out] <;> rfl,M.below⟩
def PutF (len:Nat) (z:Nat→Int) (n s:Int) (B:Nat) (e:Ending) (w':World):Prop:=∃ v,e=.returned (.tuple #[v,.int .i64 (fE n s)])∧Own w' B 5 .u8 (fL len n s) (fput len z n s) v
def PutFixedOK:Prop:=∀ (sp:Option Addr) (len cap:Nat),len≤140737488351232→len≤cap→(sp=none→cap=0)→∀ z:Nat→Int,In 256 len z→∀ n:Int,(-9223372036854775808≤n∧n<9223372036854775808)→∀ s:Int,(-9223372036854775808≤s∧s<9223372036854775808)→∀ w:World,Src w sp len z→Calls Tryz.prog 59 #[.slice sp len cap,.int .i64 n,.int .i64 s] w fun e w'=>PutF len z n s w.heap.size e w'∧Below w.heap.size w w'
theorem eqlNil {P:Program} {o:Oper} {a:Act} (t e t':TypeId) (x y:Operand) (sp:Option Addr) (n c:Nat) (b:Bool) (ho:o.op=.binOp .eql t x y t') (hx:a.eval x=.slice sp n c) (hy:a.eval y=.slice none 0 0) (hu:P.underlying t=some (.slice e)) (hb:sp.isNone=b) (w:World) :
 (execOp a.eval o).run P w=.ok (.value (.bool b)) w:=by
 subst hb
 unfold execOp
 have e1:(eqGuard .eql t x y (.slice sp n c) (.slice none 0 0)).run P w=.ok () w:=rfl
 simp only [ho,hx,hy,Sem.run_bind,e1,Lib.run_eql_slice_nil w t e sp n c 0 0 hu,Sem.run_pure,Result.andThen_ok]
def pk2 {α:Type} (a b:α):Nat→α
 | 0=>a
 | _=>b
theorem tot2 (a b:Nat):tot (pk2 a b) 2=a+b:=by show 0+a+b=_; omega
theorem catIn2 {w:World} (C:Nat) (p1 p2:Option Addr) (l1 l2 c1 c2:Nat) (z1 z2:Nat→Int) (t:TypeId) (hC:C=w.heap.size) (h1:Src w p1 l1 z1) (h2:Src w p2 l2 z2) (n1:p1=none→c1=0) (n2:p2=none→c2=0) :
 CatIn (w.alloc (.cells #[.slice p1 l1 c1,.slice p2 l2 c2] t)) ⟨C,0,none⟩ 2 (pk2 p1 p2) (pk2 l1 l2) (pk2 c1 c2) (pk2 z1 z2):=by
 have hb:=(Below.refl w.heap.size w).alloc (xnR _) (.cells #[.slice p1 l1 c1,.slice p2 l2 c2] t)
 refine ⟨fun j hj=>?_,fun j hj=>?_,fun j hj=>?_⟩
 · rw [Addr.add_mid,World.cell?_alloc_at _ _ _ _ hC]
   match j,hj with
   | 0,_ | 1,_=>rfl
   | _+2,h=>omega
 · match j,hj with
   | 0,_=>exact h1.below hb (xnR _)
   | 1,_=>exact h2.below hb (xnR _)
   | _+2,h=>omega
 · match j,hj with
   | 0,_=>exact n1
   | 1,_=>exact n2
   | _+2,h=>omega
theorem catz2 (a b:Nat) (z1 z2:Nat→Int) (j:Nat):catz (pk2 a b) (pk2 z1 z2) 2 j=app z1 a z2 j:=by
 show app (app (fun _=>0) 0 z1) (0+a) z2 j=app z1 a z2 j
 unfold app
 rw [Nat.zero_add]
 by_cases h:j<a
 · rw [if_pos h,if_pos h,if_neg (xnZ j),Nat.sub_zero]
 · rw [if_neg h,if_neg h]
theorem clone_any (sp:Option Addr) (len cap:Nat) (hlen:len≤140737488351248) (hc:len≤cap) (hnil:sp=none→cap=0) (z:Nat→Int) (w:World) (hs:Src w sp len z) :
 Calls Tryz.prog 45 #[.slice sp len cap] w fun e w'=>∃ v,e=.returned v∧Own w' w.heap.size 5 .u8 len z v∧Below w.heap.size w w':=by
 have hB:=Below.refl w.heap.size w
 cases sp with
 | none =>
   obtain rfl:len=0:=by have:=hnil rfl; omega
   obtain rfl:=hnil rfl
   go_enter Tryz.func45,Tryz.ntmps45
   go_upto_region 1 with fail; refine wp_region_list ?_; refine xpL (.slice none 0 0) ?_; refine xqL (.bool true) (fun w=>eqlNil 29 5 _ _ _ none 0 0 true rfl rfl rfl Tryz.underlying29 rfl w) ?_; show Exit.then _ _ _ _ _; go_wp2; go_ret
   exact ⟨_,rfl,World.ownsRow_nil w _ _ 1,hB⟩
 | some ad =>
   go_enter Tryz.func45,Tryz.ntmps45
   go_upto_region 1 with fail; refine wp_region_list ?_; refine xpL (.slice (some ad) len cap) ?_; refine xqL (.bool false) (fun w=>eqlNil 29 5 _ _ _ (some ad) len cap false rfl rfl rfl Tryz.underlying29 rfl w) ?_; show Exit.then _ _ _ _ _; go_upto_region 3 with fail; refine wp_region_list ?_
   refine actL (w':=w.alloc (.cells #[] 5)) (.slice (some ⟨w.heap.size,0,none⟩) 0 0) rfl (by kernel_rfl) ?_; simp only [aP,lI,l0,lS]; refine xpL (.slice (some ad) len cap) ?_; have hb1:=(Below.refl w.heap.size w).alloc (xnR _) (.cells #[] 5)
   obtain ⟨v,w2,hr,ho,hgr,_⟩:=run_append_Own (P:=Tryz.prog) (ty:=29) Tryz.underlying29 one8 (Own.lit w w.heap.size 5 .u8 0 (fun _=>0) (xnR _) (by unfold maxLen; omega)) (some ad) (len) (cap) (z) ((hs).below hb1 (xnR _)) (fun e=>by cases e) (by unfold maxLen; omega) (by omega) hb1.size
   have hb2:=hb1.grown hgr hb1.size (fun b hb=>by injection hb with hb; simp only at hb; omega); refine xaL v (appendOp _ _ 29 _ _ _ rfl rfl rfl hr) ?_
   have hO:Own w2 w.heap.size 5 .u8 (len) (z) v:=by
    rw [Nat.zero_add] at ho
    exact ho.congr fun j _=>by unfold app; rw [if_neg (xnZ j),Nat.sub_zero]
   clear hr ho hgr hb1; refine xpL v ?_; show Exit.then _ _ _ _ _; go_wp2; go_ret
   exact ⟨_,rfl,hO,hb2⟩
theorem or_low (x d:Nat) (hd:d<256) (hx:x*256<9223372036854775808):bits .or .i64 ((x*256:Nat):Int) (d:Int)=((x*256+d:Nat):Int):=by
 have h1:(BitVec.ofInt 64 ((x*256:Nat):Int)).toNat=x*256:=by rw [BitVec.toNat_ofInt]; omega
 have h2:(BitVec.ofInt 64 ((d:Nat):Int)).toNat=d:=by rw [BitVec.toNat_ofInt]; omega
 have h3:x*256 ||| d=x*256+d:=by
  have:=Nat.two_pow_add_eq_or_of_lt (i:=8) (b:=d) (by omega) x
  rw [show (2:Nat)^8=256 from rfl,Nat.mul_comm] at this
  exact this.symm
 show IntKind.i64.wrap ((BitVec.ofInt 64 ((x*256:Nat):Int) ||| BitVec.ofInt 64 ((d:Nat):Int)).toNat:Nat)=_
 rw [BitVec.toNat_or,h1,h2,h3,xw6]
 omega
theorem fby_tail (n s j:Nat) (hs:s≤8) (hj:j<s):fby n 8 (8-s+j)=fby n s j:=by
 unfold fby
 rw [show 8-1-(8-s+j)=s-1-j by omega]
theorem vidx8 (b i:Nat) (hi:i<8) (w:World) {o:Oper} {a:Act} (x y:Operand) (ho:o.op=.indexAddr 159 x y) (hx:a.eval x=.pointer (some ⟨b,0,none⟩)) (hy:a.eval y=.int .i64 (i:Int)) :
 (execOp a.eval o).run Tryz.prog w=.ok (.value (.pointer (some ⟨b,i,none⟩))) w:=by
 have h:=idxArr (P:=Tryz.prog) 159 5 8 .i64 b 0 i x y Tryz.underlying159 (fun _=>by kernel_rfl) hi ho hx hy w
 rw [Nat.zero_add] at h
 exact h
theorem cut8 (b s:Nat) (hs:1≤s∧s≤8) (w:World):(Instr.sliceAt 159 (.pointer (some ⟨b,0,none⟩)) (some (.int .i64 ((8-s:Nat):Int))) none none).run Tryz.prog w=.ok (.slice (some ⟨b,8-s,none⟩) s s) w:=by
 have hl:Tryz.prog.arrayLen 159=8:=by kernel_rfl
 have hz:∀ w,(sizeOf (Tryz.prog.elem 159)).run Tryz.prog w=.ok 1 w:=fun w=>by kernel_rfl
 rw [run_sliceAt_array_l w 159 ⟨b,0,none⟩ (by kernel_rfl) .i64 _ (by omega) (by rw [hl]; omega),hz,hl]
 simp only [Result.andThen,slicedAt]
 rw [Int.toNat_natCast,if_neg (by omega),Addr.add_mid,Nat.zero_add,Nat.mul_one,show 8-(8-s)=s by omega]
theorem lowest_any (n s:Nat) (hs:1≤s∧s≤8) (w:World) :
 Calls Tryz.prog 80 #[.int .i64 (n:Int),.int .i64 (s:Int)] w fun e w'=>e=.returned (.slice (some ⟨w.heap.size,8-s,none⟩) s s)∧Kr w (w.heap.size+1) [(w.heap.size,.u8,8,fby n 8)] [] w':=by
 go_enter Tryz.func80,Tryz.ntmps80
 go_upto_region 1 with fail; refine wp_region_list ?_; refine allocL (row .u8 8 (fun _=>0)).toArray 159 rfl (fun _=>by kernel_rfl) ?_; simp only [aP,lI,l0,lS]; have K:=(Kr.init w).box .u8 8 (fun _=>0) 159 w.heap.size rfl; generalize w.alloc (.cells (row .u8 8 (fun _=>0)).toArray 159)=w1 at K ⊢; show Exit.then _ _ _ _ _; go_wp2
 go_loopw [7] (fun i w'=>∃ (m:Nat) (f:Nat→Int),m≤8∧i=.int .i64 (m:Int)∧Kr w (w.heap.size+1) [(w.heap.size,.u8,8,f)] [] w'∧∀ j,8-m≤j→j<8→f j=fby n 8 j) (fun i _=>8-(intOf i).toNat)
 case atStart=>exact ⟨0,_,by omega,rfl,K,fun j h1 h2=>by omega⟩
 case round =>
  clear K
  obtain ⟨m,f,hm,rfl,K,hd⟩:=hrel
  have g1:(0:Int)≤(m:Int):=by omega
  by_cases hlt:m<8
  · have g2:(m:Int)<8:=by omega
    have h7:7-m<8:=by omega
    go_upto_region 5 with fail; refine wp_region_list ?_; refine xpL (.int .i64 (m:Int)) ?_; refine xqL (.int .i64 ((7-m:Nat):Int)) (fun w=>subI .i64 _ _ _ _ _ _ _ rfl rfl rfl (by rw [xw6]; omega) w) ?_; refine xpL (.int .i64 (n:Int)) ?_; refine xpL (.int .i64 (m:Int)) ?_
    refine xqL (.int .i64 ((8*m:Nat):Int)) (fun w=>mulI .i64 _ _ _ _ _ _ _ rfl rfl rfl (by rw [xw6]; omega) w) ?_; refine xqL (.int .i64 ((n/256^m:Nat):Int)) (fun w=>shrI .i64 .i64 _ _ _ _ _ _ _ rfl rfl rfl (by omega) (shr_byte n m (by omega)) w) ?_
    refine xqL (.int .u8 (fby n 8 (7-m))) (fun w=>convI .i64 .u8 _ _ _ _ _ rfl (by kernel_rfl) Tryz.underlying5 (by kernel_rfl) rfl (by rw [IntKind.wrap_u8']; unfold fby; rw [show 8-1-(7-m)=m by omega]; omega) w) ?_
    refine xqL (.pointer (some ⟨w.heap.size,7-m,none⟩)) (fun w'=>vidx8 (w.heap.size) (7-m) h7 w' _ _ rfl rfl rfl) ?_
    refine storeL .u8 (fby n 8 (7-m)) (w.heap.size) (7-m) 5 _ _ rfl rfl rfl rfl (by rw [(K.get _ _ _ _ mS).cell (7-m) h7]; rfl) ((K.get _ _ _ _ mS).free (7-m) h7) (by kernel_rfl) ?_
    simp only [Act.put]; replace K:=K.setCell [] (w.heap.size) .u8 8 f (7-m) h7 (fby n 8 (7-m)) mS (fun _ hp=>by cases hp) (fun _ hp=>by cases hp) (xnR _)
    have HS:=show Hid _ from (And.intro K (show ∀ j,8-(m+1)≤j→j<8→upd f (7-m) (fby n 8 (7-m)) j=fby n 8 j from fun j h1 h2=>by
     by_cases e:j=7-m
     · subst e; rw [upd_same]
     · rw [upd_other _ _ _ _ e]; exact hd j (by omega) h2))
    clear K hd; generalize wr.setCell ⟨w.heap.size,7-m,none⟩ (.int .u8 (fby n 8 (7-m)))=w4 at HS ⊢; generalize upd f (7-m) (fby n 8 (7-m))=f' at HS
    show Exit.inBlock _ _ _ _ _
    go_wp2
    go_roundw
    case rel=>first | exact ⟨m+1,f',by omega,by go_num,HS.out⟩ | ((repeat apply Exists.intro); refine ⟨⟨m+1,f',by omega,by go_num,HS.out⟩,rfl⟩)
    case measure=>simp [intOf]; omega
  · obtain rfl:m=8:=by omega
    replace K:=K.headC (fby n 8) (fun j hj=>hd j (by omega) hj); clear hd hlt hm g1; go_upto_region 7 with fail; refine wp_region_list ?_; refine xpL (.int .i64 (s:Int)) ?_; refine xqL (.int .i64 ((8-s:Nat):Int)) (fun w=>subI .i64 _ _ _ _ _ _ _ rfl rfl rfl (by rw [xw6]; omega) w) ?_
    refine xqL (.slice (some ⟨w.heap.size,8-s,none⟩) s s) (fun w'=>cutOp _ _ _ _ _ _ rfl rfl rfl (cut8 (w.heap.size) s hs w')) ?_; refine xpL (.slice (some ⟨w.heap.size,8-s,none⟩) s s) ?_; show Exit.then _ _ _ _ _; go_wp2; go_ret
    exact ⟨rfl,K⟩
def jV (h:Int) (z:Nat→Int):Nat→Int
 | 0=>h
 | i+1=>jV h z i*256+z i
theorem jV_in (h:Int) (hh:0≤h∧h<64) (z:Nat→Int) (m:Nat) (hz:In 256 m z):∀ i,i≤m→0≤jV h z i∧jV h z i<64*256^i
 | 0,_=>by show 0≤h∧h<64*256^0; omega
 | i+1,hi=>by
   have h1:=jV_in h hh z m hz i (by omega); have h2:=hz i (by omega)
   show 0≤jV h z i*256+z i∧jV h z i*256+z i<64*256^(i+1)
   rw [Int.pow_succ]
   omega
theorem jV_zero (z:Nat→Int):∀ i,jV 0 z i=fV z i
 | 0=>rfl
 | i+1=>by
   show jV 0 z i*256+z i=fV z (i+1)
   rw [jV_zero z i]
   rfl
theorem vjoin_any (h:Int) (hh:0≤h∧h<64) (sp:Option Addr) (len cap:Nat) (hl:len≤7) (z:Nat→Int) (hz:In 256 len z) (w:World) (hs:Src w sp len z) :
 Calls Tryz.prog 82 #[.int .i64 h,.slice sp len cap] w fun e w'=>e=.returned (.int .i64 (jV h z len))∧Below w.heap.size w w':=by
 have hB:=Below.refl w.heap.size w
 go_enter Tryz.func82,Tryz.ntmps82
 go_upto_region 1 with fail; refine wp_region_list ?_; refine xpL (.slice sp len cap) ?_; refine xqL (.int .i64 (len:Int)) (fun w=>lenS _ 29 5 (sp) (len) (cap) rfl Tryz.underlying29 rfl w) ?_; refine xpL (.int .i64 0) ?_; show Exit.then _ _ _ _ _; go_wp2
 go_loopw [0,9] (fun hw i w'=>∃ m:Nat,m≤len∧hw=.int .i64 (jV h z m)∧i=.int .i64 (m:Int)∧w=w') (fun _ i _=>len-(intOf i).toNat)
 case atStart=>exact ⟨0,Nat.zero_le _,rfl,rfl,rfl⟩
 case round =>
  obtain ⟨m,hm,rfl,rfl,rfl⟩:=hrel
  by_cases hlt:m<len
  · have g1:(m:Int)<(len:Int):=by omega
    obtain ⟨ad,rfl,hc⟩:=hs m hlt
    have hzm:=hz m hlt; have hj:=jV_in h hh z len hz m hm
    have hj2:jV h z m<18014398509481984:=by
     have h6:(256:Nat)^m≤256^6:=Nat.pow_le_pow_right (by decide) (by omega)
     have e6:(256:Nat)^6=281474976710656:=by decide
     have e7:((256^m:Nat):Int)=(256:Int)^m:=by norm_cast
     omega
    obtain ⟨x,hx⟩:=xiN hj.1
    obtain ⟨d,hd⟩:=xiN hzm.1
    have hor:bits .or .i64 (jV h z m*256) (z m)=jV h z (m+1):=by
     show _=jV h z m*256+z m
     rw [hx,hd,show ((x:Nat):Int)*256=((x*256:Nat):Int) by omega,or_low x d (by omega) (by omega)]
     omega
    go_upto_region 3 with fail; refine wp_region_list ?_; refine xqL (.pointer (some (ad.add m))) (fun w=>idxSl 29 5 len cap .i64 ad m _ _ Tryz.underlying29 (fun _=>by kernel_rfl) hlt rfl rfl rfl w) ?_; refine xaL (.int .u8 (z m)) (loadAny 5 .u8 _ (ad.add m) _ rfl rfl Tryz.underlying5 hc) ?_; refine xpL (.int .u8 (z m)) ?_; show Exit.then _ _ _ _ _; go_upto_region 4 with fail
    refine wp_region_list ?_; refine xpL (.int .i64 (jV h z m)) ?_
    refine xqL (.int .i64 (jV h z m*256)) (fun w=>shlI .i64 .u64 _ _ _ _ _ _ _ rfl rfl rfl (by omega) (by rw [xw6,show min (8:Int).toNat IntKind.i64.bits=8 from rfl]; omega) w) ?_
    refine xpL (.int .u8 (z m)) ?_; refine xqL (.int .i64 (z m)) (fun w=>convI .u8 .i64 _ _ _ _ _ rfl (by kernel_rfl) Tryz.underlying3 (by kernel_rfl) rfl (by rw [xw6]; omega) w) ?_; refine xqL (.int .i64 (jV h z (m+1))) (fun w=>vorI .i64 _ _ _ _ _ _ _ rfl rfl rfl hor w) ?_; refine xpL (.int .i64 (jV h z (m+1))) ?_; clear hor hx hd hj hj2
    show Exit.inBlock _ _ _ _ _
    go_wp2
    go_roundw
    case rel=>first | exact ⟨m+1,by omega,rfl,by go_num,trivial⟩ | ((repeat apply Exists.intro); refine ⟨⟨m+1,by omega,rfl,by go_num,trivial⟩,rfl⟩)
    case measure=>simp [intOf]; omega
  · obtain rfl:m=len:=by omega
    have g1:¬ (m:Int)<(m:Int):=by omega
    clear hlt hm; go_wp2; go_ret
    exact ⟨rfl,hB⟩
structure Tp (w0:World) (B len:Nat) (z:Nat→Int) (w:World):Prop where
 lo:w0.heap.size≤B
 hi:B<w.heap.size
 cell:∃ sp cap,w.cell? ⟨B,0,none⟩=some (.slice sp len cap)∧len≤cap∧(sp=none→cap=0)∧Src w0 sp len z
 free:w.frozen? ⟨B,0,none⟩=false
 below:Below w0.heap.size w0 w
theorem Tp.call {w0 w w':World} {B len:Nat} {z:Nat→Int} (h:Tp w0 B len z w) (l:Below w.heap.size w w'):Tp w0 B len z w':=by
 obtain ⟨lo,hi,⟨sp,cap,h1,h2⟩,hf,hb⟩:=h
 exact ⟨lo,xnL hi l.size,⟨sp,cap,by rw [l.cell (p:=⟨B,0,none⟩) hi]; exact h1,h2⟩,by rw [l.frozen (p:=⟨B,0,none⟩) hi]; exact hf,hb.trans (l.mono hb.size)⟩
theorem Tp.set {w0 w:World} {B len:Nat} {z:Nat→Int} (h:Tp w0 B len z w) (sp:Option Addr) (len' cap:Nat) (z':Nat→Int) (hc:len'≤cap) (hn:sp=none→cap=0) (hs:Src w0 sp len' z'):Tp w0 B len' z' (w.setCell ⟨B,0,none⟩ (.slice sp len' cap)):=by
 obtain ⟨lo,hi,⟨sp',cap',h1,h2⟩,hf,hb⟩:=h
 exact ⟨lo,by have e:=size_setAll B 0 [.slice sp len' cap] w; simp only [World.setCells] at e; omega,⟨sp,cap,World.cell?_setCell_same' _ _ _ (by rw [h1]; rfl),hc,hn,hs⟩,by rw [World.frozen?_setCell]; exact hf,below_setAll hb B lo 0 [.slice sp len' cap]⟩
theorem storeSl {P:Program} {ops:Array Oper} {Q:Exit→Act→World→Prop} {o':Oper} {rest:List Oper} {a:Act} {w:World} (sp:Option Addr) (n c:Nat) (b:Nat) (ty:TypeId) (x y:Operand) (hw:Region.wanted o' (yielded ops a.tmps)=true) (ho:o'.op=.store ty x y) (hx:a.eval x=.pointer (some ⟨b,0,none⟩)) (hy:a.eval y=.slice sp n c)
 (hc:(w.cell? ⟨b,0,none⟩).isSome=true) (hf:w.frozen? ⟨b,0,none⟩=false) (hz:(P.info? ty).map (·.size)=some 1)
 (h:wpList P ops Q rest (a.put o'.dst undef) (w.setCell ⟨b,0,none⟩ (.slice sp n c))):wpList P ops Q (o'::rest) a w:=by
 have h0:∀ j:Nat,j < [Value.slice sp n c].length→j=0:=fun j hj=>by simpa using hj
 have hst:=run_storeCells_cells (P:=P) b 0 [.slice sp n c] 0 w (fun j hj=>by rw [h0 j hj]; simpa using hc) (fun j hj=>by rw [h0 j hj]; simpa using hf) (fun v hv=>by simp at hv; subst hv; rfl)
 have he:(execOp a.eval o').run P w=.ok .skip (w.setCell ⟨b,0,none⟩ (.slice sp n c)):=by
  cases hq:P.info? ty with
  | none=>simp [hq] at hz
  | some i =>
    have hs:i.size=1:=by simp [hq] at hz; omega
    simp only [Nat.add_zero] at hst
    have e:(storeVar ty ⟨b,0,none⟩ (.slice sp n c)).run P w=.ok () (w.setCell ⟨b,0,none⟩ (.slice sp n c)):=by
     simp [storeVar,sizeOf,typeInfo,hq,Value.cells,hs,hst,World.setCells]
    unfold execOp
    simp only [ho,hx,hy,Instr.storeAt,Instr.sureAddr,Sem.run_bind,Sem.run_pure,Result.andThen_ok,e]
 unfold wpList
 rw [if_pos hw]
 refine .inl ?_
 unfold Oper.wp
 rw [he]
 exact h
theorem along_any (sp:Option Addr) (len cap:Nat) (hc:len≤cap) (hnil:sp=none→cap=0) (z:Nat→Int) (w:World) (hs:Src w sp len z) :
 Calls Tryz.prog 81 #[.slice sp len cap] w fun e w'=>∃ B,e=.returned (.tuple #[(.func (.func 96) #[] #[.pointer (some ⟨B,0,none⟩)]),(.func (.func 97) #[] #[.pointer (some ⟨B,0,none⟩)])])∧Tp w B len z w':=by
 go_enter Tryz.func81,Tryz.ntmps81
 go_upto_region 0 with fail; refine wp_region_list ?_; refine actL (w':=w.alloc (.cells #[.slice sp len cap] 29)) (.pointer (some ⟨w.heap.size,0,none⟩)) rfl (by kernel_rfl) ?_; simp only [aP,lI,l0,lS]; refine xpL .nilFunc ?_; refine xpL .nilFunc ?_
 have T:Tp w w.heap.size len z (w.alloc (.cells #[.slice sp len cap] 29)):=⟨xnR _,by simp,⟨sp,cap,by rw [World.cell?_alloc_at _ _ _ _ rfl]; rfl,hc,hnil,hs⟩,by first | exact World.frozen?_alloc_new _ _ _ _ | (simp [World.frozen?,World.alloc]),(Below.refl _ _).alloc (xnR _) _⟩
 generalize w.alloc (.cells #[.slice sp len cap] 29)=w1 at T ⊢; generalize w.heap.size=B at *; show Exit.then _ _ _ _ _; go_upto_region 1 with fail; refine wp_region_list ?_; refine xpL (.func (.func 96) #[] #[.pointer (some ⟨B,0,none⟩)]) ?_; refine xpL (.func (.func 96) #[] #[.pointer (some ⟨B,0,none⟩)]) ?_; show Exit.then _ _ _ _ _; go_upto_region 2 with fail; refine wp_region_list ?_
 refine xpL (.func (.func 97) #[] #[.pointer (some ⟨B,0,none⟩)]) ?_; refine xpL (.func (.func 97) #[] #[.pointer (some ⟨B,0,none⟩)]) ?_; show Exit.then _ _ _ _ _; go_upto_region 3 with fail; refine wp_region_list ?_; refine xpL (.func (.func 96) #[] #[.pointer (some ⟨B,0,none⟩)]) ?_; refine xpL (.func (.func 97) #[] #[.pointer (some ⟨B,0,none⟩)]) ?_
 refine xpL (.func (.func 96) #[] #[.pointer (some ⟨B,0,none⟩)]) ?_; refine xpL (.func (.func 97) #[] #[.pointer (some ⟨B,0,none⟩)]) ?_; show Exit.then _ _ _ _ _; go_wp2; go_ret2
 exact ⟨B,rfl,T⟩
theorem next_any (w0:World) (B len:Nat) (z:Nat→Int) (m:Nat) (w:World) (T:Tp w0 B len z w) :
 Calls Tryz.prog 96 #[.int .i64 (m:Int),.pointer (some ⟨B,0,none⟩)] w fun e w' =>
  (len<m∧e=.returned (.tuple #[.slice none 0 0,.bool false])∧Tp w0 B len z w') ∨
  (m≤len∧∃ sp cap,e=.returned (.tuple #[.slice sp m cap,.bool true])∧m≤cap∧(sp=none→cap=0)∧Src w0 sp m z∧Tp w0 B (len-m) (fun j=>z (m+j)) w'):=by
 obtain ⟨sp,cap,hcell,hc,hnil,hs⟩:=T.cell
 by_cases h1:len<m
 · go_enter Tryz.func96,Tryz.ntmps96
   go_upto_region 1 with fail; refine wp_region_list ?_; refine xpL (.int .i64 (m:Int)) ?_; refine xaL (.slice sp len cap) (loadSl 29 5 _ ⟨B,0,none⟩ _ rfl rfl Tryz.underlying29 hcell) ?_; refine xqL (.int .i64 (len:Int)) (fun w=>lenS _ 29 5 (sp) (len) (cap) rfl Tryz.underlying29 rfl w) ?_
   refine xqL (.bool true) (fun w=>gtrI .i64 _ _ _ _ _ _ rfl rfl rfl true (decide_eq_true (by omega)) w) ?_; show Exit.then _ _ _ _ _; go_wp2; go_ret2
   exact .inl ⟨h1,rfl,T⟩
 · obtain ⟨cp,hcut1,hcs1,hcn1⟩:=cut_hiN (P:=Tryz.prog) (t:=29) (by kernel_rfl) (fun _=>by kernel_rfl) sp len cap m (by omega) hc hnil
   obtain ⟨cq,hcut2,hcs2,hcn2⟩:=cut_loN (P:=Tryz.prog) (t:=29) (by kernel_rfl) (fun _=>by kernel_rfl) sp len cap m (by omega) hc hnil
   go_enter Tryz.func96,Tryz.ntmps96
   go_upto_region 1 with fail; refine wp_region_list ?_; refine xpL (.int .i64 (m:Int)) ?_; refine xaL (.slice sp len cap) (loadSl 29 5 _ ⟨B,0,none⟩ _ rfl rfl Tryz.underlying29 hcell) ?_; refine xqL (.int .i64 (len:Int)) (fun w=>lenS _ 29 5 (sp) (len) (cap) rfl Tryz.underlying29 rfl w) ?_
   refine xqL (.bool false) (fun w=>gtrI .i64 _ _ _ _ _ _ rfl rfl rfl false (decide_eq_false (by omega)) w) ?_; show Exit.then _ _ _ _ _; go_upto_region 3 with fail; refine wp_region_list ?_; refine xaL (.slice sp len cap) (loadSl 29 5 _ ⟨B,0,none⟩ _ rfl rfl Tryz.underlying29 hcell) ?_; refine xpL (.int .i64 (m:Int)) ?_
   refine xqL (.slice cp m cap) (fun w=>cutHi _ _ _ _ _ _ rfl rfl rfl (hcut1 w)) ?_; refine xpL (.slice cp m cap) ?_; show Exit.then _ _ _ _ _; go_upto_region 4 with fail; refine wp_region_list ?_; refine xaL (.slice sp len cap) (loadSl 29 5 _ ⟨B,0,none⟩ _ rfl rfl Tryz.underlying29 hcell) ?_; refine xpL (.int .i64 (m:Int)) ?_
   refine xqL (.slice cq (len-m) (cap-m)) (fun w=>cutOp _ _ _ _ _ _ rfl rfl rfl (hcut2 w)) ?_; refine storeSl cq (len-m) (cap-m) B 29 _ _ rfl rfl rfl rfl (by rw [hcell]; rfl) T.free (by kernel_rfl) ?_; simp only [Act.put]; replace T:=T.set cq (len-m) (cap-m) (fun j=>z (m+j)) (by omega) hcn2 (hcs2 _ _ hs); replace hs:=hcs1 _ _ hs
   generalize w.setCell ⟨B,0,none⟩ (.slice cq (len-m) (cap-m))=w1 at T ⊢; clear hcut1 hcut2 hcs1 hcs2 hcn2 hcell; show Exit.then _ _ _ _ _; go_upto_region 5 with fail; refine wp_region_list ?_; refine xpL (.slice cp m cap) ?_; refine xpL (.slice cp m cap) ?_; refine xpL (.bool true) ?_; show Exit.then _ _ _ _ _; go_wp2; go_ret2
   exact .inr ⟨by omega,cp,cap,rfl,by omega,hcn1,hs,T⟩
theorem left_any (w0:World) (B len:Nat) (hlen:len≤140737488351240) (z:Nat→Int) (w:World) (T:Tp w0 B len z w) :
 Calls Tryz.prog 97 #[.pointer (some ⟨B,0,none⟩)] w fun e w'=>∃ v,e=.returned v∧Own w' w.heap.size 5 .u8 len z v∧Below w.heap.size w w':=by
 obtain ⟨sp,cap,hcell,hc,hnil,hs⟩:=T.cell
 go_enter Tryz.func97,Tryz.ntmps97
 go_upto_region 1 with fail; refine wp_region_list ?_; refine xaL (.slice sp len cap) (loadSl 29 5 _ ⟨B,0,none⟩ _ rfl rfl Tryz.underlying29 hcell) ?_; refine xcL (clone_any sp len cap (by omega) hc hnil z _ (hs.below T.below (xnR _))) ?_; rintro e w1 ⟨v,rfl,hO,hB⟩; refine xeL ?_; refine xpL v ?_; show Exit.then _ _ _ _ _; go_wp2; go_ret
 exact ⟨v,rfl,hO,hB⟩
theorem isSize_any (s:Int) (w:World):Calls Tryz.prog 79 #[.int .i64 s] w fun e w'=>e=.returned (.bool (decide (1≤s∧s≤7)))∧Below w.heap.size w w':=by
 have hB:=Below.refl w.heap.size w
 by_cases h1:1≤s
 · by_cases h2:s≤7
   · rw [decide_eq_true (And.intro h1 h2)]
     go_enter Tryz.func79,Tryz.ntmps79
     go_wp2; go_ret
     exact ⟨rfl,hB⟩
   · rw [decide_eq_false (fun h=>h2 h.2)]
     go_enter Tryz.func79,Tryz.ntmps79
     go_wp2; go_ret
     exact ⟨rfl,hB⟩
 · rw [decide_eq_false (fun h=>h1 h.1)]
   go_enter Tryz.func79,Tryz.ntmps79
   go_wp2; go_ret
   exact ⟨rfl,hB⟩
theorem shl_bytes (s:Nat) (h:s≤7):IntKind.i64.wrap (1*2^min ((8*s:Nat):Int).toNat IntKind.i64.bits)=((256^s:Nat):Int):=by
 have:s=0∨s=1∨s=2∨s=3∨s=4∨s=5∨s=6∨s=7:=by omega
 rcases this with rfl | rfl | rfl | rfl | rfl | rfl | rfl | rfl <;> rfl
theorem vputfixed_any:PutFixedOK:=by
 intro sp len cap hlen hcap hnil z hz n hn s hs2 w hs
 go_enter Tryz.func59,Tryz.ntmps59
 by_cases hsz':1≤s∧s≤7
 · have hsz:decide (1≤s∧s≤7)=true:=decide_eq_true hsz'
   by_cases h1:n<0
   · have hb:fbad n s:=by unfold fbad; omega
     have e1:fE n s=1:=by unfold fE; rw [if_pos hb]
     have e2:fL len n s=0:=by unfold fL; rw [if_pos hb]
     go_upto_region 1 with fail; refine wp_region_list ?_; refine xpL (.int .i64 s) ?_; refine xcL (isSize_any s _) ?_; rintro e w1 ⟨rfl,hB⟩
     rw [hsz]
     refine xeL ?_; refine xpL (.bool false) ?_; refine xpL (.bool false) ?_; refine xpL (.int .i64 n) ?_; refine xqL (.bool true) (fun w=>lssI .i64 _ _ _ _ _ _ rfl rfl rfl true (decide_eq_true h1) w) ?_; refine xpL (.bool true) ?_; refine xpL (.bool true) ?_; refine skipL (by kernel_rfl) ?_; simp only [aP,lI,l0,lS]; refine skipL (by kernel_rfl) ?_; simp only [aP,lI,l0,lS]
     refine skipL (by kernel_rfl) ?_; simp only [aP,lI,l0,lS]; refine skipL (by kernel_rfl) ?_; simp only [aP,lI,l0,lS]; refine skipL (by kernel_rfl) ?_; simp only [aP,lI,l0,lS]; refine xpL (.bool true) ?_; show Exit.then _ _ _ _ _; go_wp2; go_ret2
     exact ⟨⟨_,by rw [e1]; rfl,by rw [e2]; exact World.ownsRow_nil _ _ _ 1⟩,hB⟩
   · obtain ⟨n,rfl⟩:=xiN (show 0≤n by omega)
     obtain ⟨s,rfl⟩:=xiN (show 0≤s by omega)
     have hpw:(256:Int)^((s:Nat):Int).toNat=((256^s:Nat):Int):=by rw [Int.toNat_natCast]; exact (Int.natCast_pow 256 s).symm
     by_cases h2:256^s≤n
     · have hb:fbad (n:Int) (s:Int):=by unfold fbad; rw [hpw]; omega
       have e1:fE (n:Int) (s:Int)=1:=by unfold fE; rw [if_pos hb]
       have e2:fL len (n:Int) (s:Int)=0:=by unfold fL; rw [if_pos hb]
       go_upto_region 1 with fail; refine wp_region_list ?_; refine xpL (.int .i64 (s:Int)) ?_; refine xcL (isSize_any s _) ?_; rintro e w1 ⟨rfl,hB⟩
       rw [hsz]
       refine xeL ?_; refine xpL (.bool false) ?_; refine xpL (.bool false) ?_; refine xpL (.int .i64 (n:Int)) ?_; refine xqL (.bool false) (fun w=>lssI .i64 _ _ _ _ _ _ rfl rfl rfl false (decide_eq_false (by omega)) w) ?_; refine xpL (.bool false) ?_; refine xpL (.bool false) ?_; refine xpL (.int .i64 (n:Int)) ?_; refine xpL (.int .i64 (s:Int)) ?_
       refine xqL (.int .i64 ((8*s:Nat):Int)) (fun w=>mulI .i64 _ _ _ _ _ _ _ rfl rfl rfl (by rw [xw6]; omega) w) ?_; refine xqL (.int .i64 ((256^s:Nat):Int)) (fun w=>shlI .i64 .i64 _ _ _ _ _ _ _ rfl rfl rfl (by omega) (shl_bytes s (by omega)) w) ?_; refine xqL (.bool true) (fun w=>geqI .i64 _ _ _ _ _ _ rfl rfl rfl true (decide_eq_true (by omega)) w) ?_
       refine xpL (.bool true) ?_; show Exit.then _ _ _ _ _; go_wp2; go_ret2
       exact ⟨⟨_,by rw [e1]; rfl,by rw [e2]; exact World.ownsRow_nil _ _ _ 1⟩,hB⟩
     · have hb:¬ fbad (n:Int) (s:Int):=by unfold fbad; rw [hpw]; omega
       have e1:fE (n:Int) (s:Int)=0:=by unfold fE; rw [if_neg hb]
       have e2:fL len (n:Int) (s:Int)=len+s:=by unfold fL; rw [if_neg hb,Int.toNat_natCast]
       have e3:fput len z (n:Int) (s:Int)=app z len (fby n s):=rfl
       go_upto_region 1 with fail; refine wp_region_list ?_; refine xpL (.int .i64 (s:Int)) ?_; refine xcL (isSize_any s _) ?_; rintro e w1 ⟨rfl,hB⟩
       rw [hsz]
       refine xeL ?_; refine xpL (.bool false) ?_; refine xpL (.bool false) ?_; refine xpL (.int .i64 (n:Int)) ?_; refine xqL (.bool false) (fun w=>lssI .i64 _ _ _ _ _ _ rfl rfl rfl false (decide_eq_false (by omega)) w) ?_; refine xpL (.bool false) ?_; refine xpL (.bool false) ?_; refine xpL (.int .i64 (n:Int)) ?_; refine xpL (.int .i64 (s:Int)) ?_
       refine xqL (.int .i64 ((8*s:Nat):Int)) (fun w=>mulI .i64 _ _ _ _ _ _ _ rfl rfl rfl (by rw [xw6]; omega) w) ?_; refine xqL (.int .i64 ((256^s:Nat):Int)) (fun w=>shlI .i64 .i64 _ _ _ _ _ _ _ rfl rfl rfl (by omega) (shl_bytes s (by omega)) w) ?_; refine xqL (.bool false) (fun w=>geqI .i64 _ _ _ _ _ _ rfl rfl rfl false (decide_eq_false (by omega)) w) ?_
       refine xpL (.bool false) ?_; show Exit.then _ _ _ _ _; go_upto_region 3 with fail; refine wp_region_list ?_; refine xpL (.slice sp len cap) ?_; refine xpL (.int .i64 (n:Int)) ?_; refine xpL (.int .i64 (s:Int)) ?_; refine xcL (lowest_any n s (by omega) _) ?_; rintro e w2 ⟨rfl,R⟩
       have hS:Src w2 (some ⟨w1.heap.size,8-s,none⟩) s (fby n s):=((R.get _ _ _ _ mS).src (8-s) s (by omega)).congr fun j hj=>fby_tail n s j (by omega) hj
       replace hB:=hB.trans (R.below.mono hB.size); clear R; generalize w1.heap.size=B at *; refine xeL ?_; refine actL (w':=w2.alloc (.cells #[.slice sp len cap,.slice (some ⟨B,8-s,none⟩) (s) (s)] 29)) (.slice (some ⟨w2.heap.size,0,none⟩) 2 2) rfl (by kernel_rfl) ?_; simp only [aP,lI,l0,lS]
       have HC:=catIn2 w2.heap.size sp (some ⟨B,8-s,none⟩) len (s) cap (s) z (fby n s) 29 rfl (hs.below hB (xnR _)) hS hnil (fun e=>by cases e); replace hB:=hB.alloc hB.size (.cells #[.slice sp len cap,.slice (some ⟨B,8-s,none⟩) (s) (s)] 29); refine xcL (concat_any ⟨w2.heap.size,0,none⟩ 2 2 _ _ _ _ (by decide) (by rw [tot2]; omega) _ HC) ?_; rintro e w3 ⟨v,rfl,hO,hb⟩
       rw [tot2] at hO
       have hO2:Own w3 w.heap.size 5 .u8 (len+s) (app z len (fby n s)) v:=(hO.congr fun j _=>catz2 _ _ _ _ j).lower hB.size
       replace hB:=hB.trans (hb.mono hB.size); clear hO hb HC hS; refine xeL ?_; refine xpL v ?_; refine xpL (.int .i64 0) ?_; show Exit.then _ _ _ _ _; go_wp2; go_ret2
       exact ⟨⟨v,by rw [e1]; rfl,by rw [e2,e3]; exact hO2⟩,hB⟩
 · have hsz:decide (1≤s∧s≤7)=false:=decide_eq_false hsz'
   have hb:fbad n s:=by unfold fbad; omega
   have e1:fE n s=1:=by unfold fE; rw [if_pos hb]
   have e2:fL len n s=0:=by unfold fL; rw [if_pos hb]
   go_upto_region 1 with fail; refine wp_region_list ?_; refine xpL (.int .i64 s) ?_; refine xcL (isSize_any s _) ?_; rintro e w1 ⟨rfl,hB⟩
   rw [hsz]
   refine xeL ?_; refine xpL (.bool true) ?_; refine xpL (.bool true) ?_; refine skipL (by kernel_rfl) ?_; simp only [aP,lI,l0,lS]; refine skipL (by kernel_rfl) ?_; simp only [aP,lI,l0,lS]; refine xpL (.bool true) ?_; refine xpL (.bool true) ?_; refine skipL (by kernel_rfl) ?_; simp only [aP,lI,l0,lS]; refine skipL (by kernel_rfl) ?_; simp only [aP,lI,l0,lS]
   refine skipL (by kernel_rfl) ?_; simp only [aP,lI,l0,lS]; refine skipL (by kernel_rfl) ?_; simp only [aP,lI,l0,lS]; refine skipL (by kernel_rfl) ?_; simp only [aP,lI,l0,lS]; refine xpL (.bool true) ?_; show Exit.then _ _ _ _ _; go_wp2; go_ret2
   exact ⟨⟨_,by rw [e1]; rfl,by rw [e2]; exact World.ownsRow_nil _ _ _ 1⟩,hB⟩
theorem vputfixed_good (sp:Option Addr) (cap:Nat) (l:List Int) (hlen:l.length≤140737488351232) (hcap:l.length≤cap) (hnil:sp=none→cap=0) (hb:Byts l) (n:Int) (s:Nat) (hs1:1≤s) (hs7:s≤7) (h0:0≤n) (hn:n.toNat<256^s) (w:World) (hs:Src w sp l.length (bl l)) :
 Calls Tryz.prog 59 #[.slice sp l.length cap,.int .i64 n,.int .i64 (s:Int)] w fun e w'=>∃ v,e=.returned (.tuple #[v,.int .i64 0])∧OwnL w' w.heap.size (l++flst n.toNat s) v∧Below w.heap.size w w':=by
 have h7:(256:Nat)^s≤256^7:=Nat.pow_le_pow_right (by decide) hs7
 have hc:((256^s:Nat):Int)=(256:Int)^s:=by simp
 have hq:¬ fbad n (s:Int):=by unfold fbad; rw [Int.toNat_natCast,← hc]; omega
 refine (vputfixed_any sp l.length cap hlen hcap hnil (bl l) hb.bl n (by omega) s (by omega) w hs).mono fun e w' h=>?_
 obtain ⟨⟨v,rfl,O⟩,l1⟩:=h
 refine ⟨v,by unfold fE; rw [if_neg hq],?_,l1⟩
 unfold fL fput at O
 rw [if_neg hq,Int.toNat_natCast] at O
 exact OwnL.fix O
def pnum (p:Pkt):Nat→Int
 | 0=>p.kind
 | 1=>p.role
 | 2=>p.path
 | 3=>p.epo
 | _=>p.ctr
def pszn:Nat→Nat
 | 3=>2
 | 4=>6
 | _=>1
def hpre (p:Pkt):Nat→List Int
 | 0=>[]
 | j+1=>hpre p j++flst (pnum p j).toNat (pszn j)
theorem flst_one {n:Int} (h:0≤n∧n<256):flst n.toNat 1=[n]:=by
 show [fby n.toNat 1 0]=[n]
 unfold fby
 congr 1
 simp
 omega
theorem hpre_end {p:Pkt} (hk:p.kind=3) (hR:Rec p):hpre p 5=hdr p:=by
 obtain ⟨r1,r2,_⟩:=hR
 show ((((([]++flst p.kind.toNat 1)++flst p.role.toNat 1)++flst p.path.toNat 1)++flst p.epo.toNat 2)++flst p.ctr.toNat 6)=_
 rw [hk,flst_one (n:=3) (by decide),flst_one (n:=p.role) (by omega),flst_one (n:=p.path) (by omega)]
 rfl
theorem hpre_byts (p:Pkt):∀ j,Byts (hpre p j)
 | 0=>fun x hx=>by cases hx
 | j+1=>(hpre_byts p j).app (flst_byts _ _)
theorem hpre_len (p:Pkt):∀ j,(hpre p j).length≤6*j
 | 0=>xnR _
 | j+1=>by
   have h1:=hpre_len p j
   have h2:pszn j≤6:=by unfold pszn; split <;> omega
   show (hpre p j++_).length≤_
   rw [List.length_append,flst_length]
   omega
theorem Mm.newL {w0 w:World} {l:List (Nat × List Value)} (h:Mm w0 l w) {b:Nat} {cs:List Value} (hp:(b,cs)∈l) (bs:List Int) (hc:cs=bs.map (Value.int .u8)):NewL w w0.heap.size bs (.slice (some ⟨b,0,none⟩) bs.length bs.length) :=
 ⟨_,_,rfl,xnR _,fun e=>(by cases e),h.src hp bs hc,fun a e=>by cases e; exact ⟨h.lo hp,h.lt hp⟩⟩
theorem phead_any (p:Pkt) (bp:Option Addr) (bc:Nat) (w:World) (hg:PG w) (hk:p.kind=3) (hR:Rec p):Calls Tryz.prog 39 #[.agg (pcs p bp bc).toArray] w fun e w'=>e=.returned (.agg (row .u8 11 (bl (hdr p))).toArray)∧Below w.heap.size w w':=by
 have M:=Mm.init w; have hrec:=hR
 obtain ⟨r1,r2,r3,r4,_⟩:=hrec
 unfold pcs
 go_enter Tryz.func39,Tryz.ntmps39
 go_upto_region 0 with fail; refine wp_region_list ?_; refine actL (w':=w.alloc (.cells #[.int .i64 p.kind,.int .i64 p.role,.int .i64 p.path,.int .i64 p.epo,.int .i64 p.ctr,.slice bp p.body.length bc] 70)) (.pointer (some ⟨w.heap.size,0,none⟩)) rfl (by kernel_rfl) ?_; simp only [aP,lI,l0,lS]
 have hB_B1:w.heap.size≤w.heap.size:=M.below.size
 replace M:=M.box #[.int .i64 p.kind,.int .i64 p.role,.int .i64 p.path,.int .i64 p.epo,.int .i64 p.ctr,.slice bp p.body.length bc] 70 w.heap.size rfl; generalize w.alloc (.cells #[.int .i64 p.kind,.int .i64 p.role,.int .i64 p.path,.int .i64 p.epo,.int .i64 p.ctr,.slice bp p.body.length bc] 70)=w1 at M  ⊢; generalize eB:w.heap.size=B1 at M hB_B1  ⊢
 have hE_B1:w.heap.size≤B1:=Nat.le_of_eq eB
 have hF_B1:B1≤w.heap.size:=Nat.le_of_eq eB.symm
 clear eB
 replace M:Mm w ([(B1,[.int .i64 p.kind,.int .i64 p.role,.int .i64 p.path,.int .i64 p.epo,.int .i64 p.ctr,.slice bp p.body.length bc])]) w1:=M
 refine actL (w':=w1.alloc (.cells zu8_11 92)) (.pointer (some ⟨w1.heap.size,0,none⟩)) rfl (by kernel_rfl) ?_; simp only [aP,lI,l0,lS]
 have hB_B2:w.heap.size≤w1.heap.size:=M.below.size
 replace M:=M.box zu8_11 92 w1.heap.size rfl; generalize w1.alloc (.cells zu8_11 92)=w2 at M  ⊢; generalize eB:w1.heap.size=B2 at M hB_B2  ⊢
 have hE_B2:w1.heap.size≤B2:=Nat.le_of_eq eB
 have hF_B2:B2≤w1.heap.size:=Nat.le_of_eq eB.symm
 clear eB
 replace M:Mm w ([(B2,[.int .u8 0,.int .u8 0,.int .u8 0,.int .u8 0,.int .u8 0,.int .u8 0,.int .u8 0,.int .u8 0,.int .u8 0,.int .u8 0,.int .u8 0]),(B1,[.int .i64 p.kind,.int .i64 p.role,.int .i64 p.path,.int .i64 p.epo,.int .i64 p.ctr,.slice bp p.body.length bc])]) w2:=M
 refine xT ?_; go_upto_region 1 with fail; refine wp_region_list ?_; refine xpL (.slice none 0 0) ?_; refine xT ?_; go_upto_region 2 with fail; refine wp_region_list ?_; refine xpL (.pointer (some ⟨B1,0,none⟩)) ?_; refine xaL (.int .i64 p.kind) (load1 3 _ ⟨B1,0,none⟩ _ rfl rfl (fun _=>by kernel_rfl) (M.get (mT _ mS) 0 _ rfl)) ?_; refine xpL (.pointer (some ⟨B1,1,none⟩)) ?_
 refine xaL (.int .i64 p.role) (load1 3 _ ⟨B1,1,none⟩ _ rfl rfl (fun _=>by kernel_rfl) (M.get (mT _ mS) 1 _ rfl)) ?_; refine xpL (.pointer (some ⟨B1,2,none⟩)) ?_; refine xaL (.int .i64 p.path) (load1 3 _ ⟨B1,2,none⟩ _ rfl rfl (fun _=>by kernel_rfl) (M.get (mT _ mS) 2 _ rfl)) ?_; refine xpL (.pointer (some ⟨B1,3,none⟩)) ?_
 refine xaL (.int .i64 p.epo) (load1 3 _ ⟨B1,3,none⟩ _ rfl rfl (fun _=>by kernel_rfl) (M.get (mT _ mS) 3 _ rfl)) ?_; refine xpL (.pointer (some ⟨B1,4,none⟩)) ?_; refine xaL (.int .i64 p.ctr) (load1 3 _ ⟨B1,4,none⟩ _ rfl rfl (fun _=>by kernel_rfl) (M.get (mT _ mS) 4 _ rfl)) ?_; refine xpL (.agg #[.int .i64 p.kind,.int .i64 p.role,.int .i64 p.path,.int .i64 p.epo,.int .i64 p.ctr]) ?_
 refine xpL (.int .i64 0) ?_; refine xT ?_; have HI:=show Hid _ from (show Mm w [(B2,[.int .u8 0,.int .u8 0,.int .u8 0,.int .u8 0,.int .u8 0,.int .u8 0,.int .u8 0,.int .u8 0,.int .u8 0,.int .u8 0,.int .u8 0]),(B1,[.int .i64 p.kind,.int .i64 p.role,.int .i64 p.path,.int .i64 p.epo,.int .i64 p.ctr,.slice bp p.body.length bc])] w2 from M); clear M; go_wp2
 go_loopw [3,18] (fun v i w'=>∃ j:Nat,j≤5∧i=.int .i64 (j:Int)∧Mm w [(B2,[.int .u8 0,.int .u8 0,.int .u8 0,.int .u8 0,.int .u8 0,.int .u8 0,.int .u8 0,.int .u8 0,.int .u8 0,.int .u8 0,.int .u8 0]),(B1,[.int .i64 p.kind,.int .i64 p.role,.int .i64 p.path,.int .i64 p.epo,.int .i64 p.ctr,.slice bp p.body.length bc])] w'∧OwnL w' w.heap.size (hpre p j) v) (fun _ i _=>5-(intOf i).toNat)
 case atStart=>exact ⟨0,Nat.zero_le _,rfl,HI.out,World.ownsRow_nil _ _ _ 1⟩
 case round =>
  clear HI
  obtain ⟨j,hj,rfl,M,O_1⟩:=hrel
  obtain ⟨p1,c1,rfl,_,_⟩:=O_1.bytes
  have hj6:j=0∨j=1∨j=2∨j=3∨j=4∨j=5:=by omega
  clear hj
  rcases hj6 with rfl | rfl | rfl | rfl | rfl | rfl
  · go_upto_region 3 with fail
    refine wp_region_list ?_; refine xaL (.bool true) (lssI .i64 _ _ _ _ _ _ rfl rfl rfl true (by decide) _) ?_; refine xT ?_; go_upto_region 4 with fail; refine wp_region_list ?_; refine xpL (.int .i64 ((0:Nat):Int)) ?_; refine xpL (.int .i64 p.kind) ?_; refine xpL (.int .i64 ((0:Nat):Int)) ?_; refine xpL (.int .i64 p.kind) ?_; refine xT ?_; go_upto_region 5 with fail
    refine wp_region_list ?_; refine xpL (.slice p1 ((hpre p 0).length) c1) ?_; refine xpL (.int .i64 p.kind) ?_; refine xpL (.int .i64 ((0:Nat):Int)) ?_; refine xpL (.pointer (some (⟨0,0,none⟩:Addr))) ?_; refine xaL (.int .i64 ((1:Nat):Int)) (load1 3 _ (⟨0,0,none⟩:Addr) _ rfl rfl (fun _=>by kernel_rfl) (((hg.mm M).sz 0 (by decide)))) ?_
    refine xcL (vputfixed_good p1 c1 (hpre p 0) (xnT (hpre_len p 0) (by decide)) O_1.le O_1.nilCap (hpre_byts p 0) p.kind 1 (by decide) (by decide) (by omega) (by omega) _ O_1.src) ?_; rintro e w3 ⟨v,rfl,O_2,l⟩
    replace O_2:OwnL w3 w.heap.size (hpre p 1) v:=O_2.lower M.below.size
    replace M:=M.call l; clear l O_1; refine xeL ?_; refine xpL (.tuple #[v,.int .i64 0]) ?_; refine xpL (v) ?_; refine xpL (.int .i64 0) ?_; refine xpL (v) ?_; refine xT ?_; have HS:=show Hid _ from (And.intro M O_2); clear M O_2; go_wp2
    go_roundw
    case rel=>first | exact ⟨1,by decide,by go_num,HS.out⟩ | ((repeat apply Exists.intro); refine ⟨⟨1,by decide,?_,HS.out⟩,rfl⟩ <;> first | rfl | go_num)
    case measure=>simp [intOf]
  · go_upto_region 3 with fail
    refine wp_region_list ?_; refine xaL (.bool true) (lssI .i64 _ _ _ _ _ _ rfl rfl rfl true (by decide) _) ?_; refine xT ?_; go_upto_region 4 with fail; refine wp_region_list ?_; refine xpL (.int .i64 ((1:Nat):Int)) ?_; refine xpL (.int .i64 p.role) ?_; refine xpL (.int .i64 ((1:Nat):Int)) ?_; refine xpL (.int .i64 p.role) ?_; refine xT ?_; go_upto_region 5 with fail
    refine wp_region_list ?_; refine xpL (.slice p1 ((hpre p 1).length) c1) ?_; refine xpL (.int .i64 p.role) ?_; refine xpL (.int .i64 ((1:Nat):Int)) ?_; refine xpL (.pointer (some (⟨0,1,none⟩:Addr))) ?_; refine xaL (.int .i64 ((1:Nat):Int)) (load1 3 _ (⟨0,1,none⟩:Addr) _ rfl rfl (fun _=>by kernel_rfl) (((hg.mm M).sz 1 (by decide)))) ?_
    refine xcL (vputfixed_good p1 c1 (hpre p 1) (xnT (hpre_len p 1) (by decide)) O_1.le O_1.nilCap (hpre_byts p 1) p.role 1 (by decide) (by decide) (by omega) (by omega) _ O_1.src) ?_; rintro e w4 ⟨v,rfl,O_2,l⟩
    replace O_2:OwnL w4 w.heap.size (hpre p 2) v:=O_2.lower M.below.size
    replace M:=M.call l; clear l O_1; refine xeL ?_; refine xpL (.tuple #[v,.int .i64 0]) ?_; refine xpL (v) ?_; refine xpL (.int .i64 0) ?_; refine xpL (v) ?_; refine xT ?_; have HS:=show Hid _ from (And.intro M O_2); clear M O_2; go_wp2
    go_roundw
    case rel=>first | exact ⟨2,by decide,by go_num,HS.out⟩ | ((repeat apply Exists.intro); refine ⟨⟨2,by decide,?_,HS.out⟩,rfl⟩ <;> first | rfl | go_num)
    case measure=>simp [intOf]
  · go_upto_region 3 with fail
    refine wp_region_list ?_; refine xaL (.bool true) (lssI .i64 _ _ _ _ _ _ rfl rfl rfl true (by decide) _) ?_; refine xT ?_; go_upto_region 4 with fail; refine wp_region_list ?_; refine xpL (.int .i64 ((2:Nat):Int)) ?_; refine xpL (.int .i64 p.path) ?_; refine xpL (.int .i64 ((2:Nat):Int)) ?_; refine xpL (.int .i64 p.path) ?_; refine xT ?_; go_upto_region 5 with fail
    refine wp_region_list ?_; refine xpL (.slice p1 ((hpre p 2).length) c1) ?_; refine xpL (.int .i64 p.path) ?_; refine xpL (.int .i64 ((2:Nat):Int)) ?_; refine xpL (.pointer (some (⟨0,2,none⟩:Addr))) ?_; refine xaL (.int .i64 ((1:Nat):Int)) (load1 3 _ (⟨0,2,none⟩:Addr) _ rfl rfl (fun _=>by kernel_rfl) (((hg.mm M).sz 2 (by decide)))) ?_
    refine xcL (vputfixed_good p1 c1 (hpre p 2) (xnT (hpre_len p 2) (by decide)) O_1.le O_1.nilCap (hpre_byts p 2) p.path 1 (by decide) (by decide) (by omega) (by omega) _ O_1.src) ?_; rintro e w5 ⟨v,rfl,O_2,l⟩
    replace O_2:OwnL w5 w.heap.size (hpre p 3) v:=O_2.lower M.below.size
    replace M:=M.call l; clear l O_1; refine xeL ?_; refine xpL (.tuple #[v,.int .i64 0]) ?_; refine xpL (v) ?_; refine xpL (.int .i64 0) ?_; refine xpL (v) ?_; refine xT ?_; have HS:=show Hid _ from (And.intro M O_2); clear M O_2; go_wp2
    go_roundw
    case rel=>first | exact ⟨3,by decide,by go_num,HS.out⟩ | ((repeat apply Exists.intro); refine ⟨⟨3,by decide,?_,HS.out⟩,rfl⟩ <;> first | rfl | go_num)
    case measure=>simp [intOf]
  · go_upto_region 3 with fail
    refine wp_region_list ?_; refine xaL (.bool true) (lssI .i64 _ _ _ _ _ _ rfl rfl rfl true (by decide) _) ?_; refine xT ?_; go_upto_region 4 with fail; refine wp_region_list ?_; refine xpL (.int .i64 ((3:Nat):Int)) ?_; refine xpL (.int .i64 p.epo) ?_; refine xpL (.int .i64 ((3:Nat):Int)) ?_; refine xpL (.int .i64 p.epo) ?_; refine xT ?_; go_upto_region 5 with fail
    refine wp_region_list ?_; refine xpL (.slice p1 ((hpre p 3).length) c1) ?_; refine xpL (.int .i64 p.epo) ?_; refine xpL (.int .i64 ((3:Nat):Int)) ?_; refine xpL (.pointer (some (⟨0,3,none⟩:Addr))) ?_; refine xaL (.int .i64 ((2:Nat):Int)) (load1 3 _ (⟨0,3,none⟩:Addr) _ rfl rfl (fun _=>by kernel_rfl) (((hg.mm M).sz 3 (by decide)))) ?_
    refine xcL (vputfixed_good p1 c1 (hpre p 3) (xnT (hpre_len p 3) (by decide)) O_1.le O_1.nilCap (hpre_byts p 3) p.epo 2 (by decide) (by decide) (by omega) (by omega) _ O_1.src) ?_; rintro e w6 ⟨v,rfl,O_2,l⟩
    replace O_2:OwnL w6 w.heap.size (hpre p 4) v:=O_2.lower M.below.size
    replace M:=M.call l; clear l O_1; refine xeL ?_; refine xpL (.tuple #[v,.int .i64 0]) ?_; refine xpL (v) ?_; refine xpL (.int .i64 0) ?_; refine xpL (v) ?_; refine xT ?_; have HS:=show Hid _ from (And.intro M O_2); clear M O_2; go_wp2
    go_roundw
    case rel=>first | exact ⟨4,by decide,by go_num,HS.out⟩ | ((repeat apply Exists.intro); refine ⟨⟨4,by decide,?_,HS.out⟩,rfl⟩ <;> first | rfl | go_num)
    case measure=>simp [intOf]
  · go_upto_region 3 with fail
    refine wp_region_list ?_; refine xaL (.bool true) (lssI .i64 _ _ _ _ _ _ rfl rfl rfl true (by decide) _) ?_; refine xT ?_; go_upto_region 4 with fail; refine wp_region_list ?_; refine xpL (.int .i64 ((4:Nat):Int)) ?_; refine xpL (.int .i64 p.ctr) ?_; refine xpL (.int .i64 ((4:Nat):Int)) ?_; refine xpL (.int .i64 p.ctr) ?_; refine xT ?_; go_upto_region 5 with fail
    refine wp_region_list ?_; refine xpL (.slice p1 ((hpre p 4).length) c1) ?_; refine xpL (.int .i64 p.ctr) ?_; refine xpL (.int .i64 ((4:Nat):Int)) ?_; refine xpL (.pointer (some (⟨0,4,none⟩:Addr))) ?_; refine xaL (.int .i64 ((6:Nat):Int)) (load1 3 _ (⟨0,4,none⟩:Addr) _ rfl rfl (fun _=>by kernel_rfl) (((hg.mm M).sz 4 (by decide)))) ?_
    refine xcL (vputfixed_good p1 c1 (hpre p 4) (xnT (hpre_len p 4) (by decide)) O_1.le O_1.nilCap (hpre_byts p 4) p.ctr 6 (by decide) (by decide) (by omega) (by omega) _ O_1.src) ?_; rintro e w7 ⟨v,rfl,O_2,l⟩
    replace O_2:OwnL w7 w.heap.size (hpre p 5) v:=O_2.lower M.below.size
    replace M:=M.call l; clear l O_1; refine xeL ?_; refine xpL (.tuple #[v,.int .i64 0]) ?_; refine xpL (v) ?_; refine xpL (.int .i64 0) ?_; refine xpL (v) ?_; refine xT ?_; have HS:=show Hid _ from (And.intro M O_2); clear M O_2; go_wp2
    go_roundw
    case rel=>first | exact ⟨5,by decide,by go_num,HS.out⟩ | ((repeat apply Exists.intro); refine ⟨⟨5,by decide,?_,HS.out⟩,rfl⟩ <;> first | rfl | go_num)
    case measure=>simp [intOf]
  · have O_2:Own wr w.heap.size 5 .u8 11 (bl (hdr p)) (.slice p1 (hpre p 5).length c1):=by have h:=O_1; rw [hpre_end hk hR] at h; rw [hpre_end hk hR]; unfold OwnL at h; rw [hdr_length] at h ⊢; exact h
    clear O_1
    rw [hpre_end hk hR,hdr_length] at O_2 ⊢
    go_upto_region 3 with fail; refine wp_region_list ?_; refine xaL (.bool false) (lssI .i64 _ _ _ _ _ _ rfl rfl rfl false (by decide) _) ?_; refine xT ?_; go_upto_region 7 with fail; refine wp_region_list ?_; refine actL (w':=wr.alloc (.cells zu8_11 92)) (.pointer (some ⟨wr.heap.size,0,none⟩)) rfl (by kernel_rfl) ?_; simp only [aP,lI,l0,lS]
    have hlb:=(Below.refl wr.heap.size wr).alloc (xnR _) (.cells zu8_11 92); replace O_2:=O_2.below hlb; clear hlb
    have hB_B8:w.heap.size≤wr.heap.size:=M.below.size
    replace M:=M.box zu8_11 92 wr.heap.size rfl; generalize wr.alloc (.cells zu8_11 92)=w8 at M O_2 ⊢; generalize eB:wr.heap.size=B8 at M hB_B8  ⊢
    have hE_B8:wr.heap.size≤B8:=Nat.le_of_eq eB
    have hF_B8:B8≤wr.heap.size:=Nat.le_of_eq eB.symm
    clear eB
    replace M:Mm w ([(B8,[.int .u8 0,.int .u8 0,.int .u8 0,.int .u8 0,.int .u8 0,.int .u8 0,.int .u8 0,.int .u8 0,.int .u8 0,.int .u8 0,.int .u8 0]),(B2,[.int .u8 0,.int .u8 0,.int .u8 0,.int .u8 0,.int .u8 0,.int .u8 0,.int .u8 0,.int .u8 0,.int .u8 0,.int .u8 0,.int .u8 0]),(B1,[.int .i64 p.kind,.int .i64 p.role,.int .i64 p.path,.int .i64 p.epo,.int .i64 p.ctr,.slice bp p.body.length bc])]) w8:=M
    refine xT ?_; go_upto_region 8 with fail; refine wp_region_list ?_; refine xpL (.slice (some ⟨B8,0,none⟩) 11 11) ?_; refine xpL (.slice p1 11 c1) ?_
    refine actL (w':=w8.setCells B8 0 (row .u8 11 (bl (hdr p)))) (.int .i64 11) rfl (run_copy_src _ _ 29 29 5 rfl Tryz.underlying29 (by kernel_rfl) B8 11 11 11 c1 11 p1 (bl (hdr p)) rfl rfl (xnR _) (xnR _) (M.thereP mS 0 11 (Nat.le_of_ble_eq_true rfl)) O_2.src) ?_; simp only [aP,lI,l0,lS]
    replace M:Mm w ([(B8,[.int .u8 (bl (hdr p) 0),.int .u8 (bl (hdr p) 1),.int .u8 (bl (hdr p) 2),.int .u8 (bl (hdr p) 3),.int .u8 (bl (hdr p) 4),.int .u8 (bl (hdr p) 5),.int .u8 (bl (hdr p) 6),.int .u8 (bl (hdr p) 7),.int .u8 (bl (hdr p) 8),.int .u8 (bl (hdr p) 9),.int .u8 (bl (hdr p) 10)]),(B2,[.int .u8 0,.int .u8 0,.int .u8 0,.int .u8 0,.int .u8 0,.int .u8 0,.int .u8 0,.int .u8 0,.int .u8 0,.int .u8 0,.int .u8 0]),(B1,[.int .i64 p.kind,.int .i64 p.role,.int .i64 p.path,.int .i64 p.epo,.int .i64 p.ctr,.slice bp p.body.length bc])]) _:=M.setPart (row .u8 11 (bl (hdr p))) 0 (Nat.le_of_ble_eq_true rfl)
    clear O_2; generalize w8.setCells B8 0 (row .u8 11 (bl (hdr p)))=w9 at M ⊢; refine xT ?_; go_upto_region 9 with fail; refine wp_region_list ?_
    refine xaL (.agg #[.int .u8 (bl (hdr p) 0),.int .u8 (bl (hdr p) 1),.int .u8 (bl (hdr p) 2),.int .u8 (bl (hdr p) 3),.int .u8 (bl (hdr p) 4),.int .u8 (bl (hdr p) 5),.int .u8 (bl (hdr p) 6),.int .u8 (bl (hdr p) 7),.int .u8 (bl (hdr p) 8),.int .u8 (bl (hdr p) 9),.int .u8 (bl (hdr p) 10)]) (loadN 92 _ ⟨B8,0,none⟩ [.int .u8 (bl (hdr p) 0),.int .u8 (bl (hdr p) 1),.int .u8 (bl (hdr p) 2),.int .u8 (bl (hdr p) 3),.int .u8 (bl (hdr p) 4),.int .u8 (bl (hdr p) 5),.int .u8 (bl (hdr p) 6),.int .u8 (bl (hdr p) 7),.int .u8 (bl (hdr p) 8),.int .u8 (bl (hdr p) 9),.int .u8 (bl (hdr p) 10)] rfl rfl (fun _=>by kernel_rfl) (fun _=>by kernel_rfl) (M.rangeAt mS)) ?_
    replace M:=M.swap
    refine skipOpL rfl (storeP [.int .u8 (bl (hdr p) 0),.int .u8 (bl (hdr p) 1),.int .u8 (bl (hdr p) 2),.int .u8 (bl (hdr p) 3),.int .u8 (bl (hdr p) 4),.int .u8 (bl (hdr p) 5),.int .u8 (bl (hdr p) 6),.int .u8 (bl (hdr p) 7),.int .u8 (bl (hdr p) 8),.int .u8 (bl (hdr p) 9),.int .u8 (bl (hdr p) 10)] B2 0 92 _ _ rfl rfl rfl (M.thereP mS 0 11 (Nat.le_of_ble_eq_true rfl)) (by kernel_rfl) (List.all_eq_true.1 (rfl:([.int .u8 (bl (hdr p) 0),.int .u8 (bl (hdr p) 1),.int .u8 (bl (hdr p) 2),.int .u8 (bl (hdr p) 3),.int .u8 (bl (hdr p) 4),.int .u8 (bl (hdr p) 5),.int .u8 (bl (hdr p) 6),.int .u8 (bl (hdr p) 7),.int .u8 (bl (hdr p) 8),.int .u8 (bl (hdr p) 9),.int .u8 (bl (hdr p) 10)]:List Value).all (fun u=>u.oneCell')=true))) ?_
    simp only [Act.put]; replace M:=M.setPart [.int .u8 (bl (hdr p) 0),.int .u8 (bl (hdr p) 1),.int .u8 (bl (hdr p) 2),.int .u8 (bl (hdr p) 3),.int .u8 (bl (hdr p) 4),.int .u8 (bl (hdr p) 5),.int .u8 (bl (hdr p) 6),.int .u8 (bl (hdr p) 7),.int .u8 (bl (hdr p) 8),.int .u8 (bl (hdr p) 9),.int .u8 (bl (hdr p) 10)] 0 (Nat.le_of_ble_eq_true rfl)
    generalize w9.setCells B2 0 [.int .u8 (bl (hdr p) 0),.int .u8 (bl (hdr p) 1),.int .u8 (bl (hdr p) 2),.int .u8 (bl (hdr p) 3),.int .u8 (bl (hdr p) 4),.int .u8 (bl (hdr p) 5),.int .u8 (bl (hdr p) 6),.int .u8 (bl (hdr p) 7),.int .u8 (bl (hdr p) 8),.int .u8 (bl (hdr p) 9),.int .u8 (bl (hdr p) 10)]=w10 at M  ⊢
    replace M:Mm w ([(B2,[.int .u8 (bl (hdr p) 0),.int .u8 (bl (hdr p) 1),.int .u8 (bl (hdr p) 2),.int .u8 (bl (hdr p) 3),.int .u8 (bl (hdr p) 4),.int .u8 (bl (hdr p) 5),.int .u8 (bl (hdr p) 6),.int .u8 (bl (hdr p) 7),.int .u8 (bl (hdr p) 8),.int .u8 (bl (hdr p) 9),.int .u8 (bl (hdr p) 10)]),(B8,[.int .u8 (bl (hdr p) 0),.int .u8 (bl (hdr p) 1),.int .u8 (bl (hdr p) 2),.int .u8 (bl (hdr p) 3),.int .u8 (bl (hdr p) 4),.int .u8 (bl (hdr p) 5),.int .u8 (bl (hdr p) 6),.int .u8 (bl (hdr p) 7),.int .u8 (bl (hdr p) 8),.int .u8 (bl (hdr p) 9),.int .u8 (bl (hdr p) 10)]),(B1,[.int .i64 p.kind,.int .i64 p.role,.int .i64 p.path,.int .i64 p.epo,.int .i64 p.ctr,.slice bp p.body.length bc])]) w10:=M
    refine xT ?_; have c1_:=M.part mS 0 (row .u8 11 (bl (hdr p))) rfl; have hM:=M.below; clear M; go_wp2; refine bodyPost_ret (v:=.agg (row .u8 11 (bl (hdr p))).toArray) (retCell 2 92 ⟨B2,0,none⟩ (row .u8 11 (bl (hdr p))) rfl rfl (fun _=>by kernel_rfl) (fun _=>by kernel_rfl) c1_) rfl ?_
    exact ⟨rfl,hM⟩
theorem vhead_any:HeadOK:=by
 intro p bp bc w hg hp; have M:=Mm.init w
 have fold:(.agg #[.int .i64 p.kind,.int .i64 p.role,.int .i64 p.path,.int .i64 p.epo,.int .i64 p.ctr,.slice bp p.body.length bc]:Value)=.agg (pcs p bp bc).toArray:=rfl
 rw [← fold]
 go_enter Tryz.func26,Tryz.ntmps26
 go_upto_region 0 with fail; refine wp_region_list ?_; refine actL (w':=w.alloc (.cells #[.int .i64 p.kind,.int .i64 p.role,.int .i64 p.path,.int .i64 p.epo,.int .i64 p.ctr,.slice bp p.body.length bc] 70)) (.pointer (some ⟨w.heap.size,0,none⟩)) rfl (by kernel_rfl) ?_; simp only [aP,lI,l0,lS]
 have hB_B1:w.heap.size≤w.heap.size:=M.below.size
 replace M:=M.box #[.int .i64 p.kind,.int .i64 p.role,.int .i64 p.path,.int .i64 p.epo,.int .i64 p.ctr,.slice bp p.body.length bc] 70 w.heap.size rfl; generalize w.alloc (.cells #[.int .i64 p.kind,.int .i64 p.role,.int .i64 p.path,.int .i64 p.epo,.int .i64 p.ctr,.slice bp p.body.length bc] 70)=w1 at M  ⊢; generalize eB:w.heap.size=B1 at M hB_B1  ⊢
 have hE_B1:w.heap.size≤B1:=Nat.le_of_eq eB
 have hF_B1:B1≤w.heap.size:=Nat.le_of_eq eB.symm
 clear eB
 replace M:Mm w ([(B1,[.int .i64 p.kind,.int .i64 p.role,.int .i64 p.path,.int .i64 p.epo,.int .i64 p.ctr,.slice bp p.body.length bc])]) w1:=M
 refine xpL (.slice none 0 0) ?_; refine xT ?_; go_upto_region 1 with fail; refine wp_region_list ?_
 refine xaL (.agg #[.int .i64 p.kind,.int .i64 p.role,.int .i64 p.path,.int .i64 p.epo,.int .i64 p.ctr,.slice bp p.body.length bc]) (loadN 70 _ ⟨B1,0,none⟩ [.int .i64 p.kind,.int .i64 p.role,.int .i64 p.path,.int .i64 p.epo,.int .i64 p.ctr,.slice bp p.body.length bc] rfl rfl (fun _=>by kernel_rfl) (fun _=>by kernel_rfl) (M.rangeAt mS)) ?_
 obtain ⟨b1,hb1⟩:∃ y_,y_=(prc p):=⟨_,rfl⟩
 have hC:Calls Tryz.prog 38 #[.agg #[.int .i64 p.kind,.int .i64 p.role,.int .i64 p.path,.int .i64 p.epo,.int .i64 p.ctr,.slice bp p.body.length bc]] w1 (fun e w'=>e=.returned (.bool b1)∧Below w1.heap.size w1 w'):=(by rw [hb1]; exact prec_any p bp bc _)
 refine xcL (hC) ?_; rintro e w2 ⟨rfl,l⟩; replace M:=M.call l
 refine ⟨_,rfl,?_⟩
 clear l hC; simp only [aP,lI,l0,lS]
 obtain ⟨b2,hb2⟩:∃ y_,y_=(!b1):=⟨_,rfl⟩
 refine xaL (.bool b2) (by subst hb2; cases b1 <;> rfl) ?_; refine xT ?_
 have hb:b2=!prc p:=by rw [hb2,hb1]
 try clear hb1
 try clear hb2
 cases b2 with
 | true =>
   go_upto_region 2 with fail; refine wp_region_list ?_; refine xpL (.slice none 0 0) ?_; refine xT ?_
   have hA:phd p=[]:=phd_none (of_decide_eq_false (show prc p=false by simpa using hb))
   replace hA:=show Hid _ from hA; clear hb; go_wp2; go_ret
   exact ⟨⟨_,rfl,by rw [hA.out]; exact NewF.nil _ _ _⟩,M.below⟩
 | false =>
   have hk:p.kind=3∧pok p=true:=of_decide_eq_true (show prc p=true by simpa using hb)
   have hR:Rec p:=of_decide_eq_true ((pok_rec hk.1).symm.trans hk.2)
   clear hb; go_upto_region 3 with fail; refine wp_region_list ?_
   refine xaL (.agg #[.int .i64 p.kind,.int .i64 p.role,.int .i64 p.path,.int .i64 p.epo,.int .i64 p.ctr,.slice bp p.body.length bc]) (loadN 70 _ ⟨B1,0,none⟩ [.int .i64 p.kind,.int .i64 p.role,.int .i64 p.path,.int .i64 p.epo,.int .i64 p.ctr,.slice bp p.body.length bc] rfl rfl (fun _=>by kernel_rfl) (fun _=>by kernel_rfl) (M.rangeAt mS)) ?_
   have hC:Calls Tryz.prog 39 #[.agg #[.int .i64 p.kind,.int .i64 p.role,.int .i64 p.path,.int .i64 p.epo,.int .i64 p.ctr,.slice bp p.body.length bc]] w2 (fun e w'=>e=.returned (.agg #[.int .u8 (bl (hdr p) 0),.int .u8 (bl (hdr p) 1),.int .u8 (bl (hdr p) 2),.int .u8 (bl (hdr p) 3),.int .u8 (bl (hdr p) 4),.int .u8 (bl (hdr p) 5),.int .u8 (bl (hdr p) 6),.int .u8 (bl (hdr p) 7),.int .u8 (bl (hdr p) 8),.int .u8 (bl (hdr p) 9),.int .u8 (bl (hdr p) 10)])∧Below w2.heap.size w2 w'):=(phead_any p bp bc _ (hg.mm M) hk.1 hR)
   refine xcL (hC) ?_; rintro e w3 ⟨rfl,l⟩; replace M:=M.call l
   refine ⟨_,rfl,?_⟩
   clear l hC; simp only [aP,lI,l0,lS]; refine actL (w':=w3.alloc (.cells zu8_11 92)) (.pointer (some ⟨w3.heap.size,0,none⟩)) rfl (by kernel_rfl) ?_; simp only [aP,lI,l0,lS]
   have hB_B4:w.heap.size≤w3.heap.size:=M.below.size
   replace M:=M.box zu8_11 92 w3.heap.size rfl; generalize w3.alloc (.cells zu8_11 92)=w4 at M  ⊢; generalize eB:w3.heap.size=B4 at M hB_B4  ⊢
   have hE_B4:w3.heap.size≤B4:=Nat.le_of_eq eB
   have hF_B4:B4≤w3.heap.size:=Nat.le_of_eq eB.symm
   clear eB
   replace M:Mm w ([(B4,[.int .u8 0,.int .u8 0,.int .u8 0,.int .u8 0,.int .u8 0,.int .u8 0,.int .u8 0,.int .u8 0,.int .u8 0,.int .u8 0,.int .u8 0]),(B1,[.int .i64 p.kind,.int .i64 p.role,.int .i64 p.path,.int .i64 p.epo,.int .i64 p.ctr,.slice bp p.body.length bc])]) w4:=M
   refine skipOpL rfl (storeP [.int .u8 (bl (hdr p) 0),.int .u8 (bl (hdr p) 1),.int .u8 (bl (hdr p) 2),.int .u8 (bl (hdr p) 3),.int .u8 (bl (hdr p) 4),.int .u8 (bl (hdr p) 5),.int .u8 (bl (hdr p) 6),.int .u8 (bl (hdr p) 7),.int .u8 (bl (hdr p) 8),.int .u8 (bl (hdr p) 9),.int .u8 (bl (hdr p) 10)] B4 0 92 _ _ rfl rfl rfl (M.thereP mS 0 11 (Nat.le_of_ble_eq_true rfl)) (by kernel_rfl) (List.all_eq_true.1 (rfl:([.int .u8 (bl (hdr p) 0),.int .u8 (bl (hdr p) 1),.int .u8 (bl (hdr p) 2),.int .u8 (bl (hdr p) 3),.int .u8 (bl (hdr p) 4),.int .u8 (bl (hdr p) 5),.int .u8 (bl (hdr p) 6),.int .u8 (bl (hdr p) 7),.int .u8 (bl (hdr p) 8),.int .u8 (bl (hdr p) 9),.int .u8 (bl (hdr p) 10)]:List Value).all (fun u=>u.oneCell')=true))) ?_
   simp only [Act.put]; replace M:=M.setPart [.int .u8 (bl (hdr p) 0),.int .u8 (bl (hdr p) 1),.int .u8 (bl (hdr p) 2),.int .u8 (bl (hdr p) 3),.int .u8 (bl (hdr p) 4),.int .u8 (bl (hdr p) 5),.int .u8 (bl (hdr p) 6),.int .u8 (bl (hdr p) 7),.int .u8 (bl (hdr p) 8),.int .u8 (bl (hdr p) 9),.int .u8 (bl (hdr p) 10)] 0 (Nat.le_of_ble_eq_true rfl)
   generalize w4.setCells B4 0 [.int .u8 (bl (hdr p) 0),.int .u8 (bl (hdr p) 1),.int .u8 (bl (hdr p) 2),.int .u8 (bl (hdr p) 3),.int .u8 (bl (hdr p) 4),.int .u8 (bl (hdr p) 5),.int .u8 (bl (hdr p) 6),.int .u8 (bl (hdr p) 7),.int .u8 (bl (hdr p) 8),.int .u8 (bl (hdr p) 9),.int .u8 (bl (hdr p) 10)]=w5 at M  ⊢
   replace M:Mm w ([(B4,[.int .u8 (bl (hdr p) 0),.int .u8 (bl (hdr p) 1),.int .u8 (bl (hdr p) 2),.int .u8 (bl (hdr p) 3),.int .u8 (bl (hdr p) 4),.int .u8 (bl (hdr p) 5),.int .u8 (bl (hdr p) 6),.int .u8 (bl (hdr p) 7),.int .u8 (bl (hdr p) 8),.int .u8 (bl (hdr p) 9),.int .u8 (bl (hdr p) 10)]),(B1,[.int .i64 p.kind,.int .i64 p.role,.int .i64 p.path,.int .i64 p.epo,.int .i64 p.ctr,.slice bp p.body.length bc])]) w5:=M
   refine xT ?_; go_upto_region 4 with fail; refine wp_region_list ?_; refine xpL (.slice (some ⟨B4,0,none⟩) 11 11) ?_; refine xpL (.slice (some ⟨B4,0,none⟩) 11 11) ?_; refine xT ?_; have hN:=M.newL mS (hdr p) rfl
   rw [hdr_length] at hN
   have hA:phd p=hdr p:=phd_rec hk.1 hk.2
   have hS:=show Hid _ from (And.intro hN hA); clear hk hR hN hA; go_wp2; go_ret
   exact ⟨⟨_,rfl,by rw [hS.out.2]; exact hS.out.1⟩,M.below⟩
def NonceOK:Prop:=∀ (p:Pkt) (bp:Option Addr) (bc:Nat) (w:World),PG w→PV w p bp bc→Calls Tryz.prog 25 #[.agg (pcs p bp bc).toArray] w fun e w'=>e=.returned (.agg (row .u8 12 (bl (pno p))).toArray)∧Below w.heap.size w w'
theorem pno_rec {p:Pkt} (hk:p.kind=3∧pok p=true):pno p=p.path::(flst p.epo.toNat 2++(0::0::0::flst p.ctr.toNat 6)):=by unfold pno; rw [if_pos hk]
theorem pno_none {p:Pkt} (hk:¬ (p.kind=3∧pok p=true)):pno p=List.replicate 12 0:=by unfold pno; rw [if_neg hk]
end Go.Proofs.YtknodedhcdpbiaaGreatDoor
