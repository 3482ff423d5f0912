/- Texts of Bm Bs Mw, joined. -/
import Derived.Test.YtklnibmfpcmeeaaGreatDoorP5ShakeAgrees
set_option maxRecDepth 20000
set_option maxHeartbeats 64000000
namespace Go.Proofs.YtklnibmfpcmeeaaGreatDoor
open Go.RowKit
theorem or32_comm (x y:Int) (hx:0≤x∧x<V) (hy:0≤y∧y<V):bits .or .u32 x y=bits .or .u32 y x:=by
 obtain ⟨x,rfl⟩:=xiN hx.1
 obtain ⟨y,rfl⟩:=xiN hy.1
 simp only [V] at hx hy
 rw [u32_or_nat x y (by omega) (by omega),u32_or_nat y x (by omega) (by omega),Nat.or_comm]
theorem ror_any (n:Nat) (hn:n=16∨n=12∨n=8∨n=7) (x:Int) (hx:0≤x∧x<V) (w:World) :
 Calls Tryz.prog 157 #[.int .u32 x,.int .i64 n] w fun e w'=>∃ q,e=.returned (.int .u32 (hrl (32-n) x))∧w'=w.drewN q:=by
 rcases hn with rfl | rfl | rfl | rfl
 · have e:hrl (32-16) x=bits .or .u32 (x/2^16) (x*2^16%4294967296):=or32_comm _ _ (by simp only [V]; omega) (by simp only [V] at hx ⊢; omega)
   rw [e]
   go_enter Tryz.func157,Tryz.ntmps157
   go_wp2
   go_quiet (fail)
   go_wp2; go_ret
   exact ⟨nq,rfl,rfl⟩
 · have e:hrl (32-12) x=bits .or .u32 (x/2^12) (x*2^20%4294967296):=or32_comm _ _ (by simp only [V]; omega) (by simp only [V] at hx ⊢; omega)
   rw [e]
   go_enter Tryz.func157,Tryz.ntmps157
   go_wp2
   go_quiet (fail)
   go_wp2; go_ret
   exact ⟨nq,rfl,rfl⟩
 · have e:hrl (32-8) x=bits .or .u32 (x/2^8) (x*2^24%4294967296):=or32_comm _ _ (by simp only [V]; omega) (by simp only [V] at hx ⊢; omega)
   rw [e]
   go_enter Tryz.func157,Tryz.ntmps157
   go_wp2
   go_quiet (fail)
   go_wp2; go_ret
   exact ⟨nq,rfl,rfl⟩
 · have e:hrl (32-7) x=bits .or .u32 (x/2^7) (x*2^25%4294967296):=or32_comm _ _ (by simp only [V]; omega) (by simp only [V] at hx ⊢; omega)
   rw [e]
   go_enter Tryz.func157,Tryz.ntmps157
   go_wp2
   go_quiet (fail)
   go_wp2; go_ret
   exact ⟨nq,rfl,rfl⟩
def mxA (f:Nat→Int) (a b:Nat) (x:Int):Nat→Int:=upd f a (had (had (f a) (f b)) x)
def mxD (p:Nat) (f:Nat→Int) (d a:Nat):Nat→Int:=upd f d (hrl p (hxr (f d) (f a)))
def mxC (f:Nat→Int) (c d:Nat):Nat→Int:=upd f c (had (f c) (f d))
theorem mx_all (f:Nat→Int) (a b c d:Nat) (x y:Int) (hab:a≠b) (hac:a≠c) (had_:a≠d) (hbc:b≠c) (hbd:b≠d) (hcd:c≠d) :
 mxD 25 (mxC (mxD 24 (mxA (mxD 20 (mxC (mxD 16 (mxA f a b x) d a) c d) b c) a b y) d a) c d) b c=bMx f a b c d x y:=by
 have hba:=hab.symm; have hca:=hac.symm; have hda:=had_.symm; have hcb:=hbc.symm; have hdb:=hbd.symm; have hdc:=hcd.symm
 funext j
 unfold mxA mxC mxD bMx
 simp only [upd,hab,hac,had_,hbc,hbd,hcd,hba,hca,hda,hcb,hdb,hdc,if_false,if_true]
 by_cases ea:j=a
 · subst ea; simp only [hab,hac,had_,if_false,if_true]; rfl
 · by_cases eb:j=b
   · subst eb; simp only [hbc,hbd,hba,if_false,if_true]; rfl
   · by_cases ec:j=c
     · subst ec; simp only [hca,hcb,hcd,if_false,if_true]; rfl
     · by_cases ed:j=d
       · subst ed; simp only [hda,hdb,hdc,if_false,if_true]; rfl
       · simp only [ea,eb,ec,ed,if_false]
structure MI (w:World) (B:Nat) (f:Nat→Int) (w':World):Prop where
 has:Has w' B .u32 16 f
 lt:B<w.heap.size
 gr:w.grownBy w' (some B)
theorem MI.init {w:World} {B:Nat} {f:Nat→Int} (h:Has w B .u32 16 f) (hl:B<w.heap.size):MI w B f w:=⟨h,hl,⟨rfl,rfl,rfl,xnR _,fun _ _ _=>rfl⟩⟩
theorem MI.call {w w' w'':World} {B:Nat} {f:Nat→Int} (h:MI w B f w') (l:Below w'.heap.size w' w''):MI w B f w'' :=
 ⟨h.has.below l (xnL h.lt h.gr.size),h.lt,⟨l.os.trans h.gr.os,l.tape.trans h.gr.tape,l.output.trans h.gr.output,xnT h.gr.size l.size,fun j hj hne=>(l.block j (xnL hj h.gr.size)).trans (h.gr.block j hj hne)⟩⟩
theorem MI.drew {w w':World} {B:Nat} {f:Nat→Int} (h:MI w B f w'):MI w B f w'.drew:=h.call (Below.refl _ _).drew
theorem MI.drewN {w w':World} {B:Nat} {f:Nat→Int} (h:MI w B f w') (q:Nat):MI w B f (w'.drewN q):=h.call (below_drewN (Below.refl _ _))
theorem MI.set {w w':World} {B:Nat} {f:Nat→Int} (h:MI w B f w') (i:Nat) (hi:i<16) (x:Int):MI w B (upd f i x) (w'.setCell ⟨B,i,none⟩ (.int .u32 x)):=by
 have hb:Below B w' (w'.setCell ⟨B,i,none⟩ (.int .u32 x)):=below_setAll (Below.refl B w') B (xnR _) i [.int .u32 x]
 exact ⟨h.has.set i hi x,h.lt,⟨hb.os.trans h.gr.os,hb.tape.trans h.gr.tape,hb.output.trans h.gr.output,xnT h.gr.size hb.size,fun j hj hne=>(heap_setCell_other w' ⟨B,i,none⟩ j _ (fun e=>hne (by rw [e]))).trans (h.gr.block j hj hne)⟩⟩
theorem idxV (b cap i:Nat) (hi:i<16) (w:World) {o:Oper} {a:Act} (x y:Operand) (ho:o.op=.indexAddr 133 x y) (hx:a.eval x=.slice (some ⟨b,0,none⟩) 16 cap) (hy:a.eval y=.int .i64 (i:Int)) :
 (execOp a.eval o).run Tryz.prog w=.ok (.value (.pointer (some ⟨b,i,none⟩))) w:=by
 have h:=idxSl (P:=Tryz.prog) 133 122 16 cap .i64 ⟨b,0,none⟩ i x y Tryz.underlying133 (fun _=>by kernel_rfl) hi ho hx hy w
 rw [Addr.add_mid,Nat.zero_add] at h
 exact h
theorem refMix_any (B cap a b c d:Nat) (x y:Int) (f:Nat→Int) (hf:In V 16 f) (ha:a<16) (hb:b<16) (hc:c<16) (hd:d<16) (hab:a≠b) (hac:a≠c) (had_:a≠d) (hbc:b≠c) (hbd:b≠d) (hcd:c≠d) (w:World) (hB:Has w B .u32 16 f) (hl:B<w.heap.size) :
 Calls Tryz.prog 135 #[.slice (some ⟨B,0,none⟩) 16 cap,.int .i64 a,.int .i64 b,.int .i64 c,.int .i64 d,.int .u32 x,.int .u32 y] w fun e w'=>e=.returned (.tuple #[])∧MI w B (bMx f a b c d x y) w':=by
 have K:=MI.init hB hl
 go_enter Tryz.func135,Tryz.ntmps135
 have F0:=show Hid (In V 16 f) from hf; go_upto_region 0 with fail; refine wp_region_C (S:=fun w'=>MI w B (f) w') 14 (by kernel_rfl) K.drew ?_; clear K; intro K; generalize w.drew=v0 at K ⊢; refine xpC 0 14 (.slice (some ⟨B,0,none⟩) 16 cap) K ?_; refine xpC 1 15 (.int .i64 (a:Int)) K ?_; refine xpC 2 16 (.slice (some ⟨B,0,none⟩) 16 cap) K ?_
 refine xpC 3 17 (.int .i64 (a:Int)) K ?_; refine xqC 4 18 rfl (.pointer (some ⟨B,a,none⟩)) (fun w'=>idxV B cap a ha w' _ _ rfl rfl rfl) K ?_; refine cellC (i:=5) (some 19) rfl .u32 (.int .u32 ((f) a)) B a 122 _ rfl rfl (by kernel_rfl) rfl rfl rfl (by kernel_rfl) (by kernel_rfl) (by kernel_rfl) (by kernel_rfl) (fun _ _ _ h=>h) Tryz.underlying122 K (fun _ h=>h.has.cell a ha) ?_
 simp only [aP,lI,l0,lS]; refine xpC 6 20 (.slice (some ⟨B,0,none⟩) 16 cap) K ?_; refine xpC 7 21 (.int .i64 (b:Int)) K ?_; refine xqC 8 22 rfl (.pointer (some ⟨B,b,none⟩)) (fun w'=>idxV B cap b hb w' _ _ rfl rfl rfl) K ?_
 refine cellC (i:=9) (some 23) rfl .u32 (.int .u32 ((f) b)) B b 122 _ rfl rfl (by kernel_rfl) rfl rfl rfl (by kernel_rfl) (by kernel_rfl) (by kernel_rfl) (by kernel_rfl) (fun _ _ _ h=>h) Tryz.underlying122 K (fun _ h=>h.has.cell b hb) ?_; simp only [aP,lI,l0,lS]
 refine xqC 10 24 rfl (.int .u32 (had ((f) a) ((f) b))) (fun w=>addI .u32 _ _ _ _ _ _ _ rfl rfl rfl (IntKind.wrap_u32' _) w) K ?_; refine xpC 11 25 (.int .u32 x) K ?_; refine xqC 12 26 rfl (.int .u32 (had (had ((f) a) ((f) b)) x)) (fun w=>addI .u32 _ _ _ _ _ _ _ rfl rfl rfl (IntKind.wrap_u32' _) w) K ?_
 refine xqC 13 27 rfl (.pointer (some ⟨B,a,none⟩)) (fun w'=>idxV B cap a ha w' _ _ rfl rfl rfl) K ?_; refine storeC (S2:=fun _=>True) none rfl .u32 (had (had ((f) a) ((f) b)) x) B a 122 _ _ (by kernel_rfl) rfl rfl rfl rfl rfl (by rw [K.has.cell a ha]; rfl) (K.has.free a ha) (by kernel_rfl) (by kernel_rfl) ?_; simp only [Act.put]
 refine wpAnyH_done (by kernel_rfl) ?_ _
 have F1:=show Hid (In V 16 (mxA (f) a b x)) from F0.out.upd a _ (had_in _ _).1 (had_in _ _).2
 replace K:MI w B (mxA (f) a b x) _:=K.set a ha (had (had ((f) a) ((f) b)) x)
 generalize v0.setCell ⟨B,a,none⟩ (.int .u32 (had (had ((f) a) ((f) b)) x))=w1 at K ⊢; go_upto_region 1 with fail; refine wp_region_C (S:=fun w'=>MI w B (mxA (f) a b x) w') 13 (by kernel_rfl) K.drew ?_; clear K; intro K; generalize w1.drew=v1 at K ⊢; refine xpC 0 28 (.slice (some ⟨B,0,none⟩) 16 cap) K ?_; refine xpC 1 29 (.int .i64 (d:Int)) K ?_
 refine xpC 2 30 (.slice (some ⟨B,0,none⟩) 16 cap) K ?_; refine xpC 3 31 (.int .i64 (d:Int)) K ?_; refine xqC 4 32 rfl (.pointer (some ⟨B,d,none⟩)) (fun w'=>idxV B cap d hd w' _ _ rfl rfl rfl) K ?_
 refine cellC (i:=5) (some 33) rfl .u32 (.int .u32 ((mxA (f) a b x) d)) B d 122 _ rfl rfl (by kernel_rfl) rfl rfl rfl (by kernel_rfl) (by kernel_rfl) (by kernel_rfl) (by kernel_rfl) (fun _ _ _ h=>h) Tryz.underlying122 K (fun _ h=>h.has.cell d hd) ?_; simp only [aP,lI,l0,lS]; refine xpC 6 34 (.slice (some ⟨B,0,none⟩) 16 cap) K ?_; refine xpC 7 35 (.int .i64 (a:Int)) K ?_
 refine xqC 8 36 rfl (.pointer (some ⟨B,a,none⟩)) (fun w'=>idxV B cap a ha w' _ _ rfl rfl rfl) K ?_; refine cellC (i:=9) (some 37) rfl .u32 (.int .u32 ((mxA (f) a b x) a)) B a 122 _ rfl rfl (by kernel_rfl) rfl rfl rfl (by kernel_rfl) (by kernel_rfl) (by kernel_rfl) (by kernel_rfl) (fun _ _ _ h=>h) Tryz.underlying122 K (fun _ h=>h.has.cell a ha) ?_; simp only [aP,lI,l0,lS]
 refine xqC 10 38 rfl (.int .u32 (hxr ((mxA (f) a b x) d) ((mxA (f) a b x) a))) (fun w=>xorI .u32 _ _ _ _ _ _ _ rfl rfl rfl rfl w) K ?_; refine callMC (i:=11) (some 39) rfl (by kernel_rfl) rfl rfl (fun _=>by kernel_rfl) (ror_any 16 (by decide) _ (hxr_in _ _ (F1.out d hd) (F1.out a ha)) _) ?_; rintro e u1 ⟨q1,rfl,rfl⟩; replace K:=K.drewN q1
 refine ⟨_,rfl,K,?_⟩
 simp only [aP,lI,l0,lS]; refine xqC 12 40 rfl (.pointer (some ⟨B,d,none⟩)) (fun w'=>idxV B cap d hd w' _ _ rfl rfl rfl) K ?_; refine storeC (S2:=fun _=>True) none rfl .u32 (hrl 16 (hxr ((mxA (f) a b x) d) ((mxA (f) a b x) a))) B d 122 _ _ (by kernel_rfl) rfl rfl rfl rfl rfl (by rw [K.has.cell d hd]; rfl) (K.has.free d hd) (by kernel_rfl) (by kernel_rfl) ?_; simp only [Act.put]
 refine wpAnyH_done (by kernel_rfl) ?_ _
 have F2:=show Hid (In V 16 (mxD 16 (mxA (f) a b x) d a)) from F1.out.upd d _ (hrl_in _ _ (hxr_in _ _ (F1.out d hd) (F1.out a ha))).1 (hrl_in _ _ (hxr_in _ _ (F1.out d hd) (F1.out a ha))).2
 replace K:MI w B (mxD 16 (mxA (f) a b x) d a) _:=K.set d hd (hrl 16 (hxr ((mxA (f) a b x) d) ((mxA (f) a b x) a)))
 generalize (v1.drewN q1).setCell ⟨B,d,none⟩ (.int .u32 (hrl 16 (hxr ((mxA (f) a b x) d) ((mxA (f) a b x) a))))=w2 at K ⊢; go_upto_region 2 with fail; refine wp_region_C (S:=fun w'=>MI w B (mxD 16 (mxA (f) a b x) d a) w') 12 (by kernel_rfl) K.drew ?_; clear K; intro K; generalize w2.drew=v2 at K ⊢; refine xpC 0 41 (.slice (some ⟨B,0,none⟩) 16 cap) K ?_
 refine xpC 1 42 (.int .i64 (c:Int)) K ?_; refine xpC 2 43 (.slice (some ⟨B,0,none⟩) 16 cap) K ?_; refine xpC 3 44 (.int .i64 (c:Int)) K ?_; refine xqC 4 45 rfl (.pointer (some ⟨B,c,none⟩)) (fun w'=>idxV B cap c hc w' _ _ rfl rfl rfl) K ?_
 refine cellC (i:=5) (some 46) rfl .u32 (.int .u32 ((mxD 16 (mxA (f) a b x) d a) c)) B c 122 _ rfl rfl (by kernel_rfl) rfl rfl rfl (by kernel_rfl) (by kernel_rfl) (by kernel_rfl) (by kernel_rfl) (fun _ _ _ h=>h) Tryz.underlying122 K (fun _ h=>h.has.cell c hc) ?_; simp only [aP,lI,l0,lS]; refine xpC 6 47 (.slice (some ⟨B,0,none⟩) 16 cap) K ?_; refine xpC 7 48 (.int .i64 (d:Int)) K ?_
 refine xqC 8 49 rfl (.pointer (some ⟨B,d,none⟩)) (fun w'=>idxV B cap d hd w' _ _ rfl rfl rfl) K ?_; refine cellC (i:=9) (some 50) rfl .u32 (.int .u32 ((mxD 16 (mxA (f) a b x) d a) d)) B d 122 _ rfl rfl (by kernel_rfl) rfl rfl rfl (by kernel_rfl) (by kernel_rfl) (by kernel_rfl) (by kernel_rfl) (fun _ _ _ h=>h) Tryz.underlying122 K (fun _ h=>h.has.cell d hd) ?_; simp only [aP,lI,l0,lS]
 refine xqC 10 51 rfl (.int .u32 (had ((mxD 16 (mxA (f) a b x) d a) c) ((mxD 16 (mxA (f) a b x) d a) d))) (fun w=>addI .u32 _ _ _ _ _ _ _ rfl rfl rfl (IntKind.wrap_u32' _) w) K ?_; refine xqC 11 52 rfl (.pointer (some ⟨B,c,none⟩)) (fun w'=>idxV B cap c hc w' _ _ rfl rfl rfl) K ?_
 refine storeC (S2:=fun _=>True) none rfl .u32 (had ((mxD 16 (mxA (f) a b x) d a) c) ((mxD 16 (mxA (f) a b x) d a) d)) B c 122 _ _ (by kernel_rfl) rfl rfl rfl rfl rfl (by rw [K.has.cell c hc]; rfl) (K.has.free c hc) (by kernel_rfl) (by kernel_rfl) ?_; simp only [Act.put]
 refine wpAnyH_done (by kernel_rfl) ?_ _
 have F3:=show Hid (In V 16 (mxC (mxD 16 (mxA (f) a b x) d a) c d)) from F2.out.upd c _ (had_in _ _).1 (had_in _ _).2
 replace K:MI w B (mxC (mxD 16 (mxA (f) a b x) d a) c d) _:=K.set c hc (had ((mxD 16 (mxA (f) a b x) d a) c) ((mxD 16 (mxA (f) a b x) d a) d))
 generalize v2.setCell ⟨B,c,none⟩ (.int .u32 (had ((mxD 16 (mxA (f) a b x) d a) c) ((mxD 16 (mxA (f) a b x) d a) d)))=w3 at K ⊢; go_upto_region 3 with fail; refine wp_region_C (S:=fun w'=>MI w B (mxC (mxD 16 (mxA (f) a b x) d a) c d) w') 13 (by kernel_rfl) K.drew ?_; clear K; intro K; generalize w3.drew=v3 at K ⊢; refine xpC 0 53 (.slice (some ⟨B,0,none⟩) 16 cap) K ?_
 refine xpC 1 54 (.int .i64 (b:Int)) K ?_; refine xpC 2 55 (.slice (some ⟨B,0,none⟩) 16 cap) K ?_; refine xpC 3 56 (.int .i64 (b:Int)) K ?_; refine xqC 4 57 rfl (.pointer (some ⟨B,b,none⟩)) (fun w'=>idxV B cap b hb w' _ _ rfl rfl rfl) K ?_
 refine cellC (i:=5) (some 58) rfl .u32 (.int .u32 ((mxC (mxD 16 (mxA (f) a b x) d a) c d) b)) B b 122 _ rfl rfl (by kernel_rfl) rfl rfl rfl (by kernel_rfl) (by kernel_rfl) (by kernel_rfl) (by kernel_rfl) (fun _ _ _ h=>h) Tryz.underlying122 K (fun _ h=>h.has.cell b hb) ?_; simp only [aP,lI,l0,lS]; refine xpC 6 59 (.slice (some ⟨B,0,none⟩) 16 cap) K ?_
 refine xpC 7 60 (.int .i64 (c:Int)) K ?_; refine xqC 8 61 rfl (.pointer (some ⟨B,c,none⟩)) (fun w'=>idxV B cap c hc w' _ _ rfl rfl rfl) K ?_
 refine cellC (i:=9) (some 62) rfl .u32 (.int .u32 ((mxC (mxD 16 (mxA (f) a b x) d a) c d) c)) B c 122 _ rfl rfl (by kernel_rfl) rfl rfl rfl (by kernel_rfl) (by kernel_rfl) (by kernel_rfl) (by kernel_rfl) (fun _ _ _ h=>h) Tryz.underlying122 K (fun _ h=>h.has.cell c hc) ?_; simp only [aP,lI,l0,lS]
 refine xqC 10 63 rfl (.int .u32 (hxr ((mxC (mxD 16 (mxA (f) a b x) d a) c d) b) ((mxC (mxD 16 (mxA (f) a b x) d a) c d) c))) (fun w=>xorI .u32 _ _ _ _ _ _ _ rfl rfl rfl rfl w) K ?_; refine callMC (i:=11) (some 64) rfl (by kernel_rfl) rfl rfl (fun _=>by kernel_rfl) (ror_any 12 (by decide) _ (hxr_in _ _ (F3.out b hb) (F3.out c hc)) _) ?_; rintro e u3 ⟨q3,rfl,rfl⟩; replace K:=K.drewN q3
 refine ⟨_,rfl,K,?_⟩
 simp only [aP,lI,l0,lS]; refine xqC 12 65 rfl (.pointer (some ⟨B,b,none⟩)) (fun w'=>idxV B cap b hb w' _ _ rfl rfl rfl) K ?_
 refine storeC (S2:=fun _=>True) none rfl .u32 (hrl 20 (hxr ((mxC (mxD 16 (mxA (f) a b x) d a) c d) b) ((mxC (mxD 16 (mxA (f) a b x) d a) c d) c))) B b 122 _ _ (by kernel_rfl) rfl rfl rfl rfl rfl (by rw [K.has.cell b hb]; rfl) (K.has.free b hb) (by kernel_rfl) (by kernel_rfl) ?_; simp only [Act.put]
 refine wpAnyH_done (by kernel_rfl) ?_ _
 have F4:=show Hid (In V 16 (mxD 20 (mxC (mxD 16 (mxA (f) a b x) d a) c d) b c)) from F3.out.upd b _ (hrl_in _ _ (hxr_in _ _ (F3.out b hb) (F3.out c hc))).1 (hrl_in _ _ (hxr_in _ _ (F3.out b hb) (F3.out c hc))).2
 replace K:MI w B (mxD 20 (mxC (mxD 16 (mxA (f) a b x) d a) c d) b c) _:=K.set b hb (hrl 20 (hxr ((mxC (mxD 16 (mxA (f) a b x) d a) c d) b) ((mxC (mxD 16 (mxA (f) a b x) d a) c d) c)))
 generalize (v3.drewN q3).setCell ⟨B,b,none⟩ (.int .u32 (hrl 20 (hxr ((mxC (mxD 16 (mxA (f) a b x) d a) c d) b) ((mxC (mxD 16 (mxA (f) a b x) d a) c d) c))))=w4 at K ⊢; go_upto_region 4 with fail; refine wp_region_C (S:=fun w'=>MI w B (mxD 20 (mxC (mxD 16 (mxA (f) a b x) d a) c d) b c) w') 14 (by kernel_rfl) K.drew ?_; clear K; intro K; generalize w4.drew=v4 at K ⊢
 refine xpC 0 66 (.slice (some ⟨B,0,none⟩) 16 cap) K ?_; refine xpC 1 67 (.int .i64 (a:Int)) K ?_; refine xpC 2 68 (.slice (some ⟨B,0,none⟩) 16 cap) K ?_; refine xpC 3 69 (.int .i64 (a:Int)) K ?_; refine xqC 4 70 rfl (.pointer (some ⟨B,a,none⟩)) (fun w'=>idxV B cap a ha w' _ _ rfl rfl rfl) K ?_
 refine cellC (i:=5) (some 71) rfl .u32 (.int .u32 ((mxD 20 (mxC (mxD 16 (mxA (f) a b x) d a) c d) b c) a)) B a 122 _ rfl rfl (by kernel_rfl) rfl rfl rfl (by kernel_rfl) (by kernel_rfl) (by kernel_rfl) (by kernel_rfl) (fun _ _ _ h=>h) Tryz.underlying122 K (fun _ h=>h.has.cell a ha) ?_; simp only [aP,lI,l0,lS]; refine xpC 6 72 (.slice (some ⟨B,0,none⟩) 16 cap) K ?_
 refine xpC 7 73 (.int .i64 (b:Int)) K ?_; refine xqC 8 74 rfl (.pointer (some ⟨B,b,none⟩)) (fun w'=>idxV B cap b hb w' _ _ rfl rfl rfl) K ?_
 refine cellC (i:=9) (some 75) rfl .u32 (.int .u32 ((mxD 20 (mxC (mxD 16 (mxA (f) a b x) d a) c d) b c) b)) B b 122 _ rfl rfl (by kernel_rfl) rfl rfl rfl (by kernel_rfl) (by kernel_rfl) (by kernel_rfl) (by kernel_rfl) (fun _ _ _ h=>h) Tryz.underlying122 K (fun _ h=>h.has.cell b hb) ?_; simp only [aP,lI,l0,lS]
 refine xqC 10 76 rfl (.int .u32 (had ((mxD 20 (mxC (mxD 16 (mxA (f) a b x) d a) c d) b c) a) ((mxD 20 (mxC (mxD 16 (mxA (f) a b x) d a) c d) b c) b))) (fun w=>addI .u32 _ _ _ _ _ _ _ rfl rfl rfl (IntKind.wrap_u32' _) w) K ?_; refine xpC 11 77 (.int .u32 y) K ?_
 refine xqC 12 78 rfl (.int .u32 (had (had ((mxD 20 (mxC (mxD 16 (mxA (f) a b x) d a) c d) b c) a) ((mxD 20 (mxC (mxD 16 (mxA (f) a b x) d a) c d) b c) b)) y)) (fun w=>addI .u32 _ _ _ _ _ _ _ rfl rfl rfl (IntKind.wrap_u32' _) w) K ?_; refine xqC 13 79 rfl (.pointer (some ⟨B,a,none⟩)) (fun w'=>idxV B cap a ha w' _ _ rfl rfl rfl) K ?_
 refine storeC (S2:=fun _=>True) none rfl .u32 (had (had ((mxD 20 (mxC (mxD 16 (mxA (f) a b x) d a) c d) b c) a) ((mxD 20 (mxC (mxD 16 (mxA (f) a b x) d a) c d) b c) b)) y) B a 122 _ _ (by kernel_rfl) rfl rfl rfl rfl rfl (by rw [K.has.cell a ha]; rfl) (K.has.free a ha) (by kernel_rfl) (by kernel_rfl) ?_; simp only [Act.put]
 refine wpAnyH_done (by kernel_rfl) ?_ _
 have F5:=show Hid (In V 16 (mxA (mxD 20 (mxC (mxD 16 (mxA (f) a b x) d a) c d) b c) a b y)) from F4.out.upd a _ (had_in _ _).1 (had_in _ _).2
 replace K:MI w B (mxA (mxD 20 (mxC (mxD 16 (mxA (f) a b x) d a) c d) b c) a b y) _:=K.set a ha (had (had ((mxD 20 (mxC (mxD 16 (mxA (f) a b x) d a) c d) b c) a) ((mxD 20 (mxC (mxD 16 (mxA (f) a b x) d a) c d) b c) b)) y)
 generalize v4.setCell ⟨B,a,none⟩ (.int .u32 (had (had ((mxD 20 (mxC (mxD 16 (mxA (f) a b x) d a) c d) b c) a) ((mxD 20 (mxC (mxD 16 (mxA (f) a b x) d a) c d) b c) b)) y))=w5 at K ⊢; go_upto_region 5 with fail; refine wp_region_C (S:=fun w'=>MI w B (mxA (mxD 20 (mxC (mxD 16 (mxA (f) a b x) d a) c d) b c) a b y) w') 13 (by kernel_rfl) K.drew ?_; clear K; intro K
 generalize w5.drew=v5 at K ⊢; refine xpC 0 80 (.slice (some ⟨B,0,none⟩) 16 cap) K ?_; refine xpC 1 81 (.int .i64 (d:Int)) K ?_; refine xpC 2 82 (.slice (some ⟨B,0,none⟩) 16 cap) K ?_; refine xpC 3 83 (.int .i64 (d:Int)) K ?_; refine xqC 4 84 rfl (.pointer (some ⟨B,d,none⟩)) (fun w'=>idxV B cap d hd w' _ _ rfl rfl rfl) K ?_
 refine cellC (i:=5) (some 85) rfl .u32 (.int .u32 ((mxA (mxD 20 (mxC (mxD 16 (mxA (f) a b x) d a) c d) b c) a b y) d)) B d 122 _ rfl rfl (by kernel_rfl) rfl rfl rfl (by kernel_rfl) (by kernel_rfl) (by kernel_rfl) (by kernel_rfl) (fun _ _ _ h=>h) Tryz.underlying122 K (fun _ h=>h.has.cell d hd) ?_; simp only [aP,lI,l0,lS]; refine xpC 6 86 (.slice (some ⟨B,0,none⟩) 16 cap) K ?_
 refine xpC 7 87 (.int .i64 (a:Int)) K ?_; refine xqC 8 88 rfl (.pointer (some ⟨B,a,none⟩)) (fun w'=>idxV B cap a ha w' _ _ rfl rfl rfl) K ?_
 refine cellC (i:=9) (some 89) rfl .u32 (.int .u32 ((mxA (mxD 20 (mxC (mxD 16 (mxA (f) a b x) d a) c d) b c) a b y) a)) B a 122 _ rfl rfl (by kernel_rfl) rfl rfl rfl (by kernel_rfl) (by kernel_rfl) (by kernel_rfl) (by kernel_rfl) (fun _ _ _ h=>h) Tryz.underlying122 K (fun _ h=>h.has.cell a ha) ?_; simp only [aP,lI,l0,lS]
 refine xqC 10 90 rfl (.int .u32 (hxr ((mxA (mxD 20 (mxC (mxD 16 (mxA (f) a b x) d a) c d) b c) a b y) d) ((mxA (mxD 20 (mxC (mxD 16 (mxA (f) a b x) d a) c d) b c) a b y) a))) (fun w=>xorI .u32 _ _ _ _ _ _ _ rfl rfl rfl rfl w) K ?_; refine callMC (i:=11) (some 91) rfl (by kernel_rfl) rfl rfl (fun _=>by kernel_rfl) (ror_any 8 (by decide) _ (hxr_in _ _ (F5.out d hd) (F5.out a ha)) _) ?_
 rintro e u5 ⟨q5,rfl,rfl⟩; replace K:=K.drewN q5
 refine ⟨_,rfl,K,?_⟩
 simp only [aP,lI,l0,lS]; refine xqC 12 92 rfl (.pointer (some ⟨B,d,none⟩)) (fun w'=>idxV B cap d hd w' _ _ rfl rfl rfl) K ?_
 refine storeC (S2:=fun _=>True) none rfl .u32 (hrl 24 (hxr ((mxA (mxD 20 (mxC (mxD 16 (mxA (f) a b x) d a) c d) b c) a b y) d) ((mxA (mxD 20 (mxC (mxD 16 (mxA (f) a b x) d a) c d) b c) a b y) a))) B d 122 _ _ (by kernel_rfl) rfl rfl rfl rfl rfl (by rw [K.has.cell d hd]; rfl) (K.has.free d hd) (by kernel_rfl) (by kernel_rfl) ?_; simp only [Act.put]
 refine wpAnyH_done (by kernel_rfl) ?_ _
 have F6:=show Hid (In V 16 (mxD 24 (mxA (mxD 20 (mxC (mxD 16 (mxA (f) a b x) d a) c d) b c) a b y) d a)) from F5.out.upd d _ (hrl_in _ _ (hxr_in _ _ (F5.out d hd) (F5.out a ha))).1 (hrl_in _ _ (hxr_in _ _ (F5.out d hd) (F5.out a ha))).2
 replace K:MI w B (mxD 24 (mxA (mxD 20 (mxC (mxD 16 (mxA (f) a b x) d a) c d) b c) a b y) d a) _:=K.set d hd (hrl 24 (hxr ((mxA (mxD 20 (mxC (mxD 16 (mxA (f) a b x) d a) c d) b c) a b y) d) ((mxA (mxD 20 (mxC (mxD 16 (mxA (f) a b x) d a) c d) b c) a b y) a)))
 generalize (v5.drewN q5).setCell ⟨B,d,none⟩ (.int .u32 (hrl 24 (hxr ((mxA (mxD 20 (mxC (mxD 16 (mxA (f) a b x) d a) c d) b c) a b y) d) ((mxA (mxD 20 (mxC (mxD 16 (mxA (f) a b x) d a) c d) b c) a b y) a))))=w6 at K ⊢; go_upto_region 6 with fail
 refine wp_region_C (S:=fun w'=>MI w B (mxD 24 (mxA (mxD 20 (mxC (mxD 16 (mxA (f) a b x) d a) c d) b c) a b y) d a) w') 12 (by kernel_rfl) K.drew ?_; clear K; intro K; generalize w6.drew=v6 at K ⊢; refine xpC 0 93 (.slice (some ⟨B,0,none⟩) 16 cap) K ?_; refine xpC 1 94 (.int .i64 (c:Int)) K ?_; refine xpC 2 95 (.slice (some ⟨B,0,none⟩) 16 cap) K ?_
 refine xpC 3 96 (.int .i64 (c:Int)) K ?_; refine xqC 4 97 rfl (.pointer (some ⟨B,c,none⟩)) (fun w'=>idxV B cap c hc w' _ _ rfl rfl rfl) K ?_
 refine cellC (i:=5) (some 98) rfl .u32 (.int .u32 ((mxD 24 (mxA (mxD 20 (mxC (mxD 16 (mxA (f) a b x) d a) c d) b c) a b y) d a) c)) B c 122 _ rfl rfl (by kernel_rfl) rfl rfl rfl (by kernel_rfl) (by kernel_rfl) (by kernel_rfl) (by kernel_rfl) (fun _ _ _ h=>h) Tryz.underlying122 K (fun _ h=>h.has.cell c hc) ?_; simp only [aP,lI,l0,lS]
 refine xpC 6 99 (.slice (some ⟨B,0,none⟩) 16 cap) K ?_; refine xpC 7 100 (.int .i64 (d:Int)) K ?_; refine xqC 8 101 rfl (.pointer (some ⟨B,d,none⟩)) (fun w'=>idxV B cap d hd w' _ _ rfl rfl rfl) K ?_
 refine cellC (i:=9) (some 102) rfl .u32 (.int .u32 ((mxD 24 (mxA (mxD 20 (mxC (mxD 16 (mxA (f) a b x) d a) c d) b c) a b y) d a) d)) B d 122 _ rfl rfl (by kernel_rfl) rfl rfl rfl (by kernel_rfl) (by kernel_rfl) (by kernel_rfl) (by kernel_rfl) (fun _ _ _ h=>h) Tryz.underlying122 K (fun _ h=>h.has.cell d hd) ?_; simp only [aP,lI,l0,lS]
 refine xqC 10 103 rfl (.int .u32 (had ((mxD 24 (mxA (mxD 20 (mxC (mxD 16 (mxA (f) a b x) d a) c d) b c) a b y) d a) c) ((mxD 24 (mxA (mxD 20 (mxC (mxD 16 (mxA (f) a b x) d a) c d) b c) a b y) d a) d))) (fun w=>addI .u32 _ _ _ _ _ _ _ rfl rfl rfl (IntKind.wrap_u32' _) w) K ?_; refine xqC 11 104 rfl (.pointer (some ⟨B,c,none⟩)) (fun w'=>idxV B cap c hc w' _ _ rfl rfl rfl) K ?_
 refine storeC (S2:=fun _=>True) none rfl .u32 (had ((mxD 24 (mxA (mxD 20 (mxC (mxD 16 (mxA (f) a b x) d a) c d) b c) a b y) d a) c) ((mxD 24 (mxA (mxD 20 (mxC (mxD 16 (mxA (f) a b x) d a) c d) b c) a b y) d a) d)) B c 122 _ _ (by kernel_rfl) rfl rfl rfl rfl rfl (by rw [K.has.cell c hc]; rfl) (K.has.free c hc) (by kernel_rfl) (by kernel_rfl) ?_; simp only [Act.put]
 refine wpAnyH_done (by kernel_rfl) ?_ _
 have F7:=show Hid (In V 16 (mxC (mxD 24 (mxA (mxD 20 (mxC (mxD 16 (mxA (f) a b x) d a) c d) b c) a b y) d a) c d)) from F6.out.upd c _ (had_in _ _).1 (had_in _ _).2
 replace K:MI w B (mxC (mxD 24 (mxA (mxD 20 (mxC (mxD 16 (mxA (f) a b x) d a) c d) b c) a b y) d a) c d) _:=K.set c hc (had ((mxD 24 (mxA (mxD 20 (mxC (mxD 16 (mxA (f) a b x) d a) c d) b c) a b y) d a) c) ((mxD 24 (mxA (mxD 20 (mxC (mxD 16 (mxA (f) a b x) d a) c d) b c) a b y) d a) d))
 generalize v6.setCell ⟨B,c,none⟩ (.int .u32 (had ((mxD 24 (mxA (mxD 20 (mxC (mxD 16 (mxA (f) a b x) d a) c d) b c) a b y) d a) c) ((mxD 24 (mxA (mxD 20 (mxC (mxD 16 (mxA (f) a b x) d a) c d) b c) a b y) d a) d)))=w7 at K ⊢; go_upto_region 7 with fail
 refine wp_region_C (S:=fun w'=>MI w B (mxC (mxD 24 (mxA (mxD 20 (mxC (mxD 16 (mxA (f) a b x) d a) c d) b c) a b y) d a) c d) w') 13 (by kernel_rfl) K.drew ?_; clear K; intro K; generalize w7.drew=v7 at K ⊢; refine xpC 0 105 (.slice (some ⟨B,0,none⟩) 16 cap) K ?_; refine xpC 1 106 (.int .i64 (b:Int)) K ?_; refine xpC 2 107 (.slice (some ⟨B,0,none⟩) 16 cap) K ?_
 refine xpC 3 108 (.int .i64 (b:Int)) K ?_; refine xqC 4 109 rfl (.pointer (some ⟨B,b,none⟩)) (fun w'=>idxV B cap b hb w' _ _ rfl rfl rfl) K ?_
 refine cellC (i:=5) (some 110) rfl .u32 (.int .u32 ((mxC (mxD 24 (mxA (mxD 20 (mxC (mxD 16 (mxA (f) a b x) d a) c d) b c) a b y) d a) c d) b)) B b 122 _ rfl rfl (by kernel_rfl) rfl rfl rfl (by kernel_rfl) (by kernel_rfl) (by kernel_rfl) (by kernel_rfl) (fun _ _ _ h=>h) Tryz.underlying122 K (fun _ h=>h.has.cell b hb) ?_; simp only [aP,lI,l0,lS]
 refine xpC 6 111 (.slice (some ⟨B,0,none⟩) 16 cap) K ?_; refine xpC 7 112 (.int .i64 (c:Int)) K ?_; refine xqC 8 113 rfl (.pointer (some ⟨B,c,none⟩)) (fun w'=>idxV B cap c hc w' _ _ rfl rfl rfl) K ?_
 refine cellC (i:=9) (some 114) rfl .u32 (.int .u32 ((mxC (mxD 24 (mxA (mxD 20 (mxC (mxD 16 (mxA (f) a b x) d a) c d) b c) a b y) d a) c d) c)) B c 122 _ rfl rfl (by kernel_rfl) rfl rfl rfl (by kernel_rfl) (by kernel_rfl) (by kernel_rfl) (by kernel_rfl) (fun _ _ _ h=>h) Tryz.underlying122 K (fun _ h=>h.has.cell c hc) ?_; simp only [aP,lI,l0,lS]
 refine xqC 10 115 rfl (.int .u32 (hxr ((mxC (mxD 24 (mxA (mxD 20 (mxC (mxD 16 (mxA (f) a b x) d a) c d) b c) a b y) d a) c d) b) ((mxC (mxD 24 (mxA (mxD 20 (mxC (mxD 16 (mxA (f) a b x) d a) c d) b c) a b y) d a) c d) c))) (fun w=>xorI .u32 _ _ _ _ _ _ _ rfl rfl rfl rfl w) K ?_
 refine callMC (i:=11) (some 116) rfl (by kernel_rfl) rfl rfl (fun _=>by kernel_rfl) (ror_any 7 (by decide) _ (hxr_in _ _ (F7.out b hb) (F7.out c hc)) _) ?_; rintro e u7 ⟨q7,rfl,rfl⟩; replace K:=K.drewN q7
 refine ⟨_,rfl,K,?_⟩
 simp only [aP,lI,l0,lS]; refine xqC 12 117 rfl (.pointer (some ⟨B,b,none⟩)) (fun w'=>idxV B cap b hb w' _ _ rfl rfl rfl) K ?_
 refine storeC (S2:=fun _=>True) none rfl .u32 (hrl 25 (hxr ((mxC (mxD 24 (mxA (mxD 20 (mxC (mxD 16 (mxA (f) a b x) d a) c d) b c) a b y) d a) c d) b) ((mxC (mxD 24 (mxA (mxD 20 (mxC (mxD 16 (mxA (f) a b x) d a) c d) b c) a b y) d a) c d) c))) B b 122 _ _ (by kernel_rfl) rfl rfl rfl rfl rfl (by rw [K.has.cell b hb]; rfl) (K.has.free b hb) (by kernel_rfl) (by kernel_rfl) ?_; simp only [Act.put]
 refine wpAnyH_done (by kernel_rfl) ?_ _
 have F8:=show Hid (In V 16 (mxD 25 (mxC (mxD 24 (mxA (mxD 20 (mxC (mxD 16 (mxA (f) a b x) d a) c d) b c) a b y) d a) c d) b c)) from F7.out.upd b _ (hrl_in _ _ (hxr_in _ _ (F7.out b hb) (F7.out c hc))).1 (hrl_in _ _ (hxr_in _ _ (F7.out b hb) (F7.out c hc))).2
 replace K:MI w B (mxD 25 (mxC (mxD 24 (mxA (mxD 20 (mxC (mxD 16 (mxA (f) a b x) d a) c d) b c) a b y) d a) c d) b c) _:=K.set b hb (hrl 25 (hxr ((mxC (mxD 24 (mxA (mxD 20 (mxC (mxD 16 (mxA (f) a b x) d a) c d) b c) a b y) d a) c d) b) ((mxC (mxD 24 (mxA (mxD 20 (mxC (mxD 16 (mxA (f) a b x) d a) c d) b c) a b y) d a) c d) c)))
 generalize (v7.drewN q7).setCell ⟨B,b,none⟩ (.int .u32 (hrl 25 (hxr ((mxC (mxD 24 (mxA (mxD 20 (mxC (mxD 16 (mxA (f) a b x) d a) c d) b c) a b y) d a) c d) b) ((mxC (mxD 24 (mxA (mxD 20 (mxC (mxD 16 (mxA (f) a b x) d a) c d) b c) a b y) d a) c d) c))))=w8 at K ⊢
 rw [mx_all f a b c d x y hab hac had_ hbc hbd hcd] at K
 go_wp2
 go_end0
 exact ⟨rfl,K⟩
theorem refStart_any (w:World) :
 Calls Tryz.prog 113 #[] w fun e w'=>∃ B,e=.returned (.slice (some ⟨B,0,none⟩) 8 8)∧(w.heap.size≤B∧B<w'.heap.size∧Has w' B .u32 8 iv)∧Below w.heap.size w w':=by
 have H:=Has.new w .u32 8 iv 122 w.heap.size rfl; have hb:=(Below.refl w.heap.size w).alloc (xnR _) (.cells (row .u32 8 iv).toArray 122); have hz:=size_new w (.cells (row .u32 8 iv).toArray 122)
 go_enter Tryz.func113,Tryz.ntmps113
 go_upto_region 1 with fail; refine wp_region_list ?_; refine actL (w':=w.alloc (.cells (row .u32 8 iv).toArray 122)) (.slice (some ⟨w.heap.size,0,none⟩) 8 8) rfl (by kernel_rfl) ?_; simp only [aP,lI,l0,lS]; refine xpL (.slice (some ⟨w.heap.size,0,none⟩) 8 8) ?_; show Exit.then _ _ _ _ _; generalize w.alloc (.cells (row .u32 8 iv).toArray 122)=w1 at H hb hz ⊢; go_wp2; go_ret
 exact ⟨w.heap.size,rfl,⟨xnR _,by omega,H⟩,hb⟩
structure SGT (w':World) (O:Nat) (bs:Nat→Nat):Prop where
 top:∀ r,r<10→w'.cell? ⟨O,r,none⟩=some (.slice (some ⟨bs r,0,none⟩) 16 16)
 rows:∀ r,r<10→Has w' (bs r) .i64 16 (fun i=>((sg r i:Nat):Int))∧bs r<w'.heap.size
 lt:O<w'.heap.size
theorem SGT.below {w w':World} {O:Nat} {bs:Nat→Nat} (h:SGT w O bs) {B:Nat} (l:Below B w w') (hB:w.heap.size≤B):SGT w' O bs :=
 ⟨fun r hr=>by rw [l.cell (p:=⟨O,r,none⟩) (xnL h.lt hB)]; exact h.top r hr,fun r hr=>⟨(h.rows r hr).1.below l (xnL (h.rows r hr).2 hB),xnL (h.rows r hr).2 l.size⟩,xnL h.lt l.size⟩
theorem refRows_any (w:World) :
 Calls Tryz.prog 134 #[] w fun e w'=>∃ O bs,e=.returned (.slice (some ⟨O,0,none⟩) 10 10)∧(w.heap.size≤O∧(∀ r,r<10→w.heap.size≤bs r)∧SGT w' O bs)∧Below w.heap.size w w':=by
 have K:=Kr.init w
 go_enter Tryz.func134,Tryz.ntmps134
 go_upto_region 1 with fail; refine wp_region_list ?_; refine actL (w':=w.alloc (.cells (row .i64 16 (fun i=>((sg 0 i:Nat):Int))).toArray 3)) (.slice (some ⟨w.heap.size,0,none⟩) 16 16) rfl (by kernel_rfl) ?_; simp only [aP,lI,l0,lS]; have z0:=K.size; replace K:=K.box .i64 16 (fun i=>((sg 0 i:Nat):Int)) 3 w.heap.size rfl
 generalize w.alloc (.cells (row .i64 16 (fun i=>((sg 0 i:Nat):Int))).toArray 3)=w0 at K ⊢; refine actL (w':=w0.alloc (.cells (row .i64 16 (fun i=>((sg 1 i:Nat):Int))).toArray 3)) (.slice (some ⟨w0.heap.size,0,none⟩) 16 16) rfl (by kernel_rfl) ?_; simp only [aP,lI,l0,lS]; have z1:=K.size; replace K:=K.box .i64 16 (fun i=>((sg 1 i:Nat):Int)) 3 w0.heap.size rfl
 generalize w0.alloc (.cells (row .i64 16 (fun i=>((sg 1 i:Nat):Int))).toArray 3)=w1 at K ⊢; generalize w0.heap.size=B1 at K z1 ⊢; refine actL (w':=w1.alloc (.cells (row .i64 16 (fun i=>((sg 2 i:Nat):Int))).toArray 3)) (.slice (some ⟨w1.heap.size,0,none⟩) 16 16) rfl (by kernel_rfl) ?_; simp only [aP,lI,l0,lS]; have z2:=K.size
 replace K:=K.box .i64 16 (fun i=>((sg 2 i:Nat):Int)) 3 w1.heap.size rfl; generalize w1.alloc (.cells (row .i64 16 (fun i=>((sg 2 i:Nat):Int))).toArray 3)=w2 at K ⊢; generalize w1.heap.size=B2 at K z2 ⊢; refine actL (w':=w2.alloc (.cells (row .i64 16 (fun i=>((sg 3 i:Nat):Int))).toArray 3)) (.slice (some ⟨w2.heap.size,0,none⟩) 16 16) rfl (by kernel_rfl) ?_
 simp only [aP,lI,l0,lS]; have z3:=K.size; replace K:=K.box .i64 16 (fun i=>((sg 3 i:Nat):Int)) 3 w2.heap.size rfl; generalize w2.alloc (.cells (row .i64 16 (fun i=>((sg 3 i:Nat):Int))).toArray 3)=w3 at K ⊢; generalize w2.heap.size=B3 at K z3 ⊢
 refine actL (w':=w3.alloc (.cells (row .i64 16 (fun i=>((sg 4 i:Nat):Int))).toArray 3)) (.slice (some ⟨w3.heap.size,0,none⟩) 16 16) rfl (by kernel_rfl) ?_; simp only [aP,lI,l0,lS]; have z4:=K.size; replace K:=K.box .i64 16 (fun i=>((sg 4 i:Nat):Int)) 3 w3.heap.size rfl; generalize w3.alloc (.cells (row .i64 16 (fun i=>((sg 4 i:Nat):Int))).toArray 3)=w4 at K ⊢
 generalize w3.heap.size=B4 at K z4 ⊢; refine actL (w':=w4.alloc (.cells (row .i64 16 (fun i=>((sg 5 i:Nat):Int))).toArray 3)) (.slice (some ⟨w4.heap.size,0,none⟩) 16 16) rfl (by kernel_rfl) ?_; simp only [aP,lI,l0,lS]; have z5:=K.size; replace K:=K.box .i64 16 (fun i=>((sg 5 i:Nat):Int)) 3 w4.heap.size rfl
 generalize w4.alloc (.cells (row .i64 16 (fun i=>((sg 5 i:Nat):Int))).toArray 3)=w5 at K ⊢; generalize w4.heap.size=B5 at K z5 ⊢; refine actL (w':=w5.alloc (.cells (row .i64 16 (fun i=>((sg 6 i:Nat):Int))).toArray 3)) (.slice (some ⟨w5.heap.size,0,none⟩) 16 16) rfl (by kernel_rfl) ?_; simp only [aP,lI,l0,lS]; have z6:=K.size
 replace K:=K.box .i64 16 (fun i=>((sg 6 i:Nat):Int)) 3 w5.heap.size rfl; generalize w5.alloc (.cells (row .i64 16 (fun i=>((sg 6 i:Nat):Int))).toArray 3)=w6 at K ⊢; generalize w5.heap.size=B6 at K z6 ⊢; refine actL (w':=w6.alloc (.cells (row .i64 16 (fun i=>((sg 7 i:Nat):Int))).toArray 3)) (.slice (some ⟨w6.heap.size,0,none⟩) 16 16) rfl (by kernel_rfl) ?_
 simp only [aP,lI,l0,lS]; have z7:=K.size; replace K:=K.box .i64 16 (fun i=>((sg 7 i:Nat):Int)) 3 w6.heap.size rfl; generalize w6.alloc (.cells (row .i64 16 (fun i=>((sg 7 i:Nat):Int))).toArray 3)=w7 at K ⊢; generalize w6.heap.size=B7 at K z7 ⊢
 refine actL (w':=w7.alloc (.cells (row .i64 16 (fun i=>((sg 8 i:Nat):Int))).toArray 3)) (.slice (some ⟨w7.heap.size,0,none⟩) 16 16) rfl (by kernel_rfl) ?_; simp only [aP,lI,l0,lS]; have z8:=K.size; replace K:=K.box .i64 16 (fun i=>((sg 8 i:Nat):Int)) 3 w7.heap.size rfl; generalize w7.alloc (.cells (row .i64 16 (fun i=>((sg 8 i:Nat):Int))).toArray 3)=w8 at K ⊢
 generalize w7.heap.size=B8 at K z8 ⊢; refine actL (w':=w8.alloc (.cells (row .i64 16 (fun i=>((sg 9 i:Nat):Int))).toArray 3)) (.slice (some ⟨w8.heap.size,0,none⟩) 16 16) rfl (by kernel_rfl) ?_; simp only [aP,lI,l0,lS]; have z9:=K.size; replace K:=K.box .i64 16 (fun i=>((sg 9 i:Nat):Int)) 3 w8.heap.size rfl
 generalize w8.alloc (.cells (row .i64 16 (fun i=>((sg 9 i:Nat):Int))).toArray 3)=w9 at K ⊢; generalize w8.heap.size=B9 at K z9 ⊢
 refine actL (w':=w9.alloc (.cells #[.slice (some ⟨w.heap.size,0,none⟩) 16 16,.slice (some ⟨B1,0,none⟩) 16 16,.slice (some ⟨B2,0,none⟩) 16 16,.slice (some ⟨B3,0,none⟩) 16 16,.slice (some ⟨B4,0,none⟩) 16 16,.slice (some ⟨B5,0,none⟩) 16 16,.slice (some ⟨B6,0,none⟩) 16 16,.slice (some ⟨B7,0,none⟩) 16 16,.slice (some ⟨B8,0,none⟩) 16 16,.slice (some ⟨B9,0,none⟩) 16 16] 108)) (.slice (some ⟨w9.heap.size,0,none⟩) 10 10) rfl (by kernel_rfl) ?_
 simp only [aP,lI,l0,lS]; refine xpL (.slice (some ⟨w9.heap.size,0,none⟩) 10 10) ?_
 have K2:=K.call ((Below.refl w9.heap.size w9).alloc (xnR _) (.cells #[.slice (some ⟨w.heap.size,0,none⟩) 16 16,.slice (some ⟨B1,0,none⟩) 16 16,.slice (some ⟨B2,0,none⟩) 16 16,.slice (some ⟨B3,0,none⟩) 16 16,.slice (some ⟨B4,0,none⟩) 16 16,.slice (some ⟨B5,0,none⟩) 16 16,.slice (some ⟨B6,0,none⟩) 16 16,.slice (some ⟨B7,0,none⟩) 16 16,.slice (some ⟨B8,0,none⟩) 16 16,.slice (some ⟨B9,0,none⟩) 16 16] 108))
 have hc:∀ i,(w9.alloc (.cells #[.slice (some ⟨w.heap.size,0,none⟩) 16 16,.slice (some ⟨B1,0,none⟩) 16 16,.slice (some ⟨B2,0,none⟩) 16 16,.slice (some ⟨B3,0,none⟩) 16 16,.slice (some ⟨B4,0,none⟩) 16 16,.slice (some ⟨B5,0,none⟩) 16 16,.slice (some ⟨B6,0,none⟩) 16 16,.slice (some ⟨B7,0,none⟩) 16 16,.slice (some ⟨B8,0,none⟩) 16 16,.slice (some ⟨B9,0,none⟩) 16 16] 108)).cell? ⟨w9.heap.size,i,none⟩=#[.slice (some ⟨w.heap.size,0,none⟩) 16 16,.slice (some ⟨B1,0,none⟩) 16 16,.slice (some ⟨B2,0,none⟩) 16 16,.slice (some ⟨B3,0,none⟩) 16 16,.slice (some ⟨B4,0,none⟩) 16 16,.slice (some ⟨B5,0,none⟩) 16 16,.slice (some ⟨B6,0,none⟩) 16 16,.slice (some ⟨B7,0,none⟩) 16 16,.slice (some ⟨B8,0,none⟩) 16 16,.slice (some ⟨B9,0,none⟩) 16 16][i]?:=fun i=>World.cell?_alloc_at _ _ _ _ rfl
 have hz:=size_new w9 (.cells #[.slice (some ⟨w.heap.size,0,none⟩) 16 16,.slice (some ⟨B1,0,none⟩) 16 16,.slice (some ⟨B2,0,none⟩) 16 16,.slice (some ⟨B3,0,none⟩) 16 16,.slice (some ⟨B4,0,none⟩) 16 16,.slice (some ⟨B5,0,none⟩) 16 16,.slice (some ⟨B6,0,none⟩) 16 16,.slice (some ⟨B7,0,none⟩) 16 16,.slice (some ⟨B8,0,none⟩) 16 16,.slice (some ⟨B9,0,none⟩) 16 16] 108)
 generalize w9.alloc (.cells #[.slice (some ⟨w.heap.size,0,none⟩) 16 16,.slice (some ⟨B1,0,none⟩) 16 16,.slice (some ⟨B2,0,none⟩) 16 16,.slice (some ⟨B3,0,none⟩) 16 16,.slice (some ⟨B4,0,none⟩) 16 16,.slice (some ⟨B5,0,none⟩) 16 16,.slice (some ⟨B6,0,none⟩) 16 16,.slice (some ⟨B7,0,none⟩) 16 16,.slice (some ⟨B8,0,none⟩) 16 16,.slice (some ⟨B9,0,none⟩) 16 16] 108)=w10 at K2 hc hz ⊢
 have hs9:=K.size; have hb9:=K.base; clear K; show Exit.then _ _ _ _ _
 have hS:SGT w10 w9.heap.size (fun r=>[w.heap.size,B1,B2,B3,B4,B5,B6,B7,B8,B9].getD r 0):=⟨fun r hr=>by
  rw [hc]
  match r,hr with
  | 0,_ | 1,_ | 2,_ | 3,_ | 4,_ | 5,_ | 6,_ | 7,_ | 8,_ | 9,_=>rfl,fun r hr=>by
  match r,hr with
  | 0,_=>exact ⟨K2.get _ _ _ _ (mI 9 rfl),by show w.heap.size<w10.heap.size; omega⟩
  | 1,_=>exact ⟨K2.get _ _ _ _ (mI 8 rfl),by show B1<w10.heap.size; omega⟩
  | 2,_=>exact ⟨K2.get _ _ _ _ (mI 7 rfl),by show B2<w10.heap.size; omega⟩
  | 3,_=>exact ⟨K2.get _ _ _ _ (mI 6 rfl),by show B3<w10.heap.size; omega⟩
  | 4,_=>exact ⟨K2.get _ _ _ _ (mI 5 rfl),by show B4<w10.heap.size; omega⟩
  | 5,_=>exact ⟨K2.get _ _ _ _ (mI 4 rfl),by show B5<w10.heap.size; omega⟩
  | 6,_=>exact ⟨K2.get _ _ _ _ (mI 3 rfl),by show B6<w10.heap.size; omega⟩
  | 7,_=>exact ⟨K2.get _ _ _ _ (mI 2 rfl),by show B7<w10.heap.size; omega⟩
  | 8,_=>exact ⟨K2.get _ _ _ _ (mT _ mS),by show B8<w10.heap.size; omega⟩
  | 9,_=>exact ⟨K2.get _ _ _ _ mS,by show B9<w10.heap.size; omega⟩,by omega⟩
 have hB:=K2.below
 have hge:∀ r,r<10→w.heap.size≤[w.heap.size,B1,B2,B3,B4,B5,B6,B7,B8,B9].getD r 0:=fun r hr=>by
  match r,hr with
  | 0,_=>show w.heap.size≤w.heap.size; omega
  | 1,_=>show w.heap.size≤B1; omega
  | 2,_=>show w.heap.size≤B2; omega
  | 3,_=>show w.heap.size≤B3; omega
  | 4,_=>show w.heap.size≤B4; omega
  | 5,_=>show w.heap.size≤B5; omega
  | 6,_=>show w.heap.size≤B6; omega
  | 7,_=>show w.heap.size≤B7; omega
  | 8,_=>show w.heap.size≤B8; omega
  | 9,_=>show w.heap.size≤B9; omega
 clear K2 hc; go_wp2; go_ret
 exact ⟨w9.heap.size,_,rfl,⟨by omega,hge,hS⟩,hB⟩
theorem one32:One Tryz.prog 122 .u32 4:=⟨by kernel_rfl⟩
theorem idxW (b len cap i:Nat) (hi:i<len) (w:World) {o:Oper} {a:Act} (x y:Operand) (ho:o.op=.indexAddr 133 x y) (hx:a.eval x=.slice (some ⟨b,0,none⟩) len cap) (hy:a.eval y=.int .i64 (i:Int)) :
 (execOp a.eval o).run Tryz.prog w=.ok (.value (.pointer (some ⟨b,i,none⟩))) w:=by
 have h:=idxSl (P:=Tryz.prog) 133 122 len cap .i64 ⟨b,0,none⟩ i x y Tryz.underlying133 (fun _=>by kernel_rfl) hi ho hx hy w
 rw [Addr.add_mid,Nat.zero_add] at h
 exact h
end Go.Proofs.YtklnibmfpcmeeaaGreatDoor
