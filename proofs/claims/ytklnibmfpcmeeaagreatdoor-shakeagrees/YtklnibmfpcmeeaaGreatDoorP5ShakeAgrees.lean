/- Texts of Hf Mk Hg Er Sc Lw Ij Om Ba, joined. -/
import Derived.Test.YtklnibmfpcmeeaaGreatDoorP4ShakeAgrees
set_option maxRecDepth 20000
set_option maxHeartbeats 64000000
namespace Go.Proofs.YtklnibmfpcmeeaaGreatDoor
open Go.RowKit
theorem hcut_64 (b k:Nat) (hk:k<16) (w:World):(Instr.sliceAt 136 (.pointer (some ⟨b,0,none⟩)) (some (.int .i64 (4*(k:Int)))) none none).run Tryz.prog w=.ok (.slice (some ⟨b,4*k,none⟩) (64-4*k) (64-4*k)) w:=by
 have hl:Tryz.prog.arrayLen 136=64:=by kernel_rfl
 have hs:∀ w,(sizeOf (Tryz.prog.elem 136)).run Tryz.prog w=.ok 1 w:=fun w=>by kernel_rfl
 rw [run_sliceAt_array_l w 136 ⟨b,0,none⟩ (by kernel_rfl) .i64 _ (by omega) (by rw [hl]; omega),hs,hl]
 simp only [Result.andThen,slicedAt]
 have e1:(4*(k:Int)).toNat=4*k:=by omega
 rw [e1,if_neg (by omega),Addr.add_mid,Nat.zero_add,Nat.mul_one]
def HO (k:Nat→Int) (c:Int) (n:Nat→Int) (O i:Nat) (g:Nat→Int) (w':World):Prop:=Has w' O .u8 64 g∧∀ j,j<4*i→g j=hblk k c n j
theorem over_hblk {k:Nat→Int} {c:Int} {n:Nat→Int} {i:Nat} {g:Nat→Int} (h:∀ j,j<4*i→g j=hblk k c n j) (j:Nat) (hj:j<4*(i+1)):over g (4*i) 4 (b32 (hwd k c n i)) j=hblk k c n j:=by
 unfold over
 by_cases e:4*i≤j∧j<4*i+4
 · rw [if_pos e]
   unfold hblk
   rw [show j/4=i by omega,show j%4=j-4*i by omega]
 · rw [if_neg e]; exact h j (by omega)
theorem hblock_any (k:Nat→Int) (c:Int) (n:Nat→Int) (hk:In 256 32 k) (hn:In 256 12 n) (w:World) (hg:HGlob w) :
 Calls Tryz.prog 124 #[(.agg (row .u8 32 (k)).toArray),.int .u32 c,(.agg (row .u8 12 (n)).toArray)] w fun e w'=>e=.returned (.agg (row .u8 64 (hblk k c n)).toArray)∧Below w.heap.size w w':=by
 have K:=Kr.init w; replace K:=K.box .u8 32 k 23 w.heap.size rfl; replace K:=K.box .u8 12 n 100 (w.heap.size+1) (by simp); replace K:=K.make 64 zu8_64 136 (w.heap.size+1+1) (by simp) (hb_zero _ _ _ (by simp)).there
 go_enter Tryz.func124,Tryz.ntmps124
 go_upto_region 1 with fail; generalize (((w.alloc (.cells (row .u8 32 k).toArray 23)).alloc (.cells (row .u8 12 n).toArray 100)).alloc (.cells zu8_64 136))=w0 at K ⊢; refine wp_region_list ?_; refine rowKL .u8 32 k w.heap.size 0 23 _ _ rfl rfl rfl Tryz.underlying23 rfl (key_info _) (K.get _ _ _ _ (mT _ mS)).range ?_; simp only [aP,lI,l0,lS]; refine xpL (.int .u32 c) ?_
 refine rowKL .u8 12 n (w.heap.size+1) 0 100 _ _ rfl rfl rfl Tryz.underlying100 rfl (hn_info _) (K.get _ _ _ _ mS).range ?_; simp only [aP,lI,l0,lS]; refine xcL (hbegin_any k c n hk hn _ (hg.below K.below hg.size)) ?_; rintro e w1 ⟨rfl,l⟩; replace K:=K.call l; clear l; refine xeL ?_; refine allocL zu32_16 170 rfl (fun _=>by kernel_rfl) ?_; simp only [aP,lI,l0,lS]
 refine storesL .u32 16 (hst k c n) w1.heap.size 170 _ _ rfl rfl rfl rfl (room_of (hs_zero _ _ _ rfl).there) (hs_info' _) ?_; simp only [Act.put]; have z1:=K.size; replace K:=K.fresh .u32 16 (hst k c n) zu32_16 170 (hs_zero _ _ _ rfl).there; generalize ((w1.alloc (.cells zu32_16 170)).setCells w1.heap.size 0 (row .u32 16 (hst k c n)))=w2 at K ⊢; generalize w1.heap.size=B at *; clear w1 w0
 show Exit.then _ _ _ _ _; go_upto_region 2 with fail; refine wp_region_list ?_; refine rowKL .u32 16 (hst k c n) B 0 170 _ _ rfl rfl rfl Tryz.underlying170 rfl (hs_info _) (K.get _ _ _ _ mS).range ?_; simp only [aP,lI,l0,lS]; refine allocL zu32_16 170 rfl (fun _=>by kernel_rfl) ?_; simp only [aP,lI,l0,lS]
 refine storesL .u32 16 (hst k c n) w2.heap.size 170 _ _ rfl rfl rfl rfl (room_of (hs_zero _ _ _ rfl).there) (hs_info' _) ?_; simp only [Act.put]; have z2:=K.size; replace K:=K.fresh .u32 16 (hst k c n) zu32_16 170 (hs_zero _ _ _ rfl).there; generalize ((w2.alloc (.cells zu32_16 170)).setCells w2.heap.size 0 (row .u32 16 (hst k c n)))=w3 at K ⊢; generalize w2.heap.size=S at *; clear w2
 show Exit.then _ _ _ _ _
 replace K:=K.sub [(S,.u32,16,hst k c n),(B,.u32,16,hst k c n)] (fun p hp=>by
  rcases xc1 hp with rfl | hp
  · exact mS
  · rcases xc1 hp with rfl | hp
    · exact mT _ mS
    · cases hp)
 go_wp2
 go_loopw [16] (fun i w'=>∃ t:Nat,t≤10∧i=.int .i64 t∧Kr w (S+1) [(S,.u32,16,drN (hst k c n) t),(B,.u32,16,hst k c n)] [(w.heap.size+1+1,64)] w') (fun i _=>10-(intOf i).toNat)
 case atStart=>exact ⟨0,by omega,rfl,K⟩
 case round =>
  clear K
  obtain ⟨t,ht,rfl,K⟩:=hrel
  have g1:(0:Int)≤(t:Int):=by omega
  by_cases hlt:t<10
  · have g2:(t:Int)<10:=by omega
    go_upto_region 5 with fail; refine wp_region_list ?_; refine rowKL .u32 16 (drN (hst k c n) t) S 0 170 _ _ rfl rfl rfl Tryz.underlying170 rfl (hs_info _) (K.get _ _ _ _ mS).range ?_; simp only [aP,lI,l0,lS]; refine xcL (hdouble_any (drN (hst k c n) t) _ (hg.below K.below hg.size)) ?_; rintro e w4 ⟨rfl,l⟩; replace K:=K.call l; clear l; refine xeL ?_
    refine storesL .u32 16 (htN (drN (hst k c n) t) 8) S 170 _ _ rfl rfl rfl rfl (hs_there (K.get _ _ _ _ mS)) (hs_info' _) ?_; simp only [Act.put]; have HS:=show Hid _ from K.set [(B,.u32,16,hst k c n)] S .u32 16 (drN (hst k c n) t) (drN (hst k c n) (t+1)) mS (fun p hp=>mT _ hp) (fun p hp=>by obtain rfl:=xm1 hp; simp only; omega) (by have:=K.base; omega); clear K
    show Exit.inBlock _ _ _ _ _
    go_wp2
    go_roundw
    case rel=>exact ⟨t+1,by omega,by go_num,HS.out⟩
    case measure=>simp [intOf]; omega
  · obtain rfl:t=10:=by omega
    clear ht hlt g1; go_upto_region 8 with fail; have z3:=K.size; have H:=hb_zero wr 136 wr.heap.size rfl; replace K:=K.make 64 zu8_64 136 wr.heap.size rfl H.there; generalize wr.alloc (.cells zu8_64 136)=w5 at K H ⊢; generalize wr.heap.size=O at *
    have H0:HO k c n O 0 (fun _=>0) w5:=⟨H,fun j hj=>by omega⟩
    clear H; go_wp2
    go_loopw [21] (fun i w'=>∃ (i':Nat) (g:Nat→Int),i'≤16∧i=.int .i64 i'∧Kr w (O+1) [(S,.u32,16,drN (hst k c n) 10),(B,.u32,16,hst k c n)] [(O,64),(w.heap.size+1+1,64)] w'∧HO k c n O i' g w') (fun i _=>16-(intOf i).toNat)
    case atStart=>exact ⟨0,_,by omega,rfl,K,H0⟩
    case round =>
     clear K H0
     obtain ⟨i,g,hi,rfl,K,H,hd⟩:=hrel
     have g1:(0:Int)≤(i:Int):=by omega
     by_cases hlt:i<16
     · have g2:(i:Int)<16:=by omega
       have HD:=show Hid _ from fun j hj=>over_hblk hd j hj; clear hd; go_upto_region 11 with fail; refine wp_region_held_drew (S:=fun w'=>Kr w (O+1) [(S,.u32,16,drN (hst k c n) 10),(B,.u32,16,hst k c n)] [(O,64),(w.heap.size+1+1,64)] w') (by kernel_rfl) K.drew ?_; clear K; intro K; replace H:=H.drew; refine xpH 0 24 (.int .i64 (i:Int)) K ?_
       refine xqH 1 25 rfl (.int .i64 (4*(i:Int))) (fun w=>mulI .i64 4 (i:Int) _ _ _ _ _ rfl rfl rfl (by rw [xw6]; omega) w) K ?_; refine xqH 2 26 rfl (.slice (some ⟨O,4*i,none⟩) (64-4*i) (64-4*i)) (fun w=>cutOp _ _ _ _ _ _ rfl rfl rfl (hcut_64 O i hlt w)) K ?_; refine xpH 3 27 (.int .i64 (i:Int)) K ?_
       refine xqH 4 28 rfl (.pointer (some ⟨S,i,none⟩)) (fun w=>idx16 S i hlt w _ _ rfl rfl rfl) K ?_; refine cellH (i:=5) (some 29) rfl .u32 (.int .u32 (drN (hst k c n) 10 i)) S i 122 _ rfl rfl rfl rfl (by kernel_rfl) (by kernel_rfl) (by kernel_rfl) (fun _ _ _ h=>h) Tryz.underlying122 K (fun _ h=>(h.get _ _ _ _ mS).cell i hlt) ?_; simp only [aP,lI,l0,lS]
       refine xpH 6 30 (.int .i64 (i:Int)) K ?_; refine xqH 7 31 rfl (.pointer (some ⟨B,i,none⟩)) (fun w=>idx16 B i hlt w _ _ rfl rfl rfl) K ?_; refine cellH (i:=8) (some 32) rfl .u32 (.int .u32 (hst k c n i)) B i 122 _ rfl rfl rfl rfl (by kernel_rfl) (by kernel_rfl) (by kernel_rfl) (fun _ _ _ h=>h) Tryz.underlying122 K (fun _ h=>(h.get _ _ _ _ (mT _ mS)).cell i hlt) ?_
       simp only [aP,lI,l0,lS]; refine xqH 9 33 rfl (.int .u32 (hwd k c n i)) (fun w=>addI .u32 (drN (hst k c n) 10 i) (hst k c n i) _ _ _ _ _ rfl rfl rfl (by rw [IntKind.wrap_u32']; rfl) w) K ?_; refine callH (i:=10) (some 34) rfl (by kernel_rfl) rfl rfl (fun _=>by kernel_rfl) (put32_any O (4*i) 64 (64-4*i) (64-4*i) (by omega) g (hwd k c n i) (by omega) _ H) ?_
       rintro e w' ⟨rfl,rfl⟩; replace K:=K.poke O 64 mS (4*i) (row .u8 4 (b32 (hwd k c n i))); replace H:=H.part (4*i) 4 (by omega) (b32 (hwd k c n i))
       refine ⟨_,rfl,K,?_⟩
       simp only [aP,lI,l0,lS]
       refine wpAnyH_done (by kernel_rfl) ?_ _
       have HS:=show Hid _ from (And.intro K (show HO k c n O (i+1) _ _ from ⟨H,HD.out⟩)); clear K H HD; generalize (wr.drew.setCells O (4*i) (row .u8 4 (b32 (hwd k c n i))))=w6 at *; go_wp2
       go_roundw
       case rel=>first | exact ⟨i+1,_,by omega,by go_num,HS.out⟩ | ((repeat apply Exists.intro); refine ⟨⟨i+1,_,by omega,?_,HS.out⟩,rfl⟩ <;> first | rfl | go_num)
       case measure=>simp [intOf]; omega
     · obtain rfl:i=16:=by omega
       have h1:=H.congr (g:=hblk k c n) (fun j hj=>hd j (by omega)); have hz:=(K.room _ (mT _ mS)).1; have hB:=(K.fill _ _ (mT _ mS) (row .u8 64 (hblk k c n))).below; clear K H hd hlt hi g1; generalize hf:hblk k c n=f at *
       go_wp2_with (first | (refine wpList_load_mid rfl 136 _ rfl (O) 0 rfl (row .u8 64 (f)) _ (Has.range (h1)) Tryz.underlying136 rfl (hb_info _) ?_) | (refine wpList_store_mid rfl 136 _ _ rfl (w.heap.size+1+1) 0 (row .u8 64 f).toArray rfl rfl (room_of hz) (hb_info' _) (all_oneCell_toArray (row_one _ _ _)) ?_))
       exact bodyPost_ret (v:=(.agg (row .u8 64 (f)).toArray)) (results_row Tryz.results124 rfl (Has.all hz .u8 _).range Tryz.underlying136 rfl (hb_info _)) rfl ⟨by first | rfl | rw [hf],hB⟩
theorem made8 (n:Nat) (hn:n≤281474976710656) (w:World):(Instr.makeSlice 32 (.int .i64 (n:Int)) (.int .i64 (n:Int))).run Tryz.prog w=.ok (.slice (some ⟨w.heap.size,0,none⟩) n n) (w.alloc (.cells (row .u8 n (fun _=>0)).toArray 5)):=by
 have h0:(Tryz.prog.info? 5).map (fun i=>(i.zero,i.bytes,i.size))=some (some (.int .u8 0),1,1):=by kernel_rfl
 obtain ⟨i,hi,he⟩:=Option.map_eq_some_iff.1 h0
 simp only [Prod.mk.injEq] at he
 obtain ⟨h1,h2,h3⟩:=he
 rw [run_make w 32 5 i _ Tryz.underlying32 hi h1 .i64 .i64 n n (by omega) (by omega) (by rw [h2]; omega) (by omega),h3]
 simp only [Int.toNat_natCast,Nat.mul_one]
 have e:madeCells (Value.int .u8 0).cells n=(row .u8 n (fun _=>0)).toArray:=by
  refine Array.toList_inj.1 ?_
  unfold madeCells row
  simp [Value.cells,Nat.mod_one]
 rw [e]
theorem makeOp {P:Program} {o:Oper} {a:Act} {w w':World} (t:TypeId) (x y:Operand) (p q v:Value) (ho:o.op=.makeSlice t x y) (hx:a.eval x=p) (hy:a.eval y=q) (hr:(Instr.makeSlice t p q).run P w=.ok v w') :
 (execOp a.eval o).run P w=.ok (.value v) w':=by
 unfold execOp
 simp only [ho,hx,hy,Sem.run_bind,hr,Result.andThen_ok,Sem.run_pure]
theorem one8:One Tryz.prog 5 .u8 1:=⟨by kernel_rfl⟩
theorem idxO (b len cap i:Nat) (hi:i<len) (w:World) {o:Oper} {a:Act} (x y:Operand) (ho:o.op=.indexAddr 32 x y) (hx:a.eval x=.slice (some ⟨b,0,none⟩) len cap) (hy:a.eval y=.int .i64 (i:Int)) :
 (execOp a.eval o).run Tryz.prog w=.ok (.value (.pointer (some ⟨b,i,none⟩))) w:=by
 have h:=idxSl (P:=Tryz.prog) 32 5 len cap .i64 ⟨b,0,none⟩ i x y Tryz.underlying32 (fun _=>by kernel_rfl) hi ho hx hy w
 rw [Addr.add_mid,Nat.zero_add] at h
 exact h
theorem idx64 (b i:Nat) (hi:i<64) (w:World) {o:Oper} {a:Act} (x y:Operand) (ho:o.op=.indexAddr 136 x y) (hx:a.eval x=.pointer (some ⟨b,0,none⟩)) (hy:a.eval y=.int .i64 (i:Int)) :
 (execOp a.eval o).run Tryz.prog w=.ok (.value (.pointer (some ⟨b,i,none⟩))) w:=by
 have h:=idxArr (P:=Tryz.prog) 136 5 64 .i64 b 0 i x y Tryz.underlying136 (fun _=>by kernel_rfl) hi ho hx hy w
 rw [Nat.zero_add] at h
 exact h
def HX (k:Nat→Int) (c:Int) (n:Nat→Int) (z:Nat→Int) (O len m:Nat) (g:Nat→Int) (w':World):Prop:=Has w' O .u8 len g∧∀ j,j<m→g j=hxor k c n z j
theorem hxor_any (k:Nat→Int) (c:Int) (n:Nat→Int) (hk:In 256 32 k) (hn:In 256 12 n) (hc:0≤c∧c<V) (sp:Option Addr) (len cap:Nat) (hlen:len≤140737488355328) (z:Nat→Int) (w:World) (hg:HGlob w) (hs:Src w sp len z) :
 Calls Tryz.prog 102 #[(.agg (row .u8 32 (k)).toArray),.int .u32 c,(.agg (row .u8 12 (n)).toArray),.slice sp len cap] w fun e w'=>∃ B,e=.returned (.slice (some ⟨B,0,none⟩) len len)∧(w.heap.size≤B∧B<w'.heap.size∧Has w' B .u8 len (hxor k c n z))∧Below w.heap.size w w':=by
 have K:=Kr.init w; replace K:=K.box .u8 32 k 23 w.heap.size rfl; replace K:=K.box .u8 12 n 100 (w.heap.size+1) (by simp)
 go_enter Tryz.func102,Tryz.ntmps102
 go_upto_region 1 with fail; generalize ((w.alloc (.cells (row .u8 32 k).toArray 23)).alloc (.cells (row .u8 12 n).toArray 100))=w0 at K ⊢; refine wp_region_list ?_; refine xpL (.slice sp len cap) ?_; refine xqL (.int .i64 (len:Int)) (fun w=>lenS _ 32 5 sp len cap rfl Tryz.underlying32 rfl w) ?_
 refine xaL (.slice (some ⟨w0.heap.size,0,none⟩) len len) (makeOp _ _ _ _ _ _ rfl rfl rfl (made8 len (by omega) w0)) ?_; refine xpL (.slice (some ⟨w0.heap.size,0,none⟩) len len) ?_; have z0:=K.size; have H:=Has.new w0 .u8 len (fun _=>0) 5 w0.heap.size rfl; replace K:=K.make len _ 5 w0.heap.size rfl H.there
 have HI:=show HX k c n z w0.heap.size len 0 (fun _=>0) _ from ⟨H,fun j hj=>by omega⟩; clear H; generalize (w0.alloc (.cells (row .u8 len (fun _=>0)).toArray 5))=w1 at K HI ⊢; generalize w0.heap.size=O at *; show Exit.then _ _ _ _ _; go_wp2
 go_loopw [1,10] (fun cv i w'=>∃ (t:Nat) (g:Nat→Int),64*t<len+64∧i=.int .i64 (64*(t:Int))∧cv=.int .u32 ((c+(t:Int))%4294967296)∧Kr w (O+1) [(w.heap.size+1,.u8,12,n),(w.heap.size,.u8,32,k)] [(O,len)] w'∧HX k c n z O len (min (64*t) len) g w') (fun _ i _=>len+64-(intOf i).toNat)
 case atStart=>exact ⟨0,_,by omega,rfl,by rw [show (c+((0:Nat):Int))%4294967296=c by simp only [V] at hc; omega],K,by rw [show min (64*0) len=0 by omega]; exact HI⟩
 case round =>
  clear K HI
  obtain ⟨t,g,ht,rfl,rfl,K,H,hd⟩:=hrel
  obtain ⟨C,hC⟩:∃ C,(c+(t:Int))%4294967296=C:=⟨_,rfl⟩
  rw [hC]
  have g1:(0:Int)≤64*(t:Int):=by omega
  by_cases hlt:64*t<len
  · have g2:64*(t:Int)<(len:Int):=by omega
    have HCn:=show Hid _ from hC; clear hC; go_upto_region 5 with fail; refine wp_region_list ?_; refine rowKL .u8 32 k w.heap.size 0 23 _ _ rfl rfl rfl Tryz.underlying23 rfl (key_info _) (K.get _ _ _ _ (mT _ mS)).range ?_; simp only [aP,lI,l0,lS]; refine xpL (.int .u32 C) ?_
    refine rowKL .u8 12 n (w.heap.size+1) 0 100 _ _ rfl rfl rfl Tryz.underlying100 rfl (hn_info _) (K.get _ _ _ _ mS).range ?_; simp only [aP,lI,l0,lS]; refine xcL (hblock_any k C n hk hn _ (hg.below K.below hg.size)) ?_; rintro e w2 ⟨rfl,l⟩; have hO:=(K.room (O,len) mS).2.1; have hsz:=K.size; replace H:=H.below l (by omega); replace K:=K.call l; clear l; refine xeL ?_
    refine allocL zu8_64 136 rfl (fun _=>by kernel_rfl) ?_; simp only [aP,lI,l0,lS]; refine storesL .u8 64 (hblk k C n) w2.heap.size 136 _ _ rfl rfl rfl rfl (room_of (hb_zero _ _ _ rfl).there) (hb_info' _) ?_; simp only [Act.put]; have z2:=K.size; replace H:=(H.alloc (.cells zu8_64 136) (by omega)).setAll_other w2.heap.size (by omega) 0 (row .u8 64 (hblk k C n))
    replace K:=K.fresh .u8 64 (hblk k C n) zu8_64 136 (hb_zero _ _ _ rfl).there; generalize ((w2.alloc (.cells zu8_64 136)).setCells w2.heap.size 0 (row .u8 64 (hblk k C n)))=w3 at K H ⊢; generalize w2.heap.size=D at *; clear w2 hsz; have HX0:=show HX k c n z O len (64*t) g w3 from ⟨H,fun j hj=>hd j (by omega)⟩; clear H hd; show Exit.then _ _ _ _ _; go_wp2
    go_loopw [12] (fun i w'=>∃ (i':Nat) (g:Nat→Int),64*t≤i'∧i'≤min (64*t+64) len∧i=.int .i64 (i':Int)∧Kr w (D+1) [(D,.u8,64,hblk k C n),(w.heap.size+1,.u8,12,n),(w.heap.size,.u8,32,k)] [(O,len)] w'∧HX k c n z O len i' g w') (fun i _=>len+64-(intOf i).toNat)
    case atStart=>exact ⟨64*t,g,by omega,by omega,by go_num,K,HX0⟩
    case round =>
     clear K HX0
     obtain ⟨i,g,hi0,hi1,rfl,K,H,hd⟩:=hrel
     have g3:(0:Int)≤(i:Int):=by omega
     obtain ⟨M,hM⟩:∃ M:Nat,M=min (64*t+64) len:=⟨_,rfl⟩
     have hm:(if (len:Int)<64*(t:Int)+64 then (len:Int) else 64*(t:Int)+64)=(M:Int):=by rw [hM]; split <;> omega
     go_upto_region 7 with fail; refine wp_region_list ?_; refine xpL (.int .i64 (i:Int)) ?_; refine xpL (.int .i64 (64*(t:Int))) ?_; refine xqL (.int .i64 (64*(t:Int)+64)) (fun w=>addI .i64 (64*(t:Int)) 64 _ _ _ _ _ rfl rfl rfl (by rw [xw6]; omega) w) ?_; refine xpL (.slice sp len cap) ?_
     refine xqL (.int .i64 (len:Int)) (fun w=>lenS _ 32 5 sp len cap rfl Tryz.underlying32 rfl w) ?_; refine xqL (.int .i64 (M:Int)) (fun w=>minI .i64 .i64 _ _ _ _ _ _ _ rfl rfl rfl hm w) ?_; refine xqL (.bool (decide ((i:Int)<(M:Int)))) (fun w=>lssI .i64 _ _ _ _ _ _ rfl rfl rfl _ rfl w) ?_; show Exit.then _ _ _ _ _
     by_cases hlt2:i<M
     · have e2:decide ((i:Int)<(M:Int))=true:=by simp; omega
       rw [e2]
       have hil:i<len:=by omega
       have hit:i-64*t<64:=by omega
       obtain ⟨ad,rfl,ca⟩:=hs i hil
       go_upto_region 9 with fail
       have hv:bits .xor .u8 (z i) (hblk k C n (i-64*t))=hxor k c n z i:=by
        unfold hxor
        rw [show i/64=t by omega,show i%64=i-64*t by omega,HCn.out]
       have H2:=show Hid _ from hd; clear hd; refine wp_region_held_drew (S:=fun w'=>Kr w (D+1) [(D,.u8,64,hblk k C n),(w.heap.size+1,.u8,12,n),(w.heap.size,.u8,32,k)] [(O,len)] w') (by kernel_rfl) K.drew ?_; clear K; intro K; replace H:=H.drew; refine xpH 0 36 (.slice (some ⟨O,0,none⟩) len len) K ?_; refine xpH 1 37 (.int .i64 (i:Int)) K ?_
       refine xpH 2 38 (.slice (some ad) len cap) K ?_; refine xpH 3 39 (.int .i64 (i:Int)) K ?_; refine xqH 4 40 rfl (.pointer (some (ad.add i))) (fun w=>idxSl 32 5 len cap .i64 ad i _ _ Tryz.underlying32 (fun _=>by kernel_rfl) hil rfl rfl rfl w) K ?_
       refine cellPH (i:=5) (some 41) rfl .u8 (.int .u8 (z i)) (ad.add i) 5 _ rfl rfl rfl rfl (by kernel_rfl) (by kernel_rfl) (by kernel_rfl) (fun _ _ _ h=>h) Tryz.underlying5 K (fun w' h=>by rw [h.below.cell (World.block_lt_of_cell? w _ ca)]; exact ca) ?_
       simp only [aP,lI,l0,lS]; refine xpH 6 42 (.int .i64 (i:Int)) K ?_; refine xpH 7 43 (.int .i64 (64*(t:Int))) K ?_; refine xqH 8 44 rfl (.int .i64 ((i-64*t:Nat):Int)) (fun w=>subI .i64 (i:Int) (64*(t:Int)) _ _ _ _ _ rfl rfl rfl (by rw [xw6]; omega) w) K ?_
       refine xqH 9 45 rfl (.pointer (some ⟨D,i-64*t,none⟩)) (fun w=>idx64 D (i-64*t) hit w _ _ rfl rfl rfl) K ?_; refine cellH (i:=10) (some 46) rfl .u8 (.int .u8 (hblk k C n (i-64*t))) D (i-64*t) 5 _ rfl rfl rfl rfl (by kernel_rfl) (by kernel_rfl) (by kernel_rfl) (fun _ _ _ h=>h) Tryz.underlying5 K (fun _ h=>(h.get _ _ _ _ mS).cell (i-64*t) hit) ?_
       simp only [aP,lI,l0,lS]; refine xqH 11 47 rfl (.int .u8 (hxor k c n z i)) (fun w=>xorI .u8 _ _ _ _ _ _ _ rfl rfl rfl hv w) K ?_; refine xqH 12 48 rfl (.pointer (some ⟨O,i,none⟩)) (fun w=>idxO O len len i hil w _ _ rfl rfl rfl) K ?_
       refine storeH (i:=13) none rfl .u8 (hxor k c n z i) O i 5 _ _ (by kernel_rfl) rfl rfl rfl rfl rfl (by rw [H.cell i hil]; rfl) (H.free i hil) (by kernel_rfl) (K.poke O len mS i [.int .u8 (hxor k c n z i)]) ?_; replace K:=K.poke O len mS i [.int .u8 (hxor k c n z i)]; replace H:=H.set i hil (hxor k c n z i); simp only [Act.put]
       refine wpAnyH_done (by kernel_rfl) ?_ _
       have HS:=show Hid _ from (And.intro K (show HX k c n z O len (i+1) _ _ from ⟨H,fun j hj=>by
        by_cases e:j=i
        · subst e; rw [upd_same]
        · rw [upd_other _ _ _ _ e]; exact H2.out j (by omega)⟩))
       clear K H H2 hv ca hs e2; go_wp2
       go_roundw
       case rel=>first | exact ⟨i+1,_,by omega,by omega,by go_num,HS.out⟩ | ((repeat apply Exists.intro); refine ⟨⟨i+1,_,by omega,by omega,?_,HS.out⟩,rfl⟩ <;> first | rfl | go_num)
       case measure=>simp [intOf]; omega
     · have e2:decide ((i:Int)<(M:Int))=false:=by simp; omega
       rw [e2]
       obtain rfl:i=M:=by omega
       have K0:=K.back [(w.heap.size+1,.u8,12,n),(w.heap.size,.u8,32,k)] (O+1) (fun p hp=>mT _ hp) (fun p hp=>by
        rcases xc1 hp with rfl | hp
        · simp only; omega
        · obtain rfl:=xm1 hp; simp only; omega) (fun q hq=>by obtain rfl:=xm1 hq; simp only; omega) (by omega) (by omega)
       have HS:=show Hid _ from (And.intro K0 (show HX k c n z O len (min (64*(t+1)) len) g wr from ⟨H,fun j hj=>hd j (by omega)⟩)); have HC2:=show Hid _ from (show (C+1)%4294967296=(c+((t+1:Nat):Int))%4294967296 by rw [← HCn.out]; omega); clear K K0 H hd HCn hs hlt2 hM hm; go_wp2
       go_roundw
       case rel=>first | exact ⟨t+1,g,by omega,by go_num,by rw [HC2.out],HS.out⟩ | ((repeat apply Exists.intro); refine ⟨⟨t+1,g,by omega,?_,?_,HS.out⟩,rfl⟩ <;> first | rfl | go_num | rw [HC2.out])
       case measure=>simp [intOf]; omega
  · obtain ⟨e1,hall⟩:min (64*t) len=len∧len≤64*t:=by omega
    rw [e1] at hd
    have HS:=show Hid _ from (H.congr (g:=hxor k c n z) (fun j hj=>hd j hj)); have hlo:=(K.room (O,len) mS).2; have hsz:=K.size; have hbl:=K.below
    have g2:¬ 64*(t:Int)<(len:Int):=by omega
    clear K H hd hlt hC; go_wp2; go_ret
    exact ⟨O,rfl,⟨hlo.2,by omega,HS.out⟩,hbl⟩
theorem run_equalIn_row {P:Program} (w:World) (d:Nat) (t e:TypeId) (n:Nat) (k:IntKind) (ht:P.underlying t=some (.array n e)) (he:P.underlying e=some (.int k)) (hsz:∀ w,(sizeOf e).run P w=.ok 1 w) (f:Nat→Int) :
 (Op.equalIn (d+2) t (.agg (row k n f).toArray) (.agg (row k n f).toArray)).run P w=.ok true w:=by
 rw [Op.equalIn]
 simp only [Sem.run_bind,run_underlying ht,Result.andThen_ok,hsz,Std.Legacy.Range.forIn_eq_forIn_range',Std.Legacy.Range.size,Nat.sub_zero,Nat.add_sub_cancel,Nat.div_one]
 have hl:∀ i∈List.range' 0 n 1,i<n:=fun i hi=>by simpa using (List.mem_range'_1.1 hi).2
 generalize List.range' 0 n 1=l at hl ⊢
 induction l with
 | nil=>simp
 | cons i l ih =>
   have hi:i<n:=hl i (by simp)
   have px:(part e (row k n f).toArray (i*1)).run P w=.ok (.int k (f i)) w:=by
    simp [part,isAgg,run_underlying he,row_get k n f i hi]
   have pe:(Op.equalIn (d+1) e (.int k (f i)) (.int k (f i))).run P w=.ok true w:=by
    rw [run_equalIn_int w d e k k _ _ he,beq_self_eq_true]
   simp only [List.forIn_cons,Sem.run_bind,px,pe,Result.andThen_ok,Bool.not_true,Bool.false_eq_true,if_false,Sem.run_pure]
   exact ih fun j hj=>hl j (by simp [hj])
theorem eqlRow {P:Program} {o:Oper} {a:Act} (n:Nat) (k:IntKind) (f g:Nat→Int) (t e t':TypeId) (x y:Operand) (ho:o.op=.binOp .eql t x y t') (hx:a.eval x=.agg (row k n f).toArray) (hy:a.eval y=.agg (row k n g).toArray)
 (ht:P.underlying t=some (.array n e)) (he:P.underlying e=some (.int k)) (hsz:∀ w,(sizeOf e).run P w=.ok 1 w) (hm:P.eqGuardType P.depth t=false) (h:∀ j,j<n→f j=g j) (w:World) :
 (execOp a.eval o).run P w=.ok (.value (.bool true)) w:=by
 rw [← row_congr k n h] at hy
 have e1:(binOp .eql t (.agg (row k n f).toArray) (.agg (row k n f).toArray)).run P w=.ok (.bool true) w:=by
  rw [run_eql_struct,run_equalIn_row w 9998 t e n k ht he hsz f]
  rfl
 unfold execOp
 simp only [ho,hx,hy,Sem.run_bind,run_eqGuard_agg w .eql t x y _ _ hm,Result.andThen_ok,e1,Sem.run_pure]
section
theorem Src.none {w:World} {sp:Option Addr} {len:Nat} {z:Nat→Int} (h:Src w sp len z):sp=none→len=0:=fun e=>by
 rcases Nat.eq_zero_or_pos len with h0 | h0
 · exact h0
 · obtain ⟨ad,he,_⟩:=h 0 h0
   rw [e] at he
   cases he
section
variable {P:Program} {o:Oper} {a:Act}
theorem cut_hi {t:TypeId} (ht:P.underlying t=some (.slice (P.elem t))) (hsz:∀ w,(sizeOf (P.elem t)).run P w=.ok 1 w) (sp:Option Addr) (len cap m:Nat) (hm:m≤len) (hc:len≤cap) :
 ∃ sp',(∀ w,(Instr.sliceAt t (.slice sp len cap) none (some (.int .i64 (m:Int))) none).run P w=.ok (.slice sp' m cap) w)∧∀ w z,Src w sp len z→Src w sp' m z:=by
 refine ⟨if cap=0 then sp else sp.map (·.add (0*1)),fun w=>?_,fun w z h j hj=>?_⟩
 · rw [run_sliceAt_slice w t _ _ _ _ ht,run_slice_h w t sp len cap ht .i64 (m:Int) (by omega) (by omega),hsz]
   simp only [Result.andThen,sliced,Int.toNat_natCast,Nat.sub_zero]
 · obtain ⟨ad,rfl,hc'⟩:=h j (by omega)
   rw [if_neg (by omega)]
   exact ⟨ad.add (0*1),rfl,by rw [Nat.zero_mul,Addr.add_add,Nat.zero_add]; exact hc'⟩
theorem cut_lo {t:TypeId} (ht:P.underlying t=some (.slice (P.elem t))) (hsz:∀ w,(sizeOf (P.elem t)).run P w=.ok 1 w) (sp:Option Addr) (len cap m:Nat) (hm:m≤len) (hc:len≤cap) :
 ∃ sp',(∀ w,(Instr.sliceAt t (.slice sp len cap) (some (.int .i64 (m:Int))) none none).run P w=.ok (.slice sp' (len-m) (cap-m)) w)∧∀ w z,Src w sp len z→Src w sp' (len-m) (fun j=>z (m+j)):=by
 refine ⟨if cap=m then sp else sp.map (·.add (m*1)),fun w=>?_,fun w z h j hj=>?_⟩
 · rw [run_sliceAt_slice w t _ _ _ _ ht,run_slice_l w t sp len cap ht .i64 (m:Int) (by omega) (by omega),hsz]
   simp only [Result.andThen,sliced,Int.toNat_natCast]
 · obtain ⟨ad,rfl,hc'⟩:=h (m+j) (by omega)
   rw [if_neg (by omega)]
   exact ⟨ad.add (m*1),rfl,by rw [Nat.mul_one,Addr.add_add]; exact hc'⟩
theorem cut_lh {t:TypeId} (ht:P.underlying t=some (.slice (P.elem t))) (hsz:∀ w,(sizeOf (P.elem t)).run P w=.ok 1 w) (sp:Option Addr) (len cap l h:Nat) (hl:l≤h) (hh:h≤len) (hc:len≤cap) :
 ∃ sp',(∀ w,(Instr.sliceAt t (.slice sp len cap) (some (.int .i64 (l:Int))) (some (.int .i64 (h:Int))) none).run P w=.ok (.slice sp' (h-l) (cap-l)) w)∧∀ w z,Src w sp len z→Src w sp' (h-l) (fun j=>z (l+j)):=by
 refine ⟨if cap=l then sp else sp.map (·.add (l*1)),fun w=>?_,fun w z hs j hj=>?_⟩
 · rw [run_sliceAt_slice w t _ _ _ _ ht,run_slice_lh w t sp len cap ht .i64 .i64 (l:Int) (h:Int) (by omega) (by omega) (by omega),hsz]
   simp only [Result.andThen,sliced,Int.toNat_natCast]
 · obtain ⟨ad,rfl,hc'⟩:=hs (l+j) (by omega)
   rw [if_neg (by omega)]
   exact ⟨ad.add (l*1),rfl,by rw [Nat.mul_one,Addr.add_add]; exact hc'⟩
theorem cutLHop {w:World} (t:TypeId) (x y z:Operand) (p q r v:Value) (ho:o.op=.slice t x (some y) (some z) none) (hx:a.eval x=p) (hy:a.eval y=q) (hz:a.eval z=r) (hr:(Instr.sliceAt t p (some q) (some r) none).run P w=.ok v w) :
 (execOp a.eval o).run P w=.ok (.value v) w:=by
 unfold execOp
 simp only [ho,hx,hy,hz,Option.map_some,Option.map_none,Sem.run_bind,hr,Result.andThen_ok,Sem.run_pure]
end
end
structure Str (w:World) (b:Nat) (k:Nat→Int) (c:Int) (n:Nat→Int):Prop where
 key:w.rangeAt b 0 (row .u8 32 k)
 ctr:w.cell? ⟨b,32,none⟩=some (.int .u32 c)
 non:w.rangeAt b 33 (row .u8 12 n)
 lt:b<w.heap.size
structure HL (w:World) (b:Nat) (k:Nat→Int) (c:Int) (n:Nat→Int) (L:List (Option Addr × Nat × (Nat→Int))) (w':World):Prop where
 st:Str w' b k c n
 src:∀ p∈L,Src w' p.1 p.2.1 p.2.2
 below:Below w.heap.size w w'
theorem xor_twice (x y:Int) (hx:0≤x∧x<256) (hy:0≤y∧y<256):bits .xor .u8 (bits .xor .u8 x y) y=x:=by
 obtain ⟨x,rfl⟩:=xiN hx.1
 obtain ⟨y,rfl⟩:=xiN hy.1
 rw [u8_xor_nat x y (by omega) (by omega),u8_xor_nat _ y (Nat.xor_lt_two_pow (n:=8) (by omega) (by omega)) (by omega),Nat.xor_assoc,Nat.xor_self,Nat.xor_zero]
theorem hxor_twice (k:Nat→Int) (c:Int) (n z:Nat→Int) (m:Nat) (hz:In 256 m z) (j:Nat) (hj:j<m):hxor k c n (hxor k c n z) j=z j :=
 xor_twice _ _ (hz j hj) (hblk_in _ _ _ 64 _ (Nat.mod_lt _ (by decide)))
theorem aout_lo (k n:Nat→Int) (bl:Nat) (b:Nat→Int) (len:Nat) (z:Nat→Int) (j:Nat) (hj:j<len):aout k n bl b len z j=hxor k 1 n z j:=by
 unfold aout app
 rw [if_pos hj]
theorem aout_hi (k n:Nat→Int) (bl:Nat) (b:Nat→Int) (len:Nat) (z:Nat→Int) (j:Nat):aout k n bl b len z (len+j)=atag k n bl b len (hxor k 1 n z) j:=by
 unfold aout app
 rw [if_neg (by omega),show len+j-len=j by omega]
theorem aback_ok (k n:Nat→Int) (bl:Nat) (b:Nat→Int) (len:Nat) (z:Nat→Int):aok k n bl b (len+16) (aout k n bl b len z):=by
 refine ⟨by omega,?_⟩
 rw [show len+16-16=len by omega,atg_congr k n bl b b len _ (hxor k 1 n z) (fun _ _=>rfl) (fun j hj=>aout_lo k n bl b len z j hj),← atag_val]
 exact val_congr 256 16 fun j _=>(aout_hi k n bl b len z j).symm
theorem aback_text (k n:Nat→Int) (bl:Nat) (b:Nat→Int) (len:Nat) (z:Nat→Int) (hz:In 256 len z) (j:Nat) (hj:j<len):hxor k 1 n (aout k n bl b len z) j=z j:=by
 have e:=hxor_twice k 1 n z len hz j hj
 unfold hxor at e ⊢
 rw [aout_lo k n bl b len z j hj]
 exact e
theorem Below.grown {B:Nat} {w w1 w2:World} (l:Below B w w1) {r:Option Nat} (g:w1.grownBy w2 r) (hB:B≤w1.heap.size) (hr:∀ b,r=some b→B≤b):Below B w w2 :=
 ⟨g.os.trans l.os,g.tape.trans l.tape,g.output.trans l.output,xnT l.size g.size,fun j hj=>(g.block j (xnL hj hB) (fun e=>by have:=hr j e.symm; omega)).trans (l.block j hj)⟩
theorem Has.grown {w w':World} {b:Nat} {k:IntKind} {n:Nat} {f:Nat→Int} (h:Has w b k n f) {r:Option Nat} (g:w.grownBy w' r) (hb:b<w.heap.size) (hne:some b≠r):Has w' b k n f :=
 ⟨fun j hj=>by rw [World.cell?_of_block (a:=⟨b,j,none⟩) (g.block b hb hne)]; exact h.cell j hj,fun j hj=>by rw [World.frozen?_of_block (a:=⟨b,j,none⟩) (g.block b hb hne)]; exact h.free j hj⟩
theorem Own.more8 {w':World} {base m:Nat} {f:Nat→Int} {s:Value} (h:Own w' base 5 .u8 m f s) (hm:m<140737488355328) (x:Int) (hx:f m=x) (ty:TypeId) (hb:base≤w'.heap.size) :
 ∃ v w'',(Builtin.append_ #[32,32] ty #[s,.slice (some ⟨w'.heap.size,0,none⟩) 1 1]).run Tryz.prog (w'.alloc (.cells #[.int .u8 x] 5))=.ok v w''∧Own w'' base 5 .u8 (m+1) f v∧(w'.alloc (.cells #[.int .u8 x] 5)).grownBy w'' s.ownBlock:=by
 have H1:=Has.new w' .u8 1 (fun _=>x) 5 w'.heap.size rfl
 obtain ⟨v,w'',hr,ho,hg,_⟩:=run_append_Own (P:=Tryz.prog) (ty:=ty) Tryz.underlying32 one8 (h.alloc (.cells (row .u8 1 (fun _=>x)).toArray 5)) (some ⟨w'.heap.size,0,none⟩) 1 1 (fun _=>x) (fun j hj=>⟨_,rfl,by rw [Addr.add_mid,Nat.zero_add]; exact H1.cell j hj⟩) (fun e=>by cases e) (by unfold maxLen; omega) (by omega) (by simp; omega)
 refine ⟨v,w'',hr,ho.congr fun j hj=>?_,hg⟩
 unfold app
 by_cases e:j<m
 · rw [if_pos e]
 · rw [if_neg e,← hx,show j=m by omega]
def slen:Value→Nat
 | .slice _ n _=>n
 | _=>0
theorem Own.nilCap {w:World} {base:Nat} {e:TypeId} {k:IntKind} {n:Nat} {f:Nat→Int} {sp:Option Addr} {c:Nat} (h:Own w base e k n f (.slice sp n c)):sp=none→c=0:=fun e=>by
 rcases h.2 with ⟨hv,_⟩ | ⟨g,cap,cur,hv,_⟩
 · injection hv
 · injection hv with hv _ _
   rw [e] at hv
   cases hv
theorem Own.lower {w:World} {base base':Nat} {e:TypeId} {k:IntKind} {n:Nat} {f:Nat→Int} {v:Value} (h:Own w base e k n f v) (hb:base'≤base):Own w base' e k n f v:=by
 refine ⟨h.1,?_⟩
 rcases h.2 with h2 | ⟨g,cap,cur,h1,h2,h3⟩
 · exact .inl h2
 · exact .inr ⟨g,cap,cur,h1,xnT hb h2,h3⟩
def mA (a b x:Int):Int:=had (had a b) x
def mD (p:Nat) (d a:Int):Int:=hrl p (hxr d a)
def bA1 (a b x:Int):Int:=mA a b x
def bD1 (a b d x:Int):Int:=mD 16 d (bA1 a b x)
def bC1 (a b c d x:Int):Int:=had c (bD1 a b d x)
def bB1 (a b c d x:Int):Int:=mD 20 b (bC1 a b c d x)
def bA (a b c d x y:Int):Int:=mA (bA1 a b x) (bB1 a b c d x) y
def bD (a b c d x y:Int):Int:=mD 24 (bD1 a b d x) (bA a b c d x y)
def bC (a b c d x y:Int):Int:=had (bC1 a b c d x) (bD a b c d x y)
def bB (a b c d x y:Int):Int:=mD 25 (bB1 a b c d x) (bC a b c d x y)
theorem mD_in (p:Nat) (d a:Int) (hd:0≤d∧d<V) (ha:0≤a∧a<V):0≤mD p d a∧mD p d a<V:=hrl_in _ _ (hxr_in _ _ hd ha)
theorem bA_in (a b c d x y:Int):0≤bA a b c d x y∧bA a b c d x y<V:=had_in _ _
theorem bD1_in (a b d x:Int) (hd:0≤d∧d<V):0≤bD1 a b d x∧bD1 a b d x<V:=mD_in _ _ _ hd (had_in _ _)
theorem bB1_in (a b c d x:Int) (hb:0≤b∧b<V):0≤bB1 a b c d x∧bB1 a b c d x<V:=mD_in _ _ _ hb (had_in _ _)
theorem bD_in (a b c d x y:Int) (hd:0≤d∧d<V):0≤bD a b c d x y∧bD a b c d x y<V:=mD_in _ _ _ (bD1_in a b d x hd) (had_in _ _)
theorem bC_in (a b c d x y:Int):0≤bC a b c d x y∧bC a b c d x y<V:=had_in _ _
theorem bB_in (a b c d x y:Int) (hb:0≤b∧b<V):0≤bB a b c d x y∧bB a b c d x y<V:=mD_in _ _ _ (bB1_in a b c d x hb) (had_in _ _)
def bMx (v:Nat→Int) (a b c d:Nat) (x y:Int):Nat→Int :=
 upd (upd (upd (upd v a (bA (v a) (v b) (v c) (v d) x y)) b (bB (v a) (v b) (v c) (v d) x y)) c (bC (v a) (v b) (v c) (v d) x y)) d (bD (v a) (v b) (v c) (v d) x y)
theorem bMx_in (v:Nat→Int) (a b c d:Nat) (x y:Int) (hb:b<16) (hd:d<16) (h:In V 16 v):In V 16 (bMx v a b c d x y) :=
 (((h.upd _ _ (bA_in _ _ _ _ _ _).1 (bA_in _ _ _ _ _ _).2).upd _ _ (bB_in _ _ _ _ _ _ (h b hb)).1 (bB_in _ _ _ _ _ _ (h b hb)).2).upd _ _ (bC_in _ _ _ _ _ _).1 (bC_in _ _ _ _ _ _).2).upd _ _ (bD_in _ _ _ _ _ _ (h d hd)).1 (bD_in _ _ _ _ _ _ (h d hd)).2
def sgL:List Nat:=[0,1,2,3,4,5,6,7,8,9,10,11,12,13,14,15,14,10,4,8,9,15,13,6,1,12,0,2,11,7,5,3,11,8,12,0,5,2,15,13,10,14,3,6,7,1,9,4,7,9,3,1,13,12,11,14,2,6,5,10,4,0,15,8,9,0,5,7,2,4,10,15,14,1,11,12,6,8,3,13,2,12,6,10,0,11,8,3,4,13,7,5,15,14,1,9,12,5,1,15,14,13,4,10,0,7,6,3,9,2,8,11,13,11,7,14,12,1,3,9,5,0,15,4,8,6,2,10,6,15,14,9,11,3,0,8,12,2,13,7,1,4,10,5,10,2,8,4,7,6,1,5,15,11,9,14,3,12,13,0]
def sg (r i:Nat):Nat:=sgL.getD (16*r+i) 0
theorem sg_lt (r i:Nat):sg r i<16:=by
 unfold sg
 rw [List.getD_eq_getElem?_getD]
 cases e:sgL[16*r+i]? with
 | none=>simp
 | some x =>
   have h:∀ x∈sgL,x<16:=by decide +kernel
   simpa using h x (List.mem_of_getElem? e)
def bAt (m:Nat→Int) (s:Nat→Nat) (v:Nat→Int) (i:Nat):Nat→Int:=bMx v (pA i) (pB i) (pC i) (pD i) (m (s (2*i))) (m (s (2*i+1)))
def bN (m:Nat→Int) (s:Nat→Nat) (v:Nat→Int):Nat→Nat→Int
 | 0=>v
 | i+1=>bAt m s (bN m s v i) i
def bR (m:Nat→Int) (v:Nat→Int):Nat→Nat→Int
 | 0=>v
 | r+1=>bN m (sg r) (bR m v r) 8
theorem bAt_in (m:Nat→Int) (s:Nat→Nat) (v:Nat→Int) (i:Nat) (h:In V 16 v):In V 16 (bAt m s v i):=bMx_in _ _ _ _ _ _ _ (by have:=pB_lt i; omega) (by have:=pD_lt i; omega) h
theorem bN_in (m:Nat→Int) (s:Nat→Nat) (v:Nat→Int) (h:In V 16 v):∀ i,In V 16 (bN m s v i)
 | 0=>h
 | i+1=>bAt_in _ _ _ _ (bN_in m s v h i)
theorem bR_in (m:Nat→Int) (v:Nat→Int) (h:In V 16 v):∀ r,In V 16 (bR m v r)
 | 0=>h
 | r+1=>bN_in _ _ _ (bR_in m v h r) 8
def iv:Nat→Int:=bl [1779033703,3144134277,1013904242,2773480762,1359893119,2600822924,528734635,1541459225]
theorem iv_in:In V 8 iv:=fun j hj=>by
 match j,hj with
 | 0,_ | 1,_ | 2,_ | 3,_ | 4,_ | 5,_ | 6,_ | 7,_=>decide
def bst (h:Nat→Int) (t:Int) (last:Bool):Nat→Int:=six (h 0) (h 1) (h 2) (h 3) (h 4) (h 5) (h 6) (h 7) (iv 0) (iv 1) (iv 2) (iv 3) (hxr (iv 4) (t%4294967296)) (hxr (iv 5) (t/4294967296%4294967296)) (if last then 4294967295-iv 6 else iv 6) (iv 7)
def bpw (z:Nat→Int):Nat→Int:=fun i=>w32 z (4*i)
def bpr (h:Nat→Int) (z:Nat→Int) (t:Int) (last:Bool):Nat→Int:=fun i=>hxr (hxr (h i) (bR (bpw z) (bst h t last) 10 i)) (bR (bpw z) (bst h t last) 10 (i+8))
theorem bst_in (h:Nat→Int) (t:Int) (last:Bool) (hh:In V 8 h):In V 16 (bst h t last) :=
 six_in _ _ _ _ _ _ _ _ _ _ _ _ _ _ _ _ (hh 0 (by omega)) (hh 1 (by omega)) (hh 2 (by omega)) (hh 3 (by omega)) (hh 4 (by omega)) (hh 5 (by omega)) (hh 6 (by omega)) (hh 7 (by omega)) (iv_in 0 (by omega)) (iv_in 1 (by omega)) (iv_in 2 (by omega)) (iv_in 3 (by omega))
  (hxr_in _ _ (iv_in 4 (by omega)) (by simp only [V]; omega)) (hxr_in _ _ (iv_in 5 (by omega)) (by simp only [V]; omega)) (by have h6:=iv_in 6 (by omega); simp only [V] at h6 ⊢; split <;> omega) (iv_in 7 (by omega))
theorem bpr_in (h z:Nat→Int) (t:Int) (last:Bool) (hh:In V 8 h):In V 8 (bpr h z t last):=fun j hj =>
 hxr_in _ _ (hxr_in _ _ (hh j hj) (bR_in _ _ (bst_in h t last hh) 10 j (by omega))) (bR_in _ _ (bst_in h t last hh) 10 (j+8) (by omega))
def btl (kl len:Nat):Nat:=(if kl=0 then 0 else 64)+len
def btx (kl:Nat) (key:Nat→Int) (len:Nat) (z:Nat→Int):Nat→Int:=fun j =>
 if kl=0 then (if j<len then z j else 0) else if j<64 then (if j<kl then key j else 0) else if j<64+len then z (j-64) else 0
def bnb (kl len:Nat):Nat:=if btl kl len=0 then 1 else (btl kl len+63)/64
theorem btx_in (kl:Nat) (key:Nat→Int) (len:Nat) (z:Nat→Int) (hk:In 256 kl key) (hz:In 256 len z) (j:Nat):0≤btx kl key len z j∧btx kl key len z j<256:=by
 unfold btx
 split
 · split
   · exact hz _ (by assumption)
   · omega
 · split
   · split
     · exact hk _ (by assumption)
     · omega
   · split
     · exact hz _ (by omega)
     · omega
def bh0 (kl size:Nat):Nat→Int:=upd iv 0 (hxr (hxr (hxr (iv 0) 16842752) (256*(kl:Int))) (size:Int))
theorem bh0_in (kl size:Nat) (hk:kl≤32) (hs:size≤32):In V 8 (bh0 kl size):=by
 have h:=hxr_in _ _ (hxr_in _ _ (hxr_in _ _ (iv_in 0 (by omega)) (show 0≤(16842752:Int)∧(16842752:Int)<V by decide)) (show 0≤256*(kl:Int)∧256*(kl:Int)<V by simp only [V]; omega)) (show 0≤(size:Int)∧(size:Int)<V by simp only [V]; omega)
 exact iv_in.upd _ _ h.1 h.2
def bH (kl:Nat) (key:Nat→Int) (size len:Nat) (z:Nat→Int):Nat→Nat→Int
 | 0=>bh0 kl size
 | i+1=>bpr (bH kl key size len z i) (fun j=>btx kl key len z (64*i+j)) ((min (64*i+64) (btl kl len):Nat):Int) (decide (i+1=bnb kl len))
theorem bH_in (kl:Nat) (key:Nat→Int) (size len:Nat) (z:Nat→Int) (hk:kl≤32) (hs:size≤32):∀ i,In V 8 (bH kl key size len z i)
 | 0=>bh0_in kl size hk hs
 | i+1=>bpr_in _ _ _ _ (bH_in kl key size len z hk hs i)
def bsum (kl:Nat) (key:Nat→Int) (size len:Nat) (z:Nat→Int):Nat→Int:=fun j=>b32 (bH kl key size len z (bnb kl len) (j/4)) (j%4)
theorem bsum_in (kl:Nat) (key:Nat→Int) (size len:Nat) (z:Nat→Int) (n:Nat):In 256 n (bsum kl key size len z):=fun j _=>b32_in _ _ (Nat.mod_lt _ (by decide))
def bhash (len:Nat) (z:Nat→Int):Nat→Int:=bsum 0 (fun _=>0) 32 len z
end Go.Proofs.YtklnibmfpcmeeaaGreatDoor
