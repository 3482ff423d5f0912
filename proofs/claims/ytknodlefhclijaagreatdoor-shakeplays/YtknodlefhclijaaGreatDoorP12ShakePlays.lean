/- Texts of Is Yc Zc Pc Zd, joined. -/
import Derived.Test.YtknodlefhclijaaGreatDoorP11ShakePlays
import Derived.Lib.Bytes
set_option maxRecDepth 20000
set_option maxHeartbeats 64000000
namespace Go.Proofs.YtknodlefhclijaaGreatDoor
open Go.RowKit
theorem eY (b:Nat) (w:World):(Instr.sliceAt 120 (.pointer (some ⟨b,0,none⟩)) none none none).run Tryz.prog w=.ok (.slice (some ⟨b,0,none⟩) 16 16) w:=by kernel_rfl
theorem j3g (k n:Nat→Int) (hk:In 256 32 k) (hn:In 256 12 n) (bp:Option Addr) (bl bc:Nat) (hbl:bl≤35184372088832) (hbn:bp=none→bc=0) (b:Nat→Int) (hb:In 256 bl b) (sp:Option Addr) (len cap:Nat) (hlen:len≤35184372088832) (z:Nat→Int) (hz:In 256 len z) (w:World) (hsb:Src w bp bl b) (hs:Src w sp len z) :
 Calls Tryz.prog 70 #[(.agg (row .u8 32 (k)).toArray),(.agg (row .u8 12 (n)).toArray),.slice bp bl bc,.slice sp len cap] w fun e w'=>∃ sp' cap',e=.returned (.slice sp' (len+16) cap')∧Own w' w.heap.size 5 .u8 (len+16) (fV k n bl b len z) (.slice sp' (len+16) cap')∧Below w.heap.size w w':=by
 have K:=Kr.init w; replace K:=K.box .u8 32 k 23 (w.heap.size) rfl; replace K:=K.box .u8 12 n 96 (w.heap.size+1) Jf
 go_enter Tryz.func70,Tryz.ntmps70
 go_upto_region 1 with fail; generalize ((w.alloc (.cells (row .u8 32 k).toArray 23)).alloc (.cells (row .u8 12 n).toArray 96))=w0 at K ⊢; refine wR (ykL .u8 32 (k) (w.heap.size) 0 Tryz.underlying23 (jJ _) ((K.get _ _ _ _ (mT _ mS)).range) ?_)
 refine ykL .u8 12 (n) (w.heap.size+1) 0 Tryz.underlying96 (zL _) ((K.get _ _ _ _ mS).range) ?_; refine xmL ?_; refine xcL (bW k 1 n hk hn sp len cap JK z _ (hs.below K.below (xnR _))) ?_; rintro e w1 ⟨so,co,rfl,P1,l⟩; replace P1:=P1.lower K.size; replace K:=K.call l; clear l; refine xeL ?_
 refine xmL ?_
 obtain ⟨_,_,hv,_,hq2⟩:=P1.bytes
 injection hv with hv1 _ hv3
 subst hv1 hv3
 show Exit.then _ _ _ _ _; go_upto_region 2 with fail; refine wR (ykL .u8 32 (k) (w.heap.size) 0 Tryz.underlying23 (jJ _) ((K.get _ _ _ _ (mT _ mS)).range) ?_); refine ykL .u8 12 (n) (w.heap.size+1) 0 Tryz.underlying96 (zL _) ((K.get _ _ _ _ mS).range) ?_
 refine xm2 ?_; refine xcL (cJ k n hk hn bp bl bc hbl hbn b hb so len co hlen P1.nilCap (xB k 1 n z) (lL k 1 n z len hz) _ (hsb.below K.below (xnR _)) hq2) ?_; rintro e w2 ⟨rfl,l⟩; replace K:=K.call l; replace P1:=P1.below l; clear l hq2; refine xeL ?_; have zT:=K.size
 have l2:=jS ((Below.refl w2.heap.size w2).alloc (xnR _) (.cells qR 120)) w2.heap.size (xnR _) 0 (row .u8 16 (zU k n bl b len (xB k 1 n z))); replace P1:=P1.below l2; clear l2; refine qH qR 120 rfl JW (nL ?_)
 refine ysL .u8 16 (zU k n bl b len (xB k 1 n z)) w2.heap.size (jM (xQ _ _ _ rfl).there) (xM _) ?_; have zT:=K.size; replace K:=K.fresh .u8 16 (zU k n bl b len (xB k 1 n z)) qR 120 (xQ _ _ _ rfl).there
 generalize ((w2.alloc (.cells qR 120)).setCells w2.heap.size 0 (row .u8 16 (zU k n bl b len (xB k 1 n z))))=w3 at K P1 ⊢; generalize w2.heap.size=T at *; show Exit.then _ _ _ _ _; go_upto_region 3 with fail; refine wR (xmL ?_); refine xqL (.slice (some ⟨T,0,none⟩) 16 16) (fun w'=>yR _ _ _ _ rfl rfl (eY T w')) ?_
 have hT:=(K.get _ _ _ _ mS).src0
 obtain ⟨v4,w4,hr,ho,hg,_⟩:=jH (P:=Tryz.prog) (ty:=32) Tryz.underlying32 vG P1 (some ⟨T,0,none⟩) 16 16 (zU k n bl b len (xB k 1 n z)) hT Jq Jj JK (by have:=K.size; omega)
 have hB:=Below.grown K.below hg K.below.size (fun b hb=>by have:=(World.ownsRow.lt P1 b hb).1; omega); refine xaL v4 (jW _ _ 32 _ _ _ rfl rfl rfl hr) ?_; refine xmL ?_
 obtain ⟨s4,c4,rfl,_,_⟩:=ho.bytes
 have HS:=show Hid _ from (show Own w4 w.heap.size 5 .u8 (len+16) (fV k n bl b len z) (.slice s4 (len+16) c4) from ho.lower JK); clear K P1 hT hr ho hg; show Exit.then _ _ _ _ _; go_wp2; go_ret
 exact ⟨s4,c4,rfl,HS.out,hB⟩
theorem x1d {P:Program} {o:Oper} {a:Act} (s s':ByteArray) (t t':TypeId) (x y:Operand) (ho:o.op=.binOp .neq t x y t') (hx:a.eval x=.string s) (hy:a.eval y=.string s') (r:Bool) (hr:(!(s.toList == s'.toList))=r) (w:World):(execOp a.eval o).run P w=.ok (.value (.bool r)) w:=by
 unfold execOp
 simp only [ho,hx,hy,Sem.run_bind,eqGuard_at_string,binOp_string_neq,Sem.run_pure,xO,hr]
theorem q2g (n:Nat) (f g:Nat→Int) (hf:In 256 n f) (hg:In 256 n g):((txt n f).toList == (txt n g).toList)=decide (val 256 f n=val 256 g n):=by
 rw [← nN n f g hf hg]
 unfold txt
 rw [Lib.strOfNums_toList,Lib.strOfNums_toList]
 unfold Lib.bytesOf bytesOf
 rw [List.map_map,List.map_map]
 rfl
theorem j9d {P:Program} {t:TypeId} (ht:P.underlying t=some (.slice (P.elem t))) (hsz:∀ w,(sizeOf (P.elem t)).run P w=.ok 1 w) (sp:Option Addr) (len cap m:Nat) (hm:m≤len) (hc:len≤cap) :
 ∃ sp',(∀ w,(Instr.sliceAt t (.slice sp len cap) none (some (.int .i64 (m:Int))) none).run P w=.ok (.slice sp' m cap) w)∧(∀ w z,Src w sp len z→Src w sp' m z)∧(sp'=none→sp=none):=by
 refine ⟨if cap=0 then sp else sp.map (·.add (0*1)),fun w=>?_,fun w z h j hj=>?_,fun e=>?_⟩
 · exact XY
 · obtain ⟨ad,rfl,hc'⟩:=h j JK; exact Zx
 by_cases h0:cap=0
 · rw [if_pos h0] at e; exact e
 rw [if_neg h0] at e; simpa using e
theorem j2t (k n:Nat→Int) (bl:Nat) (b:Nat→Int) (m:Nat) (z:Nat→Int) (hz:In 256 (m+16) z):(!((txt 16 (zU k n bl b m z)).toList == (txt 16 (fun j=>z (m+j))).toList))=!decide (atg k n bl b m z=val 256 (fun j=>z (m+j)) 16):=by
 rw [q2g 16 _ _ (lA _ _ _ _ _ _ _) (fun j hj=>hz _ JK),sM]
theorem aG (k n:Nat→Int) (bp:Option Addr) (bl bc:Nat) (sp:Option Addr) (len cap:Nat) (h16:len<16) (w:World) :
 Calls Tryz.prog 72 #[(.agg (row .u8 32 (k)).toArray),(.agg (row .u8 12 (n)).toArray),.slice bp bl bc,.slice sp len cap] w fun e w'=>e=.returned (.tuple #[.slice none 0 0,.int .i64 3])∧Below w.heap.size w w':=by
 have K:=Kr.init w; replace K:=K.box .u8 32 k 23 (w.heap.size) rfl; replace K:=K.box .u8 12 n 96 (w.heap.size+1) Jf
 go_enter Tryz.func72,Tryz.ntmps72
 go_upto_region 1 with fail; generalize ((w.alloc (.cells (row .u8 32 k).toArray 23)).alloc (.cells (row .u8 12 n).toArray 96))=w0 at K ⊢; refine wR (xmL ?_); refine xqL _ Jk ?_
 refine xqL (.int .i64 ((len:Int)-16)) YY ?_; refine xmL ?_; show Exit.then _ _ _ _ _; go_upto_region 2 with fail; refine wR (xmL ?_); refine xqL (.bool true) (fun w=>gP .i64 _ _ _ _ _ _ rfl rfl rfl true (decide_eq_true JK) w) ?_
 have hB:=K.below; clear K; show Exit.then _ _ _ _ _; go_wp2; go_ret2
 exact ⟨rfl,hB⟩
theorem j1k (k n:Nat→Int) (hk:In 256 32 k) (hn:In 256 12 n) (bp:Option Addr) (bl bc:Nat) (hbl:bl≤35184372088832) (hbn:bp=none→bc=0) (b:Nat→Int) (hb:In 256 bl b) (sp:Option Addr) (m cap:Nat) (hlen:m≤35184372088832) (hcap:m+16≤cap) (hsn:sp=none→cap=0) (z:Nat→Int) (hz:In 256 (m+16) z) (hok:Hid (atg k n bl b m z=val 256 (fun j=>z (m+j)) 16)) (w:World) (hsb:Src w bp bl b) (hs:Src w sp (m+16) z) :
 Calls Tryz.prog 72 #[(.agg (row .u8 32 (k)).toArray),(.agg (row .u8 12 (n)).toArray),.slice bp bl bc,.slice sp (m+16) cap] w fun e w'=>∃ sp' cap',e=.returned (.tuple #[.slice sp' m cap',.int .i64 0])∧Own w' w.heap.size 5 .u8 m (xB k 1 n z) (.slice sp' m cap')∧Below w.heap.size w w':=by
 obtain ⟨sh,hh1,hh2,hh3⟩:=j9d (P:=Tryz.prog) (t:=32) JU JW sp (m+16) cap m JK hcap
 obtain ⟨sl,hl1,hl2⟩:=j2e (P:=Tryz.prog) (t:=32) JU JW sp (m+16) cap m JK hcap
 rw [show m+16-m=16 by omega] at hl1 hl2
 have hshn:sh=none→cap=0:=fun e=>hsn (hh3 e)
 clear hh3; have K:=Kr.init w; replace K:=K.box .u8 32 k 23 (w.heap.size) rfl; replace K:=K.box .u8 12 n 96 (w.heap.size+1) Jf
 go_enter Tryz.func72,Tryz.ntmps72
 go_upto_region 1 with fail; generalize ((w.alloc (.cells (row .u8 32 k).toArray 23)).alloc (.cells (row .u8 12 n).toArray 96))=w0 at K ⊢; refine wR (xmL ?_); refine xqL _ Jk ?_; refine xqL (.int .i64 (m:Int)) YY ?_; refine xmL ?_; show Exit.then _ _ _ _ _
 go_upto_region 2 with fail; refine wR ?_
 refine xmL ?_; refine xqL (.bool false) Wf ?_; show Exit.then _ _ _ _ _; go_upto_region 4 with fail
 refine wD (S:=fun w'=>Kr w (w.heap.size+1+1) [(w.heap.size+1,.u8,12,n),(w.heap.size,.u8,32,k)] [] w') JU K.drew ?_; clear K; intro K
 refine ykH 0 17 .u8 32 (k) (w.heap.size) 0 Tryz.underlying23 (jJ _) K (fun _ h=>(h.get _ _ _ _ (mT _ mS)).range) ?_
 refine ykH 1 18 .u8 12 (n) (w.heap.size+1) 0 Tryz.underlying96 (zL _) K (fun _ h=>(h.get _ _ _ _ mS).range) ?_
 refine xmH 2 19 K ?_; refine xmH 3 20 K ?_
 refine xmH 4 21 K ?_; refine xqH 5 22 rfl (.slice sh m cap) Ku K ?_
 refine Chain.go (z:=7) (t:=11) (n:=16) (w0:=w.heap.size+1+1) (k:=1) ?_ qR 120 rfl rfl rfl YG (fun _=>(xQ _ _ _ rfl).there) (fun _ h=>h.size) (fun _ _ h l=>h.call l) _ K
 refine Chain.call 6 23 (fun v=>v=.agg (row .u8 16 (zU k n bl b m z)).toArray) JU JU rfl rfl rfl JG JG Uw Jw JW VG ?_
 rintro _ rfl; simp only [Act.put,lI,l0,lS]; refine Chain.last JU ?_; clear K; intro G w4 K hFb; simp only [Act.put,lI,l0,lS]; refine xX (i:=8) none rfl .u8 16 (zU k n bl b m z) G 120 _ _ JU rfl rfl rfl rfl rfl (jM hFb.th) (xM _) (K.past G hFb.lo _) ?_
 refine wE JU ?_ _
 replace K:=K.land hFb .u8 (zU k n bl b m z); clear hFb; generalize w4.setCells G 0 (row .u8 16 (zU k n bl b m z))=w5 at K ⊢; generalize w4.heap.size=M5 at K; go_upto_region 5 with fail; refine wD (S:=fun w'=>Kr w M5 [(G,.u8,16,zU k n bl b m z),(w.heap.size+1,.u8,12,n),(w.heap.size,.u8,32,k)] [] w') JU K.drew ?_; clear K; intro K
 refine xqH 0 24 rfl (.slice (some ⟨G,0,none⟩) 16 16) (fun w'=>yR _ _ _ _ rfl rfl (eY G w')) K ?_
 refine xrH 1 25 rfl (.string (txt 16 (zU k n bl b m z))) Vp K ?_
 refine q3l (i:=2) (some 26) rfl (.slice sp (m+16) cap) rfl rfl (fun _=>by kernel_rfl) (by kernel_rfl) (by kernel_rfl) (by kernel_rfl) (fun _ _ _ h=>h) K ?_; simp only [Act.put,lI,l0,lS]; refine q3l (i:=3) (some 27) rfl (.int .i64 (m:Int)) rfl rfl (fun _=>by kernel_rfl) (by kernel_rfl) (by kernel_rfl) (by kernel_rfl) (fun _ _ _ h=>h) K ?_; simp only [Act.put,lI,l0,lS]
 refine xqH 4 28 rfl (.slice sl 16 (cap-m)) (fun w'=>mY _ _ _ _ _ _ rfl rfl rfl (hl1 w')) K ?_
 refine xrH 5 29 rfl (.string (txt 16 (fun j=>z (m+j)))) Vg K ?_
 refine xqH 6 30 rfl (.bool false) (fun w=>x1d _ _ _ _ _ _ rfl rfl rfl false (by rw [j2t k n bl b m z hz,decide_eq_true hok.out]; rfl) w) K ?_
 refine wE JU ?_ _
 clear hl1 hl2; go_upto_region 7 with fail; refine wD (S:=fun w'=>Kr w M5 [(G,.u8,16,zU k n bl b m z),(w.heap.size+1,.u8,12,n),(w.heap.size,.u8,32,k)] [] w') JU K.drew ?_; clear K; intro K
 refine ykH 0 31 .u8 32 (k) (w.heap.size) 0 Tryz.underlying23 (jJ _) K (fun _ h=>(h.get _ _ _ _ (mI 2 rfl)).range) ?_
 refine ykH 1 32 .u8 12 (n) (w.heap.size+1) 0 Tryz.underlying96 (zL _) K (fun _ h=>(h.get _ _ _ _ (mT _ mS)).range) ?_
 refine xmH 2 33 K ?_; refine xmH 3 34 K ?_
 refine xqH 4 35 rfl (.slice sh m cap) Ku K ?_; refine yaH 5 36 (bW k 1 n hk hn sh m cap JK z _ ((hh2 _ _ hs).below K.below (xnR _))) ?_
 rintro e w7 ⟨so,co,rfl,hso,l⟩; replace hso:=hso.lower K.below.size; replace K:=K.call l; clear l
 refine ⟨_,rfl,K,nH ?_⟩
 refine xmH 6 8 K ?_; refine xmH 7 9 K ?_
 refine wE JU ?_ _
 have hB:=K.below; clear K hh1 hh2; go_wp2; go_ret2
 exact ⟨so,co,rfl,hso,hB⟩
theorem j3i (k n:Nat→Int) (hk:In 256 32 k) (hn:In 256 12 n) (bp:Option Addr) (bl bc:Nat) (hbl:bl≤35184372088832) (hbn:bp=none→bc=0) (b:Nat→Int) (hb:In 256 bl b) (sp:Option Addr) (m cap:Nat) (hlen:m≤35184372088832) (hcap:m+16≤cap) (hsn:sp=none→cap=0) (z:Nat→Int) (hz:In 256 (m+16) z) (hok:Hid (¬ atg k n bl b m z=val 256 (fun j=>z (m+j)) 16)) (w:World) (hsb:Src w bp bl b) (hs:Src w sp (m+16) z) :
 Calls Tryz.prog 72 #[(.agg (row .u8 32 (k)).toArray),(.agg (row .u8 12 (n)).toArray),.slice bp bl bc,.slice sp (m+16) cap] w fun e w'=>e=.returned (.tuple #[.slice none 0 0,.int .i64 70])∧Below w.heap.size w w':=by
 obtain ⟨sh,hh1,hh2,hh3⟩:=j9d (P:=Tryz.prog) (t:=32) JU JW sp (m+16) cap m JK hcap
 obtain ⟨sl,hl1,hl2⟩:=j2e (P:=Tryz.prog) (t:=32) JU JW sp (m+16) cap m JK hcap
 rw [show m+16-m=16 by omega] at hl1 hl2
 have hshn:sh=none→cap=0:=fun e=>hsn (hh3 e)
 clear hh3; have K:=Kr.init w; replace K:=K.box .u8 32 k 23 (w.heap.size) rfl; replace K:=K.box .u8 12 n 96 (w.heap.size+1) Jf
 go_enter Tryz.func72,Tryz.ntmps72
 go_upto_region 1 with fail; generalize ((w.alloc (.cells (row .u8 32 k).toArray 23)).alloc (.cells (row .u8 12 n).toArray 96))=w0 at K ⊢; refine wR (xmL ?_); refine xqL _ Jk ?_; refine xqL (.int .i64 (m:Int)) YY ?_; refine xmL ?_; show Exit.then _ _ _ _ _
 go_upto_region 2 with fail; refine wR ?_
 refine xmL ?_; refine xqL (.bool false) Wf ?_; show Exit.then _ _ _ _ _; go_upto_region 4 with fail
 refine wD (S:=fun w'=>Kr w (w.heap.size+1+1) [(w.heap.size+1,.u8,12,n),(w.heap.size,.u8,32,k)] [] w') JU K.drew ?_; clear K; intro K
 refine ykH 0 17 .u8 32 (k) (w.heap.size) 0 Tryz.underlying23 (jJ _) K (fun _ h=>(h.get _ _ _ _ (mT _ mS)).range) ?_
 refine ykH 1 18 .u8 12 (n) (w.heap.size+1) 0 Tryz.underlying96 (zL _) K (fun _ h=>(h.get _ _ _ _ mS).range) ?_
 refine xmH 2 19 K ?_; refine xmH 3 20 K ?_
 refine xmH 4 21 K ?_; refine xqH 5 22 rfl (.slice sh m cap) Ku K ?_
 refine Chain.go (z:=7) (t:=11) (n:=16) (w0:=w.heap.size+1+1) (k:=1) ?_ qR 120 rfl rfl rfl YG (fun _=>(xQ _ _ _ rfl).there) (fun _ h=>h.size) (fun _ _ h l=>h.call l) _ K
 refine Chain.call 6 23 (fun v=>v=.agg (row .u8 16 (zU k n bl b m z)).toArray) JU JU rfl rfl rfl JG JG Uw Jw JW VG ?_
 rintro _ rfl; simp only [Act.put,lI,l0,lS]; refine Chain.last JU ?_; clear K; intro G w4 K hFb; simp only [Act.put,lI,l0,lS]; refine xX (i:=8) none rfl .u8 16 (zU k n bl b m z) G 120 _ _ JU rfl rfl rfl rfl rfl (jM hFb.th) (xM _) (K.past G hFb.lo _) ?_
 refine wE JU ?_ _
 replace K:=K.land hFb .u8 (zU k n bl b m z); clear hFb; generalize w4.setCells G 0 (row .u8 16 (zU k n bl b m z))=w5 at K ⊢; generalize w4.heap.size=M5 at K; go_upto_region 5 with fail; refine wD (S:=fun w'=>Kr w M5 [(G,.u8,16,zU k n bl b m z),(w.heap.size+1,.u8,12,n),(w.heap.size,.u8,32,k)] [] w') JU K.drew ?_; clear K; intro K
 refine xqH 0 24 rfl (.slice (some ⟨G,0,none⟩) 16 16) (fun w'=>yR _ _ _ _ rfl rfl (eY G w')) K ?_
 refine xrH 1 25 rfl (.string (txt 16 (zU k n bl b m z))) Vp K ?_
 refine q3l (i:=2) (some 26) rfl (.slice sp (m+16) cap) rfl rfl (fun _=>by kernel_rfl) (by kernel_rfl) (by kernel_rfl) (by kernel_rfl) (fun _ _ _ h=>h) K ?_; simp only [Act.put,lI,l0,lS]; refine q3l (i:=3) (some 27) rfl (.int .i64 (m:Int)) rfl rfl (fun _=>by kernel_rfl) (by kernel_rfl) (by kernel_rfl) (by kernel_rfl) (fun _ _ _ h=>h) K ?_; simp only [Act.put,lI,l0,lS]
 refine xqH 4 28 rfl (.slice sl 16 (cap-m)) (fun w'=>mY _ _ _ _ _ _ rfl rfl rfl (hl1 w')) K ?_
 refine xrH 5 29 rfl (.string (txt 16 (fun j=>z (m+j)))) Vg K ?_
 refine xqH 6 30 rfl (.bool true) (fun w=>x1d _ _ _ _ _ _ rfl rfl rfl true (by rw [j2t k n bl b m z hz,decide_eq_false hok.out]; rfl) w) K ?_
 refine wE JU ?_ _
 have hB:=K.below; clear K hl1 hl2 hh1 hh2; go_wp2; go_ret2
 exact ⟨rfl,hB⟩
theorem j3h (k n:Nat→Int) (hk:In 256 32 k) (hn:In 256 12 n) (bp:Option Addr) (bl bc:Nat) (hbl:bl≤35184372088832) (hbn:bp=none→bc=0) (b:Nat→Int) (hb:In 256 bl b) (sp:Option Addr) (len cap:Nat) (hlen:len≤35184372088832) (hcap:len≤cap) (hsn:sp=none→cap=0) (z:Nat→Int) (hz:In 256 len z) (w:World) (hsb:Src w bp bl b) (hs:Src w sp len z) :
 Calls Tryz.prog 72 #[(.agg (row .u8 32 (k)).toArray),(.agg (row .u8 12 (n)).toArray),.slice bp bl bc,.slice sp len cap] w fun e w'=>∃ sp' cap',e=.returned (.tuple #[.slice sp' (aoL k n bl b len z) cap',.int .i64 (aoE k n bl b len z)])∧Own w' w.heap.size 5 .u8 (aoL k n bl b len z) (xB k 1 n z) (.slice sp' (aoL k n bl b len z) cap')∧Below w.heap.size w w':=by
 by_cases h16:len<16
 · have e0:¬ aok k n bl b len z:=fun h=>by have:=h.1; omega
   have e1:aoL k n bl b len z=0:=by unfold aoL; rw [if_neg e0]
   have e2:aoE k n bl b len z=3:=by unfold aoE; rw [if_pos h16]
   rw [e1,e2]; exact (aG k n bp bl bc sp len cap h16 w).mono fun e w' h=>⟨none,0,h.1,World.ownsRow_nil _ _ _ _,h.2⟩
 obtain ⟨m,rfl⟩:∃ m,len=m+16:=⟨len-16,by omega⟩
 have e3:m+16-16=m:=by omega
 by_cases h:atg k n bl b m z=val 256 (fun j=>z (m+j)) 16
 · have e0:aok k n bl b (m+16) z:=⟨by omega,by rw [e3]; exact h⟩
   have e1:aoL k n bl b (m+16) z=m:=by unfold aoL; rw [if_pos e0,e3]
   have e2:aoE k n bl b (m+16) z=0:=by unfold aoE; rw [if_neg h16,if_pos e0]
   rw [e1,e2]; exact j1k k n hk hn bp bl bc hbl hbn b hb sp m cap JK hcap hsn z hz h w hsb hs
 have e0:¬ aok k n bl b (m+16) z:=fun h'=>h (by have:=h'.2; rw [e3] at this; exact this)
 have e1:aoL k n bl b (m+16) z=0:=by unfold aoL; rw [if_neg e0]
 have e2:aoE k n bl b (m+16) z=70:=by unfold aoE; rw [if_neg h16,if_neg e0]
 rw [e1,e2]
 exact (j3i k n hk hn bp bl bc hbl hbn b hb sp m cap JK hcap hsn z hz h w hsb hs).mono fun e w' h=>⟨none,0,h.1,World.ownsRow_nil _ _ _ _,h.2⟩
def scz (n j i:Nat):Int:=if i<4 then 0 else if i-4<j then dig n (i-4) else 0
def scl (n j:Nat):List Value:=[.int .u8 (scz n j 0),.int .u8 (scz n j 1),.int .u8 (scz n j 2),.int .u8 (scz n j 3),.int .u8 (scz n j 4),.int .u8 (scz n j 5),.int .u8 (scz n j 6),.int .u8 (scz n j 7),.int .u8 (scz n j 8),.int .u8 (scz n j 9),.int .u8 (scz n j 10),.int .u8 (scz n j 11)]
theorem q7v (n j:Nat) (hj:j<8):(scl n j).set (4+j) (.int .u8 (dig n j))=scl n (j+1):=by
 have:j=0∨j=1∨j=2∨j=3∨j=4∨j=5∨j=6∨j=7:=by omega
 rcases this with rfl | rfl | rfl | rfl | rfl | rfl | rfl | rfl <;> rfl
theorem rN (w0 w:World) (R:Nat) (l:List (Nat × List Value)) (s:Sym) (M:Mm w0 ((R,stc s)::l) w) :
 Calls Tryz.prog 71 #[.pointer (some ⟨R,0,none⟩)] w fun e w'=>e=.returned (.agg (row .u8 12 (snz s.n)).toArray)∧Below w.heap.size w w':=by
 have OF:=Off.refl [] w; have hb0:=M.below
 go_enter Tryz.func71,Tryz.ntmps71
 go_upto_region 0 with fail; refine wR ?_; have hz0_:=OF.size; refine xaL (w':=w.alloc (.cells uP 96)) (.pointer (some ⟨w.heap.size,0,none⟩)) JU ?_; have hlb:=(Below.refl w.heap.size w).alloc (xnR _) (.cells uP 96); replace OF:=OF.below hlb; clear hlb
 have hB_B1:w0.heap.size≤w.heap.size:=M.below.size
 replace M:=M.box uP 96 w.heap.size rfl; generalize w.alloc (.cells uP 96)=w1 at M OF ⊢; generalize eB:w.heap.size=B1 at M hB_B1  ⊢
 have hE_B1:w.heap.size≤B1:=Nat.le_of_eq eB
 have hF_B1:B1≤w.heap.size:=Nat.le_of_eq eB.symm
 clear eB
 have hW_B1:w.heap.size≤B1:=by omega
 clear hz0_; refine xT ?_; go_upto_region 1 with fail; refine wR (xpL (.agg uP) ?_); have hz0_:=OF.size; refine xaL (w':=w1.alloc (.cells uP 96)) (.pointer (some ⟨w1.heap.size,0,none⟩)) JU ?_; have hlb:=(Below.refl w1.heap.size w1).alloc (xnR _) (.cells uP 96); replace OF:=OF.below hlb; clear hlb
 have hB_B2:w0.heap.size≤w1.heap.size:=M.below.size
 replace M:=M.box uP 96 w1.heap.size rfl; generalize w1.alloc (.cells uP 96)=w2 at M OF ⊢; generalize eB:w1.heap.size=B2 at M hB_B2  ⊢
 have hE_B2:w1.heap.size≤B2:=Nat.le_of_eq eB
 have hF_B2:B2≤w1.heap.size:=Nat.le_of_eq eB.symm
 clear eB
 have hW_B2:w.heap.size≤B2:=by omega
 clear hz0_
 refine jG rfl (jC [.int .u8 0,.int .u8 0,.int .u8 0,.int .u8 0,.int .u8 0,.int .u8 0,.int .u8 0,.int .u8 0,.int .u8 0,.int .u8 0,.int .u8 0,.int .u8 0] B2 0 96 _ _ rfl rfl rfl (M.thereP mS 0 12 (nB rfl)) JU (List.all_eq_true.1 (rfl:([.int .u8 0,.int .u8 0,.int .u8 0,.int .u8 0,.int .u8 0,.int .u8 0,.int .u8 0,.int .u8 0,.int .u8 0,.int .u8 0,.int .u8 0,.int .u8 0]:List Value).all (fun u=>u.oneCell')=true))) ?_
 simp only [Act.put]; replace M:=M.setPart [.int .u8 0,.int .u8 0,.int .u8 0,.int .u8 0,.int .u8 0,.int .u8 0,.int .u8 0,.int .u8 0,.int .u8 0,.int .u8 0,.int .u8 0,.int .u8 0] 0 (nB rfl)
 replace OF:=OF.and1 ((Off.refl [B2] _).setAll (b:=B2) mS 0 [.int .u8 0,.int .u8 0,.int .u8 0,.int .u8 0,.int .u8 0,.int .u8 0,.int .u8 0,.int .u8 0,.int .u8 0,.int .u8 0,.int .u8 0,.int .u8 0]) (.inr JK)
 generalize w2.setCells B2 0 [.int .u8 0,.int .u8 0,.int .u8 0,.int .u8 0,.int .u8 0,.int .u8 0,.int .u8 0,.int .u8 0,.int .u8 0,.int .u8 0,.int .u8 0,.int .u8 0]=w3 at M OF ⊢
 refine xT ?_; go_upto_region 2 with fail; refine wR (xmL ?_); refine xT ?_; have HI:=show Hid _ from (And.intro (show Mm w0 ((B2,scl s.n 0)::(B1,[.int .u8 0,.int .u8 0,.int .u8 0,.int .u8 0,.int .u8 0,.int .u8 0,.int .u8 0,.int .u8 0,.int .u8 0,.int .u8 0,.int .u8 0,.int .u8 0])::(R,stc s)::l) w3 from M) OF); clear M OF; go_wp2
 go_loopw [4] (fun i w'=>∃ j:Nat,j≤8∧i=.int .i64 (j:Int)∧Mm w0 ((B2,scl s.n j)::(B1,[.int .u8 0,.int .u8 0,.int .u8 0,.int .u8 0,.int .u8 0,.int .u8 0,.int .u8 0,.int .u8 0,.int .u8 0,.int .u8 0,.int .u8 0,.int .u8 0])::(R,stc s)::l) w'∧Off [] w w') (fun i _=>8-(intOf i).toNat)
 case atStart=>exact ⟨0,Nat.zero_le _,rfl,HI.out⟩
 case round =>
  clear HI; obtain ⟨j,hj,rfl,M,OF⟩:=hrel; by_cases hlt:j<8
  · go_upto_region 3 with fail; refine wR (xmL ?_); refine xaL (.bool true) (gP .i64 _ _ _ _ _ _ rfl rfl rfl true (decide_eq_true JK) _) (xT ?_); go_upto_region 5 with fail; refine wR (xmL ?_); refine xaL (.int .i64 ((4+j:Nat):Int)) (vM .i64 _ _ _ _ _ _ _ rfl rfl rfl Yj _) ?_; refine xmL ?_; refine xpL (.pointer (some ⟨R,0,none⟩)) ?_; refine xpL (.pointer (some ⟨R,97,none⟩)) ?_; refine xaL _ (qL 3 _ _ _ rfl rfl JW (M.get (mI 2 rfl) 97 _ (rG s 1))) ?_; refine xmL ?_; refine xaL (.int .i64 ((8*j:Nat):Int)) (aM .i64 _ _ _ _ _ _ _ rfl rfl rfl Yj _) ?_; refine xaL (.int .i64 ((s.n/256^j:Nat):Int)) (q0f .i64 .i64 _ _ _ _ _ _ _ rfl rfl rfl JK (j2c s.n j JK) _) ?_; refine xaL (.int .u8 (dig s.n j)) (mZ .i64 .u8 _ _ _ _ _ rfl JU Tryz.underlying5 JU rfl (by rw [IntKind.wrap_u8]; unfold dig; omega) _) ?_; refine xaL (.pointer (some ⟨B2,0+(4+j),none⟩)) (uD 96 5 12 .i64 B2 0 (4+j) _ _ Tryz.underlying96 JW JK rfl rfl rfl _) ?_; have hj12:4+j<(scl s.n j).length:=by show 4+j<12; omega
    rw [nZ]; refine jG rfl (xR (.int .u8 (dig s.n j)) B2 (4+j) 5 _ _ rfl rfl rfl rfl rfl (M.isSome mS (4+j) hj12) (M.free mS (4+j) hj12) JU) ?_; simp only [Act.put]; replace M:=M.set (4+j) hj12 (.int .u8 (dig s.n j)); rw [q7v s.n j hlt] at M; replace OF:=OF.and1 ((Off.refl [B2] _).set (b:=B2) mS (4+j) (.int .u8 (dig s.n j))) (.inr JK); clear hj12; generalize wr.setCell ⟨B2,4+j,none⟩ (.int .u8 (dig s.n j))=w4 at M OF ⊢; refine xT ?_; have HS:=show Hid _ from (And.intro M OF); clear M OF; exact Qp
  obtain rfl:j=8:=by omega
  go_upto_region 3 with fail; refine wR (xmL ?_); refine xaL (.bool false) (gP .i64 _ _ _ _ _ _ rfl rfl rfl false JG _) (xT ?_); go_upto_region 6 with fail; refine wR ?_; refine xaL (.agg #[.int .u8 (scz s.n 8 0),.int .u8 (scz s.n 8 1),.int .u8 (scz s.n 8 2),.int .u8 (scz s.n 8 3),.int .u8 (scz s.n 8 4),.int .u8 (scz s.n 8 5),.int .u8 (scz s.n 8 6),.int .u8 (scz s.n 8 7),.int .u8 (scz s.n 8 8),.int .u8 (scz s.n 8 9),.int .u8 (scz s.n 8 10),.int .u8 (scz s.n 8 11)]) (jD 96 _ ⟨B2,0,none⟩ [.int .u8 (scz s.n 8 0),.int .u8 (scz s.n 8 1),.int .u8 (scz s.n 8 2),.int .u8 (scz s.n 8 3),.int .u8 (scz s.n 8 4),.int .u8 (scz s.n 8 5),.int .u8 (scz s.n 8 6),.int .u8 (scz s.n 8 7),.int .u8 (scz s.n 8 8),.int .u8 (scz s.n 8 9),.int .u8 (scz s.n 8 10),.int .u8 (scz s.n 8 11)] rfl rfl JW JW (M.rangeAt mS)) ?_; replace M:=M.swap; refine jG rfl (jC [.int .u8 (scz s.n 8 0),.int .u8 (scz s.n 8 1),.int .u8 (scz s.n 8 2),.int .u8 (scz s.n 8 3),.int .u8 (scz s.n 8 4),.int .u8 (scz s.n 8 5),.int .u8 (scz s.n 8 6),.int .u8 (scz s.n 8 7),.int .u8 (scz s.n 8 8),.int .u8 (scz s.n 8 9),.int .u8 (scz s.n 8 10),.int .u8 (scz s.n 8 11)] B1 0 96 _ _ rfl rfl rfl (M.thereP mS 0 12 (nB rfl)) JU (List.all_eq_true.1 (rfl:([.int .u8 (scz s.n 8 0),.int .u8 (scz s.n 8 1),.int .u8 (scz s.n 8 2),.int .u8 (scz s.n 8 3),.int .u8 (scz s.n 8 4),.int .u8 (scz s.n 8 5),.int .u8 (scz s.n 8 6),.int .u8 (scz s.n 8 7),.int .u8 (scz s.n 8 8),.int .u8 (scz s.n 8 9),.int .u8 (scz s.n 8 10),.int .u8 (scz s.n 8 11)]:List Value).all (fun u=>u.oneCell')=true))) ?_; simp only [Act.put]; replace M:=M.setPart [.int .u8 (scz s.n 8 0),.int .u8 (scz s.n 8 1),.int .u8 (scz s.n 8 2),.int .u8 (scz s.n 8 3),.int .u8 (scz s.n 8 4),.int .u8 (scz s.n 8 5),.int .u8 (scz s.n 8 6),.int .u8 (scz s.n 8 7),.int .u8 (scz s.n 8 8),.int .u8 (scz s.n 8 9),.int .u8 (scz s.n 8 10),.int .u8 (scz s.n 8 11)] 0 (nB rfl); replace OF:=OF.and1 ((Off.refl [B1] _).setAll (b:=B1) mS 0 [.int .u8 (scz s.n 8 0),.int .u8 (scz s.n 8 1),.int .u8 (scz s.n 8 2),.int .u8 (scz s.n 8 3),.int .u8 (scz s.n 8 4),.int .u8 (scz s.n 8 5),.int .u8 (scz s.n 8 6),.int .u8 (scz s.n 8 7),.int .u8 (scz s.n 8 8),.int .u8 (scz s.n 8 9),.int .u8 (scz s.n 8 10),.int .u8 (scz s.n 8 11)]) (.inr JK); generalize wr.setCells B1 0 [.int .u8 (scz s.n 8 0),.int .u8 (scz s.n 8 1),.int .u8 (scz s.n 8 2),.int .u8 (scz s.n 8 3),.int .u8 (scz s.n 8 4),.int .u8 (scz s.n 8 5),.int .u8 (scz s.n 8 6),.int .u8 (scz s.n 8 7),.int .u8 (scz s.n 8 8),.int .u8 (scz s.n 8 9),.int .u8 (scz s.n 8 10),.int .u8 (scz s.n 8 11)]=w5 at M OF ⊢; refine xT ?_; have c1_:=M.part mS 0 (row .u8 12 (snz s.n)) rfl; have hbel:Below w.heap.size w w5:=⟨M.below.os.trans hb0.os.symm,M.below.tape.trans hb0.tape.symm,M.below.output.trans hb0.output.symm,OF.size,fun b hb=>OF.blk b hb VZ⟩
  clear M OF; go_wp2; refine bRq (v:=.agg (row .u8 12 (snz s.n)).toArray) (rL 2 96 ⟨B1,0,none⟩ (row .u8 12 (snz s.n)) rfl rfl JW JW c1_) rfl ?_; exact ⟨rfl,hbel⟩
theorem Own.toL {w:World} {base n:Nat} {f:Nat→Int} {v:Value} (h:Own w base 5 .u8 n f v):OwnL w base ((List.range n).map f) v:=by
 unfold OwnL
 rw [List.length_map,List.length_range]
 exact h.congr fun j hj=>(gW n f j hj).symm
theorem mL (w0 w:World) (R:Nat) (l:List (Nat × List Value)) (s:Sym) (hsw:SymW s) (hn:s.n<4611686018427387904) (sp:Option Addr) (cap:Nat) (b:List Int) (hlen:b.length≤35184372088832) (hnil:sp=none→cap=0) (hb:Byts b) (M:Mm w0 ((R,stc s)::l) w) (hs:SrcA [R] w sp b.length (bl b)) :
 Calls Tryz.prog 41 #[.pointer (some ⟨R,0,none⟩),.slice sp b.length cap] w fun e w'=>(∃ v,e=.returned v∧OwnL w' w.heap.size (qG s b) v)∧Mm w0 ((R,stc (qN s b))::l) w'∧Off [R] w w':=by
 have hRw:=M.lt mS; have hR0:=M.below.size; have hwz:=xnR w.heap.size
 have hML0:∀ p∈l,p.1<w.heap.size:=fun p hp=>(M.rows p (mT _ hp)).2.2
 have OF:=Off.refl [R] w
 go_enter Tryz.func41,Tryz.ntmps41
 have hML:∀ p∈(R,stc s)::l,p.1<w.heap.size:=fun p hp=>by rcases xc1 hp with rfl | hp; exact hRw; exact hML0 p hp
 go_upto_region 0 with fail; refine wR (xmL ?_); refine xT ?_; go_upto_region 1 with fail; refine wR (xaL (w':=w.alloc (.cells #[] 5)) (.slice (some ⟨w.heap.size,0,none⟩) 0 0) JU ?_)
 have O_1:Own (w.alloc (.cells #[] 5)) w.heap.size 5 .u8 0 (fun _=>0) (.slice (some ⟨w.heap.size,0,none⟩) 0 0):=Own.lit w w.heap.size 5 .u8 0 (fun _=>0) hwz Jj
 have hlb:=(Below.refl w.heap.size w).alloc (xnR _) (.cells #[] 5); replace hwz:=xnT hwz hlb.size; replace M:=M.call hlb; replace OF:=OF.below hlb; clear hlb; generalize w.alloc (.cells #[] 5)=w1 at M O_1 hwz OF ⊢; generalize (some ⟨w.heap.size,0,none⟩:Option Addr)=p1 at O_1 ⊢; refine xmL ?_
 obtain ⟨v,w2,hr,O_2,hgr,_⟩:=jH (P:=Tryz.prog) (ty:=32) Tryz.underlying32 vG O_1 sp b.length cap (bl b) (hs.off OF).1 hnil Jj JK hwz
 replace M:=M.grown hgr w.heap.size hML JK hwz (fun b hb=>(World.ownsRow.lt O_1 b hb).1); replace OF:=OF.grown hgr (fun b hb=>.inr (World.ownsRow.lt O_1 b hb).1); replace hwz:=xnT hwz hgr.size; refine xaL v (jW _ _ 32 _ _ _ rfl rfl rfl hr) ?_; clear hr hgr O_1
 obtain ⟨p2,c2,rfl,_,_⟩:=O_2.bytes
 refine xmL (xT ?_)
 cases hhas:s.has with
 | true =>
   go_upto_region 2 with fail; refine wR (xmL ?_); refine xpL (.pointer (some ⟨R,0,none⟩)) ?_; refine xpL (.pointer (some ⟨R,96,none⟩)) ?_; refine xaL (.bool true) (qL 4 _ _ _ rfl rfl JW Vs) ?_; refine xT ?_; go_upto_region 3 with fail; refine hdG M ?_; clear M; intro M; have hdr:=(Below.refl w2.heap.size w2).drew; replace OF:=OF.below hdr; replace O_2:=O_2.below hdr; replace hwz:=xnT hwz hdr.size; clear hdr; generalize w2.drew=w3 at M hwz OF O_2 ⊢; refine xmH 0 13 M ?_; refine xrH 1 14 rfl (.pointer (some ⟨R,0,none⟩)) (fun _ M=>JU) M ?_; refine xrH 2 15 rfl (.pointer (some ⟨R,64,none⟩)) (fun _ M=>JU) M ?_; refine xrH 3 16 rfl (.agg (row .u8 32 s.k).toArray) Ko M ?_; refine xmH 4 17 M ?_; refine xmH 6 19 M ?_; refine xrH 7 20 rfl (.pointer (some ⟨R,0,none⟩)) (fun _ M=>JU) M ?_; refine xrH 8 21 rfl (.pointer (some ⟨R,0,none⟩)) (fun _ M=>JU) M ?_; refine xrH 9 22 rfl (.slice (some ⟨R,0,none⟩) 32 32) Uu M ?_; refine xmH 10 23 M ?_; have hC:Calls Tryz.prog 71 #[.pointer (some ⟨R,0,none⟩)] w3 (fun e w'=>e=.returned (.agg (row .u8 12 (snz s.n)).toArray)∧Below w3.heap.size w3 w'):=rN w0 _ R _ s M; refine yaH 5 18 (hC) ?_; rintro e w4 ⟨rfl,l⟩; replace M:=M.call l; refine ⟨_,rfl,M,?_⟩; replace OF:=OF.below l; replace O_2:=O_2.below l; replace hwz:=xnT hwz l.size; clear l hC; simp only [aP,lI,l0,lS]; refine yaH 11 24 (j3g s.k (snz s.n) hsw.k (j0t s.n) (some ⟨R,0,none⟩) 32 32 JG Jq s.h hsw.h sp b.length cap JK (bl b) hb.bl _ (M.srcRow mS 0 32 _ (q2r s)) (hs.off OF).1) ?_; rintro e w5 ⟨sp',cap',rfl,O_s,l1⟩; replace M:=M.call l1; replace OF:=OF.below l1; have O_5:OwnL w5 w.heap.size (qG s b) (.slice sp' (b.length+16) cap'):=by rw [q2s hhas]; exact Own.toL (Own.lower O_s hwz)
   replace hwz:=xnT hwz l1.size; clear l1 O_s O_2; refine ⟨_,rfl,M,nH ?_⟩; refine xmH 12 5 M ?_; refine wE JU ?_ _
   first | show Exit.then _ _ _ _ _ | show Exit.inBlock _ _ _ _ _
   go_upto_region 4 with fail; refine wR (xmL ?_); refine xpL (.pointer (some ⟨R,0,none⟩)) ?_; refine xpL (.pointer (some ⟨R,97,none⟩)) ?_; refine xaL _ (qL 3 _ _ _ rfl rfl JW (M.get mS 97 _ (rG s 1))) ?_; refine xaL (.int .i64 ((s.n+1:Nat):Int)) (vM .i64 _ _ _ _ _ _ _ rfl rfl rfl Yj _) ?_; refine xpL (.pointer (some ⟨R,0,none⟩)) ?_; refine xpL (.pointer (some ⟨R,97,none⟩)) ?_; refine jG rfl (xR (.int .i64 ((s.n+1:Nat):Int)) R 97 3 _ _ rfl rfl rfl rfl rfl (M.isSome mS 97 YV) (M.free mS 97 YV) JU) ?_; simp only [Act.put]; replace M:=M.set 97 YV (.int .i64 ((s.n+1:Nat):Int)); rw [show (.int .i64 ((s.n+1:Nat):Int):Value)=.int .i64 ((s.n+1:Nat):Int) from rfl,dH] at M; replace OF:=OF.and1 ((Off.refl [R] _).set (b:=R) mS 97 (.int .i64 ((s.n+1:Nat):Int))) (.inl mS); replace O_5:=Own.off1 O_5 ((Off.refl [R] _).set (b:=R) mS 97 (.int .i64 ((s.n+1:Nat):Int))) JK; generalize w5.setCell ⟨R,97,none⟩ (.int .i64 ((s.n+1:Nat):Int))=w6 at M OF O_5 ⊢; refine xT ?_; have hol:b.length+16=(qG s b).length:=by rw [zD,if_pos hhas]
   rw [hol] at O_5 ⊢; clear hol; go_upto_region 5 with fail; refine wR (xm2 ?_); refine xcL (mB w0 _ R _ (⟨s.h,s.c,s.k,s.has,s.n+1⟩:Sym) hsw.h sp' cap' (qG s b) (by rw [zD,if_pos hhas]; omega) O_5.nilCap (kP hb) M (SrcA.of_own O_5 (fun y hy=>by obtain rfl:=xm1 hy; exact hRw))) ?_; rintro e w7 ⟨rfl,M',o1⟩; clear M; have M:=M'; clear M'; replace OF:=OF.trans o1; replace O_5:=Own.off1 O_5 o1 JK; clear o1; refine xeL ?_; refine xT ?_; go_upto_region 6 with fail; refine wR (xm2 ?_); refine xT ?_; rw [← sN s (qG s b) hhas] at M; have HS:=show Hid _ from (And.intro O_5 (And.intro M OF)); clear O_5 M OF; go_wp2; go_ret
   exact ⟨⟨_,rfl,HS.out.1⟩,HS.out.2⟩
 | false =>
   go_upto_region 2 with fail; refine wR (xmL ?_); refine xpL (.pointer (some ⟨R,0,none⟩)) ?_; refine xpL (.pointer (some ⟨R,96,none⟩)) ?_; refine xaL (.bool false) (qL 4 _ _ _ rfl rfl JW Vs) ?_; refine xT ?_; have hso:qG s b=b:=by unfold qG; rw [hhas]; rfl
   have hsn:kX s=s:=by unfold kX; rw [hhas]; rfl
   have e0:Own w2 w.heap.size 5 .u8 (0+b.length) (bl b) (.slice p2 (0+b.length) c2):=Own.congr O_2 fun j _=>by unfold app; rw [if_neg JK,Nat.sub_zero]
   clear O_2; have O_2:OwnL w2 w.heap.size b (.slice p2 (0+b.length) c2):=by unfold OwnL; rw [nZ] at e0 ⊢; exact e0
   clear e0; rw [show 0+b.length=b.length by omega] at O_2 ⊢; go_upto_region 5 with fail; refine wR (xm2 ?_); refine xcL (mB w0 _ R _ s hsw.h p2 c2 b JK O_2.nilCap hb M (SrcA.of_own O_2 (fun y hy=>by obtain rfl:=xm1 hy; exact hRw))) ?_; rintro e w8 ⟨rfl,M',o1⟩; clear M; have M:=M'; clear M'; replace OF:=OF.trans o1; replace O_2:=Own.off1 O_2 o1 JK; clear o1; refine xeL (xT ?_); go_upto_region 6 with fail; refine wR (xm2 ?_); refine xT ?_; have hss:qN s b=jU s b:=by unfold qN; rw [hso,hsn]
   have HS:=show Hid _ from (And.intro O_2 (And.intro M OF)); clear O_2 M OF; go_wp2; go_ret
   exact ⟨⟨_,rfl,by rw [hso]; exact HS.out.1⟩,by rw [hss]; exact HS.out.2.1,HS.out.2.2⟩
theorem j3b (w0 w:World) (R:Nat) (l:List (Nat × List Value)) (s:Sym) (hsw:SymW s) (hn:s.n<4611686018427387904) (sp:Option Addr) (cap:Nat) (b:List Int) (hlen:b.length≤35184372088832) (hnil:sp=none→cap=0) (hb:Byts b) (hcap:b.length≤cap) (M:Mm w0 ((R,stc s)::l) w) (hs:SrcA [R] w sp b.length (bl b)) :
 Calls Tryz.prog 43 #[.pointer (some ⟨R,0,none⟩),.slice sp b.length cap] w fun e w'=>(∃ v,e=.returned (.tuple #[v,.int .i64 (soE s b)])∧OwnL w' w.heap.size (soT s b) v)∧Mm w0 ((R,stc (xH s b))::l) w'∧Off [R] w w':=by
 have hRw:=M.lt mS; have hR0:=M.below.size; have hwz:=xnR w.heap.size
 have hML0:∀ p∈l,p.1<w.heap.size:=fun p hp=>(M.rows p (mT _ hp)).2.2
 have OF:=Off.refl [R] w
 go_enter Tryz.func43,Tryz.ntmps43
 have hML:∀ p∈(R,stc s)::l,p.1<w.heap.size:=fun p hp=>by rcases xc1 hp with rfl | hp; exact hRw; exact hML0 p hp
 go_upto_region 0 with fail; refine wR (xm2 ?_); refine xT ?_; go_upto_region 1 with fail; refine wR (xaL (w':=w.alloc (.cells #[] 5)) (.slice (some ⟨w.heap.size,0,none⟩) 0 0) JU ?_)
 have O_1:Own (w.alloc (.cells #[] 5)) w.heap.size 5 .u8 0 (fun _=>0) (.slice (some ⟨w.heap.size,0,none⟩) 0 0):=Own.lit w w.heap.size 5 .u8 0 (fun _=>0) hwz Jj
 have hlb:=(Below.refl w.heap.size w).alloc (xnR _) (.cells #[] 5); replace hwz:=xnT hwz hlb.size; replace M:=M.call hlb; replace OF:=OF.below hlb; clear hlb; generalize w.alloc (.cells #[] 5)=w1 at M O_1 hwz OF ⊢; generalize (some ⟨w.heap.size,0,none⟩:Option Addr)=p1 at O_1 ⊢; refine xmL ?_
 obtain ⟨v,w2,hr,O_2,hgr,_⟩:=jH (P:=Tryz.prog) (ty:=32) Tryz.underlying32 vG O_1 sp b.length cap (bl b) (hs.off OF).1 hnil Jj JK hwz
 replace M:=M.grown hgr w.heap.size hML JK hwz (fun b hb=>(World.ownsRow.lt O_1 b hb).1); replace OF:=OF.grown hgr (fun b hb=>.inr (World.ownsRow.lt O_1 b hb).1); replace hwz:=xnT hwz hgr.size; refine xaL v (jW _ _ 32 _ _ _ rfl rfl rfl hr) ?_; clear hr hgr O_1
 obtain ⟨p2,c2,rfl,_,_⟩:=O_2.bytes
 refine xmL (xT ?_)
 cases hhas:s.has with
 | true =>
   go_upto_region 2 with fail; refine wR (xmL ?_); refine xpL (.pointer (some ⟨R,0,none⟩)) ?_; refine xpL (.pointer (some ⟨R,96,none⟩)) ?_; refine xaL (.bool true) (qL 4 _ _ _ rfl rfl JW Vs) ?_; refine xT ?_; go_upto_region 3 with fail; refine hdG M ?_; clear M; intro M; have hdr:=(Below.refl w2.heap.size w2).drew; replace OF:=OF.below hdr; replace O_2:=O_2.below hdr; replace hwz:=xnT hwz hdr.size; clear hdr; generalize w2.drew=w3 at M hwz OF O_2 ⊢; refine xmH 0 17 M ?_; refine xrH 1 18 rfl (.pointer (some ⟨R,0,none⟩)) (fun _ M=>JU) M ?_; refine xrH 2 19 rfl (.pointer (some ⟨R,64,none⟩)) (fun _ M=>JU) M ?_; refine xrH 3 20 rfl (.agg (row .u8 32 s.k).toArray) Ko M ?_; refine xmH 4 21 M ?_; refine xmH 6 23 M ?_; refine xrH 7 24 rfl (.pointer (some ⟨R,0,none⟩)) (fun _ M=>JU) M ?_; refine xrH 8 25 rfl (.pointer (some ⟨R,0,none⟩)) (fun _ M=>JU) M ?_; refine xrH 9 26 rfl (.slice (some ⟨R,0,none⟩) 32 32) Uu M ?_; refine xmH 10 27 M ?_; have hC:Calls Tryz.prog 71 #[.pointer (some ⟨R,0,none⟩)] w3 (fun e w'=>e=.returned (.agg (row .u8 12 (snz s.n)).toArray)∧Below w3.heap.size w3 w'):=rN w0 _ R _ s M; refine yaH 5 22 (hC) ?_; rintro e w4 ⟨rfl,l⟩; replace M:=M.call l; refine ⟨_,rfl,M,?_⟩; replace OF:=OF.below l; replace O_2:=O_2.below l; replace hwz:=xnT hwz l.size; clear l hC; simp only [aP,lI,l0,lS]; refine yaH 11 28 (j3h s.k (snz s.n) hsw.k (j0t s.n) (some ⟨R,0,none⟩) 32 32 JG Jq s.h hsw.h sp b.length cap JK hcap hnil (bl b) hb.bl _ (M.srcRow mS 0 32 _ (q2r s)) (hs.off OF).1) ?_; rintro e w5 ⟨sp',cap',rfl,O_s,l1⟩; replace M:=M.call l1; replace OF:=OF.below l1; have O_5:OwnL w5 w.heap.size (soT s b) (.slice sp' (aoL s.k (snz s.n) 32 s.h b.length (bl b)) cap'):=by rw [rM hhas]; exact Own.toL (Own.lower O_s hwz)
   have hL_:aoL s.k (snz s.n) 32 s.h b.length (bl b)=(soT s b).length:=by rw [rM hhas,List.length_map,List.length_range]
   rw [hL_] at O_5 ⊢; rw [← lM hhas]; replace hwz:=xnT hwz l1.size; clear l1 O_s hL_ O_2; refine ⟨_,rfl,M,nH ?_⟩; refine xmH 12 16 M ?_; refine xmH 13 29 M ?_; refine xmH 14 30 M ?_; refine xmH 15 7 M ?_; refine xmH 16 8 M ?_; refine wE JU ?_ _
   first | show Exit.then _ _ _ _ _ | show Exit.inBlock _ _ _ _ _
   by_cases hE:soE s b=0
   · go_upto_region 4 with fail; refine wR (xmL ?_); refine xaL (.bool false) (xE .i64 _ _ _ _ _ _ rfl rfl rfl false (by rw [hE]; rfl) _) (xT ?_); go_upto_region 6 with fail; refine wR (xm2 ?_); refine xT ?_; go_upto_region 7 with fail; refine wR ?_; refine xmL ?_; refine xpL (.pointer (some ⟨R,0,none⟩)) ?_; refine xpL (.pointer (some ⟨R,97,none⟩)) ?_; refine xaL _ (qL 3 _ _ _ rfl rfl JW (M.get mS 97 _ (rG s 1))) ?_; refine xaL (.int .i64 ((s.n+1:Nat):Int)) (vM .i64 _ _ _ _ _ _ _ rfl rfl rfl Yj _) ?_; refine xpL (.pointer (some ⟨R,0,none⟩)) ?_; refine xpL (.pointer (some ⟨R,97,none⟩)) ?_; refine jG rfl (xR (.int .i64 ((s.n+1:Nat):Int)) R 97 3 _ _ rfl rfl rfl rfl rfl (M.isSome mS 97 YV) (M.free mS 97 YV) JU) ?_; simp only [Act.put]; replace M:=M.set 97 YV (.int .i64 ((s.n+1:Nat):Int)); rw [show (.int .i64 ((s.n+1:Nat):Int):Value)=.int .i64 ((s.n+1:Nat):Int) from rfl,dH] at M; replace OF:=OF.and1 ((Off.refl [R] _).set (b:=R) mS 97 (.int .i64 ((s.n+1:Nat):Int))) (.inl mS); replace O_5:=Own.off1 O_5 ((Off.refl [R] _).set (b:=R) mS 97 (.int .i64 ((s.n+1:Nat):Int))) JK; generalize w5.setCell ⟨R,97,none⟩ (.int .i64 ((s.n+1:Nat):Int))=w6 at M OF O_5 ⊢; refine xT ?_; go_upto_region 8 with fail; refine wR (xm2 ?_); refine xcL (mB w0 _ R _ (⟨s.h,s.c,s.k,s.has,s.n+1⟩:Sym) hsw.h sp cap b JK hnil hb M (hs.off OF)) ?_; rintro e w7 ⟨rfl,M',o1⟩; clear M; have M:=M'; clear M'; replace OF:=OF.trans o1; replace O_5:=Own.off1 O_5 o1 JK; clear o1; refine xeL (xT ?_); go_upto_region 9 with fail; refine wR (xm3 ?_); refine xT ?_; rw [← sN s b hhas] at M; have HS:=show Hid _ from (And.intro O_5 (And.intro M OF)); clear O_5 M OF; go_wp2; go_ret2
     exact ⟨⟨.slice sp' (soT s b).length cap',by rw [hE]; rfl,HS.out.1⟩,by unfold xH; rw [if_pos hE]; exact HS.out.2.1,HS.out.2.2⟩
   go_upto_region 4 with fail; refine wR (xmL ?_); refine xaL (.bool true) (xE .i64 _ _ _ _ _ _ rfl rfl rfl true (by rw [bne_iff_ne]; exact hE) _) (xT ?_); go_upto_region 5 with fail; refine wR (xm3 ?_); refine xT ?_; have O_e:OwnL w5 w.heap.size (soT s b) (.slice none 0 0):=by rw [j7w hE]; exact World.ownsRow_nil _ _ _ _
   have HS:=show Hid _ from (And.intro O_e (And.intro M OF)); clear O_e M OF; go_wp2; go_ret2
   exact ⟨⟨_,rfl,HS.out.1⟩,by unfold xH; rw [if_neg hE]; exact HS.out.2.1,HS.out.2.2⟩
 | false =>
   go_upto_region 2 with fail; refine wR (xmL ?_); refine xpL (.pointer (some ⟨R,0,none⟩)) ?_; refine xpL (.pointer (some ⟨R,96,none⟩)) ?_; refine xaL (.bool false) (qL 4 _ _ _ rfl rfl JW Vs) ?_; refine xT ?_; have hso:soT s b=b:=by unfold soT; rw [hhas]; rfl
   have hsn:kX s=s:=by unfold kX; rw [hhas]; rfl
   have hE:soE s b=0:=by unfold soE; rw [hhas]; rfl
   have e0:Own w2 w.heap.size 5 .u8 (0+b.length) (bl b) (.slice p2 (0+b.length) c2):=Own.congr O_2 fun j _=>by unfold app; rw [if_neg JK,Nat.sub_zero]
   clear O_2; have O_2:OwnL w2 w.heap.size b (.slice p2 (0+b.length) c2):=by unfold OwnL; rw [nZ] at e0 ⊢; exact e0
   clear e0; rw [show 0+b.length=b.length by omega] at O_2 ⊢; go_upto_region 8 with fail; refine wR (xm2 ?_); refine xcL (mB w0 _ R _ s hsw.h sp cap b JK hnil hb M (hs.off OF)) ?_; rintro e w8 ⟨rfl,M',o1⟩; clear M; have M:=M'; clear M'; replace OF:=OF.trans o1; replace O_2:=Own.off1 O_2 o1 JK; clear o1; refine xeL (xT ?_); go_upto_region 9 with fail; refine wR (xm3 ?_); refine xT ?_; have hss:xH s b=jU s b:=by unfold xH; rw [if_pos hE,hsn]
   have HS:=show Hid _ from (And.intro O_2 (And.intro M OF)); clear O_2 M OF; go_wp2; go_ret2
   exact ⟨⟨.slice p2 b.length c2,by rw [hE]; rfl,by rw [hso]; exact HS.out.1⟩,by rw [hss]; exact HS.out.2.1,HS.out.2.2⟩
theorem j5d:In 256 32 (fun _=>0):=fun _ _=>⟨Int.le_refl _,show (0:Int)<256 by decide⟩
theorem j8u (x:Fin QN):decide (val 256 (bl (lby x)) 32=val 256 (fun _=>0) 32)=decide (x=0):=by
 have h0:val 256 (fun _=>0) 32=0:=(gT _ j5d).2 fun _ _=>rfl
 rw [h0]
 exact decide_eq_decide.2 (by rw [gT _ (cN x)]; exact q4k x)
def ekd (a b:Nat→Int):Int:=if tm a b=0 then 20 else 0
theorem cP (k u:Nat→Int) (hk:In 256 32 k) (hu:In 256 32 u) (w:World) :
 Calls Tryz.prog 68 #[(.agg (row .u8 32 (k)).toArray),(.agg (row .u8 32 (u)).toArray)] w fun e w'=>e=.returned (.tuple #[(.agg (row .u8 32 (bl (lby (tm k u)))).toArray),.int .i64 (ekd k u)])∧Below w.heap.size w w':=by
 have hwz:=xnR w.heap.size; have M:=Mm.init w
 go_enter Tryz.func68,Tryz.ntmps68
 go_upto_region 0 with fail; refine wR ?_; refine nbN (row .u8 32 k) 23 M hwz ?_; clear M hwz; intro w1 B1 hB_B1 M hwz
 refine nbN (row .u8 32 u) 23 M hwz ?_; clear M hwz; intro w2 B2 hB_B2 M hwz
 refine nbN (row .u8 32 (fun _=>0)) 23 M hwz ?_; clear M hwz; intro w3 B3 hB_B3 M hwz
 refine xmL (xT ?_); go_upto_region 1 with fail; refine wR (xaL (.agg (row .u8 32 k).toArray) (jD 23 _ ⟨B1,0,none⟩ (row .u8 32 k) rfl rfl JW JH (M.part (mI 2 rfl) 0 _ Jd)) ?_)
 refine xaL (.agg (row .u8 32 u).toArray) (jD 23 _ ⟨B2,0,none⟩ (row .u8 32 u) rfl rfl JW JH (M.part (mT _ mS) 0 _ Jd)) ?_; refine clN (aS k u hk hu _) M hwz ?_; clear M hwz; intro w4 M hwz
 refine nbN (row .u8 32 (fun _=>0)) 23 M hwz ?_; clear M hwz; intro w5 B5 hB_B5 M hwz
 refine jG rfl (jC (row .u8 32 (bl (lby (tm k u)))) B5 0 23 _ _ rfl rfl rfl (M.thereP mS 0 32 (nB rfl)) JU (jT .u8 32 (bl (lby (tm k u))))) ?_; simp only [Act.put]; replace M:=M.setAll (row .u8 32 (bl (lby (tm k u)))) Jg
 replace hwz:=xnT hwz (Off.size ((Off.refl [B5] _).setAll (b:=B5) mS 0 (row .u8 32 (bl (lby (tm k u)))))); generalize w5.setCells B5 0 (row .u8 32 (bl (lby (tm k u))))=w6 at M hwz ⊢; refine xT ?_
 by_cases h0:tm k u=0
 · replace h0:=show Hid _ from h0
   go_upto_region 2 with fail; refine wR ?_; refine zV (.agg (row .u8 32 (bl (lby (tm k u)))).toArray) rfl (jD 23 _ ⟨B5,0,none⟩ (row .u8 32 (bl (lby (tm k u)))) rfl rfl JW JH (M.part mS 0 _ Jd)) (nL ?_); refine xpL (.agg (row .u8 32 (fun _=>0)).toArray) ?_; refine xaL (.bool true) (x5m 32 (bl (lby (tm k u))) (fun _=>0) 23 5 _ _ _ rfl rfl rfl Tryz.underlying23 Tryz.underlying5 JW JU (cN _) j5d true (by rw [j8u]; exact decide_eq_true h0.out) _) (xT ?_); go_upto_region 3 with fail; refine wR ?_; refine zV (.agg (row .u8 32 (bl (lby (tm k u)))).toArray) rfl (jD 23 _ ⟨B5,0,none⟩ (row .u8 32 (bl (lby (tm k u)))) rfl rfl JW JH (M.part mS 0 _ Jd)) (nL ?_); replace M:=M.swap; refine jG rfl (jC (row .u8 32 (bl (lby (tm k u)))) B3 0 23 _ _ rfl rfl rfl (M.thereP mS 0 32 (nB rfl)) JU (jT .u8 32 (bl (lby (tm k u))))) ?_; simp only [Act.put]; replace M:=M.setAll (row .u8 32 (bl (lby (tm k u)))) Jg; replace hwz:=xnT hwz (Off.size ((Off.refl [B3] _).setAll (b:=B3) mS 0 (row .u8 32 (bl (lby (tm k u)))))); generalize w6.setCells B3 0 (row .u8 32 (bl (lby (tm k u))))=w7 at M hwz ⊢; refine xmL (xT ?_); have c1_:=M.part mS 0 (row .u8 32 (bl (lby (tm k u)))) Jd; have hbel:=M.below; clear M; have hA:=show Hid (ekd k u=20) from if_pos h0.out; clear h0; go_wp2; refine bRq (v:=.tuple #[(.agg (row .u8 32 (bl (lby (tm k u)))).toArray),.int .i64 20]) (uU 4 5 23 ⟨B3,0,none⟩ (row .u8 32 (bl (lby (tm k u)))) _ rfl rfl rfl JW JH c1_) rfl ?_
   exact ⟨by rw [hA.out],hbel⟩
 replace h0:=show Hid _ from h0
 go_upto_region 2 with fail; refine wR ?_; refine zV (.agg (row .u8 32 (bl (lby (tm k u)))).toArray) rfl (jD 23 _ ⟨B5,0,none⟩ (row .u8 32 (bl (lby (tm k u)))) rfl rfl JW JH (M.part mS 0 _ Jd)) (nL ?_); refine xpL (.agg (row .u8 32 (fun _=>0)).toArray) ?_
 refine xaL (.bool false) (x5m 32 (bl (lby (tm k u))) (fun _=>0) 23 5 _ _ _ rfl rfl rfl Tryz.underlying23 Tryz.underlying5 JW JU (cN _) j5d false (by rw [j8u]; exact decide_eq_false h0.out) _) (xT ?_); go_upto_region 4 with fail; refine wR ?_
 refine zV (.agg (row .u8 32 (bl (lby (tm k u)))).toArray) rfl (jD 23 _ ⟨B5,0,none⟩ (row .u8 32 (bl (lby (tm k u)))) rfl rfl JW JH (M.part mS 0 _ Jd)) (nL ?_); replace M:=M.swap
 refine jG rfl (jC (row .u8 32 (bl (lby (tm k u)))) B3 0 23 _ _ rfl rfl rfl (M.thereP mS 0 32 (nB rfl)) JU (jT .u8 32 (bl (lby (tm k u))))) ?_; simp only [Act.put]; replace M:=M.setAll (row .u8 32 (bl (lby (tm k u)))) Jg
 replace hwz:=xnT hwz (Off.size ((Off.refl [B3] _).setAll (b:=B3) mS 0 (row .u8 32 (bl (lby (tm k u)))))); generalize w6.setCells B3 0 (row .u8 32 (bl (lby (tm k u))))=w8 at M hwz ⊢; refine xmL (xT ?_); have c1_:=M.part mS 0 (row .u8 32 (bl (lby (tm k u)))) Jd; have hbel:=M.below; clear M
 have hA:=show Hid (ekd k u=0) from if_neg h0.out; clear h0; go_wp2; refine bRq (v:=.tuple #[(.agg (row .u8 32 (bl (lby (tm k u)))).toArray),.int .i64 0]) (uU 4 5 23 ⟨B3,0,none⟩ (row .u8 32 (bl (lby (tm k u)))) _ rfl rfl rfl JW JH c1_) rfl ?_
 exact ⟨by rw [hA.out],hbel⟩
theorem x2a (w0 w:World) (R:Nat) (l:List (Nat × List Value)) (s:Sym) (hw:In 256 32 s.c) (sp:Option Addr) (cap:Nat) (x:Fin QN) (hnil:sp=none→cap=0) (M:Mm w0 ((R,stc s)::l) w) (hs:SrcA [R] w sp 32 (bl (lby x))) :
 Calls Tryz.prog 69 #[.pointer (some ⟨R,0,none⟩),.slice sp 32 cap] w fun e w'=>e=.returned (.tuple #[])∧Mm w0 ((R,stc (jZ s (lby x)))::l) w'∧Off [R] w w':=by
 have:=q3g w0 w R l s hw sp cap (lby x) (by rw [kH]; decide) hnil (cL x) M (by rw [kH]; exact hs)
 rw [kH] at this
 exact this
def skd (s:Sym) (a b:Nat→Int):Sym:=if tm a b=0 then s else jZ s (lby (tm a b))
theorem uZ (w0 w:World) (Q:Nat) (l:List (Nat × List Value)) (s:Sym) (hw:In 256 32 s.c) (a b:Nat→Int) (ha:In 256 32 a) (hb:In 256 32 b) (M:Mm w0 ((Q,stc s)::l) w) :
 Calls Tryz.prog 40 #[.pointer (some ⟨Q,0,none⟩),(.agg (row .u8 32 (a)).toArray),(.agg (row .u8 32 (b)).toArray)] w fun e w'=>e=.returned (.int .i64 (ekd a b))∧Mm w0 ((Q,stc (skd s a b))::l) w'∧Off [Q] w w':=by
 have hQw:=M.lt mS; have hwz:=xnR w.heap.size; have OF:=Off.refl [Q] w
 go_enter Tryz.func40,Tryz.ntmps40
 go_upto_region 0 with fail; refine wR ?_; refine nbO (row .u8 32 a) 23 M hwz OF ?_; clear M hwz OF; intro w1 B1 hB_B1 M hwz OF
 refine nbO (row .u8 32 b) 23 M hwz OF ?_; clear M hwz OF; intro w2 B2 hB_B2 M hwz OF
 refine xmL (xT ?_); go_upto_region 1 with fail; refine wR (xaL (.agg (row .u8 32 a).toArray) (jD 23 _ ⟨B1,0,none⟩ (row .u8 32 a) rfl rfl JW JH (M.part (mT _ mS) 0 _ Jd)) ?_)
 refine xaL (.agg (row .u8 32 b).toArray) (jD 23 _ ⟨B2,0,none⟩ (row .u8 32 b) rfl rfl JW JH (M.part mS 0 _ Jd)) ?_; refine clO (cP a b ha hb _) M hwz OF ?_; clear M hwz OF; intro w3 M hwz OF
 refine xm3 ?_; refine nbO (row .u8 32 (fun _=>0)) 23 M hwz OF ?_; clear M hwz OF; intro w4 B4 hB_B4 M hwz OF
 refine jG rfl (jC (row .u8 32 (bl (lby (tm a b)))) B4 0 23 _ _ rfl rfl rfl (M.thereP mS 0 32 (nB rfl)) JU (jT .u8 32 (bl (lby (tm a b))))) ?_; simp only [Act.put]; replace M:=M.setAll (row .u8 32 (bl (lby (tm a b)))) Jg
 replace hwz:=xnT hwz (Off.size ((Off.refl [B4] _).setAll (b:=B4) mS 0 (row .u8 32 (bl (lby (tm a b)))))); replace OF:=OF.and1 ((Off.refl [B4] _).setAll (b:=B4) mS 0 (row .u8 32 (bl (lby (tm a b))))) (.inr JK); generalize w4.setCells B4 0 (row .u8 32 (bl (lby (tm a b))))=w5 at M hwz OF ⊢; refine xmL (xT ?_)
 by_cases h0:tm a b=0
 · replace h0:=show Hid _ from h0
   go_upto_region 2 with fail; refine wR (xmL ?_); refine xaL (.bool false) (kS .i64 _ _ _ _ _ _ rfl rfl rfl false (by unfold ekd; rw [if_pos h0.out]; rfl) _) (xT ?_); go_upto_region 4 with fail; refine wR (xm2 ?_); refine xT ?_; have hA:=show Hid _ from (show skd s a b=s from if_pos h0.out); replace M:=M.rot4; replace M:=M.sub ((Q,stc s)::l) (List.cons_sublist_cons.2 (List.Sublist.cons _ (List.Sublist.cons _ (List.Sublist.cons _ (List.Sublist.refl _))))); have HS:=show Hid _ from (And.intro M OF); clear M OF; clear h0; go_wp2; go_ret
   exact ⟨rfl,by rw [hA.out]; exact HS.out.1,HS.out.2⟩
 replace h0:=show Hid _ from h0
 go_upto_region 2 with fail; refine wR (xmL ?_); refine xaL (.bool true) (kS .i64 _ _ _ _ _ _ rfl rfl rfl true (by unfold ekd; rw [if_neg h0.out]; rfl) _) (xT ?_); go_upto_region 3 with fail; refine wR (xmL ?_)
 refine xaL (.slice (some ⟨B4,0,none⟩) 32 32) (yR 23 _ _ _ rfl rfl JU) ?_; replace M:=M.rot4
 refine xcL (x2a w0 _ Q _ s hw (some ⟨B4,0,none⟩) 32 (tm a b) Jq M (M.srcA (mT _ mS) 0 32 (bl (lby (tm a b))) Jd [Q] Yl)) ?_
 rintro e w6 ⟨rfl,M',o1⟩; clear M; have M:=M'; clear M'; replace hwz:=xnT hwz (Off.size o1); replace OF:=OF.and1 o1 (.inl Jf); clear o1; refine xeL (xT ?_); go_upto_region 4 with fail; refine wR (xm2 ?_); refine xT ?_
 have hA:=show Hid _ from (show skd s a b=jZ s (lby (tm a b)) from if_neg h0.out); replace M:=M.sub ((Q,stc (jZ s (lby (tm a b))))::l) (List.cons_sublist_cons.2 (List.Sublist.cons _ (List.Sublist.cons _ (List.Sublist.cons _ (List.Sublist.refl _))))); have HS:=show Hid _ from (And.intro M OF); clear M OF; clear h0; go_wp2; go_ret
 exact ⟨rfl,by rw [hA.out]; exact HS.out.1,HS.out.2⟩
section
section
variable {P:Program} {md:Region.Mode} {ops:Array Oper} {Q:Exit→Act→World→Prop} {S:World→Prop}
theorem x7b {i:Nat} {oi:Oper} (dst:Option Tmp) (hdst:oi.dst=dst) {K:Act→World→Prop} {a:Act} {w w':World} (v:Value) (hi:ops[i]?=some oi) (hw:Region.wanted oi (yielded ops a.tmps)=true)
 (he:(execOp a.eval oi).run P w=.ok (.value v) w') (h:K (a.put dst v) w'):wpOp P ops Q i K a w:=by
 unfold wpOp
 simp only [hi,hw,if_true]; refine .inl ?_
 unfold Oper.wp
 rw [he]
 subst hdst
 exact h
theorem pY {i:Nat} {oi:Oper} (dst:Option Tmp) (hdst:oi.dst=dst) {fuel:Nat} {listed:Array Bool} {a:Act} {w w':World} (v:Value) (hr:Region.ready md ops listed=[i]) (hi:ops[i]?=some oi) (hw:Region.wanted oi (yielded ops a.tmps)=true)
 (he:(execOp a.eval oi).run P w=.ok (.value v) w') (hS:S w') (h:wpAnyH P md ops Q S fuel (listed.setIfInBounds i true) (a.put dst v) w'):wpAnyH P md ops Q S (fuel+1) listed a w :=
 ⟨fun h0=>Vh,fun j hj=>by
  rw [hr] at hj
  obtain rfl:=xm1 hj
  exact x7b dst hdst v hi hw he ⟨hS,h⟩⟩
end
end
def ov (z:Nat→Int) (j:Nat):Nat→Int:=fun i=>if i<j then z i else 0
theorem x1z (z:Nat→Int) (n j:Nat) (hj:j<n):(row .u8 n (ov z j)).set j (.int .u8 (z j))=row .u8 n (ov z (j+1)):=by
 apply List.ext_getElem?
 intro i
 by_cases hi:j=i
 · subst hi; rw [List.getElem?_set_self (by rw [jX]; exact hj),xG _ _ _ _ hj]; unfold ov; rw [if_pos (Nat.lt_succ_self j)]
 rw [List.getElem?_set_ne hi]
 by_cases hn:i<n
 · rw [xG _ _ _ _ hn,xG _ _ _ _ hn]; unfold ov; by_cases h:i<j
   · rw [if_pos h,if_pos JK]
   rw [if_neg h,if_neg JK]
 rw [List.getElem?_eq_none KV,List.getElem?_eq_none KV]
theorem bE (sp:Option Addr) (len cap:Nat) (z:Nat→Int) (h32:32≤len) (w:World) (hs:Src w sp len z) :
 Calls Tryz.prog 42 #[.slice sp len cap] w fun e w'=>e=.returned (.agg (row .u8 32 (z)).toArray)∧Below w.heap.size w w':=by
 obtain ⟨ad,rfl,_⟩:=hs 0 JK
 have hwz:=xnR w.heap.size; have M:=Mm.init w
 go_enter Tryz.func42,Tryz.ntmps42
 go_upto_region 0 with fail; refine wR ?_; refine nbN (row .u8 32 (fun _=>0)) 23 M hwz ?_; clear M hwz; intro w1 B1 hB_B1 M hwz
 refine xT ?_; go_upto_region 1 with fail; refine wR (xpL (.agg (row .u8 32 (fun _=>0)).toArray) ?_); refine nbN (row .u8 32 (fun _=>0)) 23 M hwz ?_; clear M hwz; intro w2 B2 hB_B2 M hwz
 refine jG rfl (jC (row .u8 32 (fun _=>0)) B2 0 23 _ _ rfl rfl rfl (M.thereP mS 0 32 (nB rfl)) JU (jT .u8 32 (fun _=>0))) ?_; simp only [Act.put]; replace M:=M.setAll (row .u8 32 (fun _=>0)) Jg
 replace hwz:=xnT hwz (Off.size ((Off.refl [B2] _).setAll (b:=B2) mS 0 (row .u8 32 (fun _=>0)))); generalize w2.setCells B2 0 (row .u8 32 (fun _=>0))=w3 at M hwz ⊢; refine xT ?_; go_upto_region 2 with fail; refine wR (xmL ?_); refine xT ?_; have HI:=show Hid _ from (show Mm w ([(B2,row .u8 32 (ov z 0)),(B1,row .u8 32 (fun _=>0))]) w3 from M)
 clear M hwz; go_wp2
 go_loopw [4] (fun i w'=>∃ j:Nat,j≤32∧i=.int .i64 (j:Int)∧Mm w ([(B2,row .u8 32 (ov z j)),(B1,row .u8 32 (fun _=>0))]) w') (fun i _=>32-(intOf i).toNat)
 case atStart=>exact ⟨0,Nat.zero_le _,rfl,HI.out⟩
 case round =>
  clear HI; obtain ⟨j,hj,rfl,M⟩:=hrel; by_cases hlt:j<32
  · go_upto_region 3 with fail; refine wR (xmL ?_); refine xaL (.bool true) (gP .i64 _ _ _ _ _ _ rfl rfl rfl true (decide_eq_true JK) _) (xT ?_); go_upto_region 5 with fail; refine wR (xm3 ?_); refine xaL (.pointer (some (ad.add j))) (mX 32 5 len cap .i64 ad j _ _ Tryz.underlying32 JW JK rfl rfl rfl _) ?_; refine xaL _ (qL 5 _ (ad.add j) _ rfl rfl JW ((hs.below M.below (xnR _)).at j JK)) ?_; refine xaL (.pointer (some ⟨B2,0+j,none⟩)) (uD 23 5 32 .i64 B2 0 j _ _ Tryz.underlying23 JW hlt rfl rfl rfl _) ?_; have hj32:j<(row .u8 32 (ov z j)).length:=by rw [jX]; exact hlt
    rw [nZ]; refine jG rfl (xR (.int .u8 (z j)) B2 j 5 _ _ rfl rfl rfl rfl rfl (M.isSome mS j hj32) (M.free mS j hj32) JU) ?_; simp only [Act.put]; replace M:=M.set j hj32 (.int .u8 (z j)); rw [x1z z 32 j hlt] at M; clear hj32; generalize wr.setCell ⟨B2,j,none⟩ (.int .u8 (z j))=w4 at M ⊢; refine xT ?_; have HS:=show Hid _ from M; clear M; exact Qp
  obtain rfl:j=32:=by omega
  go_upto_region 3 with fail; refine wR (xmL ?_); refine xaL (.bool false) (gP .i64 _ _ _ _ _ _ rfl rfl rfl false JG _) (xT ?_); have ez:row .u8 32 (ov z 32)=row .u8 32 z:=yV .u8 32 fun i hi=>if_pos hi
  rw [ez] at M; clear ez; go_upto_region 6 with fail; refine wR (xaL (.agg (row .u8 32 z).toArray) (jD 23 _ ⟨B2,0,none⟩ (row .u8 32 z) rfl rfl JW JH (M.part mS 0 _ Jd)) ?_); replace M:=M.swap; refine jG rfl (jC (row .u8 32 z) B1 0 23 _ _ rfl rfl rfl (M.thereP mS 0 32 (nB rfl)) JU (jT .u8 32 z)) ?_; simp only [Act.put]; replace M:=M.setAll (row .u8 32 z) Jg; generalize wr.setCells B1 0 (row .u8 32 z)=w5 at M  ⊢; refine xT ?_; have c1_:=M.part mS 0 (row .u8 32 z) Jd; have hbel:=M.below; clear M; go_wp2; refine bRq (v:=(.agg (row .u8 32 (z)).toArray)) (rL 2 23 ⟨B1,0,none⟩ (row .u8 32 z) rfl rfl JW JH c1_) rfl ?_; exact ⟨rfl,hbel⟩
def shc (s:Shk) (Q:Nat):List Value:=[[.int .i64 (s.role:Int)],[.int .i64 (s.step:Int)],row .u8 32 s.sec,row .u8 32 s.drw,row .u8 32 (bl s.its),row .u8 32 (bl s.drn),[.pointer (some ⟨Q,0,none⟩)]].flatten
theorem dF (w0 w:World) (R:Nat) (l:List (Nat × List Value)) (s:Sym) (hw:In 256 32 s.h) (sp:Option Addr) (cap:Nat) (b:List Int) (hl:b.length=32) (hb:Byts b) (hnil:sp=none→cap=0) (M:Mm w0 ((R,stc s)::l) w) (hs:SrcA [R] w sp 32 (bl b)) :
 Calls Tryz.prog 38 #[.pointer (some ⟨R,0,none⟩),.slice sp 32 cap] w fun e w'=>e=.returned (.tuple #[])∧Mm w0 ((R,stc (jU s b))::l) w'∧Off [R] w w':=by
 have:=mB w0 w R l s hw sp cap b WW hnil hb M WY
 rw [hl] at this
 exact this
theorem cY (w0 w:World) (l:List (Nat × List Value)) (a d:Nat→Int) (B:List Int) (hB:B.length=32) (hBb:Byts B) (M:Mm w0 l w) :
 Calls Tryz.prog 21 #[(.agg (row .u8 32 (a)).toArray),(.agg (row .u8 32 (d)).toArray),(.agg (row .u8 32 (bl B)).toArray)] w fun e w'=>∃ R Q,e=.returned (.pointer (some ⟨R,0,none⟩))∧w.heap.size≤R∧w.heap.size≤Q∧Mm w0 ((R,shc (qS a d B) Q)::(Q,stc (qS a d B).st)::l) w'∧Below w.heap.size w w':=by
 have hb0:=M.below; have hwz:=xnR w.heap.size; have OF:=Off.refl [] w
 go_enter Tryz.func21,Tryz.ntmps21
 go_upto_region 0 with fail; refine wR ?_; refine nbO (row .u8 32 a) 23 M hwz OF ?_; clear M hwz OF; intro w1 B1 hB_B1 M hwz OF
 refine nbO (row .u8 32 d) 23 M hwz OF ?_; clear M hwz OF; intro w2 B2 hB_B2 M hwz OF
 refine nbO (row .u8 32 (bl B)) 23 M hwz OF ?_; clear M hwz OF; intro w3 B3 hB_B3 M hwz OF
 refine xmL (xT ?_); go_upto_region 1 with fail; refine hdG M ?_; clear M; intro M; have hdr:=(Below.refl w3.heap.size w3).drew; replace hwz:=xnT hwz hdr.size; replace OF:=OF.below hdr; clear hdr
 generalize w3.drew=w4 at M hwz OF ⊢; refine xrH 0 8 rfl (.agg (row .u8 32 a).toArray) Kv M ?_
 refine xrH 1 9 rfl (.agg (row .u8 32 d).toArray) Kw M ?_
 refine xrH 2 10 rfl (.agg (row .u8 32 (bl B)).toArray) Vm M ?_; have MH:=M; refine yaH 3 11 (j3c w0 _ _ M) ?_
 rintro e w5 ⟨B5,rfl,hq_,M',l⟩; have hB_B5:=xnT hwz hq_; clear M hq_; have M:=M'; clear M'; replace MH:=MH.call l; replace hwz:=xnT hwz l.size; replace OF:=OF.below l; clear l
 refine ⟨_,rfl,MH,nH ?_⟩
 refine xrH 4 12 rfl (.agg (kf7 0 0 a d (bl B) (fun _=>0) B5).toArray) (fun _ MH=>JU) MH ?_
 have hlb:=(Below.refl w5.heap.size w5).alloc (xnR _) (.cells (kf7 0 0 a d (bl B) (fun _=>0) B5).toArray 64); replace MH:=MH.call hlb; refine pY (i:=5) (some 13) rfl (.pointer (some ⟨w5.heap.size,0,none⟩)) JU rfl rfl JU MH (nH ?_)
 have hB_:=hwz; replace hwz:=xnT hwz hlb.size; replace OF:=OF.below hlb; replace M:=M.box (kf7 0 0 a d (bl B) (fun _=>0) B5).toArray 64 w5.heap.size rfl; clear hlb
 generalize w5.alloc (.cells (kf7 0 0 a d (bl B) (fun _=>0) B5).toArray 64)=w6 at M MH hwz OF ⊢; generalize eB_:w5.heap.size=B6 at M ⊢
 have hB_B6:w.heap.size≤B6:=by rw [← eB_]; exact hB_
 clear hB_ eB_
 refine xmH 6 7 MH ?_
 refine wE JU ?_ _
 first | show Exit.then _ _ _ _ _ | show Exit.inBlock _ _ _ _ _
 replace M:=M.swap; go_upto_region 2 with fail; refine hdE M hwz OF ?_; clear M hwz OF; intro w7 M hwz OF; refine xmH 0 14 ⟨_,M⟩ ?_; refine xrH 1 15 rfl (.pointer (some ⟨B6,0,none⟩)) (fun _ ⟨_,M⟩=>JU) ⟨_,M⟩ ?_
 refine xrH 2 16 rfl (.pointer (some ⟨B6,130,none⟩)) (fun _ ⟨_,M⟩=>JU) ⟨_,M⟩ ?_; refine xrH 3 17 rfl _ (fun _ ⟨_,M⟩=>qL 62 _ _ _ rfl rfl JW (M.get (mT _ mS) 130 _ (xV _ [1,1,32,32,32,32,1] YH 6 130 _ rfl rfl))) ⟨_,M⟩ ?_
 refine xrH 4 18 rfl (.slice (some ⟨B3,0,none⟩) 32 32) Yi ⟨_,M⟩ ?_
 refine yaH 5 19 (dF w0 _ B5 _ uS snew_w.h (some ⟨B3,0,none⟩) 32 B hB hBb Jq M (M.srcA (mI 2 rfl) 0 32 (bl B) Jd [B5] UU)) ?_
 rintro e w8 ⟨rfl,M',o1⟩; clear M; have M:=M'; clear M'; replace hwz:=xnT hwz (Off.size o1); replace OF:=OF.and1 o1 (.inr JK); clear o1
 refine ⟨_,rfl,⟨_,M⟩,nH ?_⟩
 refine wE JU ?_ _
 first | show Exit.then _ _ _ _ _ | show Exit.inBlock _ _ _ _ _
 go_upto_region 3 with fail; refine wR (xm2 ?_); refine xT ?_; replace M:=M.swap
 replace M:Mm w0 ((B6,kf7 0 0 a d (bl B) (fun _=>0) B5)::(B5,stc (jU uS B))::l) w8:=M.sub _ (List.cons_sublist_cons.2 (List.cons_sublist_cons.2 (List.Sublist.cons _ (List.Sublist.cons _ (List.Sublist.cons _ (List.Sublist.refl _))))))
 have hbel:Below w.heap.size w w8:=⟨M.below.os.trans hb0.os.symm,M.below.tape.trans hb0.tape.symm,M.below.output.trans hb0.output.symm,OF.size,fun b hb=>OF.blk b hb VZ⟩
 have HS:=show Hid _ from (And.intro hB_B6 (And.intro hB_B5 (And.intro M hbel))); clear M OF hbel hB_B6 hB_B5; go_wp2; go_ret
 first | exact ⟨B6,B5,rfl,HS.out⟩ | exact ⟨B6,rfl,HS.out.1,B5,HS.out.2⟩
theorem cZ (w0 w:World) (l:List (Nat × List Value)) (b f:Nat→Int) (hb:In 256 32 b) (M:Mm w0 l w) :
 Calls Tryz.prog 22 #[(.agg (row .u8 32 (b)).toArray),(.agg (row .u8 32 (f)).toArray)] w fun e w'=>∃ R Q,e=.returned (.pointer (some ⟨R,0,none⟩))∧w.heap.size≤R∧w.heap.size≤Q∧Mm w0 ((R,shc (yS LD b f) Q)::(Q,stc (yS LD b f).st)::l) w'∧Below w.heap.size w w':=by
 have hb0:=M.below; have hwz:=xnR w.heap.size; have OF:=Off.refl [] w
 go_enter Tryz.func22,Tryz.ntmps22
 go_upto_region 0 with fail; refine wR ?_; refine nbO (row .u8 32 b) 23 M hwz OF ?_; clear M hwz OF; intro w1 B1 hB_B1 M hwz OF
 refine nbO (row .u8 32 f) 23 M hwz OF ?_; clear M hwz OF; intro w2 B2 hB_B2 M hwz OF
 refine xmL (xT ?_); go_upto_region 1 with fail; refine hdG M ?_; clear M; intro M; have hdr:=(Below.refl w2.heap.size w2).drew; replace hwz:=xnT hwz hdr.size; replace OF:=OF.below hdr; clear hdr; generalize w2.drew=w3 at M hwz OF ⊢
 refine xrH 0 7 rfl (.agg (row .u8 32 b).toArray) (fun _ M=>jD 23 _ ⟨B1,0,none⟩ (row .u8 32 b) rfl rfl JW JH (M.part (mT _ mS) 0 _ Jd)) M ?_
 refine xrH 1 8 rfl (.agg (row .u8 32 f).toArray) (fun _ M=>jD 23 _ ⟨B2,0,none⟩ (row .u8 32 f) rfl rfl JW JH (M.part mS 0 _ Jd)) M ?_; have MH:=M; refine yaH 2 9 (j3c w0 _ _ M) ?_; rintro e w4 ⟨B4,rfl,hq_,M',l⟩
 have hB_B4:=xnT hwz hq_; clear M hq_; have M:=M'; clear M'; replace MH:=MH.call l; replace hwz:=xnT hwz l.size; replace OF:=OF.below l; clear l
 refine ⟨_,rfl,MH,nH ?_⟩
 refine xrH 3 10 rfl (.agg (kf7 1 0 b f (fun _=>0) (fun _=>0) B4).toArray) (fun _ MH=>JU) MH ?_
 have hlb:=(Below.refl w4.heap.size w4).alloc (xnR _) (.cells (kf7 1 0 b f (fun _=>0) (fun _=>0) B4).toArray 64); replace MH:=MH.call hlb; refine pY (i:=4) (some 11) rfl (.pointer (some ⟨w4.heap.size,0,none⟩)) JU rfl rfl JU MH (nH ?_)
 have hB_:=hwz; replace hwz:=xnT hwz hlb.size; replace OF:=OF.below hlb; replace M:=M.box (kf7 1 0 b f (fun _=>0) (fun _=>0) B4).toArray 64 w4.heap.size rfl; clear hlb
 generalize w4.alloc (.cells (kf7 1 0 b f (fun _=>0) (fun _=>0) B4).toArray 64)=w5 at M MH hwz OF ⊢; generalize eB_:w4.heap.size=B5 at M ⊢
 have hB_B5:w.heap.size≤B5:=by rw [← eB_]; exact hB_
 clear hB_ eB_
 refine xmH 5 5 MH ?_
 refine wE JU ?_ _
 first | show Exit.then _ _ _ _ _ | show Exit.inBlock _ _ _ _ _
 go_upto_region 2 with fail; refine wR (xaL (.agg (row .u8 32 b).toArray) (jD 23 _ ⟨B1,0,none⟩ (row .u8 32 b) rfl rfl JW JH (M.part (mI 3 rfl) 0 _ Jd)) ?_); refine clO (uV b hb _) M hwz OF ?_; clear M hwz OF; intro w6 M hwz OF; refine nbO (row .u8 32 (fun _=>0)) 23 M hwz OF ?_; clear M hwz OF; intro w7 B7 hB_B7 M hwz OF
 refine jG rfl (jC (row .u8 32 (bl (LD.pub b))) B7 0 23 _ _ rfl rfl rfl (M.thereP mS 0 32 (nB rfl)) JU (jT .u8 32 (bl (LD.pub b)))) ?_; simp only [Act.put]; replace M:=M.setAll (row .u8 32 (bl (LD.pub b))) Jg
 replace hwz:=xnT hwz (Off.size ((Off.refl [B7] _).setAll (b:=B7) mS 0 (row .u8 32 (bl (LD.pub b))))); replace OF:=OF.and1 ((Off.refl [B7] _).setAll (b:=B7) mS 0 (row .u8 32 (bl (LD.pub b)))) (.inr JK); generalize w7.setCells B7 0 (row .u8 32 (bl (LD.pub b)))=w8 at M hwz OF ⊢; refine xT ?_; replace M:=M.rot3; go_upto_region 3 with fail
 refine hdE M hwz OF ?_; clear M hwz OF; intro w9 M hwz OF; refine xmH 0 14 ⟨_,M⟩ ?_; refine xrH 1 15 rfl (.pointer (some ⟨B5,0,none⟩)) (fun _ ⟨_,M⟩=>JU) ⟨_,M⟩ ?_
 refine xrH 2 16 rfl (.pointer (some ⟨B5,130,none⟩)) (fun _ ⟨_,M⟩=>JU) ⟨_,M⟩ ?_; refine xrH 3 17 rfl _ (fun _ ⟨_,M⟩=>qL 62 _ _ _ rfl rfl JW (M.get (mI 2 rfl) 130 _ (xV _ [1,1,32,32,32,32,1] YH 6 130 _ rfl rfl))) ⟨_,M⟩ ?_
 refine xrH 4 18 rfl (.slice (some ⟨B7,0,none⟩) 32 32) Yi ⟨_,M⟩ ?_
 refine yaH 5 19 (dF w0 _ B4 _ uS snew_w.h (some ⟨B7,0,none⟩) 32 (LD.pub b) (yU b) (uJ b) Jq M (M.srcA (mT _ mS) 0 32 (bl (LD.pub b)) Jd [B4] Yl)) ?_
 rintro e w10 ⟨rfl,M',o1⟩; clear M; have M:=M'; clear M'; replace hwz:=xnT hwz (Off.size o1); replace OF:=OF.and1 o1 (.inr JK); clear o1
 refine ⟨_,rfl,⟨_,M⟩,nH ?_⟩
 refine wE JU ?_ _
 first | show Exit.then _ _ _ _ _ | show Exit.inBlock _ _ _ _ _
 go_upto_region 4 with fail; refine wR (xm2 ?_); refine xT ?_; replace M:=M.rot3
 replace M:Mm w0 ((B5,kf7 1 0 b f (fun _=>0) (fun _=>0) B4)::(B4,stc (jU uS (LD.pub b)))::l) w10:=M.sub _ (List.cons_sublist_cons.2 (List.cons_sublist_cons.2 (List.Sublist.cons _ (List.Sublist.cons _ (List.Sublist.cons _ (List.Sublist.refl _))))))
 have hbel:Below w.heap.size w w10:=⟨M.below.os.trans hb0.os.symm,M.below.tape.trans hb0.tape.symm,M.below.output.trans hb0.output.symm,OF.size,fun b hb=>OF.blk b hb VZ⟩
 have HS:=show Hid _ from (And.intro hB_B5 (And.intro hB_B4 (And.intro M hbel))); clear M OF hbel hB_B5 hB_B4; go_wp2; go_ret
 first | exact ⟨B5,B4,rfl,HS.out⟩ | exact ⟨B5,rfl,HS.out.1,B4,HS.out.2⟩
end Go.Proofs.YtknodlefhclijaaGreatDoor
